import PyProof.Rows.All
import Wide.All
import OpenK.AllK
import Wide.FinOn
import HandS.ForMost
import HandS.Conv
import HandS.Rev
import HandS.RevTup
import HandS.Wide
import HandS.IsInst
import HandS.Codes
import HandS.Comp
import HandS.HotCalls
import HandS.ExcInit
import HandS.ExcInitHot
import HandS.ExcField
import HandS.SuiteRaise
import KE.KExcIs
import PyProof.ContainsOpen
import HandS.OwnEq
import HandS.Property
import HandS.Defaults
import OpenK.KOps
import HandS.ExcOwn
import KE.KStateDown
import HandS.HeadHook1
import HandS.HeadHook2
import HandS.Head0
import HandS.Head1
import HandS.Head2
import HandS.HeadEnd
import HandS.MakeKwOnly
import HandS.ExcCtx
import HandS.Walk
import HandS.Text
import PyProof.StrLawsJoin
import PyProof.StrBlock2
import PyProof.Rows.StrMul
import HandS.Style
import HandS.Small
import PyProof.DictUpdate
import PyProof.EqKinds
import PyProof.Rows.StrJoinRep
import HandS.Deep
import HandS.NoneIn
import HandS.DictComp
import HandS.WideBits
import HandS.SetKeys
import HandS.SortRule
import KE.KSortTupAny
import HandS.ListItems
import HandS.Flt
import PyProof.Rows.SortShellAny
import PySem.Challenge.RW_keptjoined_k09_shortest_way
set_option Elab.async false
set_option linter.all false
set_option maxRecDepth 100000
set_option maxHeartbeats 4000000
namespace LRev
open PySem RT
section
variable {prog : Program} {w : World} {A : Around} {E : Value → Shared → Prop} {s : Shared} {it l S : Addr} {items : Array Value}
/-- what a filled list tells -/
abbrev Back (items : Array Value) : Nat → Value → Prop := fun i v => items[items.size - 1 - i]? = some v
abbrev After (s : Shared) (S it : Addr) (items : Array Value) (K : Heap → Nat → Array Value → Prop) : Prop :=
  ∀ (g : Heap) (tk : Nat) (out : Array Value) (cap : Nat), (∀ b o, b ≠ S → b ≠ it → s.heap.get? b = some o → g.get? b = some o) →
    g.get? S = some { cls := .type "list", dict := none, data := .seq out cap, slots := #[] } →
      ItemsOf (Back items) out items.size → K g tk out
abbrev OutOf (prog : Program) (w : World) (A : Around) (R : Result → Shared → Prop) : Fin → Shared → Prop := fun fin t =>
  match fin with
  | .done f => R (.ok f) t
  | .again k => k.quiet = true ∧ codeAny (model prog w) A k R t
theorem extend {R : Result → Shared → Prop} (hh : A.handled = none) (hit : s.heap.IsRevIter it l ((items.size : Int) - 1)) (hl : s.heap.IsList l items)
    (hne : l ≠ it) (hz : items.size ≤ sizeLine) (hSi : S ≠ it) (hSl : S ≠ l) (res : Value) (c0 : Nat)
    (hS : s.heap.get? S = some { cls := .type "list", data := .seq #[] c0 })
    (k : After s S it items fun g tk _ => R (.ok (.ret res)) { s with heap := g, toks := tk }) :
    wpAny (model prog w) A.in1 (Builtin.List.listExtendWith (.ref S) (.ref it) res) (OutOf prog w A R) (fun e t => R (.error e) t) s := by
  have W := (Walks.listRev (prog := prog) (w := w) (A := A.in1) hh it l hne items).toS
  have out : S ∉ [it, l] := by
    simp only [List.mem_cons, List.not_mem_nil, or_false, not_or]
    exact ⟨hSi, hSl⟩
  have ty : s.TypeIs (.ref it) "list_reverseiterator" := hit.typeIs
  have other : Builtin.List.listSameRef (.ref S) (.ref it) = false := by simp [Builtin.List.listSameRef, hSi]
  unfold Builtin.List.listExtendWith
  refine wpAny_bind (wpAny_typeOf ty ?_)
  rw [if_neg (by rw [other]; decide)]
  refine wpAny_bind (wpAny_pyIter_revIter hit ?_)
  refine wpAny_bind (wpAny_holding ?_)
  unfold Builtin.List.listLengthHint
  refine wpAny_bind (wpAny_specialOf ty nolen_lri ?_)
  show wpAny _ A.in1 (specialOf (Value.ref it) (Str.ofString "__length_hint__") >>= _) _ _ _
  refine wpAny_bind (wpAny_specialOf ty hint_lri ?_)
  generalize nm : ("list_reverseiterator.__length_hint__" : String) = at0
  wp_delta
  rw [show splitId at0 = some ("list_reverseiterator", "__length_hint__") from by subst nm; decide +kernel]
  subst nm
  refine wpAny_bind (wpAny_isInstance (b := true) ty (by rw [isSubtype_type]; kernel_rfl) ?_)
  refine wpAny_pure ?_
  rw [if_neg (by decide)]
  have at1 : ((items.size : Nat) : Int) - 1 - ((0 : Nat) : Int) = (items.size : Int) - 1 := by omega
  refine wpAny_pure ⟨plainId_quiet F.plain_extend_loop _, ?_⟩
  refine codeAny_extend_loopS W hz _ out _ items.size 0 _ _ _ rfl (Nat.zero_le _) ⟨Nat.zero_le _, by rw [at1]; exact hit, hl⟩ hS (ItemsOf.nil _) fun t got cap mv ht hi => ?_
  rw [Moved.eq_with mv]
  refine k t.heap t.toks got cap (fun b o n1 n2 e => mv.heap b o (fun hm => ?_) e) ht hi
  rcases List.mem_cons.mp hm with e1 | hm
  · exact n1 e1
  · exact n2 (List.mem_singleton.mp hm)
theorem init {R : Result → Shared → Prop} (hh : A.handled = none) (hit : s.heap.IsRevIter it l ((items.size : Int) - 1)) (hl : s.heap.IsList l items)
    (hne : l ≠ it) (hz : items.size ≤ sizeLine) (hSi : S ≠ it) (hSl : S ≠ l) (hS : s.heap.get? S = some { cls := .type "list", data := .seq #[] })
    (k : After s S it items fun g tk _ => R (.ok (.ret .none)) { s with heap := g, toks := tk }) :
    wpAny (model prog w) A.in1 (Builtin.«list.__init__» ⟨[.ref S, .ref it], []⟩) (OutOf prog w A R) (fun e t => R (.error e) t) s := by
  show wpAny _ _ (Builtin.List.listItems (.ref S) >>= fun old => Builtin.List.listUpdate (.ref S) (fun _ => #[]) >>= fun _ => letGo old.toList.reverse >>= fun _ => Builtin.List.listExtendWith (.ref S) (.ref it) .none) _ _ s
  refine wpAny_bind ?_
  unfold Builtin.List.listItems
  refine wpAny_bind (wpAny_seqItems hS rfl (wpAny_pure ?_))
  show wpAny _ _ (updateSeq S (fun _ => #[]) >>= fun _ => (letGo (#[] : Array Value).toList.reverse >>= fun _ => Builtin.List.listExtendWith (.ref S) (.ref it) .none)) _ _ s
  refine wpAny_bind (wpAny_updateSeq hS rfl ?_)
  have hS2 := Heap.get?_update_self (Obj.mapSeq fun _ => (#[] : Array Value)) hS rfl
  have oth : ∀ b o, b ≠ S → s.heap.get? b = some o → (s.heap.update S (Obj.mapSeq fun _ => (#[] : Array Value))).get? b = some o := fun b o n e =>
    (Heap.get?_update_other _ _ (Ne.symm n)).trans e
  refine wpAny_bind (wpAny_letGo ?_)
  obtain ⟨ol, hol, cl, dl⟩ := id hl
  refine extend hh (hit.at fun o e => oth it o (Ne.symm hSi) e) ⟨ol, oth l ol (Ne.symm hSl) hol, cl, dl⟩ hne hz hSi hSl .none _ hS2 fun g tk got cap hk ht hi => ?_
  exact k g tk got cap (fun b o n1 n2 e => hk b o n1 n2 (oth b o n1 e)) ht hi
theorem callRev {Q : Value → Shared → Prop} (hh : A.handled = none) (hit : s.heap.IsRevIter it l ((items.size : Int) - 1)) (hl : s.heap.IsList l items) (hne : l ≠ it) (hz : items.size ≤ sizeLine)
    (k : ∀ (g : Heap) (tk : Nat) (out : Array Value) (cap : Nat), (∀ b o, b ≠ it → s.heap.get? b = some o → g.get? b = some o) →
      g.get? s.heap.objs.size = some { cls := .type "list", dict := none, data := .seq out cap, slots := #[] } → ItemsOf (Back items) out items.size →
        Q (.ref s.heap.objs.size) { s with heap := g, toks := tk }) :
    wpAny (model prog w) A (call (.type "list") [.ref it]) Q E s := by
  refine callType_codes (Q₁ := fun u t => u = .ref s.heap.objs.size ∧ t = { s with heap := s.heap.push { cls := .type "list", data := .seq #[] } })
    F.called_list (F.typeCall_list_1 _) F.entry_list_init (code_list_new _ ⟨rfl, rfl⟩) fun u t hu => ?_
  obtain ⟨rfl, rfl⟩ := hu
  have hS : (s.heap.push { cls := .type "list", data := .seq #[] }).get? s.heap.objs.size = some { cls := .type "list", data := .seq #[] } := Heap.get?_push_size _ rfl
  obtain ⟨oi, hoi, _⟩ := id hit
  obtain ⟨ol, hol, _⟩ := id hl
  refine ⟨⟨_, hS, rfl⟩, F.args_list_init_2 _ _, init (A := A.in1) hh (hit.at fun o e => Heap.get?_push_of_some _ e) (hl.push _) hne hz (Nat.ne_of_gt (Heap.lt_size hoi)) (Nat.ne_of_gt (Heap.lt_size hol)) hS fun g tk out cap hk hg hi => ?_⟩
  exact ⟨rfl, k g tk out cap (fun b o n e => hk b o (Nat.ne_of_lt (Heap.lt_size e)) n (Heap.get?_push_of_some _ e)) hg hi⟩
end
end LRev
namespace L2
open PySem PySem.Spec PyProof.Rows
/-- list(reversed(x)), x a list -/
def tLstRev (K : PySem.W.Frag) (te : TE) : TE := fun σ H Q => te σ H fun v h => ∃ (a : Addr) (xs : List V), v = .ref a ∧ SqL K h a xs ∧
  ∀ q, h q = none → Q (.ref q) (upd h q (.lst xs.reverse))
theorem pe_lstRev {X : Cx} {e : Expr} {te : TE} {p p2 pos pos2 : Pos} (hc : X.calm = true) (hg : Gl X "list") (hm : X.mg "list" = none) (hg2 : Gl X "reversed") (hm2 : X.mg "reversed" = none) (he : PE X e te)
    (n1 : starEach [e] X.env = (false, eval e X.env) :: starEach [] X.env := by rfl)
    (n2 : starEach [.Call (.Name "reversed" p2) [e] [] pos2] X.env = (false, eval (.Call (.Name "reversed" p2) [e] [] pos2) X.env) :: starEach [] X.env := by rfl) :
    PE X (.Call (.Name "list" p) [.Call (.Name "reversed" p2) [e] [] pos2] [] pos) (tLstRev X.K te) := by
  refine ⟨fun pins s σ H Q I h => ?_⟩
  refine Call_ (ld_blt I hg hm boot_list (PyProof.Rows.callWith_type1 (args_cons (Call_ (ld_blt I hg2 hm2 PyProof.Rows.boot_reversed (PyProof.Rows.callWith_type1
    (args_cons (thn (he.run pins s σ H _ I h) fun u s1 ⟨v, H1, I1, r1, q1⟩ => args_nil ?_) n1) n1 rfl))) n2) n2 rfl))
  obtain ⟨a, xs, rfl, hq, q⟩ := q1
  obtain rfl : u = Value.ref a := r1
  obtain ⟨its, rv, pl, hz⟩ := I1.list hq
  refine call_reversed_list pl.isList (args_nil ?_)
  have k0 : ∀ b o, s1.heap.get? b = some o → (s1.heap.push (revObj a ((its.toArray.size : Int) - 1))).get? b = some o := fun b o z => Heap.get?_push_of_some _ z
  have I2 : Inv X pins σ H1 { s1 with heap := s1.heap.push (revObj a ((its.toArray.size : Int) - 1)) } := I1.kept (t' := s1.toks) k0
  obtain ⟨f0, f1, f2, f3, f4, f5⟩ := I1.fpOk (H' := H1) (b := s1.heap.objs.size) (Nat.le_refl _) (I1.hok.fresh (Nat.le_refl _))
  have hl := pl.isList
  obtain ⟨ol, hol, _⟩ := id hl
  have far : a ≠ s1.heap.objs.size := Nat.ne_of_lt (Heap.lt_size hol)
  have fits : its.toArray.size ≤ sizeLine := by
    rw [List.size_toArray, ← rv.length]
    exact hz
  refine LRev.callRev (s := { s1 with heap := s1.heap.push (revObj a ((its.toArray.size : Int) - 1)) }) (I1.ok.hd hc) ⟨_, Heap.get?_push_size _ rfl, rfl, rfl⟩ (hl.push _) far fits fun g tk out cap hk hg hi => ?_
  have sz : (s1.heap.push (revObj a ((its.toArray.size : Int) - 1))).objs.size = s1.heap.objs.size + 1 := Heap.size_push _ _
  generalize hS : (s1.heap.push (revObj a ((its.toArray.size : Int) - 1))).objs.size = S at hg
  have fr : H1 S = none := I1.hok.fresh (by rw [← hS, sz]; exact Nat.le_succ _)
  have J : Inv X pins σ (upd H1 S (.lst xs.reverse)) { s1 with heap := g, toks := tk } :=
    I1.laid (h' := g) (t' := tk) (fun b o z => hk b o (Nat.ne_of_lt (Heap.lt_size z)) (k0 b o z)) (by rw [← hS, sz]; exact Nat.le_succ _)
      ⟨by rw [List.length_reverse]; exact hz, out.toList, cap, RT.vals_rev rv hi, by rw [Array.toArray_toList]; exact hg⟩
  exact ⟨.ref S, _, J, rfl, q S fr⟩
end L2
namespace Rd
open PySem PySem.Spec PyProof.Rows L2
section
variable {D : Ends} {σ σ' : L2.St} {H : Hp} {Q : VK} {t u : TS} {te ta tb tc : TE} {tt uu : TT} {g : TG} {i : Nat} {v x y z : V} {r r' : R2} {B : Bool → Prop} {ts tr : TA} {n b c : L2.St → Hp → Prop} {rr : VK}
theorem seq (h : t ⟨u ⟨n, rr, b, c⟩, rr, b, c⟩ σ H) : tSeq t u ⟨n, rr, b, c⟩ σ H := h
theorem at0 {N : List Str} {vs : List V} (e : start N vs = σ) (h : t D σ H) : t D (start N vs) H := by
  rw [e]
  exact h
theorem nxt (h : n σ H) : tNext ⟨n, rr, b, c⟩ σ H := h
theorem brk (h : b σ H) : tBreak ⟨n, rr, b, c⟩ σ H := h
theorem cnt (h : c σ H) : tCont ⟨n, rr, b, c⟩ σ H := h
theorem ret (h : te σ H rr) : tRet te ⟨n, rr, b, c⟩ σ H := h
theorem retN (h : rr .non H) : tRetN ⟨n, rr, b, c⟩ σ H := h
theorem drop (h : te σ H fun _ H1 => n σ H1) : tDrop te ⟨n, rr, b, c⟩ σ H := h
theorem ifs (h : tt σ H fun b H1 => if b = true then t D σ H1 else u D σ H1) : tIfS tt t u D σ H := h
theorem asg (h : te σ H fun x H1 => g x σ H1 n) : tAsg te g ⟨n, rr, b, c⟩ σ H := h
theorem gname {P : L2.St → Hp → Prop} (e : σ.set i (some v) = σ') (h : P σ' H) : gName i v σ H P := by
  subst e
  exact h
theorem var (e : σ[i]? = some (some v)) (h : Q v H) : tVar i σ H Q := ⟨v, e, h⟩
theorem con (h : Q v H) : tC v σ H Q := h
theorem op (h : ta σ H fun x H1 => tb σ H1 fun y H2 => r x y H2 Q) : tOp r ta tb σ H Q := h
theorem un {r : V → Hp → VK → Prop} (h : ta σ H fun x H1 => r x H1 Q) : tUn r ta σ H Q := h
theorem test {Q : Bool → Hp → Prop} (h : te σ H fun x H' => ∃ k, x = .bl k ∧ Q k H') : tTest te σ H Q := h
theorem testB {Q : Bool → Hp → Prop} (h : te σ H fun x H' => ∃ k, x = .bl k ∧ Q k H') : tB te σ H Q := h
theorem exbl {P : Bool → Prop} {b : Bool} (h : P b) : ∃ k, V.bl b = V.bl k ∧ P k := ⟨b, rfl, h⟩
theorem and {Q : Bool → Hp → Prop} (h : tt σ H fun c H1 => if c = true then uu σ H1 Q else Q false H1) : tAnd tt uu σ H Q := h
theorem or {Q : Bool → Hp → Prop} (h : tt σ H fun c H1 => if c = true then Q true H1 else uu σ H1 Q) : tOr tt uu σ H Q := h
theorem not {Q : Bool → Hp → Prop} (h : tt σ H fun c H1 => Q (!c) H1) : tNot tt σ H Q := h
theorem andV (h : ta σ H fun x H1 => ∃ c, x = .bl c ∧ if c = true then tb σ H1 Q else Q (.bl false) H1) : tAndV ta tb σ H Q := h
theorem orV (h : ta σ H fun x H1 => ∃ c, x = .bl c ∧ if c = true then Q (.bl true) H1 else tb σ H1 Q) : tOrV ta tb σ H Q := h
theorem notV (h : ta σ H fun x H1 => ∃ c, x = .bl c ∧ Q (.bl (!c)) H1) : tNotV ta σ H Q := h
theorem ife (h : tt σ H fun c H1 => if c = true then ta σ H1 Q else tb σ H1 Q) : tIf tt ta tb σ H Q := h
theorem nil {Q : List V → Hp → Prop} (h : Q [] H) : tNil σ H Q := h
theorem cons {Q : List V → Hp → Prop} (h : te σ H fun x H1 => tr σ H1 fun xs H2 => Q (x :: xs) H2) : tCons te tr σ H Q := h
theorem tup (h : ts σ H fun xs H1 => xs.length ≤ sizeLine ∧ ∀ p, H1 p = none → Q (.ref p) (upd H1 p (.tup xs))) : tTup ts σ H Q := h
theorem lst (h : ts σ H fun xs H1 => xs.length ≤ sizeLine ∧ ∀ p, H1 p = none → Q (.ref p) (upd H1 p (.lst xs))) : tLst ts σ H Q := h
theorem call {sp : Sp} {dvs : List V} {E : XK} (h : ts σ H fun vs H1 => sp (vs ++ dvs) H1 Q E) : tCall sp dvs E ts σ H Q := h
theorem cb {r : List V → Hp → VK → Prop} (h : ts σ H fun vs H1 => r vs H1 Q) : tCB r ts σ H Q := h
theorem chain (h : ta σ H fun x H1 => tb σ H1 fun y H2 => r x y H2 fun z H3 => ∃ k, z = .bl k ∧ (if k = true then tc σ H3 fun w' H4 => r' y w' H4 Q else Q (.bl false) H3)) : tChain r r' ta tb tc σ H Q := h
/-- ints -/
theorem I0 {g : Int → Int → V} {i j : Int} (h : Q (g i j) H) : rI0 g (.int i) (.int j) H Q := ⟨i, j, rfl, rfl, h⟩
theorem I1 {C : Int → Int → Prop} {g : Int → Int → V} {i j : Int} (c : C i j) (h : Q (g i j) H) : rI C g (.int i) (.int j) H Q := ⟨i, j, rfl, rfl, c, h⟩
theorem U1 {g : Int → V} {i : Int} (h : Q (g i) H) : rU g (.int i) H Q := ⟨i, rfl, h⟩
theorem eq (e : scal x y = true) (h : Q (.bl (decide (x = y))) H) : rEq x y H Q := ⟨e, h⟩
theorem ne (e : scal x y = true) (h : Q (.bl (!decide (x = y))) H) : rNe x y H Q := ⟨e, h⟩
/-- tests -/
theorem iteD {p A B : Prop} [Decidable p] (h1 : p → A) (h2 : ¬ p → B) : if decide p = true then A else B := by
  by_cases h : p
  · rw [if_pos (decide_eq_true h)]
    exact h1 h
  · rw [if_neg (by rw [decide_eq_false h]; exact Bool.false_ne_true)]
    exact h2 h
theorem iteN {p A B : Prop} [Decidable p] (h1 : ¬ p → A) (h2 : p → B) : if (!decide p) = true then A else B := by
  by_cases h : p
  · rw [if_neg (by rw [decide_eq_true h]; exact Bool.false_ne_true)]
    exact h2 h
  · rw [if_pos (by rw [decide_eq_false h]; rfl)]
    exact h1 h
theorem iteI {i j : Int} {A B : Prop} (h1 : i = j → A) (h2 : i ≠ j → B) : if decide (V.int i = V.int j) = true then A else B := iteD (fun e => h1 (V.int.inj e)) fun n => h2 fun e => n (by rw [e])
theorem iteNI {i j : Int} {A B : Prop} (h1 : i ≠ j → A) (h2 : i = j → B) : if (!decide (V.int i = V.int j)) = true then A else B := iteN (fun n => h1 fun e => n (by rw [e])) fun e => h2 (V.int.inj e)
theorem iteB {b : Bool} {A B : Prop} (h1 : b = true → A) (h2 : b = false → B) : if b = true then A else B := by
  cases b with
  | true => exact iteT (h1 rfl)
  | false => exact iteF (h2 rfl)
theorem iteNB {b : Bool} {A B : Prop} (h1 : b = false → A) (h2 : b = true → B) : if (!b) = true then A else B := by
  cases b with
  | true => exact iteF (h2 rfl)
  | false => exact iteT (h1 rfl)
theorem rn1 {a : Addr} {A B : Prop} (h : B) : if decide (V.ref a = V.non) = true then A else B := h
theorem in1 {i : Int} {A B : Prop} (h : B) : if decide (V.int i = V.non) = true then A else B := h
theorem sn1 {i : Str} {A B : Prop} (h : B) : if decide (V.str i = V.non) = true then A else B := h
theorem bn1 {i : Bool} {A B : Prop} (h : B) : if decide (V.bl i = V.non) = true then A else B := h
theorem nn1 {A B : Prop} (h : A) : if decide (V.non = V.non) = true then A else B := h
theorem rn2 {a : Addr} {A B : Prop} (h : A) : if (!decide (V.ref a = V.non)) = true then A else B := h
theorem in2 {i : Int} {A B : Prop} (h : A) : if (!decide (V.int i = V.non)) = true then A else B := h
theorem sn2 {i : Str} {A B : Prop} (h : A) : if (!decide (V.str i = V.non)) = true then A else B := h
theorem bn2 {i : Bool} {A B : Prop} (h : A) : if (!decide (V.bl i = V.non)) = true then A else B := h
theorem nn2 {A B : Prop} (h : B) : if (!decide (V.non = V.non)) = true then A else B := h
theorem nt1 {A B : Prop} (h : B) : if (!true) = true then A else B := h
theorem nf1 {A B : Prop} (h : A) : if (!false) = true then A else B := h
theorem skip {c A B : Prop} [Decidable c] (hc : ¬ c) (h : B) : if c then A else B := by
  rw [if_neg hc]
  exact h
end
section
variable {P : Program} {w : World} {K : PySem.W.Frag} {mg : Str → Option Value} {base : Heap}
/-- the def of this name stands as the text says -/
def Def (K : PySem.W.Frag) (mg : Str → Option Value) (x : Str) (st : Stmt) (ps : List Str) : Prop := ∃ f fd, Fun K x x st f fd ∧ mg x = some (.ref f) ∧ Binds K fd ps []
/-- the def of this name keeps this promise -/
def Cal (P : Program) (w : World) (K : PySem.W.Frag) (mg : Str → Option Value) (base : Heap) (k : Nat) (x : Str) (ps : List Str) (sp : Sp) : Prop :=
  ∃ f fd, FnOk P w K mg base CX0 k f fd ps sp ∧ mg x = some (.ref f) ∧ PySem.W.keepIn K (.ref f) = true ∧ Binds K fd ps []
theorem Def.ok {x : Str} {st : Stmt} {ps N : List Str} {k : Nat} {sp : Sp} (F : Def K mg x st ps) (S : FnScope N ps (defScope st)) (len : ∀ vs H Q E, sp vs H Q E → vs.length = ps.length)
    (hbody : ∀ (f : Addr) (cdv : Value) (A : Around) (outer : List Env) (s : Shared) (H : Hp) (vs : List V) (Q : VK) (E : XK), Room k (A.deeper (envOfC x (defScope st) s.heap.objs.size f cdv)) → sp vs H Q E →
      ∃ t, PSs (cxOf CX0 P w K mg base N x (defScope st) f cdv A outer s H E).nox (defBody st) t ∧ t { nx := fun _ H' => Q .non H', rt := Q } (start N vs) H) : Cal P w K mg base (k + 1) x ps sp := by
  obtain ⟨f, fd, F, m, b⟩ := F
  exact ⟨f, fd, F.ok S len (fun cdv A outer s H vs Q E hr h => hbody f cdv A outer s H vs Q E hr h), m, F.kp, b⟩
theorem Cal.mono {x : Str} {ps : List Str} {j k : Nat} {sp : Sp} (C : Cal P w K mg base j x ps sp) (h : j ≤ k) : Cal P w K mg base k x ps sp := by
  obtain ⟨f, fd, F, r⟩ := C
  exact ⟨f, fd, F.mono h, r⟩
theorem Cal.imp {x : Str} {ps : List Str} {k : Nat} {sp sp' : Sp} (C : Cal P w K mg base k x ps sp) (h : ∀ vs H Q E, sp' vs H Q E → sp vs H Q E) : Cal P w K mg base k x ps sp' := by
  obtain ⟨f, fd, F, r⟩ := C
  exact ⟨f, fd, F.imp h, r⟩
end
theorem pe_cal {X : Cx} {e : Expr} {es : List Expr} {t : TA} {p pos : Pos} {j k : Nat} {x : Str} {ps : List Str} {sp : Sp} (C : Cal X.prog X.w X.K X.mg X.base j x ps sp) (hr : Room k X.A) (ha : PA X (e :: es) t) (hk : j ≤ k := by decide) (hg : Gl X x := by rfl)
    (hdb : (x == ("__debug__" : Str)) = false := by decide) (he : starEach (e :: es) X.env = (false, eval e X.env) :: starEach es X.env := by rfl) (hpl : (backTo pos (starEach es X.env)).any (·.1) = false := by rfl) :
    PE X (.Call (.Name x p) (e :: es) [] pos) (tCall sp [] E0 t) := by
  obtain ⟨f, fd, F, m, kp, b⟩ := C
  exact pe_call F (hr.mono hk) hg m kp b .nil pass0 ha hdb he hpl
/-- nothing is promised of a call that is never made -/
theorem Def.none {P : Program} {w : World} {K : PySem.W.Frag} {mg : Str → Option Value} {base : Heap} {x : Str} {st : Stmt} {ps : List Str} (D : Def K mg x st ps) : Cal P w K mg base 0 x ps fun _ _ _ _ => False := by
  obtain ⟨f, fd, F, m, b⟩ := D
  exact ⟨f, fd, ⟨fun _ _ _ _ h => h.elim, fun _ _ _ _ _ _ _ _ _ _ _ _ _ h => h.elim⟩, m, F.kp, b⟩
end Rd
namespace Rd
open PySem PySem.Spec PyProof.Rows L2
def rIntI : List V → Hp → VK → Prop := fun xs H Q => ∃ i, xs = [.int i] ∧ Q (.int i) H
def rIntB : List V → Hp → VK → Prop := fun xs H Q => ∃ k, xs = [.bl k] ∧ Q (.int (if k then 1 else 0)) H
def rLenQ (K : PySem.W.Frag) : List V → Hp → VK → Prop := fun xs H Q => ∃ p ys, xs = [.ref p] ∧ (SqL K H p ys ∨ SqT K H p ys) ∧ Q (.int ys.length) H
def rLenZ : List V → Hp → VK → Prop := fun xs H Q => ∃ z, xs = [.str z] ∧ z.length ≤ sizeLine ∧ Q (.int z.length) H
def rListQ (K : PySem.W.Frag) : List V → Hp → VK → Prop := fun xs H Q => ∃ p ys, xs = [.ref p] ∧ (SqL K H p ys ∨ SqT K H p ys) ∧ ∀ l, H l = none → Q (.ref l) (upd H l (.lst ys))
def rTupQ (K : PySem.W.Frag) : List V → Hp → VK → Prop := fun xs H Q => ∃ p ys, xs = [.ref p] ∧ SqL K H p ys ∧ ∀ l, H l = none → Q (.ref l) (upd H l (.tup ys))
def rMaxQ : List V → Hp → VK → Prop := fun xs H Q => ∃ i j, xs = [.int i, .int j] ∧ Q (.int (if j > i then j else i)) H
def rMinQ : List V → Hp → VK → Prop := fun xs H Q => ∃ i j, xs = [.int i, .int j] ∧ Q (.int (if j < i then j else i)) H
def rAbsQ : List V → Hp → VK → Prop := fun xs H Q => ∃ i, xs = [.int i] ∧ Q (.int (if i < 0 then -i else i)) H
def rAddZ : R2 := fun x y H Q => ∃ i j, x = .str i ∧ y = .str j ∧ i.length + j.length ≤ sizeLine ∧ Q (.str (i ++ j)) H
def rNiZ : R2 := fun x y H Q => ∃ (c : Nat) (z : Str), x = .str ⟨#[c]⟩ ∧ y = .str z ∧ Q (.bl (!decide (c ∈ z.cps.toList))) H
def rLtZ : R2 := fun x y H Q => ∃ i j, x = .str i ∧ y = .str j ∧ Q (.bl (decide (i.cps.toList < j.cps.toList))) H
def rIsN : R2 := fun x y H Q => y = .non ∧ Q (.bl (decide (x = .non))) H
def rNoN : R2 := fun x y H Q => y = .non ∧ Q (.bl (!decide (x = .non))) H
section
variable {X : Cx}
theorem q_intI : CallR X (.type "int") rIntI := fun pins s σ H xs us Q I r h => call_int1 pins s σ H xs us Q I r (.inl h)
theorem q_intB : CallR X (.type "int") rIntB := fun pins s σ H xs us Q I r h => call_int1 pins s σ H xs us Q I r (.inr h)
theorem q_len : CallR X (.builtin "len") (rLenQ X.K) := call_len_seq
theorem q_lenZ : CallR X (.builtin "len") rLenZ := call_len_str
theorem q_list : CallR X (.type "list") (rListQ X.K) := call_list_of
theorem q_min (hc : X.calm = true) : CallR X (.builtin "min") rMinQ := call_min2 hc
theorem o_addZ : OpR X (binaryOp .Add) rAddZ := op_add_str
theorem o_niZ : OpR X (compareOp .NotIn) rNiZ := op_notIn_sign
theorem o_ltZ : OpR X (compareOp .Lt) rLtZ := op_lt_str
theorem o_isN : OpR X (compareOp .Is) rIsN := op_isN
theorem o_noN : OpR X (compareOp .IsNot) rNoN := op_notN
end
section
variable {K : PySem.W.Frag} {D : Ends} {σ σ' : L2.St} {H : Hp} {Q : VK} {to ti te tb : TE} {t : TSet} {v x y : V} {p q : Addr} {xs ys : List V} {i j k : Int} {a b' : Str} {n b c : L2.St → Hp → Prop} {rr : VK}
theorem intI (h : Q (.int i) H) : rIntI [.int i] H Q := ⟨i, rfl, h⟩
theorem intB {c : Bool} (h : Q (.int (if c then 1 else 0)) H) : rIntB [.bl c] H Q := ⟨c, rfl, h⟩
theorem lenQ (h : SqL K H p xs ∨ SqT K H p xs) (g : Q (.int xs.length) H) : rLenQ K [.ref p] H Q := ⟨p, xs, rfl, h, g⟩
theorem lenZ (h : a.length ≤ sizeLine) (g : Q (.int a.length) H) : rLenZ [.str a] H Q := ⟨a, rfl, h, g⟩
theorem listQ (h : SqL K H p xs ∨ SqT K H p xs) (g : ∀ l, H l = none → Q (.ref l) (upd H l (.lst xs))) : rListQ K [.ref p] H Q := ⟨p, xs, rfl, h, g⟩
theorem tupQ (h : SqL K H p xs) (g : ∀ l, H l = none → Q (.ref l) (upd H l (.tup xs))) : rTupQ K [.ref p] H Q := ⟨p, xs, rfl, h, g⟩
theorem maxQ (h : Q (.int (if j > i then j else i)) H) : rMaxQ [.int i, .int j] H Q := ⟨i, j, rfl, h⟩
theorem minQ (h : Q (.int (if j < i then j else i)) H) : rMinQ [.int i, .int j] H Q := ⟨i, j, rfl, h⟩
theorem absQ (h : Q (.int (if i < 0 then -i else i)) H) : rAbsQ [.int i] H Q := ⟨i, rfl, h⟩
theorem addZ (c : a.length + b'.length ≤ sizeLine) (h : Q (.str (a ++ b')) H) : rAddZ (.str a) (.str b') H Q := ⟨a, b', rfl, rfl, c, h⟩
theorem niZ {c : Nat} (h : Q (.bl (!decide (c ∈ a.cps.toList))) H) : rNiZ (.str ⟨#[c]⟩) (.str a) H Q := ⟨c, a, rfl, rfl, h⟩
theorem ltZ (h : Q (.bl (decide (a.cps.toList < b'.cps.toList))) H) : rLtZ (.str a) (.str b') H Q := ⟨a, b', rfl, rfl, h⟩
theorem isN (h : Q (.bl (decide (x = .non))) H) : rIsN x .non H Q := ⟨rfl, h⟩
theorem noN (h : Q (.bl (!decide (x = .non))) H) : rNoN x .non H Q := ⟨rfl, h⟩
theorem ixL (h : SqL K H p xs) (e : atI xs i = some v) (g : Q v H) : rIxL K (.ref p) (.int i) H Q := ⟨p, xs, i, v, rfl, rfl, h, e, g⟩
theorem ixI {ns : List Int} (h : SqL K H p (ns.map V.int)) (h0 : 0 ≤ i) (h1 : i < ((ns.map V.int).length : Int)) (g : ∀ z, z ∈ ns → Q (.int z) H) : rIxL K (.ref p) (.int i) H Q := by
  rw [List.length_map] at h1
  have hj : i.toNat < ns.length := by omega
  have e : atI (ns.map V.int) ((i.toNat : Nat) : Int) = some (.int ns[i.toNat]) := atI_nat (by rw [List.getElem?_map, List.getElem?_eq_getElem hj]; rfl)
  rw [show ((i.toNat : Nat) : Int) = i by omega] at e
  exact ⟨p, _, i, _, rfl, rfl, h, e, g _ (List.getElem_mem hj)⟩
theorem ixT (h : SqT K H p xs) (e : atI xs i = some v) (g : Q v H) : rIxT K (.ref p) (.int i) H Q := ⟨p, xs, i, v, rfl, rfl, h, e, g⟩
theorem gsub {P : L2.St → Hp → Prop} (h : to σ H fun o H1 => ti σ H1 fun i H2 => t o i v H2 fun H3 => P σ H3) : gSub to ti t v σ H P := h
theorem setL {P : Hp → Prop} {j : Nat} (h : H p = some (.lst xs)) (e : ixN xs.length k = some j) (e2 : xs.set j v = ys) (g : P (upd H p (.lst ys))) : rSetL (.ref p) (.int k) v H P := by
  subst e2
  exact ⟨p, xs, k, j, rfl, rfl, h, e, g⟩
theorem append (h : H p = some (.lst xs)) (c : xs.length < sizeLine) (g : Q .non (upd H p (.lst (xs ++ [y])))) : rAppend (.ref p) [y] H Q := ⟨p, xs, y, rfl, rfl, h, c, g⟩
theorem cat (h : H p = some (.lst xs)) (h' : H q = some (.lst ys)) (c : xs.length + ys.length ≤ sizeLine) (g : ∀ l, H l = none → Q (.ref l) (upd H l (.lst (xs ++ ys)))) : rCat (.ref p) (.ref q) H Q := ⟨p, q, xs, ys, rfl, rfl, h, h', c, g⟩
theorem bm {T : String} {r : V → List V → Hp → VK → Prop} {ts : TA} (h : to σ H fun x H1 => tyV K T x H1 ∧ ts σ H1 fun xs H2 => r x xs H2 Q) : tBM K T r to ts σ H Q := h
theorem bm0 {T : String} {r : V → List V → Hp → VK → Prop} (h : to σ H fun x H1 => tyV K T x H1 ∧ r x [] H1 Q) : tBM0 K T r to σ H Q := h
theorem tyL {B : Prop} (h : H p = some (.lst xs)) (g : B) : tyV K "list" (.ref p) H ∧ B := ⟨.inl ⟨rfl, _, .inl (.inl h)⟩, g⟩
theorem gtup {n : Nat} {t : TGs} {P : L2.St → Hp → Prop} (h : SqT K H p xs) (e : xs.length = n) (g : t xs σ H P) : gTup K n t (.ref p) σ H P := ⟨p, xs, rfl, h, e, g⟩
theorem gnil {P : L2.St → Hp → Prop} (h : P σ H) : gNil [] σ H P := ⟨rfl, h⟩
theorem gcons {t : TG} {u : TGs} {P : L2.St → Hp → Prop} (h : t v σ H fun σ' H' => u xs σ' H' P) : gCons t u (v :: xs) σ H P := ⟨v, xs, rfl, h⟩
theorem par {i j : Nat} {ta : TA} (h : ta σ H fun vs H1 => ∃ v w, vs = [v, w] ∧ n ((σ.set i (some v)).set j (some w)) H1) : tPar i j ta ⟨n, rr, b, c⟩ σ H := h
theorem expar {P' : V → V → Prop} (h : P' x y) : ∃ v w, [x, y] = [v, w] ∧ P' v w := ⟨x, y, rfl, h⟩
theorem aug {i : Nat} {ti : TIp} (e : σ[i]? = some (some x)) (h : te σ H fun y H1 => ti x y H1 fun z H2 => n (σ.set i (some z)) H2) : tAug i te ti ⟨n, rr, b, c⟩ σ H := ⟨x, e, h⟩
theorem ipi {f : Int → Int → Int} (h : Q (.int (f i j)) H) : ipI f (.int i) (.int j) H Q := ⟨i, j, rfl, rfl, h⟩
theorem slice {r : V → Option Int → Option Int → Hp → VK → Prop} {tl th : TO} (h : te σ H fun x H1 => tl σ H1 fun l H2 => th σ H2 fun u H3 => r x l u H3 Q) : tSl r te tl th σ H Q := h
theorem noPart {P : Option Int → Hp → Prop} (h : P none H) : tNoPart σ H P := h
theorem part {P : Option Int → Hp → Prop} (h : te σ H fun x H1 => ∃ i, x = .int i ∧ P (some i) H1) : tPart te σ H P := h
theorem slL {lo hi : Option Int} (h : SqL K H p xs) (g : ∀ l, H l = none → Q (.ref l) (upd H l (.lst (cutV xs lo hi)))) : rSlL K (.ref p) lo hi H Q := ⟨p, xs, rfl, h, g⟩
theorem slZ {lo hi : Option Int} (h : a.length ≤ sizeLine) (g : Q (.str (cutS a lo hi)) H) : rSlS (.str a) lo hi H Q := ⟨a, rfl, h, g⟩
theorem exint {P' : Int → Prop} (h : P' i) : ∃ j, V.int i = V.int j ∧ P' j := ⟨i, rfl, h⟩
/-- what a loop walks -/
theorem iseq {R : It → Hp → Prop} (h : te σ H fun x H1 => ∃ a, x = .ref a ∧ (∃ xs, SqL K H1 a xs) ∧ R (Itl K a) H1) : iList K te σ H R := h
theorem exlst {P' : Addr → Prop} (h : SqL K H p ys) (g : P' p) : ∃ a, V.ref p = V.ref a ∧ (∃ zs, SqL K H a zs) ∧ P' a := ⟨p, rfl, ⟨ys, h⟩, g⟩
theorem irng1 {ta : TA} {R : It → Hp → Prop} (h : ta σ H fun vs H1 => ∃ j : Int, vs = [.int j] ∧ -(2 ^ 62) ≤ j ∧ j < 2 ^ 62 ∧ R (Itr 0 j.toNat) H1) : iRng1 ta σ H R := h
theorem exrng1 {P' : Int → Prop} (c : -(2 ^ 62) ≤ i ∧ i < 2 ^ 62) (h : P' i) : ∃ j : Int, [V.int i] = [V.int j] ∧ -(2 ^ 62) ≤ j ∧ j < 2 ^ 62 ∧ P' j := ⟨i, rfl, c.1, c.2, h⟩
theorem irng2 {ta : TA} {R : It → Hp → Prop} (h : ta σ H fun vs H1 => ∃ i j : Int, vs = [.int i, .int j] ∧ (-(2 ^ 62) ≤ i ∧ i < 2 ^ 62 ∧ -(2 ^ 62) ≤ j ∧ j < 2 ^ 62) ∧ R (Itr i (j - i).toNat) H1) : iRng2 ta σ H R := h
theorem exrng2 {P' : Int → Int → Prop} (c : -(2 ^ 62) ≤ i ∧ i < 2 ^ 62 ∧ -(2 ^ 62) ≤ j ∧ j < 2 ^ 62) (h : P' i j) : ∃ a b : Int, [V.int i, V.int j] = [V.int a, V.int b] ∧ (-(2 ^ 62) ≤ a ∧ a < 2 ^ 62 ∧ -(2 ^ 62) ≤ b ∧ b < 2 ^ 62) ∧ P' a b := ⟨i, j, rfl, c, h⟩
end
end Rd
namespace Rd
open PySem PySem.Spec PyProof.Rows L2
/-- a for over a walk that has begun; a comprehension over one -/
def ForB (J : It) (g : TG) (tb : TS) (D : Ends) (σ : L2.St) (H : Hp) : Prop := tFor (fun _ H1 R => R J H1) g tb D σ H
def LcB (J : It) (g : TG) (tt : TT) (te : TE) (vs : List Nat) (σ : L2.St) (H : Hp) (Q : VK) : Prop := tLc (fun _ H1 R => R J H1) g tt te vs σ H Q
section
variable {K : PySem.W.Frag} {wi : TI} {g : TG} {tb : TS} {D : Ends} {σ : L2.St} {H : Hp} {tt : TT} {te : TE} {vs : List Nat} {Q : VK} {a : Addr} {xs : List V} {n b c : L2.St → Hp → Prop} {rr : VK} {lo : Int} {m : Nat} {P : Prop}
theorem forX (h : wi σ H fun J H1 => ForB J g tb D σ H1) : tFor wi g tb D σ H := h
theorem lcX (h : wi σ H fun J H1 => LcB J g tt te vs σ H1 Q) : tLc wi g tt te vs σ H Q := h
theorem forL (xs : List V) (Pv : Nat → L2.St → Hp → Prop) (h0 : Pv 0 σ H) (hl : ∀ i σ H, i ≤ xs.length → Pv i σ H → SqL K H a xs)
    (hs : ∀ i x σ H, xs[i]? = some x → Pv i σ H → g x σ H fun σ2 H2 => tb ⟨Pv (i + 1), rr, n, Pv (i + 1)⟩ σ2 H2) (hd : ∀ σ H, Pv xs.length σ H → n σ H) : ForB (Itl K a) g tb ⟨n, rr, b, c⟩ σ H :=
  for_list (D := ⟨n, rr, b, c⟩) Pv h0 hl hs hd
theorem forR (Pv : Nat → L2.St → Hp → Prop) (h0 : Pv 0 σ H)
    (hs : ∀ i σ H, i < m → Pv i σ H → g (.int (lo + i)) σ H fun σ2 H2 => tb ⟨Pv (i + 1), rr, n, Pv (i + 1)⟩ σ2 H2) (hd : ∀ σ H, Pv m σ H → n σ H) : ForB (Itr lo m) g tb ⟨n, rr, b, c⟩ σ H :=
  for_range (D := ⟨n, rr, b, c⟩) Pv h0 hs hd
/-- what a comprehension's turn is to do, at the new list L -/
def Turn1 (g : TG) (tt : TT) (te : TE) (vs : List Nat) (σ : L2.St) (L : Addr) (x : V) (h : Hp) (Nx : Hp → Prop) : Prop :=
  g x (wipe σ vs) h fun σ2 h2 => wipe σ2 vs = wipe σ vs ∧
    tt σ2 h2 fun k h3 => if k = true then (te σ2 h3 fun y h4 => ∃ out, h4 L = some (.lst out) ∧ out.length < sizeLine ∧ Nx (upd h4 L (.lst (out ++ [y])))) else Nx h3
theorem lcL (xs : List V) (f : ∀ L, H L = none → ∃ Pv : Nat → Hp → Prop, Pv 0 (upd H L (.lst [])) ∧ (∀ i h, i ≤ xs.length → Pv i h → SqL K h a xs) ∧
    (∀ i x h, xs[i]? = some x → Pv i h → Turn1 g tt te vs σ L x h (Pv (i + 1))) ∧ ∀ h, Pv xs.length h → Q (.ref L) h) : LcB (Itl K a) g tt te vs σ H Q := fun L hL => by
  obtain ⟨Pv, h0, hl, hs, hd⟩ := f L hL
  exact lc_list (Qd := Q (.ref L)) Pv h0 hl hs hd
theorem turn1 {L : Addr} {x : V} {h : Hp} {Nx : Hp → Prop} (q : g x (wipe σ vs) h fun σ2 h2 => wipe σ2 vs = wipe σ vs ∧
    tt σ2 h2 fun k h3 => if k = true then (te σ2 h3 fun y h4 => ∃ out, h4 L = some (.lst out) ∧ out.length < sizeLine ∧ Nx (upd h4 L (.lst (out ++ [y])))) else Nx h3) : Turn1 g tt te vs σ L x h Nx := q
theorem andI {A B : Prop} (h1 : A) (h2 : B) : A ∧ B := ⟨h1, h2⟩
theorem yes {Q' : Bool → Hp → Prop} (h : Q' true H) : tYes σ H Q' := h
/-- an item of a list of ints -/
theorem int_at {ns : List Int} {i : Nat} {x : V} (h : (ns.map V.int)[i]? = some x) : ∃ z, ns[i]? = some z ∧ x = .int z := by
  rw [List.getElem?_map] at h
  cases e : ns[i]? with
  | none =>
    rw [e] at h
    cases h
  | some z =>
    rw [e] at h
    exact ⟨z, rfl, (Option.some.inj h).symm⟩
theorem same_upd {H : Hp} {p : Addr} {o : HO} (h : H p = none) : Same H (upd H p o) := fun b x e => by
  rw [upd_ne (ne_of_none e h)]
  exact e
/-- a new object stands beside what stood -/
theorem new_ne {H : Hp} {p q : Addr} {o : HO} (h : H p = some o) (h' : H q = none) : q ≠ p := fun e => by
  rw [e, h] at h'
  cases h'
theorem free_of {H H' : Hp} {p : Addr} (h : H' p = none) (k : ∀ b o, H b = some o → H' b = some o) : H p = none := by
  cases e : H p with
  | none => rfl
  | some o =>
    rw [k p o e] at h
    cases h
end
end Rd
namespace Rd
open PySem PySem.Spec PyProof.Rows L2
section
variable {K : PySem.W.Frag} {D : Ends} {σ : L2.St} {H : Hp} {te ta tb : TE} {Q : VK} {p : Addr} {xs : List V} {i j : Int}
theorem lstRev (h : te σ H fun v h => ∃ a zs, v = .ref a ∧ SqL K h a zs ∧ ∀ q, h q = none → Q (.ref q) (upd h q (.lst zs.reverse))) : tLstRev K te σ H Q := h
theorem exrev {P' : List V → Prop} (h : SqL K H p xs) (g : P' xs) : ∃ a zs, V.ref p = V.ref a ∧ SqL K H a zs ∧ P' zs := ⟨p, xs, rfl, h, g⟩
theorem lstRg {tr : L2.St → Hp → (Int → Int → Hp → Prop) → Prop} (h : tr σ H fun a b H1 => RgOk a b ∧ ∀ q, H1 q = none → Q (.ref q) (upd H1 q (.lst (rgV a b)))) : tLstRg tr σ H Q := h
theorem rg1 {P' : Int → Int → Hp → Prop} (h : ta σ H fun x H1 => ∃ m, x = .int m ∧ P' 0 m H1) : tRg1 ta σ H P' := h
theorem rg2 {P' : Int → Int → Hp → Prop} (h : ta σ H fun x H1 => tb σ H1 fun y H2 => ∃ a b, x = .int a ∧ y = .int b ∧ P' a b H2) : tRg2 ta tb σ H P' := h
theorem exint2 {P' : Int → Int → Prop} (h : P' i j) : ∃ a b, V.int i = V.int a ∧ V.int j = V.int b ∧ P' a b := ⟨i, j, rfl, rfl, h⟩
/-- an item at an open place -/
theorem ixN' {i : Int} {x : V} (h : SqL K H p xs) (h0 : 0 ≤ i) (h1 : xs[i.toNat]? = some x) (g : Q x H) : rIxL K (.ref p) (.int i) H Q := by
  have e : atI xs ((i.toNat : Nat) : Int) = some x := atI_nat h1
  rw [show ((i.toNat : Nat) : Int) = i by omega] at e
  exact ⟨p, xs, i, x, rfl, rfl, h, e, g⟩
theorem ixT' {i : Int} {x : V} (h : SqT K H p xs) (h0 : 0 ≤ i) (h1 : xs[i.toNat]? = some x) (g : Q x H) : rIxT K (.ref p) (.int i) H Q := by
  have e : atI xs ((i.toNat : Nat) : Int) = some x := atI_nat h1
  rw [show ((i.toNat : Nat) : Int) = i by omega] at e
  exact ⟨p, xs, i, x, rfl, rfl, h, e, g⟩
theorem setN' {P' : Hp → Prop} {k : Int} {v : V} (h : H p = some (.lst xs)) (h0 : 0 ≤ k) (h1 : k < (xs.length : Int)) (g : P' (upd H p (.lst (xs.set k.toNat v)))) : rSetL (.ref p) (.int k) v H P' := by
  refine ⟨p, xs, k, k.toNat, rfl, rfl, h, ?_, g⟩
  unfold ixN
  rw [if_pos h0, if_pos h1]
end
theorem swap_perm {α : Type} {l : List α} {i j : Nat} {x y : α} (hx : l[i]? = some x) (hy : l[j]? = some y) : ((l.set i y).set j x).Perm l := by
  obtain ⟨hi, e1⟩ := List.getElem?_eq_some_iff.mp hx
  obtain ⟨hj, e2⟩ := List.getElem?_eq_some_iff.mp hy
  rw [← e1, ← e2]
  exact List.set_set_perm hi hj
end Rd
namespace Rd
open PySem PySem.Spec PyProof.Rows L2
def tys : List String := ["NoneType", "bool", "int", "str", "list", "tuple", "dict"]
def isT (t T : String) : Bool := t == T || (t == "bool" && T == "int")
theorem kit_all : ∀ t ∈ tys, ∀ T ∈ tys.tail, kitB t T = some (isT t T) := by decide +kernel
def tn : PyData → String
  | .none => "NoneType"
  | .bool _ => "bool"
  | .int _ => "int"
  | .str _ => "str"
  | .list _ => "list"
  | .tuple _ => "tuple"
  | .dict _ => "dict"
section
variable {K : PySem.W.Frag} {H : Hp} {x y : V} {d : PyData} {a : Addr} {xs : List V} {Q : VK}
theorem tyL' (h : SqL K H a xs) : TyX K H (.ref a) (.type "list") := by
  rcases h with (h | ⟨o, h⟩) | ⟨o, its, n, h, c, _⟩
  · exact .base (.lst h)
  · exact .base (.frz h)
  · exact .kList h c
theorem tyT' (h : SqT K H a xs) : TyX K H (.ref a) (.type "tuple") := by
  rcases h with (h | ⟨o, h⟩) | ⟨o, its, n, h, c, _⟩
  · exact .base (.tup h)
  · exact .fTuple h
  · exact .kTuple h c
theorem isi {t T : String} {b : Bool} (ty : TyX K H x (.type t)) (ht : t ∈ tys) (hT : T ∈ tys.tail) (e : isT t T = b) (q : Q (.bl b) H) : rIsi K [x, .ty T] H Q := by
  subst e
  exact ⟨x, .ty T, _, _, _, rfl, .ty T, ty, kit_ty (kit_all t ht T hT), q⟩
theorem isiT {t T : String} (ty : TyX K H x (.type t)) (e : (t ∈ tys ∧ T ∈ tys.tail) ∧ isT t T = true) (q : Q (.bl true) H) : rIsi K [x, .ty T] H Q := isi ty e.1.1 e.1.2 e.2 q
theorem isiF {t T : String} (ty : TyX K H x (.type t)) (e : (t ∈ tys ∧ T ∈ tys.tail) ∧ isT t T = false) (q : Q (.bl false) H) : rIsi K [x, .ty T] H Q := isi ty e.1.1 e.1.2 e.2 q
theorem dp_ty (h : Dp K H x d) : TyX K H x (.type (tn d)) := by
  cases h with
  | non => exact .base .non
  | bl b => exact .base (.bl b)
  | int i => exact .base (.int i)
  | str s => exact .base (.str s)
  | lst h _ => exact tyL' h
  | tup h _ => exact tyT' h
end
/-- data no deeper than n, with short lists -/
inductive Fit : Nat → PyData → Prop
  | non {n : Nat} : Fit n .none
  | bl {n : Nat} (b : Bool) : Fit n (.bool b)
  | int {n : Nat} (i : Int) : Fit n (.int i)
  | str {n : Nat} (s : Str) : Fit n (.str s)
  | lst {n : Nat} {ds : List PyData} : ds.length ≤ 100000 → (∀ d ∈ ds, Fit n d) → Fit (n + 1) (.list ds)
  | tup {n : Nat} {ds : List PyData} : ds.length ≤ 100000 → (∀ d ∈ ds, Fit n d) → Fit (n + 1) (.tuple ds)
theorem Fit.mono {n m : Nat} {d : PyData} (h : Fit n d) (k : n ≤ m) : Fit m d := by
  induction h generalizing m with
  | non => exact .non
  | bl b => exact .bl b
  | int i => exact .int i
  | str s => exact .str s
  | lst l _ ih =>
    cases m with
    | zero => omega
    | succ m => exact .lst l fun d hd => ih d hd (by omega)
  | tup l _ ih =>
    cases m with
    | zero => omega
    | succ m => exact .tup l fun d hd => ih d hd (by omega)
section
variable {K : PySem.W.Frag} {H H' : Hp}
theorem sqT_same {a : Addr} {xs : List V} (e : Same H H') (h : SqT K H a xs) : SqT K H' a xs := by
  rcases h with (h | ⟨o, h⟩) | h
  · exact .inl (.inl (e _ _ h))
  · exact .inl (.inr ⟨o, e _ _ h⟩)
  · exact .inr h
end
end Rd
namespace Rd
open PySem PySem.Spec PyProof.Rows L2
abbrev cl (z : Str) : List Nat := z.cps.toList
theorem cl_len (z : Str) : (cl z).length = z.length := by simp [cl, Str.length]
theorem cl_add (a b : Str) : cl (a ++ b) = cl a ++ cl b := by
  show (a.cps ++ b.cps).toList = _
  rw [Array.toList_append]
theorem add_len (a b : Str) : (a ++ b).length = a.length + b.length := by
  rw [← cl_len, cl_add, List.length_append, cl_len, cl_len]
theorem cl_one (c : Nat) : cl ⟨#[c]⟩ = [c] := rfl
theorem one_len (c : Nat) : (⟨#[c]⟩ : Str).length = 1 := rfl
theorem cl_inj {a b : Str} (h : cl a = cl b) : a = b := by
  obtain ⟨⟨a⟩⟩ := a
  obtain ⟨⟨b⟩⟩ := b
  have h : a = b := h
  rw [h]
def Low (c : Nat) : Prop := 97 ≤ c ∧ c ≤ 122
def Aln (c : Nat) : Prop := Low c ∨ (48 ≤ c ∧ c ≤ 57)
instance (c : Nat) : Decidable (Low c) := inferInstanceAs (Decidable (_ ∧ _))
instance (c : Nat) : Decidable (Aln c) := inferInstanceAs (Decidable (_ ∨ _))
/-- the signs of a name -/
def Nm (l : List Nat) : Prop := ∃ c r, l = c :: r ∧ Low c ∧ ∀ x ∈ r, Aln x
theorem Nm.all {l : List Nat} (h : Nm l) : ∀ x ∈ l, Aln x := by
  obtain ⟨c, r, rfl, hc, hr⟩ := h
  intro x hx
  rcases List.mem_cons.mp hx with rfl | hx
  · exact .inl hc
  · exact hr x hx
theorem Nm.snoc {l : List Nat} (h : Nm l) {x : Nat} (a : Aln x) : Nm (l ++ [x]) := by
  obtain ⟨c, r, rfl, hc, hr⟩ := h
  refine ⟨c, r ++ [x], rfl, hc, fun y hy => ?_⟩
  rcases List.mem_append.mp hy with hy | hy
  · exact hr y hy
  · rw [List.mem_singleton.mp hy]
    exact a
theorem Nm.head {l : List Nat} (h : Nm l) : ∃ c, l[0]? = some c ∧ Low c := by
  obtain ⟨c, r, rfl, hc, _⟩ := h
  exact ⟨c, rfl, hc⟩
theorem sz5 {n : Nat} (h : n ≤ 100000) : n ≤ sizeLine := Nat.le_trans h (by decide)
theorem sz5' {n : Nat} (h : n ≤ 100000) : n < sizeLine := Nat.lt_of_le_of_lt h (by decide)
section
variable {K : PySem.W.Frag} {H : Hp} {Q : VK} {i : Int} {z : Str}
/-- a sign of a text, at an open place -/
theorem sign (hl : z.length ≤ 100000) (h0 : 0 ≤ i) (h1 : i < (z.length : Int)) (g : ∀ c, (cl z)[i.toNat]? = some c → c ∈ cl z → Q (.str ⟨#[c]⟩) H) : rIxS (.str z) (.int i) H Q := by
  have hj : i.toNat < (cl z).length := by
    rw [cl_len]
    omega
  have e1 := List.getElem?_eq_getElem hj
  have e : atI (cl z) ((i.toNat : Nat) : Int) = some (cl z)[i.toNat] := atI_nat e1
  rw [show ((i.toNat : Nat) : Int) = i by omega] at e
  exact ⟨z, i, _, rfl, rfl, sz5 hl, e, g _ e1 (List.getElem_mem hj)⟩
end
end Rd
namespace Rd
open PySem PySem.Spec PyProof.Rows L2
section
variable {σ : L2.St} {H : Hp} {cc : TT} {tb : TS} {n b c : L2.St → Hp → Prop} {rr : VK}
/-- a while by an invariant with a number that falls -/
theorem whileX (W : Nat → L2.St → Hp → Prop) (m0 : Nat) (h0 : W m0 σ H)
    (hs : ∀ m σ H, W m σ H → cc σ H fun k H1 => if k = true then ∃ N : L2.St → Hp → Prop, (∀ σ' H', N σ' H' → ∃ j, j < m ∧ W j σ' H') ∧ tb ⟨N, rr, n, N⟩ σ H1 else n σ H1) : tWhile cc tb ⟨n, rr, b, c⟩ σ H :=
  ⟨W, ⟨m0, h0⟩, hs⟩
theorem exN {m : Nat} {W : Nat → L2.St → Hp → Prop} (h : tb ⟨fun σ' H' => ∃ j, j < m ∧ W j σ' H', rr, n, fun σ' H' => ∃ j, j < m ∧ W j σ' H'⟩ σ H) :
    ∃ N : L2.St → Hp → Prop, (∀ σ' H', N σ' H' → ∃ j, j < m ∧ W j σ' H') ∧ tb ⟨N, rr, n, N⟩ σ H := ⟨_, fun _ _ z => z, h⟩
theorem lc0 {x : V} {xs : List V} {A B : Prop} (h : B) : if decide (V.int (((x :: xs).length : Nat) : Int) = V.int 0) = true then A else B := by
  rw [if_neg]
  · exact h
  · intro e
    have e := V.int.inj (of_decide_eq_true e)
    rw [List.length_cons] at e
    omega
theorem ln0 {A B : Prop} (h : A) : if decide (V.int ((([] : List V).length : Nat) : Int) = V.int 0) = true then A else B := h
end
end Rd
namespace Rd
end Rd
namespace Rd
open PySem PySem.Spec PyProof.Rows L2
/-- ways that meet -/
theorem cut {t u : TS} {n b c : L2.St → Hp → Prop} {rr : VK} {σ : L2.St} {H : Hp} (Mid : L2.St → Hp → Prop) (h : t ⟨Mid, rr, b, c⟩ σ H) (k : ∀ σ' H', Mid σ' H' → u ⟨n, rr, b, c⟩ σ' H') : C8.tCut t u ⟨n, rr, b, c⟩ σ H := ⟨Mid, h, k⟩
end Rd
namespace Rd
open PySem PySem.Spec PyProof.Rows L2
def Tk (H H' : Hp) : Prop := ∀ b o, (∀ xs, o ≠ HO.lst xs) → H b = some o → H' b = some o
theorem Tk.trans {H H1 H2 : Hp} (a : Tk H H1) (b : Tk H1 H2) : Tk H H2 := fun c o n e => b c o n (a c o n e)
theorem Same.tk {H H' : Hp} (a : Same H H') : Tk H H' := fun c o _ e => a c o e
end Rd
namespace Rd
open PySem PySem.Spec PyProof.Rows L2
section
variable {K : PySem.W.Frag} {H : Hp} {Q : VK} {a b : Str} {A B : Prop} {p : Addr} {z x : V} {zs xs : List V}
theorem iteSt (e : a = b) (h : A) : if decide (V.str a = V.str b) = true then A else B := by
  subst e
  rw [if_pos (decide_eq_true rfl)]
  exact h
theorem iteSf (e : ¬ a = b) (h : B) : if decide (V.str a = V.str b) = true then A else B := by
  rw [if_neg]
  · exact h
  · intro z
    exact e (V.str.inj (of_decide_eq_true z))
theorem niQ (h : SqL K H p xs ∨ SqT K H p xs) (f : flatV x = true ∧ xs.all flatV = true) (e : inV x xs = true) (g : Q (.bl false) H) : rIn K true x (.ref p) H Q := by
  refine ⟨p, xs, rfl, h, f.1, f.2, ?_⟩
  rw [if_pos rfl, e]
  exact g
theorem inQ (h : SqL K H p xs ∨ SqT K H p xs) (f : flatV x = true ∧ xs.all flatV = true) (e : inV x xs = true) (g : Q (.bl true) H) : rIn K false x (.ref p) H Q := by
  refine ⟨p, xs, rfl, h, f.1, f.2, ?_⟩
  rw [if_neg Bool.false_ne_true, e]
  exact g
end
end Rd
namespace Rd
open PySem PySem.Spec PyProof.Rows L2
theorem same_put {H H' : Hp} {p : Addr} (s : Same H H') (f : H p = none) (o : HO) : Same H (upd H' p o) := fun b u e => (upd_ne (ne_of_none e f)).trans (s b u e)
end Rd
namespace Rd
open PySem PySem.Spec PyProof.Rows L2
end Rd
namespace Rd
open PySem PySem.Spec PyProof.Rows L2
section
variable {X : Cx} {K : PySem.W.Frag}
theorem ix_tupK (h : X.K = K) : IxR X (rIxT K) := h ▸ ix_tup
end
end Rd
namespace Ho
open PySem PySem.Spec PyProof.Rows L2 HotX L2H
section
variable {prog : Program} {w : World} {A : Around} {E : Value → Shared → Prop} {s : Shared}
/-- a list's iterator has come to its end -/
theorem list_end {it l x1 : Addr} {i : Nat} {its : Array Value} {Q : Option Value → Shared → Prop} (hot : HotAt A x1 s.heap) (st : s.heap.IsListIter it l i) (hl : s.heap.IsList l its) (out : its[i]? = none)
    (k : ∀ h', (∀ b o, b ≠ it → s.heap.get? b = some o → h'.get? b = some o) → Q none { s with heap := h' }) : wpAny (model prog w) A (pyNext (.ref it)) Q E s := by
  have ty := st.typeIs
  obtain ⟨oi, gi, ci, di⟩ := st
  obtain ⟨ol, gl, _, n, dl⟩ := hl
  obtain ⟨hh, o1, vs1, g1, d1, c1⟩ := hot
  have apart : x1 ≠ it := by
    rintro rfl
    rw [gi] at g1
    cases g1
    rw [di] at d1
    cases d1
    cases c1
  unfold pyNext
  refine wpAny_bind (wpAny_attempt (wpAny_callSpecial?_slot (name := Str.ofString "__next__") ty slot_listiter_next
    (wpAny_call_entry slot_listiter_next ty entry_listiter_next ?_ (args_listiter_next _))))
  show wpAny _ _ (field (.ref it) 0 >>= _) _ _ s
  refine wpAny_bind (wpAny_field gi di (x := .ref l) rfl ?_)
  have notN : ¬ (Value.ref l == Value.none) = true := Bool.false_ne_true
  show wpAny _ _ (if (Value.ref l == Value.none) = true then _ else _) _ _ s
  rw [if_neg notN]
  show wpAny _ _ (field (.ref it) 1 >>= _) _ _ s
  refine wpAny_bind (wpAny_field gi di (x := .int i 0) rfl ?_)
  show wpAny _ _ (seqItems? (.ref l) >>= _) _ _ s
  refine wpAny_bind (wpAny_seqItems gl dl ?_)
  simp only [Int.toNat_natCast, out]
  refine wpAny_bind (wpAny_rule (wpAny_bind (wpAny_setField gi di (by simp) ?_)))
  show wpAny _ _ (newExc (.type "StopIteration") [] >>= _) _ _ _
  refine wpAny_bind ?_
  simp only [newExc, newTuple]
  refine wpAny_bind (wpAny_newObj_type ?_ (by size_fits))
  refine wpAny_bind (m := firstArgMember _ _) (wpAny_of_eq (a := Value.none) (by first | rfl | (simp only [firstArgMember]; rfl)) ?_)
  refine wpAny_newObj_type ?_ (by size_fits)
  have g1' := (Heap.get?_update_other s.heap (Obj.mapFields (·.setIfInBounds 0 Value.none)) (Ne.symm apart)).trans g1
  refine raiseNew_hot (x1 := x1) ⟨hh, o1, vs1, ?_, d1, c1⟩ ?_ (Heap.get?_push_size _ rfl) rfl (by first | (simp; done) | (simp; omega) | (simp only [Array.size_append]; simp; omega)) ?_
  · first
    | exact Heap.get?_push_of_some _ (Heap.get?_push_of_some _ g1')
    | exact Heap.get?_push_of_some _ (Heap.get?_push_of_some _ ((Heap.get?_update_other _ _ (Ne.symm apart)).trans g1))
  · refine Nat.ne_of_lt (Heap.lt_size (o := o1) (Heap.get?_push_of_some _ ?_))
    exact (Heap.get?_update_other _ _ (Ne.symm apart)).trans g1
  refine wpAny_bind (wpAny_isInstance (T := "StopIteration") (b := true) ⟨_, Heap.get?_update_self _ (Heap.get?_push_size _ rfl) rfl, rfl⟩ isSubtype_stop ?_)
  refine wpAny_pure (k _ fun b o hb e => ?_)
  have e2 := (Heap.get?_update_other s.heap (Obj.mapFields (·.setIfInBounds 0 Value.none)) (Ne.symm hb)).trans e
  have e3 : ∀ f, (s.heap.update it f).get? b = some o := fun f => (Heap.get?_update_other _ f (Ne.symm hb)).trans e
  rw [Heap.get?_update_other _ _ (Nat.ne_of_gt (Heap.lt_size (o := o) (Heap.get?_push_of_some _ (e3 _))))]
  exact Heap.get?_push_of_some _ (Heap.get?_push_of_some _ (e3 _))
end
section
variable {X : Cx} {pins : List (Addr × Obj)} {σ : L2.St} {H : Hp} {s : Shared} {a it : Addr} {i : Nat} {E : Value → Shared → Prop} {tg : Expr}
/-- the next item of a list that is walked -/
theorem walk_item (I : Inv X pins σ H s) (f : FpOk X pins H it) (st : s.heap.IsListIter it a i) (g : ∃ xs x, SqL X.K H a xs ∧ xs[i]? = some x) :
    wpAny (model X.prog X.w) X.A (pyNext (.ref it)) (fun r s1 => ∃ u, r = some u ∧ wpAny (model X.prog X.w) X.A (letOwnedTupleGo tg (.ref it) u)
      (fun _ s2 => ∃ x, Inv X pins σ H s2 ∧ RelV x u ∧ (Itl X.K a).yld i H x H ∧ s2.heap.IsListIter it a (i + 1)) E s1) E s := by
  obtain ⟨xs, x, hq, hx⟩ := g
  obtain ⟨vs, rel, lay, _⟩ := I.list hq
  obtain ⟨u, hu, ru⟩ := rel.get hx
  obtain ⟨n0, n1, n2, n3, n4, n5⟩ := f
  refine wpAny_pyNext_list_item st lay.isList (x := u) (by simpa using hu) fun h1 st1 but => ?_
  have J : Inv X pins σ H { s with heap := h1 } := I.turned (t' := s.toks) (fun b o nb eb => (but.2 b nb).trans eb) n0 n1 n3 n4 n5
  have st2 := st1
  obtain ⟨o, eo, co, dO⟩ := st1
  refine ⟨u, rfl, go_of (s := { s with heap := h1 }) eo co dO (by decide) ⟨x, J, ru, ⟨rfl, fun ys hy => ?_⟩, st2⟩⟩
  rw [I.list_inj hy hq]
  exact hx
/-- no further item, an exception being handled -/
theorem walk_done {p : Addr × Obj} (hot : Hot1 X.A p) (hp : p ∈ X.pn ++ pins) (I : Inv X pins σ H s) (f : FpOk X pins H it) (st : s.heap.IsListIter it a i) (g : ∃ xs, SqL X.K H a xs ∧ xs.length ≤ i) :
    wpAny (model X.prog X.w) X.A (pyNext (.ref it)) (fun r s1 => r = none ∧ Inv X pins σ H s1) E s := by
  obtain ⟨xs, hq, hx⟩ := g
  obtain ⟨vs, rel, lay, _⟩ := I.list hq
  obtain ⟨n0, n1, n2, n3, n4, n5⟩ := f
  have len := rel.length
  obtain ⟨hh, fs, df, cf⟩ := hot
  exact list_end ⟨hh, p.2, fs, (I.pin p hp).1, df, cf⟩ st lay.isList (by simp; omega) fun h1 k => ⟨rfl, I.turned (t' := s.toks) (fun b o nb eb => k b o nb eb) n0 n1 n3 n4 n5⟩
end
section
variable {X : Cx}
/-- [elt for tg in iter if ..] over a list, an exception being handled -/
theorem pe_lcH {elt tg iter : Expr} {ifs : List Expr} {scope : Scope} {own : List (Str × Nat)} {pos : Pos} {tl : TE} {g : TG} {tt : TT} {te : TE} (hot : HotC X) (hN : X.N.Nodup) (hi : PE X iter tl) (ok : BlkOk X.N X.env.scope scope own)
    (hg : ∀ (s : Shared) (H : Hp) (C : Addr) (cl : List (Str × Addr)) (fp : List Addr), PG (X.blk s H scope (compEnvC scope cl C X.env) fp) tg g)
    (ht : ∀ (s : Shared) (H : Hp) (C : Addr) (cl : List (Str × Addr)) (fp : List Addr), PTs (X.blk s H scope (compEnvC scope cl C X.env) fp) ifs tt)
    (he : ∀ (s : Shared) (H : Hp) (C : Addr) (cl : List (Str × Addr)) (fp : List Addr), PE (X.blk s H scope (compEnvC scope cl C X.env) fp) elt te)
    (hs : ∀ x, foldedSetIterable iter X.env x = pure x := by intro _; rfl) :
    PE X (.ListComp elt [⟨tg, iter, ifs, 0⟩] scope pos) (tLc (iList X.K tl) g tt te (own.map (·.2))) := by
  refine ⟨fun pins s σ H Q I h => ?_⟩
  obtain ⟨p, hot1, hp⟩ := hot
  rw [eval_ListComp]
  have cells : ∀ y ∈ scope.names, y.2 = .free → ∃ c, X.env.cells.lookup y.1 = some c := by
    intro y hy ey
    cases ok.free y hy ey with
    | inl k => exact I.ok.has _ (.inl k)
    | inr k => exact I.ok.has _ (.inr k)
  refine wpAny_comprehension_free (use := none) rfl hs (closure_ok cells) ok.kind (fun y hy ey => by rw [ok.uniq y hy, ey])
    (thn (hi.run pins s σ H _ I h) fun v s1 h1 => ?_)
  obtain ⟨x, H1, I1, r1, a, ex, ⟨xs, hq⟩, q⟩ := h1
  subst ex
  cases r1
  obtain ⟨vs, rel, lay, _⟩ := I1.list hq
  refine wpAny_pyIter_list lay.isList ?_
  -- the iterator
  generalize hs2 : ({ s1 with heap := s1.heap.push { cls := .type "list_iterator", data := .fields #[.ref a, .int 0 0] } } : Shared) = s2
  generalize hit : s1.heap.objs.size = it
  have I2 : Inv X pins σ H1 s2 := by
    rw [← hs2]
    exact I1.kept (t' := s1.toks) fun b o eb => Heap.get?_push_of_some _ eb
  have st2 : s2.heap.IsListIter it a 0 := by
    rw [← hs2, ← hit]
    exact ⟨_, Heap.get?_push_size _ rfl, rfl, rfl⟩
  have f2 : FpOk X pins H1 it := I1.fpOk (Nat.le_of_eq hit) (I1.hok.fresh (Nat.le_of_eq hit))
  refine wpAny_newObj_type (newEnv_comp ?_) (by show 0 ≤ sizeLine; decide)
  generalize hD : s2.heap.objs.size = D
  have freeD : H1 D = none := I2.hok.fresh (Nat.le_of_eq hD)
  obtain ⟨W, ⟨m0, w0⟩, turn⟩ := q D freeD
  -- the new list
  generalize hs3 : ({ s2 with heap := s2.heap.push { cls := .type "list", data := .seq ([] : List Value).toArray } } : Shared) = s3
  have h3 : s3.heap = s2.heap.push { cls := .type "list", data := .seq ([] : List Value).toArray } := by rw [← hs3]
  have I3 : Inv X pins σ (upd H1 D (.lst [])) s3 := by
    rw [← hs3]
    refine I2.laid (t' := s2.toks) (fun b o eb => Heap.get?_push_of_some _ eb) (Nat.le_of_eq hD) ⟨Nat.zero_le _, [], 0, .nil, ?_⟩
    rw [← hD]
    exact Heap.get?_push_size _ rfl
  have itlt : it < s2.heap.objs.size := by
    obtain ⟨o, eo, _⟩ := st2
    exact Heap.lt_size eo
  have f3 : ∀ b ∈ [it], FpOk X pins (upd H1 D (.lst [])) b ∧ b < s3.heap.objs.size := by
    intro b hb
    cases List.mem_singleton.mp hb
    refine ⟨⟨?_, f2.2⟩, ?_⟩
    · rw [upd_ne (by rw [← hD]; exact Nat.ne_of_lt itlt)]
      exact f2.1
    · rw [h3, Heap.size_push]
      exact Nat.lt_succ_of_lt itlt
  have st3 : s3.heap.IsListIter it a 0 := by
    rw [h3]
    exact st2.at fun o eo => Heap.get?_push_of_some _ eo
  have I4 := block_start I3 ok hN f3
  have pg := hg s3 (upd H1 D (.lst [])) s3.heap.objs.size (cellsFrom (s3.heap.objs.size + 1) scope.names (cloFrom X.env.cells scope.names [])) [it]
  have pt := ht s3 (upd H1 D (.lst [])) s3.heap.objs.size (cellsFrom (s3.heap.objs.size + 1) scope.names (cloFrom X.env.cells scope.names [])) [it]
  have pe := he s3 (upd H1 D (.lst [])) s3.heap.objs.size (cellsFrom (s3.heap.objs.size + 1) scope.names (cloFrom X.env.cells scope.names [])) [it]
  show codeAny _ _ (.compStart (.ListComp elt [⟨tg, iter, ifs, 0⟩] scope pos) 0 (.ref it) (.ref D) (compEnvC scope (cellsFrom (s3.heap.objs.size + 1) scope.names (cloFrom X.env.cells scope.names [])) s3.heap.objs.size X.env))
    (compPost (model X.prog X.w) X.A X.xe none (EP X pins σ Q) (.ref D) s3.heap.objs.size) { s3 with heap := pushCells (s3.heap.push { cls := .type "dict", data := .dict #[] }) scope.names }
  have nit : (upd H1 D (.lst [])) it = none := (f3 it (List.mem_singleton.mpr rfl)).1.1
  have P3 := I3.pin p (List.mem_append_left _ hp)
  generalize hce : compEnvC scope (cellsFrom (s3.heap.objs.size + 1) scope.names (cloFrom X.env.cells scope.names [])) s3.heap.objs.size X.env = ce at I4 pg pt pe ⊢
  have cL : ce.locals = s3.heap.objs.size := by
    subst hce
    rfl
  generalize hH3 : upd H1 D (.lst []) = H3 at I3 I4 pg pt pe w0 nit f3 P3
  generalize hs4 : ({ s3 with heap := pushCells (s3.heap.push { cls := .type "dict", data := .dict #[] }) scope.names } : Shared) = s4 at I4 ⊢
  have up4 : ∀ b o, s3.heap.get? b = some o → s4.heap.get? b = some o := by
    intro b o eb
    rw [← hs4]
    exact pushCells_keeps _ _ _ _ (Heap.get?_push_of_some _ eb)
  have st4 : s4.heap.IsListIter it a 0 := st3.at fun o eo => up4 _ o eo
  -- the handled exception stays pinned within the block
  have pfs : p.1 ∉ (X.blk s3 H3 scope ce [it]).fs := by
    intro z
    rcases List.mem_cons.mp (I3.stkSub p.1 z) with z | z
    · exact P3.2.2.1 z
    · exact P3.2.2.2.1 z
  have I4 : Inv (X.blk s3 H3 scope ce [it]) [p] (wipe σ (own.map (·.2))) H3 s4 := I4.pins_of fun r hr => by
    have er : r = p := by simpa using (show r ∈ ([] : List (Addr × Obj)) ++ [p] from hr)
    subst er
    refine ⟨up4 _ _ P3.1, P3.2.1, ?_, pfs, P3.2.2.2.2⟩
    rw [cL]
    exact Nat.ne_of_lt (Heap.lt_size P3.1)
  have pit : p.1 ≠ it := f2.2.2.2.2.2 p (List.mem_append_left _ hp)
  have stat : ∀ {σ' : L2.St} {H' : Hp} {s' : Shared}, Inv (X.blk s3 H3 scope ce [it]) [p] σ' H' s' → H' it = none → FpOk (X.blk s3 H3 scope ce [it]) [p] H' it := fun {σ' H' s'} J n =>
    have mem : it ∈ [it] := List.mem_singleton.mpr rfl
    ⟨n, (J.ok.exf it mem).1, J.ok.exfs it mem, .inl mem, fun y c ey => (J.ok.exf it mem).2 y c ey, fun r hr => by
      have er : r = p := by simpa using (show r ∈ ([] : List (Addr × Obj)) ++ [p] from hr)
      rw [er]
      exact pit⟩
  have loop : codeAny (model X.prog X.w) X.A (.compLoop (.ListComp elt [⟨tg, iter, ifs, 0⟩] scope pos) 0 (.ref it) (.ref D) ce) (compPost (model X.prog X.w) X.A X.xe none (EP X pins σ Q) (.ref D) s3.heap.objs.size) s4 := by
    refine compLoop_any (fun n s' => ∃ i H', Inv (X.blk s3 H3 scope ce [it]) [p] (wipe σ (own.map (·.2))) H' s' ∧ s'.heap.IsListIter it a i ∧ H' it = none ∧ W i n H') ?_ m0 ⟨0, H3, I4, st4, nit, w0⟩
    rintro n s5 ⟨i, H5, I5, st5, n5, w5⟩
    rcases turn i n H5 w5 with ⟨stop, qq⟩ | ⟨go, Nx, hNx, step⟩
    · refine thnF (walk_done (X := X.blk s3 H3 scope ce [it]) (E := fun _ _ => False) hot1 (List.mem_append_right _ (List.mem_singleton.mpr rfl)) I5 (stat I5 n5) st5 stop) fun r s6 ⟨hr, I6⟩ => ?_
      subst hr
      have I7 : Inv X pins σ H5 s6 := I3.call' (ch := [it]) I6.os I6.base I6.hok I6.bare fun b hb =>
        have z := (f3 b hb).1
        ⟨z.2.2.2.1, z.2.1, z.2.2.2.2.1, z.2.2.2.2.2⟩
      have nC : H5 s3.heap.objs.size = none := by
        have z : H5 ce.locals = none := I6.free
        rw [cL] at z
        exact z
      obtain ⟨m, hn, _⟩ := I6.loc
      have hn : s6.heap.Ns ce.locals m := hn
      rw [cL] at hn
      obtain ⟨k0, k1, k2, k3, k4, k5⟩ := I3.fpOk (Nat.le_refl _) nC
      exact ⟨m, hn, fun h9 sb => ⟨.ref D, H5, I7.turned (t' := s6.toks) (fun b o nb eb => (sb.2 b nb).trans eb) k0 k1 k3 k4 k5, rfl, qq⟩⟩
    · refine thnF (walk_item (tg := tg) (X := X.blk s3 H3 scope ce [it]) (E := fun _ _ => False) I5 (stat I5 n5) st5 go) fun r s6 ⟨u, hr, h6⟩ => ?_
      subst hr
      refine thnF h6 fun _ s7 ⟨x, I7, r7, y7, st7⟩ => ?_
      have objs : ∀ b ∈ [it], ∃ o, s7.heap.get? b = some o ∧ ∀ v, o.data ≠ .cell v := by
        intro b hb
        cases List.mem_singleton.mp hb
        obtain ⟨o, eo, _, dO⟩ := st7
        exact ⟨o, eo, fun v z => by rw [dO] at z; cases z⟩
      have I7' := I7.pinned (fp := [it]) (fun b hb => by cases List.mem_singleton.mp hb; exact stat I7 n5) objs
      refine thnF (pg.run _ s7 _ H5 x u _ I7' r7 (step x H5 y7)) fun _ s8 ⟨σ8, H8, I8, hw8, q8⟩ => ?_
      refine thnF (pt.run _ s8 σ8 H8 _ I8 q8) fun b s9 ⟨H9, I9, q9⟩ => ?_
      have fin : ∀ {s' : Shared} {H' : Hp}, Inv (X.blk s3 H3 scope ce [it]) ([p] ++ pinsAt [it] s7.heap) σ8 H' s' → Nx H' →
          ∃ m, m < n ∧ ∃ i H', Inv (X.blk s3 H3 scope ce [it]) [p] (wipe σ (own.map (·.2))) H' s' ∧ s'.heap.IsListIter it a i ∧ H' it = none ∧ W i m H' := by
        intro s' H' J nx
        obtain ⟨m', hm, w'⟩ := hNx H' nx
        obtain ⟨o, eo, ho⟩ := id st7
        have z := J.pin (it, o) (List.mem_append_right _ (List.mem_append_right _ (mem_pinsAt (List.mem_singleton.mpr rfl) eo)))
        have hl : (wipe σ (own.map (·.2))).length = σ8.length := by rw [← hw8, wipe_length]
        refine ⟨m', hm, i + 1, H', (J.unpinned (pins := [p])).weak hl (fun j v ej => ?_), ⟨o, z.1, ho⟩, z.2.1, w'⟩
        rw [← hw8] at ej
        exact (wipe_some ej).1
      cases b with
      | false =>
        simp only [Bool.false_eq_true, if_false] at q9 ⊢
        exact fin I9 q9
      | true =>
        simp only [if_true] at q9 ⊢
        refine thnF (pe.run _ s9 σ8 H9 _ I9 q9) fun z s10 ⟨yv, H10, I10, r10, acc, hD10, hz10, nx⟩ => ?_
        exact app_ok (X := X.blk s3 H3 scope ce [it]) I10 hD10 hz10 r10 fun s11 I11 => fin I11 nx
  exact codeAny_compStart_list loop (wpAny_pyIter_listiter st4 loop)
end
section
variable {P : Program} {w : World} {K : PySem.W.Frag} {mg : Str → Option Value} {base : Heap}
theorem okN {x qual : Str} {st : Stmt} {f : Addr} {fd : FuncData} {N ps : List Str} {k : Nat} {sp : Sp} (F : L2.Fun K x qual st f fd) (S : FnScope N ps (defScope st)) (len : ∀ vs H Q E, sp vs H Q E → vs.length = ps.length)
    (body : ∀ (cdv : Value) (A : Around) (outer : List Env) (s : Shared) (H : Hp) (vs : List V) (Q : VK) (E : XK), Room k (A.deeper (envOfC qual (defScope st) s.heap.objs.size f cdv)) → sp vs H Q E →
      ∃ t, PSs (cxOf (L2N.CX P w) P w K mg base N qual (defScope st) f cdv A outer s H E) (defBody st) t ∧ t ⟨fun _ H' => Q .non H', Q, fun _ _ => False, fun _ _ => False⟩ (L2.start N vs) H) :
    FnOk P w K mg base (L2N.CX P w) (k + 1) f fd ps sp := by
  obtain ⟨oc, od, kV, doc, pm, an, cdv, ct, osl, rfl, lk, hcd⟩ := F.ex
  exact fn_of lk hcd S len fun A outer s H vs Q E hr h => body cdv A outer s H vs Q E hr h
/-- the def of this name keeps this promise; it may raise -/
def CalN (P : Program) (w : World) (K : PySem.W.Frag) (mg : Str → Option Value) (base : Heap) (k : Nat) (x : Str) (ps : List Str) (sp : Sp) : Prop :=
  ∃ f fd, FnOk P w K mg base (L2N.CX P w) k f fd ps sp ∧ mg x = some (.ref f) ∧ PySem.W.keepIn K (.ref f) = true ∧ Binds K fd ps []
theorem defN {x : Str} {st : Stmt} {ps N : List Str} {k : Nat} {sp : Sp} (F : Rd.Def K mg x st ps) (S : FnScope N ps (defScope st)) (len : ∀ vs H Q E, sp vs H Q E → vs.length = ps.length)
    (body : ∀ (f : Addr) (cdv : Value) (A : Around) (outer : List Env) (s : Shared) (H : Hp) (vs : List V) (Q : VK) (E : XK), Room k (A.deeper (envOfC x (defScope st) s.heap.objs.size f cdv)) → sp vs H Q E →
      ∃ t, PSs (cxOf (L2N.CX P w) P w K mg base N x (defScope st) f cdv A outer s H E) (defBody st) t ∧ t ⟨fun _ H' => Q .non H', Q, fun _ _ => False, fun _ _ => False⟩ (L2.start N vs) H) : CalN P w K mg base (k + 1) x ps sp := by
  obtain ⟨f, fd, F, m, b⟩ := F
  exact ⟨f, fd, okN F S len (fun cdv A outer s H vs Q E hr h => body f cdv A outer s H vs Q E hr h), m, F.kp, b⟩
theorem CalN.mono {x : Str} {ps : List Str} {j k : Nat} {sp : Sp} (C : CalN P w K mg base j x ps sp) (h : j ≤ k) : CalN P w K mg base k x ps sp := by
  obtain ⟨f, fd, F, r⟩ := C
  exact ⟨f, fd, F.mono h, r⟩
end
theorem pe_calN {X : Cx} {W : WX} {e : Expr} {es : List Expr} {t : TA} {p pos : Pos} {j k : Nat} {x : Str} {ps : List Str} {sp : Sp} (C : CalN X.prog X.w X.K X.mg X.base j x ps sp) (tk : L2N.Takes X W) (hr : Room k X.A) (ha : PA X (e :: es) t) (hk : j ≤ k := by decide) (hg : Gl X x := by rfl)
    (hdb : (x == ("__debug__" : Str)) = false := by decide) (he : starEach (e :: es) X.env = (false, eval e X.env) :: starEach es X.env := by rfl) (hpl : (backTo pos (starEach es X.env)).any (·.1) = false := by rfl) :
    PE X (.Call (.Name x p) (e :: es) [] pos) (tCallS sp (WE W) t) := by
  obtain ⟨f, fd, F, m, kp, b⟩ := C
  exact pe_callS F (hr.mono hk) hg m kp b (fun σ => L2N.passAt tk σ) ha hdb he hpl
/-- a is a pinned exception of the class at C, its dict holds fs -/
def ExAt (pn : List (Addr × Obj)) (H : Hp) (a C : Addr) (fs : List (Str × V)) : Prop := ∃ (p : Addr × Obj) (dd : Addr), p ∈ pn ∧ p.1 = a ∧ p.2.cls = .ref C ∧ p.2.dict = some dd ∧ (∃ vs, p.2.data = .fields vs) ∧ H dd = some (.xd fs)
/-- e.f -/
def tXe (K : PySem.W.Frag) (pn : List (Addr × Obj)) (f : Str) (te : TE) : TE := fun σ H Q => te σ H fun x H1 => ∃ (a C : Addr) (fs : List (Str × V)) (v : V), x = .ref a ∧ ExAt pn H1 a C fs ∧ XfC K C ∧ PySem.W.findIn K (.ref C) f = some none ∧ fs.lookup f = some v ∧ Q v H1
section
variable {X : Cx} {pins : List (Addr × Obj)} {σ : L2.St} {H : Hp} {s : Shared}
theorem ExAt.inst {a C : Addr} {fs : List (Str × V)} (x : ExAt X.pn H a C fs) (I : Inv X pins σ H s) : ∃ (oe od : Obj) (dd : Addr) (mA : Str → Option Value), PySem.W.InstAt s.heap a oe C (some od) ∧ (∀ f, PySem.W.lookIn f od = some (mA f)) ∧ ∀ f, RelO (fs.lookup f) (mA f) := by
  obtain ⟨p, dd, hp, rfl, hc, hd, ⟨vs, hv⟩, hx⟩ := x
  obtain ⟨gp, _⟩ := I.pin p (List.mem_append_left _ hp)
  obtain ⟨mA, ns, rel⟩ := (show ObjOk X.prog X.w H s.heap dd (.xd fs) from I.hok dd _ hx)
  obtain ⟨od, ho, hl⟩ := lookIn_ns ns
  refine ⟨p.2, od, dd, mA, ⟨gp, hc, ?_, ?_⟩, fun f => hl f, rel⟩
  · unfold PySem.W.notCls
    rw [hv] <;> rfl
  · rw [hd]
    exact ho
theorem pe_xe {e : Expr} {te : TE} {pos : Pos} {n : Str} (he : PE X e te) (hb : attributeBase e n X.env (eval e X.env) = eval e X.env := by rfl) : PE X (.Attribute e n pos) (tXe X.K X.pn n te) := by
  refine ⟨fun pins s σ H Q I h => ?_⟩
  refine attr_of hb (thn (he.run pins s σ H _ I h) fun u s1 hh => ?_)
  obtain ⟨x, H1, I1, rx, a, C, fs, v, ex, at1, T, hno, l, q⟩ := hh
  subst ex
  obtain rfl : u = Value.ref a := rx
  obtain ⟨oe, od, dd, mA, J, hl, rel⟩ := at1.inst I1
  obtain ⟨u, hu, ru⟩ := RelO.some_of (v := v) (o := mA n) (by rw [← l]; exact rel n)
  exact HandSPX.exc_get I1.kIn J T.ga T.gg T.exC (PySem.W.findObj_own T.hdC hno rfl (by rw [hl, hu])) (handed_of ru) ⟨v, H1, I1.tok _, ru, q⟩
/-- what the written part says of a class of errors, for isinstance -/
structure XkC (K : PySem.W.Frag) (C : Addr) : Prop where
  cl : (PySem.W.clsIn K C).isSome = true
  ca : PySem.W.findIn K (.ref C) "__class__" = some (some (.builtin "object.__class__"))
  ob : PySem.W.mroIn K C (.type "object") = some true
structure XkO (K : PySem.W.Frag) : Prop where
  gt : PySem.W.specialIn K (.builtin "object.__class__") "__get__" = some (some (.builtin "getset_descriptor.__get__"))
  tk : PySem.W.takesIn K (.builtin "object.__class__") = some true
/-- isinstance(e, D) -/
def rIsE (K : PySem.W.Frag) (pn : List (Addr × Obj)) : List V → Hp → VK → Prop := fun xs H Q => ∃ (a C : Addr) (fs : List (Str × V)) (c : V) (u : Value) (b : Bool), xs = [.ref a, c] ∧ ExAt pn H a C fs ∧ XfC K C ∧ XkC K C ∧ XkO K ∧ ClsV c u ∧ PySem.W.kitOne K (.ref C) u = some b ∧ Q (.bl b) H
theorem q_isE : CallR X (.builtin "isinstance") (rIsE X.K X.pn) := by
  intro pins s σ H xs us Q I r h
  obtain ⟨a, C, fs, c, u, b, rfl, at1, T, T2, O, k, e, q⟩ := h
  obtain ⟨u1, u2, rfl, r1, r2⟩ := vals2 r
  have e2 := k.eq r2
  subst e2
  obtain rfl : u1 = Value.ref a := r1
  obtain ⟨oe, od, dd, mA, J, _, _⟩ := at1.inst I
  exact PySem.W.kia_one (PySem.W.kitx_exc T2.cl T.ga T.gg T.exC T2.ca O.gt O.tk T2.ob) I.kIn J e (fun z => nomatch z) fun tk => ⟨.bl b, H, I.tok tk, rfl, q⟩
end
section
variable {X : Cx} {e : Expr} {es : List Expr} {ta : TA} {p pos : Pos}
/-- as HandS.ExcInit's rule, and the context of what is made is told -/
theorem pmk_init {CX : CXT} {x : Str} {C fI : Addr} {k : Nat} {fd : FuncData} {ps : List Str} {sp : Sp} (T : OexC X.K C) (iC : PySem.W.findIn X.K (.ref C) "__init__" = some (some (.ref fI))) (tI : PySem.W.typeIn X.K (.ref fI) = some (.type "function"))
    (Fi : FnOk X.prog X.w X.K X.mg X.base CX k fI fd ps sp) (hr : Room (k + 1) X.A) (hb : Binds X.K fd ps []) (hx : Passes CX X (fun _ _ _ => False)) (hg : Gl X x) (hm : X.mg x = some (.ref C)) (ha : PA X (e :: es) ta)
    (hdb : (x == ("__debug__" : Str)) = false := by decide) (he : starEach (e :: es) X.env = (false, eval e X.env) :: starEach es X.env := by rfl) (hpl : (backTo pos (starEach es X.env)).any (·.1) = false := by rfl) :
    L2N.PMk X (.Call (.Name x p) (e :: es) [] pos) (tMkO C sp [] ta) := by
  intro pins s σ H Q I h
  obtain ⟨nm, q, N, bs, bm, sn, sub, ab, col, dd, k0, k1, k2, k3, k5, hC, hbm⟩ := T.cls
  refine wpAny_Call_Name_kw (ld_glob I hg hm ?_ hdb)
  refine PySem.W.callWith_K (h₀ := X.base) I.ok.mod.kin T.kC (thn (ha.run pos pins s σ H _ I h) fun us s1 hh => ?_) he hpl
  obtain ⟨vs, H1, I1, r1, hz, q1⟩ := hh
  refine ⟨I1.kIn, ?_⟩
  show wpAny _ _ (call (.ref C) us) _ _ _
  obtain ⟨hp, g, dr, tk, os⟩ := s1
  generalize hD : hp.objs.size + 1 = D
  have hsz : hp.objs.size ≤ D := by
    rw [← hD]
    exact Nat.le_succ _
  have hq := q1 D (I1.hok.fresh hsz)
  rw [List.append_nil] at hq
  generalize hh2 : (hp.push (PySem.W.kdv_tup us)).push (PySem.HandSPX.excO C hp.objs.size) = h2
  have kk : ∀ b o, hp.get? b = some o → h2.get? b = some o := by
    intro b o eb
    rw [← hh2]
    exact Heap.get?_push_of_some _ (Heap.get?_push_of_some _ eb)
  have hget : h2.get? D = some (PySem.HandSPX.excO C hp.objs.size) := by
    rw [← hh2, ← hD]
    heap_get
  have I2 : Inv X pins σ (upd H1 D (exo D C none)) ⟨h2, g, dr, tk, os⟩ := I1.laid (t' := tk) (a := D) (o := exo D C none) (h' := h2) kk hsz (exo_ok hget)
  have r2 : Vals (V.ref D :: vs) (Value.ref D :: us) := .cons rfl r1
  have hl : (Value.ref D :: us).length = ps.length := by
    rw [← Fi.len _ _ _ _ hq]
    exact r2.length.symm
  have b2 := hb ⟨h2, g, dr, tk, os⟩ (Value.ref D :: us) I2.kIn (by rw [List.append_nil]; exact hl)
  rw [List.append_nil] at b2
  have hus : us.length ≤ sizeLine := by
    rw [← Paired.length r1, sizeLine_eq]
    omega
  subst hh2
  subst hD
  refine wpAny_call (PySem.HandSPX.call_own F.excBase_ValueError (fun Y => PySem.HandSPX.refsVE_contains Y bm hbm) (I1.kIn _ _ hC) (PySem.W.looks_findIn I1.kIn iC) (fun self => PySem.W.bind_fn I1.kIn self tI) hus ?_)
  refine codeAny_mono (Fi.run _ X.stack _ _ _ _ _ _ (fun _ _ _ => False) (hr.make C us []) (I2.env0.make C us []) b2 r2 hq) fun r s' hq' => ?_
  cases r with
  | error er => exact hx pins σ _ _ er s' I2 hq'
  | ok fl =>
    cases fl with
    | ret u =>
      obtain ⟨v, H2, os2, bare2, un2, hok2, rv, ev, d, fs, ea, ed, hd1, q2⟩ := hq'
      subst ev
      obtain ⟨h3, g3, d3, t3, os'⟩ := s'
      obtain ⟨t0, G, J, kG, ge, hoe, na⟩ := mk_end0 (d2 := d3) (t2 := t3) I1 hsz kk un2 hok2 os2 bare2 ea ed hd1
      exact ⟨rv, ⟨_, _, _, ⟨G, g3, d3, t3, os'⟩, _, .ref C, some d, rfl, J, kG, ge, hoe, ⟨rfl, rfl, fun vs hv => by cases hv; rfl⟩, rfl, rfl, na, rfl, bare2, raises_own T.exC T.tyC, q2⟩⟩
    | next => exact False.elim hq'
    | brk => exact False.elim hq'
    | cont => exact False.elim hq'
end
structure FnP (P : Program) (w : World) (K : PySem.W.Frag) (mg : Str → Option Value) (base : Heap) (k : Nat) (f : Addr) (fd : FuncData) (ps : List Str) (sp : Addr → Value → Option Addr → Sp) : Prop where
  len : ∀ a c d vs H Q E, sp a c d vs H Q E → vs.length = ps.length
  run : ∀ (A : Around) (outer : List Env) (s : Shared) (H : Hp) (args : Args) (us : List Value) (vs : List V) (Q : VK) (E : XK) (p : Addr × Obj), RoomH k A → Hot1 A p → PinOk outer H s p → Env0 P w K mg base A outer s H →
    BindsTo s fd args (ps.zip us) → Vals vs us → sp p.1 p.2.cls p.2.dict vs H Q E → codeAny (model P w) A (.call (.ref f) args) (CR CX0 outer P w H s Q E) s
/-- the def of this name keeps this promise of the exception that is handled -/
def CalP (P : Program) (w : World) (K : PySem.W.Frag) (mg : Str → Option Value) (base : Heap) (k : Nat) (x : Str) (ps : List Str) (sp : Addr → Value → Option Addr → Sp) : Prop :=
  ∃ f fd, FnP P w K mg base k f fd ps sp ∧ mg x = some (.ref f) ∧ PySem.W.keepIn K (.ref f) = true ∧ Binds K fd ps []
section
variable {P : Program} {w : World} {K : PySem.W.Frag} {mg : Str → Option Value} {base : Heap}
theorem fnP_of {k : Nat} {f : Addr} {name qual : Str} {params : Arguments} {body : List Stmt} {scope : Scope} {dV kV doc pm cdv ct oc : Value} {an od : Option Addr} {osl : Array (Option Value)} {N ps : List Str} {sp : Addr → Value → Option Addr → Sp}
    (lk : K.lookup f = some ⟨oc, od, .func (PySem.W.fnOf name qual params body scope dV kV doc pm an cdv ct), osl⟩) (code : PySem.W.codeIn K cdv qual = true) (S : FnScope N ps scope) (len : ∀ a c d vs H Q E, sp a c d vs H Q E → vs.length = ps.length)
    (hb : ∀ (A : Around) (outer : List Env) (s : Shared) (H : Hp) (vs : List V) (Q : VK) (E : XK) (p : Addr × Obj), Hot1 A p → RoomH k (A.deeper (envOfC qual scope s.heap.objs.size f cdv)) → sp p.1 p.2.cls p.2.dict vs H Q E →
      ∃ t, PSs (cxH CX0 P w K mg base N qual scope f cdv A outer s H E p) body t ∧ t ⟨fun _ H' => Q .non H', Q, fun _ _ => False, fun _ _ => False⟩ (L2.start N vs) H) :
    FnP P w K mg base (k + 1) f (PySem.W.fnOf name qual params body scope dV kV doc pm an cdv ct) ps sp where
  len := len
  run := by
    intro A outer s H args us vs Q E p room hot pinned e0 binds rel h
    have hl := len _ _ _ _ _ _ _ h
    have kin : K.In s.heap := e0.mod.kin.keeps fun b o eb => (e0.bs b o eb).1
    have lim : s.heap.NoLimit := e0.mod.nolimit.keeps fun b o eb => (e0.bs b o eb).1
    refine codeAny_call_function room.depth (kin _ _ lk) rfl S.co S.gen rfl (PySem.W.codeRec_of kin code) (binds _ _ _ _ ?_)
    refine wpAny_newFunctionEnv_cells S.kind (fun y hy => ?_) fun env he s1 x => ?_
    · obtain ⟨n, v⟩ := y
      cases S.par n (List.of_mem_zip hy).1 with
      | inl q => exact .inl q
      | inr q => exact .inr ⟨q, PySem.W.cellsFrom_some _ _ _ (.inl q)⟩
    · subst he
      obtain ⟨t, ht, hq⟩ := hb A outer s H vs Q E p hot (room.deeper _) h
      refine ⟨lim.keeps x.toInCall.keep, codeAny_func ?_⟩
      refine wpAny_mono (ht.run [] s1 (L2.start N vs) H _ (inv_startH S pinned e0 hl rel x) hq) (fun fl s' hs => ?_) fun e s' hs => hs
      cases fl with
      | ret u =>
        obtain ⟨v, σ', H', J, rv, q⟩ := hs
        exact ⟨v, H', J.os, J.bare, J.base, J.hok, rv, q⟩
      | next =>
        obtain ⟨σ', H', J, q⟩ := hs
        exact ⟨.non, H', J.os, J.bare, J.base, J.hok, rfl, q⟩
      | brk =>
        obtain ⟨_, _, _, q⟩ := hs
        exact q.elim
      | cont =>
        obtain ⟨_, _, _, q⟩ := hs
        exact q.elim
theorem defP {x : Str} {st : Stmt} {ps N : List Str} {k : Nat} {sp : Addr → Value → Option Addr → Sp} (F : Rd.Def K mg x st ps) (S : FnScope N ps (defScope st)) (len : ∀ a c d vs H Q E, sp a c d vs H Q E → vs.length = ps.length)
    (body : ∀ (f : Addr) (cdv : Value) (A : Around) (outer : List Env) (s : Shared) (H : Hp) (vs : List V) (Q : VK) (E : XK) (p : Addr × Obj), Hot1 A p → RoomH k (A.deeper (envOfC x (defScope st) s.heap.objs.size f cdv)) → sp p.1 p.2.cls p.2.dict vs H Q E →
      ∃ t, PSs (cxH CX0 P w K mg base N x (defScope st) f cdv A outer s H E p) (defBody st) t ∧ t ⟨fun _ H' => Q .non H', Q, fun _ _ => False, fun _ _ => False⟩ (L2.start N vs) H) : CalP P w K mg base (k + 1) x ps sp := by
  obtain ⟨f, fd, F, m, b⟩ := F
  obtain ⟨oc, od, kV, doc, pm, an, cdv, ct, osl, rfl, lk, hcd⟩ := F.ex
  exact ⟨f, _, fnP_of lk hcd S len (fun A outer s H vs Q E p hot hr h => body f cdv A outer s H vs Q E p hot hr h), m, F.kp, b⟩
end
/-- such a call in an except suite -/
def tCallP (sp : Addr → Value → Option Addr → Sp) (a : Addr) (cls : Value) (d : Option Addr) (t : TA) : TE := fun σ H Q => t σ H fun vs H1 => sp a cls d vs H1 Q E0
theorem pe_calP {X : Cx} {a : Addr} {oe : Obj} {cls : Value} {d : Option Addr} {pn : List (Addr × Obj)} {e : Expr} {es : List Expr} {t : TA} {q pos : Pos} {j k : Nat} {x : Str} {ps : List Str} {sp : Addr → Value → Option Addr → Sp}
    (C : CalP X.prog X.w X.K X.mg X.base j x ps sp) (hz : L2N.Zn cls d oe) (hf : ∃ vs, oe.data = .fields vs) (hr : Room k X.A) (ha : PA (X.suite a ((a, oe) :: pn)) (e :: es) t) (hk : j ≤ k := by decide) (hg : Gl (X.suite a ((a, oe) :: pn)) x := by rfl)
    (hdb : (x == ("__debug__" : Str)) = false := by decide) (he : starEach (e :: es) X.env = (false, eval e X.env) :: starEach es X.env := by rfl) (hpl : (backTo pos (starEach es X.env)).any (·.1) = false := by rfl) :
    PE (X.suite a ((a, oe) :: pn)) (.Call (.Name x q) (e :: es) [] pos) (tCallP sp a cls d t) := by
  obtain ⟨f, fd, F, m, kp, b⟩ := C
  refine ⟨fun pins s σ H Q I h => ?_⟩
  refine wpAny_Call_Name_kw (ld_glob I hg m ?_ hdb)
  refine PySem.W.callWith_K (h₀ := X.base) I.ok.mod.kin kp (thn (ha.run pos pins s σ H _ I h) fun us s1 hh => ?_) he hpl
  obtain ⟨vs, H1, I1, r, h1⟩ := hh
  refine ⟨I1.kIn, ?_⟩
  have hl : us.length = ps.length := by
    rw [← F.len _ _ _ _ _ _ _ h1]
    exact r.length.symm
  have b2 := b s1 us I1.kIn (by rw [List.append_nil]; exact hl)
  rw [List.append_nil] at b2
  obtain ⟨fs, dat⟩ := hf
  obtain ⟨p1, p2, p3, p4, p5⟩ := I1.pin (a, oe) (List.mem_append_left _ List.mem_cons_self)
  have pinned : PinOk X.stack H1 s1 (a, oe) := by
    refine ⟨p1, p2, fun hm => ?_, p5⟩
    cases List.mem_cons.mp (I1.stkSub a hm) with
    | inl z => exact p3 z
    | inr z => exact p4 z
  have hot : Hot1 (X.suite a ((a, oe) :: pn)).A (a, oe) := ⟨rfl, fs, dat, hz.2.2 fs dat⟩
  have h2 : sp (a, oe).1 (a, oe).2.cls (a, oe).2.dict vs H1 Q E0 := by
    show sp a oe.cls oe.dict vs H1 Q E0
    rw [hz.1, hz.2.1]
    exact h1
  have hr2 : RoomH j (X.A.mark (some (.ref a))) := roomH_mark (hr.mono hk) _
  refine wpAny_call (codeAny_mono (F.run _ X.stack s1 H1 ⟨us, []⟩ us vs Q E0 (a, oe) hr2 hot pinned I1.env0 b2 r h2) fun r s' hq => ?_)
  cases r with
  | error e => exact hq.elim
  | ok fl =>
    cases fl with
    | ret u => exact I1.after hq
    | next => exact hq.elim
    | brk => exact hq.elim
    | cont => exact hq.elim
/-- e.f in an except suite: a the exception, cls its class, d its dict -/
def tXs (K : PySem.W.Frag) (a : Addr) (cls : Value) (d : Option Addr) (f : Str) (te : TE) : TE := fun σ H Q => te σ H fun x H1 => x = .ref a ∧ ∃ (C dd : Addr) (fs : List (Str × V)) (v : V), cls = .ref C ∧ XfC K C ∧ PySem.W.findIn K (.ref C) f = some none ∧ d = some dd ∧ H1 dd = some (.xd fs) ∧ fs.lookup f = some v ∧ Q v H1
theorem pe_xs {X : Cx} {K : PySem.W.Frag} (hK : X.K = K) {a : Addr} {oe : Obj} {cls : Value} {d : Option Addr} {pn : List (Addr × Obj)} {e : Expr} {te : TE} {pos : Pos} {n : Str} (hz : L2N.Zn cls d oe) (hf : ∃ vs, oe.data = .fields vs) (he : PE (X.suite a ((a, oe) :: pn)) e te)
    (hb : attributeBase e n X.env (eval e X.env) = eval e X.env := by rfl) : PE (X.suite a ((a, oe) :: pn)) (.Attribute e n pos) (tXs K a cls d n te) := by
  subst hK
  refine ⟨fun pins s σ H Q I h => ?_⟩
  refine attr_of hb (thn (he.run pins s σ H _ I h) fun u s1 hh => ?_)
  obtain ⟨x, H1, I1, rx, ex, C, dd, fs, v, ec, T, hno, ed, hd, l, q⟩ := hh
  subst ex
  obtain rfl : u = Value.ref a := rx
  have at1 : ExAt (X.suite a ((a, oe) :: pn)).pn H1 a C fs := ⟨(a, oe), dd, List.mem_cons_self, rfl, hz.1.trans ec, hz.2.1.trans ed, hf, hd⟩
  obtain ⟨oe', od, dd', mA, J, hl, rel⟩ := at1.inst I1
  obtain ⟨u, hu, ru⟩ := RelO.some_of (v := v) (o := mA n) (by rw [← l]; exact rel n)
  have found := PySem.W.findObj_own (od := od) T.hdC hno rfl (by rw [hl, hu])
  exact HandSPX.exc_get I1.kIn J T.ga T.gg T.exC found (handed_of ru) ⟨v, H1, I1.tok _, ru, q⟩
section
variable {P : Program} {w : World} {K : PySem.W.Frag} {mg : Str → Option Value} {base : Heap}
/-- C.__init__(self, y): self.code = x; self.f = y -/
def spInit (K : PySem.W.Frag) (C : Addr) (x f : Str) : Sp := fun vs H Q _ => ∃ (a : Addr) (y : V), vs = [.ref a, y] ∧ H a = some (exo a C none) ∧ OexC K C ∧ PySem.W.findIn K (.ref C) "code" = some none ∧ PySem.W.findIn K (.ref C) f = some none ∧
  ∀ dx, H dx = none → dx ≠ a → Q .non (upd (upd (upd H dx (exd dx [("code", .str x)])) a (exo a C (some dx))) dx (exd dx [(f, y), ("code", .str x)]))
structure ErrC (P : Program) (w : World) (K : PySem.W.Frag) (mg : Str → Option Value) (base : Heap) (x : Str) (C : Addr) (f : Str) : Prop where
  gC : mg x = some (.ref C)
  ox : OexC K C
  xf : XfC K C
  no1 : PySem.W.findIn K (.ref C) "code" = some none
  no2 : PySem.W.findIn K (.ref C) f = some none
  ini : ∃ fI fd, PySem.W.findIn K (.ref C) "__init__" = some (some (.ref fI)) ∧ PySem.W.typeIn K (.ref fI) = some (.type "function") ∧ FnOk P w K mg base CX0 1 fI fd ["self", f] (spInit K C x f) ∧ Binds K fd ["self", f] []
end
def tErr (C : Addr) (x f : Str) (ta : TA) : L2.St → Hp → XK → Prop := fun σ H Q => ta σ H fun vs H1 => ∃ y, vs = [y] ∧ ∀ d, H1 d = none → Q (.ref C) (some d) (upd H1 d (.xd [(f, y), ("code", .str x)]))
def tRaise (C : Addr) (x f : Str) (W : WX) (ta : TA) : TS := fun _ σ H => tErr C x f ta σ H fun cls d H' => W cls d σ H'
theorem upd_del {H : Hp} {a d : Addr} {o1 o2 o3 o4 o : HO} (n : H a = none) : upd (del (upd (upd (upd (upd H a o1) d o2) a o3) d o4) a) d o = upd H d o := by
  funext b
  by_cases hd : b = d
  · rw [hd, upd_same, upd_same]
  · rw [upd_ne hd, upd_ne hd]
    by_cases ha : b = a
    · rw [ha, del_same, n]
    · rw [del_ne ha, upd_ne hd, upd_ne ha, upd_ne hd, upd_ne ha]
def Up (ta : TA) : Prop := ∀ (σ : L2.St) (H : Hp) (Q Q' : List V → Hp → Prop), (∀ vs H', Q vs H' → Q' vs H') → ta σ H Q → ta σ H Q'
theorem up_v {i : Nat} : Up (tCons (tVar i) tNil) := fun σ H Q Q' k h => by
  obtain ⟨v, e, q⟩ := h
  exact ⟨v, e, k _ _ q⟩
theorem up_c {v : V} : Up (tCons (tC v) tNil) := fun σ H Q Q' k h => k _ _ h
theorem mk_of_err {P : Program} {w : World} {K : PySem.W.Frag} {mg : Str → Option Value} {base : Heap} {x f : Str} {C : Addr} {ta : TA} {σ : L2.St} {H : Hp} {Q : XK} (T : ErrC P w K mg base x C f) (up : Up ta) (h : tErr C x f ta σ H Q) : tMkO C (spInit K C x f) [] ta σ H Q := by
  refine up σ H _ _ (fun vs H1 q => ?_) h
  obtain ⟨y, rfl, q⟩ := q
  refine ⟨by show 1 ≤ 1000; decide, fun a na => ⟨a, y, rfl, upd_same, T.ox, T.no1, T.no2, fun dx nd ne => ?_⟩⟩
  have nd1 : H1 dx = none := by
    rw [upd_ne ne] at nd
    exact nd
  refine ⟨rfl, dx, _, (upd_ne (Ne.symm ne)).trans upd_same, upd_same, nd1, ?_⟩
  rw [upd_del na]
  exact q dx nd1
section
variable {X : Cx} {W : WX} {e : Expr} {ta : TA} {x f : Str} {C : Addr} {p pos pos2 : Pos} {k : Nat}
theorem ps_err (hc : X.calm = true) (T : ErrC X.prog X.w X.K X.mg X.base x C f) (hr : Room k X.A) (tk : L2N.Takes X W) (ha : PA X [e] ta) (up : Up ta) (hk : 2 ≤ k := by decide) (hg : Gl X x := by rfl) (hdb : (x == ("__debug__" : Str)) = false := by decide)
    (he : starEach (e :: []) X.env = (false, eval e X.env) :: starEach [] X.env := by rfl) (hpl : (backTo pos (starEach [] X.env)).any (·.1) = false := by rfl) :
    PS X (.Raise (some (.Call (.Name x p) [e] [] pos)) none pos2) (tRaise C x f W ta) := by
  obtain ⟨fI, fd, iC, tI, F, b⟩ := T.ini
  have mk := pmk_init (X := X) (p := p) (pos := pos) T.ox iC tI F (hr.mono hk) b pass0 hg T.gC ha hdb he hpl
  exact L2N.ps_raise hc tk (t := tErr C x f ta) fun pins s σ H Q I h => mk pins s σ H Q I (mk_of_err T up h)
end
theorem takes0 {X : Cx} : L2N.Takes X (fun _ _ _ _ => False) := fun _ _ x => by
  obtain ⟨_, _, _, _, _, _, _, _, _, _, _, _, _, _, _, _, z⟩ := x
  exact z.elim
theorem pe_const {X : Cx} {x : Str} {v : Int} {pos : Pos} (h : ∃ t, X.mg x = some (.int v t)) (hg : Gl X x) (hd : (x == ("__debug__" : Str)) = false := by decide) : PE X (.Name x pos) (tC (.int v)) := by
  obtain ⟨t, h⟩ := h
  exact pe_glob hg h ⟨t, rfl⟩ hd
section
variable {X : Cx} {K : PySem.W.Frag} {pn : List (Addr × Obj)}
theorem q_isEK (hK : X.K = K) (hp : X.pn = pn) : CallR X (.builtin "isinstance") (rIsE K pn) := by
  subst hK hp
  exact q_isE
theorem pe_xeK {e : Expr} {te : TE} {pos : Pos} {n : Str} (hK : X.K = K) (hp : X.pn = pn) (he : PE X e te) (hb : attributeBase e n X.env (eval e X.env) = eval e X.env := by rfl) : PE X (.Attribute e n pos) (tXe K pn n te) := by
  subst hK hp
  exact pe_xe he hb
theorem pe_lcHK {elt tg iter : Expr} {ifs : List Expr} {scope : Scope} {own : List (Str × Nat)} {pos : Pos} {tl : TE} {g : TG} {tt : TT} {te : TE} (hK : X.K = K) (hot : HotC X) (hN : X.N.Nodup) (hi : PE X iter tl) (ok : BlkOk X.N X.env.scope scope own)
    (hg : ∀ (s : Shared) (H : Hp) (C : Addr) (cl : List (Str × Addr)) (fp : List Addr), PG (X.blk s H scope (compEnvC scope cl C X.env) fp) tg g) (ht : ∀ (s : Shared) (H : Hp) (C : Addr) (cl : List (Str × Addr)) (fp : List Addr), PTs (X.blk s H scope (compEnvC scope cl C X.env) fp) ifs tt)
    (he : ∀ (s : Shared) (H : Hp) (C : Addr) (cl : List (Str × Addr)) (fp : List Addr), PE (X.blk s H scope (compEnvC scope cl C X.env) fp) elt te) (hs : ∀ x, foldedSetIterable iter X.env x = pure x := by intro _; rfl) :
    PE X (.ListComp elt [⟨tg, iter, ifs, 0⟩] scope pos) (tLc (iList K tl) g tt te (own.map (·.2))) := by
  subst hK
  exact pe_lcH hot hN hi ok hg ht he hs
theorem neDK (hK : X.K = K) (hu : X.A.units + 64 < cLine) : OpR X (compareOp .NotEq) (rNeD K) := by
  subst hK
  exact op_neD hu
theorem unitsH {k : Nat} {A : Around} (r : RoomH k A) : A.units + 64 < cLine := by
  have := r.un
  omega
end
/-- what the written part says of the class of an error, so that isinstance and fields are known -/
structure Knd (K : PySem.W.Frag) (D : Str → Addr) (names : List Str) (C : Addr) (code f : Str) : Prop where
  xf : XfC K C
  xk : XkC K C
  xo : XkO K
  nf : PySem.W.findIn K (.ref C) f = some none
  nc : PySem.W.findIn K (.ref C) "code" = some none
  is : ∀ x ∈ names, PySem.W.kitOne K (.ref C) (.ref (D x)) = some (decide (x = code))
  ve : PySem.W.kitOne K (.ref C) (.type "ValueError") = some true
section
variable {K : PySem.W.Frag} {D : Str → Addr} {names : List Str} {C dd : Addr} {code f x : Str} {p : Addr × Obj} {fs : List (Str × V)} {H : Hp} {Q : VK} {b : Bool}
theorem isE (kn : Knd K D names C code f) (hc : p.2.cls = .ref C) (hd : p.2.dict = some dd) (hv : ∃ vs, p.2.data = .fields vs) (hx : H dd = some (.xd fs)) (m : x ∈ names) (e : decide (x = code) = b) (q : Q (.bl b) H) : rIsE K [p] [.ref p.1, .ref (D x)] H Q := by
  subst e
  exact ⟨p.1, C, fs, _, _, _, rfl, ⟨p, dd, List.mem_cons_self, rfl, hc, hd, hv, hx⟩, kn.xf, kn.xk, kn.xo, .own _, kn.is x m, q⟩
theorem isEf (kn : Knd K D names C code f) (hc : p.2.cls = .ref C) (hd : p.2.dict = some dd) (hv : ∃ vs, p.2.data = .fields vs) (hx : H dd = some (.xd fs)) (m : x ∈ names ∧ decide (x = code) = false) (q : Q (.bl false) H) : rIsE K [p] [.ref p.1, .ref (D x)] H Q := isE kn hc hd hv hx m.1 m.2 q
theorem isEt (kn : Knd K D names C code f) (hc : p.2.cls = .ref C) (hd : p.2.dict = some dd) (hv : ∃ vs, p.2.data = .fields vs) (hx : H dd = some (.xd fs)) (m : x ∈ names ∧ decide (x = code) = true) (q : Q (.bl true) H) : rIsE K [p] [.ref p.1, .ref (D x)] H Q := isE kn hc hd hv hx m.1 m.2 q
theorem isVE (kn : Knd K D names C code f) (hc : p.2.cls = .ref C) (hd : p.2.dict = some dd) (hv : ∃ vs, p.2.data = .fields vs) (hx : H dd = some (.xd fs)) (q : Q (.bl true) H) : rIsE K [p] [.ref p.1, .ty "ValueError"] H Q :=
  ⟨p.1, C, fs, _, _, _, rfl, ⟨p, dd, List.mem_cons_self, rfl, hc, hd, hv, hx⟩, kn.xf, kn.xk, kn.xo, .ty _, kn.ve, q⟩
end
theorem xe {K : PySem.W.Frag} {pn : List (Addr × Obj)} {f : Str} {te : TE} {σ : L2.St} {H : Hp} {Q : VK} (h : te σ H fun x H1 => ∃ (a C : Addr) (fs : List (Str × V)) (v : V), x = .ref a ∧ ExAt pn H1 a C fs ∧ XfC K C ∧ PySem.W.findIn K (.ref C) f = some none ∧ fs.lookup f = some v ∧ Q v H1) : tXe K pn f te σ H Q := h
/-- _law_refusal(e, e.code): a new tuple -/
def spRef (K : PySem.W.Frag) (D : Str → Addr) (names : List Str) (code f : Str) : Addr → Value → Option Addr → Sp := fun a cls d vs H Q _ => ∃ (C dd : Addr) (y : V), cls = .ref C ∧ d = some dd ∧ vs = [.ref a, .str code] ∧ Knd K D names C code f ∧ H dd = some (.xd [(f, y), ("code", .str code)]) ∧
  ∀ p H', H p = none → L2.Same H H' → H' p = some (.tup [.str "refused", .str code, y]) → Q (.ref p) H'
end Ho
namespace Rd
open PySem PySem.Spec PyProof.Rows L2
section
variable {K : PySem.W.Frag} {σ : L2.St} {H : Hp} {g : TG} {tt : TT} {te : TE} {vs : List Nat} {Q : VK} {a : Addr}
/-- a comprehension whose turns only make their item -/
theorem lcMap (xs : List V) (f : V → V) (ha : SqL K H a xs) (hz : xs.length ≤ 100000)
    (hs : ∀ (i : Nat) (x : V) (L : Addr) (G : Hp) (out : List V) (Nx : Hp → Prop), xs[i]? = some x → Same H G → G L = some (.lst out) → out.length < sizeLine → Nx (upd G L (.lst (out ++ [f x]))) → Turn1 g tt te vs σ L x G Nx)
    (hd : ∀ (L : Addr) (G : Hp), H L = none → Same H G → G L = some (.lst (xs.map f)) → Q (.ref L) G) : LcB (Itl K a) g tt te vs σ H Q := by
  refine lcL xs fun L hL => ⟨fun i h => i ≤ xs.length ∧ h = upd H L (.lst ((xs.take i).map f)), ⟨Nat.zero_le _, rfl⟩, ?_, ?_, ?_⟩
  · rintro i h _ ⟨_, rfl⟩
    exact (same_upd hL).seq ha
  · rintro i x h hx ⟨hi, rfl⟩
    have lt : i < xs.length := (List.getElem?_eq_some_iff.mp hx).1
    refine hs i x L _ _ _ hx (same_upd hL) upd_same ?_ ⟨lt, ?_⟩
    · rw [List.length_map, List.length_take]
      exact sz5' (by omega)
    · rw [upd_upd, List.take_add_one, hx, List.map_append]
      rfl
  · rintro h ⟨_, rfl⟩
    rw [List.take_length]
    exact hd L _ hL (same_upd hL) upd_same
theorem dp_bls : ∀ bs : List Bool, DpAll K H (bs.map V.bl) (bs.map PyData.bool)
  | [] => .nil
  | b :: bs => .cons (.bl b) (dp_bls bs)
/-- two lists of the same bools differ not -/
theorem neBl {p q : Addr} {xs ys : List V} (bs : List Bool) (h : H p = some (.lst xs)) (h' : H q = some (.lst ys)) (e : (xs = bs.map V.bl ∧ ys = bs.map V.bl) ∧ SeqAt.shaped (.list (bs.map PyData.bool)) = true ∧ PyData.eqv (.list (bs.map PyData.bool)) (.list (bs.map PyData.bool)) = true)
    (k : Q (.bl false) H) : rNeD K (.ref p) (.ref q) H Q := by
  obtain ⟨⟨rfl, rfl⟩, e1, e2⟩ := e
  refine ⟨_, _, .lst (.inl (.inl h)) (dp_bls bs), .lst (.inl (.inl h')) (dp_bls bs), e1, e1, ?_⟩
  rw [e2]
  exact k
theorem idx {p : Addr} {ys : List V} {y : V} (j : Nat) (h : H p = some (.lst ys)) (e : (flatV y && (ys.all flatV && ((ys[j]?.any fun z => eqV z y) && (ys.take j).all fun z => !eqV z y))) = true) (k : Q (.int (j : Nat)) H) : rIndex K (.ref p) [y] H Q := by
  obtain ⟨e1, e⟩ := Bool.and_eq_true_iff.mp e
  obtain ⟨e2, e⟩ := Bool.and_eq_true_iff.mp e
  obtain ⟨e3, e4⟩ := Bool.and_eq_true_iff.mp e
  cases hz : ys[j]? with
  | none =>
    rw [hz] at e3
    cases e3
  | some z =>
    rw [hz] at e3
    refine ⟨p, ys, y, j, z, rfl, rfl, .inl (.inl h), e1, e2, hz, e3, fun m z' hm hz' => ?_, k⟩
    have q := List.all_eq_true.mp e4 z' (List.mem_of_getElem? (i := m) (by rw [List.getElem?_take_of_lt hm]; exact hz'))
    simpa using q
end
end Rd
namespace Rd
open PySem PySem.Spec PyProof.Rows L2
mutual
inductive Dv (K : PySem.W.Frag) (H : Hp) : V → PyData → Prop
  | non : Dv K H .non .none
  | bl (b : Bool) : Dv K H (.bl b) (.bool b)
  | int (i : Int) : Dv K H (.int i) (.int i)
  | str (x : Str) : Dv K H (.str x) (.str x)
  | lst {a : Addr} {xs : List V} {ds : List PyData} : SqL K H a xs → DvAll K H xs ds → Dv K H (.ref a) (.list ds)
  | tup {a : Addr} {xs : List V} {ds : List PyData} : SqT K H a xs → DvAll K H xs ds → Dv K H (.ref a) (.tuple ds)
  | dc0 {a : Addr} : H a = some (.dK []) → Dv K H (.ref a) (.dict [])
  | dc1 {a : Addr} {k : Str} {v : V} {d : PyData} : H a = some (.dK [(Sum.inr k, v)]) → Dv K H v d → Dv K H (.ref a) (.dict [(.str k, d)])
inductive DvAll (K : PySem.W.Frag) (H : Hp) : List V → List PyData → Prop
  | nil : DvAll K H [] []
  | cons {v : V} {vs : List V} {d : PyData} {ds : List PyData} : Dv K H v d → DvAll K H vs ds → DvAll K H (v :: vs) (d :: ds)
end
/-- data no deeper than n, with short lists -/
inductive Fd : Nat → PyData → Prop
  | non {n : Nat} : Fd n .none
  | bl {n : Nat} (b : Bool) : Fd n (.bool b)
  | int {n : Nat} (i : Int) : Fd n (.int i)
  | str {n : Nat} (s : Str) : Fd n (.str s)
  | lst {n : Nat} {ds : List PyData} : ds.length ≤ 100000 → (∀ d ∈ ds, Fd n d) → Fd (n + 1) (.list ds)
  | tup {n : Nat} {ds : List PyData} : ds.length ≤ 100000 → (∀ d ∈ ds, Fd n d) → Fd (n + 1) (.tuple ds)
  | dc0 {n : Nat} : Fd (n + 1) (.dict [])
  | dc1 {n : Nat} {k : Str} {d : PyData} : Fd n d → Fd (n + 1) (.dict [(.str k, d)])
theorem Fd.mono {n m : Nat} {d : PyData} (h : Fd n d) (k : n ≤ m) : Fd m d := by
  induction h generalizing m with
  | non => exact .non
  | bl b => exact .bl b
  | int i => exact .int i
  | str s => exact .str s
  | lst l _ ih =>
    cases m with
    | zero => omega
    | succ m => exact .lst l fun d hd => ih d hd (by omega)
  | tup l _ ih =>
    cases m with
    | zero => omega
    | succ m => exact .tup l fun d hd => ih d hd (by omega)
  | dc0 =>
    cases m with
    | zero => omega
    | succ m => exact .dc0
  | dc1 _ ih =>
    cases m with
    | zero => omega
    | succ m => exact .dc1 (ih (by omega))
section
variable {K : PySem.W.Frag} {H H' : Hp} {Q : VK}
theorem va_len : ∀ {vs : List V} {ds : List PyData}, DvAll K H vs ds → vs.length = ds.length
  | _, _, .nil => rfl
  | _, _, .cons _ r => by rw [List.length_cons, List.length_cons, va_len r]
theorem va_at : ∀ (vs : List V) (ds : List PyData) (i : Nat) (d : PyData), DvAll K H vs ds → ds[i]? = some d → ∃ v, vs[i]? = some v ∧ Dv K H v d
  | _, [], _, _, _, e => by simp at e
  | [], _ :: _, _, _, h, _ => by cases h
  | v :: _, _ :: _, 0, _, h, e => by
    cases h with
    | cons a _ =>
      cases e
      exact ⟨v, rfl, a⟩
  | _ :: vs, _ :: ds, i + 1, d, h, e => by
    cases h with
    | cons _ r =>
      obtain ⟨v, ev, dv⟩ := va_at vs ds i d r (by simpa using e)
      exact ⟨v, by simpa using ev, dv⟩
mutual
theorem dv_same (e : Same H H') : ∀ {v : V} {d : PyData}, Dv K H v d → Dv K H' v d
  | _, _, .non => .non
  | _, _, .bl b => .bl b
  | _, _, .int i => .int i
  | _, _, .str s => .str s
  | _, _, .lst h r => .lst (e.seq h) (va_same e r)
  | _, _, .tup h r => .tup (sqT_same e h) (va_same e r)
  | _, _, .dc0 h => .dc0 (e _ _ h)
  | _, _, .dc1 h r => .dc1 (e _ _ h) (dv_same e r)
theorem va_same (e : Same H H') : ∀ {v : List V} {d : List PyData}, DvAll K H v d → DvAll K H' v d
  | _, _, .nil => .nil
  | _, _, .cons h r => .cons (dv_same e h) (va_same e r)
end
def tnv : PyData → String
  | .none => "NoneType"
  | .bool _ => "bool"
  | .int _ => "int"
  | .str _ => "str"
  | .list _ => "list"
  | .tuple _ => "tuple"
  | .dict _ => "dict"
theorem dv_ty {x : V} {d : PyData} (h : Dv K H x d) : TyX K H x (.type (tnv d)) := by
  cases h with
  | non => exact .base .non
  | bl b => exact .base (.bl b)
  | int i => exact .base (.int i)
  | str s => exact .base (.str s)
  | lst h _ => exact tyL' h
  | tup h _ => exact tyT' h
  | dc0 h => exact .base (.dK h)
  | dc1 h _ => exact .base (.dK h)
theorem tyD' {a : Addr} {kvs : List (Key × V)} (h : H a = some (.dK kvs)) : TyX K H (.ref a) (.type "dict") := .base (.dK h)
/-- len of a list, a tuple, a dict -/
def rLenA (K : PySem.W.Frag) : List V → Hp → VK → Prop := fun xs H Q => ∃ (p : Addr) (n : Nat), xs = [.ref p] ∧ ((∃ ys, (SqL K H p ys ∨ SqT K H p ys) ∧ n = ys.length) ∨ ∃ kvs, H p = some (.dK kvs) ∧ n = kvs.length) ∧ Q (.int n) H
theorem q_lenA {X : Cx} : CallR X (.builtin "len") (rLenA X.K) := by
  intro pins s σ H xs us Q I r h
  obtain ⟨p, n, rfl, h | h, q⟩ := h
  · obtain ⟨ys, h, rfl⟩ := h
    exact q_len pins s σ H _ us Q I r ⟨p, ys, rfl, h, q⟩
  · obtain ⟨kvs, h, rfl⟩ := h
    exact call_lenD pins s σ H _ us Q I r ⟨p, kvs, rfl, h, q⟩
theorem lenAs {p : Addr} {ys : List V} (h : SqL K H p ys ∨ SqT K H p ys) (q : Q (.int ys.length) H) : rLenA K [.ref p] H Q := ⟨p, _, rfl, .inl ⟨ys, h, rfl⟩, q⟩
theorem lenAd {p : Addr} {kvs : List (Key × V)} (h : H p = some (.dK kvs)) (q : Q (.int kvs.length) H) : rLenA K [.ref p] H Q := ⟨p, _, rfl, .inr ⟨kvs, h, rfl⟩, q⟩
theorem din {td : TE} {σ : L2.St} {ty : TE} (h : ty σ H fun y H1 => td σ H1 fun x H2 => ∃ a o, x = .ref a ∧ DGet H2 a y o ∧ Q (.bl (!o.isSome)) H2) : tDNotIn ty td σ H Q := h
theorem dget {td ty : TE} {σ : L2.St} (h : td σ H fun x H1 => ty σ H1 fun y H2 => ∃ a v, x = .ref a ∧ DGet H2 a y (some v) ∧ Q v H2) : tDGet td ty σ H Q := h
def rListDk : List V → Hp → VK → Prop := fun xs H Q => ∃ (a : Addr) (kvs : List (Key × V)), xs = [.ref a] ∧ Rd H a (.dK kvs) ∧ ∀ p, H p = none → Q (.ref p) (upd H p (.lst (kvs.map fun kv => kV kv.1)))
theorem q_listDk {X : Cx} (hc : X.calm = true) : CallR X (.type "list") rListDk := call_listD hc
theorem listDk {a : Addr} {kvs : List (Key × V)} {zs : List V} (h : H a = some (.dK kvs)) (e : (kvs.map fun kv => kV kv.1) = zs) (q : ∀ p, H p = none → Q (.ref p) (upd H p (.lst zs))) : rListDk [.ref a] H Q := by
  subst e
  exact ⟨a, kvs, rfl, .inl h, q⟩
end
end Rd
namespace Rd
open PySem PySem.Spec PyProof.Rows L2
theorem q_lenAK {X : Cx} {K : PySem.W.Frag} (h : X.K = K) : CallR X (.builtin "len") (rLenA K) := h ▸ q_lenA
end Rd
namespace Rd
open PySem PySem.Spec PyProof.Rows L2
theorem bb_isinstance : bootBuiltins "isinstance" = some (.builtin "isinstance") := by decide +kernel
theorem bb_int : bootBuiltins "int" = some (.type "int") := by decide +kernel
theorem bb_bool : bootBuiltins "bool" = some (.type "bool") := by decide +kernel
theorem bb_str : bootBuiltins "str" = some (.type "str") := by decide +kernel
theorem bb_list : bootBuiltins "list" = some (.type "list") := by decide +kernel
theorem bb_tuple : bootBuiltins "tuple" = some (.type "tuple") := by decide +kernel
theorem bb_dict : bootBuiltins "dict" = some (.type "dict") := by decide +kernel
theorem bb_ValueError : bootBuiltins "ValueError" = some (.type "ValueError") := by decide +kernel
theorem bb_max : bootBuiltins "max" = some (.builtin "max") := by decide +kernel
theorem bb_min : bootBuiltins "min" = some (.builtin "min") := by decide +kernel
theorem bb_sorted : bootBuiltins "sorted" = some (.builtin "sorted") := by decide +kernel
theorem bb_all : bootBuiltins "all" = some (.builtin "all") := by decide +kernel
end Rd
namespace Rd
open PySem PySem.Spec PyProof.Rows L2
theorem q_sortedSK {X : Cx} {K : PySem.W.Frag} (h : X.K = K) : CallR X (.builtin "sorted") (rSortedS K) := h ▸ cr_sortedS
end Rd
namespace Rd
open PySem PySem.Spec PyProof.Rows L2
theorem dget_k {H : Hp} {a : Addr} {k : Str} {v : V} (h : H a = some (.dK [(Sum.inr k, v)])) : DGet H a (.str k) (some v) := by
  have e : valV [((Sum.inr k : Key), v)] (Sum.inr k) = some v := by simp [valV]
  exact .inl ⟨_, Sum.inr k, .inl h, rfl, e.symm⟩
theorem someF {v : V} {A B : Prop} (h : B) : if (!(some v).isSome) = true then A else B := h
theorem itup {K : PySem.W.Frag} {te : TE} {σ : L2.St} {H : Hp} {R : It → Hp → Prop} (h : te σ H fun x H1 => ∃ a, x = .ref a ∧ (∃ xs, SqT K H1 a xs) ∧ R (Itt K a) H1) : iTup K te σ H R := h
theorem extup {K : PySem.W.Frag} {H : Hp} {p : Addr} {ys : List V} {P' : Addr → Prop} (h : SqT K H p ys) (g : P' p) : ∃ a, V.ref p = V.ref a ∧ (∃ zs, SqT K H a zs) ∧ P' a := ⟨p, rfl, ⟨ys, h⟩, g⟩
end Rd
namespace OwnC
open PySem PySem.W
section
variable {prog : Program} {w : World} {A : Around} {E : Value → Shared → Prop} {s : Shared} {K : Frag} {x C f : Addr} {ox : Obj} {od : Option Obj} {y : Value}
theorem contains_K {Q : Bool → Shared → Prop} (X : K.In s.heap) (I : InstAt s.heap x ox C od) (hs : findIn K (.ref C) "__contains__" = some (some (.ref f))) (hf : isFn K (.ref f) = true)
    (h : wpAny (model prog w) A (call (.ref f) [.ref x, y]) (fun r s' => ∃ b, r = .bool b ∧ Q b s') E s) : wpAny (model prog w) A (contains (.ref x) y) Q E s := by
  unfold contains
  refine wpAny_holding ?_
  rw [stdlibNamesSay?_ref]
  refine wpAny_bind (wpAny_bind (I.type.here ((looks_findIn X hs).here ?_)))
  show wpAny _ A (if (some (Value.ref f) == some Value.none) = true then _ else _) Q E s
  rw [if_neg (by simp)]
  refine wpAny_bind ?_
  unfold callSpecialUnlessNone?
  refine wpAny_bind (wpAny_bind (I.type.here ((looks_findIn X hs).here ?_)))
  refine wpAny_holding (wpAny_bind ((bind_fn X _ (beq_iff_eq.mp hf)).here ?_))
  show wpAny _ A (if (Value.ref f == Value.none) = true then _ else _) _ E s
  rw [if_neg (by simp)]
  refine wpAny_bind (wpAny_mono h (fun v s' hv => ?_) fun _ _ e => e)
  obtain ⟨b, rfl, q⟩ := hv
  exact wpAny_pure (wpAny_truthy_bool q)
end
end OwnC
namespace L2
open PySem PySem.Spec PyProof.Rows
def rNiO (C : Addr) (sp : Sp) (E : XK) : R2 := fun x y H Q => ∃ a dx fs, y = .ref a ∧ H a = some (.ins C dx fs) ∧ sp [.ref a, x] H (fun v H' => ∃ b, v = .bl b ∧ Q (.bl (!b)) H') E
section
variable {X : Cx} {CX : CXT} {C f : Addr} {fd : FuncData} {ps : List Str} {sp : Sp} {k : Nat} {E : XK}
theorem own_in {pins : List (Addr × Obj)} {s : Shared} {σ : St} {H : Hp} {x : V} {a dx : Addr} {fs : List (Str × V)} {u : Value} {R : Bool → VK} (F : FnOk X.prog X.w X.K X.mg X.base CX k f fd ps sp) (hr : Room k X.A)
    (hs : PySem.W.findIn X.K (.ref C) "__contains__" = some (some (.ref f))) (hf : PySem.W.isFn X.K (.ref f) = true) (hb : Binds X.K fd ps []) (hx : Passes CX X E)
    (I : Inv X pins σ H s) (ha : H a = some (.ins C dx fs)) (rx : RelV x u) (h : sp [.ref a, x] H (fun v H' => ∃ b, v = .bl b ∧ R b (.bl b) H') E) :
    wpAny (model X.prog X.w) X.A (contains (.ref a) u) (fun b s' => ∃ H', Inv X pins σ H' s' ∧ R b (.bl b) H') X.xe s := by
  obtain ⟨mA, J, _⟩ := ins_get I.hok ha
  obtain ⟨od, J, _⟩ := J.look
  refine OwnC.contains_K I.kIn J hs hf ?_
  refine wpAny_mono (run_fn (us := [.ref a, u]) (vs := [.ref a, x]) F hr hb .nil hx I (.cons rfl (.cons rx .nil)) h) (fun r s' q => ?_) fun _ _ e => e
  obtain ⟨v, H', I', rv, b, rfl, q⟩ := q
  cases rv
  exact ⟨b, rfl, H', I', q⟩
theorem op_niOwn (F : FnOk X.prog X.w X.K X.mg X.base CX k f fd ps sp) (hr : Room k X.A)
    (hs : PySem.W.findIn X.K (.ref C) "__contains__" = some (some (.ref f))) (hf : PySem.W.isFn X.K (.ref f) = true) (hb : Binds X.K fd ps []) (hx : Passes CX X E) : OpR X (compareOp .NotIn) (rNiO C sp E) := by
  intro pins s σ H x y v u Q I rx ry h
  obtain ⟨a, dx, fs, rfl, ha, q⟩ := h
  cases ry
  show wpAny _ _ (do return Value.bool (!(← contains (.ref a) v))) _ _ _
  refine wpAny_bind (wpAny_mono (own_in (R := fun b v H' => Q (.bl (!b)) H') F hr hs hf hb hx I ha rx q) (fun b s' z => ?_) fun _ _ e => e)
  obtain ⟨H', I', q⟩ := z
  exact wpAny_pure ⟨.bl (!b), H', I', rfl, q⟩
end
end L2
namespace Rd
open PySem PySem.Spec PyProof.Rows L2
section
variable {P : Program} {w : World} {K : PySem.W.Frag} {mg : Str → Option Value} {base : Heap}
/-- a def of a class, which R finds, stands as the text says -/
def DefR (K : PySem.W.Frag) (R : Addr → Prop) (x qual : Str) (st : Stmt) (ps : List Str) : Prop := ∃ f fd dvs, R f ∧ FunD K x qual (defArgs st) (defBody st) (defScope st) dvs [] f fd ∧ Binds K fd ps []
/-- a def of a class, which R finds, keeps this promise; it may raise -/
def CalR (P : Program) (w : World) (K : PySem.W.Frag) (mg : Str → Option Value) (base : Heap) (k : Nat) (R : Addr → Prop) (ps : List Str) (sp : Sp) : Prop :=
  ∃ f fd, R f ∧ FnOk P w K mg base (L2N.CX P w) k f fd ps sp ∧ Binds K fd ps []
theorem DefR.ok {R : Addr → Prop} {x qual : Str} {st : Stmt} {ps N : List Str} {k : Nat} {sp : Sp} (F : DefR K R x qual st ps) (S : FnScope N ps (defScope st)) (len : ∀ vs H Q E, sp vs H Q E → vs.length = ps.length)
    (body : ∀ (f : Addr) (cdv : Value) (A : Around) (outer : List Env) (s : Shared) (H : Hp) (vs : List V) (Q : VK) (E : XK), Room k (A.deeper (envOfC qual (defScope st) s.heap.objs.size f cdv)) → sp vs H Q E →
      ∃ t, PSs (cxOf (L2N.CX P w) P w K mg base N qual (defScope st) f cdv A outer s H E) (defBody st) t ∧ t ⟨fun _ H' => Q .non H', Q, fun _ _ => False, fun _ _ => False⟩ (L2.start N vs) H) : CalR P w K mg base (k + 1) R ps sp := by
  obtain ⟨f, fd, dvs, r, F, b⟩ := F
  exact ⟨f, fd, r, F.ok S len (fun cdv A outer s H vs Q E hr h => body f cdv A outer s H vs Q E hr h), b⟩
theorem quietN {X : Cx} : Passes (L2N.CX X.prog X.w) X E0 := fun _ _ _ _ _ _ _ h => by
  obtain ⟨_, _, _, _, _, _, _, _, _, _, _, _, h⟩ := h
  exact h.elim
end
def PropR (K : PySem.W.Frag) (C : Addr) (f : Str) : Addr → Prop := fun g => ∃ p, PropOf K C f p g
def InR (K : PySem.W.Frag) (C : Addr) : Addr → Prop := fun g => PySem.W.findIn K (.ref C) "__contains__" = some (some (.ref g)) ∧ PySem.W.isFn K (.ref g) = true
section
variable {X : Cx} {k j : Nat} {C : Addr} {ps : List Str} {sp : Sp} {E : XK} {f m : Str}
theorem pe_propR {e : Expr} {pos : Pos} {ta : TE} (F : CalR X.prog X.w X.K X.mg X.base j (PropR X.K C f) ps sp) (he : PE X e ta) (c : Cls X.K C) (hr : Room k X.A) (hk : j + 1 ≤ k := by decide)
    (hab : attributeBase e f X.env (eval e X.env) = eval e X.env := by rfl) : PE X (.Attribute e f pos) (tProp C sp [] E0 ta) := by
  obtain ⟨g, fd, ⟨p, r⟩, F, b⟩ := F
  exact pe_prop he c r F (hr.mono hk) b .nil quietN hab
theorem pe_makeR {e : Expr} {es : List Expr} {p pos : Pos} {t : TA} {x : Str} (F : CalR X.prog X.w X.K X.mg X.base j (Mk X.K C) ps sp) (hm : X.mg x = some (.ref C)) (hr : Room k X.A) (ha : PA X (e :: es) t) (hk : j + 1 ≤ k := by decide) (hg : Gl X x := by rfl)
    (hdb : (x == ("__debug__" : Str)) = false := by decide) (he : starEach (e :: es) X.env = (false, eval e X.env) :: starEach es X.env := by rfl) (hpl : (backTo pos (starEach es X.env)).any (·.1) = false := by rfl) :
    PE X (.Call (.Name x p) (e :: es) [] pos) (tMake C sp [] E0 t) := by
  obtain ⟨g, fd, r, F, b⟩ := F
  exact pe_make r F (hr.mono hk) hg hm b .nil quietN ha hdb he hpl
theorem op_niR (F : CalR X.prog X.w X.K X.mg X.base j (InR X.K C) ps sp) (hr : Room k X.A) (hk : j ≤ k := by decide) : OpR X (compareOp .NotIn) (rNiO C sp E0) := by
  obtain ⟨g, fd, ⟨r, i⟩, F, b⟩ := F
  exact op_niOwn F (hr.mono hk) r i b quietN
end
/-- the class x: its name, no class attribute of its fields' names -/
structure ClsF (K : PySem.W.Frag) (mg : Str → Option Value) (D : Str → Addr) (x : Str) (fs : List Str) : Prop where
  cl : Cls K (D x)
  na : ∀ f ∈ fs, NoAttr K (D x) f
  mg : mg x = some (.ref (D x))
end Rd
namespace L2
open PySem PySem.Spec PyProof.Rows
end L2
namespace Rd
open PySem PySem.Spec PyProof.Rows L2
end Rd
namespace L2
open PySem PySem.Spec PyProof.Rows
end L2
namespace Rd
open PySem PySem.Spec PyProof.Rows L2
end Rd
namespace Hk
open PySem PySem.Spec PyProof.Rows L2 Rd
structure DD where
  loc : PySem.W.Frag → Addr
  name : Str
  qual : Str
  st : Stmt
  dfl : List He.Dv
  kwd : List (Str × He.Dv)
def fdAt (K : PySem.W.Frag) (a : Addr) : Option FuncData := match K.lookup a with
  | some ob => (match ob.data with
    | .func g => some g
    | _ => none)
  | none => none
abbrev Face := Str × Str × Arguments × FuncBody × Scope × Addr × List (Str × Addr) × Addr
def face (g : FuncData) : Face := ⟨g.name, g.qualname, g.params, g.body, g.scope, g.globals, g.closure, g.builtins⟩
def DD.face (d : DD) : Face := ⟨d.name, d.qual, defArgs d.st, .stmts (defBody d.st), defScope d.st, mainGlobals, [], builtinsNs⟩
def DD.vs (K : PySem.W.Frag) (d : DD) : List V := d.dfl.map (He.Dv.v K)
def DD.ks (K : PySem.W.Frag) (d : DD) : List (Str × V) := d.kwd.map fun q => (q.1, He.Dv.v K q.2)
def DD.fine (K : PySem.W.Frag) (d : DD) : Bool := PySem.W.keepIn K (.ref (d.loc K)) && (match fdAt K (d.loc K) with
  | some g => PySem.W.codeIn K g.code d.qual && (He.dflB K g.defaults (d.vs K) && He.kwdB K g.kwdefaults (d.ks K))
  | none => false)
theorem fdAt_ok {K : PySem.W.Frag} {a : Addr} {g : FuncData} (h : fdAt K a = some g) : ∃ oc od osl, K.lookup a = some ⟨oc, od, .func g, osl⟩ := by
  unfold fdAt at h
  cases q : K.lookup a with
  | none => rw [q] at h; cases h
  | some ob =>
    obtain ⟨oc, od, dt, osl⟩ := ob
    rw [q] at h
    cases dt with
    | func z =>
      have e : z = g := Option.some.inj h
      subst e
      exact ⟨oc, od, osl, rfl⟩
    | _ => cases h
theorem DD.funD {K : PySem.W.Frag} {d : DD} (e : (fdAt K (d.loc K)).map Hk.face = some d.face) (c : d.fine K = true) :
    ∃ fd, FunD K d.name d.qual (defArgs d.st) (defBody d.st) (defScope d.st) (d.vs K) (d.ks K) (d.loc K) fd := by
  obtain ⟨kp, c2⟩ := He.ba c
  cases q : fdAt K (d.loc K) with
  | none => rw [q] at e; cases e
  | some g =>
    rw [q] at e c2
    obtain ⟨oc, od, osl, lk⟩ := fdAt_ok q
    obtain ⟨g1, g2, g3, g4, g5, g6, g7, g8, g9, g10, g11, g12, g13, g14, g15⟩ := g
    have e2 : ((g1, g2, g3, g4, g5, g6, g7, g15) : Face) = (d.name, d.qual, defArgs d.st, .stmts (defBody d.st), defScope d.st, mainGlobals, [], builtinsNs) := Option.some.inj e
    simp only [Prod.mk.injEq] at e2
    obtain ⟨i1, i2, i3, i4, i5, i6, i7, i8⟩ := e2
    subst i1 i2 i3 i4 i5 i6 i7 i8
    obtain ⟨c3, c4⟩ := He.ba (show (PySem.W.codeIn K g13 d.qual && (He.dflB K g8 (d.vs K) && He.kwdB K g9 (d.ks K))) = true from c2)
    obtain ⟨c5, c6⟩ := He.ba c4
    exact ⟨_, ⟨⟨oc, od, g8, g9, g10, g11, g12, g13, g14, osl, rfl, lk, c3, He.dflB_ok c5, He.kwdB_ok c6⟩, kp⟩⟩
section
variable {K : PySem.W.Frag} {mg : Str → Option Value} {x qual : Str} {st : Stmt} {ps : List Str} {f : Addr} {fd : FuncData} {R : Addr → Prop}
theorem toFun (F : FunD K x qual (defArgs st) (defBody st) (defScope st) [] [] f fd) : Fun K x qual st f fd := by
  obtain ⟨oc, od, dV, kV, doc, pm, an, cdv, ct, osl, e, lk, hcd, hD, _⟩ := F.ex
  rcases hD with ⟨_, rfl⟩ | ⟨n, _⟩
  · exact ⟨⟨oc, od, kV, doc, pm, an, cdv, ct, osl, e, lk, hcd⟩, F.kp⟩
  · exact absurd rfl n
/-- a def of the top -/
theorem toDef (F : ∃ fd, FunD K x x (defArgs st) (defBody st) (defScope st) [] [] f fd) (m : mg x = some (.ref f))
    (hb : ∀ (kV doc pm : Value) (an : Option Addr) (cdv ct : Value) (us : List Value), us.length = ps.length → bindArgs (PySem.W.fnOf x x (defArgs st) (defBody st) (defScope st) .none kV doc pm an cdv ct) ⟨us, []⟩ = pure (ps.zip us)) : Def K mg x st ps := by
  obtain ⟨fd, F⟩ := F
  exact ⟨f, fd, toFun F, m, (toFun F).binds hb⟩
/-- a def of a class -/
theorem toDefR (r : R f) (F : ∃ fd, FunD K x qual (defArgs st) (defBody st) (defScope st) [] [] f fd)
    (hb : ∀ (kV doc pm : Value) (an : Option Addr) (cdv ct : Value) (us : List Value), us.length = ps.length → bindArgs (PySem.W.fnOf x qual (defArgs st) (defBody st) (defScope st) .none kV doc pm an cdv ct) ⟨us, []⟩ = pure (ps.zip us)) : DefR K R x qual st ps := by
  obtain ⟨fd, F⟩ := F
  exact ⟨f, fd, [], r, F, (toFun F).binds hb⟩
/-- .. with defaults, all arguments given -/
theorem toDefR2 {vs : List V} (hv : vs ≠ []) (r : R f) (F : ∃ fd, FunD K x qual (defArgs st) (defBody st) (defScope st) vs [] f fd)
    (hb : ∀ (T : Addr) (kV doc pm : Value) (an : Option Addr) (cdv ct : Value) (us its : List Value), us.length = ps.length → its.length = vs.length →
      ∃ k, bindArgs (PySem.W.fnOf x qual (defArgs st) (defBody st) (defScope st) (.ref T) kV doc pm an cdv ct) ⟨us, []⟩ = seqItems? (.ref T) >>= k ∧ k (some its.toArray) = pure (ps.zip us)) : DefR K R x qual st ps := by
  obtain ⟨fd, F⟩ := F
  obtain ⟨ds, a, b⟩ := F.binds1 (ps := ps) ps.length vs.length hv (by omega) fun T kV doc pm an cdv ct us its h1 h2 => by
    obtain ⟨k, e1, e2⟩ := hb T kV doc pm an cdv ct us its h1 h2
    refine ⟨k, e1, ?_⟩
    rw [e2, List.drop_of_length_le (by rw [h2]; exact Nat.le_refl _), List.append_nil]
  rw [List.drop_of_length_le (Nat.le_refl _)] at a
  cases a
  exact ⟨f, fd, vs, r, F, b⟩
end
def init (K : PySem.W.Frag) (x : Str) : Addr := He.ma K (He.ga K x) "__init__"
def oexB (K : PySem.W.Frag) (C : Addr) : Bool := match K.lookup C with
  | some ⟨.type t, _, .cls cd, sl⟩ => t == "type" && (cd.hasDict && (!cd.hasDel && (match cd.mro with
    | .ref a :: bm => a == C && PySem.HandSPX.refsVE bm
    | _ => false))) && (match sl.toList with
      | [_, _, _, _, some (.builtin z), _] => z == "ValueError.__new__"
      | _ => false)
  | _ => false
theorem oexB_ok {K : PySem.W.Frag} {C : Addr} (h : oexB K C = true) :
    ∃ nm q N bs bm sn sub ab col dd k0 k1 k2 k3 k5, K.lookup C = some (excClassObj nm q C N bs bm true sn sub ab col dd k0 k1 k2 k3 k5 "ValueError.__new__") ∧ PySem.HandSPX.refsVE bm = true := by
  unfold oexB at h
  cases q : K.lookup C with
  | none => rw [q] at h; cases h
  | some ob =>
    obtain ⟨oc, od, dt, sl⟩ := ob
    rw [q] at h
    cases oc with
    | type t =>
      cases dt with
      | cls cd =>
        obtain ⟨h1, h2⟩ := He.ba h
        obtain ⟨h3, h4⟩ := He.ba h1
        obtain ⟨h5, h6⟩ := He.ba h4
        obtain ⟨h7, h8⟩ := He.ba h6
        obtain ⟨nm, bs, mro, ns, qn, hd, sn, sub, ab, col, del⟩ := cd
        dsimp only at h5 h7 h8
        obtain ⟨l⟩ := sl
        cases mro with
        | nil => cases h8
        | cons v bm =>
          cases v with
          | ref a =>
            obtain ⟨j1, j2⟩ := He.ba h8
            have ea : a = C := eq_of_beq j1
            subst ea
            have ed : del = false := by
              cases del
              · rfl
              · cases h7
            subst h5 ed
            have et : t = "type" := eq_of_beq h3
            subst et
            dsimp only at h2
            split at h2
            · rename_i k0 k1 k2 k3 z k5
              have ez : z = "ValueError.__new__" := eq_of_beq h2
              subst ez
              exact ⟨nm, qn, ns, bs, bm, sn, sub, ab, col, od, k0, k1, k2, k3, k5, rfl, j2⟩
            · cases h2
          | _ => cases h8
      | _ => cases h
    | _ => cases dt <;> cases h
/-- an error class with the field f -/
def errB (K : PySem.W.Frag) (q : Str × Str) : Bool :=
  oexB K (He.ga K q.1) && (He.eqO (PySem.W.findIn K (.ref (He.ga K q.1)) "__setattr__") (some (some (.builtin "object.__setattr__"))) && (decide (PySem.W.subIn K (.ref (He.ga K q.1)) (.type "BaseException") = some true) &&
  (decide (PySem.W.typeIn K (.ref (He.ga K q.1)) = some (.type "type")) && (PySem.W.keepIn K (.ref (He.ga K q.1)) && (xfB K (He.ga K q.1) && ((PySem.W.clsIn K (He.ga K q.1)).isSome &&
  (He.eqO (PySem.W.findIn K (.ref (He.ga K q.1)) "__class__") (some (some (.builtin "object.__class__"))) && (decide (PySem.W.mroIn K (He.ga K q.1) (.type "object") = some true) &&
  (He.eqO (PySem.W.findIn K (.ref (He.ga K q.1)) "code") (some none) && (He.eqO (PySem.W.findIn K (.ref (He.ga K q.1)) q.2) (some none) && (He.eqO (PySem.W.findIn K (.ref (He.ga K q.1)) "__init__") (some (some (.ref (init K q.1)))) &&
  (decide (PySem.W.typeIn K (.ref (init K q.1)) = some (.type "function")) && He.eqO (PySem.W.nsIn K mainGlobals q.1) (some (some (.ref (He.ga K q.1))))))))))))))))
structure ErrK (K : PySem.W.Frag) (x f : Str) : Prop where
  ox : OexC K (He.ga K x)
  xf : XfC K (He.ga K x)
  xk : Ho.XkC K (He.ga K x)
  no1 : PySem.W.findIn K (.ref (He.ga K x)) "code" = some none
  no2 : PySem.W.findIn K (.ref (He.ga K x)) f = some none
  ini : PySem.W.findIn K (.ref (He.ga K x)) "__init__" = some (some (.ref (init K x)))
  ty : PySem.W.typeIn K (.ref (init K x)) = some (.type "function")
  gl : PySem.W.nsIn K mainGlobals x = some (some (.ref (He.ga K x)))
theorem errB_ok {K : PySem.W.Frag} {x f : Str} (h : errB K (x, f) = true) : ErrK K x f := by
  obtain ⟨a1, h⟩ := He.ba h
  obtain ⟨a2, h⟩ := He.ba h
  obtain ⟨a3, h⟩ := He.ba h
  obtain ⟨a4, h⟩ := He.ba h
  obtain ⟨a5, h⟩ := He.ba h
  obtain ⟨a6, h⟩ := He.ba h
  obtain ⟨a7, h⟩ := He.ba h
  obtain ⟨a8, h⟩ := He.ba h
  obtain ⟨a9, h⟩ := He.ba h
  obtain ⟨a10, h⟩ := He.ba h
  obtain ⟨a11, h⟩ := He.ba h
  obtain ⟨a12, h⟩ := He.ba h
  obtain ⟨a13, a14⟩ := He.ba h
  exact ⟨⟨oexB_ok a1, He.eqO_ok a2, of_decide_eq_true a3, of_decide_eq_true a4, a5⟩, xfB_ok a6, ⟨a7, He.eqO_ok a8, of_decide_eq_true a9⟩, He.eqO_ok a10, He.eqO_ok a11, He.eqO_ok a12, of_decide_eq_true a13, He.eqO_ok a14⟩
/-- what is caught of the error x: its kind among names, its bases -/
def kndB (K : PySem.W.Frag) (names : List Str) (top x : Str) : Bool :=
  (names.all fun y => decide (PySem.W.kitOne K (.ref (He.ga K x)) (.ref (He.ga K y)) = some (decide (y = x)))) && (decide (PySem.W.kitOne K (.ref (He.ga K x)) (.type "ValueError") = some true) &&
  (decide (PySem.W.exmOne K (.ref (He.ga K x)) (.ref (He.ga K top)) = some true) && decide (PySem.W.exmOne K (.ref (He.ga K x)) (.ref (He.ga K x)) = some true)))
def xkoB (K : PySem.W.Frag) : Bool := He.eqO (PySem.W.specialIn K (.builtin "object.__class__") "__get__") (some (some (.builtin "getset_descriptor.__get__"))) && decide (PySem.W.takesIn K (.builtin "object.__class__") = some true)
theorem xkoB_ok {K : PySem.W.Frag} (h : xkoB K = true) : Ho.XkO K := ⟨He.eqO_ok (He.ba h).1, of_decide_eq_true (He.ba h).2⟩
structure KndK (K : PySem.W.Frag) (names : List Str) (top x : Str) : Prop where
  is : ∀ y ∈ names, PySem.W.kitOne K (.ref (He.ga K x)) (.ref (He.ga K y)) = some (decide (y = x))
  ve : PySem.W.kitOne K (.ref (He.ga K x)) (.type "ValueError") = some true
  xm : PySem.W.exmOne K (.ref (He.ga K x)) (.ref (He.ga K top)) = some true
  xs : PySem.W.exmOne K (.ref (He.ga K x)) (.ref (He.ga K x)) = some true
theorem kndB_ok {K : PySem.W.Frag} {names : List Str} {top x : Str} (h : kndB K names top x = true) : KndK K names top x := by
  obtain ⟨a1, h⟩ := He.ba h
  obtain ⟨a2, h⟩ := He.ba h
  obtain ⟨a3, a4⟩ := He.ba h
  exact ⟨fun y hy => of_decide_eq_true (List.all_eq_true.mp a1 y hy), of_decide_eq_true a2, of_decide_eq_true a3, of_decide_eq_true a4⟩
theorem knd {K : PySem.W.Frag} {names : List Str} {top x f : Str} (e : ErrK K x f) (k : KndK K names top x) (o : Ho.XkO K) : Ho.Knd K (He.ga K) names (He.ga K x) x f := ⟨e.xf, e.xk, o, e.no2, e.no1, k.is, k.ve⟩
/-- a property of the class x, its getter -/
def pget (K : PySem.W.Frag) (x f : Str) : Addr := match PySem.W.recIn K (He.ma K (He.ga K x) f) "property" with
  | some (.ref g :: _) => g
  | _ => 0
def propB (K : PySem.W.Frag) (q : Str × Str) : Bool := He.eqO (PySem.W.findIn K (.ref (He.ga K q.1)) q.2) (some (some (.ref (He.ma K (He.ga K q.1) q.2)))) && (He.eqO (PySem.W.specialIn K (.ref (He.ma K (He.ga K q.1) q.2)) "__get__") (some (some (.builtin "property.__get__"))) &&
  (decide (PySem.W.takesIn K (.ref (He.ma K (He.ga K q.1) q.2)) = some true) && (match PySem.W.recIn K (He.ma K (He.ga K q.1) q.2) "property" with
    | some (.ref _ :: _) => true
    | _ => false)))
theorem propB_ok {K : PySem.W.Frag} {x f : Str} (h : propB K (x, f) = true) : PropR K (He.ga K x) f (pget K x f) := by
  obtain ⟨a1, h⟩ := He.ba h
  obtain ⟨a2, h⟩ := He.ba h
  obtain ⟨a3, h⟩ := He.ba h
  refine ⟨He.ma K (He.ga K x) f, He.eqO_ok a1, He.eqO_ok a2, of_decide_eq_true a3, ?_⟩
  unfold pget
  dsimp only at h
  split at h
  · rename_i g rest q
    rw [q]
    exact ⟨rest, rfl⟩
  · cases h
/-- a def of the class x that Python itself asks for -/
def ownB (K : PySem.W.Frag) (q : Str × Str) : Bool := He.eqO (PySem.W.findIn K (.ref (He.ga K q.1)) q.2) (some (some (.ref (He.ma K (He.ga K q.1) q.2)))) && PySem.W.isFn K (.ref (He.ma K (He.ga K q.1) q.2))
theorem ownB_ok {K : PySem.W.Frag} {x m : Str} (h : ownB K (x, m) = true) : PySem.W.findIn K (.ref (He.ga K x)) m = some (some (.ref (He.ma K (He.ga K x) m))) ∧ PySem.W.isFn K (.ref (He.ma K (He.ga K x) m)) = true := ⟨He.eqO_ok (He.ba h).1, (He.ba h).2⟩
def isiB (K : PySem.W.Frag) (x : Str) : Bool := He.eqO (PySem.W.findIn K (.ref (He.ga K x)) "__class__") (some (some (.builtin "object.__class__"))) && (xkoB K && decide (PySem.W.mroIn K (He.ga K x) (.type "object") = some true))
structure Ask where
  fa : List He.Fa
  ds : List DD
  errs : List (Str × Str)
  kinds : List Str
  top : Str
  caught : List Str
  props : List (Str × Str)
  owns : List (Str × Str)
  isis : List Str
def Ask.rest (a : Ask) (K : PySem.W.Frag) : Bool := (a.caught.all fun x => kndB K a.kinds a.top x) && ((a.props.all fun q => propB K q) && ((a.owns.all fun q => ownB K q) && ((a.isis.all fun x => isiB K x) && xkoB K)))
def Ask.look (a : Ask) (K : PySem.W.Frag) : Bool := (a.fa.all fun f => f.ok K) && ((a.ds.all fun d => d.fine K) && ((a.errs.all fun q => errB K q) && a.rest K))
abbrev Pic := Bool × List (Option Face)
def Ask.pic (a : Ask) (K : PySem.W.Frag) : Pic := ⟨a.look K, a.ds.map fun d => (fdAt K (d.loc K)).map face⟩
def Ask.due (a : Ask) : Pic := ⟨true, a.ds.map fun d => some d.face⟩
def Ask.Says (a : Ask) (K : PySem.W.Frag) : Prop := a.pic K = a.due
/-- what an object leads to: a def's code and defaults, a class's names, a property's getter -/
def leads (o : Obj) : List Addr := match o.data with
  | .dict es _ => es.toList.flatMap fun e => He.refV e.val
  | .func f => He.refV f.code ++ (He.refV f.defaults ++ He.refV f.kwdefaults)
  | .cls c => [c.ns]
  | .seq its _ => its.toList.flatMap He.refV
  | .fields vs => (match o.cls with
    | .type t => (match t == "property" with
      | true => vs.toList.flatMap He.refV
      | false => [])
    | _ => [])
  | _ => []
def levels (g : Addr → Option Obj) : Nat → List Addr → List Addr
  | 0, as => as
  | n + 1, as => as ++ levels g n (as.flatMap fun b => match g b with
    | some o => leads o
    | none => [])
def KK (g : Addr → Option Obj) (n : Nat) : PySem.W.Frag := He.frG g (levels g n [mainGlobals])
def Ask.at_ (a : Ask) (n : Nat) (g : Addr → Option Obj) : Pic := a.pic (KK g n)
def hook (n : Nat) (a : Ask) : PySem.W.Hook := ⟨Pic, fun s => a.at_ n s.heap.get?, fun _ => a.due, fun _ h => ∃ K : PySem.W.Frag, K.In h ∧ a.Says K, fun _ _ e => ⟨_, He.frG_in, e⟩, fun _ _ _ ⟨K, i, c⟩ k => ⟨K, PySem.W.Frag.In.keeps i k, c⟩⟩
theorem at_eq {n : Nat} {a : Ask} {g : Addr → Option Obj} {s : Shared} (h : ∀ b, g b = s.heap.get? b) : a.at_ n g = (hook n a).obs s := by
  have e : g = s.heap.get? := funext h
  rw [e]
  rfl
section
variable {a : Ask} {K : PySem.W.Frag} (c : a.Says K)
include c
theorem Ask.Says.l : a.look K = true := congrArg (fun z : Pic => z.1) c
theorem Ask.Says.fact {f : He.Fa} (h : f ∈ a.fa) : f.ok K = true := List.all_eq_true.mp (He.ba c.l).1 f h
theorem Ask.Says.df {d : DD} (h : d ∈ a.ds) : ∃ fd, FunD K d.name d.qual (defArgs d.st) (defBody d.st) (defScope d.st) (d.vs K) (d.ks K) (d.loc K) fd := by
  have e : a.ds.map (fun d => (fdAt K (d.loc K)).map Hk.face) = a.ds.map fun d => some d.face := congrArg (fun z : Pic => z.2) c
  obtain ⟨i, hi, e1⟩ := List.mem_iff_getElem.mp h
  have e2 : (a.ds.map fun d => (fdAt K (d.loc K)).map Hk.face)[i]? = (a.ds.map fun d => some d.face)[i]? := by rw [e]
  rw [List.getElem?_map, List.getElem?_map, List.getElem?_eq_getElem hi, e1] at e2
  exact DD.funD (Option.some.inj e2) (List.all_eq_true.mp (He.ba (He.ba c.l).2).1 d h)
theorem Ask.Says.r : a.rest K = true := (He.ba (He.ba (He.ba c.l).2).2).2
theorem Ask.Says.err {x f : Str} (h : (x, f) ∈ a.errs) : ErrK K x f := errB_ok (List.all_eq_true.mp (He.ba (He.ba (He.ba c.l).2).2).1 _ h)
theorem Ask.Says.knd {x : Str} (h : x ∈ a.caught) : KndK K a.kinds a.top x := kndB_ok (List.all_eq_true.mp (He.ba c.r).1 _ h)
theorem Ask.Says.prop {x f : Str} (h : (x, f) ∈ a.props) : PropR K (He.ga K x) f (pget K x f) := propB_ok (List.all_eq_true.mp (He.ba (He.ba c.r).2).1 _ h)
theorem Ask.Says.own {x m : Str} (h : (x, m) ∈ a.owns) : PySem.W.findIn K (.ref (He.ga K x)) m = some (some (.ref (He.ma K (He.ga K x) m))) ∧ PySem.W.isFn K (.ref (He.ma K (He.ga K x) m)) = true := ownB_ok (List.all_eq_true.mp (He.ba (He.ba (He.ba c.r).2).2).1 _ h)
theorem Ask.Says.xo : Ho.XkO K := xkoB_ok (He.ba (He.ba (He.ba (He.ba c.r).2).2).2).2
end
section
open PySem.W HandSHeadRun
noncomputable abbrev behind (r : OpenRow) (M : Nat) (w : World) (os : OsState) : Option SharedT := endF (stepQ (denQ tabQ) r.prog w) M r.prog w os
theorem run_of {r : OpenRow} {q : Program} {M n : Nat} {loose : List PySem.Str} {w : World} {a : Ask}
    (h1 : ∀ os, (behind r M w os).map (fun s => (looksF r.prog (boot_heap w.params) s.abs, seenQ q loose (importedModules r.prog.main.body) (fun s => xlAt q [] s && recOk r.toRowW.records s) s.abs)) = some (true, openGood q loose))
    (h2 : ∀ os, (behind r M w os).map (fun s => a.fa.all fun f => f.ok (KK (getT s) n)) = some true)
    (h3 : ∀ os, (behind r M w os).map (fun s => a.ds.all fun d => d.fine (KK (getT s) n)) = some true)
    (h4 : ∀ os, (behind r M w os).map (fun s => a.errs.all fun q => errB (KK (getT s) n) q) = some true)
    (h5 : ∀ os, (behind r M w os).map (fun s => a.rest (KK (getT s) n)) = some true)
    (h6 : ∀ os, (behind r M w os).map (fun s => a.ds.map fun d => (fdAt (KK (getT s) n) (d.loc (KK (getT s) n))).map face) = some (a.ds.map fun d => some d.face)) :
    RunEq r q (hook n a) (fun s => a.at_ n (getT s)) M loose w := by
  intro os
  have h1 := h1 os
  have h2 := h2 os
  have h3 := h3 os
  have h4 := h4 os
  have h5 := h5 os
  have h6 := h6 os
  unfold behind at h1 h2 h3 h4 h5 h6
  cases e : endF (stepQ (denQ tabQ) r.prog w) M r.prog w os with
  | none => rw [e] at h2; cases h2
  | some s =>
    rw [e] at h1 h2 h3 h4 h5 h6
    have h1 := Option.some.inj h1
    have h2 : (a.fa.all fun f => f.ok (KK (getT s) n)) = true := Option.some.inj h2
    have h3 : (a.ds.all fun d => d.fine (KK (getT s) n)) = true := Option.some.inj h3
    have h4 : (a.errs.all fun q => errB (KK (getT s) n) q) = true := Option.some.inj h4
    have h5 : a.rest (KK (getT s) n) = true := Option.some.inj h5
    have h6 : (a.ds.map fun d => (fdAt (KK (getT s) n) (d.loc (KK (getT s) n))).map face) = a.ds.map fun d => some d.face := Option.some.inj h6
    have h7 : a.look (KK (getT s) n) = true := by
      unfold Ask.look
      rw [h2, h3, h4, h5]
      rfl
    have h8 : a.at_ n (getT s) = a.due := Prod.ext h7 h6
    have ha := congrArg Prod.fst h1
    have hb := congrArg Prod.snd h1
    exact congrArg some (Prod.ext ha (Prod.ext hb h8))
end
section
variable {P : Program} {w : World} {K : PySem.W.Frag} {mg : Str → Option Value} {base : Heap}
theorem ost {K : PySem.W.Frag} {f : Str} {to te : TE} {D : Ends} {σ : L2.St} {H : Hp} (h : te σ H fun y H1 => to σ H1 fun x H2 => ∃ a C : Addr, x = .ref a ∧ OexC K C ∧ PySem.W.findIn K (.ref C) f = some none ∧
    ((H2 a = some (exo a C none) ∧ ∀ dx, H2 dx = none → dx ≠ a → D.nx σ (upd (upd H2 dx (exd dx [(f, y)])) a (exo a C (some dx)))) ∨
      ∃ (dx : Addr) (fs : List (Str × V)), H2 a = some (exo a C (some dx)) ∧ H2 dx = some (exd dx fs) ∧ fs.length ≤ 900 ∧ D.nx σ (upd H2 dx (exd dx ((f, y) :: fs))))) : tOst K f to te D σ H := h
def clsInit (s : Stmt) : Stmt := match s with
  | .ClassDef _ _ _ body _ _ _ _ _ _ _ => body.getD 0 (.Pass ⟨0, 0, 0, 0⟩)
  | _ => .Pass ⟨0, 0, 0, 0⟩
theorem errC {x f : Str} {ps : List Str} (e : ErrK K x f) (gl : mg x = some (.ref (He.ga K x))) (ok : ∃ fd, FnOk P w K mg base CX0 1 (init K x) fd ["self", f] (Ho.spInit K (He.ga K x) x f) ∧ Binds K fd ["self", f] []) : Ho.ErrC P w K mg base x (He.ga K x) f := by
  obtain ⟨fd, F, b⟩ := ok
  exact ⟨gl, e.ox, e.xf, e.no1, e.no2, init K x, fd, e.ini, e.ty, F, b⟩
end
theorem walk_w {l : PySem.W.OpenLaw} {q : Program} {loose : List Str} {XP : (Str → Option Value) → Heap → Prop} {n k : Nat} {d : DefRec} {CX : World → CXT} {a : Ask} {j : Nat}
    (hn : l.most = some n) (hs : n ≤ sizeLine) (hd : d.params.defaults = []) (hr : Room k callerA) (hc : ∀ (w : World) (H : Hp) (s : Shared) (e : Value) (s' : Shared), CX w [] H s (fun _ _ _ => False) e s' → False)
    (F : ∀ (w : World) (mg : Str → Option Value) (fa : Addr) (h : Heap) (K : PySem.W.Frag), K.In h → a.Says K → h.Ns mainGlobals mg → mg d.name = some (.ref fa) →
      ∃ (fd : FuncData) (sp : Sp), (∀ (s : Shared) (u : Value), BindsTo s fd ⟨[u], []⟩ [("script", u)]) ∧
        (∀ (H : Hp) (b : Addr) (ns : List Int), ns.length ≤ n → SqL K H b (ns.map V.int) → sp [.ref b] H (fun v _ => v = .bl true) fun _ _ _ => False) ∧ ∀ base : Heap, K.In base → base.Ns mainGlobals mg → FnOk l.prog w K mg base (CX w) k fa fd ["script"] sp) :
    PySem.W.WalkO q loose XP (hook j a).says l.row.toRowW d [] (fun f vs => PySem.call f vs) := by
  refine Att.attach_call hn hd fun w s0 s1 mg mb fa o pm cd doc b vs ns G Y h1 h2 h3 h4 h5 h6 h7 h8 => ?_
  obtain ⟨K, KX, c⟩ := Y
  obtain ⟨fd, sp, hb, hq, ok⟩ := F w mg fa _ K KX c G.T.g h4
  refine law_call KX G.T.g G.T.b G.T.builtins G.T.nolimit h8 h5 h6 (Nat.le_trans h7 hs) hr ok hb (fun H _ hS => hq H b ns h7 hS) ?_
  exact fun H e s' z => hc w H s1 e s' z
end Hk
namespace Hk
theorem all_nil {α : Type} {Φ : α → Prop} : ∀ q ∈ ([] : List α), Φ q := fun _ h => nomatch h
theorem all_cons {α : Type} {Φ : α → Prop} {p : α} {l : List α} (h : Φ p) (t : ∀ q ∈ l, Φ q) : ∀ q ∈ p :: l, Φ q := fun q hq => (List.mem_cons.mp hq).elim (fun e => e ▸ h) (t q)
end Hk
namespace Rd
open PySem PySem.Spec PyProof.Rows L2
section
variable {P : Program} {w : World} {K : PySem.W.Frag} {mg : Str → Option Value} {base : Heap}
/-- the two ways of a call: without the keywords; with all of them -/
structure KwB (K : PySem.W.Frag) (fd : FuncData) (ps : List Str) (kws : List (Str × V)) : Prop where
  no : ∃ ds, Vals (kws.map (·.2)) ds ∧ Binds K fd ps ds
  all : KBn K fd ps (ps.length - kws.length) (kws.map (·.1)) (fun us ws => us ++ ws) (fun vs zs => vs ++ zs)
def DefK (K : PySem.W.Frag) (mg : Str → Option Value) (x : Str) (st : Stmt) (ps : List Str) (kws : List (Str × V)) : Prop :=
  ∃ f fd, FunD K x x (defArgs st) (defBody st) (defScope st) [] kws f fd ∧ mg x = some (.ref f) ∧ KwB K fd ps kws
def CalK (P : Program) (w : World) (K : PySem.W.Frag) (mg : Str → Option Value) (base : Heap) (k : Nat) (x : Str) (ps : List Str) (kws : List (Str × V)) (sp : Sp) : Prop :=
  ∃ f fd, FnOk P w K mg base (L2N.CX P w) k f fd ps sp ∧ mg x = some (.ref f) ∧ PySem.W.keepIn K (.ref f) = true ∧ KwB K fd ps kws
theorem DefK.ok {x : Str} {st : Stmt} {ps N : List Str} {kws : List (Str × V)} {k : Nat} {sp : Sp} (F : DefK K mg x st ps kws) (S : FnScope N ps (defScope st)) (len : ∀ vs H Q E, sp vs H Q E → vs.length = ps.length)
    (body : ∀ (f : Addr) (cdv : Value) (A : Around) (outer : List Env) (s : Shared) (H : Hp) (vs : List V) (Q : VK) (E : XK), Room k (A.deeper (envOfC x (defScope st) s.heap.objs.size f cdv)) → sp vs H Q E →
      ∃ t, PSs (cxOf (L2N.CX P w) P w K mg base N x (defScope st) f cdv A outer s H E) (defBody st) t ∧ t ⟨fun _ H' => Q .non H', Q, fun _ _ => False, fun _ _ => False⟩ (L2.start N vs) H) : CalK P w K mg base (k + 1) x ps kws sp := by
  obtain ⟨f, fd, F, m, b⟩ := F
  exact ⟨f, fd, F.ok S len fun cdv A outer s H vs Q E hr h => body f cdv A outer s H vs Q E hr h, m, F.kp, b⟩
end
section
variable {X : Cx} {k j : Nat} {E : L2.St → XK} {W : WX} {x : Str} {ps : List Str} {kws : List (Str × V)} {sp : Sp} {p pos : Pos} {e : Expr} {es : List Expr} {ks : List Keyword} {t tk : TA}
/-- without the keywords -/
def tCalK (kws : List (Str × V)) (sp : Sp) (E : L2.St → XK) (t : TA) : TE := fun σ H Q => t σ H fun vs H1 => sp (vs ++ kws.map (·.2)) H1 Q (E σ)
/-- with all keywords -/
def tCalKw (n m : Nat) (sp : Sp) (E : L2.St → XK) (t tk : TA) : TE := fun σ H Q => t σ H fun vs H1 => tk σ H1 fun zs H2 => vs.length = n ∧ zs.length = m ∧ sp (vs ++ zs) H2 Q (E σ)
theorem end_of {pins : List (Addr × Obj)} {σ : L2.St} {H : Hp} {s : Shared} {Q : VK} (hx : PassesAt (L2N.CX X.prog X.w) X σ (E σ)) (I : Inv X pins σ H s) (r : Result) (s' : Shared) (hq : CR (L2N.CX X.prog X.w) X.stack X.prog X.w H s Q (E σ) r s') :
    (match r with
      | .error e => X.xe e s'
      | .ok (.ret u) => EP X pins σ Q u s'
      | .ok _ => False) := by
  cases r with
  | error e => exact hx pins H s e s' I hq
  | ok fl =>
    cases fl with
    | ret u => exact I.after hq
    | next => exact hq
    | brk => exact hq
    | cont => exact hq
theorem pe_calK (C : CalK X.prog X.w X.K X.mg X.base j x ps kws sp) (hx : ∀ σ, PassesAt (L2N.CX X.prog X.w) X σ (E σ)) (hr : Room k X.A) (ha : PA X (e :: es) t) (hj : j ≤ k := by decide) (hg : Gl X x := by rfl)
    (hdb : (x == ("__debug__" : Str)) = false := by decide) (he : starEach (e :: es) X.env = (false, eval e X.env) :: starEach es X.env := by rfl) (hpl : (backTo pos (starEach es X.env)).any (·.1) = false := by rfl) :
    PE X (.Call (.Name x p) (e :: es) [] pos) (tCalK kws sp E t) := by
  obtain ⟨f, fd, F, m, kp, ⟨ds, hd, hb⟩, _⟩ := C
  refine ⟨fun pins s σ H Q I h => wpAny_Call_Name_kw (ld_glob I hg m ?_ hdb)⟩
  refine PySem.W.callWith_K (h₀ := X.base) I.ok.mod.kin kp (thn (ha.run pos pins s σ H _ I h) fun us s1 hh => ?_) he hpl
  obtain ⟨vs, H1, I1, r, q⟩ := hh
  refine ⟨I1.kIn, ?_⟩
  have r2 : Vals (vs ++ kws.map (·.2)) (us ++ ds) := r.append hd
  have hl : (us ++ ds).length = ps.length := r2.length.symm.trans (F.len _ _ _ _ q)
  refine wpAny_call (codeAny_mono (F.run X.A X.stack s1 H1 ⟨us, []⟩ (us ++ ds) _ Q (E σ) (hr.mono hj) I1.env0 (hb s1 us I1.kIn hl) r2 q) fun r s' hq => ?_)
  have z := end_of (hx σ) I1 r s' hq
  cases r with
  | error e => exact z
  | ok fl => cases fl <;> exact z
theorem pe_calKw (C : CalK X.prog X.w X.K X.mg X.base j x ps kws sp) (hx : ∀ σ, PassesAt (L2N.CX X.prog X.w) X σ (E σ)) (hr : Room k X.A) (ha : PA X (e :: es) t) (hkw : PK X ks tk) (hj : j ≤ k := by decide) (hg : Gl X x := by rfl)
    (hall : (backToKw pos (keywordEach ks X.env)).all (·.1.isSome) = true := by rfl) (hks : (backToKw pos (keywordEach ks X.env)).filterMap (·.1) = kws.map (·.1) := by rfl)
    (hdb : (x == ("__debug__" : Str)) = false := by decide) (he : starEach (e :: es) X.env = (false, eval e X.env) :: starEach es X.env := by rfl)
    (hpl : ((backTo pos (starEach (e :: es) X.env)).any (·.1) || (backToKw pos (keywordEach ks X.env)).any (·.1.isNone)) = false := by rfl) :
    PE X (.Call (.Name x p) (e :: es) ks pos) (tCalKw (ps.length - kws.length) (kws.map (·.1)).length sp E t tk) := by
  obtain ⟨f, fd, F, m, kp, _, hb⟩ := C
  refine ⟨fun pins s σ H Q I h => wpAny_Call_Name_kw (ld_glob I hg m ?_ hdb)⟩
  refine PySem.W.callWith_KW (h₀ := X.base) I.ok.mod.kin kp hall (thn (ha.run pos pins s σ H _ I h) fun us s1 hh => ?_) hpl he
  obtain ⟨vs, H1, I1, r, q⟩ := hh
  refine thn (hkw.run pos pins s1 σ H1 _ I1 q) fun ws s2 hh2 => ?_
  obtain ⟨zs, H2, I2, rz, l1, l2, q2⟩ := hh2
  refine ⟨I2.kIn, ?_⟩
  rw [hks]
  refine wpAny_call (codeAny_mono (F.run X.A X.stack s2 H2 ⟨us, (kws.map (·.1)).zip ws⟩ (us ++ ws) _ Q (E σ) (hr.mono hj) I2.env0 (hb.to s2 us ws I2.kIn (r.length.symm.trans l1) (rz.length.symm.trans l2)) (hb.rel r rz) q2) fun r s' hq => ?_)
  have z := end_of (hx σ) I2 r s' hq
  cases r with
  | error e => exact z
  | ok fl => cases fl <;> exact z
end
/-- both ways of a call of a def with one keyword-only parameter -/
theorem kwB1 {K : PySem.W.Frag} {x qual : Str} {params : Arguments} {body : List Stmt} {scope : Scope} {q : Str × V} {f : Addr} {fd : FuncData} {ps : List Str} (F : FunD K x qual params body scope [] [q] f fd) (hn : ps.length - 1 + 1 = ps.length)
    (h0 : ∀ (D : Addr) (doc pm : Value) (an : Option Addr) (cdv ct : Value) (us ks : List Value), us.length = ps.length - 1 → ks.length = 1 → KwChain D (([q].map (·.1)).zip ks) (bindArgs (PySem.W.fnOf x qual params body scope .none (.ref D) doc pm an cdv ct) ⟨us, []⟩) (ps.zip (us ++ ks)))
    (h1 : ∀ (D : Addr) (doc pm : Value) (an : Option Addr) (cdv ct : Value) (us ws : List Value), us.length = ps.length - 1 → ws.length = 1 → bindArgs (PySem.W.fnOf x qual params body scope .none (.ref D) doc pm an cdv ct) ⟨us, [q.1].zip ws⟩ = pure (ps.zip (us ++ ws))) : KwB K fd ps [q] := by
  refine ⟨?_, ?_⟩
  · obtain ⟨ds, a, b⟩ := F.binds0 (ps := ps) (ps.length - 1) (List.cons_ne_nil _ _) hn h0
    exact ⟨ds, a, b⟩
  · obtain ⟨mv, b⟩ := F.kbinds0 (ps := ps) (ps.length - 1) [q.1] [] (fun us _ ws => us ++ ws) (List.cons_ne_nil _ _) (fun _ h => nomatch h) (fun a _ b => a.append b) fun D doc pm an cdv ct us mv ws l1 _ l2 => h1 D doc pm an cdv ct us ws l1 l2
    exact b
end Rd
namespace Rd
open PySem PySem.Spec PyProof.Rows L2
/-- a text some times -/
def rRepZ : R2 := fun x y H Q => ∃ (z : Str) (n : Int), x = .str z ∧ y = .int n ∧ (z.length ≤ 1000 ∧ -1000 ≤ n ∧ n ≤ 1000) ∧ Q (.str (Txt.mul z n)) H
theorem mulOk {z : Str} {n : Int} (h : z.length ≤ 1000 ∧ -1000 ≤ n ∧ n ≤ 1000) : MulOk z n := by
  obtain ⟨h1, h2, h3⟩ := h
  refine ⟨?_, fun k _ => ?_, fun k _ => ?_⟩
  · rw [decide_eq_false (by omega), decide_eq_false (by omega)]
    rfl
  · have : (1000 : Int) ≤ (2 ^ 63 - 1) / n := Int.le_ediv_of_mul_le (by omega) (by omega)
    omega
  · have a : n.toNat ≤ 1000 := by omega
    have b : z.length * n.toNat ≤ 1000 * 1000 := Nat.mul_le_mul h1 a
    have c : (1000 * 1000 : Nat) ≤ sizeLine := by decide
    unfold Builtin.Str.tooLong
    exact decide_eq_false (by omega)
theorem op_rep_str {X : Cx} : OpR X (binaryOp .Mult) rRepZ := by
  intro pins s σ H x y v u Q I rx ry h
  obtain ⟨z, n, rfl, rfl, hz, q⟩ := h
  obtain ⟨t, rfl⟩ := rx
  obtain ⟨t', rfl⟩ := ry
  exact SB.mul (mulOk hz) fun t' k => ⟨.str _, H, I.tok _, ⟨_, rfl⟩, q⟩
def rLeZ : R2 := fun x y H Q => ∃ i j, x = .str i ∧ y = .str j ∧ Q (.bl (!decide (j.cps.toList < i.cps.toList))) H
theorem o_leZ {X : Cx} : OpR X (compareOp .LtE) rLeZ := op_le_str
section
variable {K : PySem.W.Frag} {σ σ' : L2.St} {H : Hp} {Q : VK} {a b' z : Str} {g : TG} {tb : TS} {tt : TT} {te : TE} {n b c : L2.St → Hp → Prop} {rr : VK} {vs : List Nat}
theorem repZ {n : Int} (h : z.length ≤ 1000 ∧ -1000 ≤ n ∧ n ≤ 1000) (q : Q (.str (Txt.mul z n)) H) : rRepZ (.str z) (.int n) H Q := ⟨z, n, rfl, rfl, h, q⟩
theorem leZ (h : Q (.bl (!decide (b'.cps.toList < a.cps.toList))) H) : rLeZ (.str a) (.str b') H Q := ⟨a, b', rfl, rfl, h⟩
theorem istr {R : It → Hp → Prop} (h : te σ H fun v H1 => ∃ x, v = .str x ∧ R (Its x) H1) : iStr te σ H R := h
theorem exstr {P : Str → Prop} (h : P z) : ∃ x, V.str z = V.str x ∧ P x := ⟨z, rfl, h⟩
theorem at_cl {i : Nat} {c : Nat} (h : z.cps[i]? = some c) : (cl z)[i]? = some c := by
  rw [Array.getElem?_toList]
  exact h
theorem forZ (Pv : Nat → L2.St → Hp → Prop) (h0 : Pv 0 σ H)
    (hs : ∀ i x σ H, (cl z)[i]? = some x → Pv i σ H → g (.str ⟨#[x]⟩) σ H fun σ2 H2 => tb ⟨Pv (i + 1), rr, n, Pv (i + 1)⟩ σ2 H2) (hd : ∀ σ H, Pv z.length σ H → n σ H) : ForB (Its z) g tb ⟨n, rr, b, c⟩ σ H := by
  refine L2.for_it (D := ⟨n, rr, b, c⟩) L2.walk_str Pv h0 (fun _ _ _ _ _ => trivial) (fun i x σ H H' hi p y => ?_) hd
  obtain ⟨rfl, c, hc, rfl⟩ := y
  exact hs i c σ H' (at_cl hc) p
theorem lcZ (f : ∀ L, H L = none → ∃ Pv : Nat → Hp → Prop, Pv 0 (upd H L (.lst [])) ∧ (∀ i x h, (cl z)[i]? = some x → Pv i h → Turn1 g tt te vs σ L (.str ⟨#[x]⟩) h (Pv (i + 1))) ∧ ∀ h, Pv z.length h → Q (.ref L) h) : LcB (Its z) g tt te vs σ H Q := fun L hL => by
  obtain ⟨Pv, h0, hs, hd⟩ := f L hL
  refine L2.lc_it (Qd := Q (.ref L)) L2.walk_str Pv h0 (fun _ _ _ _ => trivial) (fun i x h h' hi p y => ?_) hd
  obtain ⟨rfl, c, hc, rfl⟩ := y
  exact hs i c h' (at_cl hc) p
theorem allB {p : Addr} {bs : List Bool} (h : SqL K H p (bs.map V.bl)) (q : Q (.bl (bs.all id)) H) : rAll K [.ref p] H Q := ⟨p, bs, rfl, h, q⟩
end
theorem lt_one {a b : Nat} : ([a] < [b] : Prop) ↔ a < b := by
  simp [List.cons_lt_cons_iff]
theorem cutL (z : Str) (lo hi : Option Int) {n : Nat} (h : z.length ≤ n) : (cutS z lo hi).length ≤ n := Nat.le_trans (cutS_length z lo hi) h
theorem mulL {z : Str} {n : Int} {k m : Nat} (h : z.length ≤ k) (h2 : n ≤ m) : (Txt.mul z n).length ≤ k * m := by
  have e := len_mul z n
  have c : (((Txt.mul z n).length : Nat) : Int) ≤ (k : Int) * (m : Int) := by
    rw [e]
    split
    · rw [Int.mul_zero]
      exact Int.mul_nonneg (Int.natCast_nonneg _) (Int.natCast_nonneg _)
    · rename_i z0
      have z1 : ¬ n < 0 := fun y => z0 (decide_eq_true y)
      exact Int.mul_le_mul (by omega) h2 (by omega) (Int.natCast_nonneg _)
  rw [← Int.natCast_mul] at c
  exact Int.ofNat_le.mp c
def nw (H H' : Hp) : Hp := fun b => match H b with
  | none => H' b
  | some _ => none
theorem nw_at {H H' : Hp} {b : Addr} {o : HO} (h : nw H H' b = some o) : H b = none ∧ H' b = some o := by
  unfold nw at h
  cases e : H b with
  | none =>
    rw [e] at h
    exact ⟨rfl, h⟩
  | some u =>
    rw [e] at h
    cases h
theorem nw_mk {H H' : Hp} {b : Addr} {o : HO} (n : H b = none) (h : H' b = some o) : nw H H' b = some o := by
  unfold nw
  rw [n]
  exact h
theorem nw_sub {H H' G : Hp} (k : ∀ b o, H b = none → H' b = some o → G b = some o) : Same (nw H H') G := fun b o e => k b o (nw_at e).1 (nw_at e).2
theorem nw_in {H H' : Hp} : Same (nw H H') H' := nw_sub fun _ _ _ e => e
theorem del_in {H : Hp} {a : Addr} : Same (del H a) H := fun b o e => by
  by_cases z : b = a
  · rw [z, del_same] at e
    cases e
  · rw [del_ne z] at e
    exact e
theorem del_at {H : Hp} {a b : Addr} {o : HO} (h : del H a b = some o) : b ≠ a ∧ H b = some o := by
  refine ⟨fun z => ?_, del_in b o h⟩
  rw [z, del_same] at h
  cases h
theorem del_mk {H : Hp} {a b : Addr} {o : HO} (n : b ≠ a) (h : H b = some o) : del H a b = some o := (del_ne n).trans h
end Rd
namespace Rd
open PySem PySem.Spec PyProof.Rows L2
theorem cr_allK {X : Cx} {K : PySem.W.Frag} (h : X.K = K) (hc : X.calm = true) : CallR X (.builtin "all") (rAll K) := h ▸ cr_all hc
theorem ltA {c : Nat} : ((⟨#[c]⟩ : Str).cps.toList < ("a" : Str).cps.toList) ↔ c < 97 := by
  have e : ("a" : Str).cps.toList = [97] := by decide +kernel
  rw [e]
  exact lt_one
theorem gtZs {c : Nat} : (("z" : Str).cps.toList < (⟨#[c]⟩ : Str).cps.toList) ↔ 122 < c := by
  have e : ("z" : Str).cps.toList = [122] := by decide +kernel
  rw [e]
  exact lt_one
theorem lt0 {c : Nat} : ((⟨#[c]⟩ : Str).cps.toList < ("0" : Str).cps.toList) ↔ c < 48 := by
  have e : ("0" : Str).cps.toList = [48] := by decide +kernel
  rw [e]
  exact lt_one
theorem gt9 {c : Nat} : (("9" : Str).cps.toList < (⟨#[c]⟩ : Str).cps.toList) ↔ 57 < c := by
  have e : ("9" : Str).cps.toList = [57] := by decide +kernel
  rw [e]
  exact lt_one
/-- z is a name -/
def nmB (z : Str) : Bool := (decide (1 ≤ z.length) && decide (z.length ≤ 12)) && (((cl z)[0]?.any fun c => decide (Low c)) && (cl z).all fun c => decide (Aln c))
def nameD : PyData → Bool
  | .str z => nmB z
  | _ => false
theorem nmB_head {z : Str} {c : Nat} (h : (cl z)[0]? = some c) (n : ¬ Low c) : nmB z = false := by
  unfold nmB
  rw [h]
  show (_ && (decide (Low c) && _)) = false
  rw [decide_eq_false n, Bool.false_and, Bool.and_false]
theorem nmB_in {z : Str} {c : Nat} (h : c ∈ cl z) (n : ¬ Aln c) : nmB z = false := by
  unfold nmB
  have : ((cl z).all fun c => decide (Aln c)) = false := by
    rw [List.all_eq_false]
    exact ⟨c, h, by rw [decide_eq_false n]; exact Bool.false_ne_true⟩
  rw [this, Bool.and_false, Bool.and_false]
theorem nmB_big {z : Str} (h : z.length < 1 ∨ 12 < z.length) : nmB z = false := by
  unfold nmB
  rcases h with h | h
  · rw [decide_eq_false (show ¬ 1 ≤ z.length by omega), Bool.false_and, Bool.false_and]
  · rw [decide_eq_false (show ¬ z.length ≤ 12 by omega), Bool.and_false, Bool.false_and]
theorem nmB_all {z : Str} {c : Nat} (h1 : 1 ≤ z.length) (h2 : z.length ≤ 12) (h : (cl z)[0]? = some c) (l : Low c) : nmB z = (cl z).all fun c => decide (Aln c) := by
  unfold nmB
  rw [decide_eq_true h1, decide_eq_true h2, h]
  show (decide (Low c) && _) = _
  rw [decide_eq_true l, Bool.true_and]
theorem nm_head {z : Str} (h1 : 1 ≤ z.length) : ∃ c, (cl z)[0]? = some c := by
  have h : 0 < (cl z).length := by rw [cl_len]; omega
  exact ⟨_, List.getElem?_eq_getElem h⟩
end Rd
namespace Rd
open PySem PySem.Spec PyProof.Rows L2
end Rd
namespace Rd
open PySem PySem.Spec PyProof.Rows L2
section
variable {H : Hp} {Q : VK} {c : Nat}
theorem dec_not {p q : Prop} [Decidable p] [Decidable q] (h : p ↔ ¬ q) : (!decide p) = decide q := by
  by_cases hp : p
  · rw [decide_eq_true hp, decide_eq_false (h.mp hp)]
    rfl
  · rw [decide_eq_false hp, decide_eq_true (Decidable.not_not.mp fun z => hp (h.mpr z))]
    rfl
theorem leA (h : Q (.bl (decide (97 ≤ c))) H) : rLeZ (.str "a") (.str ⟨#[c]⟩) H Q := by
  refine leZ ?_
  rw [dec_not (q := 97 ≤ c) (ltA.trans (by omega))]
  exact h
theorem leZz (h : Q (.bl (decide (c ≤ 122))) H) : rLeZ (.str ⟨#[c]⟩) (.str "z") H Q := by
  refine leZ ?_
  rw [dec_not (q := c ≤ 122) (gtZs.trans (by omega))]
  exact h
theorem le0 (h : Q (.bl (decide (48 ≤ c))) H) : rLeZ (.str "0") (.str ⟨#[c]⟩) H Q := by
  refine leZ ?_
  rw [dec_not (q := 48 ≤ c) (lt0.trans (by omega))]
  exact h
theorem le9 (h : Q (.bl (decide (c ≤ 57))) H) : rLeZ (.str ⟨#[c]⟩) (.str "9") H Q := by
  refine leZ ?_
  rw [dec_not (q := c ≤ 57) (gt9.trans (by omega))]
  exact h
end
end Rd
namespace Rd
open PySem PySem.Spec PyProof.Rows L2
/-- a text is not too long -/
def Sz (d : PyData) : Prop := ∀ z, d = .str z → z.length ≤ 100000
theorem Sz.str {z : Str} (h : z.length ≤ 100000) : Sz (.str z) := fun _ e => by cases e; exact h
theorem raiseX {C : Addr} {x f : Str} {W : WX} {ta : TA} {D : Ends} {σ : L2.St} {H : Hp} (h : ta σ H fun vs H1 => ∃ y, vs = [y] ∧ ∀ d, H1 d = none → W (.ref C) (some d) σ (upd H1 d (.xd [(f, y), ("code", .str x)]))) : Ho.tRaise C x f W ta D σ H := h
theorem exone {y : V} {P' : V → Prop} (h : P' y) : ∃ z, [y] = [z] ∧ P' z := ⟨y, rfl, h⟩
theorem callS {sp : Sp} {E : L2.St → XK} {ts : TA} {σ : L2.St} {H : Hp} {Q : VK} (h : ts σ H fun vs H1 => sp vs H1 Q (E σ)) : tCallS sp E ts σ H Q := h
theorem callP {sp : Addr → Value → Option Addr → Sp} {a : Addr} {cls : Value} {d : Option Addr} {ts : TA} {σ : L2.St} {H : Hp} {Q : VK} (h : ts σ H fun vs H1 => sp a cls d vs H1 Q E0) : Ho.tCallP sp a cls d ts σ H Q := h
theorem xsX {K : PySem.W.Frag} {a : Addr} {cls : Value} {d : Option Addr} {f : Str} {te : TE} {σ : L2.St} {H : Hp} {Q : VK} (h : te σ H fun x H1 => x = .ref a ∧ ∃ (C dd : Addr) (fs : List (Str × V)) (v : V), cls = .ref C ∧ XfC K C ∧ PySem.W.findIn K (.ref C) f = some none ∧ d = some dd ∧ H1 dd = some (.xd fs) ∧ fs.lookup f = some v ∧ Q v H1) : Ho.tXs K a cls d f te σ H Q := h
theorem dnewX {σ : L2.St} {H : Hp} {Q : VK} (h : ∀ p, H p = none → Q (.ref p) (upd H p (.dK []))) : tDNewK σ H Q := h
theorem tyZ {K : PySem.W.Frag} {z : Str} {H : Hp} {B : Prop} (g : B) : tyV K "str" (.str z) H ∧ B := ⟨rfl, g⟩
end Rd
namespace Rd
open PySem PySem.Spec PyProof.Rows L2
theorem ltCps_iff : ∀ (a b : List Nat), ltCps a b = true ↔ a < b
  | [], [] => ⟨fun h => (nomatch h), fun h => absurd h (List.lt_irrefl _)⟩
  | [], _ :: _ => ⟨fun _ => List.nil_lt_cons _ _, fun _ => rfl⟩
  | _ :: _, [] => ⟨fun h => (nomatch h), fun h => absurd h (List.not_lt_nil _)⟩
  | a :: r, b :: t => by
    rw [List.cons_lt_cons_iff, ← ltCps_iff r t]
    show (decide (a < b) || (a == b && ltCps r t)) = true ↔ _
    simp
theorem ltCps_not {a b : List Nat} : ltCps a b = false ↔ ¬ a < b := by
  rw [← ltCps_iff]
  cases ltCps a b <;> simp
theorem not_lt_trans {a b c : List Nat} (h : ¬ b < a) (k : ¬ c < b) : ¬ c < a := List.le_trans (List.not_lt.mp h) (List.not_lt.mp k)
theorem rising_pw : ∀ (p : Str) (l : List Str), risingS p l = true → (p :: l).Pairwise (fun a b => ¬ cl b < cl a)
  | p, [], _ => List.pairwise_singleton _ _
  | p, x :: r, h => by
    have h : (!ltCps x.cps.toList p.cps.toList && risingS x r) = true := h
    obtain ⟨h1, h2⟩ := Bool.and_eq_true_iff.mp h
    have h1 : ltCps x.cps.toList p.cps.toList = false := by simpa using h1
    have ih := rising_pw x r h2
    refine List.pairwise_cons.mpr ⟨fun y hy => ?_, ih⟩
    rcases List.mem_cons.mp hy with rfl | hy
    · exact ltCps_not.mp h1
    · exact not_lt_trans (ltCps_not.mp h1) ((List.pairwise_cons.mp ih).1 y hy)
theorem sorted_pw : ∀ (l : List Str), sortedS l = true → l.Pairwise (fun a b => ¬ cl b < cl a)
  | [], _ => .nil
  | x :: r, h => rising_pw x r h
theorem le_antisymm' {a b : Str} (h : ¬ cl b < cl a) (k : ¬ cl a < cl b) : a = b := cl_inj (List.le_antisymm (List.not_lt.mp h) (List.not_lt.mp k))
/-- the sorted order is one -/
theorem sorted_one {ys zs : List Str} (p : ys.Perm zs) (h : sortedS ys = true) (k : sortedS zs = true) : ys = zs :=
  List.Perm.eq_of_pairwise (le := fun a b => ¬ cl b < cl a) (fun _ _ _ _ h k => le_antisymm' h k) (sorted_pw _ h) (sorted_pw _ k) p
def kd (ks : List Str) (f : Str → V) : List (Key × V) := ks.map fun z => (Sum.inr z, f z)
theorem kd_len {ks : List Str} {f : Str → V} : (kd ks f).length = ks.length := List.length_map _
theorem kd_keys {ks : List Str} {f : Str → V} : ((kd ks f).map fun kv => kV kv.1) = ks.map V.str := by
  unfold kd
  rw [List.map_map]
  rfl
theorem kd_get : ∀ {ks : List Str} {f : Str → V} {z : Str}, z ∈ ks → valV (kd ks f) (Sum.inr z) = some (f z)
  | k :: ks, f, z, h => by
    unfold kd valV
    rw [List.map_cons, List.find?_cons]
    by_cases e : k = z
    · subst e
      rw [decide_eq_true rfl]
      rfl
    · rw [decide_eq_false (by intro z'; exact e (Sum.inr.inj z'))]
      exact kd_get (ks := ks) (f := f) ((List.mem_cons.mp h).resolve_left (fun w => e w.symm))
theorem kd_none : ∀ {ks : List Str} {f : Str → V} {z : Str}, z ∉ ks → valV (kd ks f) (Sum.inr z) = none
  | [], _, _, _ => rfl
  | k :: ks, f, z, h => by
    unfold kd valV
    rw [List.map_cons, List.find?_cons]
    rw [decide_eq_false (by intro z'; exact h (by rw [Sum.inr.inj z']; exact List.mem_cons_self))]
    exact kd_none (ks := ks) (f := f) (fun w => h (List.mem_cons_of_mem _ w))
theorem kd_any {ks : List Str} {f : Str → V} {z : Str} : ((kd ks f).any fun kv => decide (kv.1 = (Sum.inr z : Key))) = decide (z ∈ ks) := by
  rw [Bool.eq_iff_iff, List.any_eq_true, decide_eq_true_iff]
  unfold kd
  constructor
  · rintro ⟨x, hx, e⟩
    obtain ⟨y, hy, rfl⟩ := List.mem_map.mp hx
    rw [← Sum.inr.inj (of_decide_eq_true e)]
    exact hy
  · intro h
    exact ⟨_, List.mem_map.mpr ⟨z, h, rfl⟩, decide_eq_true rfl⟩
theorem kd_put {ks : List Str} {f : Str → V} {z : Str} {v : V} (h : z ∈ ks) : putK (kd ks f) (Sum.inr z) v = kd ks (fun y => if y = z then v else f y) := by
  unfold putK
  rw [kd_any, decide_eq_true h, if_pos rfl]
  unfold kd
  rw [List.map_map]
  refine List.map_congr_left fun y _ => ?_
  show (if (Sum.inr y : Key) = Sum.inr z then _ else _) = _
  by_cases e : y = z
  · subst e
    rw [if_pos rfl]
    show _ = ((Sum.inr y : Key), if y = y then v else f y)
    rw [if_pos rfl]
  · rw [if_neg (fun w => e (Sum.inr.inj w))]
    show _ = ((Sum.inr y : Key), if y = z then v else f y)
    rw [if_neg e]
theorem kd_congr {ks : List Str} {f g : Str → V} (h : ∀ z ∈ ks, f z = g z) : kd ks f = kd ks g := List.map_congr_left fun y hy => by rw [h y hy]
theorem kd_new {ks : List Str} {f : Str → V} {z : Str} {v : V} (h : z ∉ ks) : putK (kd ks f) (Sum.inr z) v = kd (ks ++ [z]) (fun y => if y = z then v else f y) := by
  unfold putK
  rw [kd_any, decide_eq_false h, if_neg Bool.false_ne_true]
  unfold kd
  rw [List.map_append]
  congr 1
  · refine List.map_congr_left fun y hy => ?_
    show _ = ((Sum.inr y : Key), if y = z then v else f y)
    rw [if_neg (fun e => h (by rw [← e]; exact hy))]
  · show _ = [((Sum.inr z : Key), if z = z then v else f z)]
    rw [if_pos rfl]
/-- pairs of texts and values, as a dict -/
def kp (ps : List (Str × V)) : List (Key × V) := ps.map fun p => (Sum.inr p.1, p.2)
section
variable {K : PySem.W.Frag} {H : Hp} {Q : VK} {a b : Addr} {ks ls : List Str} {f g : Str → V} {z : Str} {v : V}
theorem dputK {P : Hp → Prop} (h : H a = some (.dK (kd ks f))) (m : z ∈ ks) (hz : ks.length ≤ 100000) (q : P (upd H a (.dK (kd ks fun y => if y = z then v else f y)))) : rSetD (.ref a) (.str z) v H P :=
  ⟨a, _, rfl, .inl ⟨_, Sum.inr z, h, rfl, by rw [kd_len]; exact sz5' hz, by rw [kd_put m]⟩, q⟩
theorem dnewK {P : Hp → Prop} (h : H a = some (.dK (kd ks f))) (m : z ∉ ks) (hz : ks.length ≤ 100000) (q : P (upd H a (.dK (kd (ks ++ [z]) fun y => if y = z then v else f y)))) : rSetD (.ref a) (.str z) v H P :=
  ⟨a, _, rfl, .inl ⟨_, Sum.inr z, h, rfl, by rw [kd_len]; exact sz5' hz, by rw [kd_new m]⟩, q⟩
theorem listDkd (h : H a = some (.dK (kd ks f))) (q : ∀ p, H p = none → Q (.ref p) (upd H p (.lst (ks.map V.str)))) : rListDk [.ref a] H Q := listDk h kd_keys q
end
theorem un1 {k : Nat} {A : Around} (r : Room k A) : A.units + 1 < cLine := by
  have := r.units
  omega
section
variable {K : PySem.W.Frag} {H : Hp} {Q : VK} {a b : Addr} {ks ls : List Str} {f : Str → V}
theorem lockE {t : TE} {σ : L2.St} {d : Addr} {kvs : List (Key × V)} (h : H d = some (.dK kvs)) (g : ∀ od, t σ (upd H d (.frz od (.dK kvs))) fun v H' => H' d = some (.frz od (.dK kvs)) ∧ Q v (upd H' d (.dK kvs))) : tLockE t σ H Q := ⟨d, _, h, True.intro, g⟩
end
end Rd
namespace PySem.SeqAt
open AutoSeq1 (wpAny_loadPart')
open MeetsSeq
end PySem.SeqAt
namespace Rd
open PySem PySem.Spec PyProof.Rows L2
end Rd
namespace Rd
open PySem PySem.Spec PyProof.Rows L2
theorem mul_one_cl (c : Nat) (n : Int) : cl (Txt.mul ⟨#[c]⟩ n) = List.replicate n.toNat c := by
  unfold Txt.mul
  by_cases h : n < 1
  · rw [if_pos h, show n.toNat = 0 by omega]
    rfl
  · rw [if_neg h]
    by_cases h1 : n = 1
    · subst h1
      rfl
    · rw [if_neg (by simp [h1]; show ¬ (1 : Nat) = 0; decide)]
      have e : ∀ (k : Nat) (a : Array Nat), ((List.replicate k (#[c] : Array Nat)).foldl (· ++ ·) a).toList = a.toList ++ List.replicate k c := by
        intro k
        induction k with
        | zero => intro a; simp
        | succ k ih =>
          intro a
          rw [List.replicate_succ, List.foldl_cons, ih, Array.toList_append, List.append_assoc, List.replicate_succ]
          rfl
      exact (e n.toNat #[]).trans (by simp)
theorem mul_one_len (c : Nat) (n : Int) : (Txt.mul ⟨#[c]⟩ n).length = n.toNat := by
  rw [← cl_len, mul_one_cl, List.length_replicate]
/-- a name of at most 12 signs -/
def NmS (z : Str) : Prop := Nm (cl z) ∧ z.length ≤ 12
theorem Nm.app {l r : List Nat} (h : Nm l) (k : ∀ x ∈ r, Aln x) : Nm (l ++ r) := by
  obtain ⟨c, s, rfl, hc, hs⟩ := h
  refine ⟨c, s ++ r, rfl, hc, fun x hx => ?_⟩
  rcases List.mem_append.mp hx with hx | hx
  · exact hs x hx
  · exact k x hx
theorem Nm.one {c : Nat} (h : Low c) : Nm (cl ⟨#[c]⟩) := ⟨c, [], rfl, h, fun _ h => nomatch h⟩
theorem nodup_rel {α : Type} {R : Nat → α → Prop} : ∀ {zs : List α} {n : Nat}, zs.length ≤ n → (∀ i z, zs[i]? = some z → R i z) → (∀ i j z, i < n → j < n → R i z → R j z → i = j) → zs.Nodup := by
  intro zs n hl hr inj
  refine List.pairwise_iff_getElem.mpr fun i j hi hj hij e => ?_
  have e1 := List.getElem?_eq_getElem hi
  have e2 := List.getElem?_eq_getElem hj
  rw [← e] at e2
  have := inj i j _ (by omega) (by omega) (hr i _ e1) (hr j _ e2)
  omega
theorem a26_len : ("abcdefghijklmnopqrstuvwxyz" : Str).length = 26 := by decide +kernel
theorem a36_len : ("0123456789abcdefghijklmnopqrstuvwxyz" : Str).length = 36 := by decide +kernel
theorem a26_nd : (cl ("abcdefghijklmnopqrstuvwxyz" : Str)).Nodup := by decide +kernel
theorem a36_nd : (cl ("0123456789abcdefghijklmnopqrstuvwxyz" : Str)).Nodup := by decide +kernel
theorem a36_cat : ("0123456789" : Str) ++ ("abcdefghijklmnopqrstuvwxyz" : Str) = "0123456789abcdefghijklmnopqrstuvwxyz" := by decide +kernel
theorem at_one {l : List Nat} (n : l.Nodup) {i j x : Nat} (h : l[i]? = some x) (k : l[j]? = some x) : i = j := by
  obtain ⟨hi, ei⟩ := List.getElem?_eq_some_iff.mp h
  obtain ⟨hj, ej⟩ := List.getElem?_eq_some_iff.mp k
  exact (List.getElem_inj n).mp (ei.trans ej.symm)
/-- steps that share no factor with 1296 -/
theorem step_one {s t i j : Int} (h : t = 1 ∨ t = 5 ∨ t = 7 ∨ t = 37 ∨ t = 1295) (i0 : 0 ≤ i) (i1 : i < 1296) (j0 : 0 ≤ j) (j1 : j < 1296) (e : (s + i * t) % 1296 = (s + j * t) % 1296) : i = j := by
  rcases h with rfl | rfl | rfl | rfl | rfl <;> omega
end Rd
namespace Ty
open PySem Rd
inductive Ky
  | h (x : Str)
  | a (l x y : Str)
deriving DecidableEq
def Ky.start : Ky → Str
  | .h x => x
  | .a _ x _ => x
def Ky.stop : Ky → Str
  | .h x => x
  | .a _ _ y => y
def Ky.words : Ky → List Str
  | .h x => [x]
  | .a l x y => [l, x, y]
def hsOf (ks : List Ky) : List Str := ks.filterMap fun k => match k with | .h x => some x | _ => none
def asOf (ks : List Ky) : List (Str × Str × Str) := ks.filterMap fun k => match k with | .a l x y => some (l, x, y) | _ => none
theorem hs_as_len : ∀ ks : List Ky, (hsOf ks).length + (asOf ks).length = ks.length
  | [] => rfl
  | .h x :: ks => by
    have := hs_as_len ks
    show (hsOf ks).length + 1 + (asOf ks).length = ks.length + 1
    omega
  | .a l x y :: ks => by
    have := hs_as_len ks
    show (hsOf ks).length + ((asOf ks).length + 1) = ks.length + 1
    omega
/-- a walk from s to t -/
def Ch : Str → List Ky → Str → Prop
  | s, [], t => s = t
  | s, k :: ks, t => k.start = s ∧ Ch k.stop ks t
structure T (ks : List Ky) : Prop where
  nm : ∀ k ∈ ks, ∀ n ∈ k.words, NmS n
  nd : ks.Nodup
  ne : ∀ l x y, .a l x y ∈ ks → x ≠ y
  rev : ∀ l x y, .a l x y ∈ ks → .a l y x ∈ ks
  one : ∀ l x y u v, .a l x y ∈ ks → .a l u v ∈ ks → (u = x ∧ v = y) ∨ (u = y ∧ v = x)
  hs : ∀ l x y, .a l x y ∈ ks → .h x ∈ ks
  cyc : ∃ s, Ch s ks s
  cnt : (hsOf ks).length * 2 = (asOf ks).length + 2
theorem T.pos {ks : List Ky} (h : T ks) : 0 < ks.length := by
  have a := h.cnt
  have b := hs_as_len ks
  omega
end Ty
namespace Ty
open PySem PySem.Spec PyProof.Rows L2 Rd
/-- a key's items -/
def kv : Ky → List Str
  | .h x => ["house", x]
  | .a l x y => ["arc", l, x, y]
/-- words that a program can hold -/
def OkK (k : Ky) : Prop := ∀ n ∈ k.words, PyData.strOk n = true
theorem nm_ok {z : Str} (h : NmS z) : PyData.strOk z = true := by
  unfold PyData.strOk
  obtain ⟨c, s, e, hc, hs⟩ := h.1
  rw [Array.all_eq_true_iff_forall_mem]
  intro x hx
  have hx : x ∈ cl z := Array.mem_toList_iff.mpr hx
  rw [e] at hx
  have hl : Low c → c < 0x110000 := fun h => by
    have := h.2
    omega
  have ha : ∀ x, Aln x → x < 0x110000 := fun x h => by
    rcases h with h | h <;> · have := h.2; omega
  rcases List.mem_cons.mp hx with rfl | hx
  · exact decide_eq_true (hl hc)
  · exact decide_eq_true (ha x (hs x hx))
theorem OkK.all {k : Ky} (h : OkK k) : ∀ n ∈ kv k, PyData.strOk n = true := by
  have e1 : PyData.strOk "house" = true := by decide +kernel
  have e2 : PyData.strOk "arc" = true := by decide +kernel
  intro n hn
  cases k with
  | h x =>
    rcases List.mem_cons.mp hn with rfl | hn
    · exact e1
    · exact h n hn
  | a l x y =>
    rcases List.mem_cons.mp hn with rfl | hn
    · exact e2
    · exact h n hn
/-- v is the key k -/
def KV (H : Hp) (v : V) (k : Ky) : Prop := OkK k ∧ ∃ t, v = .ref t ∧ H t = some (.tup ((kv k).map V.str))
def KVs (H : Hp) : List V → List Ky → Prop
  | [], [] => True
  | v :: vs, k :: ks => KV H v k ∧ KVs H vs ks
  | _, _ => False
theorem KV.same {H H' : Hp} {v : V} {k : Ky} (h : KV H v k) (s : Same H H') : KV H' v k := by
  obtain ⟨o, t, e, h⟩ := h
  exact ⟨o, t, e, s _ _ h⟩
theorem KVs.all {H H' : Hp} : ∀ {vs : List V} {ks : List Ky}, KVs H vs ks → (∀ v k, v ∈ vs → KV H v k → KV H' v k) → KVs H' vs ks
  | [], [], _, _ => trivial
  | v :: vs, k :: ks, h, s => ⟨s _ _ List.mem_cons_self h.1, KVs.all h.2 fun u j m => s u j (List.mem_cons_of_mem _ m)⟩
  | [], _ :: _, h, _ => h.elim
  | _ :: _, [], h, _ => h.elim
theorem KVs.same {H H' : Hp} {vs : List V} {ks : List Ky} (h : KVs H vs ks) (s : Same H H') : KVs H' vs ks := h.all fun _ _ _ k => k.same s
theorem KVs.len {H : Hp} : ∀ {vs : List V} {ks : List Ky}, KVs H vs ks → vs.length = ks.length
  | [], [], _ => rfl
  | v :: vs, k :: ks, h => by rw [List.length_cons, List.length_cons, KVs.len h.2]
  | [], _ :: _, h => h.elim
  | _ :: _, [], h => h.elim
theorem KVs.app {H : Hp} : ∀ {vs ws : List V} {ks js : List Ky}, KVs H vs ks → KVs H ws js → KVs H (vs ++ ws) (ks ++ js)
  | [], _, [], _, _, h => h
  | v :: vs, _, k :: ks, _, h, g => ⟨h.1, KVs.app h.2 g⟩
  | [], _, _ :: _, _, h, _ => h.elim
  | _ :: _, _, [], _, h, _ => h.elim
theorem KVs.cut {H : Hp} : ∀ {vs : List V} {ks : List Ky} (n : Nat), KVs H vs ks → KVs H (vs.take n) (ks.take n) ∧ KVs H (vs.drop n) (ks.drop n)
  | vs, ks, 0, h => ⟨trivial, h⟩
  | [], [], _ + 1, h => ⟨trivial, trivial⟩
  | v :: vs, k :: ks, n + 1, h => ⟨⟨h.1, (KVs.cut n h.2).1⟩, (KVs.cut n h.2).2⟩
  | [], _ :: _, _ + 1, h => h.elim
  | _ :: _, [], _ + 1, h => h.elim
theorem KVs.at {H : Hp} : ∀ {vs : List V} {ks : List Ky} {n : Nat} {v : V}, KVs H vs ks → vs[n]? = some v → ∃ k, ks[n]? = some k ∧ KV H v k
  | v :: vs, k :: ks, 0, _, h, e => by
    cases e
    exact ⟨k, rfl, h.1⟩
  | v :: vs, k :: ks, n + 1, _, h, e => KVs.at (n := n) h.2 e
  | [], [], _, _, _, e => nomatch e
  | [], _ :: _, _, _, h, _ => h.elim
  | _ :: _, [], _, _, h, _ => h.elim
theorem KVs.mem {H : Hp} {vs : List V} {ks : List Ky} {v : V} (h : KVs H vs ks) (m : v ∈ vs) : ∃ k ∈ ks, KV H v k := by
  obtain ⟨n, hn⟩ := List.mem_iff_getElem?.mp m
  obtain ⟨k, hk, e⟩ := h.at hn
  exact ⟨k, List.mem_of_getElem? hk, e⟩
variable {K : PySem.W.Frag}
theorem KVs.ok {H : Hp} : ∀ {vs : List V} {ks : List Ky}, KVs H vs ks → ∀ k ∈ ks, OkK k
  | [], [], _ => fun _ m => nomatch m
  | v :: vs, k :: ks, h => fun j m => (List.mem_cons.mp m).elim (fun e => e ▸ h.1.1) (KVs.ok h.2 j)
  | [], _ :: _, h => h.elim
  | _ :: _, [], h => h.elim
/-- at a a list of the keys ks -/
def KL (H : Hp) (a : Addr) (ks : List Ky) : Prop := ∃ vs, H a = some (.lst vs) ∧ KVs H vs ks
theorem KL.same {H H' : Hp} {a : Addr} {ks : List Ky} (h : KL H a ks) (s : Same H H') : KL H' a ks := by
  obtain ⟨vs, e, k⟩ := h
  exact ⟨vs, s _ _ e, k.same s⟩
theorem KL.ok {H : Hp} {a : Addr} {ks : List Ky} (h : KL H a ks) : ∀ k ∈ ks, OkK k := by
  obtain ⟨vs, _, k⟩ := h
  exact k.ok
theorem cut_from {xs : List V} (n : Nat) : cutV xs (some (n : Int)) none = xs.drop n := by
  unfold cutV
  rw [HT.sIx_nat, HT.sIx_none]
  by_cases l : n ≤ xs.length
  · rw [Nat.min_eq_left l, List.take_of_length_le (by rw [List.length_drop]; exact Nat.le_refl _)]
  · rw [Nat.min_eq_right (by omega), List.drop_of_length_le (Nat.le_refl _), List.drop_of_length_le (by omega), List.take_nil]
theorem cut_to {xs : List V} (n : Nat) : cutV xs none (some (n : Int)) = xs.take n := by
  unfold cutV
  rw [HT.sIx_nat, HT.sIx_none, List.drop_zero, Nat.sub_zero]
  by_cases l : n ≤ xs.length
  · rw [Nat.min_eq_left l]
  · rw [Nat.min_eq_right (by omega), List.take_of_length_le (Nat.le_refl _), List.take_of_length_le (by omega)]
end Ty
namespace Rd
open PySem PySem.Spec PyProof.Rows L2
theorem filterMap_succ {fs : Nat → Option V} {i : Nat} : (List.range (i + 1)).filterMap fs = (List.range i).filterMap fs ++ (fs i).toList := by
  rw [List.range_succ, List.filterMap_append]
  cases h : fs i <;> simp [h]
theorem filterMap_le {fs : Nat → Option V} {i : Nat} : ((List.range i).filterMap fs).length ≤ i := by
  have := List.length_filterMap_le fs (List.range i)
  rwa [List.length_range] at this
/-- one turn: what is told of it -/
def TurnW (g : TG) (tt : TT) (te : TE) (vs : List Nat) (σ : L2.St) (y0 : Option V) (x : V) (h h' : Hp) : Prop :=
  ∀ (L : Addr) (Nx : Hp → Prop), (∀ G y, y0 = some y → Same h G → ∃ out, G L = some (.lst out) ∧ out.length < sizeLine ∧ Nx (upd G L (.lst (out ++ [y])))) → (∀ G, y0 = none → Same h G → Nx G) → Turn1 g tt te vs σ L x h' Nx
theorem lcW {J : It} {n : Nat} {Gd : Hp → Prop} {Y : Nat → Hp → V → Hp → Prop} (w : L2.Walk J n Gd Y) {g : TG} {tt : TT} {te : TE} {vs : List Nat} {σ : L2.St} {H : Hp} {Q : VK} (fs : Nat → Option V) (hz : n ≤ 100000) (hG : ∀ h, Same H h → Gd h)
    (hs : ∀ i x h h', i < n → Same H h → Y i h x h' → TurnW g tt te vs σ (fs i) x h h')
    (hd : ∀ L G, H L = none → Same H G → G L = some (.lst ((List.range n).filterMap fs)) → Q (.ref L) G) : LcB J g tt te vs σ H Q := fun L hL => by
  have st : ∀ {G : Hp} {o : HO}, Same H G → Same H (upd G L o) := fun s b o e => (upd_ne (ne_of_none e hL)).trans (s b o e)
  refine L2.lc_it (Qd := Q (.ref L)) w (fun i h => Same H h ∧ h L = some (.lst ((List.range i).filterMap fs))) ⟨st (.refl H), upd_same⟩ (fun i h _ p => hG h p.1) (fun i x h h' hi p y => ?_) fun h p => hd L h hL p.1 p.2
  refine hs i x h h' hi p.1 y L _ (fun G y e s => ?_) fun G e s => ?_
  · refine ⟨_, s _ _ p.2, ?_, st (p.1.trans s), ?_⟩
    · have := filterMap_le (fs := fs) (i := i)
      have := sz5 (Nat.le_refl 100000)
      omega
    · rw [filterMap_succ, e]
      exact upd_same
  · refine ⟨p.1.trans s, ?_⟩
    rw [filterMap_succ, e]
    exact (s _ _ p.2).trans (by simp)
/-- over a list -/
theorem lcF {K : PySem.W.Frag} {a : Addr} {g : TG} {tt : TT} {te : TE} {vs : List Nat} {σ : L2.St} {H : Hp} {Q : VK} (xs : List V) (fs : Nat → Option V) (ha : SqL K H a xs) (hz : xs.length ≤ 100000)
    (hs : ∀ i x h, xs[i]? = some x → Same H h → TurnW g tt te vs σ (fs i) x h h)
    (hd : ∀ L G, H L = none → Same H G → G L = some (.lst ((List.range xs.length).filterMap fs)) → Q (.ref L) G) : LcB (Itl K a) g tt te vs σ H Q :=
  lcW walk_list fs hz (fun h s => s.seq ha) (fun i x h h' _ s y => by
    obtain ⟨rfl, e⟩ := y
    exact hs i x h' e s) hd
theorem pg_tupK {X : Cx} {K : PySem.W.Frag} {pos : Pos} {es : List Expr} {k : Nat} {t : TGs} {n : Nat} (hK : X.K = K) (hc : X.calm = true) (h : PGs X es t) (hn : (assignEach es X.env).length = n := by rfl)
    (hst : (assignEach es X.env).findIdx? (·.1) = none := by rfl) : PG X (.Tuple es k pos) (gTup K n t) := by
  subst hK
  exact pg_tup hc h hn hst
theorem op_notIn_seqK {X : Cx} {K : PySem.W.Frag} (hK : X.K = K) : OpR X (compareOp .NotIn) (rIn K true) := by
  subst hK
  exact op_notIn_seq
/-- what a filtered list of the items is -/
theorem fm_at {α β : Type} {f : α → Option β} : ∀ {xs : List α} {fs : Nat → Option β}, (∀ (i : Nat) (h : i < xs.length), fs i = f xs[i]) → (List.range xs.length).filterMap fs = xs.filterMap f
  | [], _, _ => rfl
  | x :: xs, fs, h => by
    have e := h 0 (Nat.zero_lt_succ _)
    have ih := fm_at (xs := xs) (fs := fun i => fs (i + 1)) fun i hi => h (i + 1) (Nat.succ_lt_succ hi)
    rw [List.length_cons, List.range_succ_eq_map, List.filterMap_cons, List.filterMap_map, List.filterMap_cons]
    have ih : (List.range xs.length).filterMap (fs ∘ Nat.succ) = xs.filterMap f := ih
    rw [ih, e]
    rfl
def DcB (J : It) (g : TG) (tt : TT) (tk tv : TE) (vs : List Nat) (σ : L2.St) (H : Hp) (Q : VK) : Prop := tDc (fun _ H1 R => R J H1) g tt tk tv vs σ H Q
theorem dcX {wi : TI} {g : TG} {tt : TT} {tk tv : TE} {vs : List Nat} {σ : L2.St} {H : Hp} {Q : VK} (h : wi σ H fun J H1 => DcB J g tt tk tv vs σ H1 Q) : tDc wi g tt tk tv vs σ H Q := h
end Rd
namespace Kj
open PySem PySem.Spec PyProof.Rows L2 Rd
def topS (i : Nat) : Stmt := PySem.Challenge.pw_keptjoined_k09_shortest_way.main.body.getD i (.Pass ⟨0, 0, 0, 0⟩)
theorem hpS {H G : Hp} {a : Addr} {o : HO} (s : Same H G) (h : H a = some o) : G a = some o := s _ _ h
theorem newOne {H G : Hp} {l : Addr} {o : HO} (n : H l = none) (e : upd H l o = G) : Same H G ∧ G l = some o := by
  subst e
  exact ⟨same_upd n, upd_same⟩
theorem nd_k : (("k" : Str) == ("__debug__" : Str)) = false := by decide +kernel
theorem nc_k : (("k" : Str) == ("__classdict__" : Str)) = false := by decide +kernel
theorem nd_word : (("word" : Str) == ("__debug__" : Str)) = false := by decide +kernel
theorem nc_word : (("word" : Str) == ("__classdict__" : Str)) = false := by decide +kernel
theorem nd_c : (("c" : Str) == ("__debug__" : Str)) = false := by decide +kernel
theorem nc_c : (("c" : Str) == ("__classdict__" : Str)) = false := by decide +kernel
theorem nd_isinstance : (("isinstance" : Str) == ("__debug__" : Str)) = false := by decide +kernel
theorem nn_isinstance : ("isinstance" : Str) ≠ "__name__" := by decide +kernel
theorem nd_str : (("str" : Str) == ("__debug__" : Str)) = false := by decide +kernel
theorem nn_str : ("str" : Str) ≠ "__name__" := by decide +kernel
theorem nd_len : (("len" : Str) == ("__debug__" : Str)) = false := by decide +kernel
theorem nn_len : ("len" : Str) ≠ "__name__" := by decide +kernel
theorem nd_all : (("all" : Str) == ("__debug__" : Str)) = false := by decide +kernel
theorem nn_all : ("all" : Str) ≠ "__name__" := by decide +kernel
theorem nd_is_name : (("is_name" : Str) == ("__debug__" : Str)) = false := by decide +kernel
theorem nd_houses : (("houses" : Str) == ("__debug__" : Str)) = false := by decide +kernel
theorem nc_houses : (("houses" : Str) == ("__classdict__" : Str)) = false := by decide +kernel
theorem nd_made : (("made" : Str) == ("__debug__" : Str)) = false := by decide +kernel
theorem nc_made : (("made" : Str) == ("__classdict__" : Str)) = false := by decide +kernel
theorem nd_house : (("house" : Str) == ("__debug__" : Str)) = false := by decide +kernel
theorem nc_house : (("house" : Str) == ("__classdict__" : Str)) = false := by decide +kernel
theorem nd_sorted : (("sorted" : Str) == ("__debug__" : Str)) = false := by decide +kernel
theorem nn_sorted : ("sorted" : Str) ≠ "__name__" := by decide +kernel
theorem nd_list : (("list" : Str) == ("__debug__" : Str)) = false := by decide +kernel
theorem nn_list : ("list" : Str) ≠ "__name__" := by decide +kernel
theorem nd_a : (("a" : Str) == ("__debug__" : Str)) = false := by decide +kernel
theorem nc_a : (("a" : Str) == ("__classdict__" : Str)) = false := by decide +kernel
theorem nd_b : (("b" : Str) == ("__debug__" : Str)) = false := by decide +kernel
theorem nc_b : (("b" : Str) == ("__classdict__" : Str)) = false := by decide +kernel
theorem nd_ordered : (("ordered" : Str) == ("__debug__" : Str)) = false := by decide +kernel
theorem nd_words : (("words" : Str) == ("__debug__" : Str)) = false := by decide +kernel
theorem nc_words : (("words" : Str) == ("__classdict__" : Str)) = false := by decide +kernel
theorem nd_line : (("line" : Str) == ("__debug__" : Str)) = false := by decide +kernel
theorem nc_line : (("line" : Str) == ("__classdict__" : Str)) = false := by decide +kernel
theorem nd_standing : (("standing" : Str) == ("__debug__" : Str)) = false := by decide +kernel
theorem nc_standing : (("standing" : Str) == ("__classdict__" : Str)) = false := by decide +kernel
theorem nd_web : (("web" : Str) == ("__debug__" : Str)) = false := by decide +kernel
theorem nc_web : (("web" : Str) == ("__classdict__" : Str)) = false := by decide +kernel
theorem nd_without : (("without" : Str) == ("__debug__" : Str)) = false := by decide +kernel
theorem nc_without : (("without" : Str) == ("__classdict__" : Str)) = false := by decide +kernel
theorem nd_steps : (("steps" : Str) == ("__debug__" : Str)) = false := by decide +kernel
theorem nc_steps : (("steps" : Str) == ("__classdict__" : Str)) = false := by decide +kernel
theorem nd_counts : (("counts" : Str) == ("__debug__" : Str)) = false := by decide +kernel
theorem nc_counts : (("counts" : Str) == ("__classdict__" : Str)) = false := by decide +kernel
theorem nd_way : (("way" : Str) == ("__debug__" : Str)) = false := by decide +kernel
theorem nc_way : (("way" : Str) == ("__classdict__" : Str)) = false := by decide +kernel
theorem nd_start : (("start" : Str) == ("__debug__" : Str)) = false := by decide +kernel
theorem nc_start : (("start" : Str) == ("__classdict__" : Str)) = false := by decide +kernel
theorem nd_stop : (("stop" : Str) == ("__debug__" : Str)) = false := by decide +kernel
theorem nc_stop : (("stop" : Str) == ("__classdict__" : Str)) = false := by decide +kernel
theorem nd_step : (("step" : Str) == ("__debug__" : Str)) = false := by decide +kernel
theorem nc_step : (("step" : Str) == ("__classdict__" : Str)) = false := by decide +kernel
theorem nd_shortest_way : (("shortest_way" : Str) == ("__debug__" : Str)) = false := by decide +kernel
theorem nd_steps_of : (("steps_of" : Str) == ("__debug__" : Str)) = false := by decide +kernel
theorem nd_counts_from : (("counts_from" : Str) == ("__debug__" : Str)) = false := by decide +kernel
theorem nd_low : (("low" : Str) == ("__debug__" : Str)) = false := by decide +kernel
theorem nc_low : (("low" : Str) == ("__classdict__" : Str)) = false := by decide +kernel
theorem nd_high : (("high" : Str) == ("__debug__" : Str)) = false := by decide +kernel
theorem nc_high : (("high" : Str) == ("__classdict__" : Str)) = false := by decide +kernel
theorem nd_met : (("met" : Str) == ("__debug__" : Str)) = false := by decide +kernel
theorem nc_met : (("met" : Str) == ("__classdict__" : Str)) = false := by decide +kernel
theorem nd_place : (("place" : Str) == ("__debug__" : Str)) = false := by decide +kernel
theorem nc_place : (("place" : Str) == ("__classdict__" : Str)) = false := by decide +kernel
theorem nd_script : (("script" : Str) == ("__debug__" : Str)) = false := by decide +kernel
theorem nc_script : (("script" : Str) == ("__classdict__" : Str)) = false := by decide +kernel
theorem nd_cells : (("cells" : Str) == ("__debug__" : Str)) = false := by decide +kernel
theorem nc_cells : (("cells" : Str) == ("__classdict__" : Str)) = false := by decide +kernel
theorem nd_state : (("state" : Str) == ("__debug__" : Str)) = false := by decide +kernel
theorem nc_state : (("state" : Str) == ("__classdict__" : Str)) = false := by decide +kernel
theorem nd_cell : (("cell" : Str) == ("__debug__" : Str)) = false := by decide +kernel
theorem nc_cell : (("cell" : Str) == ("__classdict__" : Str)) = false := by decide +kernel
theorem nd_int : (("int" : Str) == ("__debug__" : Str)) = false := by decide +kernel
theorem nn_int : ("int" : Str) ≠ "__name__" := by decide +kernel
theorem nd__law_store : (("_law_store" : Str) == ("__debug__" : Str)) = false := by decide +kernel
theorem nd_store : (("store" : Str) == ("__debug__" : Str)) = false := by decide +kernel
theorem nc_store : (("store" : Str) == ("__classdict__" : Str)) = false := by decide +kernel
theorem nd_many : (("many" : Str) == ("__debug__" : Str)) = false := by decide +kernel
theorem nc_many : (("many" : Str) == ("__classdict__" : Str)) = false := by decide +kernel
theorem nd_digits : (("digits" : Str) == ("__debug__" : Str)) = false := by decide +kernel
theorem nc_digits : (("digits" : Str) == ("__classdict__" : Str)) = false := by decide +kernel
theorem nd_tick : (("tick" : Str) == ("__debug__" : Str)) = false := by decide +kernel
theorem nc_tick : (("tick" : Str) == ("__classdict__" : Str)) = false := by decide +kernel
theorem nd_mixed : (("mixed" : Str) == ("__debug__" : Str)) = false := by decide +kernel
theorem nc_mixed : (("mixed" : Str) == ("__classdict__" : Str)) = false := by decide +kernel
theorem nd__law_take : (("_law_take" : Str) == ("__debug__" : Str)) = false := by decide +kernel
theorem nd_least : (("least" : Str) == ("__debug__" : Str)) = false := by decide +kernel
theorem nc_least : (("least" : Str) == ("__classdict__" : Str)) = false := by decide +kernel
theorem nd_most : (("most" : Str) == ("__debug__" : Str)) = false := by decide +kernel
theorem nc_most : (("most" : Str) == ("__classdict__" : Str)) = false := by decide +kernel
theorem nd_edge : (("edge" : Str) == ("__debug__" : Str)) = false := by decide +kernel
theorem nc_edge : (("edge" : Str) == ("__classdict__" : Str)) = false := by decide +kernel
theorem nd__law_between : (("_law_between" : Str) == ("__debug__" : Str)) = false := by decide +kernel
theorem nd_items : (("items" : Str) == ("__debug__" : Str)) = false := by decide +kernel
theorem nc_items : (("items" : Str) == ("__classdict__" : Str)) = false := by decide +kernel
theorem nd__law_pick : (("_law_pick" : Str) == ("__debug__" : Str)) = false := by decide +kernel
theorem nd_row : (("row" : Str) == ("__debug__" : Str)) = false := by decide +kernel
theorem nc_row : (("row" : Str) == ("__classdict__" : Str)) = false := by decide +kernel
theorem nd_style : (("style" : Str) == ("__debug__" : Str)) = false := by decide +kernel
theorem nc_style : (("style" : Str) == ("__classdict__" : Str)) = false := by decide +kernel
theorem nd_at : (("at" : Str) == ("__debug__" : Str)) = false := by decide +kernel
theorem nc_at : (("at" : Str) == ("__classdict__" : Str)) = false := by decide +kernel
theorem nd_kept : (("kept" : Str) == ("__debug__" : Str)) = false := by decide +kernel
theorem nc_kept : (("kept" : Str) == ("__classdict__" : Str)) = false := by decide +kernel
theorem nd__law_shuffled : (("_law_shuffled" : Str) == ("__debug__" : Str)) = false := by decide +kernel
theorem nd_value : (("value" : Str) == ("__debug__" : Str)) = false := by decide +kernel
theorem nc_value : (("value" : Str) == ("__classdict__" : Str)) = false := by decide +kernel
theorem nd_bool : (("bool" : Str) == ("__debug__" : Str)) = false := by decide +kernel
theorem nn_bool : ("bool" : Str) ≠ "__name__" := by decide +kernel
theorem nd_one : (("one" : Str) == ("__debug__" : Str)) = false := by decide +kernel
theorem nc_one : (("one" : Str) == ("__classdict__" : Str)) = false := by decide +kernel
theorem nd_two : (("two" : Str) == ("__debug__" : Str)) = false := by decide +kernel
theorem nc_two : (("two" : Str) == ("__classdict__" : Str)) = false := by decide +kernel
theorem nd_key : (("key" : Str) == ("__debug__" : Str)) = false := by decide +kernel
theorem nc_key : (("key" : Str) == ("__classdict__" : Str)) = false := by decide +kernel
theorem nd_lists : (("lists" : Str) == ("__debug__" : Str)) = false := by decide +kernel
theorem nc_lists : (("lists" : Str) == ("__classdict__" : Str)) = false := by decide +kernel
theorem nd_dict : (("dict" : Str) == ("__debug__" : Str)) = false := by decide +kernel
theorem nn_dict : ("dict" : Str) ≠ "__name__" := by decide +kernel
theorem nd_tuple : (("tuple" : Str) == ("__debug__" : Str)) = false := by decide +kernel
theorem nn_tuple : ("tuple" : Str) ≠ "__name__" := by decide +kernel
theorem nd__law_same : (("_law_same" : Str) == ("__debug__" : Str)) = false := by decide +kernel
theorem nd_sign : (("sign" : Str) == ("__debug__" : Str)) = false := by decide +kernel
theorem nc_sign : (("sign" : Str) == ("__classdict__" : Str)) = false := by decide +kernel
theorem nd__law_is_name : (("_law_is_name" : Str) == ("__debug__" : Str)) = false := by decide +kernel
theorem nd_letters : (("letters" : Str) == ("__debug__" : Str)) = false := by decide +kernel
theorem nc_letters : (("letters" : Str) == ("__classdict__" : Str)) = false := by decide +kernel
theorem nd_signs : (("signs" : Str) == ("__debug__" : Str)) = false := by decide +kernel
theorem nc_signs : (("signs" : Str) == ("__classdict__" : Str)) = false := by decide +kernel
theorem nd_first : (("first" : Str) == ("__debug__" : Str)) = false := by decide +kernel
theorem nc_first : (("first" : Str) == ("__classdict__" : Str)) = false := by decide +kernel
theorem nd_names : (("names" : Str) == ("__debug__" : Str)) = false := by decide +kernel
theorem nc_names : (("names" : Str) == ("__classdict__" : Str)) = false := by decide +kernel
theorem nd_ahead : (("ahead" : Str) == ("__debug__" : Str)) = false := by decide +kernel
theorem nc_ahead : (("ahead" : Str) == ("__classdict__" : Str)) = false := by decide +kernel
theorem nd_tail : (("tail" : Str) == ("__debug__" : Str)) = false := by decide +kernel
theorem nc_tail : (("tail" : Str) == ("__classdict__" : Str)) = false := by decide +kernel
theorem nd_code : (("code" : Str) == ("__debug__" : Str)) = false := by decide +kernel
theorem nc_code : (("code" : Str) == ("__classdict__" : Str)) = false := by decide +kernel
theorem nd__law_names : (("_law_names" : Str) == ("__debug__" : Str)) = false := by decide +kernel
theorem nd__law_houses : (("_law_houses" : Str) == ("__debug__" : Str)) = false := by decide +kernel
theorem nd_shape : (("shape" : Str) == ("__debug__" : Str)) = false := by decide +kernel
theorem nc_shape : (("shape" : Str) == ("__classdict__" : Str)) = false := by decide +kernel
theorem nd_to : (("to" : Str) == ("__debug__" : Str)) = false := by decide +kernel
theorem nc_to : (("to" : Str) == ("__classdict__" : Str)) = false := by decide +kernel
theorem nd_half : (("half" : Str) == ("__debug__" : Str)) = false := by decide +kernel
theorem nc_half : (("half" : Str) == ("__classdict__" : Str)) = false := by decide +kernel
theorem nd_size : (("size" : Str) == ("__debug__" : Str)) = false := by decide +kernel
theorem nc_size : (("size" : Str) == ("__classdict__" : Str)) = false := by decide +kernel
theorem nd_min : (("min" : Str) == ("__debug__" : Str)) = false := by decide +kernel
theorem nn_min : ("min" : Str) ≠ "__name__" := by decide +kernel
theorem nd_max : (("max" : Str) == ("__debug__" : Str)) = false := by decide +kernel
theorem nn_max : ("max" : Str) ≠ "__name__" := by decide +kernel
theorem nd__law_pair : (("_law_pair" : Str) == ("__debug__" : Str)) = false := by decide +kernel
theorem nd_name : (("name" : Str) == ("__debug__" : Str)) = false := by decide +kernel
theorem nc_name : (("name" : Str) == ("__classdict__" : Str)) = false := by decide +kernel
theorem nd__law_line_names : (("_law_line_names" : Str) == ("__debug__" : Str)) = false := by decide +kernel
theorem nd_lines : (("lines" : Str) == ("__debug__" : Str)) = false := by decide +kernel
theorem nc_lines : (("lines" : Str) == ("__classdict__" : Str)) = false := by decide +kernel
theorem nd_pair : (("pair" : Str) == ("__debug__" : Str)) = false := by decide +kernel
theorem nc_pair : (("pair" : Str) == ("__classdict__" : Str)) = false := by decide +kernel
theorem nd__law_lines : (("_law_lines" : Str) == ("__debug__" : Str)) = false := by decide +kernel
theorem nd__law_web : (("_law_web" : Str) == ("__debug__" : Str)) = false := by decide +kernel
theorem nd__law_two : (("_law_two" : Str) == ("__debug__" : Str)) = false := by decide +kernel
theorem nd_news : (("news" : Str) == ("__debug__" : Str)) = false := by decide +kernel
theorem nc_news : (("news" : Str) == ("__classdict__" : Str)) = false := by decide +kernel
theorem nd__law_steps_from : (("_law_steps_from" : Str) == ("__debug__" : Str)) = false := by decide +kernel
theorem nd_best : (("best" : Str) == ("__debug__" : Str)) = false := by decide +kernel
theorem nc_best : (("best" : Str) == ("__classdict__" : Str)) = false := by decide +kernel
theorem nd__law_least_way : (("_law_least_way" : Str) == ("__debug__" : Str)) = false := by decide +kernel
theorem nd_error : (("error" : Str) == ("__debug__" : Str)) = false := by decide +kernel
theorem nc_error : (("error" : Str) == ("__classdict__" : Str)) = false := by decide +kernel
theorem nd_kinds : (("kinds" : Str) == ("__debug__" : Str)) = false := by decide +kernel
theorem nc_kinds : (("kinds" : Str) == ("__classdict__" : Str)) = false := by decide +kernel
theorem nd_ValueError : (("ValueError" : Str) == ("__debug__" : Str)) = false := by decide +kernel
theorem nn_ValueError : ("ValueError" : Str) ≠ "__name__" := by decide +kernel
theorem nd_forms : (("forms" : Str) == ("__debug__" : Str)) = false := by decide +kernel
theorem nc_forms : (("forms" : Str) == ("__classdict__" : Str)) = false := by decide +kernel
theorem nd__law_due_search : (("_law_due_search" : Str) == ("__debug__" : Str)) = false := by decide +kernel
theorem nd_pool : (("pool" : Str) == ("__debug__" : Str)) = false := by decide +kernel
theorem nc_pool : (("pool" : Str) == ("__classdict__" : Str)) = false := by decide +kernel
theorem nd_odd : (("odd" : Str) == ("__debug__" : Str)) = false := by decide +kernel
theorem nc_odd : (("odd" : Str) == ("__classdict__" : Str)) = false := by decide +kernel
theorem nd__law_argument : (("_law_argument" : Str) == ("__debug__" : Str)) = false := by decide +kernel
theorem nd_bare : (("bare" : Str) == ("__debug__" : Str)) = false := by decide +kernel
theorem nc_bare : (("bare" : Str) == ("__classdict__" : Str)) = false := by decide +kernel
theorem nd_told : (("told" : Str) == ("__debug__" : Str)) = false := by decide +kernel
theorem nc_told : (("told" : Str) == ("__classdict__" : Str)) = false := by decide +kernel
theorem nd_e : (("e" : Str) == ("__debug__" : Str)) = false := by decide +kernel
theorem nc_e : (("e" : Str) == ("__classdict__" : Str)) = false := by decide +kernel
theorem nd__law_asked : (("_law_asked" : Str) == ("__debug__" : Str)) = false := by decide +kernel
theorem nd_due : (("due" : Str) == ("__debug__" : Str)) = false := by decide +kernel
theorem nc_due : (("due" : Str) == ("__classdict__" : Str)) = false := by decide +kernel
theorem nd_less : (("less" : Str) == ("__debug__" : Str)) = false := by decide +kernel
theorem nc_less : (("less" : Str) == ("__classdict__" : Str)) = false := by decide +kernel
theorem nd_answer : (("answer" : Str) == ("__debug__" : Str)) = false := by decide +kernel
theorem nc_answer : (("answer" : Str) == ("__classdict__" : Str)) = false := by decide +kernel
theorem nd_back : (("back" : Str) == ("__debug__" : Str)) = false := by decide +kernel
theorem nc_back : (("back" : Str) == ("__classdict__" : Str)) = false := by decide +kernel
theorem nd__law_way_right : (("_law_way_right" : Str) == ("__debug__" : Str)) = false := by decide +kernel
theorem nd__law_web_right : (("_law_web_right" : Str) == ("__debug__" : Str)) = false := by decide +kernel
theorem nd_self : (("self" : Str) == ("__debug__" : Str)) = false := by decide +kernel
theorem nc_self : (("self" : Str) == ("__classdict__" : Str)) = false := by decide +kernel
abbrev s__wall : Stmt := topS 0
abbrev P__wall : List Str := ["k"]
abbrev s_is_name : Stmt := topS 28
abbrev N_is_name : List Str := ["word", "c"]
abbrev P_is_name : List Str := ["word"]
theorem sc_is_name : FnScope N_is_name P_is_name (defScope s_is_name) := ⟨rfl, rfl, rfl, by decide +kernel, rfl, by decide +kernel, by decide +kernel⟩
abbrev s_check_name : Stmt := topS 29
abbrev N_check_name : List Str := ["word"]
abbrev P_check_name : List Str := ["word"]
theorem sc_check_name : FnScope N_check_name P_check_name (defScope s_check_name) := ⟨rfl, rfl, rfl, by decide +kernel, rfl, by decide +kernel, by decide +kernel⟩
abbrev s_check_houses : Stmt := topS 30
abbrev N_check_houses : List Str := ["houses", "made", "house"]
abbrev P_check_houses : List Str := ["houses"]
theorem sc_check_houses : FnScope N_check_houses P_check_houses (defScope s_check_houses) := ⟨rfl, rfl, rfl, by decide +kernel, rfl, by decide +kernel, by decide +kernel⟩
abbrev s_ordered : Stmt := topS 31
abbrev N_ordered : List Str := ["a", "b"]
abbrev P_ordered : List Str := ["a", "b"]
theorem sc_ordered : FnScope N_ordered P_ordered (defScope s_ordered) := ⟨rfl, rfl, rfl, by decide +kernel, rfl, by decide +kernel, by decide +kernel⟩
abbrev s_check_names : Stmt := topS 33
abbrev N_check_names : List Str := ["words", "word"]
abbrev P_check_names : List Str := ["words"]
theorem sc_check_names : FnScope N_check_names P_check_names (defScope s_check_names) := ⟨rfl, rfl, rfl, by decide +kernel, rfl, by decide +kernel, by decide +kernel⟩
abbrev s_check_stand : Stmt := topS 34
abbrev N_check_stand : List Str := ["houses", "words", "word"]
abbrev P_check_stand : List Str := ["houses", "words"]
theorem sc_check_stand : FnScope N_check_stand P_check_stand (defScope s_check_stand) := ⟨rfl, rfl, rfl, by decide +kernel, rfl, by decide +kernel, by decide +kernel⟩
abbrev s_check_line : Stmt := topS 35
abbrev N_check_line : List Str := ["houses", "line", "a", "b"]
abbrev P_check_line : List Str := ["houses", "line", "a", "b"]
theorem sc_check_line : FnScope N_check_line P_check_line (defScope s_check_line) := ⟨rfl, rfl, rfl, by decide +kernel, rfl, by decide +kernel, by decide +kernel⟩
abbrev s_check_new_line : Stmt := topS 36
abbrev N_check_new_line : List Str := ["houses", "standing", "line", "a", "b"]
abbrev P_check_new_line : List Str := ["houses", "standing", "line", "a", "b"]
theorem sc_check_new_line : FnScope N_check_new_line P_check_new_line (defScope s_check_new_line) := ⟨rfl, rfl, rfl, by decide +kernel, rfl, by decide +kernel, by decide +kernel⟩
abbrev s_check_line_stands : Stmt := topS 37
abbrev P_check_line_stands : List Str := ["standing", "line"]
abbrev s_shortest_way : Stmt := topS 39
abbrev N_shortest_way : List Str := ["web", "a", "b", "without", "steps", "counts", "way", "start", "line", "stop", "step"]
abbrev P_shortest_way : List Str := ["web", "a", "b", "without"]
theorem sc_shortest_way : FnScope N_shortest_way P_shortest_way (defScope s_shortest_way) := ⟨rfl, rfl, rfl, by decide +kernel, rfl, by decide +kernel, by decide +kernel⟩
abbrev s_check_asked : Stmt := topS 40
abbrev N_check_asked : List Str := ["web", "houses", "without"]
abbrev P_check_asked : List Str := ["web", "houses", "without"]
theorem sc_check_asked : FnScope N_check_asked P_check_asked (defScope s_check_asked) := ⟨rfl, rfl, rfl, by decide +kernel, rfl, by decide +kernel, by decide +kernel⟩
abbrev s_steps_of : Stmt := topS 41
abbrev N_steps_of : List Str := ["web", "without", "steps", "line", "low", "high", "house"]
abbrev P_steps_of : List Str := ["web", "without"]
theorem sc_steps_of : FnScope N_steps_of P_steps_of (defScope s_steps_of) := ⟨rfl, rfl, rfl, by decide +kernel, rfl, by decide +kernel, by decide +kernel⟩
abbrev s_counts_from : Stmt := topS 42
abbrev N_counts_from : List Str := ["steps", "house", "counts", "met", "place", "start", "_", "stop"]
abbrev P_counts_from : List Str := ["steps", "house"]
theorem sc_counts_from : FnScope N_counts_from P_counts_from (defScope s_counts_from) := ⟨rfl, rfl, rfl, by decide +kernel, rfl, by decide +kernel, by decide +kernel⟩
abbrev s__law_store : Stmt := topS 46
abbrev N__law_store : List Str := ["script", "cells", "state", "cell"]
abbrev P__law_store : List Str := ["script"]
theorem sc__law_store : FnScope N__law_store P__law_store (defScope s__law_store) := ⟨rfl, rfl, rfl, by decide +kernel, rfl, by decide +kernel, by decide +kernel⟩
abbrev s__law_take : Stmt := topS 47
abbrev N__law_take : List Str := ["store", "many", "digits", "tick", "cells", "place", "cell", "mixed"]
abbrev P__law_take : List Str := ["store", "many"]
theorem sc__law_take : FnScope N__law_take P__law_take (defScope s__law_take) := ⟨rfl, rfl, rfl, by decide +kernel, rfl, by decide +kernel, by decide +kernel⟩
abbrev s__law_between : Stmt := topS 48
abbrev N__law_between : List Str := ["store", "least", "most", "edge"]
abbrev P__law_between : List Str := ["store", "least", "most"]
theorem sc__law_between : FnScope N__law_between P__law_between (defScope s__law_between) := ⟨rfl, rfl, rfl, by decide +kernel, rfl, by decide +kernel, by decide +kernel⟩
abbrev s__law_pick : Stmt := topS 49
abbrev N__law_pick : List Str := ["store", "items"]
abbrev P__law_pick : List Str := ["store", "items"]
theorem sc__law_pick : FnScope N__law_pick P__law_pick (defScope s__law_pick) := ⟨rfl, rfl, rfl, by decide +kernel, rfl, by decide +kernel, by decide +kernel⟩
abbrev s__law_shuffled : Stmt := topS 50
abbrev N__law_shuffled : List Str := ["store", "items", "row", "style", "k", "at", "kept"]
abbrev P__law_shuffled : List Str := ["store", "items"]
theorem sc__law_shuffled : FnScope N__law_shuffled P__law_shuffled (defScope s__law_shuffled) := ⟨rfl, rfl, rfl, by decide +kernel, rfl, by decide +kernel, by decide +kernel⟩
abbrev s__law_is_integer : Stmt := topS 51
abbrev N__law_is_integer : List Str := ["value"]
abbrev P__law_is_integer : List Str := ["value"]
theorem sc__law_is_integer : FnScope N__law_is_integer P__law_is_integer (defScope s__law_is_integer) := ⟨rfl, rfl, rfl, by decide +kernel, rfl, by decide +kernel, by decide +kernel⟩
abbrev s__law_same : Stmt := topS 52
abbrev N__law_same : List Str := ["one", "two", "key", "lists", "k"]
abbrev P__law_same : List Str := ["one", "two"]
theorem sc__law_same : FnScope N__law_same P__law_same (defScope s__law_same) := ⟨rfl, rfl, rfl, by decide +kernel, rfl, by decide +kernel, by decide +kernel⟩
abbrev s__law_is_name : Stmt := topS 53
abbrev N__law_is_name : List Str := ["word", "sign"]
abbrev P__law_is_name : List Str := ["word"]
theorem sc__law_is_name : FnScope N__law_is_name P__law_is_name (defScope s__law_is_name) := ⟨rfl, rfl, rfl, by decide +kernel, rfl, by decide +kernel, by decide +kernel⟩
abbrev s__law_names : Stmt := topS 54
abbrev N__law_names : List Str := ["store", "many", "letters", "signs", "style", "first", "names", "sign", "k", "start", "ahead", "tail", "step", "code"]
abbrev P__law_names : List Str := ["store", "many"]
theorem sc__law_names : FnScope N__law_names P__law_names (defScope s__law_names) := ⟨rfl, rfl, rfl, by decide +kernel, rfl, by decide +kernel, by decide +kernel⟩
abbrev s__law_houses : Stmt := topS 55
abbrev N__law_houses : List Str := ["store", "most", "many", "style"]
abbrev P__law_houses : List Str := ["store", "most"]
theorem sc__law_houses : FnScope N__law_houses P__law_houses (defScope s__law_houses) := ⟨rfl, rfl, rfl, by decide +kernel, rfl, by decide +kernel, by decide +kernel⟩
abbrev s__law_pair : Stmt := topS 56
abbrev N__law_pair : List Str := ["store", "houses", "shape", "k", "many", "at", "to", "half", "low", "size"]
abbrev P__law_pair : List Str := ["store", "houses", "shape", "k"]
theorem sc__law_pair : FnScope N__law_pair P__law_pair (defScope s__law_pair) := ⟨rfl, rfl, rfl, by decide +kernel, rfl, by decide +kernel, by decide +kernel⟩
abbrev s__law_line_names : Stmt := topS 57
abbrev N__law_line_names : List Str := ["store", "houses", "many", "names", "name"]
abbrev P__law_line_names : List Str := ["store", "houses", "many"]
theorem sc__law_line_names : FnScope N__law_line_names P__law_line_names (defScope s__law_line_names) := ⟨rfl, rfl, rfl, by decide +kernel, rfl, by decide +kernel, by decide +kernel⟩
abbrev s__law_lines : Stmt := topS 58
abbrev N__law_lines : List Str := ["store", "houses", "most", "many", "shape", "names", "lines", "k", "pair"]
abbrev P__law_lines : List Str := ["store", "houses", "most"]
theorem sc__law_lines : FnScope N__law_lines P__law_lines (defScope s__law_lines) := ⟨rfl, rfl, rfl, by decide +kernel, rfl, by decide +kernel, by decide +kernel⟩
abbrev s__law_web : Stmt := topS 59
abbrev N__law_web : List Str := ["store", "most", "houses"]
abbrev P__law_web : List Str := ["store", "most"]
theorem sc__law_web : FnScope N__law_web P__law_web (defScope s__law_web) := ⟨rfl, rfl, rfl, by decide +kernel, rfl, by decide +kernel, by decide +kernel⟩
abbrev s__law_two : Stmt := topS 60
abbrev N__law_two : List Str := ["store", "houses", "one", "two"]
abbrev P__law_two : List Str := ["store", "houses"]
theorem sc__law_two : FnScope N__law_two P__law_two (defScope s__law_two) := ⟨rfl, rfl, rfl, by decide +kernel, rfl, by decide +kernel, by decide +kernel⟩
abbrev s__law_steps_from : Stmt := topS 61
abbrev N__law_steps_from : List Str := ["houses", "lines", "a", "counts", "k", "news", "line", "house"]
abbrev P__law_steps_from : List Str := ["houses", "lines", "a"]
theorem sc__law_steps_from : FnScope N__law_steps_from P__law_steps_from (defScope s__law_steps_from) := ⟨rfl, rfl, rfl, by decide +kernel, rfl, by decide +kernel, by decide +kernel⟩
abbrev s__law_least_way : Stmt := topS 62
abbrev N__law_least_way : List Str := ["houses", "lines", "a", "b", "counts", "way", "start", "k", "best", "line", "stop"]
abbrev P__law_least_way : List Str := ["houses", "lines", "a", "b"]
theorem sc__law_least_way : FnScope N__law_least_way P__law_least_way (defScope s__law_least_way) := ⟨rfl, rfl, rfl, by decide +kernel, rfl, by decide +kernel, by decide +kernel⟩
abbrev s__law_refusal : Stmt := topS 63
abbrev N__law_refusal : List Str := ["error", "code", "kinds", "names", "at", "name"]
abbrev P__law_refusal : List Str := ["error", "code"]
theorem sc__law_refusal : FnScope N__law_refusal P__law_refusal (defScope s__law_refusal) := ⟨rfl, rfl, rfl, by decide +kernel, rfl, by decide +kernel, by decide +kernel⟩
abbrev s__law_due_search : Stmt := topS 64
abbrev N__law_due_search : List Str := ["houses", "lines", "words", "line", "forms", "word", "row"]
abbrev P__law_due_search : List Str := ["houses", "lines", "words", "line"]
theorem sc__law_due_search : FnScope N__law_due_search P__law_due_search (defScope s__law_due_search) := ⟨rfl, rfl, rfl, by decide +kernel, rfl, by decide +kernel, by decide +kernel⟩
abbrev s__law_argument : Stmt := topS 65
abbrev N__law_argument : List Str := ["store", "pool", "odd", "style"]
abbrev P__law_argument : List Str := ["store", "pool"]
theorem sc__law_argument : FnScope N__law_argument P__law_argument (defScope s__law_argument) := ⟨rfl, rfl, rfl, by decide +kernel, rfl, by decide +kernel, by decide +kernel⟩
abbrev s__law_asked : Stmt := topS 66
abbrev N__law_asked : List Str := ["web", "a", "b", "line", "bare", "told", "e"]
abbrev P__law_asked : List Str := ["web", "a", "b", "line", "bare"]
theorem sc__law_asked : FnScope N__law_asked P__law_asked (defScope s__law_asked) := ⟨rfl, rfl, rfl, by decide +kernel, rfl, by decide +kernel, by decide +kernel⟩
abbrev s__law_way_right : Stmt := topS 67
abbrev N__law_way_right : List Str := ["web", "houses", "lines", "a", "b", "line", "told", "due", "less", "way", "answer", "back", "row"]
abbrev P__law_way_right : List Str := ["web", "houses", "lines", "a", "b", "line"]
theorem sc__law_way_right : FnScope N__law_way_right P__law_way_right (defScope s__law_way_right) := ⟨rfl, rfl, rfl, by decide +kernel, rfl, by decide +kernel, by decide +kernel⟩
abbrev s__law_web_right : Stmt := topS 68
abbrev N__law_web_right : List Str := ["store", "web", "houses", "lines", "line", "names", "k", "pair", "a", "b"]
abbrev P__law_web_right : List Str := ["store", "web", "houses", "lines"]
theorem sc__law_web_right : FnScope N__law_web_right P__law_web_right (defScope s__law_web_right) := ⟨rfl, rfl, rfl, by decide +kernel, rfl, by decide +kernel, by decide +kernel⟩
abbrev s_law : Stmt := topS 69
abbrev N_law : List Str := ["script", "store", "first", "at", "less", "one", "two", "k"]
abbrev P_law : List Str := ["script"]
theorem sc_law : FnScope N_law P_law (defScope s_law) := ⟨rfl, rfl, rfl, by decide +kernel, rfl, by decide +kernel, by decide +kernel⟩
abbrev s_Web_init : Stmt := inClass (topS 44) 0
abbrev N_Web_init : List Str := ["self", "houses", "lines", "line", "a", "b", "low", "high"]
abbrev P_Web_init : List Str := ["self", "houses", "lines"]
theorem sc_Web_init : FnScope N_Web_init P_Web_init (defScope s_Web_init) := ⟨rfl, rfl, rfl, by decide +kernel, rfl, by decide +kernel, by decide +kernel⟩
abbrev s_Web_houses : Stmt := inClass (topS 44) 1
abbrev N_Web_houses : List Str := ["self"]
abbrev P_Web_houses : List Str := ["self"]
theorem sc_Web_houses : FnScope N_Web_houses P_Web_houses (defScope s_Web_houses) := ⟨rfl, rfl, rfl, by decide +kernel, rfl, by decide +kernel, by decide +kernel⟩
abbrev s_Web_lines : Stmt := inClass (topS 44) 2
abbrev N_Web_lines : List Str := ["self"]
abbrev P_Web_lines : List Str := ["self"]
theorem sc_Web_lines : FnScope N_Web_lines P_Web_lines (defScope s_Web_lines) := ⟨rfl, rfl, rfl, by decide +kernel, rfl, by decide +kernel, by decide +kernel⟩
abbrev s_Web_contains : Stmt := inClass (topS 44) 10
abbrev N_Web_contains : List Str := ["self", "line"]
abbrev P_Web_contains : List Str := ["self", "line"]
theorem sc_Web_contains : FnScope N_Web_contains P_Web_contains (defScope s_Web_contains) := ⟨rfl, rfl, rfl, by decide +kernel, rfl, by decide +kernel, by decide +kernel⟩
local macro_rules | `(tactic| walk_at "hp") => `(tactic| first
  | assumption
  | exact upd_same
  | (refine Eq.trans (upd_ne (by first | assumption | (apply Ne.symm; assumption))) ?_; walk_at "hp"))
local macro_rules | `(tactic| walk_at "sq") => `(tactic| first
  | assumption
  | (refine Or.inl (Or.inl ?_); walk_at "hp"))
local macro_rules | `(tactic| walk_at "st") => `(tactic| first
  | assumption
  | (refine Or.inl (Or.inl ?_); walk_at "hp"))
local macro_rules | `(tactic| walk_at "ar") => `(tactic| first
  | assumption
  | omega
  | decide)
local macro_rules | `(tactic| walk_at "ci") => `(tactic| first
  | (refine (show CMul _ _ from Or.inr ⟨?_, ?_⟩) <;> omega)
  | (refine (show CMul _ _ from Or.inl ⟨?_, ?_⟩) <;> omega)
  | (show CPow _ _; exact ⟨by decide, by decide, by decide⟩)
  | (refine wide_div (b := 63) ?_ ?_ (by decide) (by decide) <;> omega)
  | (show (0 : Int) < _; omega))
local macro_rules | `(tactic| walk_at "ty") => `(tactic| first
  | exact dp_ty (by assumption)
  | exact TyX.base (TyOf.int _)
  | exact TyX.base (TyOf.str _)
  | exact TyX.base (TyOf.bl _)
  | exact TyX.base TyOf.non
  | exact tyL' (by walk_at "sq")
  | exact tyT' (by walk_at "st"))
local macro_rules | `(tactic| walk_at "isi") => `(tactic| first
  | ((with_reducible apply Rd.isiF); (walk_at "ty"); (decide))
  | ((with_reducible apply Rd.isiT); (walk_at "ty"); (decide)))
local macro_rules | `(tactic| walk_at "rd") => `(tactic| first
  | with_reducible apply Rd.seq
  | ((with_reducible apply Rd.var); rfl)
  | with_reducible apply Rd.con
  | with_reducible apply Rd.op
  | with_reducible apply Rd.asg
  | ((with_reducible apply Rd.gname); ((dsimp only [List.set, L2.wipe, Int.reduceToNat]) <;> rfl))
  | with_reducible apply Rd.nxt
  | with_reducible apply Rd.ifs
  | with_reducible apply Rd.test
  | with_reducible apply Rd.testB
  | with_reducible apply Rd.exbl
  | with_reducible apply Rd.ret
  | with_reducible apply Rd.drop
  | with_reducible apply Rd.retN
  | with_reducible apply Rd.nil
  | with_reducible apply Rd.cons
  | with_reducible apply Rd.call
  | with_reducible apply Rd.cb
  | with_reducible apply Rd.and
  | with_reducible apply Rd.or
  | with_reducible apply Rd.not
  | with_reducible apply Rd.andV
  | with_reducible apply Rd.orV
  | with_reducible apply Rd.notV
  | with_reducible apply Rd.ife
  | with_reducible apply Rd.tup
  | with_reducible apply Rd.lst
  | with_reducible apply Rd.un
  | with_reducible apply Rd.chain
  | with_reducible apply Rd.brk
  | with_reducible apply Rd.cnt
  | with_reducible apply Rd.I0
  | with_reducible apply Rd.U1
  | ((with_reducible apply Rd.eq); rfl)
  | ((with_reducible apply Rd.ne); rfl)
  | ((with_reducible apply Rd.I1); (walk_at "ci"))
  | with_reducible apply Rd.lc0
  | with_reducible apply Rd.ln0
  | with_reducible apply Rd.exN
  | ((with_reducible apply Rd.iteSf); (decide +kernel))
  | ((with_reducible apply Rd.iteSt); (decide +kernel))
  | ((with_reducible apply Rd.niQ); (exact Or.inl (by walk_at "sq")); (exact ⟨rfl, rfl⟩); (rfl))
  | ((with_reducible apply Rd.inQ); (exact Or.inl (by walk_at "sq")); (exact ⟨rfl, rfl⟩); (rfl))
  | with_reducible apply Rd.rn1
  | with_reducible apply Rd.in1
  | with_reducible apply Rd.sn1
  | with_reducible apply Rd.bn1
  | with_reducible apply Rd.nn1
  | with_reducible apply Rd.rn2
  | with_reducible apply Rd.in2
  | with_reducible apply Rd.sn2
  | with_reducible apply Rd.bn2
  | with_reducible apply Rd.nn2
  | with_reducible apply Rd.nt1
  | with_reducible apply Rd.nf1
  | (with_reducible refine Rd.iteI (fun _ => ?_) (fun _ => ?_))
  | (with_reducible refine Rd.iteNI (fun _ => ?_) (fun _ => ?_))
  | (with_reducible refine iteT ?_)
  | (with_reducible refine iteF ?_)
  | (with_reducible refine Rd.iteD (fun _ => ?_) (fun _ => ?_))
  | (with_reducible refine Rd.iteN (fun _ => ?_) (fun _ => ?_))
  | with_reducible apply Rd.intI
  | with_reducible apply Rd.intB
  | with_reducible apply Rd.maxQ
  | with_reducible apply Rd.minQ
  | with_reducible apply Rd.absQ
  | with_reducible apply Rd.isN
  | with_reducible apply Rd.noN
  | with_reducible apply Rd.ltZ
  | with_reducible apply Rd.bm
  | with_reducible apply Rd.bm0
  | with_reducible apply Rd.par
  | with_reducible apply Rd.expar
  | with_reducible apply Rd.exint
  | with_reducible apply Rd.ipi
  | with_reducible apply Rd.slice
  | with_reducible apply Rd.noPart
  | with_reducible apply Rd.part
  | with_reducible apply Rd.gcons
  | with_reducible apply Rd.gnil
  | with_reducible apply Rd.iseq
  | with_reducible apply Rd.irng1
  | walk_at "isi"
  | with_reducible apply Rd.forX
  | with_reducible apply Rd.lstRev
  | with_reducible apply Rd.lstRg
  | with_reducible apply Rd.rg1
  | with_reducible apply Rd.rg2
  | with_reducible apply Rd.exint2
  | ((with_reducible apply Rd.exrev); (walk_at "sq"))
  | with_reducible apply Rd.lcX
  | with_reducible apply Rd.yes
  | ((with_reducible apply Rd.exrng1); (constructor <;> omega))
  | ((with_reducible apply Rd.exrng2); (refine ⟨?_, ?_, ?_, ?_⟩ <;> omega))
  | with_reducible apply Rd.irng2
  | ((with_reducible apply Rd.aug); rfl)
  | ((with_reducible apply Rd.exlst); (walk_at "sq"))
  | ((with_reducible apply Rd.gtup); (walk_at "st"); (rfl))
  | ((with_reducible apply Rd.tyL); (walk_at "hp"))
  | ((with_reducible apply Rd.ixL); (walk_at "sq"); (rfl))
  | ((with_reducible apply Rd.ixI); (walk_at "sq"); (omega); (first | assumption | (simp only [List.length_map]; omega)); (intro _ _))
  | (with_reducible refine Rd.gsub ?_)
  | ((with_reducible apply Rd.setL); (walk_at "hp"); (rfl); ((dsimp only [List.set, L2.wipe, Int.reduceToNat]) <;> rfl))
  | ((with_reducible apply Rd.lenQ); (first | exact Or.inl (by walk_at "sq") | exact Or.inr (by walk_at "st")))
  | ((with_reducible apply Rd.listQ); (first | exact Or.inl (by walk_at "sq") | exact Or.inr (by walk_at "st")))
  | ((with_reducible apply Rd.tupQ); (walk_at "sq"))
  | ((with_reducible apply Rd.slL); (walk_at "sq"))
  | ((with_reducible apply Rd.ixT); (walk_at "st"); (rfl))
  | (with_reducible refine Rd.iteB (fun _ => ?_) (fun _ => ?_))
  | (with_reducible refine Rd.iteNB (fun _ => ?_) (fun _ => ?_))
  | (refine Rd.andI (Nat.le_of_ble_eq_true rfl) ?_)
  | dsimp only [List.set])
local macro_rules | `(tactic| walk_at "rd") => `(tactic| first
  | with_reducible apply Rd.seq
  | ((with_reducible apply Rd.var); rfl)
  | with_reducible apply Rd.con
  | with_reducible apply Rd.op
  | with_reducible apply Rd.cons
  | with_reducible apply Rd.nil
  | with_reducible apply Rd.asg
  | ((with_reducible apply Rd.gname); ((dsimp only [List.set, L2.wipe, Int.reduceToNat]) <;> rfl))
  | with_reducible apply Rd.nxt
  | with_reducible apply Rd.ifs
  | with_reducible apply Rd.test
  | with_reducible apply Rd.ret
  | with_reducible apply Rd.call
  | with_reducible apply Rd.cb)
/-- at st a store, its cells at c: a place and digits that are no less than 0 -/
def StoreAt (H : Hp) (st c : Addr) : Prop := ∃ (ns : List Int) (p d s t : Int), H st = some (.lst [.ref c, .int p, .int d, .int s, .int t]) ∧ H c = some (.lst (ns.map V.int)) ∧ c ≠ st ∧ 0 ≤ p ∧ 0 ≤ d
theorem StoreAt.kept {H H' : Hp} {st c : Addr} (h : StoreAt H st c) (k : ∀ b o, (b = st ∨ b = c) → H b = some o → H' b = some o) : StoreAt H' st c := by
  obtain ⟨ns, p, d, s, t, h1, h2, r⟩ := h
  exact ⟨ns, p, d, s, t, k _ _ (.inl rfl) h1, k _ _ (.inr rfl) h2, r⟩
theorem StoreAt.same {H H' : Hp} {st c : Addr} (h : StoreAt H st c) (k : Same H H') : StoreAt H' st c := h.kept fun b o _ => k b o
theorem StoreAt.has {H : Hp} {st c : Addr} (h : StoreAt H st c) : (∃ o, H st = some o) ∧ ∃ o, H c = some o := by
  obtain ⟨ns, p, d, s, t, h1, h2, r⟩ := h
  exact ⟨⟨_, h1⟩, ⟨_, h2⟩⟩
/-- what is new is no part of the store -/
theorem StoreAt.off {H : Hp} {st c p : Addr} (h : StoreAt H st c) (n : H p = none) : p ≠ st ∧ p ≠ c := by
  obtain ⟨⟨o, e⟩, ⟨o', e'⟩⟩ := h.has
  exact ⟨(ne_of_none e n).symm, (ne_of_none e' n).symm⟩
theorem StoreAt.put {H : Hp} {st c p : Addr} (h : StoreAt H st c) (n : p ≠ st ∧ p ≠ c) (o : HO) : StoreAt (upd H p o) st c := h.kept fun b u e z => by
  rw [upd_ne]
  · exact z
  · rcases e with rfl | rfl
    · exact n.1.symm
    · exact n.2.symm
/-- draws were taken: all else stands -/
structure Go (st c : Addr) (H H' : Hp) : Prop where
  ok : StoreAt H' st c
  keep : ∀ b o, b ≠ st → H b = some o → H' b = some o
theorem Go.refl {st c : Addr} {H : Hp} (h : StoreAt H st c) : Go st c H H := ⟨h, fun _ _ _ e => e⟩
theorem Go.trans {st c : Addr} {H H1 H2 : Hp} (a : Go st c H H1) (b : Go st c H1 H2) : Go st c H H2 := ⟨b.ok, fun d o n e => b.keep d o n (a.keep d o n e)⟩
/-- what is new behind was new ahead -/
theorem Go.free {st c p : Addr} {H H' : Hp} (g : Go st c H H') (n : H' p = none) : H p = none := by
  cases e : H p with
  | none => rfl
  | some o =>
    rw [g.keep p o (g.ok.off n).1 e] at n
    cases n
/-- a new object beside -/
theorem Go.new {st c p : Addr} {H H' : Hp} (g : Go st c H H') (n : H' p = none) (o : HO) : Go st c H (upd H' p o) :=
  ⟨g.ok.put (g.ok.off n) o, fun b u hb e => (upd_ne (ne_of_none (g.keep b u hb e) n)).trans (g.keep b u hb e)⟩
/-- an object that is newer than H is written -/
theorem Go.write {st c p : Addr} {H H' : Hp} (g : Go st c H H') (n : H p = none) (h : p ≠ st ∧ p ≠ c) (o : HO) : Go st c H (upd H' p o) :=
  ⟨g.ok.put h o, fun b u hb e => (upd_ne (ne_of_none e n)).trans (g.keep b u hb e)⟩
theorem Go.same {st c : Addr} {H H1 H2 : Hp} (g : Go st c H H1) (k : Same H1 H2) : Go st c H H2 := ⟨g.ok.same k, fun b u hb e => k b u (g.keep b u hb e)⟩
theorem go_upd {st c : Addr} {H : Hp} {ns : List Int} {p d s t p' d' s' t' : Int} (h : H st = some (.lst [.ref c, .int p, .int d, .int s, .int t])) (hc : H c = some (.lst (ns.map V.int))) (n : c ≠ st) (hp : 0 ≤ p') (hd : 0 ≤ d') :
    Go st c H (upd H st (.lst [.ref c, .int p', .int d', .int s', .int t'])) :=
  ⟨⟨ns, p', d', s', t', upd_same, (upd_ne n).trans hc, n, hp, hd⟩, fun b o hb e => (upd_ne hb).trans e⟩
/-- _law_take(store, many): 0, or a number below many -/
def spTake : Sp := fun vs H Q _ => ∃ (st c : Addr) (many : Int), vs = [.ref st, .int many] ∧ StoreAt H st c ∧ many < 4611686018427387904 ∧ ∀ (r : Int) (H' : Hp), 0 ≤ r → (r < many ∨ r = 0) → Go st c H H' → Q (.int r) H'
section
variable {P : Program} {w : World} {K : PySem.W.Frag} {mg : Str → Option Value} {base : Heap}
theorem ok__law_take (F : Def K mg "_law_take" s__law_take P__law_take) (m_int : mg "int" = none) (m_len : mg "len" = none) : Cal P w K mg base 1 "_law_take" P__law_take spTake := by
  refine F.ok sc__law_take (fun vs H Q E h => ?_) (fun f cdv A outer s H vs Q E hr h => ?_)
  · obtain ⟨st, c, many, rfl, _⟩ := h
    rfl
  obtain ⟨st, c, many, rfl, ⟨ns, p, d, z, t, hst, hc, hne, hp, hd⟩, hm, q⟩ := h
  refine ⟨_, (pss_cons (ps_if (pt_cmpR op_lt (pv 1 (hd := nd_many) (hcd := nc_many)) pe_int (nomark _)) (pss_one (ps_ret pe_int)) pss_nil)
  (pss_cons (ps_set (i := 2) sc__law_take.nd rfl (Or.inl rfl) (pe_callTy q_intI (by rfl) m_int bb_int (pa_cons (pe_ix ix_list (pv 0 (hd := nd_store) (hcd := nc_store)) pe_int (fun _ _ => rfl)) pa_nil) (hn := nn_int) (hdb := nd_int)))
  (pss_cons (ps_if (pt_cmpR op_gt (pv 2 (hd := nd_digits) (hcd := nc_digits)) pe_int (nomark _)) (pss_cons (ps_asg (pe_op op_fdivW (pv 2 (hd := nd_digits) (hcd := nc_digits)) (pv 1 (hd := nd_many) (hcd := nc_many))) (pg_sub (pv 0 (hd := nd_store) (hcd := nc_store)) pe_int set_list))
  (pss_one (ps_ret (pe_op op_mod (pv 2 (hd := nd_digits) (hcd := nc_digits)) (pv 1 (hd := nd_many) (hcd := nc_many)))))) pss_nil)
  (pss_cons (ps_asg (pe_op op_add (pe_callTy q_intI (by rfl) m_int bb_int (pa_cons (pe_ix ix_list (pv 0 (hd := nd_store) (hcd := nc_store)) pe_int (fun _ _ => rfl)) pa_nil) (hn := nn_int) (hdb := nd_int)) pe_int) (pg_sub (pv 0 (hd := nd_store) (hcd := nc_store)) pe_int set_list))
  (pss_cons (ps_set (i := 3) sc__law_take.nd rfl (Or.inl rfl) (pe_callTy q_intI (by rfl) m_int bb_int (pa_cons (pe_ix ix_list (pv 0 (hd := nd_store) (hcd := nc_store)) pe_int (fun _ _ => rfl)) pa_nil) (hn := nn_int) (hdb := nd_int)))
  (pss_cons (ps_set (i := 4) sc__law_take.nd rfl (Or.inl rfl) (pe_ix ix_list (pv 0 (hd := nd_store) (hcd := nc_store)) pe_int (fun _ _ => rfl)))
  (pss_cons (ps_set (i := 5) sc__law_take.nd rfl (Or.inl rfl) (pe_callTy q_intI (by rfl) m_int bb_int (pa_cons (pe_ix ix_list (pv 0 (hd := nd_store) (hcd := nc_store)) pe_int (fun _ _ => rfl)) pa_nil) (hn := nn_int) (hdb := nd_int)))
  (pss_cons (ps_if (pt_cmpR op_lt (pv 5 (hd := nd_place) (hcd := nc_place)) (pe_callB q_len (by rfl) m_len PySem.boot_len (pa_cons (pv 4 (hd := nd_cells) (hcd := nc_cells)) pa_nil) (hn := nn_len) (hdb := nd_len)) (nomark _)) (pss_cons (ps_set (i := 6) sc__law_take.nd rfl (Or.inl rfl) (pe_callTy q_intI (by rfl) m_int bb_int (pa_cons (pe_ix ix_list (pv 4 (hd := nd_cells) (hcd := nc_cells)) (pv 5 (hd := nd_place) (hcd := nc_place)) (fun _ _ => rfl)) pa_nil) (hn := nn_int) (hdb := nd_int)))
  (pss_cons (ps_asg (pe_op op_add (pv 5 (hd := nd_place) (hcd := nc_place)) pe_int) (pg_sub (pv 0 (hd := nd_store) (hcd := nc_store)) pe_int set_list))
  (pss_cons (ps_if (pt_cmpR op_ge (pv 6 (hd := nd_cell) (hcd := nc_cell)) (pe_op op_pow pe_int pe_int) (nomark _)) (pss_cons (ps_asg (pe_op op_fdivW (pv 6 (hd := nd_cell) (hcd := nc_cell)) (pv 1 (hd := nd_many) (hcd := nc_many))) (pg_sub (pv 0 (hd := nd_store) (hcd := nc_store)) pe_int set_list))
  (pss_one (ps_ret (pe_op op_mod (pv 6 (hd := nd_cell) (hcd := nc_cell)) (pv 1 (hd := nd_many) (hcd := nc_many)))))) pss_nil)
  (pss_one (ps_set (i := 7) sc__law_take.nd rfl (Or.inl rfl) (pe_op op_mod (pe_op op_add (pe_op op_add (pe_op op_mul (pv 6 (hd := nd_cell) (hcd := nc_cell)) pe_int) (pe_op op_mul (pv 3 (hd := nd_tick) (hcd := nc_tick)) pe_int)) pe_int) pe_int)))))) (pss_cons (ps_set (i := 7) sc__law_take.nd rfl (Or.inl rfl) (pe_op op_mod (pe_op op_add (pe_op op_add (pe_op op_mul (pe_callTy q_intI (by rfl) m_int bb_int (pa_cons (pe_ix ix_list (pv 0 (hd := nd_store) (hcd := nc_store)) pe_int (fun _ _ => rfl)) pa_nil) (hn := nn_int) (hdb := nd_int)) pe_int) (pe_op op_mul (pv 3 (hd := nd_tick) (hcd := nc_tick)) pe_int)) pe_int) pe_int))
  (pss_one (ps_asg (pv 7 (hd := nd_mixed) (hcd := nc_mixed)) (pg_sub (pv 0 (hd := nd_store) (hcd := nc_store)) pe_int set_list)))))
  (pss_one (ps_ret (pe_op op_mod (pe_op op_mod (pe_op op_add (pe_op op_mul (pv 7 (hd := nd_mixed) (hcd := nc_mixed)) (pv 7 (hd := nd_mixed) (hcd := nc_mixed))) (pe_op op_fdivW (pv 7 (hd := nd_mixed) (hcd := nc_mixed)) pe_int)) pe_int) (pv 1 (hd := nd_many) (hcd := nc_many))))))))))))), ?_⟩
  refine Rd.at0 (σ := [some (.ref st), some (.int many), none, none, none, none, none, none]) rfl ?_
  repeat' (walk_at "rd")
  · exact q 0 _ (Int.le_refl 0) (.inr rfl) (Go.refl ⟨ns, p, d, z, t, hst, hc, hne, hp, hd⟩)
  · exact q _ _ (Int.emod_nonneg _ (by omega)) (.inl (Int.emod_lt_of_pos _ (by omega))) (go_upd hst hc hne hp (Int.ediv_nonneg hd (by omega)))
  · rename_i v hv hv2
    have h0 : (0 : Int) ≤ v := Int.le_trans (by decide) hv2
    rw [upd_upd, upd_upd]
    exact q _ _ (Int.emod_nonneg _ (by omega)) (.inl (Int.emod_lt_of_pos _ (by omega))) (go_upd hst hc hne (by omega) (Int.ediv_nonneg h0 (by omega)))
  · rw [upd_upd]
    exact q _ _ (Int.emod_nonneg _ (by omega)) (.inl (Int.emod_lt_of_pos _ (by omega))) (go_upd hst hc hne (by omega) hd)
  · rw [upd_upd]
    exact q _ _ (Int.emod_nonneg _ (by omega)) (.inl (Int.emod_lt_of_pos _ (by omega))) (go_upd hst hc hne hp hd)
/-- _law_between(store, least, most): a number from least to most; least if most is less -/
def spBetween : Sp := fun vs H Q _ => ∃ (st c : Addr) (lo hi : Int), vs = [.ref st, .int lo, .int hi] ∧ StoreAt H st c ∧ hi - lo < 4611686018427387900 ∧ ∀ (r : Int) (H' : Hp), lo ≤ r → (r ≤ hi ∨ r = lo) → Go st c H H' → Q (.int r) H'
theorem ok__law_between (F : Def K mg "_law_between" s__law_between P__law_between) (C__law_take : Cal P w K mg base 1 "_law_take" P__law_take spTake) : Cal P w K mg base 2 "_law_between" P__law_between spBetween := by
  refine F.ok sc__law_between (fun vs H Q E h => ?_) (fun f cdv A outer s H vs Q E hr h => ?_)
  · obtain ⟨st, c, lo, hi, rfl, _⟩ := h
    rfl
  obtain ⟨st, c, lo, hi, rfl, hs, hm, q⟩ := h
  refine ⟨_, (pss_cons (ps_if (pt_cmpR op_le (pv 2 (hd := nd_most) (hcd := nc_most)) (pv 1 (hd := nd_least) (hcd := nc_least)) (nomark _)) (pss_one (ps_ret (pv 1 (hd := nd_least) (hcd := nc_least)))) pss_nil)
  (pss_cons (ps_set (i := 3) sc__law_between.nd rfl (Or.inl rfl) (pe_cal C__law_take hr (pa_cons (pv 0 (hd := nd_store) (hcd := nc_store)) (pa_cons pe_int pa_nil)) (hdb := nd__law_take)))
  (pss_cons (ps_if (pt_cmpR op_eq (pv 3 (hd := nd_edge) (hcd := nc_edge)) pe_int (nomark _)) (pss_one (ps_ret (pv 1 (hd := nd_least) (hcd := nc_least)))) pss_nil)
  (pss_cons (ps_if (pt_cmpR op_eq (pv 3 (hd := nd_edge) (hcd := nc_edge)) pe_int (nomark _)) (pss_one (ps_ret (pv 2 (hd := nd_most) (hcd := nc_most)))) pss_nil)
  (pss_cons (ps_if (pt_cmpR op_eq (pv 3 (hd := nd_edge) (hcd := nc_edge)) pe_int (nomark _)) (pss_one (ps_ret (pe_op op_add (pv 1 (hd := nd_least) (hcd := nc_least)) pe_int))) pss_nil)
  (pss_one (ps_ret (pe_op op_add (pv 1 (hd := nd_least) (hcd := nc_least)) (pe_cal C__law_take hr (pa_cons (pv 0 (hd := nd_store) (hcd := nc_store)) (pa_cons (pe_op op_add (pe_op op_sub (pv 2 (hd := nd_most) (hcd := nc_most)) (pv 1 (hd := nd_least) (hcd := nc_least))) pe_int) pa_nil)) (hdb := nd__law_take)))))))))), ?_⟩
  refine Rd.at0 (σ := [some (.ref st), some (.int lo), some (.int hi), none]) rfl ?_
  repeat' (walk_at "rd")
  · exact q lo _ (Int.le_refl _) (.inr rfl) (Go.refl hs)
  refine ⟨st, c, 9, rfl, hs, by decide, fun e H1 h0 h9 g1 => ?_⟩
  repeat' (walk_at "rd")
  · exact q lo _ (Int.le_refl _) (.inr rfl) g1
  · exact q hi _ (by omega) (.inl (Int.le_refl _)) g1
  · exact q (lo + 1) _ (by omega) (.inl (by omega)) g1
  refine ⟨st, c, hi - lo + 1, rfl, g1.ok, by omega, fun r H2 k0 k1 g2 => ?_⟩
  repeat' (walk_at "rd")
  exact q (lo + r) _ (by omega) (.inl (by omega)) (g1.trans g2)
/-- _law_store(script): a new store -/
def spStore (K : PySem.W.Frag) : Sp := fun vs H Q _ => ∃ (a : Addr) (ns : List Int), vs = [.ref a] ∧ SqL K H a (ns.map V.int) ∧ ns.length ≤ 1000 ∧ ∀ (st c : Addr) (H' : Hp), Same H H' → H st = none → StoreAt H' st c → Q (.ref st) H'
theorem ok__law_store (F : Def K mg "_law_store" s__law_store P__law_store) (m_list : mg "list" = none) (m_len : mg "len" = none) (m_int : mg "int" = none) : Cal P w K mg base 1 "_law_store" P__law_store (spStore K) := by
  refine F.ok sc__law_store (fun vs H Q E h => ?_) (fun f cdv A outer s H vs Q E hr h => ?_)
  · obtain ⟨a, ns, rfl, _⟩ := h
    rfl
  obtain ⟨a, ns, rfl, hS, hl, q⟩ := h
  refine ⟨_, (pss_cons (ps_set (i := 1) sc__law_store.nd rfl (Or.inl rfl) (pe_callTy q_list (by rfl) m_list bb_list (pa_cons (pv 0 (hd := nd_script) (hcd := nc_script)) pa_nil) (hn := nn_list) (hdb := nd_list)))
  (pss_cons (ps_set (i := 2) sc__law_store.nd rfl (Or.inl rfl) (pe_op op_add pe_int (pe_callB q_len (by rfl) m_len PySem.boot_len (pa_cons (pv 1 (hd := nd_cells) (hcd := nc_cells)) pa_nil) (hn := nn_len) (hdb := nd_len))))
  (pss_cons (ps_for PassesOwn.never rfl (pi_list (pv 1 (hd := nd_cells) (hcd := nc_cells))) (pg_name (i := 3) sc__law_store.nd rfl (Or.inl rfl)) (pss_one (ps_set (i := 2) sc__law_store.nd rfl (Or.inl rfl) (pe_op op_mod (pe_op op_add (pe_op op_add (pe_op op_mul (pv 2 (hd := nd_state) (hcd := nc_state)) pe_int) (pe_op op_mod (pe_callTy q_intI (by rfl) m_int bb_int (pa_cons (pv 3 (hd := nd_cell) (hcd := nc_cell)) pa_nil) (hn := nn_int) (hdb := nd_int)) pe_int)) pe_int) pe_int))))
  (pss_one (ps_ret (pe_lst (pa_cons (pv 1 (hd := nd_cells) (hcd := nc_cells)) (pa_cons pe_int (pa_cons pe_int (pa_cons (pv 2 (hd := nd_state) (hcd := nc_state)) (pa_cons pe_int pa_nil))))))))))), ?_⟩
  refine Rd.at0 (σ := [some (.ref a), none, none, none]) rfl ?_
  repeat' (walk_at "rd")
  intro c hc
  repeat' (walk_at "rd")
  refine forL (ns.map V.int) (fun i σ H' => ∃ (s : Int) (v3 : Option V), σ = [some (.ref a), some (.ref c), some (.int s), v3] ∧ H' = upd H c (.lst (ns.map V.int))) ⟨_, none, rfl, rfl⟩ (fun i σ H' _ ⟨_, _, _, e⟩ => by rw [e]; exact .inl (.inl upd_same)) ?_ ?_
  · rintro i x σ H' hx ⟨z, v3, rfl, rfl⟩
    obtain ⟨y, hy, rfl⟩ := int_at hx
    repeat' (walk_at "rd")
    exact ⟨_, _, rfl, rfl⟩
  · rintro σ H' ⟨z, v3, rfl, rfl⟩
    repeat' (walk_at "rd")
    intro st hst
    have n1 : c ≠ st := (new_ne upd_same hst).symm
    exact q st c _ ((same_upd hc).trans (same_upd hst)) (free_of hst (same_upd hc)) ⟨ns, 0, 0, z, 0, upd_same, (upd_ne n1).trans upd_same, n1, Int.le_refl _, Int.le_refl _⟩
end
/-- _law_shuffled(store, items): a new list of the same items in some order -/
def spShuffled (K : PySem.W.Frag) : Sp := fun vs H Q _ => ∃ (st c a : Addr) (xs : List V), vs = [.ref st, .ref a] ∧ StoreAt H st c ∧ SqL K H a xs ∧ xs.length ≤ 100000 ∧
  ∀ (l : Addr) (ys : List V) (H' : Hp), ys.Perm xs → H l = none → Go st c H H' → H' l = some (.lst ys) → Q (.ref l) H'
section
variable {P : Program} {w : World} {K : PySem.W.Frag} {mg : Str → Option Value} {base : Heap}
theorem ok__law_shuffled (F : Def K mg "_law_shuffled" s__law_shuffled P__law_shuffled) (m_list : mg "list" = none) (m_reversed : mg "reversed" = none) (m_range : mg "range" = none) (m_len : mg "len" = none) (C__law_take : Cal P w K mg base 1 "_law_take" P__law_take spTake) : Cal P w K mg base 2 "_law_shuffled" P__law_shuffled (spShuffled K) := by
  refine F.ok sc__law_shuffled (fun vs H Q E h => ?_) (fun f cdv A outer s H vs Q E hr h => ?_)
  · obtain ⟨st, c, a, xs, rfl, _⟩ := h
    rfl
  obtain ⟨st, c, a, xs, rfl, hs, ha, hl, q⟩ := h
  refine ⟨_, (pss_cons (ps_set (i := 2) sc__law_shuffled.nd rfl (Or.inl rfl) (pe_callTy q_list (by rfl) m_list bb_list (pa_cons (pv 1 (hd := nd_items) (hcd := nc_items)) pa_nil) (hn := nn_list) (hdb := nd_list)))
  (pss_cons (ps_set (i := 3) sc__law_shuffled.nd rfl (Or.inl rfl) (pe_cal C__law_take hr (pa_cons (pv 0 (hd := nd_store) (hcd := nc_store)) (pa_cons pe_int pa_nil)) (hdb := nd__law_take)))
  (pss_cons (ps_if (pt_cmpR op_eq (pv 3 (hd := nd_style) (hcd := nc_style)) pe_int (nomark _)) (pss_one (ps_ret (pv 2 (hd := nd_row) (hcd := nc_row)))) pss_nil)
  (pss_cons (ps_if (pt_cmpR op_eq (pv 3 (hd := nd_style) (hcd := nc_style)) pe_int (nomark _)) (pss_one (ps_ret (pe_lstRev (by rfl) (by rfl) m_list (by rfl) m_reversed (pv 2 (hd := nd_row) (hcd := nc_row))))) pss_nil)
  (pss_cons (ps_for PassesOwn.never rfl (pi_range1 (by rfl) m_range (pa_cons (pe_op op_sub (pe_callB q_len (by rfl) m_len PySem.boot_len (pa_cons (pv 2 (hd := nd_row) (hcd := nc_row)) pa_nil) (hn := nn_len) (hdb := nd_len)) pe_int) pa_nil)) (pg_name (i := 4) sc__law_shuffled.nd rfl (Or.inl rfl)) (pss_cons (ps_set (i := 5) sc__law_shuffled.nd rfl (Or.inl rfl) (pe_op op_add (pv 4 (hd := nd_k) (hcd := nc_k)) (pe_cal C__law_take hr (pa_cons (pv 0 (hd := nd_store) (hcd := nc_store)) (pa_cons (pe_op op_sub (pe_callB q_len (by rfl) m_len PySem.boot_len (pa_cons (pv 2 (hd := nd_row) (hcd := nc_row)) pa_nil) (hn := nn_len) (hdb := nd_len)) (pv 4 (hd := nd_k) (hcd := nc_k))) pa_nil)) (hdb := nd__law_take))))
  (pss_cons (ps_set (i := 6) sc__law_shuffled.nd rfl (Or.inl rfl) (pe_ix ix_list (pv 2 (hd := nd_row) (hcd := nc_row)) (pv 4 (hd := nd_k) (hcd := nc_k)) (fun _ _ => rfl)))
  (pss_cons (ps_asg (pe_ix ix_list (pv 2 (hd := nd_row) (hcd := nc_row)) (pv 5 (hd := nd_at) (hcd := nc_at)) (fun _ _ => rfl)) (pg_sub (pv 2 (hd := nd_row) (hcd := nc_row)) (pv 4 (hd := nd_k) (hcd := nc_k)) set_list))
  (pss_one (ps_asg (pv 6 (hd := nd_kept) (hcd := nc_kept)) (pg_sub (pv 2 (hd := nd_row) (hcd := nc_row)) (pv 5 (hd := nd_at) (hcd := nc_at)) set_list)))))))
  (pss_one (ps_ret (pv 2 (hd := nd_row) (hcd := nc_row))))))))), ?_⟩
  refine Rd.at0 (σ := [some (.ref st), some (.ref a), none, none, none, none, none]) rfl ?_
  repeat' (walk_at "rd")
  intro p hp
  have pst := hs.off hp
  have g0 : Go st c H (upd H p (.lst xs)) := (Go.refl hs).new hp _
  repeat' (walk_at "rd")
  refine ⟨st, c, 6, rfl, g0.ok, by decide, fun e H1 e0 e6 g1 => ?_⟩
  have hp1 : H1 p = some (.lst xs) := g1.keep p _ pst.1 upd_same
  have g01 := g0.trans g1
  repeat' (walk_at "rd")
  · exact q p xs H1 (.refl _) hp g01 hp1
  · intro r hr1
    exact q r xs.reverse _ (List.reverse_perm xs) (g01.free hr1) (g01.new hr1 _) upd_same
  refine forR (fun i σ H' => ∃ (ys : List V) (v4 v5 v6 : Option V), σ = [some (.ref st), some (.ref a), some (.ref p), some (.int e), v4, v5, v6] ∧ ys.Perm xs ∧ H' p = some (.lst ys) ∧ Go st c H H')
    ⟨xs, none, none, none, rfl, .refl _, hp1, g01⟩ ?_ ?_
  · rintro i σ H' hi ⟨ys, v4, v5, v6, rfl, pm, hp', g⟩
    have hy : ys.length = xs.length := pm.length_eq
    have hi2 : i + 1 < ys.length := by omega
    repeat' (walk_at "rd")
    refine ⟨st, c, _, rfl, g.ok, by omega, fun r H2 r0 r1 g2 => ?_⟩
    have hp2 : H2 p = some (.lst ys) := g2.keep p _ pst.1 hp'
    have hr2 : 0 + (i : Int) + r < (ys.length : Int) := by omega
    have x1 : ys[(0 + (i : Int)).toNat]? = some ys[i] := by
      rw [show (0 + (i : Int)).toNat = i by omega]
      exact List.getElem?_eq_getElem (by omega)
    have j2 : (0 + (i : Int) + r).toNat < ys.length := by omega
    have x2 : ys[(0 + (i : Int) + r).toNat]? = some ys[(0 + (i : Int) + r).toNat] := List.getElem?_eq_getElem j2
    repeat' (walk_at "rd")
    refine ixN' (.inl (.inl hp2)) (by omega) x1 ?_
    repeat' (walk_at "rd")
    refine ixN' (.inl (.inl hp2)) (by omega) x2 ?_
    repeat' (walk_at "rd")
    refine setN' hp2 (by omega) (by omega) ?_
    repeat' (walk_at "rd")
    refine setN' upd_same (by omega) (by rw [List.length_set]; omega) ?_
    repeat' (walk_at "rd")
    rw [upd_upd]
    exact ⟨_, _, _, _, rfl, (swap_perm x1 x2).trans pm, upd_same, (g.trans g2).write hp pst _⟩
  · rintro σ H' ⟨ys, v4, v5, v6, rfl, pm, hp', g⟩
    repeat' (walk_at "rd")
    exact q p ys H' pm hp g hp'
end
end Kj
namespace Kj
open PySem PySem.Spec PyProof.Rows L2 Rd
theorem bd__wall : ∀ (kV doc pm : Value) (an : Option Addr) (cdv ct : Value) (us : List Value), us.length = P__wall.length → bindArgs (PySem.W.fnOf "_wall" "_wall" (defArgs s__wall) (defBody s__wall) (defScope s__wall) .none kV doc pm an cdv ct) ⟨us, []⟩ = pure (P__wall.zip us) := fun _ _ _ _ _ _ us hl => match us, hl with | [_], _ => rfl
theorem bd_is_name : ∀ (kV doc pm : Value) (an : Option Addr) (cdv ct : Value) (us : List Value), us.length = P_is_name.length → bindArgs (PySem.W.fnOf "is_name" "is_name" (defArgs s_is_name) (defBody s_is_name) (defScope s_is_name) .none kV doc pm an cdv ct) ⟨us, []⟩ = pure (P_is_name.zip us) := fun _ _ _ _ _ _ us hl => match us, hl with | [_], _ => rfl
theorem bd_check_name : ∀ (kV doc pm : Value) (an : Option Addr) (cdv ct : Value) (us : List Value), us.length = P_check_name.length → bindArgs (PySem.W.fnOf "check_name" "check_name" (defArgs s_check_name) (defBody s_check_name) (defScope s_check_name) .none kV doc pm an cdv ct) ⟨us, []⟩ = pure (P_check_name.zip us) := fun _ _ _ _ _ _ us hl => match us, hl with | [_], _ => rfl
theorem bd_check_houses : ∀ (kV doc pm : Value) (an : Option Addr) (cdv ct : Value) (us : List Value), us.length = P_check_houses.length → bindArgs (PySem.W.fnOf "check_houses" "check_houses" (defArgs s_check_houses) (defBody s_check_houses) (defScope s_check_houses) .none kV doc pm an cdv ct) ⟨us, []⟩ = pure (P_check_houses.zip us) := fun _ _ _ _ _ _ us hl => match us, hl with | [_], _ => rfl
theorem bd_ordered : ∀ (kV doc pm : Value) (an : Option Addr) (cdv ct : Value) (us : List Value), us.length = P_ordered.length → bindArgs (PySem.W.fnOf "ordered" "ordered" (defArgs s_ordered) (defBody s_ordered) (defScope s_ordered) .none kV doc pm an cdv ct) ⟨us, []⟩ = pure (P_ordered.zip us) := fun _ _ _ _ _ _ us hl => match us, hl with | [_, _], _ => rfl
theorem bd_check_names : ∀ (kV doc pm : Value) (an : Option Addr) (cdv ct : Value) (us : List Value), us.length = P_check_names.length → bindArgs (PySem.W.fnOf "check_names" "check_names" (defArgs s_check_names) (defBody s_check_names) (defScope s_check_names) .none kV doc pm an cdv ct) ⟨us, []⟩ = pure (P_check_names.zip us) := fun _ _ _ _ _ _ us hl => match us, hl with | [_], _ => rfl
theorem bd_check_stand : ∀ (kV doc pm : Value) (an : Option Addr) (cdv ct : Value) (us : List Value), us.length = P_check_stand.length → bindArgs (PySem.W.fnOf "check_stand" "check_stand" (defArgs s_check_stand) (defBody s_check_stand) (defScope s_check_stand) .none kV doc pm an cdv ct) ⟨us, []⟩ = pure (P_check_stand.zip us) := fun _ _ _ _ _ _ us hl => match us, hl with | [_, _], _ => rfl
theorem bd_check_line : ∀ (kV doc pm : Value) (an : Option Addr) (cdv ct : Value) (us : List Value), us.length = P_check_line.length → bindArgs (PySem.W.fnOf "check_line" "check_line" (defArgs s_check_line) (defBody s_check_line) (defScope s_check_line) .none kV doc pm an cdv ct) ⟨us, []⟩ = pure (P_check_line.zip us) := fun _ _ _ _ _ _ us hl => match us, hl with | [_, _, _, _], _ => rfl
theorem bd_check_new_line : ∀ (kV doc pm : Value) (an : Option Addr) (cdv ct : Value) (us : List Value), us.length = P_check_new_line.length → bindArgs (PySem.W.fnOf "check_new_line" "check_new_line" (defArgs s_check_new_line) (defBody s_check_new_line) (defScope s_check_new_line) .none kV doc pm an cdv ct) ⟨us, []⟩ = pure (P_check_new_line.zip us) := fun _ _ _ _ _ _ us hl => match us, hl with | [_, _, _, _, _], _ => rfl
theorem bd_check_line_stands : ∀ (kV doc pm : Value) (an : Option Addr) (cdv ct : Value) (us : List Value), us.length = P_check_line_stands.length → bindArgs (PySem.W.fnOf "check_line_stands" "check_line_stands" (defArgs s_check_line_stands) (defBody s_check_line_stands) (defScope s_check_line_stands) .none kV doc pm an cdv ct) ⟨us, []⟩ = pure (P_check_line_stands.zip us) := fun _ _ _ _ _ _ us hl => match us, hl with | [_, _], _ => rfl
theorem bd0_shortest_way : ∀ (D : Addr) (doc pm : Value) (an : Option Addr) (cdv ct : Value) (us ks : List Value), us.length = P_shortest_way.length - 1 → ks.length = 1 → KwChain D ((([("without", V.non)] : List (Str × V)).map (·.1)).zip ks) (bindArgs (PySem.W.fnOf "shortest_way" "shortest_way" (defArgs s_shortest_way) (defBody s_shortest_way) (defScope s_shortest_way) .none (.ref D) doc pm an cdv ct) ⟨us, []⟩) (P_shortest_way.zip (us ++ ks)) := fun _ _ _ _ _ _ us ks h1 h2 => match us, ks, h1, h2 with | [_, _, _], [_], _, _ => ⟨_, _, _, _, _, _, rfl, rfl, rfl⟩
theorem bd1_shortest_way : ∀ (D : Addr) (doc pm : Value) (an : Option Addr) (cdv ct : Value) (us ws : List Value), us.length = P_shortest_way.length - 1 → ws.length = 1 → bindArgs (PySem.W.fnOf "shortest_way" "shortest_way" (defArgs s_shortest_way) (defBody s_shortest_way) (defScope s_shortest_way) .none (.ref D) doc pm an cdv ct) ⟨us, (["without"] : List Str).zip ws⟩ = pure (P_shortest_way.zip (us ++ ws)) := fun _ _ _ _ _ _ us ws h1 h2 => match us, ws, h1, h2 with | [_, _, _], [_], _, _ => rfl
theorem bd_check_asked : ∀ (kV doc pm : Value) (an : Option Addr) (cdv ct : Value) (us : List Value), us.length = P_check_asked.length → bindArgs (PySem.W.fnOf "check_asked" "check_asked" (defArgs s_check_asked) (defBody s_check_asked) (defScope s_check_asked) .none kV doc pm an cdv ct) ⟨us, []⟩ = pure (P_check_asked.zip us) := fun _ _ _ _ _ _ us hl => match us, hl with | [_, _, _], _ => rfl
theorem bd_steps_of : ∀ (kV doc pm : Value) (an : Option Addr) (cdv ct : Value) (us : List Value), us.length = P_steps_of.length → bindArgs (PySem.W.fnOf "steps_of" "steps_of" (defArgs s_steps_of) (defBody s_steps_of) (defScope s_steps_of) .none kV doc pm an cdv ct) ⟨us, []⟩ = pure (P_steps_of.zip us) := fun _ _ _ _ _ _ us hl => match us, hl with | [_, _], _ => rfl
theorem bd_counts_from : ∀ (kV doc pm : Value) (an : Option Addr) (cdv ct : Value) (us : List Value), us.length = P_counts_from.length → bindArgs (PySem.W.fnOf "counts_from" "counts_from" (defArgs s_counts_from) (defBody s_counts_from) (defScope s_counts_from) .none kV doc pm an cdv ct) ⟨us, []⟩ = pure (P_counts_from.zip us) := fun _ _ _ _ _ _ us hl => match us, hl with | [_, _], _ => rfl
theorem bd__law_store : ∀ (kV doc pm : Value) (an : Option Addr) (cdv ct : Value) (us : List Value), us.length = P__law_store.length → bindArgs (PySem.W.fnOf "_law_store" "_law_store" (defArgs s__law_store) (defBody s__law_store) (defScope s__law_store) .none kV doc pm an cdv ct) ⟨us, []⟩ = pure (P__law_store.zip us) := fun _ _ _ _ _ _ us hl => match us, hl with | [_], _ => rfl
theorem bd__law_take : ∀ (kV doc pm : Value) (an : Option Addr) (cdv ct : Value) (us : List Value), us.length = P__law_take.length → bindArgs (PySem.W.fnOf "_law_take" "_law_take" (defArgs s__law_take) (defBody s__law_take) (defScope s__law_take) .none kV doc pm an cdv ct) ⟨us, []⟩ = pure (P__law_take.zip us) := fun _ _ _ _ _ _ us hl => match us, hl with | [_, _], _ => rfl
theorem bd__law_between : ∀ (kV doc pm : Value) (an : Option Addr) (cdv ct : Value) (us : List Value), us.length = P__law_between.length → bindArgs (PySem.W.fnOf "_law_between" "_law_between" (defArgs s__law_between) (defBody s__law_between) (defScope s__law_between) .none kV doc pm an cdv ct) ⟨us, []⟩ = pure (P__law_between.zip us) := fun _ _ _ _ _ _ us hl => match us, hl with | [_, _, _], _ => rfl
theorem bd__law_pick : ∀ (kV doc pm : Value) (an : Option Addr) (cdv ct : Value) (us : List Value), us.length = P__law_pick.length → bindArgs (PySem.W.fnOf "_law_pick" "_law_pick" (defArgs s__law_pick) (defBody s__law_pick) (defScope s__law_pick) .none kV doc pm an cdv ct) ⟨us, []⟩ = pure (P__law_pick.zip us) := fun _ _ _ _ _ _ us hl => match us, hl with | [_, _], _ => rfl
theorem bd__law_shuffled : ∀ (kV doc pm : Value) (an : Option Addr) (cdv ct : Value) (us : List Value), us.length = P__law_shuffled.length → bindArgs (PySem.W.fnOf "_law_shuffled" "_law_shuffled" (defArgs s__law_shuffled) (defBody s__law_shuffled) (defScope s__law_shuffled) .none kV doc pm an cdv ct) ⟨us, []⟩ = pure (P__law_shuffled.zip us) := fun _ _ _ _ _ _ us hl => match us, hl with | [_, _], _ => rfl
theorem bd__law_is_integer : ∀ (kV doc pm : Value) (an : Option Addr) (cdv ct : Value) (us : List Value), us.length = P__law_is_integer.length → bindArgs (PySem.W.fnOf "_law_is_integer" "_law_is_integer" (defArgs s__law_is_integer) (defBody s__law_is_integer) (defScope s__law_is_integer) .none kV doc pm an cdv ct) ⟨us, []⟩ = pure (P__law_is_integer.zip us) := fun _ _ _ _ _ _ us hl => match us, hl with | [_], _ => rfl
theorem bd__law_same : ∀ (kV doc pm : Value) (an : Option Addr) (cdv ct : Value) (us : List Value), us.length = P__law_same.length → bindArgs (PySem.W.fnOf "_law_same" "_law_same" (defArgs s__law_same) (defBody s__law_same) (defScope s__law_same) .none kV doc pm an cdv ct) ⟨us, []⟩ = pure (P__law_same.zip us) := fun _ _ _ _ _ _ us hl => match us, hl with | [_, _], _ => rfl
theorem bd__law_is_name : ∀ (kV doc pm : Value) (an : Option Addr) (cdv ct : Value) (us : List Value), us.length = P__law_is_name.length → bindArgs (PySem.W.fnOf "_law_is_name" "_law_is_name" (defArgs s__law_is_name) (defBody s__law_is_name) (defScope s__law_is_name) .none kV doc pm an cdv ct) ⟨us, []⟩ = pure (P__law_is_name.zip us) := fun _ _ _ _ _ _ us hl => match us, hl with | [_], _ => rfl
theorem bd__law_names : ∀ (kV doc pm : Value) (an : Option Addr) (cdv ct : Value) (us : List Value), us.length = P__law_names.length → bindArgs (PySem.W.fnOf "_law_names" "_law_names" (defArgs s__law_names) (defBody s__law_names) (defScope s__law_names) .none kV doc pm an cdv ct) ⟨us, []⟩ = pure (P__law_names.zip us) := fun _ _ _ _ _ _ us hl => match us, hl with | [_, _], _ => rfl
theorem bd__law_houses : ∀ (kV doc pm : Value) (an : Option Addr) (cdv ct : Value) (us : List Value), us.length = P__law_houses.length → bindArgs (PySem.W.fnOf "_law_houses" "_law_houses" (defArgs s__law_houses) (defBody s__law_houses) (defScope s__law_houses) .none kV doc pm an cdv ct) ⟨us, []⟩ = pure (P__law_houses.zip us) := fun _ _ _ _ _ _ us hl => match us, hl with | [_, _], _ => rfl
theorem bd__law_pair : ∀ (kV doc pm : Value) (an : Option Addr) (cdv ct : Value) (us : List Value), us.length = P__law_pair.length → bindArgs (PySem.W.fnOf "_law_pair" "_law_pair" (defArgs s__law_pair) (defBody s__law_pair) (defScope s__law_pair) .none kV doc pm an cdv ct) ⟨us, []⟩ = pure (P__law_pair.zip us) := fun _ _ _ _ _ _ us hl => match us, hl with | [_, _, _, _], _ => rfl
theorem bd__law_line_names : ∀ (kV doc pm : Value) (an : Option Addr) (cdv ct : Value) (us : List Value), us.length = P__law_line_names.length → bindArgs (PySem.W.fnOf "_law_line_names" "_law_line_names" (defArgs s__law_line_names) (defBody s__law_line_names) (defScope s__law_line_names) .none kV doc pm an cdv ct) ⟨us, []⟩ = pure (P__law_line_names.zip us) := fun _ _ _ _ _ _ us hl => match us, hl with | [_, _, _], _ => rfl
theorem bd__law_lines : ∀ (kV doc pm : Value) (an : Option Addr) (cdv ct : Value) (us : List Value), us.length = P__law_lines.length → bindArgs (PySem.W.fnOf "_law_lines" "_law_lines" (defArgs s__law_lines) (defBody s__law_lines) (defScope s__law_lines) .none kV doc pm an cdv ct) ⟨us, []⟩ = pure (P__law_lines.zip us) := fun _ _ _ _ _ _ us hl => match us, hl with | [_, _, _], _ => rfl
theorem bd__law_web : ∀ (kV doc pm : Value) (an : Option Addr) (cdv ct : Value) (us : List Value), us.length = P__law_web.length → bindArgs (PySem.W.fnOf "_law_web" "_law_web" (defArgs s__law_web) (defBody s__law_web) (defScope s__law_web) .none kV doc pm an cdv ct) ⟨us, []⟩ = pure (P__law_web.zip us) := fun _ _ _ _ _ _ us hl => match us, hl with | [_, _], _ => rfl
theorem bd__law_two : ∀ (kV doc pm : Value) (an : Option Addr) (cdv ct : Value) (us : List Value), us.length = P__law_two.length → bindArgs (PySem.W.fnOf "_law_two" "_law_two" (defArgs s__law_two) (defBody s__law_two) (defScope s__law_two) .none kV doc pm an cdv ct) ⟨us, []⟩ = pure (P__law_two.zip us) := fun _ _ _ _ _ _ us hl => match us, hl with | [_, _], _ => rfl
theorem bd__law_steps_from : ∀ (kV doc pm : Value) (an : Option Addr) (cdv ct : Value) (us : List Value), us.length = P__law_steps_from.length → bindArgs (PySem.W.fnOf "_law_steps_from" "_law_steps_from" (defArgs s__law_steps_from) (defBody s__law_steps_from) (defScope s__law_steps_from) .none kV doc pm an cdv ct) ⟨us, []⟩ = pure (P__law_steps_from.zip us) := fun _ _ _ _ _ _ us hl => match us, hl with | [_, _, _], _ => rfl
theorem bd__law_least_way : ∀ (kV doc pm : Value) (an : Option Addr) (cdv ct : Value) (us : List Value), us.length = P__law_least_way.length → bindArgs (PySem.W.fnOf "_law_least_way" "_law_least_way" (defArgs s__law_least_way) (defBody s__law_least_way) (defScope s__law_least_way) .none kV doc pm an cdv ct) ⟨us, []⟩ = pure (P__law_least_way.zip us) := fun _ _ _ _ _ _ us hl => match us, hl with | [_, _, _, _], _ => rfl
theorem bd__law_refusal : ∀ (kV doc pm : Value) (an : Option Addr) (cdv ct : Value) (us : List Value), us.length = P__law_refusal.length → bindArgs (PySem.W.fnOf "_law_refusal" "_law_refusal" (defArgs s__law_refusal) (defBody s__law_refusal) (defScope s__law_refusal) .none kV doc pm an cdv ct) ⟨us, []⟩ = pure (P__law_refusal.zip us) := fun _ _ _ _ _ _ us hl => match us, hl with | [_, _], _ => rfl
theorem bd__law_due_search : ∀ (kV doc pm : Value) (an : Option Addr) (cdv ct : Value) (us : List Value), us.length = P__law_due_search.length → bindArgs (PySem.W.fnOf "_law_due_search" "_law_due_search" (defArgs s__law_due_search) (defBody s__law_due_search) (defScope s__law_due_search) .none kV doc pm an cdv ct) ⟨us, []⟩ = pure (P__law_due_search.zip us) := fun _ _ _ _ _ _ us hl => match us, hl with | [_, _, _, _], _ => rfl
theorem bd__law_argument : ∀ (kV doc pm : Value) (an : Option Addr) (cdv ct : Value) (us : List Value), us.length = P__law_argument.length → bindArgs (PySem.W.fnOf "_law_argument" "_law_argument" (defArgs s__law_argument) (defBody s__law_argument) (defScope s__law_argument) .none kV doc pm an cdv ct) ⟨us, []⟩ = pure (P__law_argument.zip us) := fun _ _ _ _ _ _ us hl => match us, hl with | [_, _], _ => rfl
theorem bd__law_asked : ∀ (kV doc pm : Value) (an : Option Addr) (cdv ct : Value) (us : List Value), us.length = P__law_asked.length → bindArgs (PySem.W.fnOf "_law_asked" "_law_asked" (defArgs s__law_asked) (defBody s__law_asked) (defScope s__law_asked) .none kV doc pm an cdv ct) ⟨us, []⟩ = pure (P__law_asked.zip us) := fun _ _ _ _ _ _ us hl => match us, hl with | [_, _, _, _, _], _ => rfl
theorem bd__law_way_right : ∀ (kV doc pm : Value) (an : Option Addr) (cdv ct : Value) (us : List Value), us.length = P__law_way_right.length → bindArgs (PySem.W.fnOf "_law_way_right" "_law_way_right" (defArgs s__law_way_right) (defBody s__law_way_right) (defScope s__law_way_right) .none kV doc pm an cdv ct) ⟨us, []⟩ = pure (P__law_way_right.zip us) := fun _ _ _ _ _ _ us hl => match us, hl with | [_, _, _, _, _, _], _ => rfl
theorem bd__law_web_right : ∀ (kV doc pm : Value) (an : Option Addr) (cdv ct : Value) (us : List Value), us.length = P__law_web_right.length → bindArgs (PySem.W.fnOf "_law_web_right" "_law_web_right" (defArgs s__law_web_right) (defBody s__law_web_right) (defScope s__law_web_right) .none kV doc pm an cdv ct) ⟨us, []⟩ = pure (P__law_web_right.zip us) := fun _ _ _ _ _ _ us hl => match us, hl with | [_, _, _, _], _ => rfl
theorem bd_law : ∀ (kV doc pm : Value) (an : Option Addr) (cdv ct : Value) (us : List Value), us.length = P_law.length → bindArgs (PySem.W.fnOf "law" "law" (defArgs s_law) (defBody s_law) (defScope s_law) .none kV doc pm an cdv ct) ⟨us, []⟩ = pure (P_law.zip us) := fun _ _ _ _ _ _ us hl => match us, hl with | [_], _ => rfl
theorem bd_Web_init : ∀ (T : Addr) (kV doc pm : Value) (an : Option Addr) (cdv ct : Value) (us its : List Value), us.length = P_Web_init.length → its.length = 2 → ∃ k, bindArgs (PySem.W.fnOf "__init__" "Web.__init__" (defArgs s_Web_init) (defBody s_Web_init) (defScope s_Web_init) (.ref T) kV doc pm an cdv ct) ⟨us, []⟩ = seqItems? (.ref T) >>= k ∧ k (some its.toArray) = pure (P_Web_init.zip us) := fun _ _ _ _ _ _ _ us its hl hi => match us, its, hl, hi with | [_, _, _], [_, _], _, _ => ⟨_, rfl, rfl⟩
theorem bd_Web_houses : ∀ (kV doc pm : Value) (an : Option Addr) (cdv ct : Value) (us : List Value), us.length = P_Web_houses.length → bindArgs (PySem.W.fnOf "houses" "Web.houses" (defArgs s_Web_houses) (defBody s_Web_houses) (defScope s_Web_houses) .none kV doc pm an cdv ct) ⟨us, []⟩ = pure (P_Web_houses.zip us) := fun _ _ _ _ _ _ us hl => match us, hl with | [_], _ => rfl
theorem bd_Web_lines : ∀ (kV doc pm : Value) (an : Option Addr) (cdv ct : Value) (us : List Value), us.length = P_Web_lines.length → bindArgs (PySem.W.fnOf "lines" "Web.lines" (defArgs s_Web_lines) (defBody s_Web_lines) (defScope s_Web_lines) .none kV doc pm an cdv ct) ⟨us, []⟩ = pure (P_Web_lines.zip us) := fun _ _ _ _ _ _ us hl => match us, hl with | [_], _ => rfl
theorem bd_Web_contains : ∀ (kV doc pm : Value) (an : Option Addr) (cdv ct : Value) (us : List Value), us.length = P_Web_contains.length → bindArgs (PySem.W.fnOf "__contains__" "Web.__contains__" (defArgs s_Web_contains) (defBody s_Web_contains) (defScope s_Web_contains) .none kV doc pm an cdv ct) ⟨us, []⟩ = pure (P_Web_contains.zip us) := fun _ _ _ _ _ _ us hl => match us, hl with | [_, _], _ => rfl
abbrev i_BadName : Stmt := Hk.clsInit (topS 3)
theorem sci_BadName : FnScope ["self", "word"] ["self", "word"] (defScope i_BadName) := ⟨rfl, rfl, rfl, by decide +kernel, rfl, by decide +kernel, by decide +kernel⟩
theorem bdi_BadName : ∀ (kV doc pm : Value) (an : Option Addr) (cdv ct : Value) (us : List Value), us.length = (["self", "word"] : List Str).length → bindArgs (PySem.W.fnOf "__init__" "BadName.__init__" (defArgs i_BadName) (defBody i_BadName) (defScope i_BadName) .none kV doc pm an cdv ct) ⟨us, []⟩ = pure ((["self", "word"] : List Str).zip us) := fun _ _ _ _ _ _ us hl => match us, hl with | [_, _], _ => rfl
theorem ok_init_BadName {P : Program} {w : World} {K : PySem.W.Frag} {mg : Str → Option Value} {base : Heap} {C fI : Addr} {fd : FuncData} (F : Fun K "__init__" "BadName.__init__" i_BadName fI fd) : FnOk P w K mg base CX0 1 fI fd ["self", "word"] (Ho.spInit K C "BadName" "word") := by
  refine F.ok sci_BadName (fun vs H Q E h => ?_) (fun cdv A outer s H vs Q E hr h => ?_)
  · obtain ⟨a, y, rfl, _⟩ := h
    rfl
  obtain ⟨a, y, rfl, hH, ox, n1, n2, q⟩ := h
  refine ⟨_, pss_cons (ps_ost (pv 0) pe_str) (pss_one (ps_ost (pv 0) (pv 1))), ?_⟩
  refine Rd.at0 (σ := [some (.ref a), some y]) rfl ?_
  refine Rd.seq (Hk.ost ?_)
  refine ⟨_, rfl, a, C, rfl, ox, n1, .inl ⟨hH, fun dx nd ne => ?_⟩⟩
  dsimp only
  refine Hk.ost ?_
  refine ⟨_, rfl, _, rfl, a, C, rfl, ox, n2, .inr ⟨dx, _, upd_same, (upd_ne ne).trans upd_same, by decide, q dx nd ne⟩⟩
abbrev i_NoHouse : Stmt := Hk.clsInit (topS 4)
theorem sci_NoHouse : FnScope ["self", "word"] ["self", "word"] (defScope i_NoHouse) := ⟨rfl, rfl, rfl, by decide +kernel, rfl, by decide +kernel, by decide +kernel⟩
theorem bdi_NoHouse : ∀ (kV doc pm : Value) (an : Option Addr) (cdv ct : Value) (us : List Value), us.length = (["self", "word"] : List Str).length → bindArgs (PySem.W.fnOf "__init__" "NoHouse.__init__" (defArgs i_NoHouse) (defBody i_NoHouse) (defScope i_NoHouse) .none kV doc pm an cdv ct) ⟨us, []⟩ = pure ((["self", "word"] : List Str).zip us) := fun _ _ _ _ _ _ us hl => match us, hl with | [_, _], _ => rfl
theorem ok_init_NoHouse {P : Program} {w : World} {K : PySem.W.Frag} {mg : Str → Option Value} {base : Heap} {C fI : Addr} {fd : FuncData} (F : Fun K "__init__" "NoHouse.__init__" i_NoHouse fI fd) : FnOk P w K mg base CX0 1 fI fd ["self", "word"] (Ho.spInit K C "NoHouse" "word") := by
  refine F.ok sci_NoHouse (fun vs H Q E h => ?_) (fun cdv A outer s H vs Q E hr h => ?_)
  · obtain ⟨a, y, rfl, _⟩ := h
    rfl
  obtain ⟨a, y, rfl, hH, ox, n1, n2, q⟩ := h
  refine ⟨_, pss_cons (ps_ost (pv 0) pe_str) (pss_one (ps_ost (pv 0) (pv 1))), ?_⟩
  refine Rd.at0 (σ := [some (.ref a), some y]) rfl ?_
  refine Rd.seq (Hk.ost ?_)
  refine ⟨_, rfl, a, C, rfl, ox, n1, .inl ⟨hH, fun dx nd ne => ?_⟩⟩
  dsimp only
  refine Hk.ost ?_
  refine ⟨_, rfl, _, rfl, a, C, rfl, ox, n2, .inr ⟨dx, _, upd_same, (upd_ne ne).trans upd_same, by decide, q dx nd ne⟩⟩
abbrev i_NoLine : Stmt := Hk.clsInit (topS 5)
theorem sci_NoLine : FnScope ["self", "word"] ["self", "word"] (defScope i_NoLine) := ⟨rfl, rfl, rfl, by decide +kernel, rfl, by decide +kernel, by decide +kernel⟩
theorem bdi_NoLine : ∀ (kV doc pm : Value) (an : Option Addr) (cdv ct : Value) (us : List Value), us.length = (["self", "word"] : List Str).length → bindArgs (PySem.W.fnOf "__init__" "NoLine.__init__" (defArgs i_NoLine) (defBody i_NoLine) (defScope i_NoLine) .none kV doc pm an cdv ct) ⟨us, []⟩ = pure ((["self", "word"] : List Str).zip us) := fun _ _ _ _ _ _ us hl => match us, hl with | [_, _], _ => rfl
theorem ok_init_NoLine {P : Program} {w : World} {K : PySem.W.Frag} {mg : Str → Option Value} {base : Heap} {C fI : Addr} {fd : FuncData} (F : Fun K "__init__" "NoLine.__init__" i_NoLine fI fd) : FnOk P w K mg base CX0 1 fI fd ["self", "word"] (Ho.spInit K C "NoLine" "word") := by
  refine F.ok sci_NoLine (fun vs H Q E h => ?_) (fun cdv A outer s H vs Q E hr h => ?_)
  · obtain ⟨a, y, rfl, _⟩ := h
    rfl
  obtain ⟨a, y, rfl, hH, ox, n1, n2, q⟩ := h
  refine ⟨_, pss_cons (ps_ost (pv 0) pe_str) (pss_one (ps_ost (pv 0) (pv 1))), ?_⟩
  refine Rd.at0 (σ := [some (.ref a), some y]) rfl ?_
  refine Rd.seq (Hk.ost ?_)
  refine ⟨_, rfl, a, C, rfl, ox, n1, .inl ⟨hH, fun dx nd ne => ?_⟩⟩
  dsimp only
  refine Hk.ost ?_
  refine ⟨_, rfl, _, rfl, a, C, rfl, ox, n2, .inr ⟨dx, _, upd_same, (upd_ne ne).trans upd_same, by decide, q dx nd ne⟩⟩
abbrev i_SelfLine : Stmt := Hk.clsInit (topS 6)
theorem sci_SelfLine : FnScope ["self", "word"] ["self", "word"] (defScope i_SelfLine) := ⟨rfl, rfl, rfl, by decide +kernel, rfl, by decide +kernel, by decide +kernel⟩
theorem bdi_SelfLine : ∀ (kV doc pm : Value) (an : Option Addr) (cdv ct : Value) (us : List Value), us.length = (["self", "word"] : List Str).length → bindArgs (PySem.W.fnOf "__init__" "SelfLine.__init__" (defArgs i_SelfLine) (defBody i_SelfLine) (defScope i_SelfLine) .none kV doc pm an cdv ct) ⟨us, []⟩ = pure ((["self", "word"] : List Str).zip us) := fun _ _ _ _ _ _ us hl => match us, hl with | [_, _], _ => rfl
theorem ok_init_SelfLine {P : Program} {w : World} {K : PySem.W.Frag} {mg : Str → Option Value} {base : Heap} {C fI : Addr} {fd : FuncData} (F : Fun K "__init__" "SelfLine.__init__" i_SelfLine fI fd) : FnOk P w K mg base CX0 1 fI fd ["self", "word"] (Ho.spInit K C "SelfLine" "word") := by
  refine F.ok sci_SelfLine (fun vs H Q E h => ?_) (fun cdv A outer s H vs Q E hr h => ?_)
  · obtain ⟨a, y, rfl, _⟩ := h
    rfl
  obtain ⟨a, y, rfl, hH, ox, n1, n2, q⟩ := h
  refine ⟨_, pss_cons (ps_ost (pv 0) pe_str) (pss_one (ps_ost (pv 0) (pv 1))), ?_⟩
  refine Rd.at0 (σ := [some (.ref a), some y]) rfl ?_
  refine Rd.seq (Hk.ost ?_)
  refine ⟨_, rfl, a, C, rfl, ox, n1, .inl ⟨hH, fun dx nd ne => ?_⟩⟩
  dsimp only
  refine Hk.ost ?_
  refine ⟨_, rfl, _, rfl, a, C, rfl, ox, n2, .inr ⟨dx, _, upd_same, (upd_ne ne).trans upd_same, by decide, q dx nd ne⟩⟩
abbrev i_Taken : Stmt := Hk.clsInit (topS 7)
theorem sci_Taken : FnScope ["self", "word"] ["self", "word"] (defScope i_Taken) := ⟨rfl, rfl, rfl, by decide +kernel, rfl, by decide +kernel, by decide +kernel⟩
theorem bdi_Taken : ∀ (kV doc pm : Value) (an : Option Addr) (cdv ct : Value) (us : List Value), us.length = (["self", "word"] : List Str).length → bindArgs (PySem.W.fnOf "__init__" "Taken.__init__" (defArgs i_Taken) (defBody i_Taken) (defScope i_Taken) .none kV doc pm an cdv ct) ⟨us, []⟩ = pure ((["self", "word"] : List Str).zip us) := fun _ _ _ _ _ _ us hl => match us, hl with | [_, _], _ => rfl
theorem ok_init_Taken {P : Program} {w : World} {K : PySem.W.Frag} {mg : Str → Option Value} {base : Heap} {C fI : Addr} {fd : FuncData} (F : Fun K "__init__" "Taken.__init__" i_Taken fI fd) : FnOk P w K mg base CX0 1 fI fd ["self", "word"] (Ho.spInit K C "Taken" "word") := by
  refine F.ok sci_Taken (fun vs H Q E h => ?_) (fun cdv A outer s H vs Q E hr h => ?_)
  · obtain ⟨a, y, rfl, _⟩ := h
    rfl
  obtain ⟨a, y, rfl, hH, ox, n1, n2, q⟩ := h
  refine ⟨_, pss_cons (ps_ost (pv 0) pe_str) (pss_one (ps_ost (pv 0) (pv 1))), ?_⟩
  refine Rd.at0 (σ := [some (.ref a), some y]) rfl ?_
  refine Rd.seq (Hk.ost ?_)
  refine ⟨_, rfl, a, C, rfl, ox, n1, .inl ⟨hH, fun dx nd ne => ?_⟩⟩
  dsimp only
  refine Hk.ost ?_
  refine ⟨_, rfl, _, rfl, a, C, rfl, ox, n2, .inr ⟨dx, _, upd_same, (upd_ne ne).trans upd_same, by decide, q dx nd ne⟩⟩
abbrev i_TooMany : Stmt := Hk.clsInit (topS 15)
theorem sci_TooMany : FnScope ["self", "bound"] ["self", "bound"] (defScope i_TooMany) := ⟨rfl, rfl, rfl, by decide +kernel, rfl, by decide +kernel, by decide +kernel⟩
theorem bdi_TooMany : ∀ (kV doc pm : Value) (an : Option Addr) (cdv ct : Value) (us : List Value), us.length = (["self", "bound"] : List Str).length → bindArgs (PySem.W.fnOf "__init__" "TooMany.__init__" (defArgs i_TooMany) (defBody i_TooMany) (defScope i_TooMany) .none kV doc pm an cdv ct) ⟨us, []⟩ = pure ((["self", "bound"] : List Str).zip us) := fun _ _ _ _ _ _ us hl => match us, hl with | [_, _], _ => rfl
theorem ok_init_TooMany {P : Program} {w : World} {K : PySem.W.Frag} {mg : Str → Option Value} {base : Heap} {C fI : Addr} {fd : FuncData} (F : Fun K "__init__" "TooMany.__init__" i_TooMany fI fd) : FnOk P w K mg base CX0 1 fI fd ["self", "bound"] (Ho.spInit K C "TooMany" "bound") := by
  refine F.ok sci_TooMany (fun vs H Q E h => ?_) (fun cdv A outer s H vs Q E hr h => ?_)
  · obtain ⟨a, y, rfl, _⟩ := h
    rfl
  obtain ⟨a, y, rfl, hH, ox, n1, n2, q⟩ := h
  refine ⟨_, pss_cons (ps_ost (pv 0) pe_str) (pss_one (ps_ost (pv 0) (pv 1))), ?_⟩
  refine Rd.at0 (σ := [some (.ref a), some y]) rfl ?_
  refine Rd.seq (Hk.ost ?_)
  refine ⟨_, rfl, a, C, rfl, ox, n1, .inl ⟨hH, fun dx nd ne => ?_⟩⟩
  dsimp only
  refine Hk.ost ?_
  refine ⟨_, rfl, _, rfl, a, C, rfl, ox, n2, .inr ⟨dx, _, upd_same, (upd_ne ne).trans upd_same, by decide, q dx nd ne⟩⟩
def dd__wall : Hk.DD := ⟨fun K => He.ga K "_wall", "_wall", "_wall", s__wall, [], []⟩
def dd_is_name : Hk.DD := ⟨fun K => He.ga K "is_name", "is_name", "is_name", s_is_name, [], []⟩
def dd_check_name : Hk.DD := ⟨fun K => He.ga K "check_name", "check_name", "check_name", s_check_name, [], []⟩
def dd_check_houses : Hk.DD := ⟨fun K => He.ga K "check_houses", "check_houses", "check_houses", s_check_houses, [], []⟩
def dd_ordered : Hk.DD := ⟨fun K => He.ga K "ordered", "ordered", "ordered", s_ordered, [], []⟩
def dd_check_names : Hk.DD := ⟨fun K => He.ga K "check_names", "check_names", "check_names", s_check_names, [], []⟩
def dd_check_stand : Hk.DD := ⟨fun K => He.ga K "check_stand", "check_stand", "check_stand", s_check_stand, [], []⟩
def dd_check_line : Hk.DD := ⟨fun K => He.ga K "check_line", "check_line", "check_line", s_check_line, [], []⟩
def dd_check_new_line : Hk.DD := ⟨fun K => He.ga K "check_new_line", "check_new_line", "check_new_line", s_check_new_line, [], []⟩
def dd_check_line_stands : Hk.DD := ⟨fun K => He.ga K "check_line_stands", "check_line_stands", "check_line_stands", s_check_line_stands, [], []⟩
def dd_shortest_way : Hk.DD := ⟨fun K => He.ga K "shortest_way", "shortest_way", "shortest_way", s_shortest_way, [], [("without", .non)]⟩
def dd_check_asked : Hk.DD := ⟨fun K => He.ga K "check_asked", "check_asked", "check_asked", s_check_asked, [], []⟩
def dd_steps_of : Hk.DD := ⟨fun K => He.ga K "steps_of", "steps_of", "steps_of", s_steps_of, [], []⟩
def dd_counts_from : Hk.DD := ⟨fun K => He.ga K "counts_from", "counts_from", "counts_from", s_counts_from, [], []⟩
def dd__law_store : Hk.DD := ⟨fun K => He.ga K "_law_store", "_law_store", "_law_store", s__law_store, [], []⟩
def dd__law_take : Hk.DD := ⟨fun K => He.ga K "_law_take", "_law_take", "_law_take", s__law_take, [], []⟩
def dd__law_between : Hk.DD := ⟨fun K => He.ga K "_law_between", "_law_between", "_law_between", s__law_between, [], []⟩
def dd__law_pick : Hk.DD := ⟨fun K => He.ga K "_law_pick", "_law_pick", "_law_pick", s__law_pick, [], []⟩
def dd__law_shuffled : Hk.DD := ⟨fun K => He.ga K "_law_shuffled", "_law_shuffled", "_law_shuffled", s__law_shuffled, [], []⟩
def dd__law_is_integer : Hk.DD := ⟨fun K => He.ga K "_law_is_integer", "_law_is_integer", "_law_is_integer", s__law_is_integer, [], []⟩
def dd__law_same : Hk.DD := ⟨fun K => He.ga K "_law_same", "_law_same", "_law_same", s__law_same, [], []⟩
def dd__law_is_name : Hk.DD := ⟨fun K => He.ga K "_law_is_name", "_law_is_name", "_law_is_name", s__law_is_name, [], []⟩
def dd__law_names : Hk.DD := ⟨fun K => He.ga K "_law_names", "_law_names", "_law_names", s__law_names, [], []⟩
def dd__law_houses : Hk.DD := ⟨fun K => He.ga K "_law_houses", "_law_houses", "_law_houses", s__law_houses, [], []⟩
def dd__law_pair : Hk.DD := ⟨fun K => He.ga K "_law_pair", "_law_pair", "_law_pair", s__law_pair, [], []⟩
def dd__law_line_names : Hk.DD := ⟨fun K => He.ga K "_law_line_names", "_law_line_names", "_law_line_names", s__law_line_names, [], []⟩
def dd__law_lines : Hk.DD := ⟨fun K => He.ga K "_law_lines", "_law_lines", "_law_lines", s__law_lines, [], []⟩
def dd__law_web : Hk.DD := ⟨fun K => He.ga K "_law_web", "_law_web", "_law_web", s__law_web, [], []⟩
def dd__law_two : Hk.DD := ⟨fun K => He.ga K "_law_two", "_law_two", "_law_two", s__law_two, [], []⟩
def dd__law_steps_from : Hk.DD := ⟨fun K => He.ga K "_law_steps_from", "_law_steps_from", "_law_steps_from", s__law_steps_from, [], []⟩
def dd__law_least_way : Hk.DD := ⟨fun K => He.ga K "_law_least_way", "_law_least_way", "_law_least_way", s__law_least_way, [], []⟩
def dd__law_refusal : Hk.DD := ⟨fun K => He.ga K "_law_refusal", "_law_refusal", "_law_refusal", s__law_refusal, [], []⟩
def dd__law_due_search : Hk.DD := ⟨fun K => He.ga K "_law_due_search", "_law_due_search", "_law_due_search", s__law_due_search, [], []⟩
def dd__law_argument : Hk.DD := ⟨fun K => He.ga K "_law_argument", "_law_argument", "_law_argument", s__law_argument, [], []⟩
def dd__law_asked : Hk.DD := ⟨fun K => He.ga K "_law_asked", "_law_asked", "_law_asked", s__law_asked, [], []⟩
def dd__law_way_right : Hk.DD := ⟨fun K => He.ga K "_law_way_right", "_law_way_right", "_law_way_right", s__law_way_right, [], []⟩
def dd__law_web_right : Hk.DD := ⟨fun K => He.ga K "_law_web_right", "_law_web_right", "_law_web_right", s__law_web_right, [], []⟩
def dd_law : Hk.DD := ⟨fun K => He.ga K "law", "law", "law", s_law, [], []⟩
def dd_Web_init : Hk.DD := ⟨fun K => Hk.init K "Web", "__init__", "Web.__init__", s_Web_init, [.adr (He.dflAt ("Web", some "__init__") 0), .adr (He.dflAt ("Web", some "__init__") 1)], []⟩
def dd_Web_houses : Hk.DD := ⟨fun K => Hk.pget K "Web" "houses", "houses", "Web.houses", s_Web_houses, [], []⟩
def dd_Web_lines : Hk.DD := ⟨fun K => Hk.pget K "Web" "lines", "lines", "Web.lines", s_Web_lines, [], []⟩
def dd_Web_contains : Hk.DD := ⟨fun K => He.ma K (He.ga K "Web") "__contains__", "__contains__", "Web.__contains__", s_Web_contains, [], []⟩
def dd_i_BadName : Hk.DD := ⟨fun K => Hk.init K "BadName", "__init__", "BadName.__init__", i_BadName, [], []⟩
def dd_i_NoHouse : Hk.DD := ⟨fun K => Hk.init K "NoHouse", "__init__", "NoHouse.__init__", i_NoHouse, [], []⟩
def dd_i_NoLine : Hk.DD := ⟨fun K => Hk.init K "NoLine", "__init__", "NoLine.__init__", i_NoLine, [], []⟩
def dd_i_SelfLine : Hk.DD := ⟨fun K => Hk.init K "SelfLine", "__init__", "SelfLine.__init__", i_SelfLine, [], []⟩
def dd_i_Taken : Hk.DD := ⟨fun K => Hk.init K "Taken", "__init__", "Taken.__init__", i_Taken, [], []⟩
def dd_i_TooMany : Hk.DD := ⟨fun K => Hk.init K "TooMany", "__init__", "TooMany.__init__", i_TooMany, [], []⟩
def askF0 : List He.Fa := [.glo "_wall", .glo "is_name", .glo "check_name", .glo "check_houses", .glo "ordered", .glo "check_names", .glo "check_stand", .glo "check_line", .glo "check_new_line", .glo "check_line_stands", .glo "shortest_way", .glo "check_asked", .glo "steps_of", .glo "counts_from", .glo "_law_store", .glo "_law_take", .glo "_law_between", .glo "_law_pick", .glo "_law_shuffled", .glo "_law_is_integer", .glo "_law_same", .glo "_law_is_name", .glo "_law_names", .glo "_law_houses", .glo "_law_pair", .glo "_law_line_names", .glo "_law_lines", .glo "_law_web", .glo "_law_two", .glo "_law_steps_from"]
def askF1 : List He.Fa := [.glo "_law_least_way", .glo "_law_refusal", .glo "_law_due_search", .glo "_law_argument", .glo "_law_asked", .glo "_law_way_right", .glo "_law_web_right", .glo "law", .glo "KeptError", .glo "SamePart", .glo "NoVersion", .glo "NoStore", .glo "BadNumber", .glo "BadPlace", .glo "NoRow", .glo "NoPaper", .glo "BadDeed", .glo "BadText", .glo "NoSeat", .glo "SeatTaken", .glo "NothingLeft", .glo "OtherHouses", .glo "NoLog", .glo "BadAsk", .glo "BadName", .glo "NoHouse", .glo "NoLine", .glo "SelfLine", .glo "Taken", .glo "TooMany"]
def askF2 : List He.Fa := [.free "isinstance", .free "str", .free "len", .free "all", .free "sorted", .free "list", .free "int", .free "reversed", .free "range", .free "bool", .free "dict", .free "tuple", .free "min", .free "max", .free "ValueError", .free "property", .int "LONGEST_NAME" (12), .int "MOST_HOUSES" (32), .int "MOST_LINES" (96), .glo "Web", .cls "Web", .mkr "Web", .noat "Web" "_houses", .noat "Web" "_ends", .noat "Web" "_lines"]
def askD0 : List Hk.DD := [dd__wall, dd_is_name, dd_check_name, dd_check_houses, dd_ordered, dd_check_names, dd_check_stand, dd_check_line, dd_check_new_line, dd_check_line_stands, dd_shortest_way, dd_check_asked, dd_steps_of, dd_counts_from, dd__law_store, dd__law_take, dd__law_between, dd__law_pick, dd__law_shuffled, dd__law_is_integer, dd__law_same, dd__law_is_name, dd__law_names, dd__law_houses, dd__law_pair, dd__law_line_names, dd__law_lines, dd__law_web, dd__law_two, dd__law_steps_from]
def askD1 : List Hk.DD := [dd__law_least_way, dd__law_refusal, dd__law_due_search, dd__law_argument, dd__law_asked, dd__law_way_right, dd__law_web_right, dd_law, dd_Web_init, dd_Web_houses, dd_Web_lines, dd_Web_contains, dd_i_BadName, dd_i_NoHouse, dd_i_NoLine, dd_i_SelfLine, dd_i_Taken, dd_i_TooMany]
def ask : Hk.Ask := { fa := askF0 ++ askF1 ++ askF2, ds := askD0 ++ askD1, errs := [("BadName", "word"), ("NoHouse", "word"), ("NoLine", "word"), ("SelfLine", "word"), ("Taken", "word"), ("TooMany", "bound")], kinds := ["BadName", "NoHouse", "NoLine", "SelfLine", "Taken", "SamePart", "NoVersion", "NoStore", "BadNumber", "BadPlace", "NoRow", "NoPaper", "TooMany", "BadDeed", "BadText", "NoSeat", "SeatTaken", "NothingLeft", "OtherHouses", "NoLog", "BadAsk"], top := "KeptError", caught := ["BadName", "NoHouse", "NoLine"], props := [("Web", "houses"), ("Web", "lines")], owns := [("Web", "__contains__")], isis := [] }
abbrev Rw : PySem.W.OpenRow := PySem.W.OpenLaw.row PySem.Challenge.rw_keptjoined_k09_shortest_way
def lo0 : List Str := ["_wall", "KeptError", "BadName", "NoHouse", "NoLine", "SelfLine", "Taken", "SamePart", "NoVersion", "NoStore", "BadNumber", "BadPlace", "NoRow", "NoPaper", "TooMany", "BadDeed", "BadText", "NoSeat", "SeatTaken", "NothingLeft", "OtherHouses", "NoLog", "BadAsk", "MOST_HOUSES", "MOST_LINES", "LONGEST_NAME", "is_name", "check_name", "check_houses", "ordered"]
def lo1 : List Str := ["check_names", "check_stand", "check_line", "check_new_line", "check_line_stands", "shortest_way", "check_asked", "steps_of", "counts_from", "Web", "_law_store", "_law_take", "_law_between", "_law_pick", "_law_shuffled", "_law_is_integer", "_law_same", "_law_is_name", "_law_names", "_law_houses", "_law_pair", "_law_line_names", "_law_lines", "_law_web", "_law_two", "_law_steps_from", "_law_least_way", "_law_refusal", "_law_due_search", "_law_argument"]
def lo2 : List Str := ["_law_asked", "_law_way_right", "_law_web_right"]
def loose : List Str := lo0 ++ lo1 ++ lo2
def ob (s : PySem.W.SharedT) : Hk.Pic := ask.at_ 5 (HandSHeadRun.getT s)
theorem ob_eq (s : PySem.W.SharedT) : ob s = (Hk.hook 5 ask).obs s.abs := Hk.at_eq (HandSHeadRun.getT_eq s)
end Kj
namespace Kj
open PySem PySem.Spec PyProof.Rows L2 Rd
set_option maxHeartbeats 0 in
theorem run1 (w : World) (os : OsState) : (Hk.behind Rw 20000 w os).map (fun s => (HandSHeadRun.looksF Rw.prog (PySem.W.boot_heap w.params) s.abs, HandSHeadRun.seenQ (PySem.W.view Rw.prog [69]) loose (importedModules Rw.prog.main.body) (fun s => PySem.W.xlAt (PySem.W.view Rw.prog [69]) [] s && PySem.W.recOk Rw.toRowW.records s) s.abs)) = some (true, PySem.W.openGood (PySem.W.view Rw.prog [69]) loose) := by kernel_rfl
end Kj
namespace Kj
open PySem PySem.Spec PyProof.Rows L2 Rd
set_option maxHeartbeats 0 in
theorem run2 (w : World) (os : OsState) : (Hk.behind Rw 20000 w os).map (fun s => ask.fa.all fun f => f.ok (Hk.KK (HandSHeadRun.getT s) 5)) = some true := by kernel_rfl
end Kj
namespace Kj
open PySem PySem.Spec PyProof.Rows L2 Rd
set_option maxHeartbeats 0 in
theorem run3 (w : World) (os : OsState) : (Hk.behind Rw 20000 w os).map (fun s => ask.ds.all fun d => d.fine (Hk.KK (HandSHeadRun.getT s) 5)) = some true := by kernel_rfl
end Kj
namespace Kj
open PySem PySem.Spec PyProof.Rows L2 Rd
set_option maxHeartbeats 0 in
theorem run4 (w : World) (os : OsState) : (Hk.behind Rw 20000 w os).map (fun s => ask.errs.all fun q => Hk.errB (Hk.KK (HandSHeadRun.getT s) 5) q) = some true := by kernel_rfl
end Kj
namespace Kj
open PySem PySem.Spec PyProof.Rows L2 Rd
set_option maxHeartbeats 0 in
theorem run5 (w : World) (os : OsState) : (Hk.behind Rw 20000 w os).map (fun s => ask.rest (Hk.KK (HandSHeadRun.getT s) 5)) = some true := by kernel_rfl
end Kj
namespace Kj
open PySem PySem.Spec PyProof.Rows L2 Rd
set_option maxHeartbeats 0 in
theorem run6 (w : World) (os : OsState) : (Hk.behind Rw 20000 w os).map (fun s => ask.ds.map fun d => (Hk.fdAt (Hk.KK (HandSHeadRun.getT s) 5) (d.loc (Hk.KK (HandSHeadRun.getT s) 5))).map Hk.face) = some (ask.ds.map fun d => some d.face) := by kernel_rfl
end Kj
namespace Rd
open PySem PySem.Spec PyProof.Rows L2
def TurnO (g : TG) (tt : TT) (tk tv : TE) (vs : List Nat) (σ : L2.St) (L : Addr) (y : Str) (h : Hp) : Prop :=
  ∀ Nx : Hp → Prop, (∀ p G, h p = none → Same h G → G p = some (.lst []) → ∃ (kvs : List (Key × V)) (k : Key), V.str y = kV k ∧ G L = some (.dK kvs) ∧ kvs.length < sizeLine ∧ Nx (upd G L (.dK (putK kvs k (.ref p))))) →
    g (.str y) (wipe σ vs) h fun σ2 h2 => wipe σ2 vs = wipe σ vs ∧ tt σ2 h2 fun k h3 => if k = true then tk σ2 h3 fun y h4 => tv σ2 h4 fun z h5 => ∃ (kvs : List (Key × V)) (k : Key), y = kV k ∧ h5 L = some (.dK kvs) ∧ kvs.length < sizeLine ∧ Nx (upd h5 L (.dK (putK kvs k z))) else Nx h3
/-- each of ys has its own empty list -/
structure DcI (H : Hp) (L : Addr) (ys : List Str) (a : Str → Addr) (h : Hp) : Prop where
  s : Same H h
  e : h L = some (.dK (kd ys fun y => .ref (a y)))
  at_ : ∀ y ∈ ys, H (a y) = none ∧ a y ≠ L ∧ h (a y) = some (.lst [])
  inj : ∀ y ∈ ys, ∀ z ∈ ys, a y = a z → y = z
theorem DcI.step {H h G : Hp} {L p : Addr} {ys : List Str} {y : Str} {a : Str → Addr} (d : DcI H L ys a h) (hL : H L = none) (n : y ∉ ys) (np : h p = none) (s : Same h G) (e : G p = some (.lst [])) :
    DcI H L (ys ++ [y]) (fun z => if z = y then p else a z) (upd G L (.dK (putK (kd ys fun y => .ref (a y)) (Sum.inr y) (.ref p)))) := by
  have npL : p ≠ L := fun z => by rw [z, d.e] at np; cases np
  have hp : H p = none := by
    cases c : H p with
    | none => rfl
    | some o => rw [d.s _ _ c] at np; cases np
  have ny : ∀ {z}, z ∈ ys → z ≠ y := fun h e => n (e ▸ h)
  have npa : ∀ {z}, z ∈ ys → a z ≠ p := fun h e => by rw [← e, (d.at_ _ h).2.2] at np; cases np
  refine ⟨fun b o q => (upd_ne (ne_of_none q hL)).trans (s _ _ (d.s _ _ q)), ?_, fun z hz => ?_, fun z hz u hu q => ?_⟩
  · rw [upd_same, kd_new n, kd_congr (g := fun z => V.ref (if z = y then p else a z)) fun z _ => by split <;> rfl]
  · rcases List.mem_append.mp hz with hz | hz
    · rw [if_neg (ny hz)]
      obtain ⟨h1, h2, h3⟩ := d.at_ z hz
      exact ⟨h1, h2, (upd_ne h2).trans (s _ _ h3)⟩
    · rw [if_pos (List.mem_singleton.mp hz)]
      exact ⟨hp, npL, (upd_ne npL).trans e⟩
  · rcases List.mem_append.mp hz with hz | hz
    · rcases List.mem_append.mp hu with hu | hu
      · rw [if_neg (ny hz), if_neg (ny hu)] at q
        exact d.inj z hz u hu q
      · rw [if_neg (ny hz), if_pos (List.mem_singleton.mp hu)] at q
        exact absurd q (npa hz)
    · rcases List.mem_append.mp hu with hu | hu
      · rw [if_pos (List.mem_singleton.mp hz), if_neg (ny hu)] at q
        exact absurd q.symm (npa hu)
      · rw [List.mem_singleton.mp hz, List.mem_singleton.mp hu]
theorem dcO {K : PySem.W.Frag} {l : Addr} {g : TG} {tt : TT} {tk tv : TE} {vs : List Nat} {σ : L2.St} {H : Hp} {Q : VK} (ys : List Str) (ha : SqL K H l (ys.map V.str)) (hz : ys.length ≤ 100000) (nd : ys.Nodup)
    (hs : ∀ L y h, y ∈ ys → H L = none → Same H h → (∃ o, h L = some o) → TurnO g tt tk tv vs σ L y h)
    (hd : ∀ L a G, H L = none → DcI H L ys a G → Q (.ref L) G) : DcB (Itl K l) g tt tk tv vs σ H Q := fun L hL => by
  have big := sz5 (Nat.le_refl 100000)
  have w := walk_list (K := K) (a := l) (xs := ys.map V.str)
  have lm : (ys.map V.str).length = ys.length := List.length_map _
  refine ⟨fun i m h => m = ys.length - i ∧ i ≤ ys.length ∧ ∃ a, DcI H L (ys.take i) a h, ⟨ys.length, rfl, Nat.zero_le _, fun _ => 0, ⟨fun b o e => (upd_ne (ne_of_none e hL)).trans e, upd_same, (fun y hy => by simp at hy), fun y hy => by simp at hy⟩⟩, ?_⟩
  rintro i m h ⟨rfl, hi, a, d⟩
  by_cases il : i < ys.length
  · refine .inr ⟨w.goes i h (by omega) (d.s.seq ha), fun h => ∃ a, DcI H L (ys.take (i + 1)) a h, fun H' p' => ⟨ys.length - (i + 1), by omega, rfl, il, p'⟩, fun x H' y => ?_⟩
    obtain ⟨rfl, hx⟩ := w.yields i h x H' (by omega) (d.s.seq ha) y
    rw [List.getElem?_map, List.getElem?_eq_getElem il] at hx
    cases hx
    refine hs L ys[i] _ (List.getElem_mem il) hL d.s ⟨_, d.e⟩ _ fun p G np s e => ?_
    refine ⟨_, Sum.inr ys[i], rfl, s _ _ d.e, ?_, fun z => if z = ys[i] then p else a z, ?_⟩
    · rw [kd_len, List.length_take]
      omega
    · have n : ys[i] ∉ ys.take i := fun m => by
        have n2 : (ys.take i ++ [ys[i]]).Nodup := by
          rw [show ys.take i ++ [ys[i]] = ys.take (i + 1) by rw [List.take_add_one, List.getElem?_eq_getElem il]; rfl]
          exact nd.sublist (List.take_sublist _ _)
        exact (List.nodup_append.mp n2).2.2 _ m _ (List.mem_singleton.mpr rfl) rfl
      have := d.step hL n np s e
      rw [show ys.take i ++ [ys[i]] = ys.take (i + 1) by rw [List.take_add_one, List.getElem?_eq_getElem il]; rfl] at this
      exact this
  · have e : i = ys.length := by omega
    subst e
    rw [List.take_length] at d
    have st := w.stops h (d.s.seq ha)
    rw [lm] at st
    exact .inl ⟨st, hd L a h hL d⟩
end Rd
namespace Rd
open PySem PySem.Spec PyProof.Rows L2
/-- within the block of a comprehension -/
abbrev InBlk (X : Cx) (sc : Scope) (Φ : Cx → Prop) : Prop := ∀ (s : Shared) (H : Hp) (C : Addr) (cl : List (Str × Addr)) (fp : List Addr), Φ (X.blk s H sc (compEnvC sc cl C X.env) fp)
/-- y = {k: v for ..} on one line, y a local that the comprehension doesn't hold -/
theorem ps_setDc {X : Cx} {i : Nat} {y : Str} {py pos sp : Pos} {kx vx tg iter : Expr} {ifs : List Expr} {sc : Scope} {own : List (Str × Nat)} {wi : TI} {g : TG} {tt : TT} {tk tv : TE} (hc : X.calm = true) (hN : X.N.Nodup) (hy : X.N[i]? = some y) (hl : X.env.scope.names.lookup y = some .local)
    (sw : swapsWith (.DictComp kx vx [⟨tg, iter, ifs, 0⟩] sc pos) (some (.Name y py)) sp.line X.env = pure true) (hi : PI X tg iter wi) (ok : BlkOk X.N X.env.scope sc own) (hg : InBlk X sc fun Y => PG Y tg g) (ht : InBlk X sc fun Y => PTs Y ifs tt) (hk : InBlk X sc fun Y => PE Y kx tk) (he : InBlk X sc fun Y => PE Y vx tv)
    (hs : ∀ x, foldedSetIterable iter X.env x = pure x := by intro _; rfl) : PS X (.Assign [.Name y py] (.DictComp kx vx [⟨tg, iter, ifs, 0⟩] sc pos) sp) (tAsg (tDc wi g tt tk tv (own.map (·.2))) (gName i)) := by
  refine ⟨fun pins s σ H D I h => ?_⟩
  rw [exec_Assign_Name_used _ _ _ _ sw]
  refine wpAny_bind (wpAny_standAt (wpAny_bind ?_))
  show wpAny _ X.A (do let _ ← comprehension (.DictComp kx vx [⟨tg, iter, ifs, 0⟩] sc pos) sc X.env (firstIterPos [⟨tg, iter, ifs, 0⟩] pos) newDict false (eval iter X.env) (some (assign (.Name y py) X.env))) _ _ s
  have h' : tDc wi g tt tk tv (own.map (·.2)) σ H (fun x H1 => gName i x σ H1 D.nx) := h
  refine wpAny_bind (thn (dc_core (Qf := fun _ s' => SP X pins D .next s') hc hN I hi ok hg ht hk he hs h' fun L C s' m H' I' q hn f => ?_) fun _ s' hq => wpAny_pure (wpAny_pure hq))
  show wpAny _ _ (assign (.Name y py) X.env (.ref L)) _ _ _
  refine wpAny_assign_Name (store_ok2 (v := V.ref L) I' hN hy (.inl hl) rfl (fun s2 I2 ⟨a, sb, ha⟩ => ?_) (.inr hl))
  obtain ⟨f0, f1, f2, f3, f4, f5⟩ := f
  have ne : C ≠ a := ha.elim (fun z => z ▸ f1) fun z e => f4 y a z e.symm
  refine ⟨m, hn.sameBut sb ne, fun h3 sb3 => ⟨_, H', I2.turned (t' := s2.toks) (fun b o hb e => (sb3.2 b hb).trans e) f0 f1 f3 f4 f5, q⟩⟩
theorem sw_dict {kx vx : Expr} {gs : List Comprehension} {sc : Scope} {pos py : Pos} {y : Str} {l : Nat} {env : Env} (hk : env.scope.kind = .function) (hy : env.scope.names.lookup y = some .local) (hl : (py.line == pos.line) = true)
    (ha : (sc.names.any fun (n, k) => n == y && (k == .local || k == .cell)) = false) : swapsWith (.DictComp kx vx gs sc pos) (some (.Name y py)) l env = pure true := by
  have k1 : env.kindOf y = some .local := hy
  have k2 : env.blockKind = .function := by
    unfold Env.blockKind
    rw [hk]
    rfl
  unfold swapsWith
  simp only [k2, k1, ha, Expr.pos, hl]
  rfl
end Rd
namespace Rd
open PySem PySem.Spec PyProof.Rows L2 SrtO
/-- one tuple of texts before another -/
def lexS : List Str → List Str → Bool
  | [], [] => false
  | [], _ :: _ => true
  | _ :: _, [] => false
  | x :: xs, y :: ys => if x = y then lexS xs ys else decide (x.cps.toList < y.cps.toList)
theorem lexS_iff : ∀ {xs ys : List Str}, lexS xs ys = true ↔ xs.map cl < ys.map cl
  | [], [] => ⟨fun h => (nomatch h), fun h => absurd h (List.lt_irrefl _)⟩
  | [], _ :: _ => ⟨fun _ => List.nil_lt_cons _ _, fun _ => rfl⟩
  | _ :: _, [] => ⟨fun h => (nomatch h), fun h => absurd h (List.not_lt_nil _)⟩
  | x :: xs, y :: ys => by
    rw [List.map_cons, List.map_cons, List.cons_lt_cons_iff]
    unfold lexS
    by_cases e : x = y
    · subst e
      rw [if_pos rfl, lexS_iff]
      exact ⟨fun h => .inr ⟨rfl, h⟩, fun h => h.elim (fun h => absurd h (List.lt_irrefl _)) (·.2)⟩
    · rw [if_neg e, decide_eq_true_iff]
      exact ⟨.inl, fun h => h.elim id fun h => absurd (cl_inj h.1) e⟩
theorem lexS_no {xs ys : List Str} : lexS xs ys = false ↔ ¬ xs.map cl < ys.map cl := by
  rw [← lexS_iff]
  cases lexS xs ys <;> simp
theorem lexS_trans {xs ys zs : List Str} (h : lexS xs ys = false) (k : lexS ys zs = false) : lexS xs zs = false :=
  lexS_no.mpr (List.not_lt.mpr (List.le_trans (List.not_lt.mp (lexS_no.mp k)) (List.not_lt.mp (lexS_no.mp h))))
theorem map_cl_inj : ∀ {xs ys : List Str}, xs.map cl = ys.map cl → xs = ys
  | [], [], _ => rfl
  | [], _ :: _, h => nomatch h
  | _ :: _, [], h => nomatch h
  | x :: xs, y :: ys, h => by
    obtain ⟨a, b⟩ := List.cons.inj h
    rw [cl_inj a, map_cl_inj b]
theorem lexS_antisymm {xs ys : List Str} (h : lexS xs ys = false) (k : lexS ys xs = false) : xs = ys :=
  map_cl_inj (List.le_antisymm (List.not_lt.mp (lexS_no.mp k)) (List.not_lt.mp (lexS_no.mp h)))
theorem swo_lexS {α : Type} (k : α → List Str) : Swo fun v u => lexS (k v) (k u) :=
  ⟨fun x y h => lexS_no.mpr fun h' => List.lt_irrefl _ (List.lt_trans (lexS_iff.mp h) h'), fun x y z h1 h2 => lexS_trans h2 h1⟩
section
variable {prog : Program} {w : World} {A : Around} {E : Value → Shared → Prop} {s : Shared}
def IsTupS (h : Heap) (v : Value) (xs : List Str) : Prop := ∃ a o us n, v = .ref a ∧ h.get? a = some o ∧ o.cls = .type "tuple" ∧ o.data = .seq (List.toArray us) n ∧ Vals (xs.map V.str) us
theorem IsTupS.keeps {h h' : Heap} {v : Value} {xs : List Str} (p : IsTupS h v xs) (k : ∀ b o, h.get? b = some o → o.cls = .type "tuple" → h'.get? b = some o) : IsTupS h' v xs := by
  obtain ⟨a, o, us, n, e, ho, hc, hd, r⟩ := p
  exact ⟨a, o, us, n, e, k _ _ ho hc, hc, hd, r⟩
theorem lex_strs {b fin : Bool} {Q : Bool → Shared → Prop} : ∀ {xs ys : List Str} {us vs : List Value} (i : Nat), Vals (xs.map V.str) us → Vals (ys.map V.str) vs → fin = decide (us.length < vs.length) → Q (lexS xs ys) s → PySem.W.KatLex prog w A b fin Q (us.zip vs) i s
  | [], [], _, _, i, .nil, .nil, hf, h => by
    subst hf
    exact PySem.W.kat_nil h
  | [], _ :: _, _, _, i, .nil, .cons _ _, hf, h => by
    subst hf
    exact PySem.W.kat_nil (by rw [decide_eq_true (by simp)]; exact h)
  | _ :: _, [], _, _, i, .cons _ _, .nil, hf, h => by
    subst hf
    exact PySem.W.kat_nil (by rw [decide_eq_false (by simp)]; exact h)
  | x :: xs, y :: ys, _, _, i, .cons r1 t1, .cons r2 t2, hf, h => by
    obtain ⟨t, rfl⟩ := r1
    obtain ⟨u, rfl⟩ := r2
    refine PySem.W.kat_cons (SeqAt.EqAt.str_str x t y u prog w _ _ ?_)
    unfold lexS at h
    refine PySem.W.kat_go (fun e1 => ?_) (fun e1 => ?_)
    · have ex : x = y := by simpa using e1
      rw [if_pos ex] at h
      exact PySem.W.kat_yes (lex_strs (i + 1) t1 t2 (by rw [hf]; simp) h)
    · have ex : ¬ x = y := by simpa using e1
      rw [if_neg ex] at h
      exact PySem.W.kat_no (PyProof.Rows.oneLt_any_str h)
theorem tup_cmpS {vs : List Value} {k : Value → List Str} (hp : ∀ v ∈ vs, IsTupS s.heap v (k v)) : Cmp prog w A s (tuples' true) (fun p => p.1 ∈ vs) (lt2 fun v u => lexS (k v) (k u)) := by
  intro p q hm hm'
  have h1 := hp _ hm
  have h2 := hp _ hm'
  show wpAny (model prog w) A (keyLt' (tuples' true) p.1 q.1) (fun r s' => s' = s ∧ r = lexS (k p.1) (k q.1)) (fun _ _ => False) s
  obtain ⟨a, o, us, n, e, ho, hc, hd, r⟩ := h1
  obtain ⟨a', o', us', n', e', ho', hc', hd', r'⟩ := h2
  generalize k p.1 = xs at r ⊢
  generalize k q.1 = ys at r' ⊢
  rw [e, e']
  refine PySem.W.kat_lt ho hd ho' hd' ?_
  exact lex_strs 0 r r' (by simp) ⟨rfl, rfl⟩
theorem firsts_ofS {h : Heap} : ∀ {vs : List Value}, (∀ v ∈ vs, ∃ xs, xs ≠ [] ∧ IsTupS h v xs) → ∃ fs : List Value, PySem.W.KatTups h vs fs ∧ fs.length = vs.length ∧ ∀ f ∈ fs, ∃ x t, f = Value.str x t
  | [], _ => ⟨[], PySem.W.KatTups.nil, rfl, fun _ hm => by simp at hm⟩
  | v :: vs, hp => by
    obtain ⟨fs, h1, h2, h3⟩ := firsts_ofS (vs := vs) fun v' hm => hp v' (List.mem_cons_of_mem _ hm)
    obtain ⟨xs, hne, a, o, us, n, e, ho, hc, hd, r⟩ := hp v (List.mem_cons_self ..)
    subst e
    match xs, us, r with
    | [], _, _ => exact absurd rfl hne
    | x :: xs, _, .cons r1 t1 =>
      obtain ⟨t, rfl⟩ := r1
      refine ⟨.str x t :: fs, PySem.W.KatTups.cons ho hc hd rfl h1, by rw [List.length_cons, List.length_cons, h2], fun f hm => ?_⟩
      rcases List.mem_cons.mp hm with rfl | hm
      · exact ⟨x, t, rfl⟩
      · exact h3 f hm
theorem tups_sortable {a : Addr} {vs : List Value} {k : Value → List Str} (h0 : 0 < vs.length) (hp : ∀ v ∈ vs, k v ≠ [] ∧ IsTupS s.heap v (k v)) (ha : ∀ o, s.heap.get? a = some o → o.cls ≠ .type "tuple") : SortableO prog w A s a vs fun v u => lexS (k v) (k u) := by
  intro h' keep
  have hp' : ∀ v ∈ vs, IsTupS h' v (k v) := fun v hm => (hp v hm).2.keeps fun b o e c => keep b o (fun z => by subst z; exact ha o e c) e
  obtain ⟨fs, h1, h2, h3⟩ := firsts_ofS fun v hm => ⟨_, (hp v hm).1, hp' v hm⟩
  refine ⟨tuples' true, fun Q E hq => ?_, tup_cmpS hp'⟩
  refine PySem.W.kat_kind (T := .type "str") h1 (by omega) (fun f hm => ?_) (by rfl) ?_
  · obtain ⟨x, t, rfl⟩ := h3 f hm
    exact PySem.W.Looks.now
  · have e : (Value.type "str" != Value.type "tuple") = true := by first | decide +kernel | rfl | decide
    rw [e]
    exact hq
theorem sorted_tups {l : Addr} {vs : List Value} {k : Value → List Str} {Q : Value → Shared → Prop} (hl : s.heap.IsList l vs.toArray) (hz : vs.length ≤ sizeLine) (hp : ∀ v ∈ vs, k v ≠ [] ∧ IsTupS s.heap v (k v))
    (h : ∀ (h' : Heap) (d : Addr) (out : List Value), Srtd (fun v u => lexS (k v) (k u)) out → Stb (fun v u => lexS (k v) (k u)) out vs → (∀ b o, s.heap.get? b = some o → h'.get? b = some o) → s.heap.objs.size ≤ d → (∃ n, h'.get? d = some (seqObj "list" out.toArray n)) → Q (.ref d) { s with heap := h' }) :
    wpAny (model prog w) A (PySem.call (.builtin "sorted") [.ref l]) Q E s := by
  refine sorted_ord (swo_lexS k) hl hz (fun h2 h₁ a ha kk => ?_) fun out hs hb => ?_
  · refine tups_sortable (s := { s with heap := h₁ }) (by omega) (fun v hm => ⟨(hp v hm).1, (hp v hm).2.keeps fun b o e _ => (kk b o e).2⟩) fun o e => ?_
    have e' : some o = some (seqObj "list" vs.toArray 0) := e.symm.trans ha
    cases e'
    intro c
    exact absurd (Value.type.inj c) (by decide)
  · exact h _ _ out hs hb (fun b o e => sortedAll_old e) (Nat.le_succ _) (sortedAll_at s.heap vs out.toArray)
end
/-- sorted(xs), xs a list of tuples of texts (k says which) -/
def rSortedTS (K : PySem.W.Frag) : List V → Hp → VK → Prop := fun vs H Q => ∃ (a : Addr) (xs : List V) (k : V → List Str), vs = [V.ref a] ∧ SqL K H a xs ∧ (∀ x ∈ xs, ∃ t, x = V.ref t ∧ k x ≠ [] ∧ H t = some (.tup ((k x).map V.str))) ∧
  ∀ ys p, ys.Pairwise (fun x y => lexS (k y) (k x) = false) → ys.Perm xs → H p = none → Q (.ref p) (upd H p (.lst ys))
section
variable {X : Cx}
theorem cr_sortedTS : CallR X (.builtin "sorted") (rSortedTS X.K) := by
  intro pins s σ H vs us Q I r h
  obtain ⟨a, xs, k, rfl, hs, hx, q⟩ := h
  obtain ⟨its, rv, hl, hz⟩ := I.list hs
  obtain ⟨u, rfl, ru⟩ := vals1 r
  obtain rfl : u = Value.ref a := ru
  obtain ⟨e1, e2⟩ := refs_back rv fun x m => by
    obtain ⟨t, e, _⟩ := hx x m
    exact ⟨t, e⟩
  refine sorted_tups (k := fun u => k (backV u)) hl.isList (by rw [← rv.length]; exact hz) (fun v hv => ?_) fun h' d out h1 h2 kp hd hn => ?_
  · obtain ⟨t, rfl⟩ := e2 v hv
    have hm : V.ref t ∈ xs := by rw [e1]; exact List.mem_map.mpr ⟨_, hv, rfl⟩
    obtain ⟨t', e, ne, ht⟩ := hx _ hm
    cases e
    obtain ⟨_, its2, r2, o, ho, hc, n, hd⟩ := I.hok _ _ ht
    exact ⟨ne, t, o, its2, n, rfl, ho, hc, hd, r2⟩
  · have h3 : ∀ u ∈ out, ∃ a, u = Value.ref a := fun u hu => e2 u (h2.perm.mem_iff.mp hu)
    obtain ⟨n, hn⟩ := hn
    have hb : (out.map backV).Perm xs := by
      rw [e1]
      exact h2.perm.map backV
    refine ⟨.ref d, upd H d (.lst (out.map backV)), I.laid (t' := s.toks) kp hd ⟨?_, out, n, vals_back h3, hn⟩, rfl, q _ d (srtd_map h1) hb (I.hok.fresh hd)⟩
    rw [hb.length_eq]
    exact hz
end
end Rd
namespace Rd
open PySem PySem.Spec PyProof.Rows L2 SrtO
section
variable {prog : Program} {w : World} {A : Around} {E : Value → Shared → Prop} {s : Shared}
def IsTupN (h : Heap) (v : Value) (x : Str × Int) : Prop := ∃ a o us n, v = .ref a ∧ h.get? a = some o ∧ o.cls = .type "tuple" ∧ o.data = .seq (List.toArray us) n ∧ Vals [.str x.1, .int x.2] us
theorem IsTupN.keeps {h h' : Heap} {v : Value} {x : Str × Int} (p : IsTupN h v x) (k : ∀ b o, h.get? b = some o → o.cls = .type "tuple" → h'.get? b = some o) : IsTupN h' v x := by
  obtain ⟨a, o, us, n, e, ho, hc, hd, r⟩ := p
  exact ⟨a, o, us, n, e, k _ _ ho hc, hc, hd, r⟩
end
end Rd
namespace MinZ0
open PySem PySem.Spec PyProof.Rows L2
def ltW : Value → Value → Bool
  | .str a _, .str b _ => decide (a.cps.toList < b.cps.toList)
  | _, _ => false
inductive IsStrV : Value → Prop
  | str (z t) : IsStrV (.str z t)
section
variable {prog : Program} {w : World} {A : Around}
theorem lt_strW {E : Value → Shared → Prop} {s : Shared} {Q : Value → Shared → Prop} {a b : Value} (ha : IsStrV a) (hb : IsStrV b) (h : Q (.bool (ltW a b)) s) : wpAny (model prog w) A (richCompare .Lt a b) Q E s := by
  cases ha; cases hb
  exact P.lt_str h
theorem gt_strW {E : Value → Shared → Prop} {s : Shared} {Q : Value → Shared → Prop} {a b : Value} (ha : IsStrV a) (hb : IsStrV b) (h : Q (.bool (ltW b a)) s) : wpAny (model prog w) A (richCompare .Gt a b) Q E s := by
  cases ha; cases hb
  exact P.gt_str h
theorem cmpOf_ltW (vs : Array Value) (hn : ∀ v ∈ vs, IsStrV v) :
    CmpOf prog w A .Lt (fun i v => vs[i]? = some v) (fun i j => ltW (vs.getD i .none) (vs.getD j .none)) := fun i j vi vj s Q E hi hj h => by
  have e1 : vs.getD i .none = vi := by simp [Array.getD_eq_getD_getElem?, hi]
  have e2 : vs.getD j .none = vj := by simp [Array.getD_eq_getD_getElem?, hj]
  simp only [e1, e2] at h
  exact lt_strW (hn _ (Array.mem_of_getElem? hi)) (hn _ (Array.mem_of_getElem? hj)) h
theorem cmpOf_gtW (vs : Array Value) (hn : ∀ v ∈ vs, IsStrV v) :
    CmpOf prog w A .Gt (fun i v => vs[i]? = some v) (fun i j => ltW (vs.getD j .none) (vs.getD i .none)) := fun i j vi vj s Q E hi hj h => by
  have e1 : vs.getD i .none = vi := by simp [Array.getD_eq_getD_getElem?, hi]
  have e2 : vs.getD j .none = vj := by simp [Array.getD_eq_getD_getElem?, hj]
  simp only [e1, e2] at h
  exact gt_strW (hn _ (Array.mem_of_getElem? hi)) (hn _ (Array.mem_of_getElem? hj)) h
theorem min_two_str {E : Value → Shared → Prop} {s : Shared} {Q : Value → Shared → Prop} {a b : Value} (hh : A.handled = none) (ha : IsStrV a) (hb : IsStrV b)
    (h : ∀ h' tk, (∀ c o, s.heap.get? c = some o → h'.get? c = some o) → Q (if ltW b a then b else a) { s with heap := h', toks := tk }) :
    wpAny (model prog w) A (call (.builtin "min") [a, b]) Q E s := by
  have hT : (s.heap.push { cls := .type "tuple", data := .seq #[a, b] }).IsTuple s.heap.objs.size #[a, b] := ⟨_, Heap.get?_push_size _ rfl, rfl, 0, rfl⟩
  refine call_min_two (wpAny_pyIter_tuple hT ?_)
  have hsz : (s.heap.push { cls := .type "tuple", data := .seq #[a, b] }).objs.size = s.heap.objs.size + 1 := Heap.size_push ..
  refine ⟨_, [_, s.heap.objs.size], [_], _, _, _, _, rfl, Walks.tuple (A := A.in1) hh _ s.heap.objs.size (by rw [hsz]; exact Nat.ne_of_lt (Nat.lt_succ_self _)) #[a, b],
    ⟨⟨_, Heap.get?_push_size _ rfl, rfl, rfl⟩, hT.push _⟩, fun c hc => ?_, by simp, cmpOf_ltW #[a, b] (by simp [ha, hb]), fun v h' tk hP hk => ?_⟩
  · show c < ((s.heap.push _).push _).objs.size
    rw [Heap.size_push, hsz]
    rcases List.mem_cons.mp hc with rfl | hc
    · rw [hsz]; exact Nat.lt_succ_self _
    · rcases List.mem_cons.mp hc with rfl | hc
      · exact Nat.lt_succ_of_lt (Nat.lt_succ_self _)
      · cases hc
  · have hold : ∀ c o, s.heap.get? c = some o → h'.get? c = some o := fun c o e => by
      refine hk c o (fun hm => ?_) (Heap.get?_push_of_some _ (Heap.get?_push_of_some _ e))
      rcases List.mem_cons.mp hm with e1 | hm
      · have := Heap.lt_size e; rw [e1, hsz] at this; exact Nat.lt_irrefl _ (Nat.lt_of_succ_lt this)
      · cases hm
    have := h h' tk hold
    have hv : v = if ltW b a then b else a := by
      cases hc : ltW b a <;> simp [argBest, hc] at hP <;> simp [hP]
    rw [hv]; exact this
theorem max_two_str {E : Value → Shared → Prop} {s : Shared} {Q : Value → Shared → Prop} {a b : Value} (hh : A.handled = none) (ha : IsStrV a) (hb : IsStrV b)
    (h : ∀ h' tk, (∀ c o, s.heap.get? c = some o → h'.get? c = some o) → Q (if ltW a b then b else a) { s with heap := h', toks := tk }) :
    wpAny (model prog w) A (call (.builtin "max") [a, b]) Q E s := by
  have hT : (s.heap.push { cls := .type "tuple", data := .seq #[a, b] }).IsTuple s.heap.objs.size #[a, b] := ⟨_, Heap.get?_push_size _ rfl, rfl, 0, rfl⟩
  refine call_max_two (wpAny_pyIter_tuple hT ?_)
  have hsz : (s.heap.push { cls := .type "tuple", data := .seq #[a, b] }).objs.size = s.heap.objs.size + 1 := Heap.size_push ..
  refine ⟨_, [_, s.heap.objs.size], [_], _, _, _, _, rfl, Walks.tuple (A := A.in1) hh _ s.heap.objs.size (by rw [hsz]; exact Nat.ne_of_lt (Nat.lt_succ_self _)) #[a, b],
    ⟨⟨_, Heap.get?_push_size _ rfl, rfl, rfl⟩, hT.push _⟩, fun c hc => ?_, by simp, cmpOf_gtW #[a, b] (by simp [ha, hb]), fun v h' tk hP hk => ?_⟩
  · show c < ((s.heap.push _).push _).objs.size
    rw [Heap.size_push, hsz]
    rcases List.mem_cons.mp hc with rfl | hc
    · rw [hsz]; exact Nat.lt_succ_self _
    · rcases List.mem_cons.mp hc with rfl | hc
      · exact Nat.lt_succ_of_lt (Nat.lt_succ_self _)
      · cases hc
  · have hold : ∀ c o, s.heap.get? c = some o → h'.get? c = some o := fun c o e => by
      refine hk c o (fun hm => ?_) (Heap.get?_push_of_some _ (Heap.get?_push_of_some _ e))
      rcases List.mem_cons.mp hm with e1 | hm
      · have := Heap.lt_size e; rw [e1, hsz] at this; exact Nat.lt_irrefl _ (Nat.lt_of_succ_lt this)
      · cases hm
    have := h h' tk hold
    have hv : v = if ltW a b then b else a := by
      cases hc : ltW a b <;> simp [argBest, hc] at hP <;> simp [hP]
    rw [hv]; exact this
end
end MinZ0
namespace Rd
open PySem PySem.Spec PyProof.Rows L2 MinZ0
def rMinZ : List V → Hp → VK → Prop := fun xs H Q => ∃ i j : Str, xs = [.str i, .str j] ∧ Q (.str (if j.cps.toList < i.cps.toList then j else i)) H
def rMaxZ : List V → Hp → VK → Prop := fun xs H Q => ∃ i j : Str, xs = [.str i, .str j] ∧ Q (.str (if i.cps.toList < j.cps.toList then j else i)) H
theorem q_minZ {X : Cx} (hc : X.calm = true) : CallR X (.builtin "min") rMinZ := by
  intro pins s σ H xs us Q I r h
  obtain ⟨i, j, rfl, q⟩ := h
  obtain ⟨u, w', rfl, ⟨t, rfl⟩, ⟨t', rfl⟩⟩ := vals2 r
  refine min_two_str (I.ok.hd hc) (.str _ _) (.str _ _) fun h' tk k => ⟨_, H, I.kept k, ?_, q⟩
  show RelV _ (if decide (j.cps.toList < i.cps.toList) = true then _ else _)
  by_cases hj : j.cps.toList < i.cps.toList
  · rw [if_pos hj, if_pos (decide_eq_true hj)]; exact ⟨_, rfl⟩
  · rw [if_neg hj, if_neg (by rw [decide_eq_false hj]; exact Bool.false_ne_true)]; exact ⟨_, rfl⟩
theorem q_maxZ {X : Cx} (hc : X.calm = true) : CallR X (.builtin "max") rMaxZ := by
  intro pins s σ H xs us Q I r h
  obtain ⟨i, j, rfl, q⟩ := h
  obtain ⟨u, w', rfl, ⟨t, rfl⟩, ⟨t', rfl⟩⟩ := vals2 r
  refine max_two_str (I.ok.hd hc) (.str _ _) (.str _ _) fun h' tk k => ⟨_, H, I.kept k, ?_, q⟩
  show RelV _ (if decide (i.cps.toList < j.cps.toList) = true then _ else _)
  by_cases hj : i.cps.toList < j.cps.toList
  · rw [if_pos hj, if_pos (decide_eq_true hj)]; exact ⟨_, rfl⟩
  · rw [if_neg hj, if_neg (by rw [decide_eq_false hj]; exact Bool.false_ne_true)]; exact ⟨_, rfl⟩
section
variable {H : Hp} {Q : VK} {a b : Str}
theorem minZ (q : Q (.str (if cl b < cl a then b else a)) H) : rMinZ [.str a, .str b] H Q := ⟨a, b, rfl, q⟩
theorem maxZ (q : Q (.str (if cl a < cl b then b else a)) H) : rMaxZ [.str a, .str b] H Q := ⟨a, b, rfl, q⟩
end
end Rd
namespace Ln
open PySem PySem.Spec PyProof.Rows L2 Rd Ty
section
def wdat (k : List Str) : PyData := .tuple (k.map PyData.str)
/-- words that a program can hold -/
def OkW (k : List Str) : Prop := ∀ n ∈ k, PyData.strOk n = true
/-- v is the key k -/
def WV (H : Hp) (v : V) (k : List Str) : Prop := OkW k ∧ ∃ t, v = .ref t ∧ H t = some (.tup (k.map V.str))
def WVs (H : Hp) : List V → List (List Str) → Prop
  | [], [] => True
  | v :: vs, k :: ks => WV H v k ∧ WVs H vs ks
  | _, _ => False
theorem WV.same {H H' : Hp} {v : V} {k : List Str} (h : WV H v k) (s : Same H H') : WV H' v k := by
  obtain ⟨o, t, e, h⟩ := h
  exact ⟨o, t, e, s _ _ h⟩
theorem WVs.all {H H' : Hp} : ∀ {vs : List V} {ks : List (List Str)}, WVs H vs ks → (∀ v k, v ∈ vs → WV H v k → WV H' v k) → WVs H' vs ks
  | [], [], _, _ => trivial
  | v :: vs, k :: ks, h, s => ⟨s _ _ List.mem_cons_self h.1, WVs.all h.2 fun u j m => s u j (List.mem_cons_of_mem _ m)⟩
  | [], _ :: _, h, _ => h.elim
  | _ :: _, [], h, _ => h.elim
theorem WVs.same {H H' : Hp} {vs : List V} {ks : List (List Str)} (h : WVs H vs ks) (s : Same H H') : WVs H' vs ks := h.all fun _ _ _ k => k.same s
theorem WVs.len {H : Hp} : ∀ {vs : List V} {ks : List (List Str)}, WVs H vs ks → vs.length = ks.length
  | [], [], _ => rfl
  | v :: vs, k :: ks, h => by rw [List.length_cons, List.length_cons, WVs.len h.2]
  | [], _ :: _, h => h.elim
  | _ :: _, [], h => h.elim
theorem WVs.app {H : Hp} : ∀ {vs ws : List V} {ks js : List (List Str)}, WVs H vs ks → WVs H ws js → WVs H (vs ++ ws) (ks ++ js)
  | [], _, [], _, _, h => h
  | v :: vs, _, k :: ks, _, h, g => ⟨h.1, WVs.app h.2 g⟩
  | [], _, _ :: _, _, h, _ => h.elim
  | _ :: _, _, [], _, h, _ => h.elim
theorem WVs.cut {H : Hp} : ∀ {vs : List V} {ks : List (List Str)} (n : Nat), WVs H vs ks → WVs H (vs.take n) (ks.take n) ∧ WVs H (vs.drop n) (ks.drop n)
  | vs, ks, 0, h => ⟨trivial, h⟩
  | [], [], _ + 1, h => ⟨trivial, trivial⟩
  | v :: vs, k :: ks, n + 1, h => ⟨⟨h.1, (WVs.cut n h.2).1⟩, (WVs.cut n h.2).2⟩
  | [], _ :: _, _ + 1, h => h.elim
  | _ :: _, [], _ + 1, h => h.elim
theorem WVs.at {H : Hp} : ∀ {vs : List V} {ks : List (List Str)} {n : Nat} {v : V}, WVs H vs ks → vs[n]? = some v → ∃ k, ks[n]? = some k ∧ WV H v k
  | v :: vs, k :: ks, 0, _, h, e => by
    cases e
    exact ⟨k, rfl, h.1⟩
  | v :: vs, k :: ks, n + 1, _, h, e => WVs.at (n := n) h.2 e
  | [], [], _, _, _, e => nomatch e
  | [], _ :: _, _, _, h, _ => h.elim
  | _ :: _, [], _, _, h, _ => h.elim
theorem WVs.mem {H : Hp} {vs : List V} {ks : List (List Str)} {v : V} (h : WVs H vs ks) (m : v ∈ vs) : ∃ k ∈ ks, WV H v k := by
  obtain ⟨n, hn⟩ := List.mem_iff_getElem?.mp m
  obtain ⟨k, hk, e⟩ := h.at hn
  exact ⟨k, List.mem_of_getElem? hk, e⟩
variable {K : PySem.W.Frag}
theorem WVs.ok {H : Hp} : ∀ {vs : List V} {ks : List (List Str)}, WVs H vs ks → ∀ k ∈ ks, OkW k
  | [], [], _ => fun _ m => nomatch m
  | v :: vs, k :: ks, h => fun j m => (List.mem_cons.mp m).elim (fun e => e ▸ h.1.1) (WVs.ok h.2 j)
  | [], _ :: _, h => h.elim
  | _ :: _, [], h => h.elim
/-- at a a list of the keys ks -/
def WL (H : Hp) (a : Addr) (ks : List (List Str)) : Prop := ∃ vs, H a = some (.lst vs) ∧ WVs H vs ks
theorem WL.same {H H' : Hp} {a : Addr} {ks : List (List Str)} (h : WL H a ks) (s : Same H H') : WL H' a ks := by
  obtain ⟨vs, e, k⟩ := h
  exact ⟨vs, s _ _ e, k.same s⟩
theorem WL.ok {H : Hp} {a : Addr} {ks : List (List Str)} (h : WL H a ks) : ∀ k ∈ ks, OkW k := by
  obtain ⟨vs, _, k⟩ := h
  exact k.ok
end
end Ln
namespace PyProof.Rows
open PySem
end PyProof.Rows
namespace Rd
open PySem PySem.Spec PyProof.Rows L2
end Rd
namespace MinZ0
open PySem PySem.Spec PyProof.Rows L2
end MinZ0
namespace Rd
open PySem PySem.Spec PyProof.Rows L2 MinZ0
/-- line, a, b = x: x a list or a tuple of n items -/
def gUnE (K : PySem.W.Frag) (n : Nat) (t : TGs) : TG := fun v σ H Q => ∃ a xs, v = .ref a ∧ (SqT K H a xs ∨ SqL K H a xs) ∧ xs.length = n ∧ t xs σ H Q
theorem pg_unE {X : Cx} {pos : Pos} {es : List Expr} {k : Nat} {t : TGs} {n : Nat} (hc : X.calm = true) (h : PGs X es t) (hn : (assignEach es X.env).length = n := by rfl) (hst : (assignEach es X.env).findIdx? (·.1) = none := by rfl) : PG X (.Tuple es k pos) (gUnE X.K n t) := by
  refine ⟨fun pins s σ H v u Q I r hw => ?_⟩
  obtain ⟨a, xs, e, hq | hq, hl, hw⟩ := hw
  · exact (pg_tup hc h hn hst).run pins s σ H v u Q I r ⟨a, xs, e, hq, hl, hw⟩
  · exact (pg_unl hc h hn hst).run pins s σ H v u Q I r ⟨a, xs, e, hq, hl, hw⟩
end Rd
namespace Kj
open PySem PySem.Spec PyProof.Rows L2 Rd
local macro_rules | `(tactic| walk_at "hp") => `(tactic| first
  | assumption
  | exact upd_same
  | (refine Eq.trans (upd_ne (by first | assumption | (apply Ne.symm; assumption))) ?_; walk_at "hp"))
local macro_rules | `(tactic| walk_at "sq") => `(tactic| first
  | assumption
  | (refine Or.inl (Or.inl ?_); walk_at "hp"))
local macro_rules | `(tactic| walk_at "st") => `(tactic| first
  | assumption
  | (refine Or.inl (Or.inl ?_); walk_at "hp"))
local macro_rules | `(tactic| walk_at "ar") => `(tactic| first
  | assumption
  | omega
  | decide)
local macro_rules | `(tactic| walk_at "ci") => `(tactic| first
  | (refine (show CMul _ _ from Or.inr ⟨?_, ?_⟩) <;> omega)
  | (refine (show CMul _ _ from Or.inl ⟨?_, ?_⟩) <;> omega)
  | (show CPow _ _; exact ⟨by decide, by decide, by decide⟩)
  | (refine wide_div (b := 63) ?_ ?_ (by decide) (by decide) <;> omega)
  | (show (0 : Int) < _; omega))
local macro_rules | `(tactic| walk_at "ty") => `(tactic| first
  | exact dp_ty (by assumption)
  | exact TyX.base (TyOf.int _)
  | exact TyX.base (TyOf.str _)
  | exact TyX.base (TyOf.bl _)
  | exact TyX.base TyOf.non
  | exact tyL' (by walk_at "sq")
  | exact tyT' (by walk_at "st"))
local macro_rules | `(tactic| walk_at "isi") => `(tactic| first
  | ((with_reducible apply Rd.isiF); (walk_at "ty"); (decide))
  | ((with_reducible apply Rd.isiT); (walk_at "ty"); (decide)))
local macro_rules | `(tactic| walk_at "rd") => `(tactic| first
  | with_reducible apply Rd.seq
  | ((with_reducible apply Rd.var); rfl)
  | with_reducible apply Rd.con
  | with_reducible apply Rd.op
  | with_reducible apply Rd.asg
  | ((with_reducible apply Rd.gname); ((dsimp only [List.set, L2.wipe, Int.reduceToNat]) <;> rfl))
  | with_reducible apply Rd.nxt
  | with_reducible apply Rd.ifs
  | with_reducible apply Rd.test
  | with_reducible apply Rd.testB
  | with_reducible apply Rd.exbl
  | with_reducible apply Rd.ret
  | with_reducible apply Rd.drop
  | with_reducible apply Rd.retN
  | with_reducible apply Rd.nil
  | with_reducible apply Rd.cons
  | with_reducible apply Rd.call
  | with_reducible apply Rd.cb
  | with_reducible apply Rd.and
  | with_reducible apply Rd.or
  | with_reducible apply Rd.not
  | with_reducible apply Rd.andV
  | with_reducible apply Rd.orV
  | with_reducible apply Rd.notV
  | with_reducible apply Rd.ife
  | with_reducible apply Rd.tup
  | with_reducible apply Rd.lst
  | with_reducible apply Rd.un
  | with_reducible apply Rd.chain
  | with_reducible apply Rd.brk
  | with_reducible apply Rd.cnt
  | with_reducible apply Rd.I0
  | with_reducible apply Rd.U1
  | ((with_reducible apply Rd.eq); rfl)
  | ((with_reducible apply Rd.ne); rfl)
  | ((with_reducible apply Rd.I1); (walk_at "ci"))
  | with_reducible apply Rd.lc0
  | with_reducible apply Rd.ln0
  | with_reducible apply Rd.exN
  | ((with_reducible apply Rd.iteSf); (decide +kernel))
  | ((with_reducible apply Rd.iteSt); (decide +kernel))
  | ((with_reducible apply Rd.niQ); (exact Or.inl (by walk_at "sq")); (exact ⟨rfl, rfl⟩); (rfl))
  | ((with_reducible apply Rd.inQ); (exact Or.inl (by walk_at "sq")); (exact ⟨rfl, rfl⟩); (rfl))
  | with_reducible apply Rd.rn1
  | with_reducible apply Rd.in1
  | with_reducible apply Rd.sn1
  | with_reducible apply Rd.bn1
  | with_reducible apply Rd.nn1
  | with_reducible apply Rd.rn2
  | with_reducible apply Rd.in2
  | with_reducible apply Rd.sn2
  | with_reducible apply Rd.bn2
  | with_reducible apply Rd.nn2
  | with_reducible apply Rd.nt1
  | with_reducible apply Rd.nf1
  | (with_reducible refine Rd.iteI (fun _ => ?_) (fun _ => ?_))
  | (with_reducible refine Rd.iteNI (fun _ => ?_) (fun _ => ?_))
  | (with_reducible refine iteT ?_)
  | (with_reducible refine iteF ?_)
  | (with_reducible refine Rd.iteD (fun _ => ?_) (fun _ => ?_))
  | (with_reducible refine Rd.iteN (fun _ => ?_) (fun _ => ?_))
  | with_reducible apply Rd.intI
  | with_reducible apply Rd.intB
  | with_reducible apply Rd.maxQ
  | with_reducible apply Rd.minQ
  | with_reducible apply Rd.absQ
  | with_reducible apply Rd.isN
  | with_reducible apply Rd.noN
  | with_reducible apply Rd.ltZ
  | with_reducible apply Rd.bm
  | with_reducible apply Rd.bm0
  | with_reducible apply Rd.par
  | with_reducible apply Rd.expar
  | with_reducible apply Rd.exint
  | with_reducible apply Rd.ipi
  | with_reducible apply Rd.slice
  | with_reducible apply Rd.noPart
  | with_reducible apply Rd.part
  | with_reducible apply Rd.gcons
  | with_reducible apply Rd.gnil
  | with_reducible apply Rd.iseq
  | with_reducible apply Rd.irng1
  | walk_at "isi"
  | with_reducible apply Rd.forX
  | with_reducible apply Rd.lstRev
  | with_reducible apply Rd.lstRg
  | with_reducible apply Rd.rg1
  | with_reducible apply Rd.rg2
  | with_reducible apply Rd.exint2
  | ((with_reducible apply Rd.exrev); (walk_at "sq"))
  | with_reducible apply Rd.lcX
  | with_reducible apply Rd.yes
  | ((with_reducible apply Rd.exrng1); (constructor <;> omega))
  | ((with_reducible apply Rd.exrng2); (refine ⟨?_, ?_, ?_, ?_⟩ <;> omega))
  | with_reducible apply Rd.irng2
  | ((with_reducible apply Rd.aug); rfl)
  | ((with_reducible apply Rd.exlst); (walk_at "sq"))
  | ((with_reducible apply Rd.gtup); (walk_at "st"); (rfl))
  | ((with_reducible apply Rd.tyL); (walk_at "hp"))
  | ((with_reducible apply Rd.ixL); (walk_at "sq"); (rfl))
  | ((with_reducible apply Rd.ixI); (walk_at "sq"); (omega); (first | assumption | (simp only [List.length_map]; omega)); (intro _ _))
  | (with_reducible refine Rd.gsub ?_)
  | ((with_reducible apply Rd.setL); (walk_at "hp"); (rfl); ((dsimp only [List.set, L2.wipe, Int.reduceToNat]) <;> rfl))
  | ((with_reducible apply Rd.lenQ); (first | exact Or.inl (by walk_at "sq") | exact Or.inr (by walk_at "st")))
  | ((with_reducible apply Rd.listQ); (first | exact Or.inl (by walk_at "sq") | exact Or.inr (by walk_at "st")))
  | ((with_reducible apply Rd.tupQ); (walk_at "sq"))
  | ((with_reducible apply Rd.slL); (walk_at "sq"))
  | ((with_reducible apply Rd.ixT); (walk_at "st"); (rfl))
  | (with_reducible refine Rd.iteB (fun _ => ?_) (fun _ => ?_))
  | (with_reducible refine Rd.iteNB (fun _ => ?_) (fun _ => ?_))
  | (refine Rd.andI (Nat.le_of_ble_eq_true rfl) ?_)
  | dsimp only [List.set])
local macro_rules | `(tactic| walk_at "rd") => `(tactic| first
  | with_reducible apply Rd.seq
  | ((with_reducible apply Rd.var); rfl)
  | with_reducible apply Rd.con
  | with_reducible apply Rd.op
  | with_reducible apply Rd.cons
  | with_reducible apply Rd.nil
  | with_reducible apply Rd.asg
  | ((with_reducible apply Rd.gname); ((dsimp only [List.set, L2.wipe, Int.reduceToNat]) <;> rfl))
  | with_reducible apply Rd.nxt
  | with_reducible apply Rd.ifs
  | with_reducible apply Rd.test
  | with_reducible apply Rd.ret
  | with_reducible apply Rd.call
  | with_reducible apply Rd.cb)
section
variable {P : Program} {w : World} {K : PySem.W.Frag} {mg : Str → Option Value} {base : Heap}
abbrev A26 : Str := "abcdefghijklmnopqrstuvwxyz"
abbrev A36 : Str := "0123456789abcdefghijklmnopqrstuvwxyz"
theorem a26 : A26.length = 26 ∧ ∀ c ∈ cl A26, Low c := by decide +kernel
theorem a36 : A36.length = 36 ∧ ∀ c ∈ cl A36, Aln c := by decide +kernel
end
section
variable {P : Program} {w : World} {K : PySem.W.Frag} {mg : Str → Option Value} {base : Heap}
theorem Go.seq {st c a : Addr} {H H' : Hp} {xs : List V} (g : Go st c H H') (n : a ≠ st) (h : SqL K H a xs) : SqL K H' a xs := by
  rcases h with (h | ⟨o, h⟩) | h
  · exact .inl (.inl (g.keep _ _ n h))
  · exact .inl (.inr ⟨o, g.keep _ _ n h⟩)
  · exact .inr h
/-- _law_pick(store, z) of a text: one of its signs -/
def spPickZ : Sp := fun vs H Q _ => ∃ (st c : Addr) (z : Str), vs = [.ref st, .str z] ∧ StoreAt H st c ∧ 1 ≤ z.length ∧ z.length ≤ 1000 ∧ ∀ (x : Nat) (H' : Hp), x ∈ cl z → Go st c H H' → Q (.str ⟨#[x]⟩) H'
/-- _law_pick(store, items) of a list: one of its items, None if there is none -/
def spPickL (K : PySem.W.Frag) : Sp := fun vs H Q _ => ∃ (st c a : Addr) (xs : List V), vs = [.ref st, .ref a] ∧ StoreAt H st c ∧ a ≠ st ∧ SqL K H a xs ∧ xs.length ≤ 100000 ∧ (xs = [] → Q .non H) ∧ ∀ (x : V) (H' : Hp), x ∈ xs → Go st c H H' → Q x H'
def spPick (K : PySem.W.Frag) : Sp := fun vs H Q E => spPickZ vs H Q E ∨ spPickL K vs H Q E
theorem ok__law_pick (F : Def K mg "_law_pick" s__law_pick P__law_pick) (m_len : mg "len" = none) (C__law_take : Cal P w K mg base 1 "_law_take" P__law_take spTake) : Cal P w K mg base 2 "_law_pick" P__law_pick (spPick K) := by
  refine F.ok sc__law_pick (fun vs H Q E h => ?_) (fun f cdv A outer s H vs Q E hr h => ?_)
  · rcases h with ⟨st, c, z, rfl, _⟩ | ⟨st, c, a, xs, rfl, _⟩ <;> rfl
  rcases h with ⟨st, c, z, rfl, hs, l1, l2, q⟩ | ⟨st, c, a, xs, rfl, hs, na, ha, l2, qn, q⟩
  · refine ⟨_, (pss_cons (ps_if (pt_cmpR op_eq (pe_callB q_lenZ (by rfl) m_len PySem.boot_len (pa_cons (pv 1 (hd := nd_items) (hcd := nc_items)) pa_nil) (hn := nn_len) (hdb := nd_len)) pe_int (nomark _)) (pss_one (ps_ret pe_non)) pss_nil)
  (pss_one (ps_ret (pe_ix ix_str (pv 1 (hd := nd_items) (hcd := nc_items)) (pe_cal C__law_take hr (pa_cons (pv 0 (hd := nd_store) (hcd := nc_store)) (pa_cons (pe_callB q_lenZ (by rfl) m_len PySem.boot_len (pa_cons (pv 1 (hd := nd_items) (hcd := nc_items)) pa_nil) (hn := nn_len) (hdb := nd_len)) pa_nil)) (hdb := nd__law_take)) (fun _ _ => rfl))))), ?_⟩
    refine Rd.at0 (σ := [some (.ref st), some (.str z)]) rfl ?_
    have lz : z.length ≤ sizeLine := sz5 (by omega)
    repeat' (walk_at "rd")
    refine lenZ lz ?_
    repeat' (walk_at "rd")
    · exfalso
      omega
    refine lenZ lz ?_
    refine ⟨st, c, _, rfl, hs, by omega, fun r H1 r0 r1 g => ?_⟩
    exact sign (by omega) r0 (by omega) fun x _ hx => q x H1 hx g
  · refine ⟨_, (pss_cons (ps_if (pt_cmpR op_eq (pe_callB q_len (by rfl) m_len PySem.boot_len (pa_cons (pv 1 (hd := nd_items) (hcd := nc_items)) pa_nil) (hn := nn_len) (hdb := nd_len)) pe_int (nomark _)) (pss_one (ps_ret pe_non)) pss_nil)
  (pss_one (ps_ret (pe_ix ix_list (pv 1 (hd := nd_items) (hcd := nc_items)) (pe_cal C__law_take hr (pa_cons (pv 0 (hd := nd_store) (hcd := nc_store)) (pa_cons (pe_callB q_len (by rfl) m_len PySem.boot_len (pa_cons (pv 1 (hd := nd_items) (hcd := nc_items)) pa_nil) (hn := nn_len) (hdb := nd_len)) pa_nil)) (hdb := nd__law_take)) (fun _ _ => rfl))))), ?_⟩
    refine Rd.at0 (σ := [some (.ref st), some (.ref a)]) rfl ?_
    by_cases e : xs = []
    · subst e
      repeat' (walk_at "rd")
      exact qn rfl
    have l1 := List.length_pos_iff.mpr e
    repeat' (walk_at "rd")
    · exfalso
      omega
    refine ⟨st, c, _, rfl, hs, by omega, fun r H1 r0 r1 g => ?_⟩
    have lt : r.toNat < xs.length := by omega
    exact ixN' (g.seq na ha) r0 (List.getElem?_eq_getElem lt) (q _ H1 (List.getElem_mem lt) g)
/-- _law_names(store, many): new names, all different -/
def spNames : Sp := fun vs H Q _ => ∃ (st c : Addr) (m : Int), vs = [.ref st, .int m] ∧ StoreAt H st c ∧ 0 ≤ m ∧ m ≤ 1000 ∧ ∀ (L : Addr) (zs : List Str) (H' : Hp), (zs.length : Int) = m → (∀ z ∈ zs, NmS z) → zs.Nodup → H L = none → Go st c H H' → H' L = some (.lst (zs.map V.str)) → Q (.ref L) H'
theorem snoc_at {α : Type} {zs : List α} {z y : α} {j : Nat} (h : (zs ++ [z])[j]? = some y) : (j < zs.length ∧ zs[j]? = some y) ∨ (j = zs.length ∧ y = z) := by
  by_cases l : j < zs.length
  · rw [List.getElem?_append_left l] at h
    exact .inl ⟨l, h⟩
  · rw [List.getElem?_append_right (by omega)] at h
    by_cases e : j - zs.length = 0
    · rw [e] at h
      exact .inr ⟨by omega, (Option.some.inj h).symm⟩
    · obtain ⟨k, hk⟩ : ∃ k, j - zs.length = k + 1 := ⟨j - zs.length - 1, by omega⟩
      rw [hk] at h
      cases h
theorem permS {ys : List V} {zs : List Str} (p : ys.Perm (zs.map V.str)) : ∃ ks : List Str, ys = ks.map V.str ∧ ks.Perm zs := by
  refine ⟨ys.map fun v => match v with | .str z => z | _ => "", ?_, ?_⟩
  · rw [List.map_map]
    conv => lhs; rw [← List.map_id ys]
    refine List.map_congr_left fun y hy => ?_
    obtain ⟨z, _, rfl⟩ := List.mem_map.mp (p.mem_iff.mp hy)
    rfl
  · have := p.map fun v => match v with | .str z => z | _ => ""
    rw [List.map_map] at this
    simpa [Function.comp_def] using this
local macro_rules | `(tactic| walk_at "sz") => `(tactic| first
  | exact sz5 (by omega)
  | (simp only [add_len, one_len]; exact sz5 (by omega)))
local macro_rules | `(tactic| walk_at "rd") => `(tactic| first
  | ((with_reducible apply Rd.lenZ); (walk_at "sz"))
  | ((with_reducible apply Rd.addZ); (walk_at "sz")))
theorem ok__law_names (F : Def K mg "_law_names" s__law_names P__law_names) (m_range : mg "range" = none) (m_int : mg "int" = none) (C__law_take : Cal P w K mg base 1 "_law_take" P__law_take spTake) (C__law_pick : Cal P w K mg base 2 "_law_pick" P__law_pick (spPick K)) (C__law_shuffled : Cal P w K mg base 2 "_law_shuffled" P__law_shuffled (spShuffled K)) : Cal P w K mg base 3 "_law_names" P__law_names spNames := by
  refine F.ok sc__law_names (fun vs H Q E h => ?_) (fun f cdv A outer s H vs Q E hr h => ?_)
  · obtain ⟨st, c, m, rfl, _⟩ := h
    rfl
  obtain ⟨st, c, m, rfl, hs, m0, m1, q⟩ := h
  refine ⟨_, (pss_cons (ps_set (i := 2) sc__law_names.nd rfl (Or.inl rfl) pe_str)
  (pss_cons (ps_set (i := 3) sc__law_names.nd rfl (Or.inl rfl) (pe_op o_addZ pe_str (pv 2 (hd := nd_letters) (hcd := nc_letters))))
  (pss_cons (ps_set (i := 4) sc__law_names.nd rfl (Or.inl rfl) (pe_cal C__law_take hr (pa_cons (pv 0 (hd := nd_store) (hcd := nc_store)) (pa_cons pe_int pa_nil)) (hdb := nd__law_take)))
  (pss_cons (ps_set (i := 5) sc__law_names.nd rfl (Or.inl rfl) (pe_cal C__law_pick hr (pa_cons (pv 0 (hd := nd_store) (hcd := nc_store)) (pa_cons (pv 2 (hd := nd_letters) (hcd := nc_letters)) pa_nil)) (hdb := nd__law_pick)))
  (pss_cons (ps_set (i := 6) sc__law_names.nd rfl (Or.inl rfl) (pe_lst pa_nil))
  (C8.pss_cut (ps_if (PW.pt (pw_and (pt_cmpR op_eq (pv 4 (hd := nd_style) (hcd := nc_style)) pe_int (nomark _)) (pw_and1 (pt_cmpR op_le (pv 1 (hd := nd_many) (hcd := nc_many)) pe_int (nomark _))))) (pss_cons (ps_set (i := 7) sc__law_names.nd rfl (Or.inl rfl) (pe_cal C__law_pick hr (pa_cons (pv 0 (hd := nd_store) (hcd := nc_store)) (pa_cons (pv 3 (hd := nd_signs) (hcd := nc_signs)) pa_nil)) (hdb := nd__law_pick)))
  (pss_cons (ps_for PassesOwn.never rfl (pi_range1 (by rfl) m_range (pa_cons (pv 1 (hd := nd_many) (hcd := nc_many)) pa_nil)) (pg_name (i := 8) sc__law_names.nd rfl (Or.inl rfl)) (pss_one (ps_expr (pe_bm PySem.F.plainAttrs_list PySem.F.slot_list_append PySem.F.type_list_append mt_append (pv 6 (hd := nd_names) (hcd := nc_names)) (pa_cons (pe_op o_addZ (pv 5 (hd := nd_first) (hcd := nc_first)) (pe_op op_rep_str (pv 7 (hd := nd_sign) (hcd := nc_sign)) (pv 8 (hd := nd_k) (hcd := nc_k)))) pa_nil)))))
  (pss_one (ps_ret (pe_cal C__law_shuffled hr (pa_cons (pv 0 (hd := nd_store) (hcd := nc_store)) (pa_cons (pv 6 (hd := nd_names) (hcd := nc_names)) pa_nil)) (hdb := nd__law_shuffled)))))) pss_nil)
  (C8.pss_cut (ps_if (PW.pt (pw_and (pt_cmpR op_lt (pv 4 (hd := nd_style) (hcd := nc_style)) pe_int (nomark _)) (pw_and1 (pt_cmpR op_le (pv 1 (hd := nd_many) (hcd := nc_many)) pe_int (nomark _))))) (pss_cons (ps_set (i := 9) sc__law_names.nd rfl (Or.inl rfl) (pe_cal C__law_take hr (pa_cons (pv 0 (hd := nd_store) (hcd := nc_store)) (pa_cons pe_int pa_nil)) (hdb := nd__law_take)))
  (pss_cons (ps_for PassesOwn.never rfl (pi_range1 (by rfl) m_range (pa_cons (pv 1 (hd := nd_many) (hcd := nc_many)) pa_nil)) (pg_name (i := 8) sc__law_names.nd rfl (Or.inl rfl)) (pss_one (ps_expr (pe_bm PySem.F.plainAttrs_list PySem.F.slot_list_append PySem.F.type_list_append mt_append (pv 6 (hd := nd_names) (hcd := nc_names)) (pa_cons (pe_ix ix_str (pv 2 (hd := nd_letters) (hcd := nc_letters)) (pe_op op_mod (pe_callTy q_intI (by rfl) m_int bb_int (pa_cons (pe_op op_add (pv 9 (hd := nd_start) (hcd := nc_start)) (pv 8 (hd := nd_k) (hcd := nc_k))) pa_nil) (hn := nn_int) (hdb := nd_int)) pe_int) (fun _ _ => rfl)) pa_nil)))))
  (pss_one (ps_ret (pe_cal C__law_shuffled hr (pa_cons (pv 0 (hd := nd_store) (hcd := nc_store)) (pa_cons (pv 6 (hd := nd_names) (hcd := nc_names)) pa_nil)) (hdb := nd__law_shuffled)))))) pss_nil)
  (pss_cons (ps_set (i := 10) sc__law_names.nd rfl (Or.inl rfl) (pv 5 (hd := nd_first) (hcd := nc_first)))
  (pss_cons (ps_for PassesOwn.never rfl (pi_range1 (by rfl) m_range (pa_cons (pe_cal C__law_take hr (pa_cons (pv 0 (hd := nd_store) (hcd := nc_store)) (pa_cons pe_int pa_nil)) (hdb := nd__law_take)) pa_nil)) (pg_name (i := 8) sc__law_names.nd rfl (Or.inl rfl)) (pss_one (ps_set (i := 10) sc__law_names.nd rfl (Or.inl rfl) (pe_op o_addZ (pv 10 (hd := nd_ahead) (hcd := nc_ahead)) (pe_cal C__law_pick hr (pa_cons (pv 0 (hd := nd_store) (hcd := nc_store)) (pa_cons (pv 3 (hd := nd_signs) (hcd := nc_signs)) pa_nil)) (hdb := nd__law_pick))))))
  (pss_cons (ps_set (i := 11) sc__law_names.nd rfl (Or.inl rfl) (pe_op op_rep_str (pe_cal C__law_pick hr (pa_cons (pv 0 (hd := nd_store) (hcd := nc_store)) (pa_cons (pv 3 (hd := nd_signs) (hcd := nc_signs)) pa_nil)) (hdb := nd__law_pick)) (pe_cal C__law_take hr (pa_cons (pv 0 (hd := nd_store) (hcd := nc_store)) (pa_cons pe_int pa_nil)) (hdb := nd__law_take))))
  (pss_cons (ps_set (i := 9) sc__law_names.nd rfl (Or.inl rfl) (pe_cal C__law_take hr (pa_cons (pv 0 (hd := nd_store) (hcd := nc_store)) (pa_cons pe_int pa_nil)) (hdb := nd__law_take)))
  (pss_cons (ps_set (i := 12) sc__law_names.nd rfl (Or.inl rfl) (pe_ix ix_list (pe_lst (pa_cons pe_int (pa_cons pe_int (pa_cons pe_int (pa_cons (pe_op op_add pe_int pe_int) (pa_cons (pe_op op_sub pe_int pe_int) pa_nil)))))) (pe_cal C__law_take hr (pa_cons (pv 0 (hd := nd_store) (hcd := nc_store)) (pa_cons pe_int pa_nil)) (hdb := nd__law_take)) (fun _ _ => rfl)))
  (pss_cons (ps_for PassesOwn.never rfl (pi_range1 (by rfl) m_range (pa_cons (pv 1 (hd := nd_many) (hcd := nc_many)) pa_nil)) (pg_name (i := 8) sc__law_names.nd rfl (Or.inl rfl)) (pss_cons (ps_set (i := 13) sc__law_names.nd rfl (Or.inl rfl) (pe_op op_mod (pe_callTy q_intI (by rfl) m_int bb_int (pa_cons (pe_op op_add (pv 9 (hd := nd_start) (hcd := nc_start)) (pe_op op_mul (pv 8 (hd := nd_k) (hcd := nc_k)) (pv 12 (hd := nd_step) (hcd := nc_step)))) pa_nil) (hn := nn_int) (hdb := nd_int)) pe_int))
  (pss_cons (ps_if (pt_cmpR op_eq (pv 4 (hd := nd_style) (hcd := nc_style)) pe_int (nomark _)) (pss_one (ps_set (i := 11) sc__law_names.nd rfl (Or.inl rfl) (pe_op op_rep_str (pe_cal C__law_pick hr (pa_cons (pv 0 (hd := nd_store) (hcd := nc_store)) (pa_cons (pv 3 (hd := nd_signs) (hcd := nc_signs)) pa_nil)) (hdb := nd__law_pick)) (pe_cal C__law_take hr (pa_cons (pv 0 (hd := nd_store) (hcd := nc_store)) (pa_cons pe_int pa_nil)) (hdb := nd__law_take))))) pss_nil)
  (pss_one (ps_expr (pe_bm PySem.F.plainAttrs_list PySem.F.slot_list_append PySem.F.type_list_append mt_append (pv 6 (hd := nd_names) (hcd := nc_names)) (pa_cons (pe_op o_addZ (pe_op o_addZ (pe_op o_addZ (pv 10 (hd := nd_ahead) (hcd := nc_ahead)) (pe_ix ix_str (pv 3 (hd := nd_signs) (hcd := nc_signs)) (pe_op op_fdivW (pv 13 (hd := nd_code) (hcd := nc_code)) pe_int) (fun _ _ => rfl))) (pe_ix ix_str (pv 3 (hd := nd_signs) (hcd := nc_signs)) (pe_op op_mod (pe_callTy q_intI (by rfl) m_int bb_int (pa_cons (pv 13 (hd := nd_code) (hcd := nc_code)) pa_nil) (hn := nn_int) (hdb := nd_int)) pe_int) (fun _ _ => rfl))) (pv 11 (hd := nd_tail) (hcd := nc_tail))) pa_nil)))))))
  (pss_one (ps_ret (pe_cal C__law_shuffled hr (pa_cons (pv 0 (hd := nd_store) (hcd := nc_store)) (pa_cons (pv 6 (hd := nd_names) (hcd := nc_names)) pa_nil)) (hdb := nd__law_shuffled))))))))))))))))), ?_⟩
  refine Rd.at0 (σ := [some (.ref st), some (.int m), none, none, none, none, none, none, none, none, none, none, none, none]) rfl ?_
  have e10 : ("0123456789" : Str).length = 10 := by decide +kernel
  have e26 : A26.length = 26 := a26_len
  have e26x := a26_len
  have e36x := a36_len
  have e36 : A36.length = 36 := a36_len
  have e26c : (cl A26).length = 26 := by rw [cl_len, e26]
  repeat' (walk_at "rd")
  rw [a36_cat]
  repeat' (walk_at "rd")
  refine ⟨st, c, 6, rfl, hs, by decide, fun sy H1 s0 s1 g1 => ?_⟩
  repeat' (walk_at "rd")
  refine .inl ⟨st, c, A26, rfl, g1.ok, by omega, by omega, fun fx H2 hfx g2 => ?_⟩
  have hfx := a26.2 fx hfx
  have g12 := g1.trans g2
  repeat' (walk_at "rd")
  intro L hL
  have oL := g12.ok.off hL
  have fL := g12.free hL
  have g3 := g12.new hL (.lst [])
  have eL : (upd H2 L (.lst [])) L = some (.lst ((([] : List Str)).map V.str)) := upd_same
  generalize upd H2 L (.lst []) = H3 at *
  repeat' (walk_at "rd")
  have nL : L ≠ st := oL.1
  have fin : ∀ (zs : List Str) (h : Hp) (EE : XK), (zs.length : Int) = m → (∀ z ∈ zs, NmS z) → zs.Nodup → h L = some (.lst (zs.map V.str)) → Go st c H h → spShuffled K [.ref st, .ref L] h Q EE := fun zs h EE hl hn nd hL g =>
    ⟨st, c, L, zs.map V.str, rfl, g.ok, .inl (.inl hL), by rw [List.length_map]; omega, fun l ys H' pm fl g' el => by
      obtain ⟨ks, rfl, pk⟩ := permS pm
      exact q l ks H' (by rw [pk.length_eq]; exact hl) (fun z hz => hn z (pk.mem_iff.mp hz)) (pk.nodup_iff.mpr nd) (g.free fl) (g.trans g') el⟩
  refine Rd.cut (fun σ' H' => σ' = [some (.ref st), some (.int m), some (.str A26), some (.str A36), some (.int sy), some (.str ⟨#[fx]⟩), some (.ref L), none, none, none, none, none, none, none] ∧ H' = H3) ?_ ?_
  · repeat' (walk_at "rd")
    · refine .inl ⟨st, c, A36, rfl, g3.ok, by omega, by omega, fun sx H4 hsx g4 => ?_⟩
      have hsx := a36.2 sx hsx
      have g34 := g3.trans g4
      repeat' (walk_at "rd")
      refine forR (fun i σ H' => ∃ (zs : List Str) (v8 : Option V), σ = [some (.ref st), some (.int m), some (.str A26), some (.str A36), some (.int sy), some (.str ⟨#[fx]⟩), some (.ref L), some (.str ⟨#[sx]⟩), v8, none, none, none, none, none] ∧ zs.length = i ∧
        (∀ (j : Nat) (z : Str), zs[j]? = some z → z = ⟨#[fx]⟩ ++ Txt.mul ⟨#[sx]⟩ ((j : Nat) : Int)) ∧ H' L = some (.lst (zs.map V.str)) ∧ Go st c H H') ⟨[], none, rfl, rfl, fun j z h => absurd h (by simp), g4.keep _ _ nL eL, g34⟩ ?_ ?_
      · rintro i σ H' hi ⟨zs, v8, rfl, lz, hz, eL', g'⟩
        have e0 : (0 : Int) + (i : Int) = (i : Int) := by omega
        repeat' (walk_at "rd")
        rw [e0]
        refine repZ ⟨by rw [one_len]; decide, by omega, by omega⟩ ?_
        have lm := mul_one_len sx i
        repeat' (walk_at "rd")
        refine append eL' (by rw [List.length_map, lz]; exact sz5' (by omega)) ?_
        repeat' (walk_at "rd")
        refine ⟨zs ++ [⟨#[fx]⟩ ++ Txt.mul ⟨#[sx]⟩ (i : Int)], _, rfl, by rw [List.length_append, lz]; rfl, fun j z h => ?_, by rw [List.map_append]; exact upd_same, g'.write fL oL _⟩
        rcases snoc_at h with ⟨_, h⟩ | ⟨e, h⟩
        · exact hz j z h
        · rw [h, e, lz]
      · rintro σ H' ⟨zs, v8, rfl, lz, hz, eL', g'⟩
        have lz : zs.length = m.toNat := lz
        repeat' (walk_at "rd")
        refine fin zs H' _ (by omega) (fun z hm => ?_) (nodup_rel (R := fun j z => z = ⟨#[fx]⟩ ++ Txt.mul ⟨#[sx]⟩ ((j : Nat) : Int)) (Nat.le_refl _) hz fun i j z _ _ h1 h2 => ?_) eL' g'
        · obtain ⟨j, hj, e⟩ := List.getElem_of_mem hm
          have h := hz j z (by rw [List.getElem?_eq_getElem hj, e])
          subst h
          refine ⟨?_, ?_⟩
          · rw [cl_add, mul_one_cl]
            exact (Nm.one hfx).app fun x hx => by rw [List.eq_of_mem_replicate hx]; exact hsx
          · rw [add_len, one_len, mul_one_len]
            omega
        · have : (⟨#[fx]⟩ ++ Txt.mul ⟨#[sx]⟩ ((i : Nat) : Int) : Str).length = (⟨#[fx]⟩ ++ Txt.mul ⟨#[sx]⟩ ((j : Nat) : Int) : Str).length := by rw [← h1, ← h2]
          rw [add_len, add_len, mul_one_len, mul_one_len] at this
          omega
    · exact ⟨rfl, rfl⟩
    · exact ⟨rfl, rfl⟩
  rintro σ' H' ⟨rfl, eH⟩
  rw [eH]
  clear eH H'
  repeat' (walk_at "rd")
  refine Rd.cut (fun σ' H' => σ' = [some (.ref st), some (.int m), some (.str A26), some (.str A36), some (.int sy), some (.str ⟨#[fx]⟩), some (.ref L), none, none, none, none, none, none, none] ∧ H' = H3) ?_ ?_
  · repeat' (walk_at "rd")
    · refine ⟨st, c, 26, rfl, g3.ok, by decide, fun r H4 r0 r1 g4 => ?_⟩
      have g34 := g3.trans g4
      repeat' (walk_at "rd")
      refine forR (fun i σ H' => ∃ (zs : List Str) (v8 : Option V), σ = [some (.ref st), some (.int m), some (.str A26), some (.str A36), some (.int sy), some (.str ⟨#[fx]⟩), some (.ref L), none, v8, some (.int r), none, none, none, none] ∧ zs.length = i ∧
        (∀ (j : Nat) (z : Str), zs[j]? = some z → ∃ x, z = ⟨#[x]⟩ ∧ (cl A26)[((r + ((j : Nat) : Int)) % 26).toNat]? = some x) ∧ H' L = some (.lst (zs.map V.str)) ∧ Go st c H H') ⟨[], none, rfl, rfl, fun j z h => absurd h (by simp), g4.keep _ _ nL eL, g34⟩ ?_ ?_
      · rintro i σ H' hi ⟨zs, v8, rfl, lz, hz, eL', g'⟩
        have e0 : (0 : Int) + (i : Int) = (i : Int) := by omega
        repeat' (walk_at "rd")
        rw [e0]
        refine sign (z := A26) (by omega) (by omega) (by omega) fun x hx _ => ?_
        repeat' (walk_at "rd")
        refine append eL' (by rw [List.length_map, lz]; exact sz5' (by omega)) ?_
        repeat' (walk_at "rd")
        refine ⟨zs ++ [⟨#[x]⟩], _, rfl, by rw [List.length_append, lz]; rfl, fun j z h => ?_, by rw [List.map_append]; exact upd_same, g'.write fL oL _⟩
        rcases snoc_at h with ⟨_, h⟩ | ⟨e, h⟩
        · exact hz j z h
        · rw [h, e, lz]
          exact ⟨x, rfl, hx⟩
      · rintro σ H' ⟨zs, v8, rfl, lz, hz, eL', g'⟩
        have lz : zs.length = m.toNat := lz
        repeat' (walk_at "rd")
        refine fin zs H' _ (by omega) (fun z hm => ?_) (nodup_rel (Nat.le_refl _) hz fun i j z hi hj ⟨x, h1, h2⟩ ⟨y, h3, h4⟩ => ?_) eL' g'
        · obtain ⟨j, hj, e⟩ := List.getElem_of_mem hm
          obtain ⟨x, rfl, hx⟩ := hz j z (by rw [List.getElem?_eq_getElem hj, e])
          exact ⟨Nm.one (a26.2 x (List.mem_of_getElem? hx)), by rw [one_len]; decide⟩
        · have exy : x = y := by
            have := h1.symm.trans h3
            have := congrArg cl this
            rw [cl_one, cl_one] at this
            exact List.head_eq_of_cons_eq this
          subst exy
          have := at_one a26_nd h2 h4
          omega
    · exact ⟨rfl, rfl⟩
    · exact ⟨rfl, rfl⟩
  rintro σ' H' ⟨rfl, eH⟩
  rw [eH]
  clear eH H'
  repeat' (walk_at "rd")
  refine ⟨st, c, 6, rfl, g3.ok, by decide, fun ka H4 ka0 ka1 g4 => ?_⟩
  repeat' (walk_at "rd")
  refine forR (fun i σ H' => ∃ (ah : Str) (v8 : Option V), σ = [some (.ref st), some (.int m), some (.str A26), some (.str A36), some (.int sy), some (.str ⟨#[fx]⟩), some (.ref L), none, v8, none, some (.str ah), none, none, none] ∧ Nm (cl ah) ∧ ah.length = 1 + i ∧
    H' L = some (.lst ((([] : List Str)).map V.str)) ∧ Go st c H H') ⟨⟨#[fx]⟩, none, rfl, Nm.one hfx, rfl, g4.keep _ _ nL eL, g3.trans g4⟩ ?_ ?_
  · rintro i σ H' hi ⟨ah, v8, rfl, na, la, eL', g'⟩
    repeat' (walk_at "rd")
    refine .inl ⟨st, c, A36, rfl, g'.ok, by omega, by omega, fun x H5 hx g5 => ?_⟩
    have hx := a36.2 x hx
    repeat' (walk_at "rd")
    refine ⟨_, _, rfl, ?_, ?_, g5.keep _ _ nL eL', g'.trans g5⟩
    · rw [cl_add, cl_one]
      exact na.snoc hx
    · rw [add_len, one_len]
      omega
  rintro σ H' ⟨ah, v8, rfl, na, la, eL', g'⟩
  have la : ah.length = 1 + ka.toNat := la
  repeat' (walk_at "rd")
  refine .inl ⟨st, c, A36, rfl, g'.ok, by omega, by omega, fun tx H5 htx g5 => ?_⟩
  have htx := a36.2 tx htx
  repeat' (walk_at "rd")
  refine ⟨st, c, 5, rfl, g5.ok, by decide, fun tn H6 tn0 tn1 g6 => ?_⟩
  refine repZ ⟨by rw [one_len]; decide, by omega, by omega⟩ ?_
  repeat' (walk_at "rd")
  refine ⟨st, c, 1296, rfl, g6.ok, by decide, fun s0 H7 s00 s01 g7 => ?_⟩
  repeat' (walk_at "rd")
  intro l hl
  have o7 := (g7.ok.put (g7.ok.off hl) (.lst [.int 1, .int 5, .int 7, .int (36 + 1), .int (1296 - 1)]))
  have el : (upd H7 l (.lst [.int 1, .int 5, .int 7, .int (36 + 1), .int (1296 - 1)])) l = some (.lst [.int 1, .int 5, .int 7, .int (36 + 1), .int (1296 - 1)]) := upd_same
  have g8 := ((g'.trans g5).trans g6).trans g7
  have g9 := g8.new hl (.lst [.int 1, .int 5, .int 7, .int (36 + 1), .int (1296 - 1)])
  have eL9 := same_upd (o := .lst [.int 1, .int 5, .int 7, .int (36 + 1), .int (1296 - 1)]) hl _ _ (g7.keep _ _ nL (g6.keep _ _ nL (g5.keep _ _ nL eL')))
  have nl := (g7.ok.off hl).1
  generalize upd H7 l (.lst [.int 1, .int 5, .int 7, .int (36 + 1), .int (1296 - 1)]) = H8 at *
  repeat' (walk_at "rd")
  refine ⟨st, c, 5, rfl, o7, by decide, fun r H9 r0 r1 g10 => ?_⟩
  obtain ⟨t, ht, et⟩ : ∃ t : Int, (t = 1 ∨ t = 5 ∨ t = 7 ∨ t = 37 ∨ t = 1295) ∧ [V.int 1, .int 5, .int 7, .int (36 + 1), .int (1296 - 1)][r.toNat]? = some (.int t) := by
    obtain rfl | rfl | rfl | rfl | rfl : r = 0 ∨ r = 1 ∨ r = 2 ∨ r = 3 ∨ r = 4 := by omega
    · exact ⟨1, .inl rfl, rfl⟩
    · exact ⟨5, .inr (.inl rfl), rfl⟩
    · exact ⟨7, .inr (.inr (.inl rfl)), rfl⟩
    · exact ⟨37, .inr (.inr (.inr (.inl rfl))), rfl⟩
    · exact ⟨1295, .inr (.inr (.inr (.inr rfl))), rfl⟩
  refine ixN' (.inl (.inl (g10.keep _ _ nl el))) r0 et ?_
  repeat' (walk_at "rd")
  refine forR (fun i σ H' => ∃ (zs : List Str) (tl : Str) (v8 v13 : Option V), σ = [some (.ref st), some (.int m), some (.str A26), some (.str A36), some (.int sy), some (.str ⟨#[fx]⟩), some (.ref L), none, v8, some (.int s0), some (.str ah), some (.str tl), some (.int t), v13] ∧ zs.length = i ∧ (∀ x ∈ cl tl, Aln x) ∧ tl.length ≤ 4 ∧
    (∀ (j : Nat) (z : Str), zs[j]? = some z → ∃ x y tl', z = ah ++ ⟨#[x]⟩ ++ ⟨#[y]⟩ ++ tl' ∧ (∀ x ∈ cl tl', Aln x) ∧ tl'.length ≤ 4 ∧ (cl A36)[(((s0 + ((j : Nat) : Int) * t) % 1296) / 36).toNat]? = some x ∧ (cl A36)[(((s0 + ((j : Nat) : Int) * t) % 1296) % 36).toNat]? = some y) ∧
    H' L = some (.lst (zs.map V.str)) ∧ Go st c H H') ⟨[], _, v8, none, rfl, rfl, (fun x hx => by
      rw [mul_one_cl] at hx
      rw [List.eq_of_mem_replicate hx]
      exact htx), by rw [mul_one_len]; omega, fun j z h => absurd h (by simp), g10.keep _ _ nL eL9, g9.trans g10⟩ ?_ ?_
  · rintro i σ H' hi ⟨zs, tl, v8, v13, rfl, lz, ht4, lt4, hz, eL', g'⟩
    have e0 : (0 : Int) + (i : Int) = (i : Int) := by omega
    have step : ∀ (tl : Str) (G : Hp) (v8 v13 : Option V) (x y : Nat), (∀ x ∈ cl tl, Aln x) → tl.length ≤ 4 → (cl A36)[(((s0 + ((i : Nat) : Int) * t) % 1296) / 36).toNat]? = some x → (cl A36)[(((s0 + ((i : Nat) : Int) * t) % 1296) % 36).toNat]? = some y → G L = some (.lst (zs.map V.str)) → Go st c H G →
        ∃ (zs' : List Str) (tl' : Str) (w8 w13 : Option V), [some (V.ref st), some (.int m), some (.str A26), some (.str A36), some (.int sy), some (.str ⟨#[fx]⟩), some (.ref L), none, v8, some (.int s0), some (.str ah), some (.str tl), some (.int t), v13] = [some (.ref st), some (.int m), some (.str A26), some (.str A36), some (.int sy), some (.str ⟨#[fx]⟩), some (.ref L), none, w8, some (.int s0), some (.str ah), some (.str tl'), some (.int t), w13] ∧ zs'.length = i + 1 ∧ (∀ x ∈ cl tl', Aln x) ∧ tl'.length ≤ 4 ∧
        (∀ (j : Nat) (z : Str), zs'[j]? = some z → ∃ x y tl', z = ah ++ ⟨#[x]⟩ ++ ⟨#[y]⟩ ++ tl' ∧ (∀ x ∈ cl tl', Aln x) ∧ tl'.length ≤ 4 ∧ (cl A36)[(((s0 + ((j : Nat) : Int) * t) % 1296) / 36).toNat]? = some x ∧ (cl A36)[(((s0 + ((j : Nat) : Int) * t) % 1296) % 36).toNat]? = some y) ∧
        (upd G L (.lst (zs.map V.str ++ [V.str (ah ++ ⟨#[x]⟩ ++ ⟨#[y]⟩ ++ tl)]))) L = some (.lst (zs'.map V.str)) ∧ Go st c H (upd G L (.lst (zs.map V.str ++ [V.str (ah ++ ⟨#[x]⟩ ++ ⟨#[y]⟩ ++ tl)]))) := fun tl G v8 v13 x y h1 h2 hx hy eG gG =>
      ⟨zs ++ [ah ++ ⟨#[x]⟩ ++ ⟨#[y]⟩ ++ tl], tl, v8, v13, rfl, by rw [List.length_append, lz]; rfl, h1, h2, fun j z h => by
        rcases snoc_at h with ⟨_, h⟩ | ⟨e, h⟩
        · exact hz j z h
        · rw [h, e, lz]
          exact ⟨x, y, tl, rfl, h1, h2, hx, hy⟩, by rw [List.map_append]; exact upd_same, gG.write fL oL _⟩
    repeat' (walk_at "rd")
    · refine .inl ⟨st, c, A36, rfl, g'.ok, by omega, by omega, fun tx H5 htx g5 => ?_⟩
      have htx := a36.2 tx htx
      repeat' (walk_at "rd")
      refine ⟨st, c, 5, rfl, g5.ok, by decide, fun tn H6 tn0 tn1 g6 => ?_⟩
      refine repZ ⟨by rw [one_len]; decide, by omega, by omega⟩ ?_
      have lm := mul_one_len tx tn
      have eL6 := g6.keep _ _ nL (g5.keep _ _ nL eL')
      repeat' (walk_at "rd")
      rw [e0]
      refine sign (z := A36) (by omega) (by omega) (by omega) fun x hx _ => ?_
      repeat' (walk_at "rd")
      refine sign (z := A36) (by omega) (by omega) (by omega) fun y hy _ => ?_
      repeat' (walk_at "rd")
      refine append (g6.keep _ _ nL (g5.keep _ _ nL eL')) (by rw [List.length_map, lz]; exact sz5' (by omega)) ?_
      repeat' (walk_at "rd")
      refine step _ _ _ _ x y (fun x hx => ?_) (by omega) hx hy (g6.keep _ _ nL (g5.keep _ _ nL eL')) ((g'.trans g5).trans g6)
      rw [mul_one_cl] at hx
      rw [List.eq_of_mem_replicate hx]
      exact htx
    · rw [e0]
      refine sign (z := A36) (by omega) (by omega) (by omega) fun x hx _ => ?_
      repeat' (walk_at "rd")
      refine sign (z := A36) (by omega) (by omega) (by omega) fun y hy _ => ?_
      repeat' (walk_at "rd")
      refine append eL' (by rw [List.length_map, lz]; exact sz5' (by omega)) ?_
      repeat' (walk_at "rd")
      exact step _ _ _ _ x y ht4 lt4 hx hy eL' g'
  · rintro σ H' ⟨zs, tl, v8, v13, rfl, lz, ht4, lt4, hz, eL', g'⟩
    have lz : zs.length = m.toNat := lz
    repeat' (walk_at "rd")
    refine fin zs H' _ (by omega) (fun z hm => ?_) (nodup_rel (Nat.le_refl _) hz fun i j z hi hj ⟨x, y, t1, h1, _, _, h2, h3⟩ ⟨x', y', t2, k1, _, _, k2, k3⟩ => ?_) eL' g'
    · obtain ⟨j, hj, e⟩ := List.getElem_of_mem hm
      obtain ⟨x, y, t1, rfl, h1, h2, h3, h4⟩ := hz j z (by rw [List.getElem?_eq_getElem hj, e])
      have hx := a36.2 x (List.mem_of_getElem? h3)
      have hy := a36.2 y (List.mem_of_getElem? h4)
      refine ⟨?_, ?_⟩
      · rw [cl_add, cl_add, cl_add, cl_one, cl_one]
        exact ((na.snoc hx).snoc hy).app h1
      · rw [add_len, add_len, add_len, one_len, one_len]
        omega
    · have e := congrArg cl (h1.symm.trans k1)
      rw [cl_add, cl_add, cl_add, cl_one, cl_one, cl_add, cl_add, cl_add, cl_one, cl_one, List.append_assoc, List.append_assoc, List.append_assoc, List.append_assoc] at e
      have e := List.append_cancel_left e
      have ex := (List.cons.inj e).1
      have e := (List.cons.inj e).2
      have ey := (List.cons.inj e).1
      have a := at_one a36_nd h2 (by rw [ex]; exact k2)
      have b := at_one a36_nd h3 (by rw [ey]; exact k3)
      have := step_one (s := s0) (t := t) (i := i) (j := j) ht (by omega) (by omega) (by omega) (by omega) (by omega)
      omega
end
end Kj
namespace Kj
open PySem PySem.Spec PyProof.Rows L2 Rd
local macro_rules | `(tactic| walk_at "hp") => `(tactic| first
  | assumption
  | exact upd_same
  | (refine Eq.trans (upd_ne (by first | assumption | (apply Ne.symm; assumption))) ?_; walk_at "hp"))
local macro_rules | `(tactic| walk_at "sq") => `(tactic| first
  | assumption
  | (refine Or.inl (Or.inl ?_); walk_at "hp"))
local macro_rules | `(tactic| walk_at "st") => `(tactic| first
  | assumption
  | (refine Or.inl (Or.inl ?_); walk_at "hp"))
local macro_rules | `(tactic| walk_at "ar") => `(tactic| first
  | assumption
  | omega
  | decide)
local macro_rules | `(tactic| walk_at "ci") => `(tactic| first
  | (refine (show CMul _ _ from Or.inr ⟨?_, ?_⟩) <;> omega)
  | (refine (show CMul _ _ from Or.inl ⟨?_, ?_⟩) <;> omega)
  | (show CPow _ _; exact ⟨by decide, by decide, by decide⟩)
  | (refine wide_div (b := 63) ?_ ?_ (by decide) (by decide) <;> omega)
  | (show (0 : Int) < _; omega))
local macro_rules | `(tactic| walk_at "ty") => `(tactic| first
  | exact dp_ty (by assumption)
  | exact TyX.base (TyOf.int _)
  | exact TyX.base (TyOf.str _)
  | exact TyX.base (TyOf.bl _)
  | exact TyX.base TyOf.non
  | exact tyL' (by walk_at "sq")
  | exact tyT' (by walk_at "st"))
local macro_rules | `(tactic| walk_at "isi") => `(tactic| first
  | ((with_reducible apply Rd.isiF); (walk_at "ty"); (decide))
  | ((with_reducible apply Rd.isiT); (walk_at "ty"); (decide)))
local macro_rules | `(tactic| walk_at "rd") => `(tactic| first
  | with_reducible apply Rd.seq
  | ((with_reducible apply Rd.var); rfl)
  | with_reducible apply Rd.con
  | with_reducible apply Rd.op
  | with_reducible apply Rd.asg
  | ((with_reducible apply Rd.gname); ((dsimp only [List.set, L2.wipe, Int.reduceToNat]) <;> rfl))
  | with_reducible apply Rd.nxt
  | with_reducible apply Rd.ifs
  | with_reducible apply Rd.test
  | with_reducible apply Rd.testB
  | with_reducible apply Rd.exbl
  | with_reducible apply Rd.ret
  | with_reducible apply Rd.drop
  | with_reducible apply Rd.retN
  | with_reducible apply Rd.nil
  | with_reducible apply Rd.cons
  | with_reducible apply Rd.call
  | with_reducible apply Rd.cb
  | with_reducible apply Rd.and
  | with_reducible apply Rd.or
  | with_reducible apply Rd.not
  | with_reducible apply Rd.andV
  | with_reducible apply Rd.orV
  | with_reducible apply Rd.notV
  | with_reducible apply Rd.ife
  | with_reducible apply Rd.tup
  | with_reducible apply Rd.lst
  | with_reducible apply Rd.un
  | with_reducible apply Rd.chain
  | with_reducible apply Rd.brk
  | with_reducible apply Rd.cnt
  | with_reducible apply Rd.I0
  | with_reducible apply Rd.U1
  | ((with_reducible apply Rd.eq); rfl)
  | ((with_reducible apply Rd.ne); rfl)
  | ((with_reducible apply Rd.I1); (walk_at "ci"))
  | with_reducible apply Rd.lc0
  | with_reducible apply Rd.ln0
  | with_reducible apply Rd.exN
  | ((with_reducible apply Rd.iteSf); (decide +kernel))
  | ((with_reducible apply Rd.iteSt); (decide +kernel))
  | ((with_reducible apply Rd.niQ); (exact Or.inl (by walk_at "sq")); (exact ⟨rfl, rfl⟩); (rfl))
  | ((with_reducible apply Rd.inQ); (exact Or.inl (by walk_at "sq")); (exact ⟨rfl, rfl⟩); (rfl))
  | with_reducible apply Rd.rn1
  | with_reducible apply Rd.in1
  | with_reducible apply Rd.sn1
  | with_reducible apply Rd.bn1
  | with_reducible apply Rd.nn1
  | with_reducible apply Rd.rn2
  | with_reducible apply Rd.in2
  | with_reducible apply Rd.sn2
  | with_reducible apply Rd.bn2
  | with_reducible apply Rd.nn2
  | with_reducible apply Rd.nt1
  | with_reducible apply Rd.nf1
  | (with_reducible refine Rd.iteI (fun _ => ?_) (fun _ => ?_))
  | (with_reducible refine Rd.iteNI (fun _ => ?_) (fun _ => ?_))
  | (with_reducible refine iteT ?_)
  | (with_reducible refine iteF ?_)
  | (with_reducible refine Rd.iteD (fun _ => ?_) (fun _ => ?_))
  | (with_reducible refine Rd.iteN (fun _ => ?_) (fun _ => ?_))
  | with_reducible apply Rd.intI
  | with_reducible apply Rd.intB
  | with_reducible apply Rd.maxQ
  | with_reducible apply Rd.minQ
  | with_reducible apply Rd.absQ
  | with_reducible apply Rd.isN
  | with_reducible apply Rd.noN
  | with_reducible apply Rd.ltZ
  | with_reducible apply Rd.bm
  | with_reducible apply Rd.bm0
  | with_reducible apply Rd.par
  | with_reducible apply Rd.expar
  | with_reducible apply Rd.exint
  | with_reducible apply Rd.ipi
  | with_reducible apply Rd.slice
  | with_reducible apply Rd.noPart
  | with_reducible apply Rd.part
  | with_reducible apply Rd.gcons
  | with_reducible apply Rd.gnil
  | with_reducible apply Rd.iseq
  | with_reducible apply Rd.irng1
  | walk_at "isi"
  | with_reducible apply Rd.forX
  | with_reducible apply Rd.lstRev
  | with_reducible apply Rd.lstRg
  | with_reducible apply Rd.rg1
  | with_reducible apply Rd.rg2
  | with_reducible apply Rd.exint2
  | ((with_reducible apply Rd.exrev); (walk_at "sq"))
  | with_reducible apply Rd.lcX
  | with_reducible apply Rd.yes
  | ((with_reducible apply Rd.exrng1); (constructor <;> omega))
  | ((with_reducible apply Rd.exrng2); (refine ⟨?_, ?_, ?_, ?_⟩ <;> omega))
  | with_reducible apply Rd.irng2
  | ((with_reducible apply Rd.aug); rfl)
  | ((with_reducible apply Rd.exlst); (walk_at "sq"))
  | ((with_reducible apply Rd.gtup); (walk_at "st"); (rfl))
  | ((with_reducible apply Rd.tyL); (walk_at "hp"))
  | ((with_reducible apply Rd.ixL); (walk_at "sq"); (rfl))
  | ((with_reducible apply Rd.ixI); (walk_at "sq"); (omega); (first | assumption | (simp only [List.length_map]; omega)); (intro _ _))
  | (with_reducible refine Rd.gsub ?_)
  | ((with_reducible apply Rd.setL); (walk_at "hp"); (rfl); ((dsimp only [List.set, L2.wipe, Int.reduceToNat]) <;> rfl))
  | ((with_reducible apply Rd.lenQ); (first | exact Or.inl (by walk_at "sq") | exact Or.inr (by walk_at "st")))
  | ((with_reducible apply Rd.listQ); (first | exact Or.inl (by walk_at "sq") | exact Or.inr (by walk_at "st")))
  | ((with_reducible apply Rd.tupQ); (walk_at "sq"))
  | ((with_reducible apply Rd.slL); (walk_at "sq"))
  | ((with_reducible apply Rd.ixT); (walk_at "st"); (rfl))
  | (with_reducible refine Rd.iteB (fun _ => ?_) (fun _ => ?_))
  | (with_reducible refine Rd.iteNB (fun _ => ?_) (fun _ => ?_))
  | (refine Rd.andI (Nat.le_of_ble_eq_true rfl) ?_)
  | dsimp only [List.set])
local macro_rules | `(tactic| walk_at "hp") => `(tactic| first
  | assumption
  | exact upd_same
  | (refine Eq.trans (upd_ne (by first | assumption | (apply Ne.symm; assumption))) ?_; walk_at "hp")
  | (refine hpS (by assumption) ?_; walk_at "hp"))
local macro_rules | `(tactic| walk_at "al") => `(tactic| (with_reducible intro l hl; generalize hG : upd _ l _ = G; have hs := newOne hl hG; clear hG; obtain ⟨hs, he⟩ := hs))
local macro_rules | `(tactic| walk_at "rd") => `(tactic| first
  | walk_at "al"
  | ((with_reducible apply Rd.cat); (walk_at "hp"); (walk_at "hp"); (exact Nat.le_of_ble_eq_true rfl)))
local macro_rules | `(tactic| walk_at "sm") => `(tactic| first
  | assumption
  | exact Same.refl _
  | (refine Same.trans ?_ (by assumption); walk_at "sm"))
local macro_rules | `(tactic| walk_at "fr") => `(tactic| first
  | assumption
  | (refine Same.free (by assumption) ?_; walk_at "fr"))
local macro_rules | `(tactic| walk_at "ty") => `(tactic| first
  | exact dv_ty (by assumption)
  | exact tyD' (by walk_at "hp"))
local macro_rules | `(tactic| walk_at "sz") => `(tactic| first
  | exact sz5 (by omega)
  | (simp only [add_len, one_len]; exact sz5 (by omega)))
local macro_rules | `(tactic| walk_at "rd") => `(tactic| first
  | with_reducible apply Rd.istr
  | with_reducible apply Rd.exstr
  | with_reducible apply Rd.leA
  | with_reducible apply Rd.leZz
  | with_reducible apply Rd.le0
  | with_reducible apply Rd.le9
  | with_reducible apply Rd.niZ
  | ((with_reducible apply Rd.lenZ); (walk_at "sz"))
  | ((with_reducible apply Rd.slZ); (walk_at "sz"))
  | ((with_reducible apply Rd.addZ); (walk_at "sz"))
  | with_reducible apply Rd.raiseX
  | with_reducible apply Rd.exone
  | with_reducible apply Rd.callS
  | with_reducible apply Rd.callP
  | with_reducible apply Rd.xsX
  | with_reducible apply Rd.dnewX
  | with_reducible apply Rd.tyZ)
local macro_rules | `(tactic| walk_at "rd") => `(tactic| first
  | with_reducible apply Rd.seq
  | ((with_reducible apply Rd.var); rfl)
  | with_reducible apply Rd.con
  | with_reducible apply Rd.op
  | with_reducible apply Rd.cons
  | with_reducible apply Rd.nil
  | with_reducible apply Rd.asg
  | ((with_reducible apply Rd.gname); ((dsimp only [List.set, L2.wipe, Int.reduceToNat]) <;> rfl))
  | with_reducible apply Rd.nxt
  | with_reducible apply Rd.ifs
  | with_reducible apply Rd.test
  | with_reducible apply Rd.ret
  | with_reducible apply Rd.call
  | with_reducible apply Rd.cb)
open Ty Ln
theorem cr_sortedTSK {X : Cx} {K : PySem.W.Frag} (h : X.K = K) : CallR X (.builtin "sorted") (rSortedTS K) := h ▸ cr_sortedTS
theorem WVs.perm {H : Hp} : ∀ {ys vs : List V}, ys.Perm vs → ∀ {ks : List (List Str)}, WVs H vs ks → ∃ js : List (List Str), WVs H ys js ∧ js.Perm ks := by
  intro ys vs p
  induction p with
  | nil => exact fun {ks} h => ⟨ks, h, .refl _⟩
  | cons x _ ih =>
    intro ks h
    match ks, h with
    | k :: ks, h =>
      obtain ⟨js, a, b⟩ := ih h.2
      exact ⟨k :: js, ⟨h.1, a⟩, b.cons k⟩
  | swap x y l =>
    intro ks h
    match ks, h with
    | k :: j :: ks, h => exact ⟨j :: k :: ks, ⟨h.2.1, h.1, h.2.2⟩, .swap ..⟩
  | trans _ _ ih1 ih2 =>
    intro ks h
    obtain ⟨js, a, b⟩ := ih2 h
    obtain ⟨is, a', b'⟩ := ih1 a
    exact ⟨is, a', b'.trans b⟩
def stO : V → Str
  | .str s => s
  | _ => ""
def kOf (H : Hp) : V → List Str
  | .ref t => match H t with
    | some (.tup ws) => ws.map stO
    | _ => []
  | _ => []
theorem kOf_wv {H : Hp} {v : V} {k : List Str} (h : WV H v k) : kOf H v = k := by
  obtain ⟨_, t, rfl, e⟩ := h
  show (match H t with
    | some (.tup ws) => ws.map stO
    | _ => []) = k
  rw [e]
  show (k.map V.str).map stO = k
  rw [List.map_map]
  exact List.map_id _
def SrtW (ks : List (List Str)) : Prop := ks.Pairwise fun x y => lexS y x = false
theorem wvs_pw {H : Hp} : ∀ {vs : List V} {ks : List (List Str)}, WVs H vs ks → vs.Pairwise (fun x y => lexS (kOf H y) (kOf H x) = false) → SrtW ks
  | [], [], _, _ => .nil
  | v :: vs, k :: ks, h, p => by
    obtain ⟨a, b⟩ := List.pairwise_cons.mp p
    refine List.pairwise_cons.mpr ⟨fun j hj => ?_, wvs_pw h.2 b⟩
    obtain ⟨i, hi⟩ := List.mem_iff_getElem?.mp hj
    have l : i < vs.length := by
      rw [h.2.len]
      exact (List.getElem?_eq_some_iff.mp hi).1
    obtain ⟨j', e, kj⟩ := h.2.at (List.getElem?_eq_getElem l)
    rw [hi] at e
    cases e
    have := a _ (List.getElem_mem l)
    rwa [kOf_wv kj, kOf_wv h.1] at this
  | [], _ :: _, h, _ => h.elim
  | _ :: _, [], h, _ => h.elim
theorem sortW {K : PySem.W.Frag} {H : Hp} {Q : VK} {a : Addr} {ks : List (List Str)} (h : WL H a ks) (ne : ∀ k ∈ ks, k ≠ []) (q : ∀ js p G, js.Perm ks → SrtW js → H p = none → Same H G → WL G p js → Q (.ref p) G) : rSortedTS K [.ref a] H Q := by
  obtain ⟨vs, e, k⟩ := h
  refine ⟨a, vs, kOf H, rfl, .inl (.inl e), fun x m => ?_, fun ys p pw pm n => ?_⟩
  · obtain ⟨k', mk, hk⟩ := k.mem m
    obtain ⟨_, t, rfl, ht⟩ := id hk
    exact ⟨t, rfl, by rw [kOf_wv hk]; exact ne _ mk, by rw [kOf_wv hk]; exact ht⟩
  · obtain ⟨js, hj, pj⟩ := WVs.perm pm k
    exact q js p _ pj (wvs_pw hj pw) n (same_upd n) ⟨ys, upd_same, hj.same (same_upd n)⟩
theorem srtw_one {xs ys : List (List Str)} (p : xs.Perm ys) (h : SrtW xs) (k : SrtW ys) : xs = ys := List.Perm.eq_of_pairwise (le := fun x y => lexS y x = false) (fun a b _ _ h1 h2 => lexS_antisymm h2 h1) h k p
end Kj
namespace Kj
open PySem PySem.Spec PyProof.Rows L2 Rd
local macro_rules | `(tactic| walk_at "hp") => `(tactic| first
  | assumption
  | exact upd_same
  | (refine Eq.trans (upd_ne (by first | assumption | (apply Ne.symm; assumption))) ?_; walk_at "hp"))
local macro_rules | `(tactic| walk_at "sq") => `(tactic| first
  | assumption
  | (refine Or.inl (Or.inl ?_); walk_at "hp"))
local macro_rules | `(tactic| walk_at "st") => `(tactic| first
  | assumption
  | (refine Or.inl (Or.inl ?_); walk_at "hp"))
local macro_rules | `(tactic| walk_at "ar") => `(tactic| first
  | assumption
  | omega
  | decide)
local macro_rules | `(tactic| walk_at "ci") => `(tactic| first
  | (refine (show CMul _ _ from Or.inr ⟨?_, ?_⟩) <;> omega)
  | (refine (show CMul _ _ from Or.inl ⟨?_, ?_⟩) <;> omega)
  | (show CPow _ _; exact ⟨by decide, by decide, by decide⟩)
  | (refine wide_div (b := 63) ?_ ?_ (by decide) (by decide) <;> omega)
  | (show (0 : Int) < _; omega))
local macro_rules | `(tactic| walk_at "ty") => `(tactic| first
  | exact dp_ty (by assumption)
  | exact TyX.base (TyOf.int _)
  | exact TyX.base (TyOf.str _)
  | exact TyX.base (TyOf.bl _)
  | exact TyX.base TyOf.non
  | exact tyL' (by walk_at "sq")
  | exact tyT' (by walk_at "st"))
local macro_rules | `(tactic| walk_at "isi") => `(tactic| first
  | ((with_reducible apply Rd.isiF); (walk_at "ty"); (decide))
  | ((with_reducible apply Rd.isiT); (walk_at "ty"); (decide)))
local macro_rules | `(tactic| walk_at "rd") => `(tactic| first
  | with_reducible apply Rd.seq
  | ((with_reducible apply Rd.var); rfl)
  | with_reducible apply Rd.con
  | with_reducible apply Rd.op
  | with_reducible apply Rd.asg
  | ((with_reducible apply Rd.gname); ((dsimp only [List.set, L2.wipe, Int.reduceToNat]) <;> rfl))
  | with_reducible apply Rd.nxt
  | with_reducible apply Rd.ifs
  | with_reducible apply Rd.test
  | with_reducible apply Rd.testB
  | with_reducible apply Rd.exbl
  | with_reducible apply Rd.ret
  | with_reducible apply Rd.drop
  | with_reducible apply Rd.retN
  | with_reducible apply Rd.nil
  | with_reducible apply Rd.cons
  | with_reducible apply Rd.call
  | with_reducible apply Rd.cb
  | with_reducible apply Rd.and
  | with_reducible apply Rd.or
  | with_reducible apply Rd.not
  | with_reducible apply Rd.andV
  | with_reducible apply Rd.orV
  | with_reducible apply Rd.notV
  | with_reducible apply Rd.ife
  | with_reducible apply Rd.tup
  | with_reducible apply Rd.lst
  | with_reducible apply Rd.un
  | with_reducible apply Rd.chain
  | with_reducible apply Rd.brk
  | with_reducible apply Rd.cnt
  | with_reducible apply Rd.I0
  | with_reducible apply Rd.U1
  | ((with_reducible apply Rd.eq); rfl)
  | ((with_reducible apply Rd.ne); rfl)
  | ((with_reducible apply Rd.I1); (walk_at "ci"))
  | with_reducible apply Rd.lc0
  | with_reducible apply Rd.ln0
  | with_reducible apply Rd.exN
  | ((with_reducible apply Rd.iteSf); (decide +kernel))
  | ((with_reducible apply Rd.iteSt); (decide +kernel))
  | ((with_reducible apply Rd.niQ); (exact Or.inl (by walk_at "sq")); (exact ⟨rfl, rfl⟩); (rfl))
  | ((with_reducible apply Rd.inQ); (exact Or.inl (by walk_at "sq")); (exact ⟨rfl, rfl⟩); (rfl))
  | with_reducible apply Rd.rn1
  | with_reducible apply Rd.in1
  | with_reducible apply Rd.sn1
  | with_reducible apply Rd.bn1
  | with_reducible apply Rd.nn1
  | with_reducible apply Rd.rn2
  | with_reducible apply Rd.in2
  | with_reducible apply Rd.sn2
  | with_reducible apply Rd.bn2
  | with_reducible apply Rd.nn2
  | with_reducible apply Rd.nt1
  | with_reducible apply Rd.nf1
  | (with_reducible refine Rd.iteI (fun _ => ?_) (fun _ => ?_))
  | (with_reducible refine Rd.iteNI (fun _ => ?_) (fun _ => ?_))
  | (with_reducible refine iteT ?_)
  | (with_reducible refine iteF ?_)
  | (with_reducible refine Rd.iteD (fun _ => ?_) (fun _ => ?_))
  | (with_reducible refine Rd.iteN (fun _ => ?_) (fun _ => ?_))
  | with_reducible apply Rd.intI
  | with_reducible apply Rd.intB
  | with_reducible apply Rd.maxQ
  | with_reducible apply Rd.minQ
  | with_reducible apply Rd.absQ
  | with_reducible apply Rd.isN
  | with_reducible apply Rd.noN
  | with_reducible apply Rd.ltZ
  | with_reducible apply Rd.bm
  | with_reducible apply Rd.bm0
  | with_reducible apply Rd.par
  | with_reducible apply Rd.expar
  | with_reducible apply Rd.exint
  | with_reducible apply Rd.ipi
  | with_reducible apply Rd.slice
  | with_reducible apply Rd.noPart
  | with_reducible apply Rd.part
  | with_reducible apply Rd.gcons
  | with_reducible apply Rd.gnil
  | with_reducible apply Rd.iseq
  | with_reducible apply Rd.irng1
  | walk_at "isi"
  | with_reducible apply Rd.forX
  | with_reducible apply Rd.lstRev
  | with_reducible apply Rd.lstRg
  | with_reducible apply Rd.rg1
  | with_reducible apply Rd.rg2
  | with_reducible apply Rd.exint2
  | ((with_reducible apply Rd.exrev); (walk_at "sq"))
  | with_reducible apply Rd.lcX
  | with_reducible apply Rd.yes
  | ((with_reducible apply Rd.exrng1); (constructor <;> omega))
  | ((with_reducible apply Rd.exrng2); (refine ⟨?_, ?_, ?_, ?_⟩ <;> omega))
  | with_reducible apply Rd.irng2
  | ((with_reducible apply Rd.aug); rfl)
  | ((with_reducible apply Rd.exlst); (walk_at "sq"))
  | ((with_reducible apply Rd.gtup); (walk_at "st"); (rfl))
  | ((with_reducible apply Rd.tyL); (walk_at "hp"))
  | ((with_reducible apply Rd.ixL); (walk_at "sq"); (rfl))
  | ((with_reducible apply Rd.ixI); (walk_at "sq"); (omega); (first | assumption | (simp only [List.length_map]; omega)); (intro _ _))
  | (with_reducible refine Rd.gsub ?_)
  | ((with_reducible apply Rd.setL); (walk_at "hp"); (rfl); ((dsimp only [List.set, L2.wipe, Int.reduceToNat]) <;> rfl))
  | ((with_reducible apply Rd.lenQ); (first | exact Or.inl (by walk_at "sq") | exact Or.inr (by walk_at "st")))
  | ((with_reducible apply Rd.listQ); (first | exact Or.inl (by walk_at "sq") | exact Or.inr (by walk_at "st")))
  | ((with_reducible apply Rd.tupQ); (walk_at "sq"))
  | ((with_reducible apply Rd.slL); (walk_at "sq"))
  | ((with_reducible apply Rd.ixT); (walk_at "st"); (rfl))
  | (with_reducible refine Rd.iteB (fun _ => ?_) (fun _ => ?_))
  | (with_reducible refine Rd.iteNB (fun _ => ?_) (fun _ => ?_))
  | (refine Rd.andI (Nat.le_of_ble_eq_true rfl) ?_)
  | dsimp only [List.set])
local macro_rules | `(tactic| walk_at "hp") => `(tactic| first
  | assumption
  | exact upd_same
  | (refine Eq.trans (upd_ne (by first | assumption | (apply Ne.symm; assumption))) ?_; walk_at "hp")
  | (refine hpS (by assumption) ?_; walk_at "hp"))
local macro_rules | `(tactic| walk_at "al") => `(tactic| (with_reducible intro l hl; generalize hG : upd _ l _ = G; have hs := newOne hl hG; clear hG; obtain ⟨hs, he⟩ := hs))
local macro_rules | `(tactic| walk_at "rd") => `(tactic| first
  | walk_at "al"
  | ((with_reducible apply Rd.cat); (walk_at "hp"); (walk_at "hp"); (exact Nat.le_of_ble_eq_true rfl)))
local macro_rules | `(tactic| walk_at "sm") => `(tactic| first
  | assumption
  | exact Same.refl _
  | (refine Same.trans ?_ (by assumption); walk_at "sm"))
local macro_rules | `(tactic| walk_at "fr") => `(tactic| first
  | assumption
  | (refine Same.free (by assumption) ?_; walk_at "fr"))
local macro_rules | `(tactic| walk_at "ty") => `(tactic| first
  | exact dv_ty (by assumption)
  | exact tyD' (by walk_at "hp"))
local macro_rules | `(tactic| walk_at "rd") => `(tactic| first
  | with_reducible apply Rd.seq
  | ((with_reducible apply Rd.var); rfl)
  | with_reducible apply Rd.con
  | with_reducible apply Rd.op
  | with_reducible apply Rd.cons
  | with_reducible apply Rd.nil
  | with_reducible apply Rd.asg
  | ((with_reducible apply Rd.gname); ((dsimp only [List.set, L2.wipe, Int.reduceToNat]) <;> rfl))
  | with_reducible apply Rd.nxt
  | with_reducible apply Rd.ifs
  | with_reducible apply Rd.test
  | with_reducible apply Rd.ret
  | with_reducible apply Rd.call
  | with_reducible apply Rd.cb)
section
variable {P : Program} {w : World} {K : PySem.W.Frag} {mg : Str → Option Value} {base : Heap} {D : Str → Addr}
/-- a value is judged: is it a name -/
def spNamed (K : PySem.W.Frag) : Sp := fun vs H Q _ => ∃ (x : V) (d : PyData), vs = [x] ∧ Dv K H x d ∧ Sz d ∧ ∀ H', Same H H' → Q (.bl (nameD d)) H'
theorem str_cases (d : PyData) : (∃ z, d = .str z) ∨ (nameD d = false ∧ ∀ z, d ≠ .str z) := by
  cases d <;> first | exact .inl ⟨_, rfl⟩ | exact .inr ⟨rfl, fun _ e => by cases e⟩
theorem a26_in {c : Nat} : c ∈ ("abcdefghijklmnopqrstuvwxyz" : Str).cps.toList ↔ Low c := by
  refine ⟨fun h => a26.2 c h, fun h => ?_⟩
  have k : ∀ c, c < 123 → 97 ≤ c → c ∈ ("abcdefghijklmnopqrstuvwxyz" : Str).cps.toList := by decide +kernel
  exact k c (by have := h.2; omega) h.1
theorem a36_in {c : Nat} : c ∈ ("abcdefghijklmnopqrstuvwxyz0123456789" : Str).cps.toList ↔ Aln c := by
  have e : ∀ c ∈ ("abcdefghijklmnopqrstuvwxyz0123456789" : Str).cps.toList, Aln c := by decide +kernel
  refine ⟨fun h => e c h, fun h => ?_⟩
  have k : ∀ c, c < 123 → Aln c → c ∈ ("abcdefghijklmnopqrstuvwxyz0123456789" : Str).cps.toList := by decide +kernel
  refine k c ?_ h
  rcases h with h | h
  · have := h.2
    omega
  · have := h.2
    omega
local macro_rules | `(tactic| walk_at "rd") => `(tactic| first
  | with_reducible apply Rd.istr
  | with_reducible apply Rd.exstr
  | with_reducible apply Rd.leA
  | with_reducible apply Rd.leZz
  | with_reducible apply Rd.le0
  | with_reducible apply Rd.le9
  | with_reducible apply Rd.niZ)
local macro_rules | `(tactic| walk_at "sz") => `(tactic| exact sz5 (by omega))
local macro_rules | `(tactic| walk_at "rd") => `(tactic| ((with_reducible apply Rd.lenZ); (walk_at "sz")))
theorem ok__law_is_name (F : Def K mg "_law_is_name" s__law_is_name P__law_is_name) (m_isinstance : mg "isinstance" = none) (m_str : mg "str" = none) (m_len : mg "len" = none) : Cal P w K mg base 1 "_law_is_name" P__law_is_name (spNamed K) := by
  refine F.ok sc__law_is_name (fun vs H Q E h => ?_) (fun f cdv A outer s H vs Q E hr h => ?_)
  · obtain ⟨x, d, rfl, _⟩ := h
    rfl
  obtain ⟨x, d, rfl, hx, hz, q⟩ := h
  have q0 := q H (.refl H)
  refine ⟨_, (pss_cons (ps_if (PW.pt (pw_or (pt_not (pt_val (pe_callB call_isi (by rfl) m_isinstance bb_isinstance (pa_cons (pv 0 (hd := nd_word) (hcd := nc_word)) (pa_cons (pe_bltn (v := .ty "str") (u := .type "str") (by rfl) m_str bb_str rfl (hn := nn_str) (hd := nd_str)) pa_nil)) (hn := nn_isinstance) (hdb := nd_isinstance)))) (pw_or (pt_cmpR op_lt (pe_callB q_lenZ (by rfl) m_len PySem.boot_len (pa_cons (pv 0 (hd := nd_word) (hcd := nc_word)) pa_nil) (hn := nn_len) (hdb := nd_len)) pe_int (nomark _)) (pw_or1 (pt_cmpR op_gt (pe_callB q_lenZ (by rfl) m_len PySem.boot_len (pa_cons (pv 0 (hd := nd_word) (hcd := nc_word)) pa_nil) (hn := nn_len) (hdb := nd_len)) pe_int (nomark _)))))) (pss_one (ps_ret pe_bl)) pss_nil)
  (pss_cons (ps_if (pt_cmpR o_niZ (pe_ix ix_str (pv 0 (hd := nd_word) (hcd := nc_word)) pe_int (fun _ _ => rfl)) pe_str rfl) (pss_one (ps_ret pe_bl)) pss_nil)
  (pss_cons (ps_for PassesOwn.never rfl (pi_str (pv 0 (hd := nd_word) (hcd := nc_word))) (pg_name (i := 1) sc__law_is_name.nd rfl (Or.inl rfl)) (pss_one (ps_if (pt_cmpR o_niZ (pv 1 (hd := nd_sign) (hcd := nc_sign)) pe_str rfl) (pss_one (ps_ret pe_bl)) pss_nil)))
  (pss_one (ps_ret pe_bl))))), ?_⟩
  refine Rd.at0 (σ := [some x, none]) rfl ?_
  rcases str_cases d with ⟨z, rfl⟩ | ⟨e, ne⟩
  · cases hx
    have lz := hz z rfl
    change Q (.bl (nmB z)) H at q0
    repeat' (walk_at "rd")
    · rw [nmB_big (by omega)] at q0
      exact q0
    · rw [nmB_big (by omega)] at q0
      exact q0
    have l1 : 1 ≤ z.length := by omega
    have l2 : z.length ≤ 12 := by omega
    obtain ⟨c, hc⟩ := nm_head l1
    refine sign (by omega) (by decide) (by omega) fun c' hc' _ => ?_
    obtain rfl : c = c' := Option.some.inj (hc.symm.trans hc')
    repeat' (walk_at "rd")
    · rename_i nc
      rw [nmB_head hc (fun l => nc (a26_in.mpr l))] at q0
      exact q0
    rename_i yc
    have ea := nmB_all l1 l2 hc (a26_in.mp yc)
    refine forZ (fun i σ H' => ∃ v1 : Option V, σ = [some (.str z), v1] ∧ H' = H ∧ ∀ j x, j < i → (cl z)[j]? = some x → Aln x) ⟨none, rfl, rfl, fun _ _ h => absurd h (Nat.not_lt_zero _)⟩ ?_ ?_
    · rintro i x σ H' hx ⟨v1, rfl, rfl, al⟩
      repeat' (walk_at "rd")
      · rename_i nx
        rw [nmB_in (List.mem_of_getElem? hx) (fun l => nx (a36_in.mpr l))] at q0
        exact q0
      · rename_i yx
        refine ⟨_, rfl, rfl, fun j y hj hy => ?_⟩
        rcases Nat.lt_succ_iff_lt_or_eq.mp hj with h | h
        · exact al j y h hy
        · rw [h, hx] at hy
          cases hy
          exact a36_in.mp yx
    · rintro σ H' ⟨v1, rfl, rfl, al⟩
      repeat' (walk_at "rd")
      have : ((cl z).all fun c => decide (Aln c)) = true := List.all_eq_true.mpr fun x hx => by
        obtain ⟨j, hj, e⟩ := List.getElem_of_mem hx
        exact decide_eq_true (al j x (by rw [← cl_len]; exact hj) (by rw [List.getElem?_eq_getElem hj, e]))
      rw [ea, this] at q0
      exact q0
  · rw [e] at q0
    cases hx
    case str z => exact absurd rfl (ne z)
    all_goals
      repeat' (walk_at "rd")
      exact q0
theorem ok_is_name (F : Def K mg "is_name" s_is_name P_is_name) (m_isinstance : mg "isinstance" = none) (m_str : mg "str" = none) (m_len : mg "len" = none) (m_all : mg "all" = none) (c_LONGEST_NAME : ∃ t, mg "LONGEST_NAME" = some (.int 12 t)) : Cal P w K mg base 1 "is_name" P_is_name (spNamed K) := by
  refine F.ok sc_is_name (fun vs H Q E h => ?_) (fun f cdv A outer s H vs Q E hr h => ?_)
  · obtain ⟨x, d, rfl, _⟩ := h
    rfl
  obtain ⟨x, d, rfl, hx, hz, q⟩ := h
  have q0 := q H (.refl H)
  refine ⟨_, (pss_cons (ps_if (PW.pt (pw_or (pt_not (pt_val (pe_callB call_isi (by rfl) m_isinstance bb_isinstance (pa_cons (pv 0 (hd := nd_word) (hcd := nc_word)) (pa_cons (pe_bltn (v := .ty "str") (u := .type "str") (by rfl) m_str bb_str rfl (hn := nn_str) (hd := nd_str)) pa_nil)) (hn := nn_isinstance) (hdb := nd_isinstance)))) (pw_or1 (pt_not (pt_chain op_le op_le pe_int (pe_callB q_lenZ (by rfl) m_len PySem.boot_len (pa_cons (pv 0 (hd := nd_word) (hcd := nc_word)) pa_nil) (hn := nn_len) (hdb := nd_len)) (Ho.pe_const (v := 12) c_LONGEST_NAME (by rfl))))))) (pss_one (ps_ret pe_bl)) pss_nil)
  (pss_one (ps_ret (pe_and (pe_chain o_leZ o_leZ pe_str (pe_ix ix_str (pv 0 (hd := nd_word) (hcd := nc_word)) pe_int (fun _ _ => rfl)) pe_str) (pe_one (pe_callB (cr_allK (K := K) rfl rfl) (by rfl) m_all bb_all (pa_cons (pe_lc (own := [("c", 1)]) (by rfl) sc_is_name.nd (pi_str (pv 0 (hd := nd_word) (hcd := nc_word))) (blkOk_by (N := N_is_name) (sc := defScope s_is_name) (by decide +kernel)) (fun _ _ _ _ _ => (pg_name (i := 1) sc_is_name.nd rfl (Or.inl rfl))) (fun _ _ _ _ _ => pts_nil) (fun _ _ _ _ _ => (pe_or (pe_chain o_leZ o_leZ pe_str (pv 1 (hd := nd_c) (hcd := nc_c)) pe_str) (pe_one (pe_chain o_leZ o_leZ pe_str (pv 1 (hd := nd_c) (hcd := nc_c)) pe_str))))) pa_nil) (hn := nn_all) (hdb := nd_all))))))), ?_⟩
  refine Rd.at0 (σ := [some x, none]) rfl ?_
  rcases str_cases d with ⟨z, rfl⟩ | ⟨e, ne⟩
  · cases hx
    have lz := hz z rfl
    change ∀ H', Same H H' → Q (.bl (nmB z)) H' at q
    change Q (.bl (nmB z)) H at q0
    repeat' (walk_at "rd")
    · rw [nmB_big (by omega)] at q0
      exact q0
    · have l1 : 1 ≤ z.length := by omega
      have l2 : z.length ≤ 12 := by omega
      obtain ⟨c, hc⟩ := nm_head l1
      refine sign (by omega) (by decide) (by omega) fun c' hc' _ => ?_
      obtain rfl : c = c' := Option.some.inj (hc.symm.trans hc')
      repeat' (walk_at "rd")
      · have lo : Low c := ⟨by omega, by omega⟩
        have ea := nmB_all l1 l2 hc lo
        refine lcZ fun L nL => ⟨fun i h => i ≤ z.length ∧ h = upd H L (.lst (((cl z).take i).map fun c => V.bl (decide (Aln c)))), ⟨Nat.zero_le _, rfl⟩, ?_, ?_⟩
        · rintro i x h hx ⟨hi, rfl⟩
          have lt : i + 1 ≤ z.length := by
            rw [← cl_len]
            exact (List.getElem?_eq_some_iff.mp hx).1
          have key : ∀ b, b = decide (Aln x) → upd H L (.lst (((cl z).take i).map (fun c => V.bl (decide (Aln c))) ++ [V.bl b])) = upd H L (.lst (((cl z).take (i + 1)).map fun c => V.bl (decide (Aln c)))) := by
            intro b hb
            rw [List.take_add_one, hx, List.map_append, hb]
            rfl
          have sz : (((cl z).take i).map (fun c => V.bl (decide (Aln c)))).length < sizeLine := by
            rw [List.length_map, List.length_take]
            exact sz5' (by omega)
          refine turn1 ?_
          repeat' (walk_at "rd")
          refine ⟨rfl, ?_⟩
          repeat' (walk_at "rd")
          all_goals
            refine ⟨_, upd_same, sz, lt, ?_⟩
            rw [upd_upd]
            refine key _ ?_
            first
            | exact (decide_eq_true (show Aln x from by unfold Aln Low; omega)).symm
            | exact (decide_eq_false (show ¬ Aln x from by unfold Aln Low; omega)).symm
            | (by_cases y : x ≤ 57
               · rw [decide_eq_true y, decide_eq_true (show Aln x from by unfold Aln Low; omega)]
               · rw [decide_eq_false y, decide_eq_false (show ¬ Aln x from by unfold Aln Low; omega)])
        · rintro h ⟨_, rfl⟩
          rw [List.take_of_length_le (by rw [cl_len]; exact Nat.le_refl _)]
          repeat' (walk_at "rd")
          refine allB (bs := (cl z).map fun c => decide (Aln c)) (.inl (.inl ?_)) ?_
          · rw [List.map_map]
            exact upd_same
          · rw [List.all_map, show ((cl z).all (id ∘ fun c => decide (Aln c))) = nmB z from ea.symm]
            exact q _ (same_upd nL)
      · rw [nmB_head hc (fun l => by have := l.2; omega)] at q0
        exact q0
      · rw [nmB_head hc (fun l => by have := l.1; omega)] at q0
        exact q0
    · rw [nmB_big (by omega)] at q0
      exact q0
  · rw [e] at q0
    cases hx
    case str z => exact absurd rfl (ne z)
    all_goals
      repeat' (walk_at "rd")
      exact q0
end
end Kj
namespace Kj
open PySem PySem.Spec PyProof.Rows L2 Rd
local macro_rules | `(tactic| walk_at "hp") => `(tactic| first
  | assumption
  | exact upd_same
  | (refine Eq.trans (upd_ne (by first | assumption | (apply Ne.symm; assumption))) ?_; walk_at "hp"))
local macro_rules | `(tactic| walk_at "sq") => `(tactic| first
  | assumption
  | (refine Or.inl (Or.inl ?_); walk_at "hp"))
local macro_rules | `(tactic| walk_at "st") => `(tactic| first
  | assumption
  | (refine Or.inl (Or.inl ?_); walk_at "hp"))
local macro_rules | `(tactic| walk_at "ar") => `(tactic| first
  | assumption
  | omega
  | decide)
local macro_rules | `(tactic| walk_at "ci") => `(tactic| first
  | (refine (show CMul _ _ from Or.inr ⟨?_, ?_⟩) <;> omega)
  | (refine (show CMul _ _ from Or.inl ⟨?_, ?_⟩) <;> omega)
  | (show CPow _ _; exact ⟨by decide, by decide, by decide⟩)
  | (refine wide_div (b := 63) ?_ ?_ (by decide) (by decide) <;> omega)
  | (show (0 : Int) < _; omega))
local macro_rules | `(tactic| walk_at "ty") => `(tactic| first
  | exact dp_ty (by assumption)
  | exact TyX.base (TyOf.int _)
  | exact TyX.base (TyOf.str _)
  | exact TyX.base (TyOf.bl _)
  | exact TyX.base TyOf.non
  | exact tyL' (by walk_at "sq")
  | exact tyT' (by walk_at "st"))
local macro_rules | `(tactic| walk_at "isi") => `(tactic| first
  | ((with_reducible apply Rd.isiF); (walk_at "ty"); (decide))
  | ((with_reducible apply Rd.isiT); (walk_at "ty"); (decide)))
local macro_rules | `(tactic| walk_at "rd") => `(tactic| first
  | with_reducible apply Rd.seq
  | ((with_reducible apply Rd.var); rfl)
  | with_reducible apply Rd.con
  | with_reducible apply Rd.op
  | with_reducible apply Rd.asg
  | ((with_reducible apply Rd.gname); ((dsimp only [List.set, L2.wipe, Int.reduceToNat]) <;> rfl))
  | with_reducible apply Rd.nxt
  | with_reducible apply Rd.ifs
  | with_reducible apply Rd.test
  | with_reducible apply Rd.testB
  | with_reducible apply Rd.exbl
  | with_reducible apply Rd.ret
  | with_reducible apply Rd.drop
  | with_reducible apply Rd.retN
  | with_reducible apply Rd.nil
  | with_reducible apply Rd.cons
  | with_reducible apply Rd.call
  | with_reducible apply Rd.cb
  | with_reducible apply Rd.and
  | with_reducible apply Rd.or
  | with_reducible apply Rd.not
  | with_reducible apply Rd.andV
  | with_reducible apply Rd.orV
  | with_reducible apply Rd.notV
  | with_reducible apply Rd.ife
  | with_reducible apply Rd.tup
  | with_reducible apply Rd.lst
  | with_reducible apply Rd.un
  | with_reducible apply Rd.chain
  | with_reducible apply Rd.brk
  | with_reducible apply Rd.cnt
  | with_reducible apply Rd.I0
  | with_reducible apply Rd.U1
  | ((with_reducible apply Rd.eq); rfl)
  | ((with_reducible apply Rd.ne); rfl)
  | ((with_reducible apply Rd.I1); (walk_at "ci"))
  | with_reducible apply Rd.lc0
  | with_reducible apply Rd.ln0
  | with_reducible apply Rd.exN
  | ((with_reducible apply Rd.iteSf); (decide +kernel))
  | ((with_reducible apply Rd.iteSt); (decide +kernel))
  | ((with_reducible apply Rd.niQ); (exact Or.inl (by walk_at "sq")); (exact ⟨rfl, rfl⟩); (rfl))
  | ((with_reducible apply Rd.inQ); (exact Or.inl (by walk_at "sq")); (exact ⟨rfl, rfl⟩); (rfl))
  | with_reducible apply Rd.rn1
  | with_reducible apply Rd.in1
  | with_reducible apply Rd.sn1
  | with_reducible apply Rd.bn1
  | with_reducible apply Rd.nn1
  | with_reducible apply Rd.rn2
  | with_reducible apply Rd.in2
  | with_reducible apply Rd.sn2
  | with_reducible apply Rd.bn2
  | with_reducible apply Rd.nn2
  | with_reducible apply Rd.nt1
  | with_reducible apply Rd.nf1
  | (with_reducible refine Rd.iteI (fun _ => ?_) (fun _ => ?_))
  | (with_reducible refine Rd.iteNI (fun _ => ?_) (fun _ => ?_))
  | (with_reducible refine iteT ?_)
  | (with_reducible refine iteF ?_)
  | (with_reducible refine Rd.iteD (fun _ => ?_) (fun _ => ?_))
  | (with_reducible refine Rd.iteN (fun _ => ?_) (fun _ => ?_))
  | with_reducible apply Rd.intI
  | with_reducible apply Rd.intB
  | with_reducible apply Rd.maxQ
  | with_reducible apply Rd.minQ
  | with_reducible apply Rd.absQ
  | with_reducible apply Rd.isN
  | with_reducible apply Rd.noN
  | with_reducible apply Rd.ltZ
  | with_reducible apply Rd.bm
  | with_reducible apply Rd.bm0
  | with_reducible apply Rd.par
  | with_reducible apply Rd.expar
  | with_reducible apply Rd.exint
  | with_reducible apply Rd.ipi
  | with_reducible apply Rd.slice
  | with_reducible apply Rd.noPart
  | with_reducible apply Rd.part
  | with_reducible apply Rd.gcons
  | with_reducible apply Rd.gnil
  | with_reducible apply Rd.iseq
  | with_reducible apply Rd.irng1
  | walk_at "isi"
  | with_reducible apply Rd.forX
  | with_reducible apply Rd.lstRev
  | with_reducible apply Rd.lstRg
  | with_reducible apply Rd.rg1
  | with_reducible apply Rd.rg2
  | with_reducible apply Rd.exint2
  | ((with_reducible apply Rd.exrev); (walk_at "sq"))
  | with_reducible apply Rd.lcX
  | with_reducible apply Rd.yes
  | ((with_reducible apply Rd.exrng1); (constructor <;> omega))
  | ((with_reducible apply Rd.exrng2); (refine ⟨?_, ?_, ?_, ?_⟩ <;> omega))
  | with_reducible apply Rd.irng2
  | ((with_reducible apply Rd.aug); rfl)
  | ((with_reducible apply Rd.exlst); (walk_at "sq"))
  | ((with_reducible apply Rd.gtup); (walk_at "st"); (rfl))
  | ((with_reducible apply Rd.tyL); (walk_at "hp"))
  | ((with_reducible apply Rd.ixL); (walk_at "sq"); (rfl))
  | ((with_reducible apply Rd.ixI); (walk_at "sq"); (omega); (first | assumption | (simp only [List.length_map]; omega)); (intro _ _))
  | (with_reducible refine Rd.gsub ?_)
  | ((with_reducible apply Rd.setL); (walk_at "hp"); (rfl); ((dsimp only [List.set, L2.wipe, Int.reduceToNat]) <;> rfl))
  | ((with_reducible apply Rd.lenQ); (first | exact Or.inl (by walk_at "sq") | exact Or.inr (by walk_at "st")))
  | ((with_reducible apply Rd.listQ); (first | exact Or.inl (by walk_at "sq") | exact Or.inr (by walk_at "st")))
  | ((with_reducible apply Rd.tupQ); (walk_at "sq"))
  | ((with_reducible apply Rd.slL); (walk_at "sq"))
  | ((with_reducible apply Rd.ixT); (walk_at "st"); (rfl))
  | (with_reducible refine Rd.iteB (fun _ => ?_) (fun _ => ?_))
  | (with_reducible refine Rd.iteNB (fun _ => ?_) (fun _ => ?_))
  | (refine Rd.andI (Nat.le_of_ble_eq_true rfl) ?_)
  | dsimp only [List.set])
local macro_rules | `(tactic| walk_at "hp") => `(tactic| first
  | assumption
  | exact upd_same
  | (refine Eq.trans (upd_ne (by first | assumption | (apply Ne.symm; assumption))) ?_; walk_at "hp")
  | (refine hpS (by assumption) ?_; walk_at "hp"))
local macro_rules | `(tactic| walk_at "al") => `(tactic| (with_reducible intro l hl; generalize hG : upd _ l _ = G; have hs := newOne hl hG; clear hG; obtain ⟨hs, he⟩ := hs))
local macro_rules | `(tactic| walk_at "rd") => `(tactic| first
  | walk_at "al"
  | ((with_reducible apply Rd.cat); (walk_at "hp"); (walk_at "hp"); (exact Nat.le_of_ble_eq_true rfl)))
local macro_rules | `(tactic| walk_at "sm") => `(tactic| first
  | assumption
  | exact Same.refl _
  | (refine Same.trans ?_ (by assumption); walk_at "sm"))
local macro_rules | `(tactic| walk_at "fr") => `(tactic| first
  | assumption
  | (refine Same.free (by assumption) ?_; walk_at "fr"))
local macro_rules | `(tactic| walk_at "ty") => `(tactic| first
  | exact dv_ty (by assumption)
  | exact tyD' (by walk_at "hp"))
local macro_rules | `(tactic| walk_at "sz") => `(tactic| first
  | exact sz5 (by omega)
  | (simp only [add_len, one_len]; exact sz5 (by omega)))
local macro_rules | `(tactic| walk_at "rd") => `(tactic| first
  | with_reducible apply Rd.istr
  | with_reducible apply Rd.exstr
  | with_reducible apply Rd.leA
  | with_reducible apply Rd.leZz
  | with_reducible apply Rd.le0
  | with_reducible apply Rd.le9
  | with_reducible apply Rd.niZ
  | ((with_reducible apply Rd.lenZ); (walk_at "sz"))
  | ((with_reducible apply Rd.slZ); (walk_at "sz"))
  | ((with_reducible apply Rd.addZ); (walk_at "sz"))
  | with_reducible apply Rd.raiseX
  | with_reducible apply Rd.exone
  | with_reducible apply Rd.callS
  | with_reducible apply Rd.callP
  | with_reducible apply Rd.xsX
  | with_reducible apply Rd.dnewX
  | with_reducible apply Rd.tyZ)
local macro_rules | `(tactic| walk_at "rd") => `(tactic| first
  | with_reducible apply Rd.seq
  | ((with_reducible apply Rd.var); rfl)
  | with_reducible apply Rd.con
  | with_reducible apply Rd.op
  | with_reducible apply Rd.cons
  | with_reducible apply Rd.nil
  | with_reducible apply Rd.asg
  | ((with_reducible apply Rd.gname); ((dsimp only [List.set, L2.wipe, Int.reduceToNat]) <;> rfl))
  | with_reducible apply Rd.nxt
  | with_reducible apply Rd.ifs
  | with_reducible apply Rd.test
  | with_reducible apply Rd.ret
  | with_reducible apply Rd.call
  | with_reducible apply Rd.cb)
open Ty
section
variable {P : Program} {w : World} {K : PySem.W.Frag} {mg : Str → Option Value} {base : Heap} {D : Str → Addr}
theorem nodup_le : ∀ {xs ys : List Str}, xs.Nodup → (∀ x ∈ xs, x ∈ ys) → xs.length ≤ ys.length
  | [], _, _, _ => Nat.zero_le _
  | x :: xs, ys, nd, h => by
    have m := h x List.mem_cons_self
    obtain ⟨n, nd⟩ := List.nodup_cons.mp nd
    have := nodup_le (xs := xs) (ys := ys.erase x) nd fun z hz => (List.mem_erase_of_ne (fun e => n (by rw [← e]; exact hz))).mpr (h z (List.mem_cons_of_mem _ hz))
    rw [List.length_erase_of_mem m] at this
    have := List.length_pos_of_mem m
    rw [List.length_cons]
    omega
theorem flt_two (p : Str → Bool) : ∀ ns : List Str, ns.length = (ns.filter p).length + (ns.filter fun n => !p n).length
  | [] => rfl
  | n :: ns => by
    have := flt_two p ns
    rw [List.filter_cons, List.filter_cons]
    cases p n <;> simp <;> omega
theorem more_names {zs ns : List Str} (nd : ns.Nodup) : ns.length ≤ zs.length + (ns.filter fun n => !decide (n ∈ zs)).length := by
  have e := flt_two (fun n => decide (n ∈ zs)) ns
  have l : (ns.filter fun n => decide (n ∈ zs)).length ≤ zs.length := nodup_le (nd.sublist List.filter_sublist) fun x hx => of_decide_eq_true (List.mem_filter.mp hx).2
  omega
theorem fm_not {zs : List Str} : ∀ ns : List Str, ns.filterMap (fun n => ((if n ∈ zs then none else some n : Option Str)).map V.str) = (ns.filter fun n => !decide (n ∈ zs)).map V.str
  | [] => rfl
  | n :: ns => by
    rw [List.filterMap_cons, List.filter_cons, fm_not ns]
    by_cases m : n ∈ zs
    · rw [if_pos m, decide_eq_true m]
      rfl
    · rw [if_neg m, decide_eq_false m]
      rfl
theorem inV_strs {n : Str} : ∀ zs : List Str, inV (.str n) (zs.map V.str) = decide (n ∈ zs) := fun zs => by
  unfold inV
  by_cases m : n ∈ zs
  · rw [decide_eq_true m, List.any_eq_true]
    exact ⟨.str n, List.mem_map.mpr ⟨n, m, rfl⟩, by first | (show decide (n = n) = true; exact decide_eq_true rfl) | exact decide_eq_true rfl | simp [eqV]⟩
  · rw [decide_eq_false m, List.any_eq_false]
    intro v hv
    obtain ⟨z, hz, rfl⟩ := List.mem_map.mp hv
    intro e
    have e : z = n := by first | exact of_decide_eq_true e | simpa [eqV] using e
    exact m (e ▸ hz)
theorem flat_strs (zs : List Str) : (zs.map V.str).all flatV = true := List.all_eq_true.mpr fun v hv => by
  obtain ⟨z, _, rfl⟩ := List.mem_map.mp hv
  rfl
/-- _law_line_names(store, houses, many) -/
def spLineNames : Sp := fun vs H Q _ => ∃ (st c h : Addr) (zs : List Str) (m : Int), vs = [.ref st, .ref h, .int m] ∧ StoreAt H st c ∧ h ≠ st ∧ H h = some (.lst (zs.map V.str)) ∧ zs.length ≤ 1000 ∧ zs.Nodup ∧ (∀ z ∈ zs, NmS z) ∧ 0 ≤ m ∧ m ≤ 1000 ∧
  ∀ (L : Addr) (ns : List Str) (H' : Hp), (ns.length : Int) = m → (∀ z ∈ ns, NmS z) → ns.Nodup → H L = none → Go st c H H' → H' L = some (.lst (ns.map V.str)) → Q (.ref L) H'
theorem ok__law_line_names (F : Def K mg "_law_line_names" s__law_line_names P__law_line_names) (m_list : mg "list" = none) (C__law_take : Cal P w K mg base 1 "_law_take" P__law_take spTake) (C__law_names : Cal P w K mg base 3 "_law_names" P__law_names spNames) : Cal P w K mg base 4 "_law_line_names" P__law_line_names spLineNames := by
  refine F.ok sc__law_line_names (fun vs H Q E h => ?_) (fun f cdv A outer s H vs Q E hr h => ?_)
  · obtain ⟨st, c, h, zs, m, rfl, _⟩ := h
    rfl
  obtain ⟨st, c, h, zs, m, rfl, hs, hst, eh, lz, ndz, mz, m0, m1, q⟩ := h
  refine ⟨_, (pss_cons (ps_set (i := 3) sc__law_line_names.nd rfl (Or.inl rfl) (pe_cal C__law_names hr (pa_cons (pv 0 (hd := nd_store) (hcd := nc_store)) (pa_cons (pv 2 (hd := nd_many) (hcd := nc_many)) pa_nil)) (hdb := nd__law_names)))
  (pss_cons (ps_if (pt_cmpR op_eq (pe_cal C__law_take hr (pa_cons (pv 0 (hd := nd_store) (hcd := nc_store)) (pa_cons pe_int pa_nil)) (hdb := nd__law_take)) pe_int (nomark _)) (pss_one (ps_set (i := 3) sc__law_line_names.nd rfl (Or.inl rfl) (pe_op op_cat (pe_callTy q_list (by rfl) m_list bb_list (pa_cons (pv 1 (hd := nd_houses) (hcd := nc_houses)) pa_nil) (hn := nn_list) (hdb := nd_list)) (pe_lc (own := [("name", 4)]) (by rfl) sc__law_line_names.nd (pi_list (pv 3 (hd := nd_names) (hcd := nc_names))) (blkOk_by (N := N__law_line_names) (sc := defScope s__law_line_names) (by decide +kernel)) (fun _ _ _ _ _ => (pg_name (i := 4) sc__law_line_names.nd rfl (Or.inl rfl))) (fun _ _ _ _ _ => (pts_one (pt_cmpR (op_notIn_seqK (K := K) rfl) (pv 4 (hd := nd_name) (hcd := nc_name)) (pv 1 (hd := nd_houses) (hcd := nc_houses)) (by rfl)))) (fun _ _ _ _ _ => (pv 4 (hd := nd_name) (hcd := nc_name))))))) pss_nil)
  (pss_one (ps_ret (pe_slice sl_list (pv 3 (hd := nd_names) (hcd := nc_names)) po_none (po_some (pv 2 (hd := nd_many) (hcd := nc_many)))))))), ?_⟩
  refine Rd.at0 (σ := [some (.ref st), some (.ref h), some (.int m), none, none]) rfl ?_
  repeat' (walk_at "rd")
  refine ⟨st, c, m, rfl, hs, m0, m1, fun L ns H1 ln mn nd fL g1 eL => ?_⟩
  repeat' (walk_at "rd")
  refine ⟨st, c, 4, rfl, g1.ok, by decide, fun r H2 r0 r1 g2 => ?_⟩
  have g12 := g1.trans g2
  have eh2 := g12.keep h _ hst eh
  have eL2 := g2.keep L _ (hs.off fL).1 eL
  have ln' : (ns.map V.str).length = ns.length := List.length_map ..
  obtain ⟨k, rfl⟩ : ∃ k : Nat, m = k := ⟨m.toNat, by omega⟩
  repeat' (walk_at "rd")
  · rename_i l1 p1 G1 s1 e1
    have eh3 := s1 _ _ eh2
    have eL3 := s1 _ _ eL2
    refine lcF (ns.map V.str) (fun i => (ns[i]?.bind fun n => if n ∈ zs then none else some n).map V.str) (.inl (.inl eL3)) (by omega) (fun i v h' hv s => ?_) fun L4 G4 n4 s4 e4 => ?_
    · intro L5 Nx yes no
      rw [List.getElem?_map] at hv
      obtain ⟨n, hn, rfl⟩ := Option.map_eq_some_iff.mp hv
      have ei : ((ns[i]?.bind fun n => if n ∈ zs then none else some n).map V.str) = (if n ∈ zs then none else some n : Option Str).map V.str := by
        rw [hn]
        rfl
      have eh' := s _ _ eh3
      refine turn1 ?_
      repeat' (walk_at "rd")
      refine ⟨rfl, ?_⟩
      repeat' (walk_at "rd")
      refine ⟨h, _, rfl, .inl (.inl (.inl eh')), rfl, flat_strs zs, ?_⟩
      rw [if_pos rfl, inV_strs]
      by_cases mm : n ∈ zs
      · rw [if_pos mm] at ei
        rw [decide_eq_true mm]
        repeat' (walk_at "rd")
        exact no _ ei (.refl _)
      · rw [if_neg mm] at ei
        rw [decide_eq_false mm]
        repeat' (walk_at "rd")
        exact yes _ _ ei (.refl _)
    · have ef : (List.range (ns.map V.str).length).filterMap (fun i => (ns[i]?.bind fun n => if n ∈ zs then none else some n).map V.str) = (ns.filter fun n => !decide (n ∈ zs)).map V.str := by
        rw [ln', ← fm_not]
        exact fm_at fun i h => by rw [List.getElem?_eq_getElem h]; rfl
      rw [ef] at e4
      have lf := List.length_filter_le (fun n => !decide (n ∈ zs)) ns
      have mo := more_names (zs := zs) nd
      refine cat (s4 _ _ e1) e4 (sz5 (by rw [List.length_map, List.length_map]; omega)) ?_
      rw [← List.map_append]
      repeat' (walk_at "rd")
      rename_i l6 p6 G6 s6 e6 l7 p7 G7 s7 e7
      rw [cut_to, ← List.map_take] at e7
      have t : Same H2 G7 := ((s1.trans s4).trans s6).trans s7
      refine q l7 _ G7 ?_ (fun z hz => ?_) ?_ (g12.free (((s1.trans s4).trans s6).free p7)) (g12.same t) e7
      · rw [List.length_take, List.length_append]
        omega
      · rcases List.mem_append.mp (List.mem_of_mem_take hz) with hz | hz
        · exact mz z hz
        · exact mn z (List.mem_filter.mp hz).1
      · refine List.Nodup.sublist (List.take_sublist _ _) (List.nodup_append.mpr ⟨ndz, nd.sublist List.filter_sublist, fun a ha b hb e => ?_⟩)
        have := (List.mem_filter.mp hb).2
        rw [← e, decide_eq_true ha] at this
        cases this
  · rename_i l1 p1 G1 s1 e1
    rw [cut_to, List.take_of_length_le (by omega)] at e1
    exact q l1 ns G1 ln mn nd (g12.free p1) (g12.same s1) e1
end
end Kj
namespace Kj
open PySem PySem.Spec PyProof.Rows L2 Rd
local macro_rules | `(tactic| walk_at "hp") => `(tactic| first
  | assumption
  | exact upd_same
  | (refine Eq.trans (upd_ne (by first | assumption | (apply Ne.symm; assumption))) ?_; walk_at "hp"))
local macro_rules | `(tactic| walk_at "sq") => `(tactic| first
  | assumption
  | (refine Or.inl (Or.inl ?_); walk_at "hp"))
local macro_rules | `(tactic| walk_at "st") => `(tactic| first
  | assumption
  | (refine Or.inl (Or.inl ?_); walk_at "hp"))
local macro_rules | `(tactic| walk_at "ar") => `(tactic| first
  | assumption
  | omega
  | decide)
local macro_rules | `(tactic| walk_at "ci") => `(tactic| first
  | (refine (show CMul _ _ from Or.inr ⟨?_, ?_⟩) <;> omega)
  | (refine (show CMul _ _ from Or.inl ⟨?_, ?_⟩) <;> omega)
  | (show CPow _ _; exact ⟨by decide, by decide, by decide⟩)
  | (refine wide_div (b := 63) ?_ ?_ (by decide) (by decide) <;> omega)
  | (show (0 : Int) < _; omega))
local macro_rules | `(tactic| walk_at "ty") => `(tactic| first
  | exact dp_ty (by assumption)
  | exact TyX.base (TyOf.int _)
  | exact TyX.base (TyOf.str _)
  | exact TyX.base (TyOf.bl _)
  | exact TyX.base TyOf.non
  | exact tyL' (by walk_at "sq")
  | exact tyT' (by walk_at "st"))
local macro_rules | `(tactic| walk_at "isi") => `(tactic| first
  | ((with_reducible apply Rd.isiF); (walk_at "ty"); (decide))
  | ((with_reducible apply Rd.isiT); (walk_at "ty"); (decide)))
local macro_rules | `(tactic| walk_at "rd") => `(tactic| first
  | with_reducible apply Rd.seq
  | ((with_reducible apply Rd.var); rfl)
  | with_reducible apply Rd.con
  | with_reducible apply Rd.op
  | with_reducible apply Rd.asg
  | ((with_reducible apply Rd.gname); ((dsimp only [List.set, L2.wipe, Int.reduceToNat]) <;> rfl))
  | with_reducible apply Rd.nxt
  | with_reducible apply Rd.ifs
  | with_reducible apply Rd.test
  | with_reducible apply Rd.testB
  | with_reducible apply Rd.exbl
  | with_reducible apply Rd.ret
  | with_reducible apply Rd.drop
  | with_reducible apply Rd.retN
  | with_reducible apply Rd.nil
  | with_reducible apply Rd.cons
  | with_reducible apply Rd.call
  | with_reducible apply Rd.cb
  | with_reducible apply Rd.and
  | with_reducible apply Rd.or
  | with_reducible apply Rd.not
  | with_reducible apply Rd.andV
  | with_reducible apply Rd.orV
  | with_reducible apply Rd.notV
  | with_reducible apply Rd.ife
  | with_reducible apply Rd.tup
  | with_reducible apply Rd.lst
  | with_reducible apply Rd.un
  | with_reducible apply Rd.chain
  | with_reducible apply Rd.brk
  | with_reducible apply Rd.cnt
  | with_reducible apply Rd.I0
  | with_reducible apply Rd.U1
  | ((with_reducible apply Rd.eq); rfl)
  | ((with_reducible apply Rd.ne); rfl)
  | ((with_reducible apply Rd.I1); (walk_at "ci"))
  | with_reducible apply Rd.lc0
  | with_reducible apply Rd.ln0
  | with_reducible apply Rd.exN
  | ((with_reducible apply Rd.iteSf); (decide +kernel))
  | ((with_reducible apply Rd.iteSt); (decide +kernel))
  | ((with_reducible apply Rd.niQ); (exact Or.inl (by walk_at "sq")); (exact ⟨rfl, rfl⟩); (rfl))
  | ((with_reducible apply Rd.inQ); (exact Or.inl (by walk_at "sq")); (exact ⟨rfl, rfl⟩); (rfl))
  | with_reducible apply Rd.rn1
  | with_reducible apply Rd.in1
  | with_reducible apply Rd.sn1
  | with_reducible apply Rd.bn1
  | with_reducible apply Rd.nn1
  | with_reducible apply Rd.rn2
  | with_reducible apply Rd.in2
  | with_reducible apply Rd.sn2
  | with_reducible apply Rd.bn2
  | with_reducible apply Rd.nn2
  | with_reducible apply Rd.nt1
  | with_reducible apply Rd.nf1
  | (with_reducible refine Rd.iteI (fun _ => ?_) (fun _ => ?_))
  | (with_reducible refine Rd.iteNI (fun _ => ?_) (fun _ => ?_))
  | (with_reducible refine iteT ?_)
  | (with_reducible refine iteF ?_)
  | (with_reducible refine Rd.iteD (fun _ => ?_) (fun _ => ?_))
  | (with_reducible refine Rd.iteN (fun _ => ?_) (fun _ => ?_))
  | with_reducible apply Rd.intI
  | with_reducible apply Rd.intB
  | with_reducible apply Rd.maxQ
  | with_reducible apply Rd.minQ
  | with_reducible apply Rd.absQ
  | with_reducible apply Rd.isN
  | with_reducible apply Rd.noN
  | with_reducible apply Rd.ltZ
  | with_reducible apply Rd.bm
  | with_reducible apply Rd.bm0
  | with_reducible apply Rd.par
  | with_reducible apply Rd.expar
  | with_reducible apply Rd.exint
  | with_reducible apply Rd.ipi
  | with_reducible apply Rd.slice
  | with_reducible apply Rd.noPart
  | with_reducible apply Rd.part
  | with_reducible apply Rd.gcons
  | with_reducible apply Rd.gnil
  | with_reducible apply Rd.iseq
  | with_reducible apply Rd.irng1
  | walk_at "isi"
  | with_reducible apply Rd.forX
  | with_reducible apply Rd.lstRev
  | with_reducible apply Rd.lstRg
  | with_reducible apply Rd.rg1
  | with_reducible apply Rd.rg2
  | with_reducible apply Rd.exint2
  | ((with_reducible apply Rd.exrev); (walk_at "sq"))
  | with_reducible apply Rd.lcX
  | with_reducible apply Rd.yes
  | ((with_reducible apply Rd.exrng1); (constructor <;> omega))
  | ((with_reducible apply Rd.exrng2); (refine ⟨?_, ?_, ?_, ?_⟩ <;> omega))
  | with_reducible apply Rd.irng2
  | ((with_reducible apply Rd.aug); rfl)
  | ((with_reducible apply Rd.exlst); (walk_at "sq"))
  | ((with_reducible apply Rd.gtup); (walk_at "st"); (rfl))
  | ((with_reducible apply Rd.tyL); (walk_at "hp"))
  | ((with_reducible apply Rd.ixL); (walk_at "sq"); (rfl))
  | ((with_reducible apply Rd.ixI); (walk_at "sq"); (omega); (first | assumption | (simp only [List.length_map]; omega)); (intro _ _))
  | (with_reducible refine Rd.gsub ?_)
  | ((with_reducible apply Rd.setL); (walk_at "hp"); (rfl); ((dsimp only [List.set, L2.wipe, Int.reduceToNat]) <;> rfl))
  | ((with_reducible apply Rd.lenQ); (first | exact Or.inl (by walk_at "sq") | exact Or.inr (by walk_at "st")))
  | ((with_reducible apply Rd.listQ); (first | exact Or.inl (by walk_at "sq") | exact Or.inr (by walk_at "st")))
  | ((with_reducible apply Rd.tupQ); (walk_at "sq"))
  | ((with_reducible apply Rd.slL); (walk_at "sq"))
  | ((with_reducible apply Rd.ixT); (walk_at "st"); (rfl))
  | (with_reducible refine Rd.iteB (fun _ => ?_) (fun _ => ?_))
  | (with_reducible refine Rd.iteNB (fun _ => ?_) (fun _ => ?_))
  | (refine Rd.andI (Nat.le_of_ble_eq_true rfl) ?_)
  | dsimp only [List.set])
local macro_rules | `(tactic| walk_at "hp") => `(tactic| first
  | assumption
  | exact upd_same
  | (refine Eq.trans (upd_ne (by first | assumption | (apply Ne.symm; assumption))) ?_; walk_at "hp")
  | (refine hpS (by assumption) ?_; walk_at "hp"))
local macro_rules | `(tactic| walk_at "al") => `(tactic| (with_reducible intro l hl; generalize hG : upd _ l _ = G; have hs := newOne hl hG; clear hG; obtain ⟨hs, he⟩ := hs))
local macro_rules | `(tactic| walk_at "rd") => `(tactic| first
  | walk_at "al"
  | ((with_reducible apply Rd.cat); (walk_at "hp"); (walk_at "hp"); (exact Nat.le_of_ble_eq_true rfl)))
local macro_rules | `(tactic| walk_at "sm") => `(tactic| first
  | assumption
  | exact Same.refl _
  | (refine Same.trans ?_ (by assumption); walk_at "sm"))
local macro_rules | `(tactic| walk_at "fr") => `(tactic| first
  | assumption
  | (refine Same.free (by assumption) ?_; walk_at "fr"))
local macro_rules | `(tactic| walk_at "ty") => `(tactic| first
  | exact dv_ty (by assumption)
  | exact tyD' (by walk_at "hp"))
local macro_rules | `(tactic| walk_at "sz") => `(tactic| first
  | exact sz5 (by omega)
  | (simp only [add_len, one_len]; exact sz5 (by omega)))
local macro_rules | `(tactic| walk_at "rd") => `(tactic| first
  | with_reducible apply Rd.istr
  | with_reducible apply Rd.exstr
  | with_reducible apply Rd.leA
  | with_reducible apply Rd.leZz
  | with_reducible apply Rd.le0
  | with_reducible apply Rd.le9
  | with_reducible apply Rd.niZ
  | ((with_reducible apply Rd.lenZ); (walk_at "sz"))
  | ((with_reducible apply Rd.slZ); (walk_at "sz"))
  | ((with_reducible apply Rd.addZ); (walk_at "sz"))
  | with_reducible apply Rd.raiseX
  | with_reducible apply Rd.exone
  | with_reducible apply Rd.callS
  | with_reducible apply Rd.callP
  | with_reducible apply Rd.xsX
  | with_reducible apply Rd.dnewX
  | with_reducible apply Rd.tyZ)
local macro_rules | `(tactic| walk_at "rd") => `(tactic| first
  | with_reducible apply Rd.seq
  | ((with_reducible apply Rd.var); rfl)
  | with_reducible apply Rd.con
  | with_reducible apply Rd.op
  | with_reducible apply Rd.cons
  | with_reducible apply Rd.nil
  | with_reducible apply Rd.asg
  | ((with_reducible apply Rd.gname); ((dsimp only [List.set, L2.wipe, Int.reduceToNat]) <;> rfl))
  | with_reducible apply Rd.nxt
  | with_reducible apply Rd.ifs
  | with_reducible apply Rd.test
  | with_reducible apply Rd.ret
  | with_reducible apply Rd.call
  | with_reducible apply Rd.cb)
section
variable {P : Program} {w : World} {K : PySem.W.Frag} {mg : Str → Option Value} {base : Heap}
/-- _law_is_integer(v) of a value of plain data -/
def isI : PyData → Bool
  | .int _ => true
  | _ => false
def spIsInt (K : PySem.W.Frag) : Sp := fun vs H Q _ => ∃ (x : V) (d : PyData), vs = [x] ∧ Dv K H x d ∧ Q (.bl (isI d)) H
theorem ok__law_is_integer (F : Def K mg "_law_is_integer" s__law_is_integer P__law_is_integer) (m_isinstance : mg "isinstance" = none) (m_int : mg "int" = none) (m_bool : mg "bool" = none) : Cal P w K mg base 1 "_law_is_integer" P__law_is_integer (spIsInt K) := by
  refine F.ok sc__law_is_integer (fun vs H Q E h => ?_) (fun f cdv A outer s H vs Q E hr h => ?_)
  · obtain ⟨x, d, rfl, _⟩ := h
    rfl
  obtain ⟨x, d, rfl, hx, q⟩ := h
  refine ⟨_, (pss_one (ps_ret (pe_and (pe_callB call_isi (by rfl) m_isinstance bb_isinstance (pa_cons (pv 0 (hd := nd_value) (hcd := nc_value)) (pa_cons (pe_bltn (v := .ty "int") (u := .type "int") (by rfl) m_int bb_int rfl (hn := nn_int) (hd := nd_int)) pa_nil)) (hn := nn_isinstance) (hdb := nd_isinstance)) (pe_one (pe_not (pe_callB call_isi (by rfl) m_isinstance bb_isinstance (pa_cons (pv 0 (hd := nd_value) (hcd := nc_value)) (pa_cons (pe_bltn (v := .ty "bool") (u := .type "bool") (by rfl) m_bool bb_bool rfl (hn := nn_bool) (hd := nd_bool)) pa_nil)) (hn := nn_isinstance) (hdb := nd_isinstance))))))), ?_⟩
  refine Rd.at0 (σ := [some x]) rfl ?_
  cases hx
  all_goals
    repeat' (walk_at "rd")
    exact q
end
section
variable {P : Program} {w : World} {K : PySem.W.Frag} {mg : Str → Option Value} {base : Heap}
/-- _law_same(one, two) of two values that hold the same data: True -/
def spSame (K : PySem.W.Frag) (n : Nat) : Sp := fun vs H Q _ => ∃ (x y : V) (d : PyData) (m : Nat), n = m + 1 ∧ vs = [x, y] ∧ Dv K H x d ∧ Dv K H y d ∧ Fd m d ∧ ∀ H', Same H H' → Q (.bl true) H'
theorem same_turn {K : PySem.W.Frag} {n : Nat} {H : Hp} {xs ys : List V} {ds : List PyData} {i : Nat} (h1 : DvAll K H xs ds) (h2 : DvAll K H ys ds) (hf : ∀ d ∈ ds, Fd n d) (hi : i < xs.length) :
    ∃ (x y : V) (d : PyData), xs[(0 + (i : Int)).toNat]? = some x ∧ ys[(0 + (i : Int)).toNat]? = some y ∧ Dv K H x d ∧ Dv K H y d ∧ Fd n d := by
  rw [show (0 + (i : Int)).toNat = i by omega]
  have hl : i < ds.length := by rw [← va_len h1]; exact hi
  have e := List.getElem?_eq_getElem hl
  obtain ⟨x, ex, dx⟩ := va_at _ _ _ _ h1 e
  obtain ⟨y, ey, dy⟩ := va_at _ _ _ _ h2 e
  exact ⟨x, y, _, ex, ey, dx, dy, hf _ (List.getElem_mem hl)⟩
local macro_rules | `(tactic| walk_at "rd") => `(tactic| first
  | ((with_reducible apply Rd.lenAs); (first | exact Or.inl (by walk_at "sq") | exact Or.inr (by walk_at "st")))
  | ((with_reducible apply Rd.lenAd); (walk_at "hp"))
  | ((with_reducible apply Rd.listDk); (walk_at "hp"); (rfl))
  | with_reducible apply Rd.din
  | with_reducible apply Rd.dget
  | with_reducible apply Rd.someF)
set_option maxHeartbeats 4000000 in
theorem ok_same1 {n : Nat} (F : Def K mg "_law_same" s__law_same P__law_same) (m_isinstance : mg "isinstance" = none) (m_bool : mg "bool" = none) (m_int : mg "int" = none) (m_str : mg "str" = none) (m_dict : mg "dict" = none) (m_len : mg "len" = none) (m_list : mg "list" = none) (m_tuple : mg "tuple" = none) (m_range : mg "range" = none) (C__law_is_integer : Cal P w K mg base 1 "_law_is_integer" P__law_is_integer (spIsInt K)) (C__law_same : Cal P w K mg base (n + 1) "_law_same" P__law_same (spSame K n)) : Cal P w K mg base (n + 2) "_law_same" P__law_same (spSame K (n + 1)) := by
  refine F.ok sc__law_same (fun vs H Q E h => ?_) (fun f cdv A outer s H vs Q E hr h => ?_)
  · obtain ⟨x, y, d, m, _, rfl, _⟩ := h
    rfl
  obtain ⟨x, y, d, m, hn, rfl, hx, hy, hf, q⟩ := h
  obtain rfl : n = m := by omega
  have q0 := q H (.refl H)
  refine ⟨_, (pss_cons (ps_if (PW.pt (pw_or (pt_cmpR o_isN (pv 0 (hd := nd_one) (hcd := nc_one)) pe_non (nomark _)) (pw_or1 (pt_cmpR o_isN (pv 1 (hd := nd_two) (hcd := nc_two)) pe_non (nomark _))))) (pss_one (ps_ret (pe_and (pe_cmpR o_isN (pv 0 (hd := nd_one) (hcd := nc_one)) pe_non (nomark _)) (pe_one (pe_cmpR o_isN (pv 1 (hd := nd_two) (hcd := nc_two)) pe_non (nomark _)))))) pss_nil)
  (pss_cons (ps_if (PW.pt (pw_or (pt_val (pe_callB call_isi (by rfl) m_isinstance bb_isinstance (pa_cons (pv 0 (hd := nd_one) (hcd := nc_one)) (pa_cons (pe_bltn (v := .ty "bool") (u := .type "bool") (by rfl) m_bool bb_bool rfl (hn := nn_bool) (hd := nd_bool)) pa_nil)) (hn := nn_isinstance) (hdb := nd_isinstance))) (pw_or1 (pt_val (pe_callB call_isi (by rfl) m_isinstance bb_isinstance (pa_cons (pv 1 (hd := nd_two) (hcd := nc_two)) (pa_cons (pe_bltn (v := .ty "bool") (u := .type "bool") (by rfl) m_bool bb_bool rfl (hn := nn_bool) (hd := nd_bool)) pa_nil)) (hn := nn_isinstance) (hdb := nd_isinstance)))))) (pss_one (ps_ret (pe_and (pe_callB call_isi (by rfl) m_isinstance bb_isinstance (pa_cons (pv 0 (hd := nd_one) (hcd := nc_one)) (pa_cons (pe_bltn (v := .ty "bool") (u := .type "bool") (by rfl) m_bool bb_bool rfl (hn := nn_bool) (hd := nd_bool)) pa_nil)) (hn := nn_isinstance) (hdb := nd_isinstance)) (pe_and (pe_callB call_isi (by rfl) m_isinstance bb_isinstance (pa_cons (pv 1 (hd := nd_two) (hcd := nc_two)) (pa_cons (pe_bltn (v := .ty "bool") (u := .type "bool") (by rfl) m_bool bb_bool rfl (hn := nn_bool) (hd := nd_bool)) pa_nil)) (hn := nn_isinstance) (hdb := nd_isinstance)) (pe_one (pe_cmpR op_eq (pv 0) (pv 1) (nomark _))))))) pss_nil)
  (pss_cons (ps_if (PW.pt (pw_or (pt_val (pe_callB call_isi (by rfl) m_isinstance bb_isinstance (pa_cons (pv 0 (hd := nd_one) (hcd := nc_one)) (pa_cons (pe_bltn (v := .ty "int") (u := .type "int") (by rfl) m_int bb_int rfl (hn := nn_int) (hd := nd_int)) pa_nil)) (hn := nn_isinstance) (hdb := nd_isinstance))) (pw_or1 (pt_val (pe_callB call_isi (by rfl) m_isinstance bb_isinstance (pa_cons (pv 1 (hd := nd_two) (hcd := nc_two)) (pa_cons (pe_bltn (v := .ty "int") (u := .type "int") (by rfl) m_int bb_int rfl (hn := nn_int) (hd := nd_int)) pa_nil)) (hn := nn_isinstance) (hdb := nd_isinstance)))))) (pss_one (ps_ret (pe_and (pe_callB call_isi (by rfl) m_isinstance bb_isinstance (pa_cons (pv 0 (hd := nd_one) (hcd := nc_one)) (pa_cons (pe_bltn (v := .ty "int") (u := .type "int") (by rfl) m_int bb_int rfl (hn := nn_int) (hd := nd_int)) pa_nil)) (hn := nn_isinstance) (hdb := nd_isinstance)) (pe_and (pe_callB call_isi (by rfl) m_isinstance bb_isinstance (pa_cons (pv 1 (hd := nd_two) (hcd := nc_two)) (pa_cons (pe_bltn (v := .ty "int") (u := .type "int") (by rfl) m_int bb_int rfl (hn := nn_int) (hd := nd_int)) pa_nil)) (hn := nn_isinstance) (hdb := nd_isinstance)) (pe_one (pe_cmpR op_eq (pv 0) (pv 1) (nomark _))))))) pss_nil)
  (pss_cons (ps_if (PW.pt (pw_or (pt_val (pe_callB call_isi (by rfl) m_isinstance bb_isinstance (pa_cons (pv 0 (hd := nd_one) (hcd := nc_one)) (pa_cons (pe_bltn (v := .ty "str") (u := .type "str") (by rfl) m_str bb_str rfl (hn := nn_str) (hd := nd_str)) pa_nil)) (hn := nn_isinstance) (hdb := nd_isinstance))) (pw_or1 (pt_val (pe_callB call_isi (by rfl) m_isinstance bb_isinstance (pa_cons (pv 1 (hd := nd_two) (hcd := nc_two)) (pa_cons (pe_bltn (v := .ty "str") (u := .type "str") (by rfl) m_str bb_str rfl (hn := nn_str) (hd := nd_str)) pa_nil)) (hn := nn_isinstance) (hdb := nd_isinstance)))))) (pss_one (ps_ret (pe_and (pe_callB call_isi (by rfl) m_isinstance bb_isinstance (pa_cons (pv 0 (hd := nd_one) (hcd := nc_one)) (pa_cons (pe_bltn (v := .ty "str") (u := .type "str") (by rfl) m_str bb_str rfl (hn := nn_str) (hd := nd_str)) pa_nil)) (hn := nn_isinstance) (hdb := nd_isinstance)) (pe_and (pe_callB call_isi (by rfl) m_isinstance bb_isinstance (pa_cons (pv 1 (hd := nd_two) (hcd := nc_two)) (pa_cons (pe_bltn (v := .ty "str") (u := .type "str") (by rfl) m_str bb_str rfl (hn := nn_str) (hd := nd_str)) pa_nil)) (hn := nn_isinstance) (hdb := nd_isinstance)) (pe_one (pe_cmpR op_eq (pv 0) (pv 1) (nomark _))))))) pss_nil)
  (pss_cons (ps_if (PW.pt (pw_or (pt_val (pe_callB call_isi (by rfl) m_isinstance bb_isinstance (pa_cons (pv 0 (hd := nd_one) (hcd := nc_one)) (pa_cons (pe_bltn (v := .ty "dict") (u := .type "dict") (by rfl) m_dict bb_dict rfl (hn := nn_dict) (hd := nd_dict)) pa_nil)) (hn := nn_isinstance) (hdb := nd_isinstance))) (pw_or1 (pt_val (pe_callB call_isi (by rfl) m_isinstance bb_isinstance (pa_cons (pv 1 (hd := nd_two) (hcd := nc_two)) (pa_cons (pe_bltn (v := .ty "dict") (u := .type "dict") (by rfl) m_dict bb_dict rfl (hn := nn_dict) (hd := nd_dict)) pa_nil)) (hn := nn_isinstance) (hdb := nd_isinstance)))))) (pss_cons (ps_if (PW.pt (pw_or (pt_not (pt_val (pe_callB call_isi (by rfl) m_isinstance bb_isinstance (pa_cons (pv 0 (hd := nd_one) (hcd := nc_one)) (pa_cons (pe_bltn (v := .ty "dict") (u := .type "dict") (by rfl) m_dict bb_dict rfl (hn := nn_dict) (hd := nd_dict)) pa_nil)) (hn := nn_isinstance) (hdb := nd_isinstance)))) (pw_or (pt_not (pt_val (pe_callB call_isi (by rfl) m_isinstance bb_isinstance (pa_cons (pv 1 (hd := nd_two) (hcd := nc_two)) (pa_cons (pe_bltn (v := .ty "dict") (u := .type "dict") (by rfl) m_dict bb_dict rfl (hn := nn_dict) (hd := nd_dict)) pa_nil)) (hn := nn_isinstance) (hdb := nd_isinstance)))) (pw_or1 (pt_cmpR op_ne (pe_callB (q_lenAK (K := K) rfl) (by rfl) m_len PySem.boot_len (pa_cons (pv 0) pa_nil)) (pe_callB (q_lenAK (K := K) rfl) (by rfl) m_len PySem.boot_len (pa_cons (pv 1) pa_nil)) (nomark _)))))) (pss_one (ps_ret pe_bl)) pss_nil)
  (pss_cons (ps_for PassesOwn.never rfl (pi_list (pe_callTy (q_listDk rfl) (by rfl) m_list bb_list (pa_cons (pv 0) pa_nil))) (pg_name (i := 2) sc__law_same.nd rfl (Or.inl rfl)) (pss_cons (ps_if (PW.pt (pw_or (pt_not (PW.pt (pw_or (pt_val (pe_callB call_isi (by rfl) m_isinstance bb_isinstance (pa_cons (pv 2 (hd := nd_key) (hcd := nc_key)) (pa_cons (pe_bltn (v := .ty "str") (u := .type "str") (by rfl) m_str bb_str rfl (hn := nn_str) (hd := nd_str)) pa_nil)) (hn := nn_isinstance) (hdb := nd_isinstance))) (pw_or1 (pt_val (pe_cal C__law_is_integer hr (pa_cons (pv 2) pa_nil) (by omega))))))) (pw_or1 (pt_cmp (pc_dnotin (hu_of hr) (pv 2) (pv 1)))))) (pss_one (ps_ret pe_bl)) pss_nil)
  (pss_one (ps_if (pt_not (pt_val (pe_cal C__law_same hr (pa_cons (pe_dget (hu_of hr) (pv 0) (pv 2) (fun _ _ => rfl)) (pa_cons (pe_dget (hu_of hr) (pv 1) (pv 2) (fun _ _ => rfl)) pa_nil)) (Nat.le_refl _)))) (pss_one (ps_ret pe_bl)) pss_nil))))
  (pss_cons (ps_for PassesOwn.never rfl (pi_list (pe_callTy (q_listDk rfl) (by rfl) m_list bb_list (pa_cons (pv 1) pa_nil))) (pg_name (i := 2) sc__law_same.nd rfl (Or.inl rfl)) (pss_one (ps_if (pt_not (PW.pt (pw_or (pt_val (pe_callB call_isi (by rfl) m_isinstance bb_isinstance (pa_cons (pv 2 (hd := nd_key) (hcd := nc_key)) (pa_cons (pe_bltn (v := .ty "str") (u := .type "str") (by rfl) m_str bb_str rfl (hn := nn_str) (hd := nd_str)) pa_nil)) (hn := nn_isinstance) (hdb := nd_isinstance))) (pw_or1 (pt_val (pe_cal C__law_is_integer hr (pa_cons (pv 2) pa_nil) (by omega))))))) (pss_one (ps_ret pe_bl)) pss_nil)))
  (pss_one (ps_ret pe_bl))))) pss_nil)
  (pss_cons (ps_set (i := 3) sc__law_same.nd rfl (Or.inl rfl) (pe_and (pe_callB call_isi (by rfl) m_isinstance bb_isinstance (pa_cons (pv 0 (hd := nd_one) (hcd := nc_one)) (pa_cons (pe_bltn (v := .ty "list") (u := .type "list") (by rfl) m_list bb_list rfl (hn := nn_list) (hd := nd_list)) pa_nil)) (hn := nn_isinstance) (hdb := nd_isinstance)) (pe_one (pe_callB call_isi (by rfl) m_isinstance bb_isinstance (pa_cons (pv 1 (hd := nd_two) (hcd := nc_two)) (pa_cons (pe_bltn (v := .ty "list") (u := .type "list") (by rfl) m_list bb_list rfl (hn := nn_list) (hd := nd_list)) pa_nil)) (hn := nn_isinstance) (hdb := nd_isinstance)))))
  (pss_cons (ps_if (PW.pt (pw_and (pt_not (pt_val (pv 3 (hd := nd_lists) (hcd := nc_lists)))) (pw_and1 (pt_not (PW.pt (pw_and (pt_val (pe_callB call_isi (by rfl) m_isinstance bb_isinstance (pa_cons (pv 0 (hd := nd_one) (hcd := nc_one)) (pa_cons (pe_bltn (v := .ty "tuple") (u := .type "tuple") (by rfl) m_tuple bb_tuple rfl (hn := nn_tuple) (hd := nd_tuple)) pa_nil)) (hn := nn_isinstance) (hdb := nd_isinstance))) (pw_and1 (pt_val (pe_callB call_isi (by rfl) m_isinstance bb_isinstance (pa_cons (pv 1 (hd := nd_two) (hcd := nc_two)) (pa_cons (pe_bltn (v := .ty "tuple") (u := .type "tuple") (by rfl) m_tuple bb_tuple rfl (hn := nn_tuple) (hd := nd_tuple)) pa_nil)) (hn := nn_isinstance) (hdb := nd_isinstance)))))))))) (pss_one (ps_ret pe_bl)) pss_nil)
  (pss_cons (ps_if (pt_cmpR op_ne (pe_callB (q_lenAK (K := K) rfl) (by rfl) m_len PySem.boot_len (pa_cons (pv 0) pa_nil)) (pe_callB (q_lenAK (K := K) rfl) (by rfl) m_len PySem.boot_len (pa_cons (pv 1) pa_nil)) (nomark _)) (pss_one (ps_ret pe_bl)) pss_nil)
  (pss_cons (ps_for PassesOwn.never rfl (pi_range1 (by rfl) m_range (pa_cons (pe_callB (q_lenAK (K := K) rfl) (by rfl) m_len PySem.boot_len (pa_cons (pv 0) pa_nil)) pa_nil)) (pg_name (i := 4) sc__law_same.nd rfl (Or.inl rfl)) (pss_one (ps_if (pt_not (pt_val (pe_cal C__law_same hr (pa_cons (pe_ix ix_seq (pv 0) (pv 4) (fun _ _ => rfl)) (pa_cons (pe_ix ix_seq (pv 1) (pv 4) (fun _ _ => rfl)) pa_nil)) (Nat.le_refl _)))) (pss_one (ps_ret pe_bl)) pss_nil)))
  (pss_one (ps_ret pe_bl))))))))))), ?_⟩
  refine Rd.at0 (σ := [some x, some y, none, none, none]) rfl ?_
  have eqv : ∀ v : V, decide (v = v) = true := fun v => decide_eq_true rfl
  cases hx with
  | non =>
    cases hy
    repeat' (walk_at "rd")
    rw [eqv]
    exact q0
  | bl b =>
    cases hy
    repeat' (walk_at "rd")
    rw [eqv]
    exact q0
  | int i =>
    cases hy
    repeat' (walk_at "rd")
    rw [eqv]
    exact q0
  | str z =>
    cases hy
    repeat' (walk_at "rd")
    rw [eqv]
    exact q0
  | lst h1 r1 =>
    cases hy with
    | lst h2 r2 =>
      rename_i a xs ds b ys
      cases hf with
      | lst hd hf =>
        rename_i n
        have l1 := va_len r1
        have l2 := va_len r2
        repeat' (walk_at "rd")
        · omega
        refine forR (fun i σ H' => ∃ v4 : Option V, σ = [some (.ref a), some (.ref b), none, some (.bl true), v4] ∧ Same H H') ⟨none, rfl, .refl _⟩ ?_ ?_
        · rintro i σ H' hi ⟨v4, rfl, sm⟩
          obtain ⟨x, y, d, ex, ey, dx, dy, fd⟩ := same_turn r1 r2 hf (show i < xs.length by omega)
          repeat' (walk_at "rd")
          refine .inl (ixN' (sm.seq h1) (by omega) ex ?_)
          repeat' (walk_at "rd")
          refine .inl (ixN' (sm.seq h2) (by omega) ey ?_)
          repeat' (walk_at "rd")
          refine ⟨x, y, d, n, rfl, rfl, dv_same sm dx, dv_same sm dy, fd, fun H2 s2 => ?_⟩
          repeat' (walk_at "rd")
          exact ⟨_, rfl, sm.trans s2⟩
        · rintro σ H' ⟨v4, rfl, sm⟩
          repeat' (walk_at "rd")
          exact q H' sm
  | tup h1 r1 =>
    cases hy with
    | tup h2 r2 =>
      rename_i a xs ds b ys
      cases hf with
      | tup hd hf =>
        rename_i n
        have l1 := va_len r1
        have l2 := va_len r2
        repeat' (walk_at "rd")
        · omega
        refine forR (fun i σ H' => ∃ v4 : Option V, σ = [some (.ref a), some (.ref b), none, some (.bl false), v4] ∧ Same H H') ⟨none, rfl, .refl _⟩ ?_ ?_
        · rintro i σ H' hi ⟨v4, rfl, sm⟩
          obtain ⟨x, y, d, ex, ey, dx, dy, fd⟩ := same_turn r1 r2 hf (show i < xs.length by omega)
          repeat' (walk_at "rd")
          refine .inr (.inl (ixT' (sqT_same sm h1) (by omega) ex ?_))
          repeat' (walk_at "rd")
          refine .inr (.inl (ixT' (sqT_same sm h2) (by omega) ey ?_))
          repeat' (walk_at "rd")
          refine ⟨x, y, d, n, rfl, rfl, dv_same sm dx, dv_same sm dy, fd, fun H2 s2 => ?_⟩
          repeat' (walk_at "rd")
          exact ⟨_, rfl, sm.trans s2⟩
        · rintro σ H' ⟨v4, rfl, sm⟩
          repeat' (walk_at "rd")
          exact q H' sm
  | @dc0 a h1 =>
    cases hy with
    | @dc0 b h2 =>
      repeat' (walk_at "rd")
      · rename_i z
        exact absurd rfl z
      rename_i l hl G hs he
      refine forL [] (fun i σ H' => H' = G ∧ σ = [some (.ref a), some (.ref b), none, none, none]) ⟨rfl, rfl⟩ (fun _ _ _ _ h => by rw [h.1]; exact .inl (.inl he)) (fun i x σ H' hx => by cases hx) ?_
      rintro σ H' ⟨rfl, rfl⟩
      repeat' (walk_at "rd")
      rename_i l2 hl2 G2 hs2 he2
      refine forL [] (fun i σ H' => H' = G2 ∧ σ = [some (.ref a), some (.ref b), none, none, none]) ⟨rfl, rfl⟩ (fun _ _ _ _ h => by rw [h.1]; exact .inl (.inl he2)) (fun i x σ H' hx => by cases hx) ?_
      rintro σ H' ⟨rfl, rfl⟩
      repeat' (walk_at "rd")
      exact q _ (hs.trans hs2)
  | @dc1 a k v d h1 d1 =>
    cases hy with
    | @dc1 b _ v' _ h2 d2 =>
      cases hf with
      | dc1 hf =>
        rename_i n
        have one : ∀ {i : Nat} {x : V}, [V.str k][i]? = some x → V.str k = x := fun {i x} hx => by
          match i, hx with
          | 0, hx => exact Option.some.inj hx
        repeat' (walk_at "rd")
        · rename_i z
          exact absurd rfl z
        rename_i l hl G hs he
        refine forL [V.str k] (fun i σ H' => ∃ v2, σ = [some (.ref a), some (.ref b), v2, none, none] ∧ Same G H') ⟨none, rfl, .refl _⟩ (fun _ _ _ _ ⟨_, _, s⟩ => s.seq (.inl (.inl he))) ?_ ?_
        · rintro i x σ H' hx ⟨v2, rfl, sm⟩
          obtain rfl := one hx
          have sm' := hs.trans sm
          have h1' := sm' _ _ h1
          have h2' := sm' _ _ h2
          repeat' (walk_at "rd")
          refine ⟨b, some v', rfl, dget_k h2', ?_⟩
          repeat' (walk_at "rd")
          refine ⟨a, v, rfl, dget_k h1', ?_⟩
          repeat' (walk_at "rd")
          refine ⟨b, v', rfl, dget_k h2', ?_⟩
          repeat' (walk_at "rd")
          refine ⟨v, v', d, n, rfl, rfl, dv_same sm' d1, dv_same sm' d2, hf, fun H2 s2 => ?_⟩
          repeat' (walk_at "rd")
          exact ⟨_, rfl, sm.trans s2⟩
        · rintro σ H' ⟨v2, rfl, sm⟩
          repeat' (walk_at "rd")
          rename_i l2 hl2 G2 hs2 he2
          refine forL [V.str k] (fun i σ H' => ∃ v2, σ = [some (.ref a), some (.ref b), v2, none, none] ∧ H' = G2) ⟨v2, rfl, rfl⟩ (fun _ _ _ _ ⟨_, _, e⟩ => by rw [e]; exact .inl (.inl he2)) ?_ ?_
          · rintro i x σ H' hx ⟨v2, rfl, rfl⟩
            obtain rfl := one hx
            repeat' (walk_at "rd")
            exact ⟨_, rfl, rfl⟩
          · rintro σ H' ⟨v2, rfl, rfl⟩
            repeat' (walk_at "rd")
            exact q _ ((hs.trans sm).trans hs2)
theorem ok__law_same (F : Def K mg "_law_same" s__law_same P__law_same) (m_isinstance : mg "isinstance" = none) (m_bool : mg "bool" = none) (m_int : mg "int" = none) (m_str : mg "str" = none) (m_dict : mg "dict" = none) (m_len : mg "len" = none) (m_list : mg "list" = none) (m_tuple : mg "tuple" = none) (m_range : mg "range" = none) (C__law_is_integer : Cal P w K mg base 1 "_law_is_integer" P__law_is_integer (spIsInt K)) : ∀ n : Nat, Cal P w K mg base (n + 1) "_law_same" P__law_same (spSame K n)
  | 0 => ((Def.none F).imp fun _ _ _ _ ⟨_, _, _, _, z, _⟩ => by omega).mono (Nat.zero_le _)
  | n + 1 => ok_same1 F m_isinstance m_bool m_int m_str m_dict m_len m_list m_tuple m_range C__law_is_integer (ok__law_same F m_isinstance m_bool m_int m_str m_dict m_len m_list m_tuple m_range C__law_is_integer n)
end
end Kj
namespace Kj
open PySem PySem.Spec PyProof.Rows L2 Rd
local macro_rules | `(tactic| walk_at "hp") => `(tactic| first
  | assumption
  | exact upd_same
  | (refine Eq.trans (upd_ne (by first | assumption | (apply Ne.symm; assumption))) ?_; walk_at "hp"))
local macro_rules | `(tactic| walk_at "sq") => `(tactic| first
  | assumption
  | (refine Or.inl (Or.inl ?_); walk_at "hp"))
local macro_rules | `(tactic| walk_at "st") => `(tactic| first
  | assumption
  | (refine Or.inl (Or.inl ?_); walk_at "hp"))
local macro_rules | `(tactic| walk_at "ar") => `(tactic| first
  | assumption
  | omega
  | decide)
local macro_rules | `(tactic| walk_at "ci") => `(tactic| first
  | (refine (show CMul _ _ from Or.inr ⟨?_, ?_⟩) <;> omega)
  | (refine (show CMul _ _ from Or.inl ⟨?_, ?_⟩) <;> omega)
  | (show CPow _ _; exact ⟨by decide, by decide, by decide⟩)
  | (refine wide_div (b := 63) ?_ ?_ (by decide) (by decide) <;> omega)
  | (show (0 : Int) < _; omega))
local macro_rules | `(tactic| walk_at "ty") => `(tactic| first
  | exact dp_ty (by assumption)
  | exact TyX.base (TyOf.int _)
  | exact TyX.base (TyOf.str _)
  | exact TyX.base (TyOf.bl _)
  | exact TyX.base TyOf.non
  | exact tyL' (by walk_at "sq")
  | exact tyT' (by walk_at "st"))
local macro_rules | `(tactic| walk_at "isi") => `(tactic| first
  | ((with_reducible apply Rd.isiF); (walk_at "ty"); (decide))
  | ((with_reducible apply Rd.isiT); (walk_at "ty"); (decide)))
local macro_rules | `(tactic| walk_at "rd") => `(tactic| first
  | with_reducible apply Rd.seq
  | ((with_reducible apply Rd.var); rfl)
  | with_reducible apply Rd.con
  | with_reducible apply Rd.op
  | with_reducible apply Rd.asg
  | ((with_reducible apply Rd.gname); ((dsimp only [List.set, L2.wipe, Int.reduceToNat]) <;> rfl))
  | with_reducible apply Rd.nxt
  | with_reducible apply Rd.ifs
  | with_reducible apply Rd.test
  | with_reducible apply Rd.testB
  | with_reducible apply Rd.exbl
  | with_reducible apply Rd.ret
  | with_reducible apply Rd.drop
  | with_reducible apply Rd.retN
  | with_reducible apply Rd.nil
  | with_reducible apply Rd.cons
  | with_reducible apply Rd.call
  | with_reducible apply Rd.cb
  | with_reducible apply Rd.and
  | with_reducible apply Rd.or
  | with_reducible apply Rd.not
  | with_reducible apply Rd.andV
  | with_reducible apply Rd.orV
  | with_reducible apply Rd.notV
  | with_reducible apply Rd.ife
  | with_reducible apply Rd.tup
  | with_reducible apply Rd.lst
  | with_reducible apply Rd.un
  | with_reducible apply Rd.chain
  | with_reducible apply Rd.brk
  | with_reducible apply Rd.cnt
  | with_reducible apply Rd.I0
  | with_reducible apply Rd.U1
  | ((with_reducible apply Rd.eq); rfl)
  | ((with_reducible apply Rd.ne); rfl)
  | ((with_reducible apply Rd.I1); (walk_at "ci"))
  | with_reducible apply Rd.lc0
  | with_reducible apply Rd.ln0
  | with_reducible apply Rd.exN
  | ((with_reducible apply Rd.iteSf); (decide +kernel))
  | ((with_reducible apply Rd.iteSt); (decide +kernel))
  | ((with_reducible apply Rd.niQ); (exact Or.inl (by walk_at "sq")); (exact ⟨rfl, rfl⟩); (rfl))
  | ((with_reducible apply Rd.inQ); (exact Or.inl (by walk_at "sq")); (exact ⟨rfl, rfl⟩); (rfl))
  | with_reducible apply Rd.rn1
  | with_reducible apply Rd.in1
  | with_reducible apply Rd.sn1
  | with_reducible apply Rd.bn1
  | with_reducible apply Rd.nn1
  | with_reducible apply Rd.rn2
  | with_reducible apply Rd.in2
  | with_reducible apply Rd.sn2
  | with_reducible apply Rd.bn2
  | with_reducible apply Rd.nn2
  | with_reducible apply Rd.nt1
  | with_reducible apply Rd.nf1
  | (with_reducible refine Rd.iteI (fun _ => ?_) (fun _ => ?_))
  | (with_reducible refine Rd.iteNI (fun _ => ?_) (fun _ => ?_))
  | (with_reducible refine iteT ?_)
  | (with_reducible refine iteF ?_)
  | (with_reducible refine Rd.iteD (fun _ => ?_) (fun _ => ?_))
  | (with_reducible refine Rd.iteN (fun _ => ?_) (fun _ => ?_))
  | with_reducible apply Rd.intI
  | with_reducible apply Rd.intB
  | with_reducible apply Rd.maxQ
  | with_reducible apply Rd.minQ
  | with_reducible apply Rd.absQ
  | with_reducible apply Rd.isN
  | with_reducible apply Rd.noN
  | with_reducible apply Rd.ltZ
  | with_reducible apply Rd.bm
  | with_reducible apply Rd.bm0
  | with_reducible apply Rd.par
  | with_reducible apply Rd.expar
  | with_reducible apply Rd.exint
  | with_reducible apply Rd.ipi
  | with_reducible apply Rd.slice
  | with_reducible apply Rd.noPart
  | with_reducible apply Rd.part
  | with_reducible apply Rd.gcons
  | with_reducible apply Rd.gnil
  | with_reducible apply Rd.iseq
  | with_reducible apply Rd.irng1
  | walk_at "isi"
  | with_reducible apply Rd.forX
  | with_reducible apply Rd.lstRev
  | with_reducible apply Rd.lstRg
  | with_reducible apply Rd.rg1
  | with_reducible apply Rd.rg2
  | with_reducible apply Rd.exint2
  | ((with_reducible apply Rd.exrev); (walk_at "sq"))
  | with_reducible apply Rd.lcX
  | with_reducible apply Rd.yes
  | ((with_reducible apply Rd.exrng1); (constructor <;> omega))
  | ((with_reducible apply Rd.exrng2); (refine ⟨?_, ?_, ?_, ?_⟩ <;> omega))
  | with_reducible apply Rd.irng2
  | ((with_reducible apply Rd.aug); rfl)
  | ((with_reducible apply Rd.exlst); (walk_at "sq"))
  | ((with_reducible apply Rd.gtup); (walk_at "st"); (rfl))
  | ((with_reducible apply Rd.tyL); (walk_at "hp"))
  | ((with_reducible apply Rd.ixL); (walk_at "sq"); (rfl))
  | ((with_reducible apply Rd.ixI); (walk_at "sq"); (omega); (first | assumption | (simp only [List.length_map]; omega)); (intro _ _))
  | (with_reducible refine Rd.gsub ?_)
  | ((with_reducible apply Rd.setL); (walk_at "hp"); (rfl); ((dsimp only [List.set, L2.wipe, Int.reduceToNat]) <;> rfl))
  | ((with_reducible apply Rd.lenQ); (first | exact Or.inl (by walk_at "sq") | exact Or.inr (by walk_at "st")))
  | ((with_reducible apply Rd.listQ); (first | exact Or.inl (by walk_at "sq") | exact Or.inr (by walk_at "st")))
  | ((with_reducible apply Rd.tupQ); (walk_at "sq"))
  | ((with_reducible apply Rd.slL); (walk_at "sq"))
  | ((with_reducible apply Rd.ixT); (walk_at "st"); (rfl))
  | (with_reducible refine Rd.iteB (fun _ => ?_) (fun _ => ?_))
  | (with_reducible refine Rd.iteNB (fun _ => ?_) (fun _ => ?_))
  | (refine Rd.andI (Nat.le_of_ble_eq_true rfl) ?_)
  | dsimp only [List.set])
local macro_rules | `(tactic| walk_at "hp") => `(tactic| first
  | assumption
  | exact upd_same
  | (refine Eq.trans (upd_ne (by first | assumption | (apply Ne.symm; assumption))) ?_; walk_at "hp")
  | (refine hpS (by assumption) ?_; walk_at "hp"))
local macro_rules | `(tactic| walk_at "al") => `(tactic| (with_reducible intro l hl; generalize hG : upd _ l _ = G; have hs := newOne hl hG; clear hG; obtain ⟨hs, he⟩ := hs))
local macro_rules | `(tactic| walk_at "rd") => `(tactic| first
  | walk_at "al"
  | ((with_reducible apply Rd.cat); (walk_at "hp"); (walk_at "hp"); (exact Nat.le_of_ble_eq_true rfl)))
local macro_rules | `(tactic| walk_at "sm") => `(tactic| first
  | assumption
  | exact Same.refl _
  | (refine Same.trans ?_ (by assumption); walk_at "sm"))
local macro_rules | `(tactic| walk_at "fr") => `(tactic| first
  | assumption
  | (refine Same.free (by assumption) ?_; walk_at "fr"))
local macro_rules | `(tactic| walk_at "ty") => `(tactic| first
  | exact dv_ty (by assumption)
  | exact tyD' (by walk_at "hp"))
local macro_rules | `(tactic| walk_at "sz") => `(tactic| first
  | exact sz5 (by omega)
  | (simp only [add_len, one_len]; exact sz5 (by omega)))
local macro_rules | `(tactic| walk_at "rd") => `(tactic| first
  | with_reducible apply Rd.istr
  | with_reducible apply Rd.exstr
  | with_reducible apply Rd.leA
  | with_reducible apply Rd.leZz
  | with_reducible apply Rd.le0
  | with_reducible apply Rd.le9
  | with_reducible apply Rd.niZ
  | ((with_reducible apply Rd.lenZ); (walk_at "sz"))
  | ((with_reducible apply Rd.slZ); (walk_at "sz"))
  | ((with_reducible apply Rd.addZ); (walk_at "sz"))
  | with_reducible apply Rd.raiseX
  | with_reducible apply Rd.exone
  | with_reducible apply Rd.callS
  | with_reducible apply Rd.callP
  | with_reducible apply Rd.xsX
  | with_reducible apply Rd.dnewX
  | with_reducible apply Rd.tyZ)
local macro_rules | `(tactic| walk_at "rd") => `(tactic| first
  | with_reducible apply Rd.seq
  | ((with_reducible apply Rd.var); rfl)
  | with_reducible apply Rd.con
  | with_reducible apply Rd.op
  | with_reducible apply Rd.cons
  | with_reducible apply Rd.nil
  | with_reducible apply Rd.asg
  | ((with_reducible apply Rd.gname); ((dsimp only [List.set, L2.wipe, Int.reduceToNat]) <;> rfl))
  | with_reducible apply Rd.nxt
  | with_reducible apply Rd.ifs
  | with_reducible apply Rd.test
  | with_reducible apply Rd.ret
  | with_reducible apply Rd.call
  | with_reducible apply Rd.cb)
section
variable {P : Program} {w : World} {K : PySem.W.Frag} {mg : Str → Option Value} {base : Heap} {D : Str → Addr}
def spCheckN (K : PySem.W.Frag) (D : Str → Addr) : Sp := fun vs H Q E => ∃ (v : V) (d : PyData), vs = [v] ∧ Dv K H v d ∧ Sz d ∧ (nameD d = true → ∀ H', Same H H' → Q v H') ∧
  (nameD d = false → ∀ dd H', H dd = none → Same H H' → H' dd = some (.xd [("word", v), ("code", .str "BadName")]) → E (.ref (D "BadName")) (some dd) H')
theorem ok_check_name (F : Def K mg "check_name" s_check_name P_check_name) (T_BadName : Ho.ErrC P w K mg base "BadName" (D "BadName") "word") (C_is_name : Cal P w K mg base 1 "is_name" P_is_name (spNamed K)) : Ho.CalN P w K mg base 3 "check_name" P_check_name (spCheckN K D) := by
  refine Ho.defN F sc_check_name (fun vs H Q E h => ?_) (fun f cdv A outer s H vs Q E hr h => ?_)
  · obtain ⟨v, d, rfl, _⟩ := h
    rfl
  obtain ⟨v, d, rfl, hv, sz, qy, qn⟩ := h
  refine ⟨_, (pss_cons (ps_if (pt_not (pt_val (pe_cal C_is_name hr (pa_cons (pv 0 (hd := nd_word) (hcd := nc_word)) pa_nil) (hdb := nd_is_name)))) (pss_one (Ho.ps_err rfl T_BadName hr (L2N.takes_of rfl rfl rfl rfl) (pa_cons (pv 0 (hd := nd_word) (hcd := nc_word)) pa_nil) (by first | exact Ho.up_v | exact Ho.up_c))) pss_nil)
  (pss_one (ps_ret (pv 0 (hd := nd_word) (hcd := nc_word))))), ?_⟩
  refine Rd.at0 (σ := [some v]) rfl ?_
  repeat' (walk_at "rd")
  refine ⟨v, d, rfl, hv, sz, fun H1 s1 => ?_⟩
  repeat' (walk_at "rd")
  · rename_i e l n G s2 e2
    exact qn (by simpa using e) l G (Same.free s1 n) (s1.trans s2) e2
  · rename_i e
    exact qy (by simpa using e) H1 s1
end
end Kj
namespace Kj
open PySem PySem.Spec PyProof.Rows L2 Rd
local macro_rules | `(tactic| walk_at "hp") => `(tactic| first
  | assumption
  | exact upd_same
  | (refine Eq.trans (upd_ne (by first | assumption | (apply Ne.symm; assumption))) ?_; walk_at "hp"))
local macro_rules | `(tactic| walk_at "sq") => `(tactic| first
  | assumption
  | (refine Or.inl (Or.inl ?_); walk_at "hp"))
local macro_rules | `(tactic| walk_at "st") => `(tactic| first
  | assumption
  | (refine Or.inl (Or.inl ?_); walk_at "hp"))
local macro_rules | `(tactic| walk_at "ar") => `(tactic| first
  | assumption
  | omega
  | decide)
local macro_rules | `(tactic| walk_at "ci") => `(tactic| first
  | (refine (show CMul _ _ from Or.inr ⟨?_, ?_⟩) <;> omega)
  | (refine (show CMul _ _ from Or.inl ⟨?_, ?_⟩) <;> omega)
  | (show CPow _ _; exact ⟨by decide, by decide, by decide⟩)
  | (refine wide_div (b := 63) ?_ ?_ (by decide) (by decide) <;> omega)
  | (show (0 : Int) < _; omega))
local macro_rules | `(tactic| walk_at "ty") => `(tactic| first
  | exact dp_ty (by assumption)
  | exact TyX.base (TyOf.int _)
  | exact TyX.base (TyOf.str _)
  | exact TyX.base (TyOf.bl _)
  | exact TyX.base TyOf.non
  | exact tyL' (by walk_at "sq")
  | exact tyT' (by walk_at "st"))
local macro_rules | `(tactic| walk_at "isi") => `(tactic| first
  | ((with_reducible apply Rd.isiF); (walk_at "ty"); (decide))
  | ((with_reducible apply Rd.isiT); (walk_at "ty"); (decide)))
local macro_rules | `(tactic| walk_at "rd") => `(tactic| first
  | with_reducible apply Rd.seq
  | ((with_reducible apply Rd.var); rfl)
  | with_reducible apply Rd.con
  | with_reducible apply Rd.op
  | with_reducible apply Rd.asg
  | ((with_reducible apply Rd.gname); ((dsimp only [List.set, L2.wipe, Int.reduceToNat]) <;> rfl))
  | with_reducible apply Rd.nxt
  | with_reducible apply Rd.ifs
  | with_reducible apply Rd.test
  | with_reducible apply Rd.testB
  | with_reducible apply Rd.exbl
  | with_reducible apply Rd.ret
  | with_reducible apply Rd.drop
  | with_reducible apply Rd.retN
  | with_reducible apply Rd.nil
  | with_reducible apply Rd.cons
  | with_reducible apply Rd.call
  | with_reducible apply Rd.cb
  | with_reducible apply Rd.and
  | with_reducible apply Rd.or
  | with_reducible apply Rd.not
  | with_reducible apply Rd.andV
  | with_reducible apply Rd.orV
  | with_reducible apply Rd.notV
  | with_reducible apply Rd.ife
  | with_reducible apply Rd.tup
  | with_reducible apply Rd.lst
  | with_reducible apply Rd.un
  | with_reducible apply Rd.chain
  | with_reducible apply Rd.brk
  | with_reducible apply Rd.cnt
  | with_reducible apply Rd.I0
  | with_reducible apply Rd.U1
  | ((with_reducible apply Rd.eq); rfl)
  | ((with_reducible apply Rd.ne); rfl)
  | ((with_reducible apply Rd.I1); (walk_at "ci"))
  | with_reducible apply Rd.lc0
  | with_reducible apply Rd.ln0
  | with_reducible apply Rd.exN
  | ((with_reducible apply Rd.iteSf); (decide +kernel))
  | ((with_reducible apply Rd.iteSt); (decide +kernel))
  | ((with_reducible apply Rd.niQ); (exact Or.inl (by walk_at "sq")); (exact ⟨rfl, rfl⟩); (rfl))
  | ((with_reducible apply Rd.inQ); (exact Or.inl (by walk_at "sq")); (exact ⟨rfl, rfl⟩); (rfl))
  | with_reducible apply Rd.rn1
  | with_reducible apply Rd.in1
  | with_reducible apply Rd.sn1
  | with_reducible apply Rd.bn1
  | with_reducible apply Rd.nn1
  | with_reducible apply Rd.rn2
  | with_reducible apply Rd.in2
  | with_reducible apply Rd.sn2
  | with_reducible apply Rd.bn2
  | with_reducible apply Rd.nn2
  | with_reducible apply Rd.nt1
  | with_reducible apply Rd.nf1
  | (with_reducible refine Rd.iteI (fun _ => ?_) (fun _ => ?_))
  | (with_reducible refine Rd.iteNI (fun _ => ?_) (fun _ => ?_))
  | (with_reducible refine iteT ?_)
  | (with_reducible refine iteF ?_)
  | (with_reducible refine Rd.iteD (fun _ => ?_) (fun _ => ?_))
  | (with_reducible refine Rd.iteN (fun _ => ?_) (fun _ => ?_))
  | with_reducible apply Rd.intI
  | with_reducible apply Rd.intB
  | with_reducible apply Rd.maxQ
  | with_reducible apply Rd.minQ
  | with_reducible apply Rd.absQ
  | with_reducible apply Rd.isN
  | with_reducible apply Rd.noN
  | with_reducible apply Rd.ltZ
  | with_reducible apply Rd.bm
  | with_reducible apply Rd.bm0
  | with_reducible apply Rd.par
  | with_reducible apply Rd.expar
  | with_reducible apply Rd.exint
  | with_reducible apply Rd.ipi
  | with_reducible apply Rd.slice
  | with_reducible apply Rd.noPart
  | with_reducible apply Rd.part
  | with_reducible apply Rd.gcons
  | with_reducible apply Rd.gnil
  | with_reducible apply Rd.iseq
  | with_reducible apply Rd.irng1
  | walk_at "isi"
  | with_reducible apply Rd.forX
  | with_reducible apply Rd.lstRev
  | with_reducible apply Rd.lstRg
  | with_reducible apply Rd.rg1
  | with_reducible apply Rd.rg2
  | with_reducible apply Rd.exint2
  | ((with_reducible apply Rd.exrev); (walk_at "sq"))
  | with_reducible apply Rd.lcX
  | with_reducible apply Rd.yes
  | ((with_reducible apply Rd.exrng1); (constructor <;> omega))
  | ((with_reducible apply Rd.exrng2); (refine ⟨?_, ?_, ?_, ?_⟩ <;> omega))
  | with_reducible apply Rd.irng2
  | ((with_reducible apply Rd.aug); rfl)
  | ((with_reducible apply Rd.exlst); (walk_at "sq"))
  | ((with_reducible apply Rd.gtup); (walk_at "st"); (rfl))
  | ((with_reducible apply Rd.tyL); (walk_at "hp"))
  | ((with_reducible apply Rd.ixL); (walk_at "sq"); (rfl))
  | ((with_reducible apply Rd.ixI); (walk_at "sq"); (omega); (first | assumption | (simp only [List.length_map]; omega)); (intro _ _))
  | (with_reducible refine Rd.gsub ?_)
  | ((with_reducible apply Rd.setL); (walk_at "hp"); (rfl); ((dsimp only [List.set, L2.wipe, Int.reduceToNat]) <;> rfl))
  | ((with_reducible apply Rd.lenQ); (first | exact Or.inl (by walk_at "sq") | exact Or.inr (by walk_at "st")))
  | ((with_reducible apply Rd.listQ); (first | exact Or.inl (by walk_at "sq") | exact Or.inr (by walk_at "st")))
  | ((with_reducible apply Rd.tupQ); (walk_at "sq"))
  | ((with_reducible apply Rd.slL); (walk_at "sq"))
  | ((with_reducible apply Rd.ixT); (walk_at "st"); (rfl))
  | (with_reducible refine Rd.iteB (fun _ => ?_) (fun _ => ?_))
  | (with_reducible refine Rd.iteNB (fun _ => ?_) (fun _ => ?_))
  | (refine Rd.andI (Nat.le_of_ble_eq_true rfl) ?_)
  | dsimp only [List.set])
local macro_rules | `(tactic| walk_at "hp") => `(tactic| first
  | assumption
  | exact upd_same
  | (refine Eq.trans (upd_ne (by first | assumption | (apply Ne.symm; assumption))) ?_; walk_at "hp")
  | (refine hpS (by assumption) ?_; walk_at "hp"))
local macro_rules | `(tactic| walk_at "al") => `(tactic| (with_reducible intro l hl; generalize hG : upd _ l _ = G; have hs := newOne hl hG; clear hG; obtain ⟨hs, he⟩ := hs))
local macro_rules | `(tactic| walk_at "rd") => `(tactic| first
  | walk_at "al"
  | ((with_reducible apply Rd.cat); (walk_at "hp"); (walk_at "hp"); (exact Nat.le_of_ble_eq_true rfl)))
local macro_rules | `(tactic| walk_at "sm") => `(tactic| first
  | assumption
  | exact Same.refl _
  | (refine Same.trans ?_ (by assumption); walk_at "sm"))
local macro_rules | `(tactic| walk_at "fr") => `(tactic| first
  | assumption
  | (refine Same.free (by assumption) ?_; walk_at "fr"))
local macro_rules | `(tactic| walk_at "ty") => `(tactic| first
  | exact dv_ty (by assumption)
  | exact tyD' (by walk_at "hp"))
local macro_rules | `(tactic| walk_at "rd") => `(tactic| first
  | with_reducible apply Rd.seq
  | ((with_reducible apply Rd.var); rfl)
  | with_reducible apply Rd.con
  | with_reducible apply Rd.op
  | with_reducible apply Rd.cons
  | with_reducible apply Rd.nil
  | with_reducible apply Rd.asg
  | ((with_reducible apply Rd.gname); ((dsimp only [List.set, L2.wipe, Int.reduceToNat]) <;> rfl))
  | with_reducible apply Rd.nxt
  | with_reducible apply Rd.ifs
  | with_reducible apply Rd.test
  | with_reducible apply Rd.ret
  | with_reducible apply Rd.call
  | with_reducible apply Rd.cb)
abbrev Kinds : List Str := ["BadName", "NoHouse", "NoLine", "SelfLine", "Taken", "SamePart", "NoVersion", "NoStore", "BadNumber", "BadPlace", "NoRow", "NoPaper", "TooMany", "BadDeed", "BadText", "NoSeat", "SeatTaken", "NothingLeft", "OtherHouses", "NoLog", "BadAsk"]
abbrev Classes : List Str := "KeptError" :: Kinds
/-- the errors that the law meets, each with its field -/
abbrev RefL : List (Str × Str) := [("BadName", "word"), ("NoHouse", "word"), ("NoLine", "word")]
def spRefs (K : PySem.W.Frag) (D : Str → Addr) : Addr → Value → Option Addr → Sp := fun a cls d vs H Q E => ∃ p ∈ RefL, Ho.spRef K D Kinds p.1 p.2 a cls d vs H Q E
section
variable {P : Program} {w : World} {K : PySem.W.Frag} {mg : Str → Option Value} {base : Heap} {D : Str → Addr}
local macro_rules | `(tactic| walk_at "rd") => `(tactic| first
  | with_reducible apply Ho.xe
  | ((with_reducible apply Ho.isEf); (assumption); (assumption); (assumption); (assumption); (walk_at "hp"); (decide +kernel))
  | ((with_reducible apply Ho.isEt); (assumption); (assumption); (assumption); (assumption); (walk_at "hp"); (decide +kernel))
  | ((with_reducible apply Ho.isVE); (assumption); (assumption); (assumption); (assumption); (walk_at "hp")))
set_option maxHeartbeats 4000000 in
theorem ok__law_refusal (F : Def K mg "_law_refusal" s__law_refusal P__law_refusal) (m_isinstance : mg "isinstance" = none) (m_str : mg "str" = none) (m_ValueError : mg "ValueError" = none) (c_cls : ∀ x ∈ Classes, mg x = some (.ref (D x))) : Ho.CalP P w K mg base 1 "_law_refusal" P__law_refusal (spRefs K D) := by
  refine Ho.defP F sc__law_refusal (fun a c d vs H Q E h => ?_) (fun f cdv A outer s H vs Q E p hot hr h => ?_)
  · obtain ⟨_, _, _, _, _, _, _, rfl, _⟩ := h
    rfl
  obtain ⟨cf, hcf, C, dd, y, hc, hd, rfl, kn, hx, q⟩ := h
  have hv : ∃ vs, p.2.data = .fields vs := ⟨_, hot.2.choose_spec.1⟩
  refine ⟨_, (pss_cons (ps_set (i := 2) sc__law_refusal.nd rfl (Or.inl rfl) (pe_lst (pa_cons (pe_callB (Ho.q_isEK (K := K) (pn := [p]) rfl rfl) (by rfl) m_isinstance bb_isinstance (pa_cons (pv 0 (hd := nd_error) (hcd := nc_error)) (pa_cons (pe_glob (v := .ref (D "BadName")) (by rfl) (c_cls "BadName" (by decide)) rfl) pa_nil)) (hn := nn_isinstance) (hdb := nd_isinstance)) (pa_cons (pe_callB (Ho.q_isEK (K := K) (pn := [p]) rfl rfl) (by rfl) m_isinstance bb_isinstance (pa_cons (pv 0 (hd := nd_error) (hcd := nc_error)) (pa_cons (pe_glob (v := .ref (D "NoHouse")) (by rfl) (c_cls "NoHouse" (by decide)) rfl) pa_nil)) (hn := nn_isinstance) (hdb := nd_isinstance)) (pa_cons (pe_callB (Ho.q_isEK (K := K) (pn := [p]) rfl rfl) (by rfl) m_isinstance bb_isinstance (pa_cons (pv 0 (hd := nd_error) (hcd := nc_error)) (pa_cons (pe_glob (v := .ref (D "NoLine")) (by rfl) (c_cls "NoLine" (by decide)) rfl) pa_nil)) (hn := nn_isinstance) (hdb := nd_isinstance)) pa_nil)))))
  (pss_cons (ps_set (i := 2) sc__law_refusal.nd rfl (Or.inl rfl) (pe_op op_cat (pv 2 (hd := nd_kinds) (hcd := nc_kinds)) (pe_lst (pa_cons (pe_callB (Ho.q_isEK (K := K) (pn := [p]) rfl rfl) (by rfl) m_isinstance bb_isinstance (pa_cons (pv 0 (hd := nd_error) (hcd := nc_error)) (pa_cons (pe_glob (v := .ref (D "SelfLine")) (by rfl) (c_cls "SelfLine" (by decide)) rfl) pa_nil)) (hn := nn_isinstance) (hdb := nd_isinstance)) (pa_cons (pe_callB (Ho.q_isEK (K := K) (pn := [p]) rfl rfl) (by rfl) m_isinstance bb_isinstance (pa_cons (pv 0 (hd := nd_error) (hcd := nc_error)) (pa_cons (pe_glob (v := .ref (D "Taken")) (by rfl) (c_cls "Taken" (by decide)) rfl) pa_nil)) (hn := nn_isinstance) (hdb := nd_isinstance)) (pa_cons (pe_callB (Ho.q_isEK (K := K) (pn := [p]) rfl rfl) (by rfl) m_isinstance bb_isinstance (pa_cons (pv 0 (hd := nd_error) (hcd := nc_error)) (pa_cons (pe_glob (v := .ref (D "SamePart")) (by rfl) (c_cls "SamePart" (by decide)) rfl) pa_nil)) (hn := nn_isinstance) (hdb := nd_isinstance)) pa_nil))))))
  (pss_cons (ps_set (i := 2) sc__law_refusal.nd rfl (Or.inl rfl) (pe_op op_cat (pv 2 (hd := nd_kinds) (hcd := nc_kinds)) (pe_lst (pa_cons (pe_callB (Ho.q_isEK (K := K) (pn := [p]) rfl rfl) (by rfl) m_isinstance bb_isinstance (pa_cons (pv 0 (hd := nd_error) (hcd := nc_error)) (pa_cons (pe_glob (v := .ref (D "NoVersion")) (by rfl) (c_cls "NoVersion" (by decide)) rfl) pa_nil)) (hn := nn_isinstance) (hdb := nd_isinstance)) (pa_cons (pe_callB (Ho.q_isEK (K := K) (pn := [p]) rfl rfl) (by rfl) m_isinstance bb_isinstance (pa_cons (pv 0 (hd := nd_error) (hcd := nc_error)) (pa_cons (pe_glob (v := .ref (D "NoStore")) (by rfl) (c_cls "NoStore" (by decide)) rfl) pa_nil)) (hn := nn_isinstance) (hdb := nd_isinstance)) (pa_cons (pe_callB (Ho.q_isEK (K := K) (pn := [p]) rfl rfl) (by rfl) m_isinstance bb_isinstance (pa_cons (pv 0 (hd := nd_error) (hcd := nc_error)) (pa_cons (pe_glob (v := .ref (D "BadNumber")) (by rfl) (c_cls "BadNumber" (by decide)) rfl) pa_nil)) (hn := nn_isinstance) (hdb := nd_isinstance)) pa_nil))))))
  (pss_cons (ps_set (i := 2) sc__law_refusal.nd rfl (Or.inl rfl) (pe_op op_cat (pv 2 (hd := nd_kinds) (hcd := nc_kinds)) (pe_lst (pa_cons (pe_callB (Ho.q_isEK (K := K) (pn := [p]) rfl rfl) (by rfl) m_isinstance bb_isinstance (pa_cons (pv 0 (hd := nd_error) (hcd := nc_error)) (pa_cons (pe_glob (v := .ref (D "BadPlace")) (by rfl) (c_cls "BadPlace" (by decide)) rfl) pa_nil)) (hn := nn_isinstance) (hdb := nd_isinstance)) (pa_cons (pe_callB (Ho.q_isEK (K := K) (pn := [p]) rfl rfl) (by rfl) m_isinstance bb_isinstance (pa_cons (pv 0 (hd := nd_error) (hcd := nc_error)) (pa_cons (pe_glob (v := .ref (D "NoRow")) (by rfl) (c_cls "NoRow" (by decide)) rfl) pa_nil)) (hn := nn_isinstance) (hdb := nd_isinstance)) (pa_cons (pe_callB (Ho.q_isEK (K := K) (pn := [p]) rfl rfl) (by rfl) m_isinstance bb_isinstance (pa_cons (pv 0 (hd := nd_error) (hcd := nc_error)) (pa_cons (pe_glob (v := .ref (D "NoPaper")) (by rfl) (c_cls "NoPaper" (by decide)) rfl) pa_nil)) (hn := nn_isinstance) (hdb := nd_isinstance)) pa_nil))))))
  (pss_cons (ps_set (i := 2) sc__law_refusal.nd rfl (Or.inl rfl) (pe_op op_cat (pv 2 (hd := nd_kinds) (hcd := nc_kinds)) (pe_lst (pa_cons (pe_callB (Ho.q_isEK (K := K) (pn := [p]) rfl rfl) (by rfl) m_isinstance bb_isinstance (pa_cons (pv 0 (hd := nd_error) (hcd := nc_error)) (pa_cons (pe_glob (v := .ref (D "TooMany")) (by rfl) (c_cls "TooMany" (by decide)) rfl) pa_nil)) (hn := nn_isinstance) (hdb := nd_isinstance)) (pa_cons (pe_callB (Ho.q_isEK (K := K) (pn := [p]) rfl rfl) (by rfl) m_isinstance bb_isinstance (pa_cons (pv 0 (hd := nd_error) (hcd := nc_error)) (pa_cons (pe_glob (v := .ref (D "BadDeed")) (by rfl) (c_cls "BadDeed" (by decide)) rfl) pa_nil)) (hn := nn_isinstance) (hdb := nd_isinstance)) (pa_cons (pe_callB (Ho.q_isEK (K := K) (pn := [p]) rfl rfl) (by rfl) m_isinstance bb_isinstance (pa_cons (pv 0 (hd := nd_error) (hcd := nc_error)) (pa_cons (pe_glob (v := .ref (D "BadText")) (by rfl) (c_cls "BadText" (by decide)) rfl) pa_nil)) (hn := nn_isinstance) (hdb := nd_isinstance)) pa_nil))))))
  (pss_cons (ps_set (i := 2) sc__law_refusal.nd rfl (Or.inl rfl) (pe_op op_cat (pv 2 (hd := nd_kinds) (hcd := nc_kinds)) (pe_lst (pa_cons (pe_callB (Ho.q_isEK (K := K) (pn := [p]) rfl rfl) (by rfl) m_isinstance bb_isinstance (pa_cons (pv 0 (hd := nd_error) (hcd := nc_error)) (pa_cons (pe_glob (v := .ref (D "NoSeat")) (by rfl) (c_cls "NoSeat" (by decide)) rfl) pa_nil)) (hn := nn_isinstance) (hdb := nd_isinstance)) (pa_cons (pe_callB (Ho.q_isEK (K := K) (pn := [p]) rfl rfl) (by rfl) m_isinstance bb_isinstance (pa_cons (pv 0 (hd := nd_error) (hcd := nc_error)) (pa_cons (pe_glob (v := .ref (D "SeatTaken")) (by rfl) (c_cls "SeatTaken" (by decide)) rfl) pa_nil)) (hn := nn_isinstance) (hdb := nd_isinstance)) (pa_cons (pe_callB (Ho.q_isEK (K := K) (pn := [p]) rfl rfl) (by rfl) m_isinstance bb_isinstance (pa_cons (pv 0 (hd := nd_error) (hcd := nc_error)) (pa_cons (pe_glob (v := .ref (D "NothingLeft")) (by rfl) (c_cls "NothingLeft" (by decide)) rfl) pa_nil)) (hn := nn_isinstance) (hdb := nd_isinstance)) pa_nil))))))
  (pss_cons (ps_set (i := 2) sc__law_refusal.nd rfl (Or.inl rfl) (pe_op op_cat (pv 2 (hd := nd_kinds) (hcd := nc_kinds)) (pe_lst (pa_cons (pe_callB (Ho.q_isEK (K := K) (pn := [p]) rfl rfl) (by rfl) m_isinstance bb_isinstance (pa_cons (pv 0 (hd := nd_error) (hcd := nc_error)) (pa_cons (pe_glob (v := .ref (D "OtherHouses")) (by rfl) (c_cls "OtherHouses" (by decide)) rfl) pa_nil)) (hn := nn_isinstance) (hdb := nd_isinstance)) (pa_cons (pe_callB (Ho.q_isEK (K := K) (pn := [p]) rfl rfl) (by rfl) m_isinstance bb_isinstance (pa_cons (pv 0 (hd := nd_error) (hcd := nc_error)) (pa_cons (pe_glob (v := .ref (D "NoLog")) (by rfl) (c_cls "NoLog" (by decide)) rfl) pa_nil)) (hn := nn_isinstance) (hdb := nd_isinstance)) (pa_cons (pe_callB (Ho.q_isEK (K := K) (pn := [p]) rfl rfl) (by rfl) m_isinstance bb_isinstance (pa_cons (pv 0 (hd := nd_error) (hcd := nc_error)) (pa_cons (pe_glob (v := .ref (D "BadAsk")) (by rfl) (c_cls "BadAsk" (by decide)) rfl) pa_nil)) (hn := nn_isinstance) (hdb := nd_isinstance)) pa_nil))))))
  (pss_cons (ps_set (i := 3) sc__law_refusal.nd rfl (Or.inl rfl) (pe_lst (pa_cons pe_str (pa_cons pe_str (pa_cons pe_str (pa_cons pe_str (pa_cons pe_str (pa_cons pe_str (pa_cons pe_str (pa_cons pe_str (pa_cons pe_str pa_nil)))))))))))
  (pss_cons (ps_set (i := 3) sc__law_refusal.nd rfl (Or.inl rfl) (pe_op op_cat (pv 3 (hd := nd_names) (hcd := nc_names)) (pe_lst (pa_cons pe_str (pa_cons pe_str (pa_cons pe_str (pa_cons pe_str (pa_cons pe_str (pa_cons pe_str (pa_cons pe_str (pa_cons pe_str pa_nil)))))))))))
  (pss_cons (ps_set (i := 3) sc__law_refusal.nd rfl (Or.inl rfl) (pe_op op_cat (pv 3 (hd := nd_names) (hcd := nc_names)) (pe_lst (pa_cons pe_str (pa_cons pe_str (pa_cons pe_str (pa_cons pe_str pa_nil)))))))
  (pss_cons (ps_if (PW.pt (pw_or (pt_not (pt_val (pe_callB call_isi (by rfl) m_isinstance bb_isinstance (pa_cons (pv 1 (hd := nd_code) (hcd := nc_code)) (pa_cons (pe_bltn (v := .ty "str") (u := .type "str") (by rfl) m_str bb_str rfl (hn := nn_str) (hd := nd_str)) pa_nil)) (hn := nn_isinstance) (hdb := nd_isinstance)))) (pw_or (pt_not (pt_val (pe_callB (Ho.q_isEK (K := K) (pn := [p]) rfl rfl) (by rfl) m_isinstance bb_isinstance (pa_cons (pv 0 (hd := nd_error) (hcd := nc_error)) (pa_cons (pe_bltn (v := .ty "ValueError") (u := .type "ValueError") (by rfl) m_ValueError bb_ValueError rfl (hn := nn_ValueError) (hd := nd_ValueError)) pa_nil)) (hn := nn_isinstance) (hdb := nd_isinstance)))) (pw_or1 (pt_cmpR (Ho.neDK (K := K) rfl (Ho.unitsH hr)) (pv 2 (hd := nd_kinds) (hcd := nc_kinds)) (Ho.pe_lcHK (K := K) (own := [("name", 5)]) rfl ⟨p, hot, List.mem_cons_self⟩ sc__law_refusal.nd (pv 3 (hd := nd_names) (hcd := nc_names)) (blkOk_by (N := N__law_refusal) (sc := defScope s__law_refusal) (by decide +kernel)) (fun _ _ _ _ _ => (pg_name (i := 5) sc__law_refusal.nd rfl (Or.inl rfl))) (fun _ _ _ _ _ => pts_nil) (fun _ _ _ _ _ => (pe_cmpR op_eq (pv 5 (hd := nd_name) (hcd := nc_name)) (pv 1 (hd := nd_code) (hcd := nc_code)) (nomark _)))) (nomark _)))))) (pss_one (ps_ret (pe_tup (pa_cons pe_str (pa_cons pe_str (pa_cons pe_non pa_nil)))))) pss_nil)
  (pss_cons (ps_set (i := 4) sc__law_refusal.nd rfl (Or.inl rfl) (pe_bm PySem.F.plainAttrs_list PySem.F.slot_list_index PySem.F.type_list_index mt_index (pv 3 (hd := nd_names) (hcd := nc_names)) (pa_cons (pv 1 (hd := nd_code) (hcd := nc_code)) pa_nil)))
  (pss_cons (ps_if (pt_cmpR op_lt (pv 4 (hd := nd_at) (hcd := nc_at)) pe_int (nomark _)) (pss_one (ps_ret (pe_tup (pa_cons pe_str (pa_cons (pv 1 (hd := nd_code) (hcd := nc_code)) (pa_cons (Ho.pe_xeK (K := K) (pn := [p]) rfl rfl (pv 0 (hd := nd_error) (hcd := nc_error))) pa_nil)))))) pss_nil)
  (pss_cons (ps_if (pt_cmpR op_lt (pv 4 (hd := nd_at) (hcd := nc_at)) pe_int (nomark _)) (pss_one (ps_ret (pe_tup (pa_cons pe_str (pa_cons (pv 1 (hd := nd_code) (hcd := nc_code)) (pa_cons (Ho.pe_xeK (K := K) (pn := [p]) rfl rfl (pv 0 (hd := nd_error) (hcd := nc_error))) pa_nil)))))) pss_nil)
  (pss_cons (ps_if (pt_cmpR op_eq (pv 1 (hd := nd_code) (hcd := nc_code)) pe_str (nomark _)) (pss_one (ps_ret (pe_tup (pa_cons pe_str (pa_cons (pv 1 (hd := nd_code) (hcd := nc_code)) (pa_cons (Ho.pe_xeK (K := K) (pn := [p]) rfl rfl (pv 0 (hd := nd_error) (hcd := nc_error))) pa_nil)))))) pss_nil)
  (pss_cons (ps_if (pt_cmpR op_eq (pv 1 (hd := nd_code) (hcd := nc_code)) pe_str (nomark _)) (pss_one (ps_ret (pe_tup (pa_cons pe_str (pa_cons (pv 1 (hd := nd_code) (hcd := nc_code)) (pa_cons (Ho.pe_xeK (K := K) (pn := [p]) rfl rfl (pv 0 (hd := nd_error) (hcd := nc_error))) pa_nil)))))) pss_nil)
  (pss_cons (ps_if (pt_cmpR op_eq (pv 1 (hd := nd_code) (hcd := nc_code)) pe_str (nomark _)) (pss_one (ps_ret (pe_tup (pa_cons pe_str (pa_cons (pv 1 (hd := nd_code) (hcd := nc_code)) (pa_cons (pe_tup (pa_cons (Ho.pe_xeK (K := K) (pn := [p]) rfl rfl (pv 0 (hd := nd_error) (hcd := nc_error))) (pa_cons (Ho.pe_xeK (K := K) (pn := [p]) rfl rfl (pv 0 (hd := nd_error) (hcd := nc_error))) (pa_cons (Ho.pe_xeK (K := K) (pn := [p]) rfl rfl (pv 0 (hd := nd_error) (hcd := nc_error))) pa_nil)))) pa_nil)))))) pss_nil)
  (pss_cons (ps_if (PW.pt (pw_or (pt_cmpR op_eq (pv 1 (hd := nd_code) (hcd := nc_code)) pe_str (nomark _)) (pw_or1 (pt_cmpR op_eq (pv 1 (hd := nd_code) (hcd := nc_code)) pe_str (nomark _))))) (pss_one (ps_ret (pe_tup (pa_cons pe_str (pa_cons (pv 1 (hd := nd_code) (hcd := nc_code)) (pa_cons (Ho.pe_xeK (K := K) (pn := [p]) rfl rfl (pv 0 (hd := nd_error) (hcd := nc_error))) pa_nil)))))) pss_nil)
  (pss_one (ps_ret (pe_tup (pa_cons pe_str (pa_cons (pv 1 (hd := nd_code) (hcd := nc_code)) (pa_cons pe_non pa_nil)))))))))))))))))))))))), ?_⟩
  refine Rd.at0 (σ := [some (.ref p.1), some (.str cf.1), none, none, none, none]) rfl ?_
  simp only [RefL, List.mem_cons, List.not_mem_nil, or_false] at hcf
  rcases hcf with rfl | rfl | rfl
  · dsimp only at kn hx q
    repeat' (walk_at "rd")
    refine lcMap _ (fun x => .bl (decide (x = .str "BadName"))) (.inl (.inl (by walk_at "hp"))) (by decide) (fun i x L G out Nx hx sG eL lo nx => ?_) (fun L G nL sG eL => ?_)
    · have hm := List.mem_of_getElem? hx
      obtain ⟨n, rfl⟩ : ∃ n, x = .str n := by
        have h := List.all_eq_true.mp (show (Kinds.map V.str).all (fun v => match v with | .str _ => true | _ => false) = true from rfl) x hm
        cases x <;> first | exact ⟨_, rfl⟩ | cases h
      refine turn1 ?_
      repeat' (walk_at "rd")
      refine ⟨rfl, ?_⟩
      repeat' (walk_at "rd")
      exact ⟨out, eL, lo, nx⟩
    refine neBl [true, false, false, false, false, false, false, false, false, false, false, false, false, false, false, false, false, false, false, false, false] (by walk_at "hp") eL (by decide +kernel) ?_
    repeat' (walk_at "rd")
    refine idx 0 (by walk_at "hp") (by decide +kernel) ?_
    repeat' (walk_at "rd")
    all_goals first
    | (exfalso; omega)
    | skip
    refine ⟨p.1, C, [("word", y), ("code", .str "BadName")], y, rfl, ⟨p, dd, List.mem_cons_self, rfl, hc, hd, hv, ?_⟩, kn.xf, kn.nf, rfl, ?_⟩
    · walk_at "hp"
    repeat' (walk_at "rd")
    exact q _ _ (by walk_at "fr") (by walk_at "sm") (by walk_at "hp")
  · dsimp only at kn hx q
    repeat' (walk_at "rd")
    refine lcMap _ (fun x => .bl (decide (x = .str "NoHouse"))) (.inl (.inl (by walk_at "hp"))) (by decide) (fun i x L G out Nx hx sG eL lo nx => ?_) (fun L G nL sG eL => ?_)
    · have hm := List.mem_of_getElem? hx
      obtain ⟨n, rfl⟩ : ∃ n, x = .str n := by
        have h := List.all_eq_true.mp (show (Kinds.map V.str).all (fun v => match v with | .str _ => true | _ => false) = true from rfl) x hm
        cases x <;> first | exact ⟨_, rfl⟩ | cases h
      refine turn1 ?_
      repeat' (walk_at "rd")
      refine ⟨rfl, ?_⟩
      repeat' (walk_at "rd")
      exact ⟨out, eL, lo, nx⟩
    refine neBl [false, true, false, false, false, false, false, false, false, false, false, false, false, false, false, false, false, false, false, false, false] (by walk_at "hp") eL (by decide +kernel) ?_
    repeat' (walk_at "rd")
    refine idx 1 (by walk_at "hp") (by decide +kernel) ?_
    repeat' (walk_at "rd")
    all_goals first
    | (exfalso; omega)
    | skip
    refine ⟨p.1, C, [("word", y), ("code", .str "NoHouse")], y, rfl, ⟨p, dd, List.mem_cons_self, rfl, hc, hd, hv, ?_⟩, kn.xf, kn.nf, rfl, ?_⟩
    · walk_at "hp"
    repeat' (walk_at "rd")
    exact q _ _ (by walk_at "fr") (by walk_at "sm") (by walk_at "hp")
  · dsimp only at kn hx q
    repeat' (walk_at "rd")
    refine lcMap _ (fun x => .bl (decide (x = .str "NoLine"))) (.inl (.inl (by walk_at "hp"))) (by decide) (fun i x L G out Nx hx sG eL lo nx => ?_) (fun L G nL sG eL => ?_)
    · have hm := List.mem_of_getElem? hx
      obtain ⟨n, rfl⟩ : ∃ n, x = .str n := by
        have h := List.all_eq_true.mp (show (Kinds.map V.str).all (fun v => match v with | .str _ => true | _ => false) = true from rfl) x hm
        cases x <;> first | exact ⟨_, rfl⟩ | cases h
      refine turn1 ?_
      repeat' (walk_at "rd")
      refine ⟨rfl, ?_⟩
      repeat' (walk_at "rd")
      exact ⟨out, eL, lo, nx⟩
    refine neBl [false, false, true, false, false, false, false, false, false, false, false, false, false, false, false, false, false, false, false, false, false] (by walk_at "hp") eL (by decide +kernel) ?_
    repeat' (walk_at "rd")
    refine idx 2 (by walk_at "hp") (by decide +kernel) ?_
    repeat' (walk_at "rd")
    all_goals first
    | (exfalso; omega)
    | skip
    refine ⟨p.1, C, [("word", y), ("code", .str "NoLine")], y, rfl, ⟨p, dd, List.mem_cons_self, rfl, hc, hd, hv, ?_⟩, kn.xf, kn.nf, rfl, ?_⟩
    · walk_at "hp"
    repeat' (walk_at "rd")
    exact q _ _ (by walk_at "fr") (by walk_at "sm") (by walk_at "hp")
end
end Kj
namespace Kj
open PySem PySem.Spec PyProof.Rows L2 Rd
local macro_rules | `(tactic| walk_at "hp") => `(tactic| first
  | assumption
  | exact upd_same
  | (refine Eq.trans (upd_ne (by first | assumption | (apply Ne.symm; assumption))) ?_; walk_at "hp"))
local macro_rules | `(tactic| walk_at "sq") => `(tactic| first
  | assumption
  | (refine Or.inl (Or.inl ?_); walk_at "hp"))
local macro_rules | `(tactic| walk_at "st") => `(tactic| first
  | assumption
  | (refine Or.inl (Or.inl ?_); walk_at "hp"))
local macro_rules | `(tactic| walk_at "ar") => `(tactic| first
  | assumption
  | omega
  | decide)
local macro_rules | `(tactic| walk_at "ci") => `(tactic| first
  | (refine (show CMul _ _ from Or.inr ⟨?_, ?_⟩) <;> omega)
  | (refine (show CMul _ _ from Or.inl ⟨?_, ?_⟩) <;> omega)
  | (show CPow _ _; exact ⟨by decide, by decide, by decide⟩)
  | (refine wide_div (b := 63) ?_ ?_ (by decide) (by decide) <;> omega)
  | (show (0 : Int) < _; omega))
local macro_rules | `(tactic| walk_at "ty") => `(tactic| first
  | exact dp_ty (by assumption)
  | exact TyX.base (TyOf.int _)
  | exact TyX.base (TyOf.str _)
  | exact TyX.base (TyOf.bl _)
  | exact TyX.base TyOf.non
  | exact tyL' (by walk_at "sq")
  | exact tyT' (by walk_at "st"))
local macro_rules | `(tactic| walk_at "isi") => `(tactic| first
  | ((with_reducible apply Rd.isiF); (walk_at "ty"); (decide))
  | ((with_reducible apply Rd.isiT); (walk_at "ty"); (decide)))
local macro_rules | `(tactic| walk_at "rd") => `(tactic| first
  | with_reducible apply Rd.seq
  | ((with_reducible apply Rd.var); rfl)
  | with_reducible apply Rd.con
  | with_reducible apply Rd.op
  | with_reducible apply Rd.asg
  | ((with_reducible apply Rd.gname); ((dsimp only [List.set, L2.wipe, Int.reduceToNat]) <;> rfl))
  | with_reducible apply Rd.nxt
  | with_reducible apply Rd.ifs
  | with_reducible apply Rd.test
  | with_reducible apply Rd.testB
  | with_reducible apply Rd.exbl
  | with_reducible apply Rd.ret
  | with_reducible apply Rd.drop
  | with_reducible apply Rd.retN
  | with_reducible apply Rd.nil
  | with_reducible apply Rd.cons
  | with_reducible apply Rd.call
  | with_reducible apply Rd.cb
  | with_reducible apply Rd.and
  | with_reducible apply Rd.or
  | with_reducible apply Rd.not
  | with_reducible apply Rd.andV
  | with_reducible apply Rd.orV
  | with_reducible apply Rd.notV
  | with_reducible apply Rd.ife
  | with_reducible apply Rd.tup
  | with_reducible apply Rd.lst
  | with_reducible apply Rd.un
  | with_reducible apply Rd.chain
  | with_reducible apply Rd.brk
  | with_reducible apply Rd.cnt
  | with_reducible apply Rd.I0
  | with_reducible apply Rd.U1
  | ((with_reducible apply Rd.eq); rfl)
  | ((with_reducible apply Rd.ne); rfl)
  | ((with_reducible apply Rd.I1); (walk_at "ci"))
  | with_reducible apply Rd.lc0
  | with_reducible apply Rd.ln0
  | with_reducible apply Rd.exN
  | ((with_reducible apply Rd.iteSf); (decide +kernel))
  | ((with_reducible apply Rd.iteSt); (decide +kernel))
  | ((with_reducible apply Rd.niQ); (exact Or.inl (by walk_at "sq")); (exact ⟨rfl, rfl⟩); (rfl))
  | ((with_reducible apply Rd.inQ); (exact Or.inl (by walk_at "sq")); (exact ⟨rfl, rfl⟩); (rfl))
  | with_reducible apply Rd.rn1
  | with_reducible apply Rd.in1
  | with_reducible apply Rd.sn1
  | with_reducible apply Rd.bn1
  | with_reducible apply Rd.nn1
  | with_reducible apply Rd.rn2
  | with_reducible apply Rd.in2
  | with_reducible apply Rd.sn2
  | with_reducible apply Rd.bn2
  | with_reducible apply Rd.nn2
  | with_reducible apply Rd.nt1
  | with_reducible apply Rd.nf1
  | (with_reducible refine Rd.iteI (fun _ => ?_) (fun _ => ?_))
  | (with_reducible refine Rd.iteNI (fun _ => ?_) (fun _ => ?_))
  | (with_reducible refine iteT ?_)
  | (with_reducible refine iteF ?_)
  | (with_reducible refine Rd.iteD (fun _ => ?_) (fun _ => ?_))
  | (with_reducible refine Rd.iteN (fun _ => ?_) (fun _ => ?_))
  | with_reducible apply Rd.intI
  | with_reducible apply Rd.intB
  | with_reducible apply Rd.maxQ
  | with_reducible apply Rd.minQ
  | with_reducible apply Rd.absQ
  | with_reducible apply Rd.isN
  | with_reducible apply Rd.noN
  | with_reducible apply Rd.ltZ
  | with_reducible apply Rd.bm
  | with_reducible apply Rd.bm0
  | with_reducible apply Rd.par
  | with_reducible apply Rd.expar
  | with_reducible apply Rd.exint
  | with_reducible apply Rd.ipi
  | with_reducible apply Rd.slice
  | with_reducible apply Rd.noPart
  | with_reducible apply Rd.part
  | with_reducible apply Rd.gcons
  | with_reducible apply Rd.gnil
  | with_reducible apply Rd.iseq
  | with_reducible apply Rd.irng1
  | walk_at "isi"
  | with_reducible apply Rd.forX
  | with_reducible apply Rd.lstRev
  | with_reducible apply Rd.lstRg
  | with_reducible apply Rd.rg1
  | with_reducible apply Rd.rg2
  | with_reducible apply Rd.exint2
  | ((with_reducible apply Rd.exrev); (walk_at "sq"))
  | with_reducible apply Rd.lcX
  | with_reducible apply Rd.yes
  | ((with_reducible apply Rd.exrng1); (constructor <;> omega))
  | ((with_reducible apply Rd.exrng2); (refine ⟨?_, ?_, ?_, ?_⟩ <;> omega))
  | with_reducible apply Rd.irng2
  | ((with_reducible apply Rd.aug); rfl)
  | ((with_reducible apply Rd.exlst); (walk_at "sq"))
  | ((with_reducible apply Rd.gtup); (walk_at "st"); (rfl))
  | ((with_reducible apply Rd.tyL); (walk_at "hp"))
  | ((with_reducible apply Rd.ixL); (walk_at "sq"); (rfl))
  | ((with_reducible apply Rd.ixI); (walk_at "sq"); (omega); (first | assumption | (simp only [List.length_map]; omega)); (intro _ _))
  | (with_reducible refine Rd.gsub ?_)
  | ((with_reducible apply Rd.setL); (walk_at "hp"); (rfl); ((dsimp only [List.set, L2.wipe, Int.reduceToNat]) <;> rfl))
  | ((with_reducible apply Rd.lenQ); (first | exact Or.inl (by walk_at "sq") | exact Or.inr (by walk_at "st")))
  | ((with_reducible apply Rd.listQ); (first | exact Or.inl (by walk_at "sq") | exact Or.inr (by walk_at "st")))
  | ((with_reducible apply Rd.tupQ); (walk_at "sq"))
  | ((with_reducible apply Rd.slL); (walk_at "sq"))
  | ((with_reducible apply Rd.ixT); (walk_at "st"); (rfl))
  | (with_reducible refine Rd.iteB (fun _ => ?_) (fun _ => ?_))
  | (with_reducible refine Rd.iteNB (fun _ => ?_) (fun _ => ?_))
  | (refine Rd.andI (Nat.le_of_ble_eq_true rfl) ?_)
  | dsimp only [List.set])
local macro_rules | `(tactic| walk_at "hp") => `(tactic| first
  | assumption
  | exact upd_same
  | (refine Eq.trans (upd_ne (by first | assumption | (apply Ne.symm; assumption))) ?_; walk_at "hp")
  | (refine hpS (by assumption) ?_; walk_at "hp"))
local macro_rules | `(tactic| walk_at "al") => `(tactic| (with_reducible intro l hl; generalize hG : upd _ l _ = G; have hs := newOne hl hG; clear hG; obtain ⟨hs, he⟩ := hs))
local macro_rules | `(tactic| walk_at "rd") => `(tactic| first
  | walk_at "al"
  | ((with_reducible apply Rd.cat); (walk_at "hp"); (walk_at "hp"); (exact Nat.le_of_ble_eq_true rfl)))
local macro_rules | `(tactic| walk_at "sm") => `(tactic| first
  | assumption
  | exact Same.refl _
  | (refine Same.trans ?_ (by assumption); walk_at "sm"))
local macro_rules | `(tactic| walk_at "fr") => `(tactic| first
  | assumption
  | (refine Same.free (by assumption) ?_; walk_at "fr"))
local macro_rules | `(tactic| walk_at "ty") => `(tactic| first
  | exact dv_ty (by assumption)
  | exact tyD' (by walk_at "hp"))
local macro_rules | `(tactic| walk_at "sz") => `(tactic| first
  | exact sz5 (by omega)
  | (simp only [add_len, one_len]; exact sz5 (by omega)))
local macro_rules | `(tactic| walk_at "rd") => `(tactic| first
  | with_reducible apply Rd.istr
  | with_reducible apply Rd.exstr
  | with_reducible apply Rd.leA
  | with_reducible apply Rd.leZz
  | with_reducible apply Rd.le0
  | with_reducible apply Rd.le9
  | with_reducible apply Rd.niZ
  | ((with_reducible apply Rd.lenZ); (walk_at "sz"))
  | ((with_reducible apply Rd.slZ); (walk_at "sz"))
  | ((with_reducible apply Rd.addZ); (walk_at "sz"))
  | with_reducible apply Rd.raiseX
  | with_reducible apply Rd.exone
  | with_reducible apply Rd.callS
  | with_reducible apply Rd.callP
  | with_reducible apply Rd.xsX
  | with_reducible apply Rd.dnewX
  | with_reducible apply Rd.tyZ)
local macro_rules | `(tactic| walk_at "rd") => `(tactic| first
  | with_reducible apply Rd.seq
  | ((with_reducible apply Rd.var); rfl)
  | with_reducible apply Rd.con
  | with_reducible apply Rd.op
  | with_reducible apply Rd.cons
  | with_reducible apply Rd.nil
  | with_reducible apply Rd.asg
  | ((with_reducible apply Rd.gname); ((dsimp only [List.set, L2.wipe, Int.reduceToNat]) <;> rfl))
  | with_reducible apply Rd.nxt
  | with_reducible apply Rd.ifs
  | with_reducible apply Rd.test
  | with_reducible apply Rd.ret
  | with_reducible apply Rd.call
  | with_reducible apply Rd.cb)
open Ty Ln
section
variable {P : Program} {w : World} {K : PySem.W.Frag} {mg : Str → Option Value} {base : Heap} {D : Str → Addr}
/-- _law_houses(store, most) -/
def spHouses : Sp := fun vs H Q _ => ∃ (st c : Addr) (m : Int), vs = [.ref st, .int m] ∧ StoreAt H st c ∧ 0 ≤ m ∧ m ≤ 1000 ∧ ∀ (L : Addr) (zs : List Str) (H' : Hp), (zs.length : Int) ≤ m → (∀ z ∈ zs, NmS z) → zs.Nodup → H L = none → Go st c H H' → H' L = some (.lst (zs.map V.str)) → Q (.ref L) H'
theorem ok__law_houses (F : Def K mg "_law_houses" s__law_houses P__law_houses) (C__law_take : Cal P w K mg base 1 "_law_take" P__law_take spTake) (C__law_between : Cal P w K mg base 2 "_law_between" P__law_between spBetween) (C__law_names : Cal P w K mg base 3 "_law_names" P__law_names spNames) : Cal P w K mg base 4 "_law_houses" P__law_houses spHouses := by
  refine F.ok sc__law_houses (fun vs H Q E h => ?_) (fun f cdv A outer s H vs Q E hr h => ?_)
  · obtain ⟨st, c, m, rfl, _⟩ := h
    rfl
  obtain ⟨st, c, m, rfl, hs, m0, m1, q⟩ := h
  refine ⟨_, (pss_cons (ps_set (i := 2) sc__law_houses.nd rfl (Or.inl rfl) (pe_cal C__law_between hr (pa_cons (pv 0 (hd := nd_store) (hcd := nc_store)) (pa_cons pe_int (pa_cons pe_int pa_nil))) (hdb := nd__law_between)))
  (pss_cons (ps_set (i := 3) sc__law_houses.nd rfl (Or.inl rfl) (pe_cal C__law_take hr (pa_cons (pv 0 (hd := nd_store) (hcd := nc_store)) (pa_cons pe_int pa_nil)) (hdb := nd__law_take)))
  (pss_cons (ps_if (pt_cmpR op_lt (pv 3 (hd := nd_style) (hcd := nc_style)) pe_int (nomark _)) (pss_one (ps_set (i := 2) sc__law_houses.nd rfl (Or.inl rfl) (pv 3 (hd := nd_style) (hcd := nc_style)))) pss_nil)
  (pss_cons (ps_if (PW.pt (pw_or (pt_cmpR op_eq (pv 3 (hd := nd_style) (hcd := nc_style)) pe_int (nomark _)) (pw_or1 (pt_cmpR op_gt (pv 2 (hd := nd_many) (hcd := nc_many)) (pv 1 (hd := nd_most) (hcd := nc_most)) (nomark _))))) (pss_one (ps_set (i := 2) sc__law_houses.nd rfl (Or.inl rfl) (pv 1 (hd := nd_most) (hcd := nc_most)))) pss_nil)
  (pss_one (ps_ret (pe_cal C__law_names hr (pa_cons (pv 0 (hd := nd_store) (hcd := nc_store)) (pa_cons (pv 2 (hd := nd_many) (hcd := nc_many)) pa_nil)) (hdb := nd__law_names)))))))), ?_⟩
  refine Rd.at0 (σ := [some (.ref st), some (.int m), none, none]) rfl ?_
  repeat' (walk_at "rd")
  refine ⟨st, c, 2, 9, rfl, hs, by decide, fun r H1 r0 r1 g1 => ?_⟩
  repeat' (walk_at "rd")
  refine ⟨st, c, 12, rfl, g1.ok, by decide, fun y H2 y0 y1 g2 => ?_⟩
  have g12 := g1.trans g2
  repeat' (walk_at "rd")
  all_goals
    refine ⟨st, c, _, rfl, g12.ok, by omega, by omega, fun L zs H3 hl hn nd fL g3 eL => ?_⟩
    exact q L zs H3 (by omega) hn nd (g12.free fL) (g12.trans g3) eL
theorem mod_in {k m : Int} (h : 0 < m) : 0 ≤ k % m ∧ k % m < m := ⟨Int.emod_nonneg _ (by omega), Int.emod_lt_of_pos _ h⟩
theorem mod_next {a m : Int} (h0 : 0 ≤ a) (h1 : a < m) (h2 : 2 ≤ m) : (a + 1) % m ≠ a := by
  by_cases e : a + 1 = m
  · rw [e, Int.emod_self]
    omega
  · rw [Int.emod_eq_of_lt (by omega) (by omega)]
    omega
/-- _law_pair(store, houses, shape, k) -/
def spPair : Sp := fun vs H Q _ => ∃ (st c h : Addr) (zs : List Str) (y k : Int), vs = [.ref st, .ref h, .int y, .int k] ∧ StoreAt H st c ∧ h ≠ st ∧ H h = some (.lst (zs.map V.str)) ∧ zs.length ≤ 1000 ∧ zs.Nodup ∧ 0 ≤ k ∧ k ≤ 100000 ∧
  (zs.length < 2 → Q .non H) ∧ ∀ (p : Addr) (a b : Str) (H' : Hp), a ∈ zs → b ∈ zs → cl a < cl b → H p = none → Go st c H H' → H' p = some (.tup [.str a, .str b]) → Q (.ref p) H'
theorem ok__law_pair (F : Def K mg "_law_pair" s__law_pair P__law_pair) (m_len : mg "len" = none) (m_int : mg "int" = none) (m_min : mg "min" = none) (m_max : mg "max" = none) (C__law_take : Cal P w K mg base 1 "_law_take" P__law_take spTake) : Cal P w K mg base 2 "_law_pair" P__law_pair spPair := by
  refine F.ok sc__law_pair (fun vs H Q E h => ?_) (fun f cdv A outer s H vs Q E hr h => ?_)
  · obtain ⟨st, c, h, zs, y, k, rfl, _⟩ := h
    rfl
  obtain ⟨st, c, h, zs, y, k, rfl, hs, hst, eh, lz, nd, k0, k1, qn, q⟩ := h
  refine ⟨_, (pss_cons (ps_set (i := 4) sc__law_pair.nd rfl (Or.inl rfl) (pe_callB q_len (by rfl) m_len PySem.boot_len (pa_cons (pv 1 (hd := nd_houses) (hcd := nc_houses)) pa_nil) (hn := nn_len) (hdb := nd_len)))
  (pss_cons (ps_if (pt_cmpR op_lt (pv 4 (hd := nd_many) (hcd := nc_many)) pe_int (nomark _)) (pss_one (ps_ret pe_non)) pss_nil)
  (pss_cons (ps_set (i := 5) sc__law_pair.nd rfl (Or.inl rfl) (pe_op op_mod (pe_callTy q_intI (by rfl) m_int bb_int (pa_cons (pv 3 (hd := nd_k) (hcd := nc_k)) pa_nil) (hn := nn_int) (hdb := nd_int)) (pv 4 (hd := nd_many) (hcd := nc_many))))
  (pss_cons (ps_set (i := 6) sc__law_pair.nd rfl (Or.inl rfl) (pe_op op_mod (pe_callTy q_intI (by rfl) m_int bb_int (pa_cons (pe_op op_add (pv 3 (hd := nd_k) (hcd := nc_k)) pe_int) pa_nil) (hn := nn_int) (hdb := nd_int)) (pv 4 (hd := nd_many) (hcd := nc_many))))
  (C8.pss_cut (ps_if (pt_cmpR op_eq (pv 2 (hd := nd_shape) (hcd := nc_shape)) pe_int (nomark _)) (pss_cons (ps_set (i := 5) sc__law_pair.nd rfl (Or.inl rfl) pe_int)
  (pss_one (ps_set (i := 6) sc__law_pair.nd rfl (Or.inl rfl) (pe_op op_add pe_int (pe_op op_mod (pe_callTy q_intI (by rfl) m_int bb_int (pa_cons (pv 3 (hd := nd_k) (hcd := nc_k)) pa_nil) (hn := nn_int) (hdb := nd_int)) (pe_op op_sub (pv 4 (hd := nd_many) (hcd := nc_many)) pe_int)))))) pss_nil)
  (C8.pss_cut (ps_if (pt_cmpR op_eq (pv 2 (hd := nd_shape) (hcd := nc_shape)) pe_int (nomark _)) (pss_cons (ps_set (i := 6) sc__law_pair.nd rfl (Or.inl rfl) (pe_op op_add pe_int (pe_op op_mod (pe_callTy q_intI (by rfl) m_int bb_int (pa_cons (pv 3 (hd := nd_k) (hcd := nc_k)) pa_nil) (hn := nn_int) (hdb := nd_int)) (pe_op op_sub (pv 4 (hd := nd_many) (hcd := nc_many)) pe_int))))
  (pss_one (ps_set (i := 5) sc__law_pair.nd rfl (Or.inl rfl) (pe_cal C__law_take hr (pa_cons (pv 0 (hd := nd_store) (hcd := nc_store)) (pa_cons (pv 6 (hd := nd_to) (hcd := nc_to)) pa_nil)) (hdb := nd__law_take))))) pss_nil)
  (C8.pss_cut (ps_if (PW.pt (pw_and (pt_cmpR op_eq (pv 2 (hd := nd_shape) (hcd := nc_shape)) pe_int (nomark _)) (pw_and1 (pt_cmpR op_eq (pe_op op_mod (pe_callTy q_intI (by rfl) m_int bb_int (pa_cons (pv 3 (hd := nd_k) (hcd := nc_k)) pa_nil) (hn := nn_int) (hdb := nd_int)) pe_int) pe_int (nomark _))))) (pss_cons (ps_set (i := 5) sc__law_pair.nd rfl (Or.inl rfl) (pe_op op_mod (pe_callTy q_intI (by rfl) m_int bb_int (pa_cons (pe_op op_fdivW (pv 3 (hd := nd_k) (hcd := nc_k)) pe_int) pa_nil) (hn := nn_int) (hdb := nd_int)) (pv 4 (hd := nd_many) (hcd := nc_many))))
  (pss_one (ps_set (i := 6) sc__law_pair.nd rfl (Or.inl rfl) (pe_op op_mod (pe_callTy q_intI (by rfl) m_int bb_int (pa_cons (pe_op op_add (pv 5 (hd := nd_at) (hcd := nc_at)) pe_int) pa_nil) (hn := nn_int) (hdb := nd_int)) (pv 4 (hd := nd_many) (hcd := nc_many)))))) pss_nil)
  (C8.pss_cut (ps_if (PW.pt (pw_and (pt_cmpR op_eq (pv 2 (hd := nd_shape) (hcd := nc_shape)) pe_int (nomark _)) (pw_and1 (pt_cmpR op_eq (pe_op op_mod (pe_callTy q_intI (by rfl) m_int bb_int (pa_cons (pv 3 (hd := nd_k) (hcd := nc_k)) pa_nil) (hn := nn_int) (hdb := nd_int)) pe_int) pe_int (nomark _))))) (pss_cons (ps_set (i := 5) sc__law_pair.nd rfl (Or.inl rfl) (pe_op op_mod (pe_callTy q_intI (by rfl) m_int bb_int (pa_cons (pe_op op_mul pe_int (pe_op op_fdivW (pv 3 (hd := nd_k) (hcd := nc_k)) pe_int)) pa_nil) (hn := nn_int) (hdb := nd_int)) (pv 4 (hd := nd_many) (hcd := nc_many))))
  (pss_one (ps_set (i := 6) sc__law_pair.nd rfl (Or.inl rfl) (pe_op op_mod (pe_callTy q_intI (by rfl) m_int bb_int (pa_cons (pe_op op_add (pv 5 (hd := nd_at) (hcd := nc_at)) pe_int) pa_nil) (hn := nn_int) (hdb := nd_int)) (pv 4 (hd := nd_many) (hcd := nc_many)))))) pss_nil)
  (C8.pss_cut (ps_if (pt_cmpR op_eq (pv 2 (hd := nd_shape) (hcd := nc_shape)) pe_int (nomark _)) (pss_cons (ps_set (i := 7) sc__law_pair.nd rfl (Or.inl rfl) (pe_op op_fdivW (pv 4 (hd := nd_many) (hcd := nc_many)) pe_int))
  (pss_cons (ps_set (i := 8) sc__law_pair.nd rfl (Or.inl rfl) (pe_op op_mul (pe_cal C__law_take hr (pa_cons (pv 0 (hd := nd_store) (hcd := nc_store)) (pa_cons pe_int pa_nil)) (hdb := nd__law_take)) (pv 7 (hd := nd_half) (hcd := nc_half))))
  (pss_cons (ps_set (i := 9) sc__law_pair.nd rfl (Or.inl rfl) (pe_op op_add (pv 7 (hd := nd_half) (hcd := nc_half)) (pe_op op_mul (pe_op op_sub (pv 4 (hd := nd_many) (hcd := nc_many)) (pe_op op_mul pe_int (pv 7 (hd := nd_half) (hcd := nc_half)))) (pe_callTy q_intB (by rfl) m_int bb_int (pa_cons (pe_cmpR op_gt (pv 8 (hd := nd_low) (hcd := nc_low)) pe_int (nomark _)) pa_nil) (hn := nn_int) (hdb := nd_int)))))
  (pss_cons (ps_set (i := 5) sc__law_pair.nd rfl (Or.inl rfl) (pe_op op_add (pv 8 (hd := nd_low) (hcd := nc_low)) (pe_cal C__law_take hr (pa_cons (pv 0 (hd := nd_store) (hcd := nc_store)) (pa_cons (pv 9 (hd := nd_size) (hcd := nc_size)) pa_nil)) (hdb := nd__law_take))))
  (pss_one (ps_set (i := 6) sc__law_pair.nd rfl (Or.inl rfl) (pe_op op_add (pv 8 (hd := nd_low) (hcd := nc_low)) (pe_cal C__law_take hr (pa_cons (pv 0 (hd := nd_store) (hcd := nc_store)) (pa_cons (pv 9 (hd := nd_size) (hcd := nc_size)) pa_nil)) (hdb := nd__law_take))))))))) pss_nil)
  (C8.pss_cut (ps_if (pt_cmpR op_eq (pv 2 (hd := nd_shape) (hcd := nc_shape)) pe_int (nomark _)) (pss_cons (ps_set (i := 5) sc__law_pair.nd rfl (Or.inl rfl) pe_int)
  (pss_one (ps_set (i := 6) sc__law_pair.nd rfl (Or.inl rfl) pe_int))) pss_nil)
  (C8.pss_cut (ps_if (PW.pt (pw_or (pt_cmpR op_eq (pv 2 (hd := nd_shape) (hcd := nc_shape)) pe_int (nomark _)) (pw_or1 (PW.pt (pw_and (pt_cmpR op_eq (pv 2 (hd := nd_shape) (hcd := nc_shape)) pe_int (nomark _)) (pw_and1 (pt_cmpR op_ge (pv 3 (hd := nd_k) (hcd := nc_k)) (pe_op op_sub (pv 4 (hd := nd_many) (hcd := nc_many)) pe_int) (nomark _)))))))) (pss_cons (ps_set (i := 5) sc__law_pair.nd rfl (Or.inl rfl) (pe_cal C__law_take hr (pa_cons (pv 0 (hd := nd_store) (hcd := nc_store)) (pa_cons (pv 4 (hd := nd_many) (hcd := nc_many)) pa_nil)) (hdb := nd__law_take)))
  (pss_one (ps_set (i := 6) sc__law_pair.nd rfl (Or.inl rfl) (pe_op op_mod (pe_callTy q_intI (by rfl) m_int bb_int (pa_cons (pe_op op_add (pe_op op_add (pv 5 (hd := nd_at) (hcd := nc_at)) pe_int) (pe_cal C__law_take hr (pa_cons (pv 0 (hd := nd_store) (hcd := nc_store)) (pa_cons (pe_op op_sub (pv 4 (hd := nd_many) (hcd := nc_many)) pe_int) pa_nil)) (hdb := nd__law_take))) pa_nil) (hn := nn_int) (hdb := nd_int)) (pv 4 (hd := nd_many) (hcd := nc_many)))))) pss_nil)
  (C8.pss_cut (ps_if (pt_cmpR op_eq (pv 5 (hd := nd_at) (hcd := nc_at)) (pv 6 (hd := nd_to) (hcd := nc_to)) (nomark _)) (pss_one (ps_set (i := 6) sc__law_pair.nd rfl (Or.inl rfl) (pe_op op_mod (pe_callTy q_intI (by rfl) m_int bb_int (pa_cons (pe_op op_add (pv 5 (hd := nd_at) (hcd := nc_at)) pe_int) pa_nil) (hn := nn_int) (hdb := nd_int)) (pv 4 (hd := nd_many) (hcd := nc_many))))) pss_nil)
  (pss_one (ps_ret (pe_tup (pa_cons (pe_callB (q_minZ rfl) (by rfl) m_min bb_min (pa_cons (pe_ix ix_list (pv 1 (hd := nd_houses) (hcd := nc_houses)) (pv 5 (hd := nd_at) (hcd := nc_at)) (fun _ _ => rfl)) (pa_cons (pe_ix ix_list (pv 1 (hd := nd_houses) (hcd := nc_houses)) (pv 6 (hd := nd_to) (hcd := nc_to)) (fun _ _ => rfl)) pa_nil)) (hn := nn_min) (hdb := nd_min)) (pa_cons (pe_callB (q_maxZ rfl) (by rfl) m_max bb_max (pa_cons (pe_ix ix_list (pv 1 (hd := nd_houses) (hcd := nc_houses)) (pv 5 (hd := nd_at) (hcd := nc_at)) (fun _ _ => rfl)) (pa_cons (pe_ix ix_list (pv 1 (hd := nd_houses) (hcd := nc_houses)) (pv 6 (hd := nd_to) (hcd := nc_to)) (fun _ _ => rfl)) pa_nil)) (hn := nn_max) (hdb := nd_max)) pa_nil))))))))))))))))), ?_⟩
  refine Rd.at0 (σ := [some (.ref st), some (.ref h), some (.int y), some (.int k), none, none, none, none, none, none]) rfl ?_
  have lm : (zs.map V.str).length = zs.length := List.length_map ..
  by_cases l2 : zs.length < 2
  · repeat' (walk_at "rd")
    all_goals first
    | exact qn l2
    | (exfalso; omega)
  repeat' (walk_at "rd")
  · exfalso
    omega
  generalize em : ((zs.map V.str).length : Int) = m at *
  have m2 : 2 ≤ m := by omega
  have m3 : m ≤ 1000 := by omega
  have A1 := mod_in (k := k) (m := m - 1) (by omega)
  have A2 : ∀ z : Int, 0 ≤ z % m ∧ z % m < m := fun z => mod_in (by omega)
  have gr := Go.refl hs
  refine Rd.cut (fun σ' G => ∃ (a t : Int) (v7 v8 v9 : Option V), σ' = [some (.ref st), some (.ref h), some (.int y), some (.int k), some (.int m), some (.int a), some (.int t), v7, v8, v9] ∧ 0 ≤ a ∧ a < m ∧ 0 ≤ t ∧ t < m ∧ Go st c H G) ?_ ?_
  · repeat' (walk_at "rd")
    · exact ⟨_, _, _, _, _, rfl, by omega, by omega, by omega, by omega, gr⟩
    · exact ⟨_, _, _, _, _, rfl, (A2 _).1, (A2 _).2, (A2 _).1, (A2 _).2, gr⟩
  rintro σ' G ⟨a, t, v7, v8, v9, rfl, a0, a1, t0, t1, g⟩
  refine Rd.cut (fun σ' G => ∃ (a t : Int) (v7 v8 v9 : Option V), σ' = [some (.ref st), some (.ref h), some (.int y), some (.int k), some (.int m), some (.int a), some (.int t), v7, v8, v9] ∧ 0 ≤ a ∧ a < m ∧ 0 ≤ t ∧ t < m ∧ Go st c H G) ?_ ?_
  · repeat' (walk_at "rd")
    · refine ⟨st, c, _, rfl, g.ok, by omega, fun r H1 r0 r1 g1 => ?_⟩
      repeat' (walk_at "rd")
      exact ⟨_, _, _, _, _, rfl, by omega, by omega, by omega, by omega, g.trans g1⟩
    · exact ⟨_, _, _, _, _, rfl, by omega, by omega, by omega, by omega, g⟩
  rintro σ' G ⟨a, t, v7, v8, v9, rfl, a0, a1, t0, t1, g⟩
  refine Rd.cut (fun σ' G => ∃ (a t : Int) (v7 v8 v9 : Option V), σ' = [some (.ref st), some (.ref h), some (.int y), some (.int k), some (.int m), some (.int a), some (.int t), v7, v8, v9] ∧ 0 ≤ a ∧ a < m ∧ 0 ≤ t ∧ t < m ∧ Go st c H G) ?_ ?_
  · repeat' (walk_at "rd")
    all_goals first
    | exact ⟨_, _, _, _, _, rfl, (A2 _).1, (A2 _).2, (A2 _).1, (A2 _).2, g⟩
    | exact ⟨_, _, _, _, _, rfl, by omega, by omega, by omega, by omega, g⟩
  rintro σ' G ⟨a, t, v7, v8, v9, rfl, a0, a1, t0, t1, g⟩
  refine Rd.cut (fun σ' G => ∃ (a t : Int) (v7 v8 v9 : Option V), σ' = [some (.ref st), some (.ref h), some (.int y), some (.int k), some (.int m), some (.int a), some (.int t), v7, v8, v9] ∧ 0 ≤ a ∧ a < m ∧ 0 ≤ t ∧ t < m ∧ Go st c H G) ?_ ?_
  · repeat' (walk_at "rd")
    all_goals first
    | exact ⟨_, _, _, _, _, rfl, (A2 _).1, (A2 _).2, (A2 _).1, (A2 _).2, g⟩
    | exact ⟨_, _, _, _, _, rfl, by omega, by omega, by omega, by omega, g⟩
  rintro σ' G ⟨a, t, v7, v8, v9, rfl, a0, a1, t0, t1, g⟩
  refine Rd.cut (fun σ' G => ∃ (a t : Int) (v7 v8 v9 : Option V), σ' = [some (.ref st), some (.ref h), some (.int y), some (.int k), some (.int m), some (.int a), some (.int t), v7, v8, v9] ∧ 0 ≤ a ∧ a < m ∧ 0 ≤ t ∧ t < m ∧ Go st c H G) ?_ ?_
  · repeat' (walk_at "rd")
    · refine ⟨st, c, _, rfl, g.ok, by omega, fun r H1 r0 r1 g1 => ?_⟩
      have ml : 1 ≤ m / 2 := by omega
      obtain rfl | rfl : r = 0 ∨ r = 1 := by omega
      · repeat' (walk_at "rd")
        have e5 : (m / 2 + (m - 2 * (m / 2)) * if decide ((0 : Int) < 0 * (m / 2)) = true then 1 else 0) = m / 2 := by
          rw [Int.zero_mul, if_neg (by decide), Int.mul_zero, Int.add_zero]
        rw [e5, Int.zero_mul]
        refine ⟨st, c, _, rfl, g1.ok, by omega, fun r2 H2 r20 r21 g2 => ?_⟩
        repeat' (walk_at "rd")
        refine ⟨st, c, _, rfl, g2.ok, by omega, fun r3 H3 r30 r31 g3 => ?_⟩
        repeat' (walk_at "rd")
        exact ⟨_, _, _, _, _, rfl, by omega, by omega, by omega, by omega, ((g.trans g1).trans g2).trans g3⟩
      · repeat' (walk_at "rd")
        have e5 : (m / 2 + (m - 2 * (m / 2)) * if decide ((0 : Int) < 1 * (m / 2)) = true then 1 else 0) = m - m / 2 := by
          rw [Int.one_mul, if_pos (decide_eq_true (by omega))]
          omega
        rw [e5, Int.one_mul]
        refine ⟨st, c, _, rfl, g1.ok, by omega, fun r2 H2 r20 r21 g2 => ?_⟩
        repeat' (walk_at "rd")
        refine ⟨st, c, _, rfl, g2.ok, by omega, fun r3 H3 r30 r31 g3 => ?_⟩
        repeat' (walk_at "rd")
        exact ⟨_, _, _, _, _, rfl, by omega, by omega, by omega, by omega, ((g.trans g1).trans g2).trans g3⟩
    · exact ⟨_, _, _, _, _, rfl, by omega, by omega, by omega, by omega, g⟩
  rintro σ' G ⟨a, t, v7, v8, v9, rfl, a0, a1, t0, t1, g⟩
  refine Rd.cut (fun σ' G => ∃ (a t : Int) (v7 v8 v9 : Option V), σ' = [some (.ref st), some (.ref h), some (.int y), some (.int k), some (.int m), some (.int a), some (.int t), v7, v8, v9] ∧ 0 ≤ a ∧ a < m ∧ 0 ≤ t ∧ t < m ∧ Go st c H G) ?_ ?_
  · repeat' (walk_at "rd")
    all_goals exact ⟨_, _, _, _, _, rfl, by omega, by omega, by omega, by omega, g⟩
  rintro σ' G ⟨a, t, v7, v8, v9, rfl, a0, a1, t0, t1, g⟩
  refine Rd.cut (fun σ' G => ∃ (a t : Int) (v7 v8 v9 : Option V), σ' = [some (.ref st), some (.ref h), some (.int y), some (.int k), some (.int m), some (.int a), some (.int t), v7, v8, v9] ∧ 0 ≤ a ∧ a < m ∧ 0 ≤ t ∧ t < m ∧ Go st c H G) ?_ ?_
  · repeat' (walk_at "rd")
    all_goals first
    | exact ⟨_, _, _, _, _, rfl, by omega, by omega, by omega, by omega, g⟩
    | skip
    all_goals
      refine ⟨st, c, _, rfl, g.ok, by omega, fun r2 H2 r20 r21 g2 => ?_⟩
      repeat' (walk_at "rd")
      refine ⟨st, c, _, rfl, g2.ok, by omega, fun r3 H3 r30 r31 g3 => ?_⟩
      repeat' (walk_at "rd")
      exact ⟨_, _, _, _, _, rfl, by omega, by omega, (A2 _).1, (A2 _).2, (g.trans g2).trans g3⟩
  rintro σ' G ⟨a, t, v7, v8, v9, rfl, a0, a1, t0, t1, g⟩
  refine Rd.cut (fun σ' G => ∃ (a t : Int) (v7 v8 v9 : Option V), σ' = [some (.ref st), some (.ref h), some (.int y), some (.int k), some (.int m), some (.int a), some (.int t), v7, v8, v9] ∧ 0 ≤ a ∧ a < m ∧ 0 ≤ t ∧ t < m ∧ a ≠ t ∧ Go st c H G) ?_ ?_
  · repeat' (walk_at "rd")
    · exact ⟨_, _, _, _, _, rfl, by omega, by omega, (A2 _).1, (A2 _).2, fun e => mod_next a0 a1 m2 e.symm, g⟩
    · exact ⟨_, _, _, _, _, rfl, by omega, by omega, by omega, by omega, by omega, g⟩
  rintro σ' G ⟨a, t, v7, v8, v9, rfl, a0, a1, t0, t1, ne, g⟩
  have eh' := g.keep _ _ hst eh
  obtain ⟨x, ex⟩ : ∃ x, zs[a.toNat]? = some x := ⟨_, List.getElem?_eq_getElem (by omega)⟩
  obtain ⟨z, ez⟩ : ∃ z, zs[t.toNat]? = some z := ⟨_, List.getElem?_eq_getElem (by omega)⟩
  have nxz : x ≠ z := fun e => by
    obtain ⟨l1, e1⟩ := List.getElem?_eq_some_iff.mp ex
    obtain ⟨l3, e3⟩ := List.getElem?_eq_some_iff.mp ez
    have := (List.getElem_inj nd).mp ((e1.trans e).trans e3.symm)
    omega
  have ex' : (zs.map V.str)[a.toNat]? = some (.str x) := by rw [List.getElem?_map, ex]; rfl
  have ez' : (zs.map V.str)[t.toNat]? = some (.str z) := by rw [List.getElem?_map, ez]; rfl
  have mx := List.mem_of_getElem? ex
  have mz := List.mem_of_getElem? ez
  repeat' (walk_at "rd")
  refine ixN' (.inl (.inl eh')) a0 ex' ?_
  repeat' (walk_at "rd")
  refine ixN' (.inl (.inl eh')) t0 ez' ?_
  repeat' (walk_at "rd")
  refine minZ ?_
  repeat' (walk_at "rd")
  refine ixN' (.inl (.inl eh')) a0 ex' ?_
  repeat' (walk_at "rd")
  refine ixN' (.inl (.inl eh')) t0 ez' ?_
  repeat' (walk_at "rd")
  refine maxZ ?_
  repeat' (walk_at "rd")
  rename_i l n G2 s2 e2
  by_cases c1 : cl z < cl x
  · rw [if_pos c1, if_neg (fun c2 => List.lt_irrefl _ (List.lt_trans c1 c2))] at e2
    exact q l z x G2 mz mx c1 (g.free n) (g.same s2) e2
  · have c2 : cl x < cl z := by
      by_cases c2 : cl x < cl z
      · exact c2
      · exact absurd (le_antisymm' c1 c2) nxz
    rw [if_neg c1, if_pos c2] at e2
    exact q l x z G2 mx mz c2 (g.free n) (g.same s2) e2
end
end Kj
namespace Kj
open PySem PySem.Spec PyProof.Rows L2 Rd
local macro_rules | `(tactic| walk_at "hp") => `(tactic| first
  | assumption
  | exact upd_same
  | (refine Eq.trans (upd_ne (by first | assumption | (apply Ne.symm; assumption))) ?_; walk_at "hp"))
local macro_rules | `(tactic| walk_at "sq") => `(tactic| first
  | assumption
  | (refine Or.inl (Or.inl ?_); walk_at "hp"))
local macro_rules | `(tactic| walk_at "st") => `(tactic| first
  | assumption
  | (refine Or.inl (Or.inl ?_); walk_at "hp"))
local macro_rules | `(tactic| walk_at "ar") => `(tactic| first
  | assumption
  | omega
  | decide)
local macro_rules | `(tactic| walk_at "ci") => `(tactic| first
  | (refine (show CMul _ _ from Or.inr ⟨?_, ?_⟩) <;> omega)
  | (refine (show CMul _ _ from Or.inl ⟨?_, ?_⟩) <;> omega)
  | (show CPow _ _; exact ⟨by decide, by decide, by decide⟩)
  | (refine wide_div (b := 63) ?_ ?_ (by decide) (by decide) <;> omega)
  | (show (0 : Int) < _; omega))
local macro_rules | `(tactic| walk_at "ty") => `(tactic| first
  | exact dp_ty (by assumption)
  | exact TyX.base (TyOf.int _)
  | exact TyX.base (TyOf.str _)
  | exact TyX.base (TyOf.bl _)
  | exact TyX.base TyOf.non
  | exact tyL' (by walk_at "sq")
  | exact tyT' (by walk_at "st"))
local macro_rules | `(tactic| walk_at "isi") => `(tactic| first
  | ((with_reducible apply Rd.isiF); (walk_at "ty"); (decide))
  | ((with_reducible apply Rd.isiT); (walk_at "ty"); (decide)))
local macro_rules | `(tactic| walk_at "rd") => `(tactic| first
  | with_reducible apply Rd.seq
  | ((with_reducible apply Rd.var); rfl)
  | with_reducible apply Rd.con
  | with_reducible apply Rd.op
  | with_reducible apply Rd.asg
  | ((with_reducible apply Rd.gname); ((dsimp only [List.set, L2.wipe, Int.reduceToNat]) <;> rfl))
  | with_reducible apply Rd.nxt
  | with_reducible apply Rd.ifs
  | with_reducible apply Rd.test
  | with_reducible apply Rd.testB
  | with_reducible apply Rd.exbl
  | with_reducible apply Rd.ret
  | with_reducible apply Rd.drop
  | with_reducible apply Rd.retN
  | with_reducible apply Rd.nil
  | with_reducible apply Rd.cons
  | with_reducible apply Rd.call
  | with_reducible apply Rd.cb
  | with_reducible apply Rd.and
  | with_reducible apply Rd.or
  | with_reducible apply Rd.not
  | with_reducible apply Rd.andV
  | with_reducible apply Rd.orV
  | with_reducible apply Rd.notV
  | with_reducible apply Rd.ife
  | with_reducible apply Rd.tup
  | with_reducible apply Rd.lst
  | with_reducible apply Rd.un
  | with_reducible apply Rd.chain
  | with_reducible apply Rd.brk
  | with_reducible apply Rd.cnt
  | with_reducible apply Rd.I0
  | with_reducible apply Rd.U1
  | ((with_reducible apply Rd.eq); rfl)
  | ((with_reducible apply Rd.ne); rfl)
  | ((with_reducible apply Rd.I1); (walk_at "ci"))
  | with_reducible apply Rd.lc0
  | with_reducible apply Rd.ln0
  | with_reducible apply Rd.exN
  | ((with_reducible apply Rd.iteSf); (decide +kernel))
  | ((with_reducible apply Rd.iteSt); (decide +kernel))
  | ((with_reducible apply Rd.niQ); (exact Or.inl (by walk_at "sq")); (exact ⟨rfl, rfl⟩); (rfl))
  | ((with_reducible apply Rd.inQ); (exact Or.inl (by walk_at "sq")); (exact ⟨rfl, rfl⟩); (rfl))
  | with_reducible apply Rd.rn1
  | with_reducible apply Rd.in1
  | with_reducible apply Rd.sn1
  | with_reducible apply Rd.bn1
  | with_reducible apply Rd.nn1
  | with_reducible apply Rd.rn2
  | with_reducible apply Rd.in2
  | with_reducible apply Rd.sn2
  | with_reducible apply Rd.bn2
  | with_reducible apply Rd.nn2
  | with_reducible apply Rd.nt1
  | with_reducible apply Rd.nf1
  | (with_reducible refine Rd.iteI (fun _ => ?_) (fun _ => ?_))
  | (with_reducible refine Rd.iteNI (fun _ => ?_) (fun _ => ?_))
  | (with_reducible refine iteT ?_)
  | (with_reducible refine iteF ?_)
  | (with_reducible refine Rd.iteD (fun _ => ?_) (fun _ => ?_))
  | (with_reducible refine Rd.iteN (fun _ => ?_) (fun _ => ?_))
  | with_reducible apply Rd.intI
  | with_reducible apply Rd.intB
  | with_reducible apply Rd.maxQ
  | with_reducible apply Rd.minQ
  | with_reducible apply Rd.absQ
  | with_reducible apply Rd.isN
  | with_reducible apply Rd.noN
  | with_reducible apply Rd.ltZ
  | with_reducible apply Rd.bm
  | with_reducible apply Rd.bm0
  | with_reducible apply Rd.par
  | with_reducible apply Rd.expar
  | with_reducible apply Rd.exint
  | with_reducible apply Rd.ipi
  | with_reducible apply Rd.slice
  | with_reducible apply Rd.noPart
  | with_reducible apply Rd.part
  | with_reducible apply Rd.gcons
  | with_reducible apply Rd.gnil
  | with_reducible apply Rd.iseq
  | with_reducible apply Rd.irng1
  | walk_at "isi"
  | with_reducible apply Rd.forX
  | with_reducible apply Rd.lstRev
  | with_reducible apply Rd.lstRg
  | with_reducible apply Rd.rg1
  | with_reducible apply Rd.rg2
  | with_reducible apply Rd.exint2
  | ((with_reducible apply Rd.exrev); (walk_at "sq"))
  | with_reducible apply Rd.lcX
  | with_reducible apply Rd.yes
  | ((with_reducible apply Rd.exrng1); (constructor <;> omega))
  | ((with_reducible apply Rd.exrng2); (refine ⟨?_, ?_, ?_, ?_⟩ <;> omega))
  | with_reducible apply Rd.irng2
  | ((with_reducible apply Rd.aug); rfl)
  | ((with_reducible apply Rd.exlst); (walk_at "sq"))
  | ((with_reducible apply Rd.gtup); (walk_at "st"); (rfl))
  | ((with_reducible apply Rd.tyL); (walk_at "hp"))
  | ((with_reducible apply Rd.ixL); (walk_at "sq"); (rfl))
  | ((with_reducible apply Rd.ixI); (walk_at "sq"); (omega); (first | assumption | (simp only [List.length_map]; omega)); (intro _ _))
  | (with_reducible refine Rd.gsub ?_)
  | ((with_reducible apply Rd.setL); (walk_at "hp"); (rfl); ((dsimp only [List.set, L2.wipe, Int.reduceToNat]) <;> rfl))
  | ((with_reducible apply Rd.lenQ); (first | exact Or.inl (by walk_at "sq") | exact Or.inr (by walk_at "st")))
  | ((with_reducible apply Rd.listQ); (first | exact Or.inl (by walk_at "sq") | exact Or.inr (by walk_at "st")))
  | ((with_reducible apply Rd.tupQ); (walk_at "sq"))
  | ((with_reducible apply Rd.slL); (walk_at "sq"))
  | ((with_reducible apply Rd.ixT); (walk_at "st"); (rfl))
  | (with_reducible refine Rd.iteB (fun _ => ?_) (fun _ => ?_))
  | (with_reducible refine Rd.iteNB (fun _ => ?_) (fun _ => ?_))
  | (refine Rd.andI (Nat.le_of_ble_eq_true rfl) ?_)
  | dsimp only [List.set])
local macro_rules | `(tactic| walk_at "hp") => `(tactic| first
  | assumption
  | exact upd_same
  | (refine Eq.trans (upd_ne (by first | assumption | (apply Ne.symm; assumption))) ?_; walk_at "hp")
  | (refine hpS (by assumption) ?_; walk_at "hp"))
local macro_rules | `(tactic| walk_at "al") => `(tactic| (with_reducible intro l hl; generalize hG : upd _ l _ = G; have hs := newOne hl hG; clear hG; obtain ⟨hs, he⟩ := hs))
local macro_rules | `(tactic| walk_at "rd") => `(tactic| first
  | walk_at "al"
  | ((with_reducible apply Rd.cat); (walk_at "hp"); (walk_at "hp"); (exact Nat.le_of_ble_eq_true rfl)))
local macro_rules | `(tactic| walk_at "sm") => `(tactic| first
  | assumption
  | exact Same.refl _
  | (refine Same.trans ?_ (by assumption); walk_at "sm"))
local macro_rules | `(tactic| walk_at "fr") => `(tactic| first
  | assumption
  | (refine Same.free (by assumption) ?_; walk_at "fr"))
local macro_rules | `(tactic| walk_at "ty") => `(tactic| first
  | exact dv_ty (by assumption)
  | exact tyD' (by walk_at "hp"))
local macro_rules | `(tactic| walk_at "rd") => `(tactic| first
  | with_reducible apply Rd.seq
  | ((with_reducible apply Rd.var); rfl)
  | with_reducible apply Rd.con
  | with_reducible apply Rd.op
  | with_reducible apply Rd.cons
  | with_reducible apply Rd.nil
  | with_reducible apply Rd.asg
  | ((with_reducible apply Rd.gname); ((dsimp only [List.set, L2.wipe, Int.reduceToNat]) <;> rfl))
  | with_reducible apply Rd.nxt
  | with_reducible apply Rd.ifs
  | with_reducible apply Rd.test
  | with_reducible apply Rd.ret
  | with_reducible apply Rd.call
  | with_reducible apply Rd.cb)
section
variable {P : Program} {w : World} {K : PySem.W.Frag} {mg : Str → Option Value} {base : Heap} {D : Str → Addr}
/-- what is due: the first error of a list of houses, as its class and the value that it tells -/
abbrev dErr (c : Str) (d : PyData) : Option (Str × PyData) := some (c, d)
def dueD : List PyData → List Str → Option (Str × PyData)
  | [], _ => none
  | d :: ds, seen => match d with
    | .str z => if nmB z = false then dErr "BadName" (.str z) else if z ∈ seen then dErr "Taken" (.str z) else if 32 ≤ seen.length then dErr "TooMany" (.int 32) else dueD ds (seen ++ [z])
    | d => dErr "BadName" d
theorem due_not {d : PyData} {ds : List PyData} {seen : List Str} (h : nameD d = false) : dueD (d :: ds) seen = dErr "BadName" d := by
  cases d with
  | str z =>
    have h : nmB z = false := h
    unfold dueD
    dsimp only
    rw [if_pos h]
  | _ => rfl
theorem due_taken {z : Str} {ds : List PyData} {seen : List Str} (h : nmB z = true) (k : z ∈ seen) : dueD (.str z :: ds) seen = dErr "Taken" (.str z) := by
  unfold dueD
  dsimp only
  rw [if_neg (by rw [h]; exact Bool.noConfusion), if_pos k]
theorem due_many {z : Str} {ds : List PyData} {seen : List Str} (h : nmB z = true) (k : z ∉ seen) (l : 32 ≤ seen.length) : dueD (.str z :: ds) seen = dErr "TooMany" (.int 32) := by
  unfold dueD
  dsimp only
  rw [if_neg (by rw [h]; exact Bool.noConfusion), if_neg k, if_pos l]
theorem due_next {z : Str} {ds : List PyData} {seen : List Str} (h : nmB z = true) (k : z ∉ seen) (l : ¬ 32 ≤ seen.length) : dueD (.str z :: ds) seen = dueD ds (seen ++ [z]) := by
  rw [dueD]
  simp only [h, k, l, if_false, Bool.true_eq_false]
theorem va_at' {H : Hp} {xs : List V} {ds : List PyData} {i : Nat} {x : V} (h : DvAll K H xs ds) (e : xs[i]? = some x) : ∃ d, ds[i]? = some d ∧ Dv K H x d := by
  have lt : i < ds.length := by
    rw [← va_len h]
    exact (List.getElem?_eq_some_iff.mp e).1
  have e2 := List.getElem?_eq_getElem lt
  obtain ⟨v, ev, dv⟩ := va_at _ _ _ _ h e2
  rw [e] at ev
  cases ev
  exact ⟨_, e2, dv⟩
theorem drop_at {α : Type} {l : List α} {i : Nat} {x : α} (h : l[i]? = some x) : l.drop i = x :: l.drop (i + 1) := by
  obtain ⟨lt, e⟩ := List.getElem?_eq_some_iff.mp h
  rw [List.drop_eq_getElem_cons lt, e]
end
end Kj
namespace Kj
open PySem PySem.Spec PyProof.Rows L2 Rd
local macro_rules | `(tactic| walk_at "hp") => `(tactic| first
  | assumption
  | exact upd_same
  | (refine Eq.trans (upd_ne (by first | assumption | (apply Ne.symm; assumption))) ?_; walk_at "hp"))
local macro_rules | `(tactic| walk_at "sq") => `(tactic| first
  | assumption
  | (refine Or.inl (Or.inl ?_); walk_at "hp"))
local macro_rules | `(tactic| walk_at "st") => `(tactic| first
  | assumption
  | (refine Or.inl (Or.inl ?_); walk_at "hp"))
local macro_rules | `(tactic| walk_at "ar") => `(tactic| first
  | assumption
  | omega
  | decide)
local macro_rules | `(tactic| walk_at "ci") => `(tactic| first
  | (refine (show CMul _ _ from Or.inr ⟨?_, ?_⟩) <;> omega)
  | (refine (show CMul _ _ from Or.inl ⟨?_, ?_⟩) <;> omega)
  | (show CPow _ _; exact ⟨by decide, by decide, by decide⟩)
  | (refine wide_div (b := 63) ?_ ?_ (by decide) (by decide) <;> omega)
  | (show (0 : Int) < _; omega))
local macro_rules | `(tactic| walk_at "ty") => `(tactic| first
  | exact dp_ty (by assumption)
  | exact TyX.base (TyOf.int _)
  | exact TyX.base (TyOf.str _)
  | exact TyX.base (TyOf.bl _)
  | exact TyX.base TyOf.non
  | exact tyL' (by walk_at "sq")
  | exact tyT' (by walk_at "st"))
local macro_rules | `(tactic| walk_at "isi") => `(tactic| first
  | ((with_reducible apply Rd.isiF); (walk_at "ty"); (decide))
  | ((with_reducible apply Rd.isiT); (walk_at "ty"); (decide)))
local macro_rules | `(tactic| walk_at "rd") => `(tactic| first
  | with_reducible apply Rd.seq
  | ((with_reducible apply Rd.var); rfl)
  | with_reducible apply Rd.con
  | with_reducible apply Rd.op
  | with_reducible apply Rd.asg
  | ((with_reducible apply Rd.gname); ((dsimp only [List.set, L2.wipe, Int.reduceToNat]) <;> rfl))
  | with_reducible apply Rd.nxt
  | with_reducible apply Rd.ifs
  | with_reducible apply Rd.test
  | with_reducible apply Rd.testB
  | with_reducible apply Rd.exbl
  | with_reducible apply Rd.ret
  | with_reducible apply Rd.drop
  | with_reducible apply Rd.retN
  | with_reducible apply Rd.nil
  | with_reducible apply Rd.cons
  | with_reducible apply Rd.call
  | with_reducible apply Rd.cb
  | with_reducible apply Rd.and
  | with_reducible apply Rd.or
  | with_reducible apply Rd.not
  | with_reducible apply Rd.andV
  | with_reducible apply Rd.orV
  | with_reducible apply Rd.notV
  | with_reducible apply Rd.ife
  | with_reducible apply Rd.tup
  | with_reducible apply Rd.lst
  | with_reducible apply Rd.un
  | with_reducible apply Rd.chain
  | with_reducible apply Rd.brk
  | with_reducible apply Rd.cnt
  | with_reducible apply Rd.I0
  | with_reducible apply Rd.U1
  | ((with_reducible apply Rd.eq); rfl)
  | ((with_reducible apply Rd.ne); rfl)
  | ((with_reducible apply Rd.I1); (walk_at "ci"))
  | with_reducible apply Rd.lc0
  | with_reducible apply Rd.ln0
  | with_reducible apply Rd.exN
  | ((with_reducible apply Rd.iteSf); (decide +kernel))
  | ((with_reducible apply Rd.iteSt); (decide +kernel))
  | ((with_reducible apply Rd.niQ); (exact Or.inl (by walk_at "sq")); (exact ⟨rfl, rfl⟩); (rfl))
  | ((with_reducible apply Rd.inQ); (exact Or.inl (by walk_at "sq")); (exact ⟨rfl, rfl⟩); (rfl))
  | with_reducible apply Rd.rn1
  | with_reducible apply Rd.in1
  | with_reducible apply Rd.sn1
  | with_reducible apply Rd.bn1
  | with_reducible apply Rd.nn1
  | with_reducible apply Rd.rn2
  | with_reducible apply Rd.in2
  | with_reducible apply Rd.sn2
  | with_reducible apply Rd.bn2
  | with_reducible apply Rd.nn2
  | with_reducible apply Rd.nt1
  | with_reducible apply Rd.nf1
  | (with_reducible refine Rd.iteI (fun _ => ?_) (fun _ => ?_))
  | (with_reducible refine Rd.iteNI (fun _ => ?_) (fun _ => ?_))
  | (with_reducible refine iteT ?_)
  | (with_reducible refine iteF ?_)
  | (with_reducible refine Rd.iteD (fun _ => ?_) (fun _ => ?_))
  | (with_reducible refine Rd.iteN (fun _ => ?_) (fun _ => ?_))
  | with_reducible apply Rd.intI
  | with_reducible apply Rd.intB
  | with_reducible apply Rd.maxQ
  | with_reducible apply Rd.minQ
  | with_reducible apply Rd.absQ
  | with_reducible apply Rd.isN
  | with_reducible apply Rd.noN
  | with_reducible apply Rd.ltZ
  | with_reducible apply Rd.bm
  | with_reducible apply Rd.bm0
  | with_reducible apply Rd.par
  | with_reducible apply Rd.expar
  | with_reducible apply Rd.exint
  | with_reducible apply Rd.ipi
  | with_reducible apply Rd.slice
  | with_reducible apply Rd.noPart
  | with_reducible apply Rd.part
  | with_reducible apply Rd.gcons
  | with_reducible apply Rd.gnil
  | with_reducible apply Rd.iseq
  | with_reducible apply Rd.irng1
  | walk_at "isi"
  | with_reducible apply Rd.forX
  | with_reducible apply Rd.lstRev
  | with_reducible apply Rd.lstRg
  | with_reducible apply Rd.rg1
  | with_reducible apply Rd.rg2
  | with_reducible apply Rd.exint2
  | ((with_reducible apply Rd.exrev); (walk_at "sq"))
  | with_reducible apply Rd.lcX
  | with_reducible apply Rd.yes
  | ((with_reducible apply Rd.exrng1); (constructor <;> omega))
  | ((with_reducible apply Rd.exrng2); (refine ⟨?_, ?_, ?_, ?_⟩ <;> omega))
  | with_reducible apply Rd.irng2
  | ((with_reducible apply Rd.aug); rfl)
  | ((with_reducible apply Rd.exlst); (walk_at "sq"))
  | ((with_reducible apply Rd.gtup); (walk_at "st"); (rfl))
  | ((with_reducible apply Rd.tyL); (walk_at "hp"))
  | ((with_reducible apply Rd.ixL); (walk_at "sq"); (rfl))
  | ((with_reducible apply Rd.ixI); (walk_at "sq"); (omega); (first | assumption | (simp only [List.length_map]; omega)); (intro _ _))
  | (with_reducible refine Rd.gsub ?_)
  | ((with_reducible apply Rd.setL); (walk_at "hp"); (rfl); ((dsimp only [List.set, L2.wipe, Int.reduceToNat]) <;> rfl))
  | ((with_reducible apply Rd.lenQ); (first | exact Or.inl (by walk_at "sq") | exact Or.inr (by walk_at "st")))
  | ((with_reducible apply Rd.listQ); (first | exact Or.inl (by walk_at "sq") | exact Or.inr (by walk_at "st")))
  | ((with_reducible apply Rd.tupQ); (walk_at "sq"))
  | ((with_reducible apply Rd.slL); (walk_at "sq"))
  | ((with_reducible apply Rd.ixT); (walk_at "st"); (rfl))
  | (with_reducible refine Rd.iteB (fun _ => ?_) (fun _ => ?_))
  | (with_reducible refine Rd.iteNB (fun _ => ?_) (fun _ => ?_))
  | (refine Rd.andI (Nat.le_of_ble_eq_true rfl) ?_)
  | dsimp only [List.set])
local macro_rules | `(tactic| walk_at "hp") => `(tactic| first
  | assumption
  | exact upd_same
  | (refine Eq.trans (upd_ne (by first | assumption | (apply Ne.symm; assumption))) ?_; walk_at "hp")
  | (refine hpS (by assumption) ?_; walk_at "hp"))
local macro_rules | `(tactic| walk_at "al") => `(tactic| (with_reducible intro l hl; generalize hG : upd _ l _ = G; have hs := newOne hl hG; clear hG; obtain ⟨hs, he⟩ := hs))
local macro_rules | `(tactic| walk_at "rd") => `(tactic| first
  | walk_at "al"
  | ((with_reducible apply Rd.cat); (walk_at "hp"); (walk_at "hp"); (exact Nat.le_of_ble_eq_true rfl)))
local macro_rules | `(tactic| walk_at "sm") => `(tactic| first
  | assumption
  | exact Same.refl _
  | (refine Same.trans ?_ (by assumption); walk_at "sm"))
local macro_rules | `(tactic| walk_at "fr") => `(tactic| first
  | assumption
  | (refine Same.free (by assumption) ?_; walk_at "fr"))
local macro_rules | `(tactic| walk_at "ty") => `(tactic| first
  | exact dv_ty (by assumption)
  | exact tyD' (by walk_at "hp"))
local macro_rules | `(tactic| walk_at "sz") => `(tactic| first
  | exact sz5 (by omega)
  | (simp only [add_len, one_len]; exact sz5 (by omega)))
local macro_rules | `(tactic| walk_at "rd") => `(tactic| first
  | with_reducible apply Rd.istr
  | with_reducible apply Rd.exstr
  | with_reducible apply Rd.leA
  | with_reducible apply Rd.leZz
  | with_reducible apply Rd.le0
  | with_reducible apply Rd.le9
  | with_reducible apply Rd.niZ
  | ((with_reducible apply Rd.lenZ); (walk_at "sz"))
  | ((with_reducible apply Rd.slZ); (walk_at "sz"))
  | ((with_reducible apply Rd.addZ); (walk_at "sz"))
  | with_reducible apply Rd.raiseX
  | with_reducible apply Rd.exone
  | with_reducible apply Rd.callS
  | with_reducible apply Rd.callP
  | with_reducible apply Rd.xsX
  | with_reducible apply Rd.dnewX
  | with_reducible apply Rd.tyZ)
local macro_rules | `(tactic| walk_at "rd") => `(tactic| first
  | with_reducible apply Rd.seq
  | ((with_reducible apply Rd.var); rfl)
  | with_reducible apply Rd.con
  | with_reducible apply Rd.op
  | with_reducible apply Rd.cons
  | with_reducible apply Rd.nil
  | with_reducible apply Rd.asg
  | ((with_reducible apply Rd.gname); ((dsimp only [List.set, L2.wipe, Int.reduceToNat]) <;> rfl))
  | with_reducible apply Rd.nxt
  | with_reducible apply Rd.ifs
  | with_reducible apply Rd.test
  | with_reducible apply Rd.ret
  | with_reducible apply Rd.call
  | with_reducible apply Rd.cb)
open Ty Ln
section
variable {P : Program} {w : World} {K : PySem.W.Frag} {mg : Str → Option Value} {base : Heap} {D : Str → Addr}
/-- a line's three words -/
def tr (t : Str × Str × Str) : List Str := [t.1, t.2.1, t.2.2]
/-- lines of the houses zs -/
structure LinesOk (zs : List Str) (ts : List (Str × Str × Str)) : Prop where
  nd : (ts.map (·.1)).Nodup
  nm : ∀ t ∈ ts, NmS t.1
  en : ∀ t ∈ ts, t.2.1 ∈ zs ∧ t.2.2 ∈ zs ∧ cl t.2.1 < cl t.2.2
theorem wvs_go {st c : Addr} {H H' : Hp} {vs : List V} {ks : List (List Str)} (h : WVs H vs ks) (o : StoreAt H st c) (g : Go st c H H') : WVs H' vs ks := h.all fun v k _ kv => by
  obtain ⟨ok, t, e, ht⟩ := kv
  refine ⟨ok, t, e, g.keep _ _ (fun z => ?_) ht⟩
  obtain ⟨ns, p, d, s, t', h1, _⟩ := o
  rw [z, h1] at ht
  cases ht
theorem wl_go {st c a : Addr} {H H' : Hp} {ks : List (List Str)} (h : WL H a ks) (o : StoreAt H st c) (g : Go st c H H') (n : a ≠ st) : WL H' a ks := by
  obtain ⟨vs, e, k⟩ := h
  exact ⟨vs, g.keep _ _ n e, wvs_go k o g⟩
theorem wvs_put {H : Hp} {a : Addr} {xs ys : List V} {vs : List V} {ks : List (List Str)} (e : H a = some (.lst xs)) (h : WVs H vs ks) : WVs (upd H a (.lst ys)) vs ks := h.all fun v k _ kv => by
  obtain ⟨ok, t, e', ht⟩ := kv
  exact ⟨ok, t, e', (upd_ne (fun z => by rw [z, e] at ht; cases ht)).trans ht⟩
/-- _law_lines(store, houses, most) -/
def spLines : Sp := fun vs H Q _ => ∃ (st c h : Addr) (zs : List Str) (m : Int), vs = [.ref st, .ref h, .int m] ∧ StoreAt H st c ∧ h ≠ st ∧ H h = some (.lst (zs.map V.str)) ∧ zs.length ≤ 1000 ∧ zs.Nodup ∧ (∀ z ∈ zs, NmS z) ∧ 0 ≤ m ∧ m ≤ 1000 ∧
  ∀ (L : Addr) (ts : List (Str × Str × Str)) (H' : Hp), (ts.length : Int) ≤ m → LinesOk zs ts → H L = none → Go st c H H' → WL H' L (ts.map tr) → Q (.ref L) H'
theorem ok__law_lines (F : Def K mg "_law_lines" s__law_lines P__law_lines) (m_len : mg "len" = none) (m_range : mg "range" = none) (C__law_take : Cal P w K mg base 1 "_law_take" P__law_take spTake) (C__law_between : Cal P w K mg base 2 "_law_between" P__law_between spBetween) (C__law_pair : Cal P w K mg base 2 "_law_pair" P__law_pair spPair) (C__law_line_names : Cal P w K mg base 4 "_law_line_names" P__law_line_names spLineNames) : Cal P w K mg base 5 "_law_lines" P__law_lines spLines := by
  refine F.ok sc__law_lines (fun vs H Q E h => ?_) (fun f cdv A outer s H vs Q E hr h => ?_)
  · obtain ⟨st, c, h, zs, m, rfl, _⟩ := h
    rfl
  obtain ⟨st, c, h, zs, m, rfl, hs, hst, eh, lz, ndz, mz, m0, m1, q⟩ := h
  refine ⟨_, (pss_cons (ps_if (pt_cmpR op_lt (pe_callB q_len (by rfl) m_len PySem.boot_len (pa_cons (pv 1 (hd := nd_houses) (hcd := nc_houses)) pa_nil) (hn := nn_len) (hdb := nd_len)) pe_int (nomark _)) (pss_one (ps_ret (pe_lst pa_nil))) pss_nil)
  (pss_cons (ps_set (i := 3) sc__law_lines.nd rfl (Or.inl rfl) (pe_cal C__law_between hr (pa_cons (pv 0 (hd := nd_store) (hcd := nc_store)) (pa_cons pe_int (pa_cons (pv 2 (hd := nd_most) (hcd := nc_most)) pa_nil))) (hdb := nd__law_between)))
  (pss_cons (ps_set (i := 4) sc__law_lines.nd rfl (Or.inl rfl) (pe_cal C__law_take hr (pa_cons (pv 0 (hd := nd_store) (hcd := nc_store)) (pa_cons pe_int pa_nil)) (hdb := nd__law_take)))
  (pss_cons (ps_set (i := 5) sc__law_lines.nd rfl (Or.inl rfl) (pe_cal C__law_line_names hr (pa_cons (pv 0 (hd := nd_store) (hcd := nc_store)) (pa_cons (pv 1 (hd := nd_houses) (hcd := nc_houses)) (pa_cons (pv 3 (hd := nd_many) (hcd := nc_many)) pa_nil))) (hdb := nd__law_line_names)))
  (pss_cons (ps_set (i := 6) sc__law_lines.nd rfl (Or.inl rfl) (pe_lst pa_nil))
  (pss_cons (ps_for PassesOwn.never rfl (pi_range1 (by rfl) m_range (pa_cons (pv 3 (hd := nd_many) (hcd := nc_many)) pa_nil)) (pg_name (i := 7) sc__law_lines.nd rfl (Or.inl rfl)) (pss_cons (ps_set (i := 8) sc__law_lines.nd rfl (Or.inl rfl) (pe_cal C__law_pair hr (pa_cons (pv 0 (hd := nd_store) (hcd := nc_store)) (pa_cons (pv 1 (hd := nd_houses) (hcd := nc_houses)) (pa_cons (pv 4 (hd := nd_shape) (hcd := nc_shape)) (pa_cons (pv 7 (hd := nd_k) (hcd := nc_k)) pa_nil)))) (hdb := nd__law_pair)))
  (pss_one (ps_expr (pe_bm PySem.F.plainAttrs_list PySem.F.slot_list_append PySem.F.type_list_append mt_append (pv 6 (hd := nd_lines) (hcd := nc_lines)) (pa_cons (pe_tup (pa_cons (pe_ix ix_list (pv 5 (hd := nd_names) (hcd := nc_names)) (pv 7 (hd := nd_k) (hcd := nc_k)) (fun _ _ => rfl)) (pa_cons (pe_ix ix_tup (pv 8 (hd := nd_pair) (hcd := nc_pair)) pe_int (fun _ _ => rfl)) (pa_cons (pe_ix ix_tup (pv 8 (hd := nd_pair) (hcd := nc_pair)) pe_int (fun _ _ => rfl)) pa_nil)))) pa_nil))))))
  (pss_one (ps_ret (pv 6 (hd := nd_lines) (hcd := nc_lines)))))))))), ?_⟩
  refine Rd.at0 (σ := [some (.ref st), some (.ref h), some (.int m), none, none, none, none, none, none]) rfl ?_
  have lm : (zs.map V.str).length = zs.length := List.length_map ..
  repeat' (walk_at "rd")
  · rename_i l p G s1 e1
    exact q l [] G (by simpa using m0) ⟨List.nodup_nil, (fun _ h => nomatch h), fun _ h => nomatch h⟩ p ((Go.refl hs).same s1) ⟨[], e1, trivial⟩
  refine ⟨st, c, 0, m, rfl, hs, by omega, fun mm H1 r0 r1 g1 => ?_⟩
  repeat' (walk_at "rd")
  refine ⟨st, c, 8, rfl, g1.ok, by decide, fun y H2 y0 y1 g2 => ?_⟩
  have g12 := g1.trans g2
  repeat' (walk_at "rd")
  refine ⟨st, c, h, zs, mm, rfl, g12.ok, hst, g12.keep _ _ hst eh, lz, ndz, mz, by omega, by omega, fun N ns H3 ln mn ndn fN g3 eN => ?_⟩
  have g13 := g12.trans g3
  have oN := g12.ok.off fN
  repeat' (walk_at "rd")
  rename_i L p G s4 e4
  have fL := g13.free p
  have oL := (Go.refl hs).ok.off fL
  have g14 := g13.same s4
  have eN4 := s4 _ _ eN
  have neNL : N ≠ L := fun z => by rw [← z, eN] at p; cases p
  refine forR (fun i σ H' => ∃ (vs : List V) (ts : List (Str × Str × Str)) (v7 v8 : Option V), σ = [some (.ref st), some (.ref h), some (.int m), some (.int mm), some (.int y), some (.ref N), some (.ref L), v7, v8] ∧ ts.map (·.1) = ns.take i ∧ (∀ t ∈ ts, t.2.1 ∈ zs ∧ t.2.2 ∈ zs ∧ cl t.2.1 < cl t.2.2) ∧ H' L = some (.lst vs) ∧ WVs H' vs (ts.map tr) ∧ Go st c H H' ∧ H' N = some (.lst (ns.map V.str)))
    ⟨[], [], none, none, rfl, rfl, (fun _ h => nomatch h), e4, trivial, g14, eN4⟩ ?_ ?_
  · rintro i σ H' hi ⟨vs, ts, v7, v8, rfl, hn, he, eL, wv, g', eN'⟩
    have e0 : (0 : Int) + (i : Int) = (i : Int) := by omega
    have lns : i < ns.length := by omega
    have lts : ts.length = i := by
      have := congrArg List.length hn
      rw [List.length_map, List.length_take] at this
      omega
    repeat' (walk_at "rd")
    rw [e0]
    refine ⟨st, c, h, zs, y, _, rfl, g'.ok, hst, g'.keep _ _ hst eh, lz, ndz, by omega, by omega, fun l2 => absurd l2 (by omega), fun p2 a b G2 ma mb lab fp g2 e2 => ?_⟩
    have eL2 := g2.keep _ _ oL.1 eL
    have eN2 := g2.keep _ _ (hs.off (g12.free fN)).1 eN'
    have wv2 := wvs_go wv g'.ok g2
    have en : (ns.map V.str)[((i : Nat) : Int).toNat]? = some (.str ns[i]) := by
      rw [List.getElem?_map, show ((i : Nat) : Int).toNat = i from rfl, List.getElem?_eq_getElem lns]
      rfl
    repeat' (walk_at "rd")
    refine ixN' (.inl (.inl eN2)) (by omega) en ?_
    repeat' (walk_at "rd")
    rename_i t n G3 s3 e3
    have eL3 := s3 _ _ eL2
    have lvs : vs.length = i := by rw [wv2.len, List.length_map, lts]
    refine append eL3 (by rw [lvs]; exact sz5' (by omega)) ?_
    repeat' (walk_at "rd")
    have net : L ≠ t := fun z => by rw [← z, eL2] at n; cases n
    refine ⟨vs ++ [.ref t], ts ++ [(ns[i], a, b)], _, _, rfl, ?_, fun u hu => ?_, upd_same, ?_, ((g'.trans g2).same s3).write fL oL _, (upd_ne neNL).trans (s3 _ _ eN2)⟩
    · rw [List.map_append, hn, List.take_add_one, List.getElem?_eq_getElem lns]
      rfl
    · rcases List.mem_append.mp hu with hu | hu
      · exact he u hu
      · rw [List.mem_singleton.mp hu]
        exact ⟨ma, mb, lab⟩
    · rw [List.map_append]
      refine wvs_put eL3 ((wv2.same s3).app ⟨⟨fun z hz => ?_, t, rfl, e3⟩, trivial⟩)
      have hz : z = ns[i] ∨ z = a ∨ z = b := by
        simpa [tr] using hz
      rcases hz with rfl | rfl | rfl
      · exact nm_ok (mn _ (List.getElem_mem lns))
      · exact nm_ok (mz _ ma)
      · exact nm_ok (mz _ mb)
  · rintro σ H' ⟨vs, ts, v7, v8, rfl, hn, he, eL, wv, g', eN'⟩
    repeat' (walk_at "rd")
    have hn : ts.map (·.1) = ns.take mm.toNat := hn
    have lts : ts.length ≤ ns.length := by
      have := congrArg List.length hn
      rw [List.length_map, List.length_take] at this
      omega
    refine q L ts H' (by omega) ⟨?_, fun t ht => ?_, he⟩ fL g' ⟨vs, eL, wv⟩
    · rw [hn]
      exact ndn.sublist (List.take_sublist _ _)
    · have : t.1 ∈ ts.map (·.1) := List.mem_map.mpr ⟨t, ht, rfl⟩
      rw [hn] at this
      exact mn _ (List.mem_of_mem_take this)
/-- _law_web(store, most) -/
def spWeb : Sp := fun vs H Q _ => ∃ (st c : Addr) (m : Int), vs = [.ref st, .int m] ∧ StoreAt H st c ∧ 2 ≤ m ∧ m ≤ 200 ∧
  ∀ (L h l : Addr) (zs : List Str) (ts : List (Str × Str × Str)) (H' : Hp), (zs.length : Int) ≤ m → zs.Nodup → (∀ z ∈ zs, NmS z) → ts.length ≤ 96 → LinesOk zs ts → H L = none → H h = none → H l = none → Go st c H H' → H' L = some (.lst [.ref h, .ref l]) → H' h = some (.lst (zs.map V.str)) → WL H' l (ts.map tr) → Q (.ref L) H'
theorem ok__law_web (F : Def K mg "_law_web" s__law_web P__law_web) (m_min : mg "min" = none) (C__law_take : Cal P w K mg base 1 "_law_take" P__law_take spTake) (C__law_houses : Cal P w K mg base 4 "_law_houses" P__law_houses spHouses) (C__law_lines : Cal P w K mg base 5 "_law_lines" P__law_lines spLines) : Cal P w K mg base 6 "_law_web" P__law_web spWeb := by
  refine F.ok sc__law_web (fun vs H Q E h => ?_) (fun f cdv A outer s H vs Q E hr h => ?_)
  · obtain ⟨st, c, m, rfl, _⟩ := h
    rfl
  obtain ⟨st, c, m, rfl, hs, m0, m1, q⟩ := h
  refine ⟨_, (pss_cons (ps_if (pt_cmpR op_eq (pe_cal C__law_take hr (pa_cons (pv 0 (hd := nd_store) (hcd := nc_store)) (pa_cons pe_int pa_nil)) (hdb := nd__law_take)) pe_int (nomark _)) (pss_cons (ps_set (i := 2) sc__law_web.nd rfl (Or.inl rfl) (pe_cal C__law_houses hr (pa_cons (pv 0 (hd := nd_store) (hcd := nc_store)) (pa_cons (pv 1 (hd := nd_most) (hcd := nc_most)) pa_nil)) (hdb := nd__law_houses)))
  (pss_one (ps_ret (pe_lst (pa_cons (pv 2 (hd := nd_houses) (hcd := nc_houses)) (pa_cons (pe_cal C__law_lines hr (pa_cons (pv 0 (hd := nd_store) (hcd := nc_store)) (pa_cons (pv 2 (hd := nd_houses) (hcd := nc_houses)) (pa_cons (pe_callB (q_min rfl) (by rfl) m_min bb_min (pa_cons pe_int (pa_cons (pe_op op_mul pe_int (pv 1 (hd := nd_most) (hcd := nc_most))) pa_nil)) (hn := nn_min) (hdb := nd_min)) pa_nil))) (hdb := nd__law_lines)) pa_nil)))))) pss_nil)
  (pss_cons (ps_set (i := 2) sc__law_web.nd rfl (Or.inl rfl) (pe_cal C__law_houses hr (pa_cons (pv 0 (hd := nd_store) (hcd := nc_store)) (pa_cons (pe_callB (q_min rfl) (by rfl) m_min bb_min (pa_cons pe_int (pa_cons (pv 1 (hd := nd_most) (hcd := nc_most)) pa_nil)) (hn := nn_min) (hdb := nd_min)) pa_nil)) (hdb := nd__law_houses)))
  (pss_one (ps_ret (pe_lst (pa_cons (pv 2 (hd := nd_houses) (hcd := nc_houses)) (pa_cons (pe_cal C__law_lines hr (pa_cons (pv 0 (hd := nd_store) (hcd := nc_store)) (pa_cons (pv 2 (hd := nd_houses) (hcd := nc_houses)) (pa_cons pe_int pa_nil))) (hdb := nd__law_lines)) pa_nil))))))), ?_⟩
  refine Rd.at0 (σ := [some (.ref st), some (.int m), none]) rfl ?_
  repeat' (walk_at "rd")
  refine ⟨st, c, 10, rfl, hs, by decide, fun r H1 r0 r1 g1 => ?_⟩
  repeat' (walk_at "rd")
  all_goals
    refine ⟨st, c, _, rfl, g1.ok, by omega, by omega, fun h zs H2 lz mz ndz fh g2 eh => ?_⟩
    have oh := g1.ok.off fh
    repeat' (walk_at "rd")
    refine ⟨st, c, h, zs, _, rfl, g2.ok, oh.1, eh, by omega, ndz, mz, by omega, by omega, fun l ts H3 lt ok fl g3 wl => ?_⟩
    have eh3 := g3.keep _ _ oh.1 eh
    repeat' (walk_at "rd")
    rename_i L n G s e
    exact q L h l zs ts G (by omega) ndz mz (by omega) ok (((g1.trans g2).trans g3).free n) (g1.free fh) ((g1.trans g2).free fl) (((g1.trans g2).trans g3).same s) e (s _ _ eh3) (wl.same s)
end
end Kj
namespace Kj
open PySem PySem.Spec PyProof.Rows L2 Rd
local macro_rules | `(tactic| walk_at "hp") => `(tactic| first
  | assumption
  | exact upd_same
  | (refine Eq.trans (upd_ne (by first | assumption | (apply Ne.symm; assumption))) ?_; walk_at "hp"))
local macro_rules | `(tactic| walk_at "sq") => `(tactic| first
  | assumption
  | (refine Or.inl (Or.inl ?_); walk_at "hp"))
local macro_rules | `(tactic| walk_at "st") => `(tactic| first
  | assumption
  | (refine Or.inl (Or.inl ?_); walk_at "hp"))
local macro_rules | `(tactic| walk_at "ar") => `(tactic| first
  | assumption
  | omega
  | decide)
local macro_rules | `(tactic| walk_at "ci") => `(tactic| first
  | (refine (show CMul _ _ from Or.inr ⟨?_, ?_⟩) <;> omega)
  | (refine (show CMul _ _ from Or.inl ⟨?_, ?_⟩) <;> omega)
  | (show CPow _ _; exact ⟨by decide, by decide, by decide⟩)
  | (refine wide_div (b := 63) ?_ ?_ (by decide) (by decide) <;> omega)
  | (show (0 : Int) < _; omega))
local macro_rules | `(tactic| walk_at "ty") => `(tactic| first
  | exact dp_ty (by assumption)
  | exact TyX.base (TyOf.int _)
  | exact TyX.base (TyOf.str _)
  | exact TyX.base (TyOf.bl _)
  | exact TyX.base TyOf.non
  | exact tyL' (by walk_at "sq")
  | exact tyT' (by walk_at "st"))
local macro_rules | `(tactic| walk_at "isi") => `(tactic| first
  | ((with_reducible apply Rd.isiF); (walk_at "ty"); (decide))
  | ((with_reducible apply Rd.isiT); (walk_at "ty"); (decide)))
local macro_rules | `(tactic| walk_at "rd") => `(tactic| first
  | with_reducible apply Rd.seq
  | ((with_reducible apply Rd.var); rfl)
  | with_reducible apply Rd.con
  | with_reducible apply Rd.op
  | with_reducible apply Rd.asg
  | ((with_reducible apply Rd.gname); ((dsimp only [List.set, L2.wipe, Int.reduceToNat]) <;> rfl))
  | with_reducible apply Rd.nxt
  | with_reducible apply Rd.ifs
  | with_reducible apply Rd.test
  | with_reducible apply Rd.testB
  | with_reducible apply Rd.exbl
  | with_reducible apply Rd.ret
  | with_reducible apply Rd.drop
  | with_reducible apply Rd.retN
  | with_reducible apply Rd.nil
  | with_reducible apply Rd.cons
  | with_reducible apply Rd.call
  | with_reducible apply Rd.cb
  | with_reducible apply Rd.and
  | with_reducible apply Rd.or
  | with_reducible apply Rd.not
  | with_reducible apply Rd.andV
  | with_reducible apply Rd.orV
  | with_reducible apply Rd.notV
  | with_reducible apply Rd.ife
  | with_reducible apply Rd.tup
  | with_reducible apply Rd.lst
  | with_reducible apply Rd.un
  | with_reducible apply Rd.chain
  | with_reducible apply Rd.brk
  | with_reducible apply Rd.cnt
  | with_reducible apply Rd.I0
  | with_reducible apply Rd.U1
  | ((with_reducible apply Rd.eq); rfl)
  | ((with_reducible apply Rd.ne); rfl)
  | ((with_reducible apply Rd.I1); (walk_at "ci"))
  | with_reducible apply Rd.lc0
  | with_reducible apply Rd.ln0
  | with_reducible apply Rd.exN
  | ((with_reducible apply Rd.iteSf); (decide +kernel))
  | ((with_reducible apply Rd.iteSt); (decide +kernel))
  | ((with_reducible apply Rd.niQ); (exact Or.inl (by walk_at "sq")); (exact ⟨rfl, rfl⟩); (rfl))
  | ((with_reducible apply Rd.inQ); (exact Or.inl (by walk_at "sq")); (exact ⟨rfl, rfl⟩); (rfl))
  | with_reducible apply Rd.rn1
  | with_reducible apply Rd.in1
  | with_reducible apply Rd.sn1
  | with_reducible apply Rd.bn1
  | with_reducible apply Rd.nn1
  | with_reducible apply Rd.rn2
  | with_reducible apply Rd.in2
  | with_reducible apply Rd.sn2
  | with_reducible apply Rd.bn2
  | with_reducible apply Rd.nn2
  | with_reducible apply Rd.nt1
  | with_reducible apply Rd.nf1
  | (with_reducible refine Rd.iteI (fun _ => ?_) (fun _ => ?_))
  | (with_reducible refine Rd.iteNI (fun _ => ?_) (fun _ => ?_))
  | (with_reducible refine iteT ?_)
  | (with_reducible refine iteF ?_)
  | (with_reducible refine Rd.iteD (fun _ => ?_) (fun _ => ?_))
  | (with_reducible refine Rd.iteN (fun _ => ?_) (fun _ => ?_))
  | with_reducible apply Rd.intI
  | with_reducible apply Rd.intB
  | with_reducible apply Rd.maxQ
  | with_reducible apply Rd.minQ
  | with_reducible apply Rd.absQ
  | with_reducible apply Rd.isN
  | with_reducible apply Rd.noN
  | with_reducible apply Rd.ltZ
  | with_reducible apply Rd.bm
  | with_reducible apply Rd.bm0
  | with_reducible apply Rd.par
  | with_reducible apply Rd.expar
  | with_reducible apply Rd.exint
  | with_reducible apply Rd.ipi
  | with_reducible apply Rd.slice
  | with_reducible apply Rd.noPart
  | with_reducible apply Rd.part
  | with_reducible apply Rd.gcons
  | with_reducible apply Rd.gnil
  | with_reducible apply Rd.iseq
  | with_reducible apply Rd.irng1
  | walk_at "isi"
  | with_reducible apply Rd.forX
  | with_reducible apply Rd.lstRev
  | with_reducible apply Rd.lstRg
  | with_reducible apply Rd.rg1
  | with_reducible apply Rd.rg2
  | with_reducible apply Rd.exint2
  | ((with_reducible apply Rd.exrev); (walk_at "sq"))
  | with_reducible apply Rd.lcX
  | with_reducible apply Rd.yes
  | ((with_reducible apply Rd.exrng1); (constructor <;> omega))
  | ((with_reducible apply Rd.exrng2); (refine ⟨?_, ?_, ?_, ?_⟩ <;> omega))
  | with_reducible apply Rd.irng2
  | ((with_reducible apply Rd.aug); rfl)
  | ((with_reducible apply Rd.exlst); (walk_at "sq"))
  | ((with_reducible apply Rd.gtup); (walk_at "st"); (rfl))
  | ((with_reducible apply Rd.tyL); (walk_at "hp"))
  | ((with_reducible apply Rd.ixL); (walk_at "sq"); (rfl))
  | ((with_reducible apply Rd.ixI); (walk_at "sq"); (omega); (first | assumption | (simp only [List.length_map]; omega)); (intro _ _))
  | (with_reducible refine Rd.gsub ?_)
  | ((with_reducible apply Rd.setL); (walk_at "hp"); (rfl); ((dsimp only [List.set, L2.wipe, Int.reduceToNat]) <;> rfl))
  | ((with_reducible apply Rd.lenQ); (first | exact Or.inl (by walk_at "sq") | exact Or.inr (by walk_at "st")))
  | ((with_reducible apply Rd.listQ); (first | exact Or.inl (by walk_at "sq") | exact Or.inr (by walk_at "st")))
  | ((with_reducible apply Rd.tupQ); (walk_at "sq"))
  | ((with_reducible apply Rd.slL); (walk_at "sq"))
  | ((with_reducible apply Rd.ixT); (walk_at "st"); (rfl))
  | (with_reducible refine Rd.iteB (fun _ => ?_) (fun _ => ?_))
  | (with_reducible refine Rd.iteNB (fun _ => ?_) (fun _ => ?_))
  | (refine Rd.andI (Nat.le_of_ble_eq_true rfl) ?_)
  | dsimp only [List.set])
local macro_rules | `(tactic| walk_at "hp") => `(tactic| first
  | assumption
  | exact upd_same
  | (refine Eq.trans (upd_ne (by first | assumption | (apply Ne.symm; assumption))) ?_; walk_at "hp")
  | (refine hpS (by assumption) ?_; walk_at "hp"))
local macro_rules | `(tactic| walk_at "al") => `(tactic| (with_reducible intro l hl; generalize hG : upd _ l _ = G; have hs := newOne hl hG; clear hG; obtain ⟨hs, he⟩ := hs))
local macro_rules | `(tactic| walk_at "rd") => `(tactic| first
  | walk_at "al"
  | ((with_reducible apply Rd.cat); (walk_at "hp"); (walk_at "hp"); (exact Nat.le_of_ble_eq_true rfl)))
local macro_rules | `(tactic| walk_at "sm") => `(tactic| first
  | assumption
  | exact Same.refl _
  | (refine Same.trans ?_ (by assumption); walk_at "sm"))
local macro_rules | `(tactic| walk_at "fr") => `(tactic| first
  | assumption
  | (refine Same.free (by assumption) ?_; walk_at "fr"))
local macro_rules | `(tactic| walk_at "ty") => `(tactic| first
  | exact dv_ty (by assumption)
  | exact tyD' (by walk_at "hp"))
local macro_rules | `(tactic| walk_at "sz") => `(tactic| first
  | exact sz5 (by omega)
  | (simp only [add_len, one_len]; exact sz5 (by omega)))
local macro_rules | `(tactic| walk_at "rd") => `(tactic| first
  | with_reducible apply Rd.istr
  | with_reducible apply Rd.exstr
  | with_reducible apply Rd.leA
  | with_reducible apply Rd.leZz
  | with_reducible apply Rd.le0
  | with_reducible apply Rd.le9
  | with_reducible apply Rd.niZ
  | ((with_reducible apply Rd.lenZ); (walk_at "sz"))
  | ((with_reducible apply Rd.slZ); (walk_at "sz"))
  | ((with_reducible apply Rd.addZ); (walk_at "sz"))
  | with_reducible apply Rd.raiseX
  | with_reducible apply Rd.exone
  | with_reducible apply Rd.callS
  | with_reducible apply Rd.callP
  | with_reducible apply Rd.xsX
  | with_reducible apply Rd.dnewX
  | with_reducible apply Rd.tyZ)
local macro_rules | `(tactic| walk_at "rd") => `(tactic| first
  | with_reducible apply Rd.seq
  | ((with_reducible apply Rd.var); rfl)
  | with_reducible apply Rd.con
  | with_reducible apply Rd.op
  | with_reducible apply Rd.cons
  | with_reducible apply Rd.nil
  | with_reducible apply Rd.asg
  | ((with_reducible apply Rd.gname); ((dsimp only [List.set, L2.wipe, Int.reduceToNat]) <;> rfl))
  | with_reducible apply Rd.nxt
  | with_reducible apply Rd.ifs
  | with_reducible apply Rd.test
  | with_reducible apply Rd.ret
  | with_reducible apply Rd.call
  | with_reducible apply Rd.cb)
section
variable {P : Program} {w : World} {K : PySem.W.Frag} {mg : Str → Option Value} {base : Heap} {D : Str → Addr}
/-- houses at g: a list or a tuple -/
def At (H : Hp) (g : Addr) (xs : List V) : Prop := H g = some (.lst xs) ∨ H g = some (.tup xs)
theorem At.same {H H' : Hp} {g : Addr} {xs : List V} (h : At H g xs) (s : Same H H') : At H' g xs := h.imp (s _ _) (s _ _)
def fldOf (code : Str) : Str := if code = "TooMany" then "bound" else "word"
/-- check_houses(houses): a new sorted list, or the first error -/
def spCheckH (K : PySem.W.Frag) (D : Str → Addr) : Sp := fun vs H Q E => ∃ (g : Addr) (xs : List V) (ds : List PyData), vs = [.ref g] ∧ At H g xs ∧ DvAll K H xs ds ∧ (∀ d ∈ ds, Sz d) ∧ xs.length ≤ 1000 ∧
  (dueD ds [] = none → ∀ L zs ys H', xs = zs.map V.str → zs.Nodup → zs.length ≤ 32 → ys.Perm zs → sortedS ys = true → H L = none → Same H H' → H' L = some (.lst (ys.map V.str)) → Q (.ref L) H') ∧
  ∀ code d, dueD ds [] = some (code, d) → ∀ dd v H', H dd = none → Same H H' → Dv K H' v d → H' dd = some (.xd [(fldOf code, v), ("code", .str code)]) → E (.ref (D code)) (some dd) H'
theorem dinX {td : TE} {σ : L2.St} {ty : TE} {H : Hp} {Q : VK} (h : ty σ H fun y H1 => td σ H1 fun x H2 => ∃ a o, x = .ref a ∧ DGet H2 a y o ∧ Q (.bl o.isSome) H2) : tDIn ty td σ H Q := h
theorem dinB {H : Hp} {P' : Bool → Prop} {a : Addr} {ks : List Str} {f : Str → V} {z : Str} (h : H a = some (.dK (kd ks f))) (q : P' (decide (z ∈ ks))) : ∃ a' o, V.ref a = .ref a' ∧ DGet H a' (.str z) o ∧ ∃ k, V.bl o.isSome = V.bl k ∧ P' k := by
  by_cases m : z ∈ ks
  · exact ⟨a, _, rfl, .inl ⟨_, Sum.inr z, .inl h, rfl, (kd_get m).symm⟩, _, rfl, by rw [decide_eq_true m] at q; exact q⟩
  · exact ⟨a, _, rfl, .inl ⟨_, Sum.inr z, .inl h, rfl, (kd_none m).symm⟩, _, rfl, by rw [decide_eq_false m] at q; exact q⟩
theorem dnewX {σ : L2.St} {H : Hp} {Q : VK} (h : ∀ p, H p = none → Q (.ref p) (upd H p (.dK []))) : tDNewK σ H Q := h
local macro_rules | `(tactic| walk_at "rd") => `(tactic| first
  | with_reducible apply Kj.dnewX
  | with_reducible apply Kj.dinX
  | with_reducible apply Rd.itup
  | ((with_reducible apply Rd.extup); (walk_at "st")))
theorem forT {g : TG} {tb : TS} {σ : L2.St} {H : Hp} {n b c : L2.St → Hp → Prop} {rr : VK} {a : Addr} (xs : List V) (Pv : Nat → L2.St → Hp → Prop) (h0 : Pv 0 σ H) (hl : ∀ i σ H, i ≤ xs.length → Pv i σ H → SqT K H a xs)
    (hs : ∀ i x σ H, xs[i]? = some x → Pv i σ H → g x σ H fun σ2 H2 => tb ⟨Pv (i + 1), rr, n, Pv (i + 1)⟩ σ2 H2) (hd : ∀ σ H, Pv xs.length σ H → n σ H) : ForB (Itt K a) g tb ⟨n, rr, b, c⟩ σ H :=
  for_tup (D := ⟨n, rr, b, c⟩) Pv h0 hl hs hd
theorem dv_all_strs {H : Hp} : ∀ {xs : List V} {zs : List Str}, DvAll K H xs (zs.map PyData.str) → xs = zs.map V.str
  | _, [], .nil => rfl
  | _, z :: zs, .cons (.str _) t => by rw [List.map_cons, dv_all_strs t]
theorem fld1 : fldOf "BadName" = "word" := by decide +kernel
theorem fld2 : fldOf "Taken" = "word" := by decide +kernel
theorem fld3 : fldOf "TooMany" = "bound" := by decide +kernel
theorem ok_check_houses (F : Def K mg "check_houses" s_check_houses P_check_houses) (m_len : mg "len" = none) (m_sorted : mg "sorted" = none) (m_list : mg "list" = none) (c_MOST_HOUSES : ∃ t, mg "MOST_HOUSES" = some (.int 32 t)) (T_Taken : Ho.ErrC P w K mg base "Taken" (D "Taken") "word") (T_TooMany : Ho.ErrC P w K mg base "TooMany" (D "TooMany") "bound") (C_check_name : Ho.CalN P w K mg base 3 "check_name" P_check_name (spCheckN K D)) : Ho.CalN P w K mg base 4 "check_houses" P_check_houses (spCheckH K D) := by
  refine Ho.defN F sc_check_houses (fun vs H Q E h => ?_) (fun f cdv A outer s H vs Q E hr h => ?_)
  · obtain ⟨g, xs, ds, rfl, _⟩ := h
    rfl
  obtain ⟨g, xs, ds, rfl, ha | ha, da, sz, hl, qn, qs⟩ := h
  · refine ⟨_, (pss_cons (ps_set (i := 1) sc_check_houses.nd rfl (Or.inl rfl) pe_dnewK)
  (pss_cons (ps_for (passes_of rfl) rfl (pi_list (pv 0 (hd := nd_houses) (hcd := nc_houses))) (pg_name (i := 2) sc_check_houses.nd rfl (Or.inl rfl)) (pss_cons (ps_expr (Ho.pe_calN C_check_name (L2N.takes_of rfl rfl rfl rfl) hr (pa_cons (pv 2 (hd := nd_house) (hcd := nc_house)) pa_nil)))
  (pss_cons (ps_if (pt_cmp (pc_din (un1 hr) (pv 2 (hd := nd_house) (hcd := nc_house)) (pv 1 (hd := nd_made) (hcd := nc_made)))) (pss_one (Ho.ps_err rfl T_Taken hr (L2N.takes_of rfl rfl rfl rfl) (pa_cons (pv 2 (hd := nd_house) (hcd := nc_house)) pa_nil) (by first | exact Ho.up_v | exact Ho.up_c))) pss_nil)
  (pss_cons (ps_if (pt_cmpR op_ge (pe_callB (q_lenAK (K := K) rfl) (by rfl) m_len PySem.boot_len (pa_cons (pv 1 (hd := nd_made) (hcd := nc_made)) pa_nil) (hn := nn_len) (hdb := nd_len)) (Ho.pe_const (v := 32) c_MOST_HOUSES (by rfl)) (nomark _)) (pss_one (Ho.ps_err rfl T_TooMany hr (L2N.takes_of rfl rfl rfl rfl) (pa_cons (Ho.pe_const (v := 32) c_MOST_HOUSES (by rfl)) pa_nil) (by first | exact Ho.up_v | exact Ho.up_c))) pss_nil)
  (pss_one (ps_asg pe_bl (pg_sub (pv 1 (hd := nd_made) (hcd := nc_made)) (pv 2 (hd := nd_house) (hcd := nc_house)) (set_dict (un1 hr)))))))))
  (pss_one (ps_ret (pe_callB (q_sortedSK (K := K) rfl) (by rfl) m_sorted bb_sorted (pa_cons (pe_callTy (q_listDk rfl) (by rfl) m_list bb_list (pa_cons (pv 1 (hd := nd_made) (hcd := nc_made)) pa_nil) (hn := nn_list) (hdb := nd_list)) pa_nil) (hn := nn_sorted) (hdb := nd_sorted)))))), ?_⟩
    refine Rd.at0 (σ := [some (.ref g), none, none]) rfl ?_
    -- forL: the term's own loop lemma
    have ld := va_len da
    repeat' (walk_at "rd")
    rename_i M nM G sG eG
    have nMg : M ≠ g := fun e => by
      rw [e, ha] at nM
      cases nM
    have eG : G M = some (.dK (kd ([] : List Str) fun _ => .bl true)) := eG
    refine forL xs (fun i σ H' => ∃ (zs : List Str) (v2 : Option V), σ = [some (.ref g), some (.ref M), v2] ∧ Same H H' ∧ H' M = some (.dK (kd zs fun _ => .bl true)) ∧ zs.length ≤ 32 ∧ zs.Nodup ∧ ds.take i = zs.map PyData.str ∧ dueD ds [] = dueD (ds.drop i) zs) ⟨[], none, rfl, sG, eG, Nat.zero_le _, .nil, rfl, rfl⟩ (fun _ _ _ _ ⟨_, _, _, s, _⟩ => .inl (.inl (s _ _ ha))) ?_ ?_
    · rintro i x σ H' hx ⟨zs, v2, rfl, s', eM, lz, nd, et, ed⟩
      obtain ⟨d, hd, dv⟩ := va_at' da hx
      rw [drop_at hd] at ed
      have szd := sz d (List.mem_of_getElem? hd)
      have dv' := dv_same s' dv
      repeat' (walk_at "rd")
      refine ⟨x, d, rfl, dv', szd, fun hn H2 s2 => ?_, fun hn dd H3 n3 s3 e3 => ?_⟩
      · have s02 := s'.trans s2
        have eM2 := s2 _ _ eM
        obtain ⟨z, rfl⟩ : ∃ z, d = .str z := by
          rcases str_cases d with h | ⟨h, _⟩
          · exact h
          · rw [hn] at h
            cases h
        cases dv
        have hn : nmB z = true := hn
        repeat' (walk_at "rd")
        refine dinB eM2 ?_
        refine iteD (fun hz => ?_) (fun hz => ?_)
        · rw [due_taken hn hz] at ed
          repeat' (walk_at "rd")
          rename_i l n G2 s e
          exact qs _ _ ed l (.str z) G2 (s02.free n) (s02.trans s) (.str z) (by rw [fld2]; exact e)
        · repeat' (walk_at "rd")
          refine lenAd eM2 ?_
          rw [kd_len]
          repeat' (walk_at "rd")
          · rename_i l n G2 s e
            rw [due_many hn hz (by omega)] at ed
            exact qs _ _ ed l (.int 32) G2 (s02.free n) (s02.trans s) (.int 32) (by rw [fld3]; exact e)
          · rw [due_next hn hz (by omega)] at ed
            refine dnewK eM2 hz (by omega) ?_
            rw [kd_congr (g := fun _ => .bl true) (fun y _ => by split <;> rfl)]
            repeat' (walk_at "rd")
            refine ⟨zs ++ [z], _, rfl, same_put s02 nM _, upd_same, by rw [List.length_append]; show zs.length + 1 ≤ 32; omega, List.nodup_append.mpr ⟨nd, List.nodup_cons.mpr ⟨List.not_mem_nil, .nil⟩, fun a ha b hb e => hz (by rw [List.mem_singleton.mp hb] at e; rw [← e]; exact ha)⟩, ?_, ed⟩
            rw [List.take_add_one, hd, et, List.map_append]
            rfl
      · rw [due_not hn] at ed
        exact qs _ _ ed dd x H3 (s'.free n3) (s'.trans s3) (dv_same s3 dv') (by rw [fld1]; exact e3)
    · rintro σ H' ⟨zs, v2, rfl, s', eM, lz, nd, et, ed⟩
      rw [List.drop_of_length_le (by omega)] at ed
      rw [List.take_of_length_le (by omega)] at et
      have ex : xs = zs.map V.str := dv_all_strs (by rw [← et]; exact da)
      repeat' (walk_at "rd")
      refine listDkd eM fun L1 hL1 => ?_
      repeat' (walk_at "rd")
      refine ⟨L1, zs, rfl, .inl (.inl upd_same), by omega, fun ys p pm sy np => ?_⟩
      exact qn ed p zs ys _ ex nd lz pm sy (s'.free ((same_upd hL1).free np)) ((s'.trans (same_upd hL1)).trans (same_upd np)) upd_same
  · refine ⟨_, (pss_cons (ps_set (i := 1) sc_check_houses.nd rfl (Or.inl rfl) pe_dnewK)
  (pss_cons (ps_for (passes_of rfl) rfl (pi_tup (pv 0 (hd := nd_houses) (hcd := nc_houses))) (pg_name (i := 2) sc_check_houses.nd rfl (Or.inl rfl)) (pss_cons (ps_expr (Ho.pe_calN C_check_name (L2N.takes_of rfl rfl rfl rfl) hr (pa_cons (pv 2 (hd := nd_house) (hcd := nc_house)) pa_nil)))
  (pss_cons (ps_if (pt_cmp (pc_din (un1 hr) (pv 2 (hd := nd_house) (hcd := nc_house)) (pv 1 (hd := nd_made) (hcd := nc_made)))) (pss_one (Ho.ps_err rfl T_Taken hr (L2N.takes_of rfl rfl rfl rfl) (pa_cons (pv 2 (hd := nd_house) (hcd := nc_house)) pa_nil) (by first | exact Ho.up_v | exact Ho.up_c))) pss_nil)
  (pss_cons (ps_if (pt_cmpR op_ge (pe_callB (q_lenAK (K := K) rfl) (by rfl) m_len PySem.boot_len (pa_cons (pv 1 (hd := nd_made) (hcd := nc_made)) pa_nil) (hn := nn_len) (hdb := nd_len)) (Ho.pe_const (v := 32) c_MOST_HOUSES (by rfl)) (nomark _)) (pss_one (Ho.ps_err rfl T_TooMany hr (L2N.takes_of rfl rfl rfl rfl) (pa_cons (Ho.pe_const (v := 32) c_MOST_HOUSES (by rfl)) pa_nil) (by first | exact Ho.up_v | exact Ho.up_c))) pss_nil)
  (pss_one (ps_asg pe_bl (pg_sub (pv 1 (hd := nd_made) (hcd := nc_made)) (pv 2 (hd := nd_house) (hcd := nc_house)) (set_dict (un1 hr)))))))))
  (pss_one (ps_ret (pe_callB (q_sortedSK (K := K) rfl) (by rfl) m_sorted bb_sorted (pa_cons (pe_callTy (q_listDk rfl) (by rfl) m_list bb_list (pa_cons (pv 1 (hd := nd_made) (hcd := nc_made)) pa_nil) (hn := nn_list) (hdb := nd_list)) pa_nil) (hn := nn_sorted) (hdb := nd_sorted)))))), ?_⟩
    refine Rd.at0 (σ := [some (.ref g), none, none]) rfl ?_
    -- forT: the term's own loop lemma
    have ld := va_len da
    repeat' (walk_at "rd")
    rename_i M nM G sG eG
    have nMg : M ≠ g := fun e => by
      rw [e, ha] at nM
      cases nM
    have eG : G M = some (.dK (kd ([] : List Str) fun _ => .bl true)) := eG
    refine forT xs (fun i σ H' => ∃ (zs : List Str) (v2 : Option V), σ = [some (.ref g), some (.ref M), v2] ∧ Same H H' ∧ H' M = some (.dK (kd zs fun _ => .bl true)) ∧ zs.length ≤ 32 ∧ zs.Nodup ∧ ds.take i = zs.map PyData.str ∧ dueD ds [] = dueD (ds.drop i) zs) ⟨[], none, rfl, sG, eG, Nat.zero_le _, .nil, rfl, rfl⟩ (fun _ _ _ _ ⟨_, _, _, s, _⟩ => .inl (.inl (s _ _ ha))) ?_ ?_
    · rintro i x σ H' hx ⟨zs, v2, rfl, s', eM, lz, nd, et, ed⟩
      obtain ⟨d, hd, dv⟩ := va_at' da hx
      rw [drop_at hd] at ed
      have szd := sz d (List.mem_of_getElem? hd)
      have dv' := dv_same s' dv
      repeat' (walk_at "rd")
      refine ⟨x, d, rfl, dv', szd, fun hn H2 s2 => ?_, fun hn dd H3 n3 s3 e3 => ?_⟩
      · have s02 := s'.trans s2
        have eM2 := s2 _ _ eM
        obtain ⟨z, rfl⟩ : ∃ z, d = .str z := by
          rcases str_cases d with h | ⟨h, _⟩
          · exact h
          · rw [hn] at h
            cases h
        cases dv
        have hn : nmB z = true := hn
        repeat' (walk_at "rd")
        refine dinB eM2 ?_
        refine iteD (fun hz => ?_) (fun hz => ?_)
        · rw [due_taken hn hz] at ed
          repeat' (walk_at "rd")
          rename_i l n G2 s e
          exact qs _ _ ed l (.str z) G2 (s02.free n) (s02.trans s) (.str z) (by rw [fld2]; exact e)
        · repeat' (walk_at "rd")
          refine lenAd eM2 ?_
          rw [kd_len]
          repeat' (walk_at "rd")
          · rename_i l n G2 s e
            rw [due_many hn hz (by omega)] at ed
            exact qs _ _ ed l (.int 32) G2 (s02.free n) (s02.trans s) (.int 32) (by rw [fld3]; exact e)
          · rw [due_next hn hz (by omega)] at ed
            refine dnewK eM2 hz (by omega) ?_
            rw [kd_congr (g := fun _ => .bl true) (fun y _ => by split <;> rfl)]
            repeat' (walk_at "rd")
            refine ⟨zs ++ [z], _, rfl, same_put s02 nM _, upd_same, by rw [List.length_append]; show zs.length + 1 ≤ 32; omega, List.nodup_append.mpr ⟨nd, List.nodup_cons.mpr ⟨List.not_mem_nil, .nil⟩, fun a ha b hb e => hz (by rw [List.mem_singleton.mp hb] at e; rw [← e]; exact ha)⟩, ?_, ed⟩
            rw [List.take_add_one, hd, et, List.map_append]
            rfl
      · rw [due_not hn] at ed
        exact qs _ _ ed dd x H3 (s'.free n3) (s'.trans s3) (dv_same s3 dv') (by rw [fld1]; exact e3)
    · rintro σ H' ⟨zs, v2, rfl, s', eM, lz, nd, et, ed⟩
      rw [List.drop_of_length_le (by omega)] at ed
      rw [List.take_of_length_le (by omega)] at et
      have ex : xs = zs.map V.str := dv_all_strs (by rw [← et]; exact da)
      repeat' (walk_at "rd")
      refine listDkd eM fun L1 hL1 => ?_
      repeat' (walk_at "rd")
      refine ⟨L1, zs, rfl, .inl (.inl upd_same), by omega, fun ys p pm sy np => ?_⟩
      exact qn ed p zs ys _ ex nd lz pm sy (s'.free ((same_upd hL1).free np)) ((s'.trans (same_upd hL1)).trans (same_upd np)) upd_same
end
end Kj
namespace Kj
open PySem PySem.Spec PyProof.Rows L2 Rd
local macro_rules | `(tactic| walk_at "hp") => `(tactic| first
  | assumption
  | exact upd_same
  | (refine Eq.trans (upd_ne (by first | assumption | (apply Ne.symm; assumption))) ?_; walk_at "hp"))
local macro_rules | `(tactic| walk_at "sq") => `(tactic| first
  | assumption
  | (refine Or.inl (Or.inl ?_); walk_at "hp"))
local macro_rules | `(tactic| walk_at "st") => `(tactic| first
  | assumption
  | (refine Or.inl (Or.inl ?_); walk_at "hp"))
local macro_rules | `(tactic| walk_at "ar") => `(tactic| first
  | assumption
  | omega
  | decide)
local macro_rules | `(tactic| walk_at "ci") => `(tactic| first
  | (refine (show CMul _ _ from Or.inr ⟨?_, ?_⟩) <;> omega)
  | (refine (show CMul _ _ from Or.inl ⟨?_, ?_⟩) <;> omega)
  | (show CPow _ _; exact ⟨by decide, by decide, by decide⟩)
  | (refine wide_div (b := 63) ?_ ?_ (by decide) (by decide) <;> omega)
  | (show (0 : Int) < _; omega))
local macro_rules | `(tactic| walk_at "ty") => `(tactic| first
  | exact dp_ty (by assumption)
  | exact TyX.base (TyOf.int _)
  | exact TyX.base (TyOf.str _)
  | exact TyX.base (TyOf.bl _)
  | exact TyX.base TyOf.non
  | exact tyL' (by walk_at "sq")
  | exact tyT' (by walk_at "st"))
local macro_rules | `(tactic| walk_at "isi") => `(tactic| first
  | ((with_reducible apply Rd.isiF); (walk_at "ty"); (decide))
  | ((with_reducible apply Rd.isiT); (walk_at "ty"); (decide)))
local macro_rules | `(tactic| walk_at "rd") => `(tactic| first
  | with_reducible apply Rd.seq
  | ((with_reducible apply Rd.var); rfl)
  | with_reducible apply Rd.con
  | with_reducible apply Rd.op
  | with_reducible apply Rd.asg
  | ((with_reducible apply Rd.gname); ((dsimp only [List.set, L2.wipe, Int.reduceToNat]) <;> rfl))
  | with_reducible apply Rd.nxt
  | with_reducible apply Rd.ifs
  | with_reducible apply Rd.test
  | with_reducible apply Rd.testB
  | with_reducible apply Rd.exbl
  | with_reducible apply Rd.ret
  | with_reducible apply Rd.drop
  | with_reducible apply Rd.retN
  | with_reducible apply Rd.nil
  | with_reducible apply Rd.cons
  | with_reducible apply Rd.call
  | with_reducible apply Rd.cb
  | with_reducible apply Rd.and
  | with_reducible apply Rd.or
  | with_reducible apply Rd.not
  | with_reducible apply Rd.andV
  | with_reducible apply Rd.orV
  | with_reducible apply Rd.notV
  | with_reducible apply Rd.ife
  | with_reducible apply Rd.tup
  | with_reducible apply Rd.lst
  | with_reducible apply Rd.un
  | with_reducible apply Rd.chain
  | with_reducible apply Rd.brk
  | with_reducible apply Rd.cnt
  | with_reducible apply Rd.I0
  | with_reducible apply Rd.U1
  | ((with_reducible apply Rd.eq); rfl)
  | ((with_reducible apply Rd.ne); rfl)
  | ((with_reducible apply Rd.I1); (walk_at "ci"))
  | with_reducible apply Rd.lc0
  | with_reducible apply Rd.ln0
  | with_reducible apply Rd.exN
  | ((with_reducible apply Rd.iteSf); (decide +kernel))
  | ((with_reducible apply Rd.iteSt); (decide +kernel))
  | ((with_reducible apply Rd.niQ); (exact Or.inl (by walk_at "sq")); (exact ⟨rfl, rfl⟩); (rfl))
  | ((with_reducible apply Rd.inQ); (exact Or.inl (by walk_at "sq")); (exact ⟨rfl, rfl⟩); (rfl))
  | with_reducible apply Rd.rn1
  | with_reducible apply Rd.in1
  | with_reducible apply Rd.sn1
  | with_reducible apply Rd.bn1
  | with_reducible apply Rd.nn1
  | with_reducible apply Rd.rn2
  | with_reducible apply Rd.in2
  | with_reducible apply Rd.sn2
  | with_reducible apply Rd.bn2
  | with_reducible apply Rd.nn2
  | with_reducible apply Rd.nt1
  | with_reducible apply Rd.nf1
  | (with_reducible refine Rd.iteI (fun _ => ?_) (fun _ => ?_))
  | (with_reducible refine Rd.iteNI (fun _ => ?_) (fun _ => ?_))
  | (with_reducible refine iteT ?_)
  | (with_reducible refine iteF ?_)
  | (with_reducible refine Rd.iteD (fun _ => ?_) (fun _ => ?_))
  | (with_reducible refine Rd.iteN (fun _ => ?_) (fun _ => ?_))
  | with_reducible apply Rd.intI
  | with_reducible apply Rd.intB
  | with_reducible apply Rd.maxQ
  | with_reducible apply Rd.minQ
  | with_reducible apply Rd.absQ
  | with_reducible apply Rd.isN
  | with_reducible apply Rd.noN
  | with_reducible apply Rd.ltZ
  | with_reducible apply Rd.bm
  | with_reducible apply Rd.bm0
  | with_reducible apply Rd.par
  | with_reducible apply Rd.expar
  | with_reducible apply Rd.exint
  | with_reducible apply Rd.ipi
  | with_reducible apply Rd.slice
  | with_reducible apply Rd.noPart
  | with_reducible apply Rd.part
  | with_reducible apply Rd.gcons
  | with_reducible apply Rd.gnil
  | with_reducible apply Rd.iseq
  | with_reducible apply Rd.irng1
  | walk_at "isi"
  | with_reducible apply Rd.forX
  | with_reducible apply Rd.lstRev
  | with_reducible apply Rd.lstRg
  | with_reducible apply Rd.rg1
  | with_reducible apply Rd.rg2
  | with_reducible apply Rd.exint2
  | ((with_reducible apply Rd.exrev); (walk_at "sq"))
  | with_reducible apply Rd.lcX
  | with_reducible apply Rd.yes
  | ((with_reducible apply Rd.exrng1); (constructor <;> omega))
  | ((with_reducible apply Rd.exrng2); (refine ⟨?_, ?_, ?_, ?_⟩ <;> omega))
  | with_reducible apply Rd.irng2
  | ((with_reducible apply Rd.aug); rfl)
  | ((with_reducible apply Rd.exlst); (walk_at "sq"))
  | ((with_reducible apply Rd.gtup); (walk_at "st"); (rfl))
  | ((with_reducible apply Rd.tyL); (walk_at "hp"))
  | ((with_reducible apply Rd.ixL); (walk_at "sq"); (rfl))
  | ((with_reducible apply Rd.ixI); (walk_at "sq"); (omega); (first | assumption | (simp only [List.length_map]; omega)); (intro _ _))
  | (with_reducible refine Rd.gsub ?_)
  | ((with_reducible apply Rd.setL); (walk_at "hp"); (rfl); ((dsimp only [List.set, L2.wipe, Int.reduceToNat]) <;> rfl))
  | ((with_reducible apply Rd.lenQ); (first | exact Or.inl (by walk_at "sq") | exact Or.inr (by walk_at "st")))
  | ((with_reducible apply Rd.listQ); (first | exact Or.inl (by walk_at "sq") | exact Or.inr (by walk_at "st")))
  | ((with_reducible apply Rd.tupQ); (walk_at "sq"))
  | ((with_reducible apply Rd.slL); (walk_at "sq"))
  | ((with_reducible apply Rd.ixT); (walk_at "st"); (rfl))
  | (with_reducible refine Rd.iteB (fun _ => ?_) (fun _ => ?_))
  | (with_reducible refine Rd.iteNB (fun _ => ?_) (fun _ => ?_))
  | (refine Rd.andI (Nat.le_of_ble_eq_true rfl) ?_)
  | dsimp only [List.set])
local macro_rules | `(tactic| walk_at "hp") => `(tactic| first
  | assumption
  | exact upd_same
  | (refine Eq.trans (upd_ne (by first | assumption | (apply Ne.symm; assumption))) ?_; walk_at "hp")
  | (refine hpS (by assumption) ?_; walk_at "hp"))
local macro_rules | `(tactic| walk_at "al") => `(tactic| (with_reducible intro l hl; generalize hG : upd _ l _ = G; have hs := newOne hl hG; clear hG; obtain ⟨hs, he⟩ := hs))
local macro_rules | `(tactic| walk_at "rd") => `(tactic| first
  | walk_at "al"
  | ((with_reducible apply Rd.cat); (walk_at "hp"); (walk_at "hp"); (exact Nat.le_of_ble_eq_true rfl)))
local macro_rules | `(tactic| walk_at "sm") => `(tactic| first
  | assumption
  | exact Same.refl _
  | (refine Same.trans ?_ (by assumption); walk_at "sm"))
local macro_rules | `(tactic| walk_at "fr") => `(tactic| first
  | assumption
  | (refine Same.free (by assumption) ?_; walk_at "fr"))
local macro_rules | `(tactic| walk_at "ty") => `(tactic| first
  | exact dv_ty (by assumption)
  | exact tyD' (by walk_at "hp"))
local macro_rules | `(tactic| walk_at "sz") => `(tactic| first
  | exact sz5 (by omega)
  | (simp only [add_len, one_len]; exact sz5 (by omega)))
local macro_rules | `(tactic| walk_at "rd") => `(tactic| first
  | with_reducible apply Rd.istr
  | with_reducible apply Rd.exstr
  | with_reducible apply Rd.leA
  | with_reducible apply Rd.leZz
  | with_reducible apply Rd.le0
  | with_reducible apply Rd.le9
  | with_reducible apply Rd.niZ
  | ((with_reducible apply Rd.lenZ); (walk_at "sz"))
  | ((with_reducible apply Rd.slZ); (walk_at "sz"))
  | ((with_reducible apply Rd.addZ); (walk_at "sz"))
  | with_reducible apply Rd.raiseX
  | with_reducible apply Rd.exone
  | with_reducible apply Rd.callS
  | with_reducible apply Rd.callP
  | with_reducible apply Rd.xsX
  | with_reducible apply Rd.dnewX
  | with_reducible apply Rd.tyZ)
local macro_rules | `(tactic| walk_at "rd") => `(tactic| first
  | with_reducible apply Rd.seq
  | ((with_reducible apply Rd.var); rfl)
  | with_reducible apply Rd.con
  | with_reducible apply Rd.op
  | with_reducible apply Rd.cons
  | with_reducible apply Rd.nil
  | with_reducible apply Rd.asg
  | ((with_reducible apply Rd.gname); ((dsimp only [List.set, L2.wipe, Int.reduceToNat]) <;> rfl))
  | with_reducible apply Rd.nxt
  | with_reducible apply Rd.ifs
  | with_reducible apply Rd.test
  | with_reducible apply Rd.ret
  | with_reducible apply Rd.call
  | with_reducible apply Rd.cb)
section
variable {P : Program} {w : World} {K : PySem.W.Frag} {mg : Str → Option Value} {base : Heap} {D : Str → Addr}
theorem nm_b {z : Str} (h : NmS z) : nmB z = true := by
  obtain ⟨⟨c, s, e, hc, hs⟩, l⟩ := h
  have l1 : 1 ≤ z.length := by
    rw [← cl_len, e]
    exact Nat.succ_le_succ (Nat.zero_le _)
  rw [nmB_all l1 l (c := c) (by rw [e]; rfl) hc, List.all_eq_true]
  intro x hx
  rw [e] at hx
  rcases List.mem_cons.mp hx with rfl | hx
  · exact decide_eq_true (.inl hc)
  · exact decide_eq_true (hs x hx)
theorem nm_sz {z : Str} (h : NmS z) : Sz (.str z) := fun _ e => by
  cases e
  have := h.2
  omega
/-- ordered(a, b): a new tuple of two names, the lesser one first -/
def ordD (a b : Str) : List Str := if b.cps.toList < a.cps.toList then [b, a] else [a, b]
def spOrd : Sp := fun vs H Q _ => ∃ a b : Str, vs = [.str a, .str b] ∧ ∀ p H', H p = none → Same H H' → H' p = some (.tup ((ordD a b).map V.str)) → Q (.ref p) H'
theorem ok_ordered (F : Def K mg "ordered" s_ordered P_ordered) : Cal P w K mg base 1 "ordered" P_ordered spOrd := by
  refine F.ok sc_ordered (fun vs H Q E h => ?_) (fun f cdv A outer s H vs Q E hr h => ?_)
  · obtain ⟨a, b, rfl, _⟩ := h
    rfl
  obtain ⟨a, b, rfl, q⟩ := h
  refine ⟨_, (pss_cons (ps_if (pt_cmpR o_ltZ (pv 1 (hd := nd_b) (hcd := nc_b)) (pv 0 (hd := nd_a) (hcd := nc_a)) (nomark _)) (pss_one (ps_ret (pe_tup (pa_cons (pv 1 (hd := nd_b) (hcd := nc_b)) (pa_cons (pv 0 (hd := nd_a) (hcd := nc_a)) pa_nil))))) pss_nil)
  (pss_one (ps_ret (pe_tup (pa_cons (pv 0 (hd := nd_a) (hcd := nc_a)) (pa_cons (pv 1 (hd := nd_b) (hcd := nc_b)) pa_nil)))))), ?_⟩
  refine Rd.at0 (σ := [some (.str a), some (.str b)]) rfl ?_
  unfold ordD at q
  repeat' (walk_at "rd")
  · rename_i lt l n G s e
    rw [if_pos lt] at q
    exact q l G n s e
  · rename_i lt l n G s e
    rw [if_neg lt] at q
    exact q l G n s e
theorem dinXb {td : TE} {σ : L2.St} {ty : TE} {H : Hp} {Q : VK} (h : ty σ H fun y H1 => td σ H1 fun x H2 => ∃ a o, x = .ref a ∧ DGet H2 a y o ∧ Q (.bl o.isSome) H2) : tDIn ty td σ H Q := h
theorem dnewXb {σ : L2.St} {H : Hp} {Q : VK} (h : ∀ p, H p = none → Q (.ref p) (upd H p (.dK []))) : tDNewK σ H Q := h
theorem dinC {H : Hp} {P' : Bool → Prop} {a : Addr} {ks : List Str} {f : Str → V} {z : Str} (h : H a = some (.dK (kd ks f))) (q : P' (decide (z ∈ ks))) : ∃ a' o, V.ref a = .ref a' ∧ DGet H a' (.str z) o ∧ ∃ k, V.bl o.isSome = V.bl k ∧ P' k := by
  by_cases m : z ∈ ks
  · exact ⟨a, _, rfl, .inl ⟨_, Sum.inr z, .inl h, rfl, (kd_get m).symm⟩, _, rfl, by rw [decide_eq_true m] at q; exact q⟩
  · exact ⟨a, _, rfl, .inl ⟨_, Sum.inr z, .inl h, rfl, (kd_none m).symm⟩, _, rfl, by rw [decide_eq_false m] at q; exact q⟩
theorem dniC {H : Hp} {P' : Bool → Prop} {a : Addr} {ks : List Str} {f : Str → V} {z : Str} (h : H a = some (.dK (kd ks f))) (q : P' (!decide (z ∈ ks))) : ∃ a' o, V.ref a = .ref a' ∧ DGet H a' (.str z) o ∧ ∃ k, V.bl (!o.isSome) = V.bl k ∧ P' k := by
  by_cases m : z ∈ ks
  · exact ⟨a, _, rfl, .inl ⟨_, Sum.inr z, .inl h, rfl, (kd_get m).symm⟩, _, rfl, by rw [decide_eq_true m] at q; exact q⟩
  · exact ⟨a, _, rfl, .inl ⟨_, Sum.inr z, .inl h, rfl, (kd_none m).symm⟩, _, rfl, by rw [decide_eq_false m] at q; exact q⟩
local macro_rules | `(tactic| walk_at "rd") => `(tactic| first
  | with_reducible apply Rd.din
  | with_reducible apply Kj.dnewXb
  | with_reducible apply Kj.dinXb)
/-- the first that is no name -/
def dueN : List PyData → Option PyData
  | [] => none
  | d :: ds => if nameD d = true then dueN ds else some d
/-- check_names(words) -/
def spNamesE (K : PySem.W.Frag) (D : Str → Addr) : Sp := fun vs H Q E => ∃ (l : Addr) (xs : List V) (ds : List PyData), vs = [.ref l] ∧ H l = some (.lst xs) ∧ DvAll K H xs ds ∧ (∀ d ∈ ds, Sz d) ∧ (dueN ds = none → ∀ H', Same H H' → Q .non H') ∧
  ∀ d, dueN ds = some d → ∀ dd v H', H dd = none → Same H H' → Dv K H' v d → H' dd = some (.xd [("word", v), ("code", .str "BadName")]) → E (.ref (D "BadName")) (some dd) H'
theorem ok_check_names (F : Def K mg "check_names" s_check_names P_check_names) (C_check_name : Ho.CalN P w K mg base 3 "check_name" P_check_name (spCheckN K D)) : Ho.CalN P w K mg base 4 "check_names" P_check_names (spNamesE K D) := by
  refine Ho.defN F sc_check_names (fun vs H Q E h => ?_) (fun f cdv A outer s H vs Q E hr h => ?_)
  · obtain ⟨l, xs, ds, rfl, _⟩ := h
    rfl
  obtain ⟨l, xs, ds, rfl, hl, da, sz, qn, qs⟩ := h
  refine ⟨_, (pss_one (ps_for (passes_of rfl) rfl (pi_list (pv 0 (hd := nd_words) (hcd := nc_words))) (pg_name (i := 1) sc_check_names.nd rfl (Or.inl rfl)) (pss_one (ps_expr (Ho.pe_calN C_check_name (L2N.takes_of rfl rfl rfl rfl) hr (pa_cons (pv 1 (hd := nd_word) (hcd := nc_word)) pa_nil)))))), ?_⟩
  refine Rd.at0 (σ := [some (.ref l), none]) rfl ?_
  have ld := va_len da
  repeat' (walk_at "rd")
  refine forL xs (fun i σ H' => ∃ v1 : Option V, σ = [some (.ref l), v1] ∧ Same H H' ∧ dueN ds = dueN (ds.drop i)) ⟨none, rfl, fun _ _ e => e, rfl⟩ (fun _ _ _ _ ⟨_, _, s, _⟩ => .inl (.inl (s _ _ hl))) ?_ ?_
  · rintro i x σ H' hx ⟨v1, rfl, s', ed⟩
    obtain ⟨d, hd, dv⟩ := va_at' da hx
    rw [drop_at hd] at ed
    rw [show dueN (d :: ds.drop (i + 1)) = if nameD d = true then dueN (ds.drop (i + 1)) else some d from rfl] at ed
    have szd := sz d (List.mem_of_getElem? hd)
    have dv' := dv_same s' dv
    repeat' (walk_at "rd")
    refine ⟨x, d, rfl, dv', szd, fun hn H2 s2 => ?_, fun hn dd H3 n3 s3 e3 => ?_⟩
    · rw [if_pos hn] at ed
      repeat' (walk_at "rd")
      exact ⟨_, rfl, s'.trans s2, ed⟩
    · rw [if_neg (by rw [hn]; exact Bool.false_ne_true)] at ed
      exact qs d ed dd x H3 (s'.free n3) (s'.trans s3) (dv_same s3 dv') e3
  · rintro σ H' ⟨v1, rfl, s', ed⟩
    rw [List.drop_of_length_le (by omega)] at ed
    repeat' (walk_at "rd")
    exact qn ed H' s'
/-- check_stand(houses, words), words a list of texts -/
def spStandE (K : PySem.W.Frag) (D : Str → Addr) : Sp := fun vs H Q E => ∃ (h l : Addr) (zs ws : List Str), vs = [.ref h, .ref l] ∧ SqL K H h (zs.map V.str) ∧ H l = some (.lst (ws.map V.str)) ∧ ((∀ z ∈ ws, z ∈ zs) → ∀ H', Same H H' → Q .non H') ∧
  ∀ (i : Nat) z, ws[i]? = some z → z ∉ zs → (∀ y ∈ ws.take i, y ∈ zs) → ∀ dd H', H dd = none → Same H H' → H' dd = some (.xd [("word", .str z), ("code", .str "NoHouse")]) → E (.ref (D "NoHouse")) (some dd) H'
theorem ok_check_stand (F : Def K mg "check_stand" s_check_stand P_check_stand) (T_NoHouse : Ho.ErrC P w K mg base "NoHouse" (D "NoHouse") "word") : Ho.CalN P w K mg base 4 "check_stand" P_check_stand (spStandE K D) := by
  refine Ho.defN F sc_check_stand (fun vs H Q E h => ?_) (fun f cdv A outer s H vs Q E hr h => ?_)
  · obtain ⟨h, l, zs, ws, rfl, _⟩ := h
    rfl
  obtain ⟨h, l, zs, ws, rfl, hh, hl, qn, qs⟩ := h
  refine ⟨_, (pss_one (ps_for (passes_of rfl) rfl (pi_list (pv 1 (hd := nd_words) (hcd := nc_words))) (pg_name (i := 2) sc_check_stand.nd rfl (Or.inl rfl)) (pss_one (ps_if (pt_cmpR op_notIn_seq (pv 2 (hd := nd_word) (hcd := nc_word)) (pv 0 (hd := nd_houses) (hcd := nc_houses)) (by rfl)) (pss_one (Ho.ps_err rfl T_NoHouse hr (L2N.takes_of rfl rfl rfl rfl) (pa_cons (pv 2 (hd := nd_word) (hcd := nc_word)) pa_nil) (by first | exact Ho.up_v | exact Ho.up_c))) pss_nil)))), ?_⟩
  refine Rd.at0 (σ := [some (.ref h), some (.ref l), none]) rfl ?_
  repeat' (walk_at "rd")
  refine forL (ws.map V.str) (fun i σ H' => ∃ v1 : Option V, σ = [some (.ref h), some (.ref l), v1] ∧ Same H H' ∧ ∀ y ∈ ws.take i, y ∈ zs) ⟨none, rfl, (fun _ _ e => e), fun _ h => nomatch h⟩ (fun _ _ _ _ ⟨_, _, s, _⟩ => .inl (.inl (s _ _ hl))) ?_ ?_
  · rintro i x σ H' hx ⟨v1, rfl, s', al⟩
    rw [List.getElem?_map] at hx
    obtain ⟨z, hz, rfl⟩ := Option.map_eq_some_iff.mp hx
    repeat' (walk_at "rd")
    refine ⟨h, _, rfl, .inl (s'.seq hh), rfl, flat_strs zs, ?_⟩
    rw [if_pos rfl, inV_strs]
    by_cases m : z ∈ zs
    · rw [decide_eq_true m]
      repeat' (walk_at "rd")
      refine ⟨_, rfl, s', fun y hy => ?_⟩
      rw [List.take_add_one, hz] at hy
      rcases List.mem_append.mp hy with hy | hy
      · exact al y hy
      · have hy : y = z := by simpa using hy
        rw [hy]
        exact m
    · rw [decide_eq_false m]
      repeat' (walk_at "rd")
      rename_i l' n' G' s2 e2
      exact qs i z hz m al l' G' (s'.free n') (s'.trans s2) e2
  · rintro σ H' ⟨v1, rfl, s', al⟩
    repeat' (walk_at "rd")
    exact qn (fun z hz => al z (by rw [List.length_map, List.take_of_length_le (Nat.le_refl _)]; exact hz)) H' s'
theorem dueN3 {d1 d2 d3 : PyData} (h : dueN [d1, d2, d3] = none) : ∃ n a b, d1 = .str n ∧ d2 = .str a ∧ d3 = .str b ∧ nmB n = true ∧ nmB a = true ∧ nmB b = true := by
  have one : ∀ {d : PyData} {ds : List PyData}, dueN (d :: ds) = none → (∃ z, d = .str z ∧ nmB z = true) ∧ dueN ds = none := fun {d ds} h => by
    unfold dueN at h
    by_cases hn : nameD d = true
    · rw [if_pos hn] at h
      rcases str_cases d with ⟨z, rfl⟩ | ⟨e, _⟩
      · exact ⟨⟨z, rfl, hn⟩, h⟩
      · rw [e] at hn
        cases hn
    · rw [if_neg hn] at h
      cases h
  obtain ⟨⟨n, e1, k1⟩, h⟩ := one h
  obtain ⟨⟨a, e2, k2⟩, h⟩ := one h
  obtain ⟨⟨b, e3, k3⟩, h⟩ := one h
  exact ⟨n, a, b, e1, e2, e3, k1, k2, k3⟩
def dueL (zs : List Str) (d1 d2 d3 : PyData) : Option (Str × PyData) := match dueN [d1, d2, d3] with
  | some d => dErr "BadName" d
  | none => match d2, d3 with
    | .str a, .str b => if a ∉ zs then dErr "NoHouse" (.str a) else if b ∉ zs then dErr "NoHouse" (.str b) else if a = b then dErr "SelfLine" d1 else none
    | _, _ => none
/-- check_line(houses, line, a, b) -/
def spLineE (K : PySem.W.Frag) (D : Str → Addr) : Sp := fun vs H Q E => ∃ (h : Addr) (zs : List Str) (v1 v2 v3 : V) (d1 d2 d3 : PyData), vs = [.ref h, v1, v2, v3] ∧ SqL K H h (zs.map V.str) ∧ Dv K H v1 d1 ∧ Dv K H v2 d2 ∧ Dv K H v3 d3 ∧ Sz d1 ∧ Sz d2 ∧ Sz d3 ∧
  (dueL zs d1 d2 d3 = none → ∀ H', Same H H' → Q .non H') ∧ ∀ code d, dueL zs d1 d2 d3 = some (code, d) → ∀ dd v H', H dd = none → Same H H' → Dv K H' v d → H' dd = some (.xd [("word", v), ("code", .str code)]) → E (.ref (D code)) (some dd) H'
theorem ok_check_line (F : Def K mg "check_line" s_check_line P_check_line) (T_SelfLine : Ho.ErrC P w K mg base "SelfLine" (D "SelfLine") "word") (C_check_names : Ho.CalN P w K mg base 4 "check_names" P_check_names (spNamesE K D)) (C_check_stand : Ho.CalN P w K mg base 4 "check_stand" P_check_stand (spStandE K D)) : Ho.CalN P w K mg base 5 "check_line" P_check_line (spLineE K D) := by
  refine Ho.defN F sc_check_line (fun vs H Q E h => ?_) (fun f cdv A outer s H vs Q E hr h => ?_)
  · obtain ⟨h, zs, v1, v2, v3, d1, d2, d3, rfl, _⟩ := h
    rfl
  obtain ⟨h, zs, v1, v2, v3, d1, d2, d3, rfl, hh, a1, a2, a3, z1, z2, z3, qn, qs⟩ := h
  refine ⟨_, (pss_cons (ps_expr (Ho.pe_calN C_check_names (L2N.takes_of rfl rfl rfl rfl) hr (pa_cons (pe_lst (pa_cons (pv 1 (hd := nd_line) (hcd := nc_line)) (pa_cons (pv 2 (hd := nd_a) (hcd := nc_a)) (pa_cons (pv 3 (hd := nd_b) (hcd := nc_b)) pa_nil)))) pa_nil)))
  (pss_cons (ps_expr (Ho.pe_calN C_check_stand (L2N.takes_of rfl rfl rfl rfl) hr (pa_cons (pv 0 (hd := nd_houses) (hcd := nc_houses)) (pa_cons (pe_lst (pa_cons (pv 2 (hd := nd_a) (hcd := nc_a)) (pa_cons (pv 3 (hd := nd_b) (hcd := nc_b)) pa_nil))) pa_nil))))
  (pss_one (ps_if (pt_cmpR op_eq (pv 2 (hd := nd_a) (hcd := nc_a)) (pv 3 (hd := nd_b) (hcd := nc_b)) (nomark _)) (pss_one (Ho.ps_err rfl T_SelfLine hr (L2N.takes_of rfl rfl rfl rfl) (pa_cons (pv 1 (hd := nd_line) (hcd := nc_line)) pa_nil) (by first | exact Ho.up_v | exact Ho.up_c))) pss_nil)))), ?_⟩
  refine Rd.at0 (σ := [some (.ref h), some v1, some v2, some v3]) rfl ?_
  repeat' (walk_at "rd")
  rename_i l1 n1 G1 s1 e1
  refine ⟨l1, [v1, v2, v3], [d1, d2, d3], rfl, e1, .cons (dv_same s1 a1) (.cons (dv_same s1 a2) (.cons (dv_same s1 a3) .nil)), fun d hd => ?_, fun hn H2 s2 => ?_, fun d hd dd v H2 n2 s2 dv e2 => ?_⟩
  · have hd : d = d1 ∨ d = d2 ∨ d = d3 := by simpa using hd
    rcases hd with rfl | rfl | rfl <;> assumption
  · obtain ⟨n, a, b, rfl, rfl, rfl, k1, k2, k3⟩ := dueN3 hn
    cases a1
    cases a2
    cases a3
    unfold dueL at qn qs
    rw [hn] at qn qs
    dsimp only at qn qs
    repeat' (walk_at "rd")
    rename_i l3 n3 G3 s3 e3
    have s13 := (s1.trans s2).trans s3
    refine ⟨h, l3, zs, [a, b], rfl, s13.seq hh, e3, fun al H4 s4 => ?_, fun i z hz hnz al dd H4 n4 s4 e4 => ?_⟩
    · have ma : a ∈ zs := al a (.head _)
      have mb : b ∈ zs := al b (.tail _ (.head _))
      rw [if_neg (fun k => k ma), if_neg (fun k => k mb)] at qn qs
      repeat' (walk_at "rd")
      · rename_i e l' n' G' s' e'
        rw [if_pos (V.str.inj e)] at qs
        have s := (s13.trans s4)
        exact qs _ _ rfl l' (.str n) G' (s.free n') (s.trans s') (.str n) e'
      · rename_i e
        rw [if_neg (fun z => e (by rw [z]))] at qn
        exact qn rfl H4 (s13.trans s4)
    · have sd : Same H H4 := s13.trans s4
      match i, hz with
      | 0, hz =>
        have hz : a = z := by simpa using hz
        subst hz
        rw [if_pos hnz] at qs
        exact qs _ _ rfl dd (.str a) H4 (s13.free n4) sd (.str a) e4
      | 1, hz =>
        have hz : b = z := by simpa using hz
        subst hz
        have ma : a ∈ zs := al a (.head _)
        rw [if_neg (fun k => k ma), if_pos hnz] at qs
        exact qs _ _ rfl dd (.str b) H4 (s13.free n4) sd (.str b) e4
  · unfold dueL at qs
    rw [hd] at qs
    exact qs _ _ rfl dd v H2 (s1.free n2) (s1.trans s2) dv e2
def dueP (zs ns : List Str) (d1 d2 d3 : PyData) : Option (Str × PyData) := match dueL zs d1 d2 d3 with
  | some e => some e
  | none => match d1 with
    | .str n => if n ∈ ns then dErr "Taken" (.str n) else if 96 ≤ ns.length then dErr "TooMany" (.int 96) else none
    | _ => none
theorem dueL_none {zs : List Str} {d1 d2 d3 : PyData} (h : dueL zs d1 d2 d3 = none) : ∃ n a b, d1 = .str n ∧ d2 = .str a ∧ d3 = .str b ∧ nmB n = true ∧ a ∈ zs ∧ b ∈ zs ∧ a ≠ b := by
  unfold dueL at h
  cases e : dueN [d1, d2, d3] with
  | some d =>
    rw [e] at h
    cases h
  | none =>
    obtain ⟨n, a, b, rfl, rfl, rfl, k1, k2, k3⟩ := dueN3 e
    rw [e] at h
    dsimp only at h
    by_cases ma : a ∈ zs
    · rw [if_neg (fun k => k ma)] at h
      by_cases mb : b ∈ zs
      · rw [if_neg (fun k => k mb)] at h
        by_cases ab : a = b
        · rw [if_pos ab] at h
          cases h
        · exact ⟨n, a, b, rfl, rfl, rfl, k1, ma, mb, ab⟩
      · rw [if_pos mb] at h
        cases h
    · rw [if_pos ma] at h
      cases h
theorem dueL_code {zs : List Str} {d1 d2 d3 : PyData} {code : Str} {d : PyData} (h : dueL zs d1 d2 d3 = some (code, d)) : code = "BadName" ∨ code = "NoHouse" ∨ code = "SelfLine" := by
  unfold dueL at h
  cases e : dueN [d1, d2, d3] with
  | some d' =>
    rw [e] at h
    cases h
    exact .inl rfl
  | none =>
    obtain ⟨n, a, b, rfl, rfl, rfl, _⟩ := dueN3 e
    rw [e] at h
    dsimp only at h
    by_cases ma : a ∈ zs
    · rw [if_neg (fun k => k ma)] at h
      by_cases mb : b ∈ zs
      · rw [if_neg (fun k => k mb)] at h
        by_cases ab : a = b
        · rw [if_pos ab] at h
          cases h
          exact .inr (.inr rfl)
        · rw [if_neg ab] at h
          cases h
      · rw [if_pos mb] at h
        cases h
        exact .inr (.inl rfl)
    · rw [if_pos ma] at h
      cases h
      exact .inr (.inl rfl)
theorem fldW {code : Str} (h : code = "BadName" ∨ code = "NoHouse" ∨ code = "SelfLine") : fldOf code = "word" := by
  rcases h with rfl | rfl | rfl <;> decide +kernel
/-- check_new_line(houses, standing, line, a, b) -/
def spNewE (K : PySem.W.Frag) (D : Str → Addr) : Sp := fun vs H Q E => ∃ (h d : Addr) (zs ns : List Str) (f : Str → V) (v1 v2 v3 : V) (d1 d2 d3 : PyData), vs = [.ref h, .ref d, v1, v2, v3] ∧ SqL K H h (zs.map V.str) ∧ H d = some (.dK (kd ns f)) ∧ Dv K H v1 d1 ∧ Dv K H v2 d2 ∧ Dv K H v3 d3 ∧ Sz d1 ∧ Sz d2 ∧ Sz d3 ∧
  (dueP zs ns d1 d2 d3 = none → ∀ H', Same H H' → Q .non H') ∧ ∀ code e, dueP zs ns d1 d2 d3 = some (code, e) → ∀ dd v H', H dd = none → Same H H' → Dv K H' v e → H' dd = some (.xd [(fldOf code, v), ("code", .str code)]) → E (.ref (D code)) (some dd) H'
theorem ok_check_new_line (F : Def K mg "check_new_line" s_check_new_line P_check_new_line) (m_len : mg "len" = none) (c_MOST_LINES : ∃ t, mg "MOST_LINES" = some (.int 96 t)) (T_Taken : Ho.ErrC P w K mg base "Taken" (D "Taken") "word") (T_TooMany : Ho.ErrC P w K mg base "TooMany" (D "TooMany") "bound") (C_check_line : Ho.CalN P w K mg base 5 "check_line" P_check_line (spLineE K D)) : Ho.CalN P w K mg base 6 "check_new_line" P_check_new_line (spNewE K D) := by
  refine Ho.defN F sc_check_new_line (fun vs H Q E h => ?_) (fun f cdv A outer s H vs Q E hr h => ?_)
  · obtain ⟨h, d, zs, ns, fk, v1, v2, v3, d1, d2, d3, rfl, _⟩ := h
    rfl
  obtain ⟨h, d, zs, ns, fk, v1, v2, v3, d1, d2, d3, rfl, hh, ed, a1, a2, a3, z1, z2, z3, qn, qs⟩ := h
  refine ⟨_, (pss_cons (ps_expr (Ho.pe_calN C_check_line (L2N.takes_of rfl rfl rfl rfl) hr (pa_cons (pv 0 (hd := nd_houses) (hcd := nc_houses)) (pa_cons (pv 2 (hd := nd_line) (hcd := nc_line)) (pa_cons (pv 3 (hd := nd_a) (hcd := nc_a)) (pa_cons (pv 4 (hd := nd_b) (hcd := nc_b)) pa_nil))))))
  (pss_cons (ps_if (pt_cmp (pc_din (un1 hr) (pv 2 (hd := nd_line) (hcd := nc_line)) (pv 1 (hd := nd_standing) (hcd := nc_standing)))) (pss_one (Ho.ps_err rfl T_Taken hr (L2N.takes_of rfl rfl rfl rfl) (pa_cons (pv 2 (hd := nd_line) (hcd := nc_line)) pa_nil) (by first | exact Ho.up_v | exact Ho.up_c))) pss_nil)
  (pss_one (ps_if (pt_cmpR op_ge (pe_callB (q_lenAK (K := K) rfl) (by rfl) m_len PySem.boot_len (pa_cons (pv 1 (hd := nd_standing) (hcd := nc_standing)) pa_nil) (hn := nn_len) (hdb := nd_len)) (Ho.pe_const (v := 96) c_MOST_LINES (by rfl)) (nomark _)) (pss_one (Ho.ps_err rfl T_TooMany hr (L2N.takes_of rfl rfl rfl rfl) (pa_cons (Ho.pe_const (v := 96) c_MOST_LINES (by rfl)) pa_nil) (by first | exact Ho.up_v | exact Ho.up_c))) pss_nil)))), ?_⟩
  refine Rd.at0 (σ := [some (.ref h), some (.ref d), some v1, some v2, some v3]) rfl ?_
  repeat' (walk_at "rd")
  refine ⟨h, zs, v1, v2, v3, d1, d2, d3, rfl, hh, a1, a2, a3, z1, z2, z3, fun hl H1 s1 => ?_, fun code e hl dd v H1 n1 s1 dv e1 => ?_⟩
  · obtain ⟨n, a, b, rfl, rfl, rfl, _⟩ := dueL_none hl
    cases a1
    have ed1 := s1 _ _ ed
    unfold dueP at qn qs
    rw [hl] at qn qs
    dsimp only at qn qs
    repeat' (walk_at "rd")
    refine dinC ed1 ?_
    by_cases m : n ∈ ns
    · rw [if_pos m] at qs
      rw [decide_eq_true m]
      repeat' (walk_at "rd")
      rename_i l' n' G' s' e'
      exact qs _ _ rfl l' (.str n) G' (s1.free n') (s1.trans s') (.str n) (by rw [fld2]; exact e')
    · rw [if_neg m] at qn qs
      rw [decide_eq_false m]
      repeat' (walk_at "rd")
      refine lenAd ed1 ?_
      rw [kd_len]
      repeat' (walk_at "rd")
      · rename_i l' n' G' s' e'
        rw [if_pos (by omega)] at qs
        exact qs _ _ rfl l' (.int 96) G' (s1.free n') (s1.trans s') (.int 96) (by rw [fld3]; exact e')
      · rw [if_neg (by omega)] at qn
        exact qn rfl H1 s1
  · unfold dueP at qs
    rw [hl] at qs
    exact qs _ _ rfl dd v H1 n1 s1 dv (by rw [fldW (dueL_code hl)]; exact e1)
end
end Kj
namespace Kj
open PySem PySem.Spec PyProof.Rows L2 Rd
local macro_rules | `(tactic| walk_at "hp") => `(tactic| first
  | assumption
  | exact upd_same
  | (refine Eq.trans (upd_ne (by first | assumption | (apply Ne.symm; assumption))) ?_; walk_at "hp"))
local macro_rules | `(tactic| walk_at "sq") => `(tactic| first
  | assumption
  | (refine Or.inl (Or.inl ?_); walk_at "hp"))
local macro_rules | `(tactic| walk_at "st") => `(tactic| first
  | assumption
  | (refine Or.inl (Or.inl ?_); walk_at "hp"))
local macro_rules | `(tactic| walk_at "ar") => `(tactic| first
  | assumption
  | omega
  | decide)
local macro_rules | `(tactic| walk_at "ci") => `(tactic| first
  | (refine (show CMul _ _ from Or.inr ⟨?_, ?_⟩) <;> omega)
  | (refine (show CMul _ _ from Or.inl ⟨?_, ?_⟩) <;> omega)
  | (show CPow _ _; exact ⟨by decide, by decide, by decide⟩)
  | (refine wide_div (b := 63) ?_ ?_ (by decide) (by decide) <;> omega)
  | (show (0 : Int) < _; omega))
local macro_rules | `(tactic| walk_at "ty") => `(tactic| first
  | exact dp_ty (by assumption)
  | exact TyX.base (TyOf.int _)
  | exact TyX.base (TyOf.str _)
  | exact TyX.base (TyOf.bl _)
  | exact TyX.base TyOf.non
  | exact tyL' (by walk_at "sq")
  | exact tyT' (by walk_at "st"))
local macro_rules | `(tactic| walk_at "isi") => `(tactic| first
  | ((with_reducible apply Rd.isiF); (walk_at "ty"); (decide))
  | ((with_reducible apply Rd.isiT); (walk_at "ty"); (decide)))
local macro_rules | `(tactic| walk_at "rd") => `(tactic| first
  | with_reducible apply Rd.seq
  | ((with_reducible apply Rd.var); rfl)
  | with_reducible apply Rd.con
  | with_reducible apply Rd.op
  | with_reducible apply Rd.asg
  | ((with_reducible apply Rd.gname); ((dsimp only [List.set, L2.wipe, Int.reduceToNat]) <;> rfl))
  | with_reducible apply Rd.nxt
  | with_reducible apply Rd.ifs
  | with_reducible apply Rd.test
  | with_reducible apply Rd.testB
  | with_reducible apply Rd.exbl
  | with_reducible apply Rd.ret
  | with_reducible apply Rd.drop
  | with_reducible apply Rd.retN
  | with_reducible apply Rd.nil
  | with_reducible apply Rd.cons
  | with_reducible apply Rd.call
  | with_reducible apply Rd.cb
  | with_reducible apply Rd.and
  | with_reducible apply Rd.or
  | with_reducible apply Rd.not
  | with_reducible apply Rd.andV
  | with_reducible apply Rd.orV
  | with_reducible apply Rd.notV
  | with_reducible apply Rd.ife
  | with_reducible apply Rd.tup
  | with_reducible apply Rd.lst
  | with_reducible apply Rd.un
  | with_reducible apply Rd.chain
  | with_reducible apply Rd.brk
  | with_reducible apply Rd.cnt
  | with_reducible apply Rd.I0
  | with_reducible apply Rd.U1
  | ((with_reducible apply Rd.eq); rfl)
  | ((with_reducible apply Rd.ne); rfl)
  | ((with_reducible apply Rd.I1); (walk_at "ci"))
  | with_reducible apply Rd.lc0
  | with_reducible apply Rd.ln0
  | with_reducible apply Rd.exN
  | ((with_reducible apply Rd.iteSf); (decide +kernel))
  | ((with_reducible apply Rd.iteSt); (decide +kernel))
  | ((with_reducible apply Rd.niQ); (exact Or.inl (by walk_at "sq")); (exact ⟨rfl, rfl⟩); (rfl))
  | ((with_reducible apply Rd.inQ); (exact Or.inl (by walk_at "sq")); (exact ⟨rfl, rfl⟩); (rfl))
  | with_reducible apply Rd.rn1
  | with_reducible apply Rd.in1
  | with_reducible apply Rd.sn1
  | with_reducible apply Rd.bn1
  | with_reducible apply Rd.nn1
  | with_reducible apply Rd.rn2
  | with_reducible apply Rd.in2
  | with_reducible apply Rd.sn2
  | with_reducible apply Rd.bn2
  | with_reducible apply Rd.nn2
  | with_reducible apply Rd.nt1
  | with_reducible apply Rd.nf1
  | (with_reducible refine Rd.iteI (fun _ => ?_) (fun _ => ?_))
  | (with_reducible refine Rd.iteNI (fun _ => ?_) (fun _ => ?_))
  | (with_reducible refine iteT ?_)
  | (with_reducible refine iteF ?_)
  | (with_reducible refine Rd.iteD (fun _ => ?_) (fun _ => ?_))
  | (with_reducible refine Rd.iteN (fun _ => ?_) (fun _ => ?_))
  | with_reducible apply Rd.intI
  | with_reducible apply Rd.intB
  | with_reducible apply Rd.maxQ
  | with_reducible apply Rd.minQ
  | with_reducible apply Rd.absQ
  | with_reducible apply Rd.isN
  | with_reducible apply Rd.noN
  | with_reducible apply Rd.ltZ
  | with_reducible apply Rd.bm
  | with_reducible apply Rd.bm0
  | with_reducible apply Rd.par
  | with_reducible apply Rd.expar
  | with_reducible apply Rd.exint
  | with_reducible apply Rd.ipi
  | with_reducible apply Rd.slice
  | with_reducible apply Rd.noPart
  | with_reducible apply Rd.part
  | with_reducible apply Rd.gcons
  | with_reducible apply Rd.gnil
  | with_reducible apply Rd.iseq
  | with_reducible apply Rd.irng1
  | walk_at "isi"
  | with_reducible apply Rd.forX
  | with_reducible apply Rd.lstRev
  | with_reducible apply Rd.lstRg
  | with_reducible apply Rd.rg1
  | with_reducible apply Rd.rg2
  | with_reducible apply Rd.exint2
  | ((with_reducible apply Rd.exrev); (walk_at "sq"))
  | with_reducible apply Rd.lcX
  | with_reducible apply Rd.yes
  | ((with_reducible apply Rd.exrng1); (constructor <;> omega))
  | ((with_reducible apply Rd.exrng2); (refine ⟨?_, ?_, ?_, ?_⟩ <;> omega))
  | with_reducible apply Rd.irng2
  | ((with_reducible apply Rd.aug); rfl)
  | ((with_reducible apply Rd.exlst); (walk_at "sq"))
  | ((with_reducible apply Rd.gtup); (walk_at "st"); (rfl))
  | ((with_reducible apply Rd.tyL); (walk_at "hp"))
  | ((with_reducible apply Rd.ixL); (walk_at "sq"); (rfl))
  | ((with_reducible apply Rd.ixI); (walk_at "sq"); (omega); (first | assumption | (simp only [List.length_map]; omega)); (intro _ _))
  | (with_reducible refine Rd.gsub ?_)
  | ((with_reducible apply Rd.setL); (walk_at "hp"); (rfl); ((dsimp only [List.set, L2.wipe, Int.reduceToNat]) <;> rfl))
  | ((with_reducible apply Rd.lenQ); (first | exact Or.inl (by walk_at "sq") | exact Or.inr (by walk_at "st")))
  | ((with_reducible apply Rd.listQ); (first | exact Or.inl (by walk_at "sq") | exact Or.inr (by walk_at "st")))
  | ((with_reducible apply Rd.tupQ); (walk_at "sq"))
  | ((with_reducible apply Rd.slL); (walk_at "sq"))
  | ((with_reducible apply Rd.ixT); (walk_at "st"); (rfl))
  | (with_reducible refine Rd.iteB (fun _ => ?_) (fun _ => ?_))
  | (with_reducible refine Rd.iteNB (fun _ => ?_) (fun _ => ?_))
  | (refine Rd.andI (Nat.le_of_ble_eq_true rfl) ?_)
  | dsimp only [List.set])
local macro_rules | `(tactic| walk_at "hp") => `(tactic| first
  | assumption
  | exact upd_same
  | (refine Eq.trans (upd_ne (by first | assumption | (apply Ne.symm; assumption))) ?_; walk_at "hp")
  | (refine hpS (by assumption) ?_; walk_at "hp"))
local macro_rules | `(tactic| walk_at "al") => `(tactic| (with_reducible intro l hl; generalize hG : upd _ l _ = G; have hs := newOne hl hG; clear hG; obtain ⟨hs, he⟩ := hs))
local macro_rules | `(tactic| walk_at "rd") => `(tactic| first
  | walk_at "al"
  | ((with_reducible apply Rd.cat); (walk_at "hp"); (walk_at "hp"); (exact Nat.le_of_ble_eq_true rfl)))
local macro_rules | `(tactic| walk_at "sm") => `(tactic| first
  | assumption
  | exact Same.refl _
  | (refine Same.trans ?_ (by assumption); walk_at "sm"))
local macro_rules | `(tactic| walk_at "fr") => `(tactic| first
  | assumption
  | (refine Same.free (by assumption) ?_; walk_at "fr"))
local macro_rules | `(tactic| walk_at "ty") => `(tactic| first
  | exact dv_ty (by assumption)
  | exact tyD' (by walk_at "hp"))
local macro_rules | `(tactic| walk_at "sz") => `(tactic| first
  | exact sz5 (by omega)
  | (simp only [add_len, one_len]; exact sz5 (by omega)))
local macro_rules | `(tactic| walk_at "rd") => `(tactic| first
  | with_reducible apply Rd.istr
  | with_reducible apply Rd.exstr
  | with_reducible apply Rd.leA
  | with_reducible apply Rd.leZz
  | with_reducible apply Rd.le0
  | with_reducible apply Rd.le9
  | with_reducible apply Rd.niZ
  | ((with_reducible apply Rd.lenZ); (walk_at "sz"))
  | ((with_reducible apply Rd.slZ); (walk_at "sz"))
  | ((with_reducible apply Rd.addZ); (walk_at "sz"))
  | with_reducible apply Rd.raiseX
  | with_reducible apply Rd.exone
  | with_reducible apply Rd.callS
  | with_reducible apply Rd.callP
  | with_reducible apply Rd.xsX
  | with_reducible apply Rd.dnewX
  | with_reducible apply Rd.tyZ)
local macro_rules | `(tactic| walk_at "rd") => `(tactic| first
  | with_reducible apply Rd.seq
  | ((with_reducible apply Rd.var); rfl)
  | with_reducible apply Rd.con
  | with_reducible apply Rd.op
  | with_reducible apply Rd.cons
  | with_reducible apply Rd.nil
  | with_reducible apply Rd.asg
  | ((with_reducible apply Rd.gname); ((dsimp only [List.set, L2.wipe, Int.reduceToNat]) <;> rfl))
  | with_reducible apply Rd.nxt
  | with_reducible apply Rd.ifs
  | with_reducible apply Rd.test
  | with_reducible apply Rd.ret
  | with_reducible apply Rd.call
  | with_reducible apply Rd.cb)
open Ty Ln
section
variable {P : Program} {w : World} {K : PySem.W.Frag} {mg : Str → Option Value} {base : Heap} {D : Str → Addr}
def wfs (h d l : Addr) : List (Str × V) := [("_houses", .ref h), ("_ends", .ref d), ("_lines", .ref l)]
theorem w12 : ¬ (("_houses" : Str) = "_ends") := by decide +kernel
theorem w13 : ¬ (("_houses" : Str) = "_lines") := by decide +kernel
theorem w23 : ¬ (("_ends" : Str) = "_lines") := by decide +kernel
def wfs1 (h : Addr) : List (Str × V) := [("_houses", .ref h)]
def wfs2 (h d : Addr) : List (Str × V) := [("_houses", .ref h), ("_ends", .ref d)]
theorem wf1 (h : Addr) : putF "_houses" (.ref h) [] = wfs1 h := rfl
theorem wf2 (h d : Addr) : putF "_ends" (.ref d) (wfs1 h) = wfs2 h d := by
  unfold wfs1 putF
  rw [if_neg w12]
  rfl
theorem wf3 (h d l : Addr) : putF "_lines" (.ref l) (wfs2 h d) = wfs h d l := by
  unfold wfs2 putF
  rw [if_neg w13]
  unfold putF
  rw [if_neg w23]
  rfl
theorem lu1 (h : Addr) : (wfs1 h).lookup ("_houses" : Str) = some (.ref h) := by rw [← wf1, lookup_putF, if_pos rfl]
theorem lu2 (h d : Addr) : (wfs2 h d).lookup ("_houses" : Str) = some (.ref h) := by rw [← wf2, lookup_putF, if_neg w12, lu1]
theorem lu3 (h d : Addr) : (wfs2 h d).lookup ("_ends" : Str) = some (.ref d) := by rw [← wf2, lookup_putF, if_pos rfl]
theorem lk1 (h d l : Addr) : (wfs h d l).lookup ("_houses" : Str) = some (.ref h) := by rw [← wf3, lookup_putF, if_neg w13, lu2]
theorem lk2 (h d l : Addr) : (wfs h d l).lookup ("_ends" : Str) = some (.ref d) := by rw [← wf3, lookup_putF, if_neg w23, lu3]
theorem lk3 (h d l : Addr) : (wfs h d l).lookup ("_lines" : Str) = some (.ref l) := by rw [← wf3, lookup_putF, if_pos rfl]
/-- at a a web of the houses zs and the lines ts -/
def WebAt (H : Hp) (C a : Addr) (zs : List Str) (ts : List (Str × Str × Str)) : Prop := ∃ (dx h d l : Addr) (ys : List Str) (ks : List (List Str)) (f : Str → V), H a = some (.ins C dx (wfs h d l)) ∧
  ys.Perm zs ∧ sortedS ys = true ∧ H h = some (.lst (ys.map V.str)) ∧ H d = some (.dK (kd (ts.map (·.1)) f)) ∧ (∀ t ∈ ts, WV H (f t.1) [t.2.1, t.2.2]) ∧ ks.Perm (ts.map tr) ∧ SrtW ks ∧ WL H l ks
theorem sfld {ta tv : TE} {f : Str} {D : Ends} {σ : L2.St} {H : Hp} (h : tv σ H fun y H1 => ta σ H1 fun x H2 => ∃ a C dx fs, x = .ref a ∧ H2 a = some (.ins C dx fs) ∧ Cls K C ∧ NoAttr K C f ∧ fs.length < 1000 ∧ D.nx σ (upd H2 a (.ins C dx (putF f y fs)))) : sFld K ta tv f D σ H := h
theorem fldX {ta : TE} {f : Str} {σ : L2.St} {H : Hp} {Q : VK} (h : ta σ H fun x H1 => ∃ a C dx fs v, x = .ref a ∧ H1 a = some (.ins C dx fs) ∧ Cls K C ∧ NoAttr K C f ∧ fs.lookup f = some v ∧ Q v H1) : tFld K ta f σ H Q := h
theorem dnewXc {σ : L2.St} {H : Hp} {Q : VK} (h : ∀ p, H p = none → Q (.ref p) (upd H p (.dK []))) : tDNewK σ H Q := h
local macro_rules | `(tactic| walk_at "rd") => `(tactic| first
  | with_reducible apply Kj.dnewXc
  | with_reducible apply Kj.sfld
  | with_reducible apply Kj.fldX)
/-- all but what stands at x is kept -/
def Kx (x : Addr) (H H' : Hp) : Prop := ∀ b o, b ≠ x → H b = some o → H' b = some o
theorem Kx.of {x : Addr} {H H' : Hp} (s : Same H H') : Kx x H H' := fun b o _ => s b o
theorem Kx.same {L : Addr} {H G F : Hp} (n : H L = none) (s : Same H G) (k : Kx L G F) : Same H F := fun b o e => k b o (fun z => by rw [z, n] at e; cases e) (s b o e)
theorem Kx.trans {x : Addr} {H H1 H2 : Hp} (a : Kx x H H1) (b : Kx x H1 H2) : Kx x H H2 := fun c o n e => b c o n (a c o n e)
theorem Kx.put {x : Addr} {H : Hp} {o : HO} : Kx x H (upd H x o) := fun b o' n e => (upd_ne n).trans e
theorem Kx.new {x p : Addr} {H : Hp} {o : HO} (h : H p = none) : Kx x H (upd H p o) := .of (same_upd h)
theorem wvs_of {H : Hp} : ∀ {vs : List V} {ks : List (List Str)}, vs.length = ks.length → (∀ (i : Nat) (v : V) (k : List Str), vs[i]? = some v → ks[i]? = some k → WV H v k) → WVs H vs ks
  | [], [], _, _ => trivial
  | v :: vs, k :: ks, l, h => ⟨h 0 v k rfl rfl, wvs_of (Nat.succ.inj l) fun i v' k' a b => h (i + 1) v' k' a b⟩
  | [], _ :: _, l, _ => nomatch l
  | _ :: _, [], l, _ => nomatch l
theorem wv_ins {H : Hp} {x C dx : Addr} {fs : List (Str × V)} {o : HO} {v : V} {k : List Str} (e : H x = some (.ins C dx fs)) (h : WV H v k) : WV (upd H x o) v k := by
  obtain ⟨ok, t, rfl, h⟩ := h
  exact ⟨ok, t, rfl, (upd_ne fun z => by rw [z, e] at h; cases h).trans h⟩
theorem wvs_ins {H : Hp} {x C dx : Addr} {fs : List (Str × V)} {o : HO} {vs : List V} {ks : List (List Str)} (e : H x = some (.ins C dx fs)) (h : WVs H vs ks) : WVs (upd H x o) vs ks := h.all fun _ _ _ k => wv_ins e k
/-- a comprehension whose items are new objects -/
theorem lcWO {J : It} {n : Nat} {Gd : Hp → Prop} {Y : Nat → Hp → V → Hp → Prop} (w : L2.Walk J n Gd Y) {g : TG} {tt : L2.TT} {te : TE} {vs : List Nat} {σ : L2.St} {H : Hp} {Q : VK} (R : Addr → Nat → V → Hp → Prop)
    (mono : ∀ L i v G G', R L i v G → Kx L G G' → R L i v G') (hz : n ≤ 100000) (hG : ∀ h, Same H h → Gd h)
    (hs : ∀ L i x h h', H L = none → i < n → Same H h → (∃ o, h L = some o) → Y i h x h' → ∀ Nx : Hp → Prop, (∀ G y, R L i y G → Same h G → ∃ out, G L = some (.lst out) ∧ out.length < sizeLine ∧ Nx (upd G L (.lst (out ++ [y])))) → Turn1 g tt te vs σ L x h' Nx)
    (hd : ∀ L G us, H L = none → Same H G → G L = some (.lst us) → us.length = n → (∀ i u, us[i]? = some u → R L i u G) → Q (.ref L) G) : LcB J g tt te vs σ H Q := fun L hL => by
  have st : ∀ {G : Hp} {o : HO}, Same H G → Same H (upd G L o) := fun s b o e => (upd_ne (ne_of_none e hL)).trans (s b o e)
  refine L2.lc_it (Qd := Q (.ref L)) w (fun i h => Same H h ∧ ∃ us, h L = some (.lst us) ∧ us.length = i ∧ ∀ j u, us[j]? = some u → R L j u h) ⟨st (.refl H), [], upd_same, rfl, fun j u e => by simp at e⟩ (fun i h _ p => hG h p.1) (fun i x h h' hi p y => ?_) fun h ⟨s, us, e, l, r⟩ => hd L h us hL s e l r
  obtain ⟨s, us, e, l, r⟩ := p
  refine hs L i x h h' hL hi s ⟨_, e⟩ y _ fun G z hz' sG => ⟨us, sG _ _ e, by have := sz5 (Nat.le_refl 100000); omega, st (s.trans sG), us ++ [z], upd_same, by rw [List.length_append, l]; rfl, fun j u hu => ?_⟩
  have kx : Kx L G (upd G L (.lst (us ++ [z]))) := fun b o n e => (upd_ne n).trans e
  by_cases c : j < us.length
  · rw [List.getElem?_append_left c] at hu
    exact mono _ _ _ _ _ (r j u hu) ((Kx.of sG).trans kx)
  · have : j = us.length := by
      have := (List.getElem?_eq_some_iff.mp hu).1
      rw [List.length_append] at this
      have : j < us.length + 1 := this
      omega
    subst this
    rw [List.getElem?_append_right (Nat.le_refl _), Nat.sub_self] at hu
    cases hu
    rw [l]
    exact mono _ _ _ _ _ hz' kx
theorem itemsX {td : TE} {σ : L2.St} {H : Hp} {R : It → Hp → Prop} (h : td σ H fun x H1 => ∃ d o kvs, x = .ref d ∧ H1 d = some (.frz o (.dK kvs)) ∧ R (Iti d o kvs) H1) : iItems td σ H R := h
local macro_rules | `(tactic| walk_at "rd") => `(tactic| first
  | with_reducible apply Kj.itemsX)
end
end Kj
namespace Kj
open PySem PySem.Spec PyProof.Rows L2 Rd
local macro_rules | `(tactic| walk_at "hp") => `(tactic| first
  | assumption
  | exact upd_same
  | (refine Eq.trans (upd_ne (by first | assumption | (apply Ne.symm; assumption))) ?_; walk_at "hp"))
local macro_rules | `(tactic| walk_at "sq") => `(tactic| first
  | assumption
  | (refine Or.inl (Or.inl ?_); walk_at "hp"))
local macro_rules | `(tactic| walk_at "st") => `(tactic| first
  | assumption
  | (refine Or.inl (Or.inl ?_); walk_at "hp"))
local macro_rules | `(tactic| walk_at "ar") => `(tactic| first
  | assumption
  | omega
  | decide)
local macro_rules | `(tactic| walk_at "ci") => `(tactic| first
  | (refine (show CMul _ _ from Or.inr ⟨?_, ?_⟩) <;> omega)
  | (refine (show CMul _ _ from Or.inl ⟨?_, ?_⟩) <;> omega)
  | (show CPow _ _; exact ⟨by decide, by decide, by decide⟩)
  | (refine wide_div (b := 63) ?_ ?_ (by decide) (by decide) <;> omega)
  | (show (0 : Int) < _; omega))
local macro_rules | `(tactic| walk_at "ty") => `(tactic| first
  | exact dp_ty (by assumption)
  | exact TyX.base (TyOf.int _)
  | exact TyX.base (TyOf.str _)
  | exact TyX.base (TyOf.bl _)
  | exact TyX.base TyOf.non
  | exact tyL' (by walk_at "sq")
  | exact tyT' (by walk_at "st"))
local macro_rules | `(tactic| walk_at "isi") => `(tactic| first
  | ((with_reducible apply Rd.isiF); (walk_at "ty"); (decide))
  | ((with_reducible apply Rd.isiT); (walk_at "ty"); (decide)))
local macro_rules | `(tactic| walk_at "rd") => `(tactic| first
  | with_reducible apply Rd.seq
  | ((with_reducible apply Rd.var); rfl)
  | with_reducible apply Rd.con
  | with_reducible apply Rd.op
  | with_reducible apply Rd.asg
  | ((with_reducible apply Rd.gname); ((dsimp only [List.set, L2.wipe, Int.reduceToNat]) <;> rfl))
  | with_reducible apply Rd.nxt
  | with_reducible apply Rd.ifs
  | with_reducible apply Rd.test
  | with_reducible apply Rd.testB
  | with_reducible apply Rd.exbl
  | with_reducible apply Rd.ret
  | with_reducible apply Rd.drop
  | with_reducible apply Rd.retN
  | with_reducible apply Rd.nil
  | with_reducible apply Rd.cons
  | with_reducible apply Rd.call
  | with_reducible apply Rd.cb
  | with_reducible apply Rd.and
  | with_reducible apply Rd.or
  | with_reducible apply Rd.not
  | with_reducible apply Rd.andV
  | with_reducible apply Rd.orV
  | with_reducible apply Rd.notV
  | with_reducible apply Rd.ife
  | with_reducible apply Rd.tup
  | with_reducible apply Rd.lst
  | with_reducible apply Rd.un
  | with_reducible apply Rd.chain
  | with_reducible apply Rd.brk
  | with_reducible apply Rd.cnt
  | with_reducible apply Rd.I0
  | with_reducible apply Rd.U1
  | ((with_reducible apply Rd.eq); rfl)
  | ((with_reducible apply Rd.ne); rfl)
  | ((with_reducible apply Rd.I1); (walk_at "ci"))
  | with_reducible apply Rd.lc0
  | with_reducible apply Rd.ln0
  | with_reducible apply Rd.exN
  | ((with_reducible apply Rd.iteSf); (decide +kernel))
  | ((with_reducible apply Rd.iteSt); (decide +kernel))
  | ((with_reducible apply Rd.niQ); (exact Or.inl (by walk_at "sq")); (exact ⟨rfl, rfl⟩); (rfl))
  | ((with_reducible apply Rd.inQ); (exact Or.inl (by walk_at "sq")); (exact ⟨rfl, rfl⟩); (rfl))
  | with_reducible apply Rd.rn1
  | with_reducible apply Rd.in1
  | with_reducible apply Rd.sn1
  | with_reducible apply Rd.bn1
  | with_reducible apply Rd.nn1
  | with_reducible apply Rd.rn2
  | with_reducible apply Rd.in2
  | with_reducible apply Rd.sn2
  | with_reducible apply Rd.bn2
  | with_reducible apply Rd.nn2
  | with_reducible apply Rd.nt1
  | with_reducible apply Rd.nf1
  | (with_reducible refine Rd.iteI (fun _ => ?_) (fun _ => ?_))
  | (with_reducible refine Rd.iteNI (fun _ => ?_) (fun _ => ?_))
  | (with_reducible refine iteT ?_)
  | (with_reducible refine iteF ?_)
  | (with_reducible refine Rd.iteD (fun _ => ?_) (fun _ => ?_))
  | (with_reducible refine Rd.iteN (fun _ => ?_) (fun _ => ?_))
  | with_reducible apply Rd.intI
  | with_reducible apply Rd.intB
  | with_reducible apply Rd.maxQ
  | with_reducible apply Rd.minQ
  | with_reducible apply Rd.absQ
  | with_reducible apply Rd.isN
  | with_reducible apply Rd.noN
  | with_reducible apply Rd.ltZ
  | with_reducible apply Rd.bm
  | with_reducible apply Rd.bm0
  | with_reducible apply Rd.par
  | with_reducible apply Rd.expar
  | with_reducible apply Rd.exint
  | with_reducible apply Rd.ipi
  | with_reducible apply Rd.slice
  | with_reducible apply Rd.noPart
  | with_reducible apply Rd.part
  | with_reducible apply Rd.gcons
  | with_reducible apply Rd.gnil
  | with_reducible apply Rd.iseq
  | with_reducible apply Rd.irng1
  | walk_at "isi"
  | with_reducible apply Rd.forX
  | with_reducible apply Rd.lstRev
  | with_reducible apply Rd.lstRg
  | with_reducible apply Rd.rg1
  | with_reducible apply Rd.rg2
  | with_reducible apply Rd.exint2
  | ((with_reducible apply Rd.exrev); (walk_at "sq"))
  | with_reducible apply Rd.lcX
  | with_reducible apply Rd.yes
  | ((with_reducible apply Rd.exrng1); (constructor <;> omega))
  | ((with_reducible apply Rd.exrng2); (refine ⟨?_, ?_, ?_, ?_⟩ <;> omega))
  | with_reducible apply Rd.irng2
  | ((with_reducible apply Rd.aug); rfl)
  | ((with_reducible apply Rd.exlst); (walk_at "sq"))
  | ((with_reducible apply Rd.gtup); (walk_at "st"); (rfl))
  | ((with_reducible apply Rd.tyL); (walk_at "hp"))
  | ((with_reducible apply Rd.ixL); (walk_at "sq"); (rfl))
  | ((with_reducible apply Rd.ixI); (walk_at "sq"); (omega); (first | assumption | (simp only [List.length_map]; omega)); (intro _ _))
  | (with_reducible refine Rd.gsub ?_)
  | ((with_reducible apply Rd.setL); (walk_at "hp"); (rfl); ((dsimp only [List.set, L2.wipe, Int.reduceToNat]) <;> rfl))
  | ((with_reducible apply Rd.lenQ); (first | exact Or.inl (by walk_at "sq") | exact Or.inr (by walk_at "st")))
  | ((with_reducible apply Rd.listQ); (first | exact Or.inl (by walk_at "sq") | exact Or.inr (by walk_at "st")))
  | ((with_reducible apply Rd.tupQ); (walk_at "sq"))
  | ((with_reducible apply Rd.slL); (walk_at "sq"))
  | ((with_reducible apply Rd.ixT); (walk_at "st"); (rfl))
  | (with_reducible refine Rd.iteB (fun _ => ?_) (fun _ => ?_))
  | (with_reducible refine Rd.iteNB (fun _ => ?_) (fun _ => ?_))
  | (refine Rd.andI (Nat.le_of_ble_eq_true rfl) ?_)
  | dsimp only [List.set])
local macro_rules | `(tactic| walk_at "hp") => `(tactic| first
  | assumption
  | exact upd_same
  | (refine Eq.trans (upd_ne (by first | assumption | (apply Ne.symm; assumption))) ?_; walk_at "hp")
  | (refine hpS (by assumption) ?_; walk_at "hp"))
local macro_rules | `(tactic| walk_at "al") => `(tactic| (with_reducible intro l hl; generalize hG : upd _ l _ = G; have hs := newOne hl hG; clear hG; obtain ⟨hs, he⟩ := hs))
local macro_rules | `(tactic| walk_at "rd") => `(tactic| first
  | walk_at "al"
  | ((with_reducible apply Rd.cat); (walk_at "hp"); (walk_at "hp"); (exact Nat.le_of_ble_eq_true rfl)))
local macro_rules | `(tactic| walk_at "sm") => `(tactic| first
  | assumption
  | exact Same.refl _
  | (refine Same.trans ?_ (by assumption); walk_at "sm"))
local macro_rules | `(tactic| walk_at "fr") => `(tactic| first
  | assumption
  | (refine Same.free (by assumption) ?_; walk_at "fr"))
local macro_rules | `(tactic| walk_at "ty") => `(tactic| first
  | exact dv_ty (by assumption)
  | exact tyD' (by walk_at "hp"))
local macro_rules | `(tactic| walk_at "sz") => `(tactic| first
  | exact sz5 (by omega)
  | (simp only [add_len, one_len]; exact sz5 (by omega)))
local macro_rules | `(tactic| walk_at "rd") => `(tactic| first
  | with_reducible apply Rd.istr
  | with_reducible apply Rd.exstr
  | with_reducible apply Rd.leA
  | with_reducible apply Rd.leZz
  | with_reducible apply Rd.le0
  | with_reducible apply Rd.le9
  | with_reducible apply Rd.niZ
  | ((with_reducible apply Rd.lenZ); (walk_at "sz"))
  | ((with_reducible apply Rd.slZ); (walk_at "sz"))
  | ((with_reducible apply Rd.addZ); (walk_at "sz"))
  | with_reducible apply Rd.raiseX
  | with_reducible apply Rd.exone
  | with_reducible apply Rd.callS
  | with_reducible apply Rd.callP
  | with_reducible apply Rd.xsX
  | with_reducible apply Rd.dnewX
  | with_reducible apply Rd.tyZ)
local macro_rules | `(tactic| walk_at "rd") => `(tactic| first
  | with_reducible apply Rd.seq
  | ((with_reducible apply Rd.var); rfl)
  | with_reducible apply Rd.con
  | with_reducible apply Rd.op
  | with_reducible apply Rd.cons
  | with_reducible apply Rd.nil
  | with_reducible apply Rd.asg
  | ((with_reducible apply Rd.gname); ((dsimp only [List.set, L2.wipe, Int.reduceToNat]) <;> rfl))
  | with_reducible apply Rd.nxt
  | with_reducible apply Rd.ifs
  | with_reducible apply Rd.test
  | with_reducible apply Rd.ret
  | with_reducible apply Rd.call
  | with_reducible apply Rd.cb)
open Ty Ln
section
variable {P : Program} {w : World} {K : PySem.W.Frag} {mg : Str → Option Value} {base : Heap} {D : Str → Addr}
theorem nmS_of {z : Str} (h : nmB z = true) : NmS z := by
  unfold nmB at h
  obtain ⟨h1, h2⟩ := Bool.and_eq_true_iff.mp h
  obtain ⟨l1, l2⟩ := Bool.and_eq_true_iff.mp h1
  obtain ⟨h3, h4⟩ := Bool.and_eq_true_iff.mp h2
  have l1 := of_decide_eq_true l1
  have l2 := of_decide_eq_true l2
  obtain ⟨c, hc⟩ := nm_head l1
  rw [hc] at h3
  have lo : Low c := of_decide_eq_true h3
  refine ⟨?_, l2⟩
  match e : cl z, hc with
  | x :: s, hc =>
    have hc : x = c := by simpa using hc
    subst hc
    rw [e] at h4
    exact ⟨x, s, rfl, lo, fun y hy => of_decide_eq_true (List.all_eq_true.mp h4 y (.tail _ hy))⟩
def strD : PyData → Str
  | .str z => z
  | _ => ""
theorem strD_map : ∀ zs : List Str, (zs.map PyData.str).map strD = zs
  | [] => rfl
  | z :: zs => congrArg (z :: ·) (strD_map zs)
theorem va_strs : ∀ {zs : List Str} {ds : List PyData} {H : Hp}, DvAll K H (zs.map V.str) ds → ds = zs.map PyData.str
  | [], _, _, .nil => rfl
  | z :: zs, _, _, .cons (.str _) t => by rw [va_strs t]; rfl
theorem dueD_nm : ∀ {zs seen : List Str}, dueD (zs.map PyData.str) seen = none → ∀ z ∈ zs, nmB z = true
  | [], _, _, _, h => nomatch h
  | y :: zs, seen, h, z, hz => by
    rw [List.map_cons] at h
    cases hn : nmB y with
    | false =>
      rw [due_not (d := .str y) hn] at h
      cases h
    | true =>
      by_cases m : y ∈ seen
      · rw [due_taken hn m] at h
        cases h
      · by_cases l : 32 ≤ seen.length
        · rw [due_many hn m l] at h
          cases h
        · rw [due_next hn m l] at h
          rcases List.mem_cons.mp hz with rfl | hz
          · exact hn
          · exact dueD_nm h z hz
/-- right houses -/
theorem dueD_ok : ∀ {zs seen : List Str}, (∀ z ∈ zs, nmB z = true) → (seen ++ zs).Nodup → (seen ++ zs).length ≤ 32 → dueD (zs.map PyData.str) seen = none
  | [], _, _, _, _ => rfl
  | z :: zs, seen, h, nd, l => by
    have nm := h z (.head _)
    have m : z ∉ seen := fun k => (List.nodup_append.mp nd).2.2 z k z (.head _) rfl
    rw [List.map_cons, due_next nm m (by rw [List.length_append, List.length_cons] at l; omega)]
    refine dueD_ok (fun y hy => h y (.tail _ hy)) ?_ ?_
    · rw [List.append_assoc]
      exact nd
    · rw [List.append_assoc]
      exact l
def loS (a b : Str) : Str := if b.cps.toList < a.cps.toList then b else a
def hiS (a b : Str) : Str := if b.cps.toList < a.cps.toList then a else b
theorem ord_lohi (a b : Str) : ordD a b = [loS a b, hiS a b] := by
  unfold ordD loS hiS
  split <;> rfl
theorem lohi {a b : Str} (n : a ≠ b) : cl (loS a b) < cl (hiS a b) := by
  unfold loS hiS
  by_cases h : b.cps.toList < a.cps.toList
  · rw [if_pos h, if_pos h]
    exact h
  · rw [if_neg h, if_neg h]
    by_cases k : cl a < cl b
    · exact k
    · exact absurd (le_antisymm' h k) n
theorem lohi_in (a b : Str) {zs : List Str} (ha : a ∈ zs) (hb : b ∈ zs) : loS a b ∈ zs ∧ hiS a b ∈ zs := by
  unfold loS hiS
  split <;> exact ⟨by assumption, by assumption⟩
abbrev D3 := PyData × PyData × PyData
def trD (r : D3) : Str × Str × Str := (strD r.1, loS (strD r.2.1) (strD r.2.2), hiS (strD r.2.1) (strD r.2.2))
def dueR (zs : List Str) : List D3 → List Str → Option (Str × PyData)
  | [], _ => none
  | r :: rs, ns => match dueP zs ns r.1 r.2.1 r.2.2 with
    | some e => some e
    | none => dueR zs rs (ns ++ [strD r.1])
def dueW (ds : List PyData) (rs : List D3) : Option (Str × PyData) := match dueD ds [] with
  | some e => some e
  | none => dueR (ds.map strD) rs []
theorem dueP_some {zs : List Str} {r : D3} {rs : List D3} {ns : List Str} {e : Str × PyData} (h : dueP zs ns r.1 r.2.1 r.2.2 = some e) : dueR zs (r :: rs) ns = some e := by
  rw [dueR, h]
theorem dueP_go {zs : List Str} {r : D3} {rs : List D3} {ns : List Str} (h : dueP zs ns r.1 r.2.1 r.2.2 = none) : dueR zs (r :: rs) ns = dueR zs rs (ns ++ [strD r.1]) := by
  rw [dueR, h]
theorem dueP_none {zs ns : List Str} {d1 d2 d3 : PyData} (h : dueP zs ns d1 d2 d3 = none) : ∃ n a b, d1 = .str n ∧ d2 = .str a ∧ d3 = .str b ∧ nmB n = true ∧ a ∈ zs ∧ b ∈ zs ∧ a ≠ b ∧ n ∉ ns ∧ ns.length < 96 := by
  unfold dueP at h
  cases e : dueL zs d1 d2 d3 with
  | some d =>
    rw [e] at h
    cases h
  | none =>
    obtain ⟨n, a, b, rfl, rfl, rfl, k, ma, mb, ab⟩ := dueL_none e
    rw [e] at h
    dsimp only at h
    by_cases m : n ∈ ns
    · rw [if_pos m] at h
      cases h
    · rw [if_neg m] at h
      by_cases l : 96 ≤ ns.length
      · rw [if_pos l] at h
        cases h
      · exact ⟨n, a, b, rfl, rfl, rfl, k, ma, mb, ab, m, by omega⟩
theorem dueP_ok {zs ns : List Str} {n a b : Str} (h1 : nmB n = true) (h2 : nmB a = true) (h3 : nmB b = true) (ma : a ∈ zs) (mb : b ∈ zs) (ab : a ≠ b) (m : n ∉ ns) (l : ns.length < 96) : dueP zs ns (.str n) (.str a) (.str b) = none := by
  unfold dueP dueL
  have e : dueN [.str n, .str a, .str b] = none := by
    unfold dueN
    rw [if_pos (show nameD (.str n) = true from h1)]
    unfold dueN
    rw [if_pos (show nameD (.str a) = true from h2)]
    unfold dueN
    rw [if_pos (show nameD (.str b) = true from h3)]
    rfl
  rw [e]
  dsimp only
  rw [if_neg (fun k => k ma), if_neg (fun k => k mb), if_neg ab]
  dsimp only
  rw [if_neg m, if_neg (by omega)]
theorem dueL_perm {zs ys : List Str} (p : ∀ z, z ∈ ys ↔ z ∈ zs) (d1 d2 d3 : PyData) : dueL ys d1 d2 d3 = dueL zs d1 d2 d3 := by
  unfold dueL
  cases dueN [d1, d2, d3] with
  | some d => rfl
  | none =>
    dsimp only
    split
    · simp only [p]
    · rfl
theorem dueP_perm {zs ys ns ms : List Str} (p : ∀ z, z ∈ ys ↔ z ∈ zs) (q : ∀ z, z ∈ ms ↔ z ∈ ns) (l : ms.length = ns.length) (d1 d2 d3 : PyData) : dueP ys ms d1 d2 d3 = dueP zs ns d1 d2 d3 := by
  unfold dueP
  rw [dueL_perm p]
  cases dueL zs d1 d2 d3 with
  | some e => rfl
  | none =>
    dsimp only
    split
    · simp only [q, l]
    · rfl
/-- a row of three values, as a list or a tuple -/
def RowAt (K : PySem.W.Frag) (H : Hp) (u : V) (r : D3) : Prop := ∃ (p : Addr) (v1 v2 v3 : V), u = .ref p ∧ (H p = some (.tup [v1, v2, v3]) ∨ H p = some (.lst [v1, v2, v3])) ∧ Dv K H v1 r.1 ∧ Dv K H v2 r.2.1 ∧ Dv K H v3 r.2.2 ∧ Sz r.1 ∧ Sz r.2.1 ∧ Sz r.2.2
def RowsAt (K : PySem.W.Frag) (H : Hp) : List V → List D3 → Prop
  | [], [] => True
  | u :: us, r :: rs => RowAt K H u r ∧ RowsAt K H us rs
  | _, _ => False
theorem RowAt.same {H H' : Hp} {u : V} {r : D3} (h : RowAt K H u r) (s : Same H H') : RowAt K H' u r := by
  obtain ⟨p, v1, v2, v3, e, hp, a1, a2, a3, z⟩ := h
  exact ⟨p, v1, v2, v3, e, hp.imp (s _ _) (s _ _), dv_same s a1, dv_same s a2, dv_same s a3, z⟩
theorem RowsAt.same {H H' : Hp} : ∀ {us : List V} {rs : List D3}, RowsAt K H us rs → Same H H' → RowsAt K H' us rs
  | [], [], _, _ => trivial
  | u :: us, r :: rs, h, s => ⟨h.1.same s, RowsAt.same h.2 s⟩
  | [], _ :: _, h, _ => h.elim
  | _ :: _, [], h, _ => h.elim
theorem RowsAt.len {H : Hp} : ∀ {us : List V} {rs : List D3}, RowsAt K H us rs → us.length = rs.length
  | [], [], _ => rfl
  | u :: us, r :: rs, h => congrArg (· + 1) (RowsAt.len h.2)
  | [], _ :: _, h => h.elim
  | _ :: _, [], h => h.elim
theorem RowsAt.at {H : Hp} : ∀ {us : List V} {rs : List D3} {i : Nat} {u : V}, RowsAt K H us rs → us[i]? = some u → ∃ r, rs[i]? = some r ∧ RowAt K H u r
  | u :: us, r :: rs, 0, _, h, e => by
    cases e
    exact ⟨r, rfl, h.1⟩
  | u :: us, r :: rs, i + 1, _, h, e => RowsAt.at (i := i) h.2 e
  | [], [], _, _, _, e => nomatch e
  | [], _ :: _, _, _, h, _ => h.elim
  | _ :: _, [], _, _, h, _ => h.elim
theorem RowsAt.app {H : Hp} : ∀ {us vs : List V} {rs ss : List D3}, RowsAt K H us rs → RowsAt K H vs ss → RowsAt K H (us ++ vs) (rs ++ ss)
  | [], _, [], _, _, g => g
  | u :: us, _, r :: rs, _, h, g => ⟨h.1, RowsAt.app h.2 g⟩
  | [], _, _ :: _, _, h, _ => h.elim
  | _ :: _, _, [], _, h, _ => h.elim
theorem kx_del {x : Addr} {H H' : Hp} (k : Kx x H H') : Same (del H x) H' := fun b o e => k b o (del_at e).1 (del_at e).2
local macro_rules | `(tactic| walk_at "rd") => `(tactic| first
  | with_reducible apply Kj.dnewXc
  | with_reducible apply Kj.sfld
  | with_reducible apply Kj.fldX
  | with_reducible apply Kj.itemsX)
/-- Web(houses, lines) -/
def spWInitE (K : PySem.W.Frag) (D : Str → Addr) (C : Addr) : Sp := fun vs H Q E => ∃ (x dx g m : Addr) (xs us : List V) (ds : List PyData) (rs : List D3), vs = [.ref x, .ref g, .ref m] ∧ H x = some (.ins C dx []) ∧ At H g xs ∧ DvAll K (del H x) xs ds ∧ (∀ d ∈ ds, Sz d) ∧ xs.length ≤ 1000 ∧
  H m = some (.lst us) ∧ RowsAt K (del H x) us rs ∧ us.length ≤ 1000 ∧ (dueW ds rs = none → ∀ H' zs, ds = zs.map PyData.str → zs.Nodup → (∀ z ∈ zs, NmS z) → zs.length ≤ 32 → WebAt H' C x zs (rs.map trD) → LinesOk zs (rs.map trD) → rs.length ≤ 96 → Kx x H H' → Q .non H') ∧
  ∀ code e, dueW ds rs = some (code, e) → ∀ dd v H', H dd = none → Kx x H H' → Dv K H' v e → H' dd = some (.xd [(fldOf code, v), ("code", .str code)]) → E (.ref (D code)) (some dd) H'
theorem ok_Web_init (F : DefR K (Mk K (D "Web")) "__init__" "Web.__init__" s_Web_init P_Web_init) (m_sorted : mg "sorted" = none) (KW_Web : ClsF K mg D "Web" ["_houses", "_ends", "_lines"]) (C_check_houses : Ho.CalN P w K mg base 4 "check_houses" P_check_houses (spCheckH K D)) (C_ordered : Cal P w K mg base 1 "ordered" P_ordered spOrd) (C_check_new_line : Ho.CalN P w K mg base 6 "check_new_line" P_check_new_line (spNewE K D)) : CalR P w K mg base 7 (Mk K (D "Web")) P_Web_init (spWInitE K D (D "Web")) := by
  refine F.ok sc_Web_init (fun vs H Q E h => ?_) (fun f cdv A outer s H vs Q E hr h => ?_)
  · obtain ⟨x, dx, g, m, xs, us, ds, rs, rfl, _⟩ := h
    rfl
  obtain ⟨x, dx, g, m, xs, us, ds, rs, rfl, ex, ag, da, sz, lx, em, hrs, lus, qn, qs⟩ := h
  refine ⟨_, (pss_cons (ps_fld (pv 0 (hd := nd_self) (hcd := nc_self)) (Ho.pe_calN C_check_houses (L2N.takes_of rfl rfl rfl rfl) hr (pa_cons (pv 1 (hd := nd_houses) (hcd := nc_houses)) pa_nil)) rfl)
  (pss_cons (ps_fld (pv 0 (hd := nd_self) (hcd := nc_self)) pe_dnewK rfl)
  (pss_cons (ps_for (passes_of rfl) rfl (pi_list (pv 2 (hd := nd_lines) (hcd := nc_lines))) (Rd.pg_unE (n := 3) (by rfl) (pgs_cons (pg_name (i := 3) sc_Web_init.nd rfl (Or.inl rfl)) (pgs_cons (pg_name (i := 4) sc_Web_init.nd rfl (Or.inl rfl)) (pgs_cons (pg_name (i := 5) sc_Web_init.nd rfl (Or.inl rfl)) pgs_nil)))) (pss_cons (ps_expr (Ho.pe_calN C_check_new_line (L2N.takes_of rfl rfl rfl rfl) hr (pa_cons (pe_fld (pv 0 (hd := nd_self) (hcd := nc_self)) rfl) (pa_cons (pe_fld (pv 0 (hd := nd_self) (hcd := nc_self)) rfl) (pa_cons (pv 3 (hd := nd_line) (hcd := nc_line)) (pa_cons (pv 4 (hd := nd_a) (hcd := nc_a)) (pa_cons (pv 5 (hd := nd_b) (hcd := nc_b)) pa_nil)))))))
  (pss_one (ps_asg (pe_cal C_ordered hr (pa_cons (pv 4 (hd := nd_a) (hcd := nc_a)) (pa_cons (pv 5 (hd := nd_b) (hcd := nc_b)) pa_nil)) (hdb := nd_ordered)) (pg_sub (pe_fld (pv 0 (hd := nd_self) (hcd := nc_self)) rfl) (pv 3 (hd := nd_line) (hcd := nc_line)) (set_dict (un1 hr)))))))
  (pss_one (ps_fld (pv 0 (hd := nd_self) (hcd := nc_self)) (pe_callB (cr_sortedTSK (K := K) rfl) (by rfl) m_sorted bb_sorted (pa_cons (pe_lock (pe_lc (own := [("line", 3), ("low", 6), ("high", 7)]) (by rfl) sc_Web_init.nd (pi_items (pe_fld (pv 0 (hd := nd_self) (hcd := nc_self)) rfl)) (blkOk_by (N := N_Web_init) (sc := defScope s_Web_init) (by decide +kernel)) (fun _ _ _ _ _ => (Rd.pg_tupK (K := K) (n := 2) rfl (by rfl) (pgs_cons (pg_name (i := 3) sc_Web_init.nd rfl (Or.inl rfl)) (pgs_cons (Rd.pg_tupK (K := K) (n := 2) rfl (by rfl) (pgs_cons (pg_name (i := 6) sc_Web_init.nd rfl (Or.inl rfl)) (pgs_cons (pg_name (i := 7) sc_Web_init.nd rfl (Or.inl rfl)) pgs_nil))) pgs_nil)))) (fun _ _ _ _ _ => pts_nil) (fun _ _ _ _ _ => (pe_tup (pa_cons (pv 3 (hd := nd_line) (hcd := nc_line)) (pa_cons (pv 6 (hd := nd_low) (hcd := nc_low)) (pa_cons (pv 7 (hd := nd_high) (hcd := nc_high)) pa_nil))))))) pa_nil) (hn := nn_sorted) (hdb := nd_sorted)) rfl))))), ?_⟩
  refine Rd.at0 (σ := [some (.ref x), some (.ref g), some (.ref m), none, none, none, none, none]) rfl ?_
  have na1 : NoAttr K (D "Web") "_houses" := KW_Web.na _ (.head _)
  have na2 : NoAttr K (D "Web") "_ends" := KW_Web.na _ (.tail _ (.head _))
  have na3 : NoAttr K (D "Web") "_lines" := KW_Web.na _ (.tail _ (.tail _ (.head _)))
  have lrs := hrs.len
  repeat' (walk_at "rd")
  refine ⟨g, xs, ds, rfl, ag, va_same (fun b o e => (del_at e).2) da, sz, lx, fun hd L zs ys G exs nd lz pm sy nL s1 eL => ?_, fun code d ed dd v H3 n3 s3 dv e3 => qs code d (by unfold dueW; rw [ed]) dd v H3 n3 (.of s3) dv e3⟩
  subst exs
  have eds := va_strs da
  have mz : ∀ z ∈ zs, NmS z := fun z hz => nmS_of (dueD_nm (by rw [← eds]; exact hd) z hz)
  have ew : dueW ds rs = dueR zs rs [] := by
    unfold dueW
    rw [hd, eds, strD_map]
  rw [ew] at qn qs
  have qn := fun h H' => qn h H' zs eds nd mz lz
  clear ew hd
  have neL : L ≠ x := fun z => by rw [z, ex] at nL; cases nL
  have ex1 := s1 _ _ ex
  repeat' (walk_at "rd")
  refine ⟨x, _, dx, _, rfl, ex1, KW_Web.cl, na1, by show 0 < 1000; decide, ?_⟩
  rw [wf1]
  have k1 : Kx x H (upd G x (.ins (D "Web") dx (wfs1 L))) := (Kx.of s1).trans .put
  have ex2 : upd G x (.ins (D "Web") dx (wfs1 L)) x = some (.ins (D "Web") dx (wfs1 L)) := upd_same
  have eL2 : upd G x (.ins (D "Web") dx (wfs1 L)) L = some (.lst (ys.map V.str)) := (upd_ne neL).trans eL
  generalize upd G x (.ins (D "Web") dx (wfs1 L)) = H2 at *
  repeat' (walk_at "rd")
  rename_i d nD G3 s3 ed3
  have ned : d ≠ x := fun z => by rw [z, ex2] at nD; cases nD
  refine ⟨x, _, dx, _, rfl, s3 _ _ ex2, KW_Web.cl, na2, by show 1 < 1000; decide, ?_⟩
  rw [wf2]
  have k2 : Kx x H (upd G3 x (.ins (D "Web") dx (wfs2 L d))) := (k1.trans (.of s3)).trans .put
  have ex3 : upd G3 x (.ins (D "Web") dx (wfs2 L d)) x = some (.ins (D "Web") dx (wfs2 L d)) := upd_same
  have nLd : L ≠ d := fun z => by rw [← z, eL2] at nD; cases nD
  have eL3 : upd G3 x (.ins (D "Web") dx (wfs2 L d)) L = some (.lst (ys.map V.str)) := (upd_ne neL).trans (s3 _ _ eL2)
  have ed4 : upd G3 x (.ins (D "Web") dx (wfs2 L d)) d = some (.dK []) := (upd_ne ned).trans ed3
  generalize upd G3 x (.ins (D "Web") dx (wfs2 L d)) = H3 at *
  have nemx : m ≠ x := fun z => by rw [z, ex] at em; cases em
  have nHd : H d = none := by
    cases e : H d with
    | none => rfl
    | some o => rw [k1 d o ned e] at nD; cases nD
  repeat' (walk_at "rd")
  refine ⟨m, rfl, ⟨us, .inl (.inl (k2 _ _ nemx em))⟩, ?_⟩
  repeat' (walk_at "rd")
  refine forL us (fun i σ H' => ∃ (fk : Str → V) (v3 v4 v5 : Option V), σ = [some (.ref x), some (.ref g), some (.ref m), v3, v4, v5, none, none] ∧ H' x = some (.ins (D "Web") dx (wfs2 L d)) ∧ H' d = some (.dK (kd (((rs.take i).map trD).map (·.1)) fk)) ∧
    (∀ t ∈ (rs.take i).map trD, WV H' (fk t.1) [t.2.1, t.2.2]) ∧ H' L = some (.lst (ys.map V.str)) ∧ Kx x H H' ∧ LinesOk zs ((rs.take i).map trD) ∧ i ≤ 96 ∧ dueR zs rs [] = dueR zs (rs.drop i) (((rs.take i).map trD).map (·.1)))
    ⟨fun _ => .non, none, none, none, rfl, ex3, ed4, (fun _ h => nomatch h), eL3, k2, ⟨List.nodup_nil, (fun _ h => nomatch h), fun _ h => nomatch h⟩, Nat.zero_le _, rfl⟩ (fun _ _ _ _ ⟨_, _, _, _, _, _, _, _, _, k, _⟩ => .inl (.inl (k _ _ nemx em))) ?_ ?_
  · rintro i x0 σ H' hx ⟨fk, v3, v4, v5, rfl, ex', ed', hw, eL', k', lo, l96, er⟩
    obtain ⟨⟨d1, d2, d3⟩, hr', p, w1, w2, w3, rfl, hp, a1, a2, a3, z1, z2, z3⟩ := (hrs.at hx)
    have hp' : SqT K H' p [w1, w2, w3] ∨ SqL K H' p [w1, w2, w3] := by
      rcases hp with hp | hp
      · exact .inl (.inl (.inl (kx_del k' _ _ hp)))
      · exact .inr (.inl (.inl (kx_del k' _ _ hp)))
    have a1 := dv_same (kx_del k') a1
    have a2 := dv_same (kx_del k') a2
    have a3 := dv_same (kx_del k') a3
    obtain ⟨li, ei⟩ := List.getElem?_eq_some_iff.mp hr'
    have lk : (((rs.take i).map trD).map (·.1)).length = i := by rw [List.length_map, List.length_map, List.length_take, Nat.min_eq_left (by omega)]
    rw [drop_at hr'] at er
    have qs := fun code e (h : dueR zs ((d1, d2, d3) :: rs.drop (i + 1)) (((rs.take i).map trD).map (·.1)) = some (code, e)) => qs code e (er.trans h)
    repeat' (walk_at "rd")
    refine ⟨p, _, rfl, hp', rfl, ?_⟩
    repeat' (walk_at "rd")
    refine ⟨x, _, dx, _, .ref L, rfl, ex', KW_Web.cl, na1, lu2 _ _, ?_⟩
    repeat' (walk_at "rd")
    refine ⟨x, _, dx, _, .ref d, rfl, ex', KW_Web.cl, na2, lu3 _ _, ?_⟩
    repeat' (walk_at "rd")
    refine ⟨L, d, ys, _, fk, w1, w2, w3, d1, d2, d3, rfl, .inl (.inl eL'), ed', a1, a2, a3, z1, z2, z3, fun hn H5 s5 => ?_, fun code e he dd v H5 n5 s5 dv e5 => ?_⟩
    · rw [dueP_perm (fun z => pm.mem_iff) (fun _ => Iff.rfl) rfl] at hn
      obtain ⟨n, a, b, rfl, rfl, rfl, kn, ma, mb, ab, nn, l2⟩ := dueP_none hn
      rw [dueP_go (r := (.str n, .str a, .str b)) hn] at er
      cases a1
      cases a2
      cases a3
      repeat' (walk_at "rd")
      refine ⟨a, b, rfl, fun q H6 n6 s6 e6 => ?_⟩
      have s56 := s5.trans s6
      repeat' (walk_at "rd")
      refine ⟨x, _, dx, _, .ref d, rfl, s56 _ _ ex', KW_Web.cl, na2, lu3 _ _, ?_⟩
      repeat' (walk_at "rd")
      refine dnewK (s56 _ _ ed') nn (by rw [lk]; omega) ?_
      have npx : q ≠ x := fun z => by rw [z, s5 _ _ ex'] at n6; cases n6
      have etk : (rs.take (i + 1)).map trD = (rs.take i).map trD ++ [(n, loS a b, hiS a b)] := by
        rw [List.take_add_one, hr', List.map_append]
        rfl
      have lh := lohi_in a b ma mb
      refine ⟨fun y => if y = n then V.ref q else fk y, _, _, _, rfl, (upd_ne (Ne.symm ned)).trans (s56 _ _ ex'), ?_, fun u hu => ?_, (upd_ne nLd).trans (s56 _ _ eL'), fun c o nc hc => ?_, ?_, by omega, ?_⟩
      · rw [etk, List.map_append]
        exact upd_same
      · have wv : ∀ {v : V} {k : List Str}, WV H' v k → WV (upd H6 d (.dK (kd (((rs.take i).map trD).map (·.1) ++ [n]) fun y => if y = n then V.ref q else fk y))) v k := fun {v k} h => by
          obtain ⟨ok, t', rfl, ht'⟩ := h
          exact ⟨ok, t', rfl, (upd_ne fun z => by rw [z, ed'] at ht'; cases ht').trans (s56 _ _ ht')⟩
        rw [etk] at hu
        rcases List.mem_append.mp hu with hu | hu
        · have : u.1 ≠ n := fun z => nn (List.mem_map.mpr ⟨u, hu, z⟩)
          show WV _ (if u.1 = n then _ else _) _
          rw [if_neg this]
          exact wv (hw u hu)
        · have hu : u = (n, loS a b, hiS a b) := by simpa using hu
          subst hu
          show WV _ (if n = n then V.ref q else fk n) [loS a b, hiS a b]
          rw [if_pos rfl]
          refine ⟨fun z hz => ?_, q, rfl, (upd_ne fun z => ?_).trans (by rw [← ord_lohi]; exact e6)⟩
          · have hz : z = loS a b ∨ z = hiS a b := by simpa using hz
            rcases hz with rfl | rfl
            · exact nm_ok (mz _ lh.1)
            · exact nm_ok (mz _ lh.2)
          · rw [z, s5 _ _ ed'] at n6
            cases n6
      · have : c ≠ d := fun z => by rw [z, nHd] at hc; cases hc
        exact (upd_ne this).trans (s56 _ _ (k' _ _ nc hc))
      · rw [etk]
        refine ⟨?_, fun t ht => ?_, fun t ht => ?_⟩
        · rw [List.map_append]
          exact List.nodup_append.mpr ⟨lo.nd, List.nodup_cons.mpr ⟨List.not_mem_nil, .nil⟩, fun y hy z hz e => nn (by have e2 := e.trans (List.mem_singleton.mp hz); have e3 : y = n := e2; rw [← e3]; exact hy)⟩
        · rcases List.mem_append.mp ht with ht | ht
          · exact lo.nm t ht
          · rw [List.mem_singleton.mp ht]
            exact nmS_of kn
        · rcases List.mem_append.mp ht with ht | ht
          · exact lo.en t ht
          · rw [List.mem_singleton.mp ht]
            exact ⟨lh.1, lh.2, lohi ab⟩
      · rw [er, etk, List.map_append]
        rfl
    · rw [dueP_perm (fun z => pm.mem_iff) (fun _ => Iff.rfl) rfl] at he
      have n0 : H dd = none := by
        cases e : H dd with
        | none => rfl
        | some o =>
          by_cases c : dd = x
          · rw [c, ex'] at n5
            cases n5
          · rw [k' _ _ c e] at n5
            cases n5
      exact qs code e (dueP_some (r := (d1, d2, d3)) he) dd v H5 n0 (k'.trans (.of s5)) dv e5
  · rintro σ H' ⟨fk, v3, v4, v5, rfl, ex', ed', hw, eL', k', lo, l96, er⟩
    rw [List.take_of_length_le (by omega)] at ed' hw lo er
    rw [List.drop_of_length_le (by omega)] at er
    have qn := fun H' => qn er H'
    generalize ets : rs.map trD = ts at *
    have lts : ts.length = rs.length := by rw [← ets, List.length_map]
    repeat' (walk_at "rd")
    refine lockE ed' fun od => ?_
    have exF : upd H' d (.frz od (.dK (kd (ts.map (·.1)) fk))) x = _ := (upd_ne (Ne.symm ned)).trans ex'
    have edF : upd H' d (.frz od (.dK (kd (ts.map (·.1)) fk))) d = _ := upd_same
    repeat' (walk_at "rd")
    refine ⟨x, _, dx, _, .ref d, rfl, exF, KW_Web.cl, na2, lu3 _ _, ?_⟩
    repeat' (walk_at "rd")
    refine ⟨d, od, _, rfl, edF, ?_⟩
    refine lcWO (L2.walk_items (o := od) (d := d) (kvs := kd (ts.map (·.1)) fk)) (fun L1 i y G => ∃ t p, ts[i]? = some t ∧ y = .ref p ∧ p ≠ L1 ∧ p ≠ d ∧ G p = some (.tup ((tr t).map V.str))) ?_ (by rw [kd_len, List.length_map]; omega) (fun h s => s _ _ edF) ?_ ?_
    · rintro L1 i y G G' ⟨t, p, h1, h2, n1, n2, e⟩ kx
      exact ⟨t, p, h1, h2, n1, n2, kx _ _ n1 e⟩
    · rintro L1 i x0 h h' nL1 hi sh ⟨oL, eoL⟩ ⟨T, kk, vv, rfl, nT, rfl, ek, ev⟩ Nx yes
      rw [kd_len, List.length_map] at hi
      obtain ⟨t, ht⟩ : ∃ t, ts[i]? = some t := ⟨_, List.getElem?_eq_getElem hi⟩
      have ekv : (kd (ts.map (·.1)) fk)[i]? = some (Sum.inr t.1, fk t.1) := by
        unfold kd
        rw [List.getElem?_map, List.getElem?_map, ht]
        rfl
      dsimp only at ek ev
      rw [ekv] at ek ev
      obtain rfl : V.str t.1 = kk := Option.some.inj ek
      obtain ⟨ok2, q2, eq2, hq2⟩ := hw t (List.mem_of_getElem? ht)
      obtain rfl : V.ref q2 = vv := eq2.symm.trans (Option.some.inj ev)
      have nqd : q2 ≠ d := fun z => by rw [z, ed'] at hq2; cases hq2
      have hq3 := sh _ _ ((upd_ne nqd).trans hq2)
      have sT := same_upd (o := .tup [.str t.1, .ref q2]) nT
      have eT : upd h T (.tup [.str t.1, .ref q2]) T = some (.tup [.str t.1, .ref q2]) := upd_same
      have hq4 : upd h T (.tup [.str t.1, .ref q2]) q2 = some (.tup [.str t.2.1, .str t.2.2]) := sT _ _ hq3
      have eL4 := sT _ _ eoL
      have ed4 := sT _ _ (sh _ _ edF)
      have sT0 : Same h (upd h T (.tup [.str t.1, .ref q2])) := sT
      generalize upd h T (.tup [.str t.1, .ref q2]) = h4 at *
      refine turn1 ?_
      repeat' (walk_at "rd")
      refine ⟨rfl, ?_⟩
      repeat' (walk_at "rd")
      rename_i p n5 G5 s5 e5
      exact yes G5 _ ⟨t, p, ht, rfl, (fun z => by rw [z, eL4] at n5; cases n5), (fun z => by rw [z, ed4] at n5; cases n5), e5⟩ (sT0.trans s5)
    · rintro L1 G us2 nL1 sG eL1 lus2 hR
      refine ⟨sG _ _ edF, ?_⟩
      have ned1 : d ≠ L1 := fun z => by rw [← z, edF] at nL1; cases nL1
      have exG : upd G d (.dK (kd (ts.map (·.1)) fk)) x = _ := (upd_ne (Ne.symm ned)).trans (sG _ _ exF)
      have edG : upd G d (.dK (kd (ts.map (·.1)) fk)) d = _ := upd_same
      have eLG : upd G d (.dK (kd (ts.map (·.1)) fk)) L = _ := (upd_ne nLd).trans (sG _ _ ((upd_ne nLd).trans eL'))
      have wG : ∀ t ∈ ts, WV (upd G d (.dK (kd (ts.map (·.1)) fk))) (fk t.1) [t.2.1, t.2.2] := fun t ht => by
        obtain ⟨ok, t', e, h⟩ := hw t ht
        have n : t' ≠ d := fun z => by rw [z, ed'] at h; cases h
        exact ⟨ok, t', e, (upd_ne n).trans (sG _ _ ((upd_ne n).trans h))⟩
      have wlG : WL (upd G d (.dK (kd (ts.map (·.1)) fk))) L1 (ts.map tr) := by
        refine ⟨us2, (upd_ne (Ne.symm ned1)).trans eL1, wvs_of (by rw [lus2, kd_len, List.length_map, List.length_map]) fun i v k hv hk => ?_⟩
        obtain ⟨t, p, h1, rfl, n1, n2, h3⟩ := hR i v hv
        rw [List.getElem?_map, h1] at hk
        obtain rfl : tr t = k := Option.some.inj hk
        refine ⟨fun z hz => ?_, p, rfl, (upd_ne n2).trans h3⟩
        have mt := List.mem_of_getElem? h1
        have hz : z = t.1 ∨ z = t.2.1 ∨ z = t.2.2 := by simpa [tr] using hz
        rcases hz with rfl | rfl | rfl
        · exact nm_ok (lo.nm t mt)
        · exact nm_ok (mz _ (lo.en t mt).1)
        · exact nm_ok (mz _ (lo.en t mt).2.1)
      have kG : Kx x H (upd G d (.dK (kd (ts.map (·.1)) fk))) := fun c o nc hc => by
        have n : c ≠ d := fun z => by rw [z, nHd] at hc; cases hc
        exact (upd_ne n).trans (sG _ _ ((upd_ne n).trans (k' _ _ nc hc)))
      generalize upd G d (.dK (kd (ts.map (·.1)) fk)) = G2 at *
      repeat' (walk_at "rd")
      refine sortW wlG (fun k hk => ?_) fun js p G3 pj sj np s3 wl3 => ?_
      · obtain ⟨t, _, rfl⟩ := List.mem_map.mp hk
        exact List.cons_ne_nil _ _
      repeat' (walk_at "rd")
      have ex3 := s3 _ _ exG
      have npx : p ≠ x := fun z => by rw [z, exG] at np; cases np
      refine ⟨x, _, dx, _, rfl, ex3, KW_Web.cl, na3, by show 2 < 1000; decide, ?_⟩
      rw [wf3]
      obtain ⟨v3, e3, w3⟩ := wl3
      exact qn _ ⟨dx, L, d, p, ys, js, fk, upd_same, pm, sy, (upd_ne neL).trans (s3 _ _ eLG), (upd_ne ned).trans (s3 _ _ edG), fun t ht => wv_ins ex3 ((wG t ht).same s3), pj, sj, v3, (upd_ne npx).trans e3, wvs_ins ex3 w3⟩ lo (by omega) ((kG.trans (.of s3)).trans .put)
end
end Kj
namespace Kj
open PySem PySem.Spec PyProof.Rows L2 Rd
local macro_rules | `(tactic| walk_at "hp") => `(tactic| first
  | assumption
  | exact upd_same
  | (refine Eq.trans (upd_ne (by first | assumption | (apply Ne.symm; assumption))) ?_; walk_at "hp"))
local macro_rules | `(tactic| walk_at "sq") => `(tactic| first
  | assumption
  | (refine Or.inl (Or.inl ?_); walk_at "hp"))
local macro_rules | `(tactic| walk_at "st") => `(tactic| first
  | assumption
  | (refine Or.inl (Or.inl ?_); walk_at "hp"))
local macro_rules | `(tactic| walk_at "ar") => `(tactic| first
  | assumption
  | omega
  | decide)
local macro_rules | `(tactic| walk_at "ci") => `(tactic| first
  | (refine (show CMul _ _ from Or.inr ⟨?_, ?_⟩) <;> omega)
  | (refine (show CMul _ _ from Or.inl ⟨?_, ?_⟩) <;> omega)
  | (show CPow _ _; exact ⟨by decide, by decide, by decide⟩)
  | (refine wide_div (b := 63) ?_ ?_ (by decide) (by decide) <;> omega)
  | (show (0 : Int) < _; omega))
local macro_rules | `(tactic| walk_at "ty") => `(tactic| first
  | exact dp_ty (by assumption)
  | exact TyX.base (TyOf.int _)
  | exact TyX.base (TyOf.str _)
  | exact TyX.base (TyOf.bl _)
  | exact TyX.base TyOf.non
  | exact tyL' (by walk_at "sq")
  | exact tyT' (by walk_at "st"))
local macro_rules | `(tactic| walk_at "isi") => `(tactic| first
  | ((with_reducible apply Rd.isiF); (walk_at "ty"); (decide))
  | ((with_reducible apply Rd.isiT); (walk_at "ty"); (decide)))
local macro_rules | `(tactic| walk_at "rd") => `(tactic| first
  | with_reducible apply Rd.seq
  | ((with_reducible apply Rd.var); rfl)
  | with_reducible apply Rd.con
  | with_reducible apply Rd.op
  | with_reducible apply Rd.asg
  | ((with_reducible apply Rd.gname); ((dsimp only [List.set, L2.wipe, Int.reduceToNat]) <;> rfl))
  | with_reducible apply Rd.nxt
  | with_reducible apply Rd.ifs
  | with_reducible apply Rd.test
  | with_reducible apply Rd.testB
  | with_reducible apply Rd.exbl
  | with_reducible apply Rd.ret
  | with_reducible apply Rd.drop
  | with_reducible apply Rd.retN
  | with_reducible apply Rd.nil
  | with_reducible apply Rd.cons
  | with_reducible apply Rd.call
  | with_reducible apply Rd.cb
  | with_reducible apply Rd.and
  | with_reducible apply Rd.or
  | with_reducible apply Rd.not
  | with_reducible apply Rd.andV
  | with_reducible apply Rd.orV
  | with_reducible apply Rd.notV
  | with_reducible apply Rd.ife
  | with_reducible apply Rd.tup
  | with_reducible apply Rd.lst
  | with_reducible apply Rd.un
  | with_reducible apply Rd.chain
  | with_reducible apply Rd.brk
  | with_reducible apply Rd.cnt
  | with_reducible apply Rd.I0
  | with_reducible apply Rd.U1
  | ((with_reducible apply Rd.eq); rfl)
  | ((with_reducible apply Rd.ne); rfl)
  | ((with_reducible apply Rd.I1); (walk_at "ci"))
  | with_reducible apply Rd.lc0
  | with_reducible apply Rd.ln0
  | with_reducible apply Rd.exN
  | ((with_reducible apply Rd.iteSf); (decide +kernel))
  | ((with_reducible apply Rd.iteSt); (decide +kernel))
  | ((with_reducible apply Rd.niQ); (exact Or.inl (by walk_at "sq")); (exact ⟨rfl, rfl⟩); (rfl))
  | ((with_reducible apply Rd.inQ); (exact Or.inl (by walk_at "sq")); (exact ⟨rfl, rfl⟩); (rfl))
  | with_reducible apply Rd.rn1
  | with_reducible apply Rd.in1
  | with_reducible apply Rd.sn1
  | with_reducible apply Rd.bn1
  | with_reducible apply Rd.nn1
  | with_reducible apply Rd.rn2
  | with_reducible apply Rd.in2
  | with_reducible apply Rd.sn2
  | with_reducible apply Rd.bn2
  | with_reducible apply Rd.nn2
  | with_reducible apply Rd.nt1
  | with_reducible apply Rd.nf1
  | (with_reducible refine Rd.iteI (fun _ => ?_) (fun _ => ?_))
  | (with_reducible refine Rd.iteNI (fun _ => ?_) (fun _ => ?_))
  | (with_reducible refine iteT ?_)
  | (with_reducible refine iteF ?_)
  | (with_reducible refine Rd.iteD (fun _ => ?_) (fun _ => ?_))
  | (with_reducible refine Rd.iteN (fun _ => ?_) (fun _ => ?_))
  | with_reducible apply Rd.intI
  | with_reducible apply Rd.intB
  | with_reducible apply Rd.maxQ
  | with_reducible apply Rd.minQ
  | with_reducible apply Rd.absQ
  | with_reducible apply Rd.isN
  | with_reducible apply Rd.noN
  | with_reducible apply Rd.ltZ
  | with_reducible apply Rd.bm
  | with_reducible apply Rd.bm0
  | with_reducible apply Rd.par
  | with_reducible apply Rd.expar
  | with_reducible apply Rd.exint
  | with_reducible apply Rd.ipi
  | with_reducible apply Rd.slice
  | with_reducible apply Rd.noPart
  | with_reducible apply Rd.part
  | with_reducible apply Rd.gcons
  | with_reducible apply Rd.gnil
  | with_reducible apply Rd.iseq
  | with_reducible apply Rd.irng1
  | walk_at "isi"
  | with_reducible apply Rd.forX
  | with_reducible apply Rd.lstRev
  | with_reducible apply Rd.lstRg
  | with_reducible apply Rd.rg1
  | with_reducible apply Rd.rg2
  | with_reducible apply Rd.exint2
  | ((with_reducible apply Rd.exrev); (walk_at "sq"))
  | with_reducible apply Rd.lcX
  | with_reducible apply Rd.yes
  | ((with_reducible apply Rd.exrng1); (constructor <;> omega))
  | ((with_reducible apply Rd.exrng2); (refine ⟨?_, ?_, ?_, ?_⟩ <;> omega))
  | with_reducible apply Rd.irng2
  | ((with_reducible apply Rd.aug); rfl)
  | ((with_reducible apply Rd.exlst); (walk_at "sq"))
  | ((with_reducible apply Rd.gtup); (walk_at "st"); (rfl))
  | ((with_reducible apply Rd.tyL); (walk_at "hp"))
  | ((with_reducible apply Rd.ixL); (walk_at "sq"); (rfl))
  | ((with_reducible apply Rd.ixI); (walk_at "sq"); (omega); (first | assumption | (simp only [List.length_map]; omega)); (intro _ _))
  | (with_reducible refine Rd.gsub ?_)
  | ((with_reducible apply Rd.setL); (walk_at "hp"); (rfl); ((dsimp only [List.set, L2.wipe, Int.reduceToNat]) <;> rfl))
  | ((with_reducible apply Rd.lenQ); (first | exact Or.inl (by walk_at "sq") | exact Or.inr (by walk_at "st")))
  | ((with_reducible apply Rd.listQ); (first | exact Or.inl (by walk_at "sq") | exact Or.inr (by walk_at "st")))
  | ((with_reducible apply Rd.tupQ); (walk_at "sq"))
  | ((with_reducible apply Rd.slL); (walk_at "sq"))
  | ((with_reducible apply Rd.ixT); (walk_at "st"); (rfl))
  | (with_reducible refine Rd.iteB (fun _ => ?_) (fun _ => ?_))
  | (with_reducible refine Rd.iteNB (fun _ => ?_) (fun _ => ?_))
  | (refine Rd.andI (Nat.le_of_ble_eq_true rfl) ?_)
  | dsimp only [List.set])
local macro_rules | `(tactic| walk_at "hp") => `(tactic| first
  | assumption
  | exact upd_same
  | (refine Eq.trans (upd_ne (by first | assumption | (apply Ne.symm; assumption))) ?_; walk_at "hp")
  | (refine hpS (by assumption) ?_; walk_at "hp"))
local macro_rules | `(tactic| walk_at "al") => `(tactic| (with_reducible intro l hl; generalize hG : upd _ l _ = G; have hs := newOne hl hG; clear hG; obtain ⟨hs, he⟩ := hs))
local macro_rules | `(tactic| walk_at "rd") => `(tactic| first
  | walk_at "al"
  | ((with_reducible apply Rd.cat); (walk_at "hp"); (walk_at "hp"); (exact Nat.le_of_ble_eq_true rfl)))
local macro_rules | `(tactic| walk_at "sm") => `(tactic| first
  | assumption
  | exact Same.refl _
  | (refine Same.trans ?_ (by assumption); walk_at "sm"))
local macro_rules | `(tactic| walk_at "fr") => `(tactic| first
  | assumption
  | (refine Same.free (by assumption) ?_; walk_at "fr"))
local macro_rules | `(tactic| walk_at "ty") => `(tactic| first
  | exact dv_ty (by assumption)
  | exact tyD' (by walk_at "hp"))
local macro_rules | `(tactic| walk_at "sz") => `(tactic| first
  | exact sz5 (by omega)
  | (simp only [add_len, one_len]; exact sz5 (by omega)))
local macro_rules | `(tactic| walk_at "rd") => `(tactic| first
  | with_reducible apply Rd.istr
  | with_reducible apply Rd.exstr
  | with_reducible apply Rd.leA
  | with_reducible apply Rd.leZz
  | with_reducible apply Rd.le0
  | with_reducible apply Rd.le9
  | with_reducible apply Rd.niZ
  | ((with_reducible apply Rd.lenZ); (walk_at "sz"))
  | ((with_reducible apply Rd.slZ); (walk_at "sz"))
  | ((with_reducible apply Rd.addZ); (walk_at "sz"))
  | with_reducible apply Rd.raiseX
  | with_reducible apply Rd.exone
  | with_reducible apply Rd.callS
  | with_reducible apply Rd.callP
  | with_reducible apply Rd.xsX
  | with_reducible apply Rd.dnewX
  | with_reducible apply Rd.tyZ)
local macro_rules | `(tactic| walk_at "rd") => `(tactic| first
  | with_reducible apply Rd.seq
  | ((with_reducible apply Rd.var); rfl)
  | with_reducible apply Rd.con
  | with_reducible apply Rd.op
  | with_reducible apply Rd.cons
  | with_reducible apply Rd.nil
  | with_reducible apply Rd.asg
  | ((with_reducible apply Rd.gname); ((dsimp only [List.set, L2.wipe, Int.reduceToNat]) <;> rfl))
  | with_reducible apply Rd.nxt
  | with_reducible apply Rd.ifs
  | with_reducible apply Rd.test
  | with_reducible apply Rd.ret
  | with_reducible apply Rd.call
  | with_reducible apply Rd.cb)
open Ty Ln
section
variable {P : Program} {w : World} {K : PySem.W.Frag} {mg : Str → Option Value} {base : Heap} {D : Str → Addr}
local macro_rules | `(tactic| walk_at "rd") => `(tactic| first
  | with_reducible apply Rd.dget
  | with_reducible apply Rd.din
  | with_reducible apply Kj.fldX)
theorem WebAt.same {H H' : Hp} {C a : Addr} {zs : List Str} {ts : List (Str × Str × Str)} (h : WebAt H C a zs ts) (s : Same H H') : WebAt H' C a zs ts := by
  obtain ⟨dx, g, d, l, ys, ks, f, ea, pm, sy, eg, ed, hw, pk, sk, wl⟩ := h
  exact ⟨dx, g, d, l, ys, ks, f, s _ _ ea, pm, sy, s _ _ eg, s _ _ ed, (fun t ht => (hw t ht).same s), pk, sk, wl.same s⟩
/-- web.houses -/
def spWHouses (C : Addr) : Sp := fun vs H Q _ => ∃ (a : Addr) (zs : List Str) (ts : List (Str × Str × Str)), vs = [.ref a] ∧ WebAt H C a zs ts ∧ zs.length ≤ 1000 ∧ ∀ L ys H', ys.Perm zs → sortedS ys = true → H L = none → Same H H' → H' L = some (.lst (ys.map V.str)) → Q (.ref L) H'
theorem ok_Web_houses (F : DefR K (PropR K (D "Web") "houses") "houses" "Web.houses" s_Web_houses P_Web_houses) (m_list : mg "list" = none) (m_property : mg "property" = none) (KW_Web : ClsF K mg D "Web" ["_houses", "_ends", "_lines"]) : CalR P w K mg base 2 (PropR K (D "Web") "houses") P_Web_houses (spWHouses (D "Web")) := by
  refine F.ok sc_Web_houses (fun vs H Q E h => ?_) (fun f cdv A outer s H vs Q E hr h => ?_)
  · obtain ⟨a, zs, ts, rfl, _⟩ := h
    rfl
  obtain ⟨a, zs, ts, rfl, ⟨dx, g, d, l, ys, ks, f, ea, pm, sy, eg, ed, hw, pk, sk, wl⟩, lz, q⟩ := h
  refine ⟨_, (pss_one (ps_ret (pe_callTy q_list (by rfl) m_list bb_list (pa_cons (pe_fld (pv 0 (hd := nd_self) (hcd := nc_self)) rfl) pa_nil) (hn := nn_list) (hdb := nd_list)))), ?_⟩
  refine Rd.at0 (σ := [some (.ref a)]) rfl ?_
  repeat' (walk_at "rd")
  refine ⟨a, _, dx, _, .ref g, rfl, ea, KW_Web.cl, KW_Web.na _ (.head _), lk1 _ _ _, ?_⟩
  repeat' (walk_at "rd")
  rename_i L n G s e
  exact q L ys G pm sy n s e
/-- web.lines -/
def spWLines (C : Addr) : Sp := fun vs H Q _ => ∃ (a : Addr) (zs : List Str) (ts : List (Str × Str × Str)), vs = [.ref a] ∧ WebAt H C a zs ts ∧ ∀ L ks H', ks.Perm (ts.map tr) → SrtW ks → H L = none → Same H H' → WL H' L ks → Q (.ref L) H'
theorem ok_Web_lines (F : DefR K (PropR K (D "Web") "lines") "lines" "Web.lines" s_Web_lines P_Web_lines) (m_list : mg "list" = none) (m_property : mg "property" = none) (KW_Web : ClsF K mg D "Web" ["_houses", "_ends", "_lines"]) : CalR P w K mg base 2 (PropR K (D "Web") "lines") P_Web_lines (spWLines (D "Web")) := by
  refine F.ok sc_Web_lines (fun vs H Q E h => ?_) (fun f cdv A outer s H vs Q E hr h => ?_)
  · obtain ⟨a, zs, ts, rfl, _⟩ := h
    rfl
  obtain ⟨a, zs, ts, rfl, ⟨dx, g, d, l, ys, ks, f, ea, pm, sy, eg, ed, hw, pk, sk, us, el, wl⟩, q⟩ := h
  refine ⟨_, (pss_one (ps_ret (pe_callTy q_list (by rfl) m_list bb_list (pa_cons (pe_fld (pv 0 (hd := nd_self) (hcd := nc_self)) rfl) pa_nil) (hn := nn_list) (hdb := nd_list)))), ?_⟩
  refine Rd.at0 (σ := [some (.ref a)]) rfl ?_
  repeat' (walk_at "rd")
  refine ⟨a, _, dx, _, .ref l, rfl, ea, KW_Web.cl, KW_Web.na _ (.tail _ (.tail _ (.head _))), lk3 _ _ _, ?_⟩
  repeat' (walk_at "rd")
  rename_i L n G s e
  exact q L ks G pk sk n s ⟨us, e, wl.same s⟩
end
section
variable {P : Program} {w : World} {K : PySem.W.Frag} {mg : Str → Option Value} {base : Heap} {D : Str → Addr}
local macro_rules | `(tactic| walk_at "rd") => `(tactic| first
  | with_reducible apply Rd.dget
  | with_reducible apply Kj.dinXb
  | with_reducible apply Kj.fldX)
/-- line in web, of a text -/
def spWIn (C : Addr) : Sp := fun vs H Q _ => ∃ (a : Addr) (zs : List Str) (ts : List (Str × Str × Str)) (n : Str), vs = [.ref a, .str n] ∧ WebAt H C a zs ts ∧ Q (.bl (decide (n ∈ ts.map (·.1)))) H
theorem ok_Web_contains (F : DefR K (InR K (D "Web")) "__contains__" "Web.__contains__" s_Web_contains P_Web_contains) (m_isinstance : mg "isinstance" = none) (m_str : mg "str" = none) (KW_Web : ClsF K mg D "Web" ["_houses", "_ends", "_lines"]) : CalR P w K mg base 2 (InR K (D "Web")) P_Web_contains (spWIn (D "Web")) := by
  refine F.ok sc_Web_contains (fun vs H Q E h => ?_) (fun f cdv A outer s H vs Q E hr h => ?_)
  · obtain ⟨a, zs, ts, n, rfl, _⟩ := h
    rfl
  obtain ⟨a, zs, ts, n, rfl, ⟨dx, g, d, l, ys, ks, f, ea, pm, sy, eg, ed, hw, pk, sk, wl⟩, q⟩ := h
  refine ⟨_, (pss_one (ps_ret (pe_and (pe_callB call_isi (by rfl) m_isinstance bb_isinstance (pa_cons (pv 1 (hd := nd_line) (hcd := nc_line)) (pa_cons (pe_bltn (v := .ty "str") (u := .type "str") (by rfl) m_str bb_str rfl (hn := nn_str) (hd := nd_str)) pa_nil)) (hn := nn_isinstance) (hdb := nd_isinstance)) (pe_one (pe_cmp (pc_din (un1 hr) (pv 1 (hd := nd_line) (hcd := nc_line)) (pe_fld (pv 0 (hd := nd_self) (hcd := nc_self)) rfl))))))), ?_⟩
  refine Rd.at0 (σ := [some (.ref a), some (.str n)]) rfl ?_
  repeat' (walk_at "rd")
  refine ⟨a, _, dx, _, .ref d, rfl, ea, KW_Web.cl, KW_Web.na _ (.tail _ (.head _)), lk2 _ _ _, ?_⟩
  by_cases m : n ∈ ts.map (·.1)
  · rw [decide_eq_true m] at q
    exact ⟨d, _, rfl, .inl ⟨_, Sum.inr n, .inl ed, rfl, (kd_get m).symm⟩, q⟩
  · rw [decide_eq_false m] at q
    exact ⟨d, _, rfl, .inl ⟨_, Sum.inr n, .inl ed, rfl, (kd_none m).symm⟩, q⟩
end
end Kj
namespace Kj
open PySem PySem.Spec PyProof.Rows L2 Rd
local macro_rules | `(tactic| walk_at "hp") => `(tactic| first
  | assumption
  | exact upd_same
  | (refine Eq.trans (upd_ne (by first | assumption | (apply Ne.symm; assumption))) ?_; walk_at "hp"))
local macro_rules | `(tactic| walk_at "sq") => `(tactic| first
  | assumption
  | (refine Or.inl (Or.inl ?_); walk_at "hp"))
local macro_rules | `(tactic| walk_at "st") => `(tactic| first
  | assumption
  | (refine Or.inl (Or.inl ?_); walk_at "hp"))
local macro_rules | `(tactic| walk_at "ar") => `(tactic| first
  | assumption
  | omega
  | decide)
local macro_rules | `(tactic| walk_at "ci") => `(tactic| first
  | (refine (show CMul _ _ from Or.inr ⟨?_, ?_⟩) <;> omega)
  | (refine (show CMul _ _ from Or.inl ⟨?_, ?_⟩) <;> omega)
  | (show CPow _ _; exact ⟨by decide, by decide, by decide⟩)
  | (refine wide_div (b := 63) ?_ ?_ (by decide) (by decide) <;> omega)
  | (show (0 : Int) < _; omega))
local macro_rules | `(tactic| walk_at "ty") => `(tactic| first
  | exact dp_ty (by assumption)
  | exact TyX.base (TyOf.int _)
  | exact TyX.base (TyOf.str _)
  | exact TyX.base (TyOf.bl _)
  | exact TyX.base TyOf.non
  | exact tyL' (by walk_at "sq")
  | exact tyT' (by walk_at "st"))
local macro_rules | `(tactic| walk_at "isi") => `(tactic| first
  | ((with_reducible apply Rd.isiF); (walk_at "ty"); (decide))
  | ((with_reducible apply Rd.isiT); (walk_at "ty"); (decide)))
local macro_rules | `(tactic| walk_at "rd") => `(tactic| first
  | with_reducible apply Rd.seq
  | ((with_reducible apply Rd.var); rfl)
  | with_reducible apply Rd.con
  | with_reducible apply Rd.op
  | with_reducible apply Rd.asg
  | ((with_reducible apply Rd.gname); ((dsimp only [List.set, L2.wipe, Int.reduceToNat]) <;> rfl))
  | with_reducible apply Rd.nxt
  | with_reducible apply Rd.ifs
  | with_reducible apply Rd.test
  | with_reducible apply Rd.testB
  | with_reducible apply Rd.exbl
  | with_reducible apply Rd.ret
  | with_reducible apply Rd.drop
  | with_reducible apply Rd.retN
  | with_reducible apply Rd.nil
  | with_reducible apply Rd.cons
  | with_reducible apply Rd.call
  | with_reducible apply Rd.cb
  | with_reducible apply Rd.and
  | with_reducible apply Rd.or
  | with_reducible apply Rd.not
  | with_reducible apply Rd.andV
  | with_reducible apply Rd.orV
  | with_reducible apply Rd.notV
  | with_reducible apply Rd.ife
  | with_reducible apply Rd.tup
  | with_reducible apply Rd.lst
  | with_reducible apply Rd.un
  | with_reducible apply Rd.chain
  | with_reducible apply Rd.brk
  | with_reducible apply Rd.cnt
  | with_reducible apply Rd.I0
  | with_reducible apply Rd.U1
  | ((with_reducible apply Rd.eq); rfl)
  | ((with_reducible apply Rd.ne); rfl)
  | ((with_reducible apply Rd.I1); (walk_at "ci"))
  | with_reducible apply Rd.lc0
  | with_reducible apply Rd.ln0
  | with_reducible apply Rd.exN
  | ((with_reducible apply Rd.iteSf); (decide +kernel))
  | ((with_reducible apply Rd.iteSt); (decide +kernel))
  | ((with_reducible apply Rd.niQ); (exact Or.inl (by walk_at "sq")); (exact ⟨rfl, rfl⟩); (rfl))
  | ((with_reducible apply Rd.inQ); (exact Or.inl (by walk_at "sq")); (exact ⟨rfl, rfl⟩); (rfl))
  | with_reducible apply Rd.rn1
  | with_reducible apply Rd.in1
  | with_reducible apply Rd.sn1
  | with_reducible apply Rd.bn1
  | with_reducible apply Rd.nn1
  | with_reducible apply Rd.rn2
  | with_reducible apply Rd.in2
  | with_reducible apply Rd.sn2
  | with_reducible apply Rd.bn2
  | with_reducible apply Rd.nn2
  | with_reducible apply Rd.nt1
  | with_reducible apply Rd.nf1
  | (with_reducible refine Rd.iteI (fun _ => ?_) (fun _ => ?_))
  | (with_reducible refine Rd.iteNI (fun _ => ?_) (fun _ => ?_))
  | (with_reducible refine iteT ?_)
  | (with_reducible refine iteF ?_)
  | (with_reducible refine Rd.iteD (fun _ => ?_) (fun _ => ?_))
  | (with_reducible refine Rd.iteN (fun _ => ?_) (fun _ => ?_))
  | with_reducible apply Rd.intI
  | with_reducible apply Rd.intB
  | with_reducible apply Rd.maxQ
  | with_reducible apply Rd.minQ
  | with_reducible apply Rd.absQ
  | with_reducible apply Rd.isN
  | with_reducible apply Rd.noN
  | with_reducible apply Rd.ltZ
  | with_reducible apply Rd.bm
  | with_reducible apply Rd.bm0
  | with_reducible apply Rd.par
  | with_reducible apply Rd.expar
  | with_reducible apply Rd.exint
  | with_reducible apply Rd.ipi
  | with_reducible apply Rd.slice
  | with_reducible apply Rd.noPart
  | with_reducible apply Rd.part
  | with_reducible apply Rd.gcons
  | with_reducible apply Rd.gnil
  | with_reducible apply Rd.iseq
  | with_reducible apply Rd.irng1
  | walk_at "isi"
  | with_reducible apply Rd.forX
  | with_reducible apply Rd.lstRev
  | with_reducible apply Rd.lstRg
  | with_reducible apply Rd.rg1
  | with_reducible apply Rd.rg2
  | with_reducible apply Rd.exint2
  | ((with_reducible apply Rd.exrev); (walk_at "sq"))
  | with_reducible apply Rd.lcX
  | with_reducible apply Rd.yes
  | ((with_reducible apply Rd.exrng1); (constructor <;> omega))
  | ((with_reducible apply Rd.exrng2); (refine ⟨?_, ?_, ?_, ?_⟩ <;> omega))
  | with_reducible apply Rd.irng2
  | ((with_reducible apply Rd.aug); rfl)
  | ((with_reducible apply Rd.exlst); (walk_at "sq"))
  | ((with_reducible apply Rd.gtup); (walk_at "st"); (rfl))
  | ((with_reducible apply Rd.tyL); (walk_at "hp"))
  | ((with_reducible apply Rd.ixL); (walk_at "sq"); (rfl))
  | ((with_reducible apply Rd.ixI); (walk_at "sq"); (omega); (first | assumption | (simp only [List.length_map]; omega)); (intro _ _))
  | (with_reducible refine Rd.gsub ?_)
  | ((with_reducible apply Rd.setL); (walk_at "hp"); (rfl); ((dsimp only [List.set, L2.wipe, Int.reduceToNat]) <;> rfl))
  | ((with_reducible apply Rd.lenQ); (first | exact Or.inl (by walk_at "sq") | exact Or.inr (by walk_at "st")))
  | ((with_reducible apply Rd.listQ); (first | exact Or.inl (by walk_at "sq") | exact Or.inr (by walk_at "st")))
  | ((with_reducible apply Rd.tupQ); (walk_at "sq"))
  | ((with_reducible apply Rd.slL); (walk_at "sq"))
  | ((with_reducible apply Rd.ixT); (walk_at "st"); (rfl))
  | (with_reducible refine Rd.iteB (fun _ => ?_) (fun _ => ?_))
  | (with_reducible refine Rd.iteNB (fun _ => ?_) (fun _ => ?_))
  | (refine Rd.andI (Nat.le_of_ble_eq_true rfl) ?_)
  | dsimp only [List.set])
local macro_rules | `(tactic| walk_at "hp") => `(tactic| first
  | assumption
  | exact upd_same
  | (refine Eq.trans (upd_ne (by first | assumption | (apply Ne.symm; assumption))) ?_; walk_at "hp")
  | (refine hpS (by assumption) ?_; walk_at "hp"))
local macro_rules | `(tactic| walk_at "al") => `(tactic| (with_reducible intro l hl; generalize hG : upd _ l _ = G; have hs := newOne hl hG; clear hG; obtain ⟨hs, he⟩ := hs))
local macro_rules | `(tactic| walk_at "rd") => `(tactic| first
  | walk_at "al"
  | ((with_reducible apply Rd.cat); (walk_at "hp"); (walk_at "hp"); (exact Nat.le_of_ble_eq_true rfl)))
local macro_rules | `(tactic| walk_at "sm") => `(tactic| first
  | assumption
  | exact Same.refl _
  | (refine Same.trans ?_ (by assumption); walk_at "sm"))
local macro_rules | `(tactic| walk_at "fr") => `(tactic| first
  | assumption
  | (refine Same.free (by assumption) ?_; walk_at "fr"))
local macro_rules | `(tactic| walk_at "ty") => `(tactic| first
  | exact dv_ty (by assumption)
  | exact tyD' (by walk_at "hp"))
local macro_rules | `(tactic| walk_at "sz") => `(tactic| first
  | exact sz5 (by omega)
  | (simp only [add_len, one_len]; exact sz5 (by omega)))
local macro_rules | `(tactic| walk_at "rd") => `(tactic| first
  | with_reducible apply Rd.istr
  | with_reducible apply Rd.exstr
  | with_reducible apply Rd.leA
  | with_reducible apply Rd.leZz
  | with_reducible apply Rd.le0
  | with_reducible apply Rd.le9
  | with_reducible apply Rd.niZ
  | ((with_reducible apply Rd.lenZ); (walk_at "sz"))
  | ((with_reducible apply Rd.slZ); (walk_at "sz"))
  | ((with_reducible apply Rd.addZ); (walk_at "sz"))
  | with_reducible apply Rd.raiseX
  | with_reducible apply Rd.exone
  | with_reducible apply Rd.callS
  | with_reducible apply Rd.callP
  | with_reducible apply Rd.xsX
  | with_reducible apply Rd.dnewX
  | with_reducible apply Rd.tyZ)
local macro_rules | `(tactic| walk_at "rd") => `(tactic| first
  | with_reducible apply Rd.seq
  | ((with_reducible apply Rd.var); rfl)
  | with_reducible apply Rd.con
  | with_reducible apply Rd.op
  | with_reducible apply Rd.cons
  | with_reducible apply Rd.nil
  | with_reducible apply Rd.asg
  | ((with_reducible apply Rd.gname); ((dsimp only [List.set, L2.wipe, Int.reduceToNat]) <;> rfl))
  | with_reducible apply Rd.nxt
  | with_reducible apply Rd.ifs
  | with_reducible apply Rd.test
  | with_reducible apply Rd.ret
  | with_reducible apply Rd.call
  | with_reducible apply Rd.cb)
open Ty Ln
section
variable {P : Program} {w : World} {K : PySem.W.Frag} {mg : Str → Option Value} {base : Heap} {D : Str → Addr}
theorem names_str : ∀ {ds : List PyData}, dueN ds = none → ∃ ws : List Str, ds = ws.map PyData.str ∧ ∀ w ∈ ws, nmB w = true
  | [], _ => ⟨[], rfl, fun _ h => nomatch h⟩
  | d :: ds, h => by
    unfold dueN at h
    by_cases hn : nameD d = true
    · rw [if_pos hn] at h
      rcases str_cases d with ⟨z, rfl⟩ | ⟨e, _⟩
      · obtain ⟨ws, rfl, k⟩ := names_str h
        refine ⟨z :: ws, rfl, fun w hw => ?_⟩
        rcases List.mem_cons.mp hw with rfl | hw
        · exact hn
        · exact k w hw
      · rw [e] at hn
        cases hn
    · rw [if_neg hn] at h
      cases h
theorem va_texts {H : Hp} : ∀ {xs : List V} {ws : List Str}, DvAll K H xs (ws.map PyData.str) → xs = ws.map V.str
  | [], [], _ => rfl
  | x :: xs, w :: ws, .cons d t => by
    cases d
    rw [va_texts t]
    rfl
/-- the first word that stands not in zs -/
def outS (zs : List Str) : List Str → Option Str
  | [] => none
  | w :: ws => if w ∈ zs then outS zs ws else some w
theorem outS_none {zs : List Str} : ∀ {ws : List Str}, outS zs ws = none → ∀ w ∈ ws, w ∈ zs
  | [], _, _, h => nomatch h
  | x :: ws, h, w, hw => by
    unfold outS at h
    by_cases m : x ∈ zs
    · rw [if_pos m] at h
      rcases List.mem_cons.mp hw with rfl | hw
      · exact m
      · exact outS_none h w hw
    · rw [if_neg m] at h
      cases h
theorem outS_all {zs : List Str} : ∀ {ws : List Str}, (∀ w ∈ ws, w ∈ zs) → outS zs ws = none
  | [], _ => rfl
  | x :: ws, h => by
    unfold outS
    rw [if_pos (h x (.head _))]
    exact outS_all fun w hw => h w (.tail _ hw)
theorem outS_at {zs : List Str} : ∀ {ws : List Str} {i : Nat} {z : Str}, ws[i]? = some z → z ∉ zs → (∀ y ∈ ws.take i, y ∈ zs) → outS zs ws = some z
  | [], _, _, h, _, _ => nomatch h
  | x :: ws, 0, z, h, n, _ => by
    have h : x = z := Option.some.inj h
    subst h
    unfold outS
    rw [if_neg n]
  | x :: ws, i + 1, z, h, n, a => by
    unfold outS
    rw [if_pos (a x (by rw [List.take_succ_cons]; exact .head _))]
    exact outS_at (i := i) h n fun y hy => a y (by rw [List.take_succ_cons]; exact .tail _ hy)
def strsD (ds : List PyData) : List Str := ds.map fun d => match d with
  | .str z => z
  | _ => ""
theorem strsD_map (ws : List Str) : strsD (ws.map PyData.str) = ws := by
  unfold strsD
  rw [List.map_map]
  exact List.map_id _
/-- what is due: of the houses' names and the line's, then of the houses, then of the line -/
def dueA (zs ns : List Str) (ds : List PyData) (d : PyData) : Option (Str × PyData) := match dueN ds with
  | some e => dErr "BadName" e
  | none => match d with
    | .none => (match outS zs (strsD ds) with
      | some z => dErr "NoHouse" (.str z)
      | none => none)
    | d => if nameD d = false then dErr "BadName" d else match outS zs (strsD ds) with
      | some z => dErr "NoHouse" (.str z)
      | none => match d with
        | .str n => if n ∈ ns then none else dErr "NoLine" (.str n)
        | _ => none
theorem dueA_code {zs ns : List Str} {ds : List PyData} {d : PyData} {code : Str} {e : PyData} (h : dueA zs ns ds d = some (code, e)) : code = "BadName" ∨ code = "NoHouse" ∨ code = "NoLine" := by
  unfold dueA at h
  cases e1 : dueN ds with
  | some x =>
    rw [e1] at h
    cases h
    exact .inl rfl
  | none =>
    rw [e1] at h
    have two : ∀ {r : Option (Str × PyData)}, (match outS zs (strsD ds) with
        | some z => dErr "NoHouse" (.str z)
        | none => r) = some (code, e) → code = "NoHouse" ∨ r = some (code, e) := fun {r} h => by
      cases e2 : outS zs (strsD ds) with
      | some z =>
        rw [e2] at h
        cases h
        exact .inl rfl
      | none =>
        rw [e2] at h
        exact .inr h
    cases d with
    | none =>
      rcases two h with h | h
      · exact .inr (.inl h)
      · cases h
    | str n =>
      dsimp only at h
      by_cases c : nameD (.str n) = false
      · rw [if_pos c] at h
        cases h
        exact .inl rfl
      · rw [if_neg c] at h
        rcases two h with h | h
        · exact .inr (.inl h)
        · by_cases m : n ∈ ns
          · rw [if_pos m] at h
            cases h
          · rw [if_neg m] at h
            cases h
            exact .inr (.inr rfl)
    | _ =>
      dsimp only at h
      rw [if_pos (by rfl)] at h
      cases h
      exact .inl rfl
section
variable {zs ns ws : List Str} {ds : List PyData} {d e : PyData}
theorem dueA_bad (h : dueN ds = some e) : dueA zs ns ds d = dErr "BadName" e := by
  unfold dueA
  rw [h]
theorem dueA_form (h : dueN ds = none) (n : d ≠ .none) (k : nameD d = false) : dueA zs ns ds d = dErr "BadName" d := by
  unfold dueA
  rw [h]
  cases d with
  | none => exact absurd rfl n
  | _ =>
    dsimp only
    rw [if_pos k]
theorem dueA_house {z : Str} (h : dueN (ws.map PyData.str) = none) (k : d = .none ∨ nameD d = true) (o : outS zs ws = some z) : dueA zs ns (ws.map PyData.str) d = dErr "NoHouse" (.str z) := by
  unfold dueA
  rw [h, strsD_map]
  rcases k with rfl | k
  · dsimp only
    rw [o]
  · cases d with
    | none => cases k
    | _ =>
      dsimp only
      rw [if_neg (by rw [k]; exact Bool.noConfusion), o]
theorem dueA_none (h : dueN (ws.map PyData.str) = none) (o : outS zs ws = none) : dueA zs ns (ws.map PyData.str) .none = none := by
  unfold dueA
  rw [h, strsD_map]
  dsimp only
  rw [o]
theorem dueA_line {n : Str} (h : dueN (ws.map PyData.str) = none) (k : nmB n = true) (o : outS zs ws = none) : dueA zs ns (ws.map PyData.str) (.str n) = if n ∈ ns then none else dErr "NoLine" (.str n) := by
  unfold dueA
  rw [h, strsD_map]
  dsimp only
  rw [if_neg (by rw [show nameD (.str n) = nmB n from rfl, k]; exact Bool.noConfusion), o]
end
theorem propX {C : Addr} {sp : Sp} {dvs : List V} {E : XK} {ta : TE} {σ : L2.St} {H : Hp} {Q : VK} (h : ta σ H fun x H1 => ∃ a dx fs, x = .ref a ∧ H1 a = some (.ins C dx fs) ∧ sp (.ref a :: dvs) H1 Q E) : tProp C sp dvs E ta σ H Q := h
theorem dinXa {td : TE} {σ : L2.St} {ty : TE} {H : Hp} {Q : VK} (h : ty σ H fun y H1 => td σ H1 fun x H2 => ∃ a o, x = .ref a ∧ DGet H2 a y o ∧ Q (.bl o.isSome) H2) : tDIn ty td σ H Q := h
/-- check_asked(web, houses, without) -/
def spAskedE (K : PySem.W.Frag) (D : Str → Addr) (C : Addr) : Sp := fun vs H Q E => ∃ (g l : Addr) (zs : List Str) (ts : List (Str × Str × Str)) (xs : List V) (ds : List PyData) (v : V) (d : PyData), vs = [.ref g, .ref l, v] ∧ WebAt H C g zs ts ∧ zs.length ≤ 1000 ∧
  H l = some (.lst xs) ∧ DvAll K H xs ds ∧ (∀ d ∈ ds, Sz d) ∧ Dv K H v d ∧ Sz d ∧ (dueA zs (ts.map (·.1)) ds d = none → ∀ H', Same H H' → Q .non H') ∧
  ∀ code e, dueA zs (ts.map (·.1)) ds d = some (code, e) → ∀ dd v' H', H dd = none → Same H H' → Dv K H' v' e → H' dd = some (.xd [("word", v'), ("code", .str code)]) → E (.ref (D code)) (some dd) H'
local macro_rules | `(tactic| walk_at "rd") => `(tactic| first
  | with_reducible apply Kj.dinXa
  | with_reducible apply Kj.propX)
theorem ok_check_asked (F : Def K mg "check_asked" s_check_asked P_check_asked) (KW_Web : ClsF K mg D "Web" ["_houses", "_ends", "_lines"]) (T_NoLine : Ho.ErrC P w K mg base "NoLine" (D "NoLine") "word") (C_check_name : Ho.CalN P w K mg base 3 "check_name" P_check_name (spCheckN K D)) (C_check_names : Ho.CalN P w K mg base 4 "check_names" P_check_names (spNamesE K D)) (C_check_stand : Ho.CalN P w K mg base 4 "check_stand" P_check_stand (spStandE K D)) (C_Web_houses : CalR P w K mg base 2 (PropR K (D "Web") "houses") P_Web_houses (spWHouses (D "Web"))) (C_Web_contains : CalR P w K mg base 2 (InR K (D "Web")) P_Web_contains (spWIn (D "Web"))) : Ho.CalN P w K mg base 5 "check_asked" P_check_asked (spAskedE K D (D "Web")) := by
  refine Ho.defN F sc_check_asked (fun vs H Q E h => ?_) (fun f cdv A outer s H vs Q E hr h => ?_)
  · obtain ⟨g, l, zs, ts, xs, ds, v, d, rfl, _⟩ := h
    rfl
  obtain ⟨g, l, zs, ts, xs, ds, v, d, rfl, wa, lz, el, da, sz, dv, szd, qn, qs⟩ := h
  refine ⟨_, (pss_cons (ps_expr (Ho.pe_calN C_check_names (L2N.takes_of rfl rfl rfl rfl) hr (pa_cons (pv 1 (hd := nd_houses) (hcd := nc_houses)) pa_nil)))
  (C8.pss_cut (ps_if (pt_cmpR o_noN (pv 2 (hd := nd_without) (hcd := nc_without)) pe_non (nomark _)) (pss_one (ps_expr (Ho.pe_calN C_check_name (L2N.takes_of rfl rfl rfl rfl) hr (pa_cons (pv 2 (hd := nd_without) (hcd := nc_without)) pa_nil)))) pss_nil)
  (pss_cons (ps_expr (Ho.pe_calN C_check_stand (L2N.takes_of rfl rfl rfl rfl) hr (pa_cons (pe_propR C_Web_houses (pv 0 (hd := nd_web) (hcd := nc_web)) KW_Web.cl hr) (pa_cons (pv 1 (hd := nd_houses) (hcd := nc_houses)) pa_nil))))
  (pss_one (ps_if (PW.pt (pw_and (pt_cmpR o_noN (pv 2 (hd := nd_without) (hcd := nc_without)) pe_non (nomark _)) (pw_and1 (pt_cmpR (op_niR C_Web_contains hr) (pv 2 (hd := nd_without) (hcd := nc_without)) (pv 0 (hd := nd_web) (hcd := nc_web)) (by rfl))))) (pss_one (Ho.ps_err rfl T_NoLine hr (L2N.takes_of rfl rfl rfl rfl) (pa_cons (pv 2 (hd := nd_without) (hcd := nc_without)) pa_nil) (by first | exact Ho.up_v | exact Ho.up_c))) pss_nil))))), ?_⟩
  refine Rd.at0 (σ := [some (.ref g), some (.ref l), some v]) rfl ?_
  repeat' (walk_at "rd")
  refine ⟨l, xs, ds, rfl, el, da, sz, fun hn H1 s1 => ?_, fun e he dd v' H1 n1 s1 dv' e1 => ?_⟩
  rotate_left
  · exact qs _ _ (dueA_bad he) dd v' H1 n1 s1 dv' e1
  obtain ⟨ws, rfl, hw⟩ := names_str hn
  obtain rfl := va_texts da
  have dv1 := dv_same s1 dv
  have wa1 := wa.same s1
  refine Rd.cut (fun σ' G => σ' = [some (.ref g), some (.ref l), some v] ∧ Same H G ∧ (d = .none ∨ nameD d = true)) ?_ ?_
  · by_cases hv : d = .none
    · subst hv
      cases dv
      repeat' (walk_at "rd")
      exact ⟨rfl, s1, .inl rfl⟩
    · have nv : ¬ v = .non := fun z => by
        subst z
        cases dv
        exact hv rfl
      repeat' (walk_at "rd")
      · refine ⟨v, d, rfl, dv1, szd, fun hk H2 s2 => ?_, fun hk dd H2 n2 s2 e2 => ?_⟩
        · repeat' (walk_at "rd")
          exact ⟨rfl, s1.trans s2, .inr hk⟩
        · exact qs _ _ (dueA_form hn hv hk) dd v H2 (s1.free n2) (s1.trans s2) (dv_same (s1.trans s2) dv) e2
      · rename_i z
        exact absurd z nv
  rintro σ' G ⟨rfl, sG, hk⟩
  have waG := wa.same sG
  have elG := sG _ _ el
  repeat' (walk_at "rd")
  obtain ⟨dx, g1, d1, l1, ys, ks, f1, ea, rst⟩ := id waG
  refine ⟨g, dx, _, rfl, ea, g, zs, ts, rfl, waG, lz, fun L ys H2 py sy nL s2 eL => ?_⟩
  repeat' (walk_at "rd")
  refine ⟨L, l, ys, ws, rfl, .inl (.inl eL), s2 _ _ elG, fun al H3 s3 => ?_, fun i z hz hnz al dd H3 n3 s3 e3 => ?_⟩
  rotate_left
  · have s03 := (sG.trans s2).trans s3
    have o := outS_at hz (fun m => hnz (py.mem_iff.mpr m)) fun y hy => py.mem_iff.mp (al y hy)
    exact qs _ _ (dueA_house hn hk o) dd (.str z) H3 ((sG.trans s2).free n3) s03 (.str z) e3
  have o : outS zs ws = none := outS_all fun w hw => py.mem_iff.mp (al w hw)
  have s03 := (sG.trans s2).trans s3
  by_cases hv : d = .none
  · subst hv
    cases dv
    repeat' (walk_at "rd")
    exact qn (dueA_none hn o) H3 s03
  · have nv : ¬ v = .non := fun z => by
      subst z
      cases dv
      exact hv rfl
    have hk : nameD d = true := hk.resolve_left hv
    rcases str_cases d with ⟨n, rfl⟩ | ⟨e, _⟩
    · cases dv
      have wa3 := wa.same s03
      obtain ⟨dx3, g3, d3, l3, ys3, ks3, f3, ea3, rst3⟩ := id wa3
      repeat' (walk_at "rd")
      refine ⟨g, dx3, _, rfl, ea3, g, zs, ts, n, rfl, wa3, ⟨_, rfl, ?_⟩⟩
      have dl := dueA_line (ns := ts.map (·.1)) hn hk o
      by_cases m : n ∈ ts.map (·.1)
      · rw [if_pos m] at dl
        rw [decide_eq_true m]
        repeat' (walk_at "rd")
        exact qn dl H3 s03
      · rw [if_neg m] at dl
        rw [decide_eq_false m]
        repeat' (walk_at "rd")
        rename_i l' n' G' s' e'
        exact qs _ _ dl l' (.str n) G' (s03.free n') (s03.trans s') (.str n) e'
    · rw [e] at hk
      cases hk
end
end Kj
namespace Kj
open PySem PySem.Spec PyProof.Rows L2 Rd
local macro_rules | `(tactic| walk_at "hp") => `(tactic| first
  | assumption
  | exact upd_same
  | (refine Eq.trans (upd_ne (by first | assumption | (apply Ne.symm; assumption))) ?_; walk_at "hp"))
local macro_rules | `(tactic| walk_at "sq") => `(tactic| first
  | assumption
  | (refine Or.inl (Or.inl ?_); walk_at "hp"))
local macro_rules | `(tactic| walk_at "st") => `(tactic| first
  | assumption
  | (refine Or.inl (Or.inl ?_); walk_at "hp"))
local macro_rules | `(tactic| walk_at "ar") => `(tactic| first
  | assumption
  | omega
  | decide)
local macro_rules | `(tactic| walk_at "ci") => `(tactic| first
  | (refine (show CMul _ _ from Or.inr ⟨?_, ?_⟩) <;> omega)
  | (refine (show CMul _ _ from Or.inl ⟨?_, ?_⟩) <;> omega)
  | (show CPow _ _; exact ⟨by decide, by decide, by decide⟩)
  | (refine wide_div (b := 63) ?_ ?_ (by decide) (by decide) <;> omega)
  | (show (0 : Int) < _; omega))
local macro_rules | `(tactic| walk_at "ty") => `(tactic| first
  | exact dp_ty (by assumption)
  | exact TyX.base (TyOf.int _)
  | exact TyX.base (TyOf.str _)
  | exact TyX.base (TyOf.bl _)
  | exact TyX.base TyOf.non
  | exact tyL' (by walk_at "sq")
  | exact tyT' (by walk_at "st"))
local macro_rules | `(tactic| walk_at "isi") => `(tactic| first
  | ((with_reducible apply Rd.isiF); (walk_at "ty"); (decide))
  | ((with_reducible apply Rd.isiT); (walk_at "ty"); (decide)))
local macro_rules | `(tactic| walk_at "rd") => `(tactic| first
  | with_reducible apply Rd.seq
  | ((with_reducible apply Rd.var); rfl)
  | with_reducible apply Rd.con
  | with_reducible apply Rd.op
  | with_reducible apply Rd.asg
  | ((with_reducible apply Rd.gname); ((dsimp only [List.set, L2.wipe, Int.reduceToNat]) <;> rfl))
  | with_reducible apply Rd.nxt
  | with_reducible apply Rd.ifs
  | with_reducible apply Rd.test
  | with_reducible apply Rd.testB
  | with_reducible apply Rd.exbl
  | with_reducible apply Rd.ret
  | with_reducible apply Rd.drop
  | with_reducible apply Rd.retN
  | with_reducible apply Rd.nil
  | with_reducible apply Rd.cons
  | with_reducible apply Rd.call
  | with_reducible apply Rd.cb
  | with_reducible apply Rd.and
  | with_reducible apply Rd.or
  | with_reducible apply Rd.not
  | with_reducible apply Rd.andV
  | with_reducible apply Rd.orV
  | with_reducible apply Rd.notV
  | with_reducible apply Rd.ife
  | with_reducible apply Rd.tup
  | with_reducible apply Rd.lst
  | with_reducible apply Rd.un
  | with_reducible apply Rd.chain
  | with_reducible apply Rd.brk
  | with_reducible apply Rd.cnt
  | with_reducible apply Rd.I0
  | with_reducible apply Rd.U1
  | ((with_reducible apply Rd.eq); rfl)
  | ((with_reducible apply Rd.ne); rfl)
  | ((with_reducible apply Rd.I1); (walk_at "ci"))
  | with_reducible apply Rd.lc0
  | with_reducible apply Rd.ln0
  | with_reducible apply Rd.exN
  | ((with_reducible apply Rd.iteSf); (decide +kernel))
  | ((with_reducible apply Rd.iteSt); (decide +kernel))
  | ((with_reducible apply Rd.niQ); (exact Or.inl (by walk_at "sq")); (exact ⟨rfl, rfl⟩); (rfl))
  | ((with_reducible apply Rd.inQ); (exact Or.inl (by walk_at "sq")); (exact ⟨rfl, rfl⟩); (rfl))
  | with_reducible apply Rd.rn1
  | with_reducible apply Rd.in1
  | with_reducible apply Rd.sn1
  | with_reducible apply Rd.bn1
  | with_reducible apply Rd.nn1
  | with_reducible apply Rd.rn2
  | with_reducible apply Rd.in2
  | with_reducible apply Rd.sn2
  | with_reducible apply Rd.bn2
  | with_reducible apply Rd.nn2
  | with_reducible apply Rd.nt1
  | with_reducible apply Rd.nf1
  | (with_reducible refine Rd.iteI (fun _ => ?_) (fun _ => ?_))
  | (with_reducible refine Rd.iteNI (fun _ => ?_) (fun _ => ?_))
  | (with_reducible refine iteT ?_)
  | (with_reducible refine iteF ?_)
  | (with_reducible refine Rd.iteD (fun _ => ?_) (fun _ => ?_))
  | (with_reducible refine Rd.iteN (fun _ => ?_) (fun _ => ?_))
  | with_reducible apply Rd.intI
  | with_reducible apply Rd.intB
  | with_reducible apply Rd.maxQ
  | with_reducible apply Rd.minQ
  | with_reducible apply Rd.absQ
  | with_reducible apply Rd.isN
  | with_reducible apply Rd.noN
  | with_reducible apply Rd.ltZ
  | with_reducible apply Rd.bm
  | with_reducible apply Rd.bm0
  | with_reducible apply Rd.par
  | with_reducible apply Rd.expar
  | with_reducible apply Rd.exint
  | with_reducible apply Rd.ipi
  | with_reducible apply Rd.slice
  | with_reducible apply Rd.noPart
  | with_reducible apply Rd.part
  | with_reducible apply Rd.gcons
  | with_reducible apply Rd.gnil
  | with_reducible apply Rd.iseq
  | with_reducible apply Rd.irng1
  | walk_at "isi"
  | with_reducible apply Rd.forX
  | with_reducible apply Rd.lstRev
  | with_reducible apply Rd.lstRg
  | with_reducible apply Rd.rg1
  | with_reducible apply Rd.rg2
  | with_reducible apply Rd.exint2
  | ((with_reducible apply Rd.exrev); (walk_at "sq"))
  | with_reducible apply Rd.lcX
  | with_reducible apply Rd.yes
  | ((with_reducible apply Rd.exrng1); (constructor <;> omega))
  | ((with_reducible apply Rd.exrng2); (refine ⟨?_, ?_, ?_, ?_⟩ <;> omega))
  | with_reducible apply Rd.irng2
  | ((with_reducible apply Rd.aug); rfl)
  | ((with_reducible apply Rd.exlst); (walk_at "sq"))
  | ((with_reducible apply Rd.gtup); (walk_at "st"); (rfl))
  | ((with_reducible apply Rd.tyL); (walk_at "hp"))
  | ((with_reducible apply Rd.ixL); (walk_at "sq"); (rfl))
  | ((with_reducible apply Rd.ixI); (walk_at "sq"); (omega); (first | assumption | (simp only [List.length_map]; omega)); (intro _ _))
  | (with_reducible refine Rd.gsub ?_)
  | ((with_reducible apply Rd.setL); (walk_at "hp"); (rfl); ((dsimp only [List.set, L2.wipe, Int.reduceToNat]) <;> rfl))
  | ((with_reducible apply Rd.lenQ); (first | exact Or.inl (by walk_at "sq") | exact Or.inr (by walk_at "st")))
  | ((with_reducible apply Rd.listQ); (first | exact Or.inl (by walk_at "sq") | exact Or.inr (by walk_at "st")))
  | ((with_reducible apply Rd.tupQ); (walk_at "sq"))
  | ((with_reducible apply Rd.slL); (walk_at "sq"))
  | ((with_reducible apply Rd.ixT); (walk_at "st"); (rfl))
  | (with_reducible refine Rd.iteB (fun _ => ?_) (fun _ => ?_))
  | (with_reducible refine Rd.iteNB (fun _ => ?_) (fun _ => ?_))
  | (refine Rd.andI (Nat.le_of_ble_eq_true rfl) ?_)
  | dsimp only [List.set])
local macro_rules | `(tactic| walk_at "hp") => `(tactic| first
  | assumption
  | exact upd_same
  | (refine Eq.trans (upd_ne (by first | assumption | (apply Ne.symm; assumption))) ?_; walk_at "hp")
  | (refine hpS (by assumption) ?_; walk_at "hp"))
local macro_rules | `(tactic| walk_at "al") => `(tactic| (with_reducible intro l hl; generalize hG : upd _ l _ = G; have hs := newOne hl hG; clear hG; obtain ⟨hs, he⟩ := hs))
local macro_rules | `(tactic| walk_at "rd") => `(tactic| first
  | walk_at "al"
  | ((with_reducible apply Rd.cat); (walk_at "hp"); (walk_at "hp"); (exact Nat.le_of_ble_eq_true rfl)))
local macro_rules | `(tactic| walk_at "sm") => `(tactic| first
  | assumption
  | exact Same.refl _
  | (refine Same.trans ?_ (by assumption); walk_at "sm"))
local macro_rules | `(tactic| walk_at "fr") => `(tactic| first
  | assumption
  | (refine Same.free (by assumption) ?_; walk_at "fr"))
local macro_rules | `(tactic| walk_at "ty") => `(tactic| first
  | exact dv_ty (by assumption)
  | exact tyD' (by walk_at "hp"))
local macro_rules | `(tactic| walk_at "sz") => `(tactic| first
  | exact sz5 (by omega)
  | (simp only [add_len, one_len]; exact sz5 (by omega)))
local macro_rules | `(tactic| walk_at "rd") => `(tactic| first
  | with_reducible apply Rd.istr
  | with_reducible apply Rd.exstr
  | with_reducible apply Rd.leA
  | with_reducible apply Rd.leZz
  | with_reducible apply Rd.le0
  | with_reducible apply Rd.le9
  | with_reducible apply Rd.niZ
  | ((with_reducible apply Rd.lenZ); (walk_at "sz"))
  | ((with_reducible apply Rd.slZ); (walk_at "sz"))
  | ((with_reducible apply Rd.addZ); (walk_at "sz"))
  | with_reducible apply Rd.raiseX
  | with_reducible apply Rd.exone
  | with_reducible apply Rd.callS
  | with_reducible apply Rd.callP
  | with_reducible apply Rd.xsX
  | with_reducible apply Rd.dnewX
  | with_reducible apply Rd.tyZ)
local macro_rules | `(tactic| walk_at "rd") => `(tactic| first
  | with_reducible apply Rd.seq
  | ((with_reducible apply Rd.var); rfl)
  | with_reducible apply Rd.con
  | with_reducible apply Rd.op
  | with_reducible apply Rd.cons
  | with_reducible apply Rd.nil
  | with_reducible apply Rd.asg
  | ((with_reducible apply Rd.gname); ((dsimp only [List.set, L2.wipe, Int.reduceToNat]) <;> rfl))
  | with_reducible apply Rd.nxt
  | with_reducible apply Rd.ifs
  | with_reducible apply Rd.test
  | with_reducible apply Rd.ret
  | with_reducible apply Rd.call
  | with_reducible apply Rd.cb)
section
/-- ms is met so far, of which the first p are done; c counts the steps; of the house at p the first i neighbours are seen -/
structure BInv (nb : Str → List Str) (h : Str) (ms : List Str) (c : Str → Nat) (p : Nat) : Prop where
  nd : ms.Nodup
  src : ms[0]? = some h
  c0 : c h = 0
  mono : ∀ i j : Nat, i ≤ j → ∀ x y, ms[i]? = some x → ms[j]? = some y → c x ≤ c y
  top : ∀ s, ms[p]? = some s → ∀ x ∈ ms, c x ≤ c s + 1
  done : ∀ (i : Nat) x, i < p → ms[i]? = some x → ∀ y ∈ nb x, y ∈ ms ∧ c y ≤ c x + 1
  pre : ∀ x ∈ ms, x ≠ h → ∃ (j : Nat) (y : Str), j < p ∧ ms[j]? = some y ∧ x ∈ nb y ∧ c x = c y + 1
  lt : ∀ x ∈ ms, c x < ms.length
/-- within the neighbours of s, which stands at p -/
structure BIn (nb : Str → List Str) (h s : Str) (ms : List Str) (c : Str → Nat) (p i : Nat) : Prop where
  nd : ms.Nodup
  src : ms[0]? = some h
  c0 : c h = 0
  at_ : ms[p]? = some s
  mono : ∀ i j : Nat, i ≤ j → ∀ x y, ms[i]? = some x → ms[j]? = some y → c x ≤ c y
  top : ∀ x ∈ ms, c x ≤ c s + 1
  done : ∀ (i : Nat) x, i < p → ms[i]? = some x → ∀ y ∈ nb x, y ∈ ms ∧ c y ≤ c x + 1
  now : ∀ y ∈ (nb s).take i, y ∈ ms ∧ c y ≤ c s + 1
  pre : ∀ x ∈ ms, x ≠ h → ∃ (j : Nat) (y : Str), j ≤ p ∧ ms[j]? = some y ∧ x ∈ nb y ∧ c x = c y + 1
  lt : ∀ x ∈ ms, c x < ms.length
theorem BInv.start (nb : Str → List Str) (h : Str) : BInv nb h [h] (fun _ => 0) 0 where
  nd := by simp
  src := rfl
  c0 := rfl
  mono := fun _ _ _ _ _ _ _ => Nat.le_refl _
  top := fun _ _ _ _ => Nat.zero_le _
  done := fun _ _ h => absurd h (Nat.not_lt_zero _)
  pre := fun x hx n => absurd (List.mem_singleton.mp hx) n
  lt := fun _ _ => Nat.one_pos
theorem BInv.begin {nb : Str → List Str} {h s : Str} {ms : List Str} {c : Str → Nat} {p : Nat} (b : BInv nb h ms c p) (e : ms[p]? = some s) : BIn nb h s ms c p 0 where
  nd := b.nd
  src := b.src
  c0 := b.c0
  at_ := e
  mono := b.mono
  top := b.top s e
  done := b.done
  now := fun y hy => by simp at hy
  pre := fun x hx n => by
    obtain ⟨j, y, h1, h2⟩ := b.pre x hx n
    exact ⟨j, y, Nat.le_of_lt h1, h2⟩
  lt := b.lt
theorem BIn.old {nb : Str → List Str} {h s z : Str} {ms : List Str} {c : Str → Nat} {p i : Nat} (b : BIn nb h s ms c p i) (e : (nb s)[i]? = some z) (m : z ∈ ms) : BIn nb h s ms c p (i + 1) := by
  have now : ∀ y ∈ (nb s).take (i + 1), y ∈ ms ∧ c y ≤ c s + 1 := fun y hy => by
    rw [List.take_add_one, e] at hy
    rcases List.mem_append.mp hy with hy | hy
    · exact b.now y hy
    · have hy : y = z := by simpa using hy
      rw [hy]
      exact ⟨m, b.top z m⟩
  exact ⟨b.nd, b.src, b.c0, b.at_, b.mono, b.top, b.done, now, b.pre, b.lt⟩
theorem BIn.new {nb : Str → List Str} {h s z : Str} {ms : List Str} {c : Str → Nat} {p i : Nat} (b : BIn nb h s ms c p i) (e : (nb s)[i]? = some z) (m : z ∉ ms) : BIn nb h s (ms ++ [z]) (fun x => if x = z then c s + 1 else c x) p (i + 1) := by
  have ne : ∀ {x}, x ∈ ms → x ≠ z := fun h e => m (e ▸ h)
  have cx : ∀ {x}, x ∈ ms → (if x = z then c s + 1 else c x) = c x := fun h => if_neg (ne h)
  have ms_ : s ∈ ms := List.mem_of_getElem? b.at_
  have old : ∀ {j : Nat} {x : Str}, ms[j]? = some x → (ms ++ [z])[j]? = some x := fun {j x} hj => by
    rw [List.getElem?_append_left (List.getElem?_eq_some_iff.mp hj).1]
    exact hj
  have inv : ∀ {j : Nat} {x : Str}, (ms ++ [z])[j]? = some x → (ms[j]? = some x) ∨ (j = ms.length ∧ x = z) := fun {j x} hj => by
    by_cases l : j < ms.length
    · rw [List.getElem?_append_left l] at hj
      exact .inl hj
    · have l2 := (List.getElem?_eq_some_iff.mp hj).1
      rw [List.length_append] at l2
      have l2 : j < ms.length + 1 := l2
      have e2 : j = ms.length := by omega
      subst e2
      rw [List.getElem?_append_right (Nat.le_refl _), Nat.sub_self] at hj
      exact .inr ⟨rfl, (Option.some.inj hj).symm⟩
  exact {
    nd := List.nodup_append.mpr ⟨b.nd, by simp, fun x hx y hy => by
      rw [List.mem_singleton.mp hy]
      exact ne hx⟩
    src := old b.src
    c0 := (cx (List.mem_of_getElem? b.src)).trans b.c0
    at_ := old b.at_
    mono := fun j k l x y hx hy => by
      rcases inv hx with kx | ⟨e1, ex⟩
      · rcases inv hy with ky | ⟨e2, ey⟩
        · rw [cx (List.mem_of_getElem? kx), cx (List.mem_of_getElem? ky)]
          exact b.mono j k l x y kx ky
        · rw [cx (List.mem_of_getElem? kx), if_pos ey]
          exact b.top x (List.mem_of_getElem? kx)
      · rcases inv hy with ky | ⟨e2, ey⟩
        · have := (List.getElem?_eq_some_iff.mp ky).1
          omega
        · rw [if_pos ex, if_pos ey]
          exact Nat.le_refl _
    top := fun x hx => by
      rw [cx ms_]
      rcases List.mem_append.mp hx with hx | hx
      · rw [cx hx]
        exact b.top x hx
      · rw [if_pos (List.mem_singleton.mp hx)]
        exact Nat.le_refl _
    done := fun j x l hx y hy => by
      have l2 := (List.getElem?_eq_some_iff.mp b.at_).1
      rcases inv hx with hx | ⟨e1, _⟩
      · obtain ⟨k1, k2⟩ := b.done j x l hx y hy
        rw [cx k1, cx (List.mem_of_getElem? hx)]
        exact ⟨List.mem_append_left _ k1, k2⟩
      · omega
    now := fun y hy => by
      rw [List.take_add_one, e] at hy
      rw [cx ms_]
      rcases List.mem_append.mp hy with hy | hy
      · obtain ⟨k1, k2⟩ := b.now y hy
        rw [cx k1]
        exact ⟨List.mem_append_left _ k1, k2⟩
      · have hy : y = z := by simpa using hy
        rw [hy, if_pos rfl]
        exact ⟨List.mem_append_right _ (.head _), Nat.le_refl _⟩
    pre := fun x hx n => by
      rcases List.mem_append.mp hx with hx | hx
      · obtain ⟨j, y, k1, k2, k3, k4⟩ := b.pre x hx n
        exact ⟨j, y, k1, old k2, k3, by rw [cx hx, cx (List.mem_of_getElem? k2)]; exact k4⟩
      · have hx := List.mem_singleton.mp hx
        subst hx
        exact ⟨p, s, Nat.le_refl _, old b.at_, List.mem_of_getElem? e, by rw [if_pos rfl, cx ms_]⟩
    lt := fun x hx => by
      rw [List.length_append]
      rcases List.mem_append.mp hx with hx | hx
      · rw [cx hx]
        exact Nat.lt_succ_of_lt (b.lt x hx)
      · rw [if_pos (List.mem_singleton.mp hx)]
        exact Nat.succ_lt_succ (b.lt s ms_) }
theorem BIn.finish {nb : Str → List Str} {h s : Str} {ms : List Str} {c : Str → Nat} {p : Nat} (b : BIn nb h s ms c p (nb s).length) : BInv nb h ms c (p + 1) where
  nd := b.nd
  src := b.src
  c0 := b.c0
  mono := b.mono
  top := fun t e x hx => Nat.le_trans (b.top x hx) (Nat.succ_le_succ (b.mono p (p + 1) (Nat.le_succ _) s t b.at_ e))
  done := fun i x l e y hy => by
    by_cases l2 : i < p
    · exact b.done i x l2 e y hy
    · have e2 : i = p := by omega
      subst e2
      have e3 : x = s := Option.some.inj (e.symm.trans b.at_)
      subst e3
      exact b.now y (by rw [List.take_length]; exact hy)
  pre := fun x hx n => by
    obtain ⟨j, y, h1, h2⟩ := b.pre x hx n
    exact ⟨j, y, Nat.lt_succ_of_le h1, h2⟩
  lt := b.lt
/-- what the search has found: the houses ms that are met from h on, and their least counts of steps -/
structure Bfs (nb : Str → List Str) (h : Str) (ms : List Str) (c : Str → Nat) : Prop where
  nd : ms.Nodup
  src : h ∈ ms
  c0 : c h = 0
  cl : ∀ x ∈ ms, ∀ y ∈ nb x, y ∈ ms ∧ c y ≤ c x + 1
  pre : ∀ x ∈ ms, x ≠ h → ∃ y ∈ ms, x ∈ nb y ∧ c x = c y + 1
  lt : ∀ x ∈ ms, c x < ms.length
theorem BInv.all {nb : Str → List Str} {h : Str} {ms : List Str} {c : Str → Nat} {p : Nat} (b : BInv nb h ms c p) (l : ms.length ≤ p) : Bfs nb h ms c where
  nd := b.nd
  src := List.mem_of_getElem? b.src
  c0 := b.c0
  cl := fun x hx y hy => by
    obtain ⟨i, e⟩ := List.mem_iff_getElem?.mp hx
    exact b.done i x (Nat.lt_of_lt_of_le (List.getElem?_eq_some_iff.mp e).1 l) e y hy
  pre := fun x hx n => by
    obtain ⟨j, y, _, h2, h3⟩ := b.pre x hx n
    exact ⟨y, List.mem_of_getElem? h2, h3⟩
  lt := b.lt
/-- the met houses are within what their neighbours are within -/
theorem BIn.sub {nb : Str → List Str} {zs : List Str} {h s : Str} {ms : List Str} {c : Str → Nat} {p i : Nat} (b : BIn nb h s ms c p i) (hh : h ∈ zs) (hn : ∀ x, ∀ y ∈ nb x, y ∈ zs) : ∀ x ∈ ms, x ∈ zs := fun x hx => by
  by_cases e : x = h
  · rw [e]; exact hh
  · obtain ⟨j, y, _, _, k, _⟩ := b.pre x hx e
    exact hn y x k
theorem BInv.sub {nb : Str → List Str} {zs : List Str} {h : Str} {ms : List Str} {c : Str → Nat} {p : Nat} (b : BInv nb h ms c p) (hh : h ∈ zs) (hn : ∀ x, ∀ y ∈ nb x, y ∈ zs) : ∀ x ∈ ms, x ∈ zs := fun x hx => by
  by_cases e : x = h
  · rw [e]; exact hh
  · obtain ⟨j, y, _, _, k, _⟩ := b.pre x hx e
    exact hn y x k
end
end Kj
namespace Kj
open PySem PySem.Spec PyProof.Rows L2 Rd
local macro_rules | `(tactic| walk_at "hp") => `(tactic| first
  | assumption
  | exact upd_same
  | (refine Eq.trans (upd_ne (by first | assumption | (apply Ne.symm; assumption))) ?_; walk_at "hp"))
local macro_rules | `(tactic| walk_at "sq") => `(tactic| first
  | assumption
  | (refine Or.inl (Or.inl ?_); walk_at "hp"))
local macro_rules | `(tactic| walk_at "st") => `(tactic| first
  | assumption
  | (refine Or.inl (Or.inl ?_); walk_at "hp"))
local macro_rules | `(tactic| walk_at "ar") => `(tactic| first
  | assumption
  | omega
  | decide)
local macro_rules | `(tactic| walk_at "ci") => `(tactic| first
  | (refine (show CMul _ _ from Or.inr ⟨?_, ?_⟩) <;> omega)
  | (refine (show CMul _ _ from Or.inl ⟨?_, ?_⟩) <;> omega)
  | (show CPow _ _; exact ⟨by decide, by decide, by decide⟩)
  | (refine wide_div (b := 63) ?_ ?_ (by decide) (by decide) <;> omega)
  | (show (0 : Int) < _; omega))
local macro_rules | `(tactic| walk_at "ty") => `(tactic| first
  | exact dp_ty (by assumption)
  | exact TyX.base (TyOf.int _)
  | exact TyX.base (TyOf.str _)
  | exact TyX.base (TyOf.bl _)
  | exact TyX.base TyOf.non
  | exact tyL' (by walk_at "sq")
  | exact tyT' (by walk_at "st"))
local macro_rules | `(tactic| walk_at "isi") => `(tactic| first
  | ((with_reducible apply Rd.isiF); (walk_at "ty"); (decide))
  | ((with_reducible apply Rd.isiT); (walk_at "ty"); (decide)))
local macro_rules | `(tactic| walk_at "rd") => `(tactic| first
  | with_reducible apply Rd.seq
  | ((with_reducible apply Rd.var); rfl)
  | with_reducible apply Rd.con
  | with_reducible apply Rd.op
  | with_reducible apply Rd.asg
  | ((with_reducible apply Rd.gname); ((dsimp only [List.set, L2.wipe, Int.reduceToNat]) <;> rfl))
  | with_reducible apply Rd.nxt
  | with_reducible apply Rd.ifs
  | with_reducible apply Rd.test
  | with_reducible apply Rd.testB
  | with_reducible apply Rd.exbl
  | with_reducible apply Rd.ret
  | with_reducible apply Rd.drop
  | with_reducible apply Rd.retN
  | with_reducible apply Rd.nil
  | with_reducible apply Rd.cons
  | with_reducible apply Rd.call
  | with_reducible apply Rd.cb
  | with_reducible apply Rd.and
  | with_reducible apply Rd.or
  | with_reducible apply Rd.not
  | with_reducible apply Rd.andV
  | with_reducible apply Rd.orV
  | with_reducible apply Rd.notV
  | with_reducible apply Rd.ife
  | with_reducible apply Rd.tup
  | with_reducible apply Rd.lst
  | with_reducible apply Rd.un
  | with_reducible apply Rd.chain
  | with_reducible apply Rd.brk
  | with_reducible apply Rd.cnt
  | with_reducible apply Rd.I0
  | with_reducible apply Rd.U1
  | ((with_reducible apply Rd.eq); rfl)
  | ((with_reducible apply Rd.ne); rfl)
  | ((with_reducible apply Rd.I1); (walk_at "ci"))
  | with_reducible apply Rd.lc0
  | with_reducible apply Rd.ln0
  | with_reducible apply Rd.exN
  | ((with_reducible apply Rd.iteSf); (decide +kernel))
  | ((with_reducible apply Rd.iteSt); (decide +kernel))
  | ((with_reducible apply Rd.niQ); (exact Or.inl (by walk_at "sq")); (exact ⟨rfl, rfl⟩); (rfl))
  | ((with_reducible apply Rd.inQ); (exact Or.inl (by walk_at "sq")); (exact ⟨rfl, rfl⟩); (rfl))
  | with_reducible apply Rd.rn1
  | with_reducible apply Rd.in1
  | with_reducible apply Rd.sn1
  | with_reducible apply Rd.bn1
  | with_reducible apply Rd.nn1
  | with_reducible apply Rd.rn2
  | with_reducible apply Rd.in2
  | with_reducible apply Rd.sn2
  | with_reducible apply Rd.bn2
  | with_reducible apply Rd.nn2
  | with_reducible apply Rd.nt1
  | with_reducible apply Rd.nf1
  | (with_reducible refine Rd.iteI (fun _ => ?_) (fun _ => ?_))
  | (with_reducible refine Rd.iteNI (fun _ => ?_) (fun _ => ?_))
  | (with_reducible refine iteT ?_)
  | (with_reducible refine iteF ?_)
  | (with_reducible refine Rd.iteD (fun _ => ?_) (fun _ => ?_))
  | (with_reducible refine Rd.iteN (fun _ => ?_) (fun _ => ?_))
  | with_reducible apply Rd.intI
  | with_reducible apply Rd.intB
  | with_reducible apply Rd.maxQ
  | with_reducible apply Rd.minQ
  | with_reducible apply Rd.absQ
  | with_reducible apply Rd.isN
  | with_reducible apply Rd.noN
  | with_reducible apply Rd.ltZ
  | with_reducible apply Rd.bm
  | with_reducible apply Rd.bm0
  | with_reducible apply Rd.par
  | with_reducible apply Rd.expar
  | with_reducible apply Rd.exint
  | with_reducible apply Rd.ipi
  | with_reducible apply Rd.slice
  | with_reducible apply Rd.noPart
  | with_reducible apply Rd.part
  | with_reducible apply Rd.gcons
  | with_reducible apply Rd.gnil
  | with_reducible apply Rd.iseq
  | with_reducible apply Rd.irng1
  | walk_at "isi"
  | with_reducible apply Rd.forX
  | with_reducible apply Rd.lstRev
  | with_reducible apply Rd.lstRg
  | with_reducible apply Rd.rg1
  | with_reducible apply Rd.rg2
  | with_reducible apply Rd.exint2
  | ((with_reducible apply Rd.exrev); (walk_at "sq"))
  | with_reducible apply Rd.lcX
  | with_reducible apply Rd.yes
  | ((with_reducible apply Rd.exrng1); (constructor <;> omega))
  | ((with_reducible apply Rd.exrng2); (refine ⟨?_, ?_, ?_, ?_⟩ <;> omega))
  | with_reducible apply Rd.irng2
  | ((with_reducible apply Rd.aug); rfl)
  | ((with_reducible apply Rd.exlst); (walk_at "sq"))
  | ((with_reducible apply Rd.gtup); (walk_at "st"); (rfl))
  | ((with_reducible apply Rd.tyL); (walk_at "hp"))
  | ((with_reducible apply Rd.ixL); (walk_at "sq"); (rfl))
  | ((with_reducible apply Rd.ixI); (walk_at "sq"); (omega); (first | assumption | (simp only [List.length_map]; omega)); (intro _ _))
  | (with_reducible refine Rd.gsub ?_)
  | ((with_reducible apply Rd.setL); (walk_at "hp"); (rfl); ((dsimp only [List.set, L2.wipe, Int.reduceToNat]) <;> rfl))
  | ((with_reducible apply Rd.lenQ); (first | exact Or.inl (by walk_at "sq") | exact Or.inr (by walk_at "st")))
  | ((with_reducible apply Rd.listQ); (first | exact Or.inl (by walk_at "sq") | exact Or.inr (by walk_at "st")))
  | ((with_reducible apply Rd.tupQ); (walk_at "sq"))
  | ((with_reducible apply Rd.slL); (walk_at "sq"))
  | ((with_reducible apply Rd.ixT); (walk_at "st"); (rfl))
  | (with_reducible refine Rd.iteB (fun _ => ?_) (fun _ => ?_))
  | (with_reducible refine Rd.iteNB (fun _ => ?_) (fun _ => ?_))
  | (refine Rd.andI (Nat.le_of_ble_eq_true rfl) ?_)
  | dsimp only [List.set])
local macro_rules | `(tactic| walk_at "hp") => `(tactic| first
  | assumption
  | exact upd_same
  | (refine Eq.trans (upd_ne (by first | assumption | (apply Ne.symm; assumption))) ?_; walk_at "hp")
  | (refine hpS (by assumption) ?_; walk_at "hp"))
local macro_rules | `(tactic| walk_at "al") => `(tactic| (with_reducible intro l hl; generalize hG : upd _ l _ = G; have hs := newOne hl hG; clear hG; obtain ⟨hs, he⟩ := hs))
local macro_rules | `(tactic| walk_at "rd") => `(tactic| first
  | walk_at "al"
  | ((with_reducible apply Rd.cat); (walk_at "hp"); (walk_at "hp"); (exact Nat.le_of_ble_eq_true rfl)))
local macro_rules | `(tactic| walk_at "sm") => `(tactic| first
  | assumption
  | exact Same.refl _
  | (refine Same.trans ?_ (by assumption); walk_at "sm"))
local macro_rules | `(tactic| walk_at "fr") => `(tactic| first
  | assumption
  | (refine Same.free (by assumption) ?_; walk_at "fr"))
local macro_rules | `(tactic| walk_at "ty") => `(tactic| first
  | exact dv_ty (by assumption)
  | exact tyD' (by walk_at "hp"))
local macro_rules | `(tactic| walk_at "sz") => `(tactic| first
  | exact sz5 (by omega)
  | (simp only [add_len, one_len]; exact sz5 (by omega)))
local macro_rules | `(tactic| walk_at "rd") => `(tactic| first
  | with_reducible apply Rd.istr
  | with_reducible apply Rd.exstr
  | with_reducible apply Rd.leA
  | with_reducible apply Rd.leZz
  | with_reducible apply Rd.le0
  | with_reducible apply Rd.le9
  | with_reducible apply Rd.niZ
  | ((with_reducible apply Rd.lenZ); (walk_at "sz"))
  | ((with_reducible apply Rd.slZ); (walk_at "sz"))
  | ((with_reducible apply Rd.addZ); (walk_at "sz"))
  | with_reducible apply Rd.raiseX
  | with_reducible apply Rd.exone
  | with_reducible apply Rd.callS
  | with_reducible apply Rd.callP
  | with_reducible apply Rd.xsX
  | with_reducible apply Rd.dnewX
  | with_reducible apply Rd.tyZ)
local macro_rules | `(tactic| walk_at "rd") => `(tactic| first
  | with_reducible apply Rd.seq
  | ((with_reducible apply Rd.var); rfl)
  | with_reducible apply Rd.con
  | with_reducible apply Rd.op
  | with_reducible apply Rd.cons
  | with_reducible apply Rd.nil
  | with_reducible apply Rd.asg
  | ((with_reducible apply Rd.gname); ((dsimp only [List.set, L2.wipe, Int.reduceToNat]) <;> rfl))
  | with_reducible apply Rd.nxt
  | with_reducible apply Rd.ifs
  | with_reducible apply Rd.test
  | with_reducible apply Rd.ret
  | with_reducible apply Rd.call
  | with_reducible apply Rd.cb)
open Ty Ln
section
variable {P : Program} {w : World} {K : PySem.W.Frag} {mg : Str → Option Value} {base : Heap} {D : Str → Addr}
/-- the steps from y: line and other end, in the order of the lines -/
def stepsOf (kt : List (Str × Str × Str)) (y : Str) : List (Str × Str) := kt.flatMap fun t => (if t.2.1 = y then [(t.1, t.2.2)] else []) ++ (if t.2.2 = y then [(t.1, t.2.1)] else [])
def pr (q : Str × Str) : List Str := [q.1, q.2]
theorem stepsOf_add (kt : List (Str × Str × Str)) (t : Str × Str × Str) (y : Str) : stepsOf (kt ++ [t]) y = stepsOf kt y ++ ((if t.2.1 = y then [(t.1, t.2.2)] else []) ++ (if t.2.2 = y then [(t.1, t.2.1)] else [])) := by
  unfold stepsOf
  rw [List.flatMap_append]
  simp
theorem stepsOf_mem {kt : List (Str × Str × Str)} {y : Str} {q : Str × Str} : q ∈ stepsOf kt y ↔ ∃ t ∈ kt, t.1 = q.1 ∧ ((t.2.1 = y ∧ t.2.2 = q.2) ∨ (t.2.2 = y ∧ t.2.1 = q.2)) := by
  unfold stepsOf
  rw [List.mem_flatMap]
  constructor
  · rintro ⟨t, m, h⟩
    rcases List.mem_append.mp h with h | h
    · by_cases e : t.2.1 = y
      · rw [if_pos e] at h
        rw [List.mem_singleton.mp h]
        exact ⟨t, m, rfl, .inl ⟨e, rfl⟩⟩
      · rw [if_neg e] at h
        cases h
    · by_cases e : t.2.2 = y
      · rw [if_pos e] at h
        rw [List.mem_singleton.mp h]
        exact ⟨t, m, rfl, .inr ⟨e, rfl⟩⟩
      · rw [if_neg e] at h
        cases h
  · obtain ⟨q1, q2⟩ := q
    rintro ⟨t, m, e1, ⟨e, e2⟩ | ⟨e, e2⟩⟩
    · refine ⟨t, m, List.mem_append_left _ ?_⟩
      rw [if_pos e]
      exact List.mem_singleton.mpr (Prod.ext e1.symm e2.symm)
    · refine ⟨t, m, List.mem_append_right _ ?_⟩
      rw [if_pos e]
      exact List.mem_singleton.mpr (Prod.ext e1.symm e2.symm)
/-- at d a dict of the houses ys, each with its list of steps -/
def Adj (H : Hp) (d : Addr) (ys : List Str) (S : Str → List (Str × Str)) : Prop := ∃ f : Str → V, H d = some (.dK (kd ys f)) ∧ ∀ y ∈ ys, ∃ p, f y = .ref p ∧ WL H p ((S y).map pr)
theorem Adj.same {H H' : Hp} {d : Addr} {ys : List Str} {S : Str → List (Str × Str)} (h : Adj H d ys S) (s : Same H H') : Adj H' d ys S := by
  obtain ⟨f, e, a⟩ := h
  refine ⟨f, s _ _ e, fun y m => ?_⟩
  obtain ⟨p, e1, w⟩ := a y m
  exact ⟨p, e1, w.same s⟩
theorem stepsOf_len (kt : List (Str × Str × Str)) (y : Str) : (stepsOf kt y).length ≤ 2 * kt.length := by
  induction kt with
  | nil => exact Nat.zero_le _
  | cons t kt ih =>
    unfold stepsOf at ih ⊢
    rw [List.flatMap_cons, List.length_append, List.length_append, List.length_cons]
    have h1 : (if t.2.1 = y then [(t.1, t.2.2)] else []).length ≤ 1 := by split <;> simp
    have h2 : (if t.2.2 = y then [(t.1, t.2.1)] else []).length ≤ 1 := by split <;> simp
    omega
def untr : List Str → Str × Str × Str
  | [a, b, c] => (a, b, c)
  | _ => ("", "", "")
theorem perm_tr {ks : List (List Str)} {ts : List (Str × Str × Str)} (p : ks.Perm (ts.map tr)) : ∃ kt : List (Str × Str × Str), kt.Perm ts ∧ ks = kt.map tr := by
  refine ⟨ks.map untr, ?_, ?_⟩
  · have := p.map untr
    rw [List.map_map] at this
    refine this.trans (List.Perm.of_eq ?_)
    conv => rhs; rw [← List.map_id ts]
    exact List.map_congr_left fun t _ => rfl
  · rw [List.map_map]
    conv => lhs; rw [← List.map_id ks]
    refine List.map_congr_left fun k hk => ?_
    obtain ⟨t, _, rfl⟩ := List.mem_map.mp (p.mem_iff.mp hk)
    rfl
/-- the line stays, if the line v is left out -/
def keepL (v : V) (t : Str × Str × Str) : Bool := !decide (V.str t.1 = v)
theorem noneOf {H G : Hp} {b : Addr} (s : Same H G) (n : G b = none) : H b = none := by
  cases c : H b with
  | none => rfl
  | some o =>
    rw [s _ _ c] at n
    cases n
theorem turnO {g : TG} {tt : TT} {tk tv : TE} {vs : List Nat} {σ : L2.St} {L : Addr} {y : Str} {h : Hp} (q : ∀ Nx : Hp → Prop, (∀ p G, h p = none → Same h G → G p = some (.lst []) → ∃ (kvs : List (Key × V)) (k : Key), V.str y = kV k ∧ G L = some (.dK kvs) ∧ kvs.length < sizeLine ∧ Nx (upd G L (.dK (putK kvs k (.ref p))))) →
    g (.str y) (wipe σ vs) h fun σ2 h2 => wipe σ2 vs = wipe σ vs ∧ tt σ2 h2 fun k h3 => if k = true then tk σ2 h3 fun y h4 => tv σ2 h4 fun z h5 => ∃ (kvs : List (Key × V)) (k : Key), y = kV k ∧ h5 L = some (.dK kvs) ∧ kvs.length < sizeLine ∧ Nx (upd h5 L (.dK (putK kvs k z))) else Nx h3) : TurnO g tt tk tv vs σ L y h := q
/-- while the lists are filled: each of ys has its own, which was not there before; b is kept if it is none of them -/
structure Fill (H H1 G : Hp) (d : Addr) (ys : List Str) (a : Str → Addr) (S : Str → List (Str × Str)) : Prop where
  s : Same H G
  kp : ∀ b o, (∀ y ∈ ys, b ≠ a y) → H1 b = some o → G b = some o
  e : G d = some (.dK (kd ys fun y => .ref (a y)))
  inj : ∀ y ∈ ys, ∀ z ∈ ys, a y = a z → y = z
  off : ∀ y ∈ ys, H (a y) = none ∧ a y ≠ d
  at_ : ∀ y ∈ ys, WL G (a y) ((S y).map pr)
theorem Fill.same {H H1 G F : Hp} {d : Addr} {ys : List Str} {a : Str → Addr} {S : Str → List (Str × Str)} (f : Fill H H1 G d ys a S) (s : Same G F) : Fill H H1 F d ys a S :=
  ⟨f.s.trans s, fun b o n e => s _ _ (f.kp b o n e), s _ _ f.e, f.inj, f.off, fun y m => (f.at_ y m).same s⟩
theorem Fill.put {H H1 G : Hp} {d T : Addr} {ys : List Str} {a : Str → Addr} {S : Str → List (Str × Str)} (f : Fill H H1 G d ys a S) {y : Str} (my : y ∈ ys) {vs : List V} (ev : G (a y) = some (.lst vs)) {q : Str × Str} (oq : OkW (pr q)) (eT : G T = some (.tup ((pr q).map V.str))) :
    Fill H H1 (upd G (a y) (.lst (vs ++ [.ref T]))) d ys a (fun z => if z = y then S z ++ [q] else S z) := by
  obtain ⟨vs', ev', wv⟩ := f.at_ y my
  rw [ev] at ev'
  cases ev'
  refine ⟨fun b o e => (upd_ne (ne_of_none e (f.off y my).1)).trans (f.s _ _ e), fun b o n e => (upd_ne (n y my)).trans (f.kp b o n e), (upd_ne (f.off y my).2.symm).trans f.e, f.inj, f.off, fun z mz => ?_⟩
  by_cases e : z = y
  · subst e
    rw [if_pos rfl, List.map_append]
    exact ⟨_, upd_same, wvs_put ev (wv.app ⟨⟨oq, T, rfl, eT⟩, trivial⟩)⟩
  · rw [if_neg e]
    obtain ⟨us, eu, wu⟩ := f.at_ z mz
    exact ⟨us, (upd_ne fun c => e (f.inj z mz y my c)).trans eu, wvs_put ev wu⟩
theorem Fill.congr {H H1 G : Hp} {d : Addr} {ys : List Str} {a : Str → Addr} {S S' : Str → List (Str × Str)} (f : Fill H H1 G d ys a S) (h : ∀ y ∈ ys, S y = S' y) : Fill H H1 G d ys a S' :=
  ⟨f.s, f.kp, f.e, f.inj, f.off, fun y m => h y m ▸ f.at_ y m⟩
theorem dgetXs {td ty : TE} {σ : L2.St} {H : Hp} {Q : VK} (h : td σ H fun x H1 => ty σ H1 fun y H2 => ∃ a v, x = .ref a ∧ DGet H2 a y (some v) ∧ Q v H2) : tDGet td ty σ H Q := h
/-- steps_of(web, without) -/
def spSteps (K : PySem.W.Frag) (C : Addr) : Sp := fun vs H Q _ => ∃ (g : Addr) (zs : List Str) (ts : List (Str × Str × Str)) (v : V), vs = [.ref g, v] ∧ WebAt H C g zs ts ∧ LinesOk zs ts ∧ zs.length ≤ 1000 ∧ ts.length ≤ 1000 ∧ zs.Nodup ∧ (∀ z ∈ zs, NmS z) ∧ (v = .non ∨ ∃ n, v = .str n) ∧
  ∀ (d : Addr) (ys : List Str) (kt : List (Str × Str × Str)) (H' : Hp), ys.Perm zs → sortedS ys = true → kt.Perm ts → SrtW (kt.map tr) → H d = none → Same H H' → Adj H' d ys (stepsOf (kt.filter (keepL v))) → Q (.ref d) H'
local macro_rules | `(tactic| walk_at "rd") => `(tactic| first
  | with_reducible apply Rd.dcX
  | with_reducible apply Kj.dgetXs
  | with_reducible apply Kj.propX)
theorem ok_steps_of (F : Def K mg "steps_of" s_steps_of P_steps_of) (KW_Web : ClsF K mg D "Web" ["_houses", "_ends", "_lines"]) (C_Web_lines : CalR P w K mg base 2 (PropR K (D "Web") "lines") P_Web_lines (spWLines (D "Web"))) (C_Web_houses : CalR P w K mg base 2 (PropR K (D "Web") "houses") P_Web_houses (spWHouses (D "Web"))) : Cal P w K mg base 4 "steps_of" P_steps_of (spSteps K (D "Web")) := by
  refine F.ok sc_steps_of (fun vs H Q E h => ?_) (fun f cdv A outer s H vs Q E hr h => ?_)
  · obtain ⟨g, zs, ts, v, rfl, _⟩ := h
    rfl
  obtain ⟨g, zs, ts, v, rfl, wa, lo, lz, lt, nd, mz, hv, q⟩ := h
  refine ⟨_, (pss_cons (ps_setDc (i := 2) (own := [("house", 6)]) (by rfl) sc_steps_of.nd rfl rfl (sw_dict rfl rfl rfl (by decide +kernel)) (pi_list (pe_propR C_Web_houses (pv 0 (hd := nd_web) (hcd := nc_web)) KW_Web.cl hr)) (blkOk_by (N := N_steps_of) (sc := defScope s_steps_of) (by decide +kernel)) (fun _ _ _ _ _ => (pg_name (i := 6) sc_steps_of.nd rfl (Or.inl rfl))) (fun _ _ _ _ _ => pts_nil) (fun _ _ _ _ _ => (pv 6 (hd := nd_house) (hcd := nc_house))) (fun _ _ _ _ _ => (pe_lst pa_nil)))
  (pss_cons (ps_for PassesOwn.never rfl (pi_list (pe_propR C_Web_lines (pv 0 (hd := nd_web) (hcd := nc_web)) KW_Web.cl hr)) (pg_tup (by rfl) (pgs_cons (pg_name (i := 3) sc_steps_of.nd rfl (Or.inl rfl)) (pgs_cons (pg_name (i := 4) sc_steps_of.nd rfl (Or.inl rfl)) (pgs_cons (pg_name (i := 5) sc_steps_of.nd rfl (Or.inl rfl)) pgs_nil)))) (pss_one (ps_if (pt_cmpR op_ne (pv 3 (hd := nd_line) (hcd := nc_line)) (pv 1 (hd := nd_without) (hcd := nc_without)) (nomark _)) (pss_cons (ps_expr (pe_bm PySem.F.plainAttrs_list PySem.F.slot_list_append PySem.F.type_list_append mt_append (pe_dget (un1 hr) (pv 2 (hd := nd_steps) (hcd := nc_steps)) (pv 4 (hd := nd_low) (hcd := nc_low)) (fun _ _ => rfl)) (pa_cons (pe_tup (pa_cons (pv 3 (hd := nd_line) (hcd := nc_line)) (pa_cons (pv 5 (hd := nd_high) (hcd := nc_high)) pa_nil))) pa_nil)))
  (pss_one (ps_expr (pe_bm PySem.F.plainAttrs_list PySem.F.slot_list_append PySem.F.type_list_append mt_append (pe_dget (un1 hr) (pv 2 (hd := nd_steps) (hcd := nc_steps)) (pv 5 (hd := nd_high) (hcd := nc_high)) (fun _ _ => rfl)) (pa_cons (pe_tup (pa_cons (pv 3 (hd := nd_line) (hcd := nc_line)) (pa_cons (pv 4 (hd := nd_low) (hcd := nc_low)) pa_nil))) pa_nil))))) pss_nil)))
  (pss_one (ps_ret (pv 2 (hd := nd_steps) (hcd := nc_steps)))))), ?_⟩
  refine Rd.at0 (σ := [some (.ref g), some v, none, none, none, none, none]) rfl ?_
  obtain ⟨dx, g1, d1, l1, ys0, ks0, f1, ea, rst⟩ := id wa
  repeat' (walk_at "rd")
  refine ⟨g, dx, _, rfl, ea, g, zs, ts, rfl, wa, lz, fun L ys H1 py sy nL s1 eL => ?_⟩
  repeat' (walk_at "rd")
  refine dcO ys (.inl (.inl eL)) (by rw [py.length_eq]; omega) (py.nodup_iff.mpr nd) (fun Ld y h my nLd sh ho => turnO fun Nx yes => ?_) fun d a G nd' dc => ?_
  · repeat' (walk_at "rd")
    refine ⟨rfl, ?_⟩
    repeat' (walk_at "rd")
    rename_i p np G2 s2 e2
    exact yes p G2 np s2 e2
  have s1G : Same H G := s1.trans dc.s
  have waG := wa.same s1G
  obtain ⟨dx2, g2, d2, l2, ys2, ks2, f2, ea2, rst2⟩ := id waG
  have nd0 : H d = none := noneOf s1 nd'
  repeat' (walk_at "rd")
  refine ⟨g, dx2, _, rfl, ea2, g, zs, ts, rfl, waG, fun L2 ks H2 pk sk nL2 s2 wl => ?_⟩
  obtain ⟨kt, pt, rfl⟩ := perm_tr pk
  obtain ⟨ls, els, hls⟩ := wl
  have eay : ∀ y ∈ ys, H2 (a y) = some (.lst []) := fun y m => s2 _ _ (dc.at_ y m).2.2
  have fill0 : Fill H H2 H2 d ys a (stepsOf ((kt.take 0).filter (keepL v))) := ⟨s1G.trans s2, fun _ _ _ e => e, s2 _ _ dc.e, dc.inj, fun y m => ⟨noneOf s1 (dc.at_ y m).1, (dc.at_ y m).2.1⟩, fun y m => ⟨[], eay y m, trivial⟩⟩
  have nL2a : ∀ y ∈ ys, L2 ≠ a y := fun y m e => by
    rw [e, (dc.at_ y m).2.2] at nL2
    cases nL2
  have lkt : kt.length ≤ 1000 := by rw [pt.length_eq]; exact lt
  repeat' (walk_at "rd")
  refine forL ls (fun i σ H' => ∃ v3 v4 v5 v6 : Option V, σ = [some (.ref g), some v, some (.ref d), v3, v4, v5, v6] ∧ Fill H H2 H' d ys a (stepsOf ((kt.take i).filter (keepL v)))) ⟨_, _, _, _, rfl, fill0⟩ (fun _ _ _ _ ⟨_, _, _, _, _, fl⟩ => .inl (.inl (fl.kp _ _ nL2a els))) ?_ ?_
  · rintro i x σ H' hx ⟨v3, v4, v5, v6, rfl, fl⟩
    obtain ⟨k, ek, ok, t, rfl, et⟩ := hls.at hx
    rw [List.getElem?_map] at ek
    obtain ⟨u, eu, rfl⟩ := Option.map_eq_some_iff.mp ek
    have mu : u ∈ ts := pt.mem_iff.mp (List.mem_of_getElem? eu)
    have et' : H' t = some (.tup [.str u.1, .str u.2.1, .str u.2.2]) := fl.kp t _ (fun y my e => by rw [e, eay y my] at et; cases et) et
    have tk : kt.take (i + 1) = kt.take i ++ [u] := by rw [List.take_add_one, eu]; rfl
    have en := lo.en u mu
    have mlow : u.2.1 ∈ ys := py.mem_iff.mpr en.1
    have mhigh : u.2.2 ∈ ys := py.mem_iff.mpr en.2.1
    have nlh : u.2.1 ≠ u.2.2 := fun e => by
      have := en.2.2
      rw [e] at this
      exact List.lt_irrefl _ this
    have sc : scal (.str u.1) v = true := by rcases hv with rfl | ⟨n, rfl⟩ <;> rfl
    have ln : ∀ y, (stepsOf ((kt.take i).filter (keepL v)) y).length ≤ 2000 := fun y => by
      have h1 := stepsOf_len ((kt.take i).filter (keepL v)) y
      have h2 := List.length_filter_le (keepL v) (kt.take i)
      rw [List.length_take] at h2
      omega
    repeat' (walk_at "rd")
    refine Rd.ne sc ?_
    by_cases e : V.str u.1 = v
    · rw [decide_eq_true e]
      repeat' (walk_at "rd")
      refine ⟨_, _, _, _, rfl, ?_⟩
      have ke : keepL v u = false := by unfold keepL; rw [decide_eq_true e]; rfl
      rw [tk, List.filter_append, List.filter_cons_of_neg (by rw [ke]; exact Bool.noConfusion)]
      rw [List.filter_nil, List.append_nil]
      exact fl
    · rw [decide_eq_false e]
      have ke : keepL v u = true := by unfold keepL; rw [decide_eq_false e]; rfl
      have tf : (kt.take (i + 1)).filter (keepL v) = (kt.take i).filter (keepL v) ++ [u] := by rw [tk, List.filter_append, List.filter_cons_of_pos ke]; rfl
      generalize (kt.take i).filter (keepL v) = kp at *
      repeat' (walk_at "rd")
      refine ⟨d, _, rfl, .inl ⟨_, Sum.inr u.2.1, .inl fl.e, rfl, (kd_get mlow).symm⟩, ?_⟩
      obtain ⟨w1, ew0, hw1⟩ := fl.at_ _ mlow
      repeat' (walk_at "rd")
      rename_i T1 nT1 G1 sG1 eT1
      have fl1 := fl.same sG1
      have ew1 := sG1 _ _ ew0
      have lw1 : w1.length ≤ 2000 := by rw [hw1.len, List.length_map]; exact ln _
      refine append ew1 (by exact sz5' (by omega)) ?_
      have o1 : OkW (pr (u.1, u.2.2)) := fun z hz => by
        have hz : z = u.1 ∨ z = u.2.2 := by simpa [pr] using hz
        rcases hz with rfl | rfl
        · exact nm_ok (lo.nm u mu)
        · exact nm_ok (mz _ en.2.1)
      have o2 : OkW (pr (u.1, u.2.1)) := fun z hz => by
        have hz : z = u.1 ∨ z = u.2.1 := by simpa [pr] using hz
        rcases hz with rfl | rfl
        · exact nm_ok (lo.nm u mu)
        · exact nm_ok (mz _ en.1)
      have fl2 := fl1.put mlow ew1 o1 eT1
      generalize upd G1 (a u.2.1) (.lst (w1 ++ [.ref T1])) = G2 at fl2 ⊢
      clear fl1 fl ew1 ew0 hw1 eT1 sG1 nT1 et'
      repeat' (walk_at "rd")
      refine ⟨d, _, rfl, .inl ⟨_, Sum.inr u.2.2, .inl fl2.e, rfl, (kd_get mhigh).symm⟩, ?_⟩
      obtain ⟨w2, ew00, hw2⟩ := fl2.at_ _ mhigh
      repeat' (walk_at "rd")
      rename_i T2 nT2 G3 sG3 eT2
      have fl3 := fl2.same sG3
      have ew2 := sG3 _ _ ew00
      have lw2 : w2.length ≤ 2000 := by rw [hw2.len, List.length_map, if_neg (Ne.symm nlh)]; exact ln _
      refine append ew2 (by exact sz5' (by omega)) ?_
      have fl4 := fl3.put mhigh ew2 o2 eT2
      repeat' (walk_at "rd")
      refine ⟨_, _, _, _, rfl, fl4.congr fun y my => ?_⟩
      rw [tf, stepsOf_add]
      by_cases c1 : y = u.2.1
      · subst c1
        rw [if_neg nlh, if_pos rfl, if_pos rfl, if_neg (Ne.symm nlh), List.append_nil]
      · by_cases c2 : y = u.2.2
        · subst c2
          rw [if_pos rfl, if_neg (Ne.symm nlh), if_neg nlh, if_pos rfl, List.nil_append]
        · rw [if_neg c2, if_neg c1, if_neg (Ne.symm c1), if_neg (Ne.symm c2), List.append_nil, List.append_nil]
  · rintro σ H' ⟨v3, v4, v5, v6, rfl, fl⟩
    have lls : ls.length = kt.length := by rw [hls.len, List.length_map]
    rw [lls, List.take_length] at fl
    repeat' (walk_at "rd")
    exact q d ys kt H' py sy pt sk nd0 fl.s ⟨_, fl.e, fun y m => ⟨a y, rfl, fl.at_ y m⟩⟩
end
end Kj
namespace Kj
open PySem PySem.Spec PyProof.Rows L2 Rd
local macro_rules | `(tactic| walk_at "hp") => `(tactic| first
  | assumption
  | exact upd_same
  | (refine Eq.trans (upd_ne (by first | assumption | (apply Ne.symm; assumption))) ?_; walk_at "hp"))
local macro_rules | `(tactic| walk_at "sq") => `(tactic| first
  | assumption
  | (refine Or.inl (Or.inl ?_); walk_at "hp"))
local macro_rules | `(tactic| walk_at "st") => `(tactic| first
  | assumption
  | (refine Or.inl (Or.inl ?_); walk_at "hp"))
local macro_rules | `(tactic| walk_at "ar") => `(tactic| first
  | assumption
  | omega
  | decide)
local macro_rules | `(tactic| walk_at "ci") => `(tactic| first
  | (refine (show CMul _ _ from Or.inr ⟨?_, ?_⟩) <;> omega)
  | (refine (show CMul _ _ from Or.inl ⟨?_, ?_⟩) <;> omega)
  | (show CPow _ _; exact ⟨by decide, by decide, by decide⟩)
  | (refine wide_div (b := 63) ?_ ?_ (by decide) (by decide) <;> omega)
  | (show (0 : Int) < _; omega))
local macro_rules | `(tactic| walk_at "ty") => `(tactic| first
  | exact dp_ty (by assumption)
  | exact TyX.base (TyOf.int _)
  | exact TyX.base (TyOf.str _)
  | exact TyX.base (TyOf.bl _)
  | exact TyX.base TyOf.non
  | exact tyL' (by walk_at "sq")
  | exact tyT' (by walk_at "st"))
local macro_rules | `(tactic| walk_at "isi") => `(tactic| first
  | ((with_reducible apply Rd.isiF); (walk_at "ty"); (decide))
  | ((with_reducible apply Rd.isiT); (walk_at "ty"); (decide)))
local macro_rules | `(tactic| walk_at "rd") => `(tactic| first
  | with_reducible apply Rd.seq
  | ((with_reducible apply Rd.var); rfl)
  | with_reducible apply Rd.con
  | with_reducible apply Rd.op
  | with_reducible apply Rd.asg
  | ((with_reducible apply Rd.gname); ((dsimp only [List.set, L2.wipe, Int.reduceToNat]) <;> rfl))
  | with_reducible apply Rd.nxt
  | with_reducible apply Rd.ifs
  | with_reducible apply Rd.test
  | with_reducible apply Rd.testB
  | with_reducible apply Rd.exbl
  | with_reducible apply Rd.ret
  | with_reducible apply Rd.drop
  | with_reducible apply Rd.retN
  | with_reducible apply Rd.nil
  | with_reducible apply Rd.cons
  | with_reducible apply Rd.call
  | with_reducible apply Rd.cb
  | with_reducible apply Rd.and
  | with_reducible apply Rd.or
  | with_reducible apply Rd.not
  | with_reducible apply Rd.andV
  | with_reducible apply Rd.orV
  | with_reducible apply Rd.notV
  | with_reducible apply Rd.ife
  | with_reducible apply Rd.tup
  | with_reducible apply Rd.lst
  | with_reducible apply Rd.un
  | with_reducible apply Rd.chain
  | with_reducible apply Rd.brk
  | with_reducible apply Rd.cnt
  | with_reducible apply Rd.I0
  | with_reducible apply Rd.U1
  | ((with_reducible apply Rd.eq); rfl)
  | ((with_reducible apply Rd.ne); rfl)
  | ((with_reducible apply Rd.I1); (walk_at "ci"))
  | with_reducible apply Rd.lc0
  | with_reducible apply Rd.ln0
  | with_reducible apply Rd.exN
  | ((with_reducible apply Rd.iteSf); (decide +kernel))
  | ((with_reducible apply Rd.iteSt); (decide +kernel))
  | ((with_reducible apply Rd.niQ); (exact Or.inl (by walk_at "sq")); (exact ⟨rfl, rfl⟩); (rfl))
  | ((with_reducible apply Rd.inQ); (exact Or.inl (by walk_at "sq")); (exact ⟨rfl, rfl⟩); (rfl))
  | with_reducible apply Rd.rn1
  | with_reducible apply Rd.in1
  | with_reducible apply Rd.sn1
  | with_reducible apply Rd.bn1
  | with_reducible apply Rd.nn1
  | with_reducible apply Rd.rn2
  | with_reducible apply Rd.in2
  | with_reducible apply Rd.sn2
  | with_reducible apply Rd.bn2
  | with_reducible apply Rd.nn2
  | with_reducible apply Rd.nt1
  | with_reducible apply Rd.nf1
  | (with_reducible refine Rd.iteI (fun _ => ?_) (fun _ => ?_))
  | (with_reducible refine Rd.iteNI (fun _ => ?_) (fun _ => ?_))
  | (with_reducible refine iteT ?_)
  | (with_reducible refine iteF ?_)
  | (with_reducible refine Rd.iteD (fun _ => ?_) (fun _ => ?_))
  | (with_reducible refine Rd.iteN (fun _ => ?_) (fun _ => ?_))
  | with_reducible apply Rd.intI
  | with_reducible apply Rd.intB
  | with_reducible apply Rd.maxQ
  | with_reducible apply Rd.minQ
  | with_reducible apply Rd.absQ
  | with_reducible apply Rd.isN
  | with_reducible apply Rd.noN
  | with_reducible apply Rd.ltZ
  | with_reducible apply Rd.bm
  | with_reducible apply Rd.bm0
  | with_reducible apply Rd.par
  | with_reducible apply Rd.expar
  | with_reducible apply Rd.exint
  | with_reducible apply Rd.ipi
  | with_reducible apply Rd.slice
  | with_reducible apply Rd.noPart
  | with_reducible apply Rd.part
  | with_reducible apply Rd.gcons
  | with_reducible apply Rd.gnil
  | with_reducible apply Rd.iseq
  | with_reducible apply Rd.irng1
  | walk_at "isi"
  | with_reducible apply Rd.forX
  | with_reducible apply Rd.lstRev
  | with_reducible apply Rd.lstRg
  | with_reducible apply Rd.rg1
  | with_reducible apply Rd.rg2
  | with_reducible apply Rd.exint2
  | ((with_reducible apply Rd.exrev); (walk_at "sq"))
  | with_reducible apply Rd.lcX
  | with_reducible apply Rd.yes
  | ((with_reducible apply Rd.exrng1); (constructor <;> omega))
  | ((with_reducible apply Rd.exrng2); (refine ⟨?_, ?_, ?_, ?_⟩ <;> omega))
  | with_reducible apply Rd.irng2
  | ((with_reducible apply Rd.aug); rfl)
  | ((with_reducible apply Rd.exlst); (walk_at "sq"))
  | ((with_reducible apply Rd.gtup); (walk_at "st"); (rfl))
  | ((with_reducible apply Rd.tyL); (walk_at "hp"))
  | ((with_reducible apply Rd.ixL); (walk_at "sq"); (rfl))
  | ((with_reducible apply Rd.ixI); (walk_at "sq"); (omega); (first | assumption | (simp only [List.length_map]; omega)); (intro _ _))
  | (with_reducible refine Rd.gsub ?_)
  | ((with_reducible apply Rd.setL); (walk_at "hp"); (rfl); ((dsimp only [List.set, L2.wipe, Int.reduceToNat]) <;> rfl))
  | ((with_reducible apply Rd.lenQ); (first | exact Or.inl (by walk_at "sq") | exact Or.inr (by walk_at "st")))
  | ((with_reducible apply Rd.listQ); (first | exact Or.inl (by walk_at "sq") | exact Or.inr (by walk_at "st")))
  | ((with_reducible apply Rd.tupQ); (walk_at "sq"))
  | ((with_reducible apply Rd.slL); (walk_at "sq"))
  | ((with_reducible apply Rd.ixT); (walk_at "st"); (rfl))
  | (with_reducible refine Rd.iteB (fun _ => ?_) (fun _ => ?_))
  | (with_reducible refine Rd.iteNB (fun _ => ?_) (fun _ => ?_))
  | (refine Rd.andI (Nat.le_of_ble_eq_true rfl) ?_)
  | dsimp only [List.set])
local macro_rules | `(tactic| walk_at "hp") => `(tactic| first
  | assumption
  | exact upd_same
  | (refine Eq.trans (upd_ne (by first | assumption | (apply Ne.symm; assumption))) ?_; walk_at "hp")
  | (refine hpS (by assumption) ?_; walk_at "hp"))
local macro_rules | `(tactic| walk_at "al") => `(tactic| (with_reducible intro l hl; generalize hG : upd _ l _ = G; have hs := newOne hl hG; clear hG; obtain ⟨hs, he⟩ := hs))
local macro_rules | `(tactic| walk_at "rd") => `(tactic| first
  | walk_at "al"
  | ((with_reducible apply Rd.cat); (walk_at "hp"); (walk_at "hp"); (exact Nat.le_of_ble_eq_true rfl)))
local macro_rules | `(tactic| walk_at "sm") => `(tactic| first
  | assumption
  | exact Same.refl _
  | (refine Same.trans ?_ (by assumption); walk_at "sm"))
local macro_rules | `(tactic| walk_at "fr") => `(tactic| first
  | assumption
  | (refine Same.free (by assumption) ?_; walk_at "fr"))
local macro_rules | `(tactic| walk_at "ty") => `(tactic| first
  | exact dv_ty (by assumption)
  | exact tyD' (by walk_at "hp"))
local macro_rules | `(tactic| walk_at "sz") => `(tactic| first
  | exact sz5 (by omega)
  | (simp only [add_len, one_len]; exact sz5 (by omega)))
local macro_rules | `(tactic| walk_at "rd") => `(tactic| first
  | with_reducible apply Rd.istr
  | with_reducible apply Rd.exstr
  | with_reducible apply Rd.leA
  | with_reducible apply Rd.leZz
  | with_reducible apply Rd.le0
  | with_reducible apply Rd.le9
  | with_reducible apply Rd.niZ
  | ((with_reducible apply Rd.lenZ); (walk_at "sz"))
  | ((with_reducible apply Rd.slZ); (walk_at "sz"))
  | ((with_reducible apply Rd.addZ); (walk_at "sz"))
  | with_reducible apply Rd.raiseX
  | with_reducible apply Rd.exone
  | with_reducible apply Rd.callS
  | with_reducible apply Rd.callP
  | with_reducible apply Rd.xsX
  | with_reducible apply Rd.dnewX
  | with_reducible apply Rd.tyZ)
local macro_rules | `(tactic| walk_at "rd") => `(tactic| first
  | with_reducible apply Rd.seq
  | ((with_reducible apply Rd.var); rfl)
  | with_reducible apply Rd.con
  | with_reducible apply Rd.op
  | with_reducible apply Rd.cons
  | with_reducible apply Rd.nil
  | with_reducible apply Rd.asg
  | ((with_reducible apply Rd.gname); ((dsimp only [List.set, L2.wipe, Int.reduceToNat]) <;> rfl))
  | with_reducible apply Rd.nxt
  | with_reducible apply Rd.ifs
  | with_reducible apply Rd.test
  | with_reducible apply Rd.ret
  | with_reducible apply Rd.call
  | with_reducible apply Rd.cb)
open Ty Ln
section
variable {P : Program} {w : World} {K : PySem.W.Frag} {mg : Str → Option Value} {base : Heap} {D : Str → Addr}
theorem dispX {trs : List (TE × TE)} {σ : L2.St} {H : Hp} {Q : VK} (h : ∀ p, H p = none → tPairs trs σ (upd H p (.dK [])) fun ps H2 => H2 p = some (.dK []) ∧ ∃ kvs : List (Key × V), ps = kvs.map (fun kv => (kV kv.1, kv.2)) ∧ kvs.length ≤ 15 ∧ Q (.ref p) (upd H2 p (.dK (mergeK [] kvs)))) : tDisp trs σ H Q := h
theorem dniX {td ty : TE} {σ : L2.St} {H : Hp} {Q : VK} (h : ty σ H fun y H1 => td σ H1 fun x H2 => ∃ a o, x = .ref a ∧ DGet H2 a y o ∧ Q (.bl (!o.isSome)) H2) : tDNotIn ty td σ H Q := h
theorem nodup_leH {α : Type} [BEq α] [LawfulBEq α] : ∀ {xs ys : List α}, xs.Nodup → (∀ x ∈ xs, x ∈ ys) → xs.length ≤ ys.length
  | [], _, _, _ => Nat.zero_le _
  | x :: xs, ys, nd, h => by
    obtain ⟨n, nd⟩ := List.nodup_cons.mp nd
    have m := h x (.head _)
    have := nodup_leH (ys := ys.erase x) nd fun z hz => (List.mem_erase_of_ne (fun e : z = x => n (e ▸ hz))).mpr (h z (.tail _ hz))
    rw [List.length_erase_of_mem m] at this
    have l := List.length_pos_of_mem m
    rw [List.length_cons]
    omega
theorem upd_upd {H : Hp} {a : Addr} {o o' : HO} : upd (upd H a o) a o' = upd H a o' := by
  funext b
  by_cases e : b = a
  · subst e
    rw [upd_same, upd_same]
  · rw [upd_ne e, upd_ne e, upd_ne e]
local macro_rules | `(tactic| walk_at "rd") => `(tactic| first
  | with_reducible apply Kj.dgetXs
  | with_reducible apply Kj.dniX)
/-- counts_from(steps, house) -/
def spCounts : Sp := fun vs H Q _ => ∃ (d : Addr) (h : Str) (ys : List Str) (S : Str → List (Str × Str)), vs = [.ref d, .str h] ∧ Adj H d ys S ∧ h ∈ ys ∧ (∀ y, ∀ q ∈ S y, q.2 ∈ ys) ∧ ys.length ≤ 1000 ∧ ys.Nodup ∧ (∀ y, (S y).length ≤ 100000) ∧
  ∀ (p : Addr) (ms : List Str) (c : Str → Nat) (H' : Hp), Bfs (fun y => (S y).map (·.2)) h ms c → (∀ x ∈ ms, x ∈ ys) → H p = none → Same H H' → H' p = some (.dK (kd ms fun z => .int (c z))) → Q (.ref p) H'
theorem ok_counts_from (F : Def K mg "counts_from" s_counts_from P_counts_from) (m_len : mg "len" = none) : Cal P w K mg base 1 "counts_from" P_counts_from spCounts := by
  refine F.ok sc_counts_from (fun vs H Q E h => ?_) (fun f cdv A outer s H vs Q E hr h => ?_)
  · obtain ⟨d, h, ys, S, rfl, _⟩ := h
    rfl
  obtain ⟨d, h, ys, S, rfl, adj, mh, mS, lys, nd, lS, q⟩ := h
  refine ⟨_, (pss_cons (ps_set (i := 2) sc_counts_from.nd rfl (Or.inl rfl) (pe_disp (pps_cons (pv 1 (hd := nd_house) (hcd := nc_house)) pe_int pps_nil) (by rfl) (by rfl) (by intro z; cases z) (by decide)))
  (pss_cons (ps_set (i := 3) sc_counts_from.nd rfl (Or.inl rfl) (pe_lst (pa_cons (pv 1 (hd := nd_house) (hcd := nc_house)) pa_nil)))
  (pss_cons (ps_set (i := 4) sc_counts_from.nd rfl (Or.inl rfl) pe_int)
  (pss_cons (ps_while PassesOwn.never (pt_cmpR op_lt (pv 4 (hd := nd_place) (hcd := nc_place)) (pe_callB q_len (by rfl) m_len PySem.boot_len (pa_cons (pv 3 (hd := nd_met) (hcd := nc_met)) pa_nil) (hn := nn_len) (hdb := nd_len)) (nomark _)) (pss_cons (ps_set (i := 5) sc_counts_from.nd rfl (Or.inl rfl) (pe_ix ix_list (pv 3 (hd := nd_met) (hcd := nc_met)) (pv 4 (hd := nd_place) (hcd := nc_place)) (fun _ _ => rfl)))
  (pss_cons (ps_aug (i := 4) sc_counts_from.nd rfl (Or.inl rfl) pe_int ip_add)
  (pss_one (ps_for PassesOwn.never rfl (pi_list (pe_dget (un1 hr) (pv 0 (hd := nd_steps) (hcd := nc_steps)) (pv 5 (hd := nd_start) (hcd := nc_start)) (fun _ _ => rfl))) (pg_tup (by rfl) (pgs_cons (pg_name (i := 6) sc_counts_from.nd rfl (Or.inl rfl)) (pgs_cons (pg_name (i := 7) sc_counts_from.nd rfl (Or.inl rfl)) pgs_nil))) (pss_one (ps_if (pt_cmp (pc_dnotin (un1 hr) (pv 7 (hd := nd_stop) (hcd := nc_stop)) (pv 2 (hd := nd_counts) (hcd := nc_counts)))) (pss_cons (ps_asg (pe_op op_add (pe_dget (un1 hr) (pv 2 (hd := nd_counts) (hcd := nc_counts)) (pv 5 (hd := nd_start) (hcd := nc_start)) (fun _ _ => rfl)) pe_int) (pg_sub (pv 2 (hd := nd_counts) (hcd := nc_counts)) (pv 7 (hd := nd_stop) (hcd := nc_stop)) (set_dict (un1 hr))))
  (pss_one (ps_expr (pe_bm PySem.F.plainAttrs_list PySem.F.slot_list_append PySem.F.type_list_append mt_append (pv 3 (hd := nd_met) (hcd := nc_met)) (pa_cons (pv 7 (hd := nd_stop) (hcd := nc_stop)) pa_nil))))) pss_nil)))))))
  (pss_one (ps_ret (pv 2 (hd := nd_counts) (hcd := nc_counts)))))))), ?_⟩
  refine Rd.at0 (σ := [some (.ref d), some (.str h), none, none, none, none, none, none]) rfl ?_
  obtain ⟨f, ed, el⟩ := adj
  repeat' (walk_at "rd")
  refine dispX fun C nC => ⟨.str h, rfl, upd_same, [(.inr h, .int 0)], rfl, (show 1 ≤ 15 by decide), ?_⟩
  rw [upd_upd]
  have sC : Same H (upd H C (.dK (mergeK [] [(Sum.inr h, V.int 0)]))) := same_upd nC
  have eC : upd H C (.dK (mergeK [] [(Sum.inr h, V.int 0)])) C = some (.dK (kd [h] fun z => .int (((fun _ => 0 : Str → Nat) z : Nat) : Int))) := upd_same
  generalize upd H C (.dK (mergeK [] [(Sum.inr h, V.int 0)])) = G at *
  repeat' (walk_at "rd")
  rename_i M nM G1 s1 eM
  have eC1 := s1 _ _ eC
  have nCM : C ≠ M := fun e => by rw [e] at eC1; rw [eM] at eC1; cases eC1
  have nMH : H M = none := noneOf sC nM
  have iv := BInv.start (fun y => (S y).map (·.2)) h
  refine whileX (fun m σ H' => ∃ (ms : List Str) (c : Str → Nat) (p : Nat) (v5 v6 v7 : Option V), σ = [some (.ref d), some (.str h), some (.ref C), some (.ref M), some (.int (p : Int)), v5, v6, v7] ∧ m = ys.length + 1 - p ∧ BInv (fun y => (S y).map (·.2)) h ms c p ∧ p ≤ ms.length ∧
    H' C = some (.dK (kd ms fun z => .int (c z))) ∧ H' M = some (.lst (ms.map V.str)) ∧ Same H H') (ys.length + 1) ⟨[h], _, 0, _, _, _, rfl, rfl, iv, Nat.zero_le _, eC1, eM, sC.trans s1⟩ ?_
  rintro m σ H' ⟨ms, c, p, v5, v6, v7, rfl, rfl, b, lp, eC', eM', s'⟩
  have sub := b.sub mh (fun x y hy => by
    obtain ⟨q', hq, rfl⟩ := List.mem_map.mp hy
    exact mS x q' hq)
  have lms : ms.length ≤ ys.length := nodup_leH b.nd sub
  have lmm : (ms.map V.str).length = ms.length := List.length_map _
  repeat' (walk_at "rd")
  rotate_left
  · exact q C ms c H' (b.all (by omega)) sub (noneOf (Same.refl H) nC) s' eC'
  rename_i lt0
  have lt : p < ms.length := by omega
  obtain ⟨s, es⟩ : ∃ s, ms[p]? = some s := ⟨_, List.getElem?_eq_getElem lt⟩
  have ms_ : s ∈ ys := sub s (List.mem_of_getElem? es)
  have es' : (ms.map V.str)[((p : Nat) : Int).toNat]? = some (.str s) := by
    rw [show ((p : Nat) : Int).toNat = p from rfl, List.getElem?_map, es]
    rfl
  obtain ⟨ps, ef, ls, els, hls⟩ := el s ms_
  have bi := b.begin es
  refine ixN' (.inl (.inl eM')) (by omega) es' ?_
  repeat' (walk_at "rd")
  refine ⟨d, _, rfl, .inl ⟨_, Sum.inr s, .inl (s' _ _ ed), rfl, (kd_get ms_).symm⟩, ?_⟩
  rw [ef]
  have els' := s' _ _ els
  repeat' (walk_at "rd")
  refine forL ls (fun i σ H' => ∃ (ms : List Str) (c : Str → Nat) (v6 v7 : Option V), σ = [some (.ref d), some (.str h), some (.ref C), some (.ref M), some (.int ((p : Int) + 1)), some (.str s), v6, v7] ∧ BIn (fun y => (S y).map (·.2)) h s ms c p i ∧
    H' C = some (.dK (kd ms fun z => .int (c z))) ∧ H' M = some (.lst (ms.map V.str)) ∧ Same H H') ⟨ms, c, _, _, rfl, bi, eC', eM', s'⟩ (fun _ _ _ _ ⟨_, _, _, _, _, _, _, _, s⟩ => .inl (.inl (s _ _ els))) ?_ ?_
  · clear eM' eC' els' es' bi b lp sub lms lmm es lt lt0 s'
    rintro i x σ H' hx ⟨ms, c, v6, v7, rfl, b, eC', eM', s'⟩
    obtain ⟨k, ek, ok, t, rfl, et⟩ := hls.at hx
    rw [List.getElem?_map] at ek
    obtain ⟨u, eu, rfl⟩ := Option.map_eq_some_iff.mp ek
    have et' : H' t = some (.tup [.str u.1, .str u.2]) := s' _ _ et
    have enb : ((S s).map (·.2))[i]? = some u.2 := by rw [List.getElem?_map, eu]; rfl
    have mu : u.2 ∈ ys := mS s u (List.mem_of_getElem? eu)
    have sub := b.sub mh (fun x y hy => by
      obtain ⟨q', hq, rfl⟩ := List.mem_map.mp hy
      exact mS x q' hq)
    have lms : ms.length ≤ ys.length := nodup_leH b.nd sub
    have mss : s ∈ ms := List.mem_of_getElem? b.at_
    repeat' (walk_at "rd")
    refine dniC eC' ?_
    by_cases m : u.2 ∈ ms
    · rw [decide_eq_true m]
      repeat' (walk_at "rd")
      exact ⟨ms, c, _, _, rfl, b.old enb m, eC', eM', s'⟩
    · rw [decide_eq_false m]
      repeat' (walk_at "rd")
      refine ⟨C, _, rfl, .inl ⟨_, Sum.inr s, .inl eC', rfl, (kd_get mss).symm⟩, ?_⟩
      repeat' (walk_at "rd")
      refine dnewK eC' m (by omega) ?_
      have eM2 : upd H' C (.dK (kd (ms ++ [u.2]) fun y => if y = u.2 then .int ((c s : Int) + 1) else .int (c y))) M = some (.lst (ms.map V.str)) := (upd_ne (Ne.symm nCM)).trans eM'
      have eC2 : upd H' C (.dK (kd (ms ++ [u.2]) fun y => if y = u.2 then .int ((c s : Int) + 1) else .int (c y))) C = some (.dK (kd (ms ++ [u.2]) fun z => .int ((if z = u.2 then c s + 1 else c z : Nat) : Int))) := by
        rw [upd_same, kd_congr fun z _ => ?_]
        by_cases e : z = u.2
        · rw [if_pos e, if_pos e]
          rfl
        · rw [if_neg e, if_neg e]
      have s2 : Same H (upd H' C (.dK (kd (ms ++ [u.2]) fun y => if y = u.2 then .int ((c s : Int) + 1) else .int (c y)))) := fun b o e => (upd_ne (ne_of_none e nC)).trans (s' _ _ e)
      generalize upd H' C (.dK (kd (ms ++ [u.2]) fun y => if y = u.2 then .int ((c s : Int) + 1) else .int (c y))) = G2 at *
      repeat' (walk_at "rd")
      refine append eM2 (by exact sz5' (by rw [List.length_map]; omega)) ?_
      repeat' (walk_at "rd")
      refine ⟨ms ++ [u.2], _, _, _, rfl, b.new enb m, (upd_ne nCM).trans eC2, ?_, fun b o e => (upd_ne (ne_of_none e nMH)).trans (s2 _ _ e)⟩
      rw [upd_same, List.map_append]
      rfl
  · rintro σ H' ⟨ms, c, v6, v7, rfl, b, eC', eM', s'⟩
    have lls : ls.length = ((S s).map (·.2)).length := by rw [hls.len, List.length_map, List.length_map]
    rw [lls] at b
    have l2 := (List.getElem?_eq_some_iff.mp b.at_).1
    repeat' (walk_at "rd")
    refine ⟨ys.length + 1 - (p + 1), by omega, ms, c, p + 1, some (.str s), v6, v7, rfl, rfl, b.finish, l2, eC', eM', s'⟩
end
end Kj
namespace Kj
open PySem PySem.Spec PyProof.Rows L2 Rd
local macro_rules | `(tactic| walk_at "hp") => `(tactic| first
  | assumption
  | exact upd_same
  | (refine Eq.trans (upd_ne (by first | assumption | (apply Ne.symm; assumption))) ?_; walk_at "hp"))
local macro_rules | `(tactic| walk_at "sq") => `(tactic| first
  | assumption
  | (refine Or.inl (Or.inl ?_); walk_at "hp"))
local macro_rules | `(tactic| walk_at "st") => `(tactic| first
  | assumption
  | (refine Or.inl (Or.inl ?_); walk_at "hp"))
local macro_rules | `(tactic| walk_at "ar") => `(tactic| first
  | assumption
  | omega
  | decide)
local macro_rules | `(tactic| walk_at "ci") => `(tactic| first
  | (refine (show CMul _ _ from Or.inr ⟨?_, ?_⟩) <;> omega)
  | (refine (show CMul _ _ from Or.inl ⟨?_, ?_⟩) <;> omega)
  | (show CPow _ _; exact ⟨by decide, by decide, by decide⟩)
  | (refine wide_div (b := 63) ?_ ?_ (by decide) (by decide) <;> omega)
  | (show (0 : Int) < _; omega))
local macro_rules | `(tactic| walk_at "ty") => `(tactic| first
  | exact dp_ty (by assumption)
  | exact TyX.base (TyOf.int _)
  | exact TyX.base (TyOf.str _)
  | exact TyX.base (TyOf.bl _)
  | exact TyX.base TyOf.non
  | exact tyL' (by walk_at "sq")
  | exact tyT' (by walk_at "st"))
local macro_rules | `(tactic| walk_at "isi") => `(tactic| first
  | ((with_reducible apply Rd.isiF); (walk_at "ty"); (decide))
  | ((with_reducible apply Rd.isiT); (walk_at "ty"); (decide)))
local macro_rules | `(tactic| walk_at "rd") => `(tactic| first
  | with_reducible apply Rd.seq
  | ((with_reducible apply Rd.var); rfl)
  | with_reducible apply Rd.con
  | with_reducible apply Rd.op
  | with_reducible apply Rd.asg
  | ((with_reducible apply Rd.gname); ((dsimp only [List.set, L2.wipe, Int.reduceToNat]) <;> rfl))
  | with_reducible apply Rd.nxt
  | with_reducible apply Rd.ifs
  | with_reducible apply Rd.test
  | with_reducible apply Rd.testB
  | with_reducible apply Rd.exbl
  | with_reducible apply Rd.ret
  | with_reducible apply Rd.drop
  | with_reducible apply Rd.retN
  | with_reducible apply Rd.nil
  | with_reducible apply Rd.cons
  | with_reducible apply Rd.call
  | with_reducible apply Rd.cb
  | with_reducible apply Rd.and
  | with_reducible apply Rd.or
  | with_reducible apply Rd.not
  | with_reducible apply Rd.andV
  | with_reducible apply Rd.orV
  | with_reducible apply Rd.notV
  | with_reducible apply Rd.ife
  | with_reducible apply Rd.tup
  | with_reducible apply Rd.lst
  | with_reducible apply Rd.un
  | with_reducible apply Rd.chain
  | with_reducible apply Rd.brk
  | with_reducible apply Rd.cnt
  | with_reducible apply Rd.I0
  | with_reducible apply Rd.U1
  | ((with_reducible apply Rd.eq); rfl)
  | ((with_reducible apply Rd.ne); rfl)
  | ((with_reducible apply Rd.I1); (walk_at "ci"))
  | with_reducible apply Rd.lc0
  | with_reducible apply Rd.ln0
  | with_reducible apply Rd.exN
  | ((with_reducible apply Rd.iteSf); (decide +kernel))
  | ((with_reducible apply Rd.iteSt); (decide +kernel))
  | ((with_reducible apply Rd.niQ); (exact Or.inl (by walk_at "sq")); (exact ⟨rfl, rfl⟩); (rfl))
  | ((with_reducible apply Rd.inQ); (exact Or.inl (by walk_at "sq")); (exact ⟨rfl, rfl⟩); (rfl))
  | with_reducible apply Rd.rn1
  | with_reducible apply Rd.in1
  | with_reducible apply Rd.sn1
  | with_reducible apply Rd.bn1
  | with_reducible apply Rd.nn1
  | with_reducible apply Rd.rn2
  | with_reducible apply Rd.in2
  | with_reducible apply Rd.sn2
  | with_reducible apply Rd.bn2
  | with_reducible apply Rd.nn2
  | with_reducible apply Rd.nt1
  | with_reducible apply Rd.nf1
  | (with_reducible refine Rd.iteI (fun _ => ?_) (fun _ => ?_))
  | (with_reducible refine Rd.iteNI (fun _ => ?_) (fun _ => ?_))
  | (with_reducible refine iteT ?_)
  | (with_reducible refine iteF ?_)
  | (with_reducible refine Rd.iteD (fun _ => ?_) (fun _ => ?_))
  | (with_reducible refine Rd.iteN (fun _ => ?_) (fun _ => ?_))
  | with_reducible apply Rd.intI
  | with_reducible apply Rd.intB
  | with_reducible apply Rd.maxQ
  | with_reducible apply Rd.minQ
  | with_reducible apply Rd.absQ
  | with_reducible apply Rd.isN
  | with_reducible apply Rd.noN
  | with_reducible apply Rd.ltZ
  | with_reducible apply Rd.bm
  | with_reducible apply Rd.bm0
  | with_reducible apply Rd.par
  | with_reducible apply Rd.expar
  | with_reducible apply Rd.exint
  | with_reducible apply Rd.ipi
  | with_reducible apply Rd.slice
  | with_reducible apply Rd.noPart
  | with_reducible apply Rd.part
  | with_reducible apply Rd.gcons
  | with_reducible apply Rd.gnil
  | with_reducible apply Rd.iseq
  | with_reducible apply Rd.irng1
  | walk_at "isi"
  | with_reducible apply Rd.forX
  | with_reducible apply Rd.lstRev
  | with_reducible apply Rd.lstRg
  | with_reducible apply Rd.rg1
  | with_reducible apply Rd.rg2
  | with_reducible apply Rd.exint2
  | ((with_reducible apply Rd.exrev); (walk_at "sq"))
  | with_reducible apply Rd.lcX
  | with_reducible apply Rd.yes
  | ((with_reducible apply Rd.exrng1); (constructor <;> omega))
  | ((with_reducible apply Rd.exrng2); (refine ⟨?_, ?_, ?_, ?_⟩ <;> omega))
  | with_reducible apply Rd.irng2
  | ((with_reducible apply Rd.aug); rfl)
  | ((with_reducible apply Rd.exlst); (walk_at "sq"))
  | ((with_reducible apply Rd.gtup); (walk_at "st"); (rfl))
  | ((with_reducible apply Rd.tyL); (walk_at "hp"))
  | ((with_reducible apply Rd.ixL); (walk_at "sq"); (rfl))
  | ((with_reducible apply Rd.ixI); (walk_at "sq"); (omega); (first | assumption | (simp only [List.length_map]; omega)); (intro _ _))
  | (with_reducible refine Rd.gsub ?_)
  | ((with_reducible apply Rd.setL); (walk_at "hp"); (rfl); ((dsimp only [List.set, L2.wipe, Int.reduceToNat]) <;> rfl))
  | ((with_reducible apply Rd.lenQ); (first | exact Or.inl (by walk_at "sq") | exact Or.inr (by walk_at "st")))
  | ((with_reducible apply Rd.listQ); (first | exact Or.inl (by walk_at "sq") | exact Or.inr (by walk_at "st")))
  | ((with_reducible apply Rd.tupQ); (walk_at "sq"))
  | ((with_reducible apply Rd.slL); (walk_at "sq"))
  | ((with_reducible apply Rd.ixT); (walk_at "st"); (rfl))
  | (with_reducible refine Rd.iteB (fun _ => ?_) (fun _ => ?_))
  | (with_reducible refine Rd.iteNB (fun _ => ?_) (fun _ => ?_))
  | (refine Rd.andI (Nat.le_of_ble_eq_true rfl) ?_)
  | dsimp only [List.set])
local macro_rules | `(tactic| walk_at "hp") => `(tactic| first
  | assumption
  | exact upd_same
  | (refine Eq.trans (upd_ne (by first | assumption | (apply Ne.symm; assumption))) ?_; walk_at "hp")
  | (refine hpS (by assumption) ?_; walk_at "hp"))
local macro_rules | `(tactic| walk_at "al") => `(tactic| (with_reducible intro l hl; generalize hG : upd _ l _ = G; have hs := newOne hl hG; clear hG; obtain ⟨hs, he⟩ := hs))
local macro_rules | `(tactic| walk_at "rd") => `(tactic| first
  | walk_at "al"
  | ((with_reducible apply Rd.cat); (walk_at "hp"); (walk_at "hp"); (exact Nat.le_of_ble_eq_true rfl)))
local macro_rules | `(tactic| walk_at "sm") => `(tactic| first
  | assumption
  | exact Same.refl _
  | (refine Same.trans ?_ (by assumption); walk_at "sm"))
local macro_rules | `(tactic| walk_at "fr") => `(tactic| first
  | assumption
  | (refine Same.free (by assumption) ?_; walk_at "fr"))
local macro_rules | `(tactic| walk_at "ty") => `(tactic| first
  | exact dv_ty (by assumption)
  | exact tyD' (by walk_at "hp"))
local macro_rules | `(tactic| walk_at "sz") => `(tactic| first
  | exact sz5 (by omega)
  | (simp only [add_len, one_len]; exact sz5 (by omega)))
local macro_rules | `(tactic| walk_at "rd") => `(tactic| first
  | with_reducible apply Rd.istr
  | with_reducible apply Rd.exstr
  | with_reducible apply Rd.leA
  | with_reducible apply Rd.leZz
  | with_reducible apply Rd.le0
  | with_reducible apply Rd.le9
  | with_reducible apply Rd.niZ
  | ((with_reducible apply Rd.lenZ); (walk_at "sz"))
  | ((with_reducible apply Rd.slZ); (walk_at "sz"))
  | ((with_reducible apply Rd.addZ); (walk_at "sz"))
  | with_reducible apply Rd.raiseX
  | with_reducible apply Rd.exone
  | with_reducible apply Rd.callS
  | with_reducible apply Rd.callP
  | with_reducible apply Rd.xsX
  | with_reducible apply Rd.dnewX
  | with_reducible apply Rd.tyZ)
local macro_rules | `(tactic| walk_at "rd") => `(tactic| first
  | with_reducible apply Rd.seq
  | ((with_reducible apply Rd.var); rfl)
  | with_reducible apply Rd.con
  | with_reducible apply Rd.op
  | with_reducible apply Rd.cons
  | with_reducible apply Rd.nil
  | with_reducible apply Rd.asg
  | ((with_reducible apply Rd.gname); ((dsimp only [List.set, L2.wipe, Int.reduceToNat]) <;> rfl))
  | with_reducible apply Rd.nxt
  | with_reducible apply Rd.ifs
  | with_reducible apply Rd.test
  | with_reducible apply Rd.ret
  | with_reducible apply Rd.call
  | with_reducible apply Rd.cb)
open Ty Ln
section
variable {P : Program} {w : World} {K : PySem.W.Frag} {mg : Str → Option Value} {base : Heap} {D : Str → Addr}
/-- the neighbours by the lines that stay -/
def nbs (kt : List (Str × Str × Str)) (v : V) (y : Str) : List Str := (stepsOf (kt.filter (keepL v)) y).map (·.2)
/-- the first step from s that leads nearer -/
def stepN (S : Str → List (Str × Str)) (c : Str → Nat) (s : Str) : Option (Str × Str) := ((S s).filter fun q => decide (c q.2 < c s)).head?
def wayN (S : Str → List (Str × Str)) (c : Str → Nat) : Nat → Str → List (Str × Str × Str)
  | 0, _ => []
  | n + 1, s => match stepN S c s with
    | some q => (q.1, s, q.2) :: wayN S c n q.2
    | none => []
section
variable {S : Str → List (Str × Str)} {b : Str} {ms : List Str} {c : Str → Nat}
/-- a house with a count has such a step, and it leads one nearer -/
theorem step_some (B : Bfs (fun y => (S y).map (·.2)) b ms c) (sym : ∀ x y, y ∈ (S x).map (·.2) → x ∈ (S y).map (·.2)) {s : Str} (m : s ∈ ms) (n : s ≠ b) : ∃ q, stepN S c s = some q ∧ q ∈ S s ∧ q.2 ∈ ms ∧ c s = c q.2 + 1 := by
  obtain ⟨y, my, hy, e⟩ := B.pre s m n
  obtain ⟨q0, m0, e0⟩ := List.mem_map.mp (sym y s hy)
  have mf : q0 ∈ (S s).filter fun q => decide (c q.2 < c s) := List.mem_filter.mpr ⟨m0, decide_eq_true (by rw [e0]; omega)⟩
  unfold stepN
  cases h : ((S s).filter fun q => decide (c q.2 < c s)) with
  | nil => rw [h] at mf; cases mf
  | cons q r =>
    have mq : q ∈ (S s).filter fun q => decide (c q.2 < c s) := by rw [h]; exact .head _
    obtain ⟨mq, lq⟩ := List.mem_filter.mp mq
    have lq := of_decide_eq_true lq
    obtain ⟨k1, k2⟩ := B.cl s m q.2 (List.mem_map.mpr ⟨q, mq, rfl⟩)
    have k3 := (B.cl q.2 k1 s (sym s q.2 (List.mem_map.mpr ⟨q, mq, rfl⟩))).2
    exact ⟨q, rfl, mq, k1, by omega⟩
theorem wayN_len (B : Bfs (fun y => (S y).map (·.2)) b ms c) (sym : ∀ x y, y ∈ (S x).map (·.2) → x ∈ (S y).map (·.2)) : ∀ {n : Nat} {s : Str}, s ∈ ms → c s = n → (wayN S c n s).length = n
  | 0, _, _, _ => rfl
  | n + 1, s, m, e => by
    have ne : s ≠ b := fun k => by rw [k, B.c0] at e; cases e
    obtain ⟨q, h1, _, h2, h3⟩ := step_some B sym m ne
    unfold wayN
    rw [h1]
    show (wayN S c n q.2).length + 1 = n + 1
    rw [wayN_len B sym h2 (by omega)]
end
theorem Bfs.congr {nb nb' : Str → List Str} {h : Str} {ms : List Str} {c : Str → Nat} (b : Bfs nb h ms c) (k : ∀ x y, y ∈ nb x ↔ y ∈ nb' x) : Bfs nb' h ms c :=
  ⟨b.nd, b.src, b.c0, fun x hx y hy => b.cl x hx y ((k x y).mpr hy), fun x hx n => by
    obtain ⟨y, h1, h2, h3⟩ := b.pre x hx n
    exact ⟨y, h1, (k y x).mp h2, h3⟩, b.lt⟩
/-- two searches from one house find the same -/
theorem Bfs.le {nb : Str → List Str} {h : Str} {ms ms' : List Str} {c c' : Str → Nat} (b : Bfs nb h ms c) (b' : Bfs nb h ms' c') : ∀ (n : Nat) (x : Str), x ∈ ms' → c' x = n → x ∈ ms ∧ c x ≤ n
  | n, x, hx, e => by
    by_cases k : x = h
    · rw [k]
      exact ⟨b.src, by rw [b.c0]; exact Nat.zero_le _⟩
    · obtain ⟨y, my, hy, e2⟩ := b'.pre x hx k
      obtain ⟨k1, k2⟩ := Bfs.le b b' (c' y) y my rfl
      obtain ⟨k3, k4⟩ := b.cl y k1 x hy
      exact ⟨k3, by omega⟩
termination_by n => n
decreasing_by omega
theorem Bfs.one {nb : Str → List Str} {h : Str} {ms ms' : List Str} {c c' : Str → Nat} (b : Bfs nb h ms c) (b' : Bfs nb h ms' c') : (∀ x, x ∈ ms ↔ x ∈ ms') ∧ ∀ x ∈ ms, c x = c' x :=
  ⟨fun x => ⟨fun m => (b'.le b _ x m rfl).1, fun m => (b.le b' _ x m rfl).1⟩, fun x m => by
    obtain ⟨m', h1⟩ := b'.le b _ x m rfl
    have h2 := (b.le b' _ x m' rfl).2
    omega⟩
theorem stepsOf_sym {kt : List (Str × Str × Str)} (x y : Str) (h : y ∈ (stepsOf kt x).map (·.2)) : x ∈ (stepsOf kt y).map (·.2) := by
  obtain ⟨q, hq, rfl⟩ := List.mem_map.mp h
  obtain ⟨t, mt, e, k⟩ := stepsOf_mem.mp hq
  refine List.mem_map.mpr ⟨(t.1, x), stepsOf_mem.mpr ⟨t, mt, rfl, ?_⟩, rfl⟩
  rcases k with ⟨e1, e2⟩ | ⟨e1, e2⟩
  · exact .inr ⟨e2, e1⟩
  · exact .inl ⟨e2, e1⟩
/-- the first line from s that leads nearer, as a step -/
def bestT (kf : List (Str × Str × Str)) (c : Str → Nat) (s : Str) : Option (Str × Str × Str) :=
  kf.findSome? fun t => if t.2.1 = s then (if c t.2.2 + 1 = c s then some (t.1, s, t.2.2) else none) else if t.2.2 = s then (if c t.2.1 + 1 = c s then some (t.1, s, t.2.1) else none) else none
theorem best_step {c : Str → Nat} {s : Str} : ∀ {kf : List (Str × Str × Str)}, (∀ t ∈ kf, t.2.1 ≠ t.2.2) → (∀ q ∈ stepsOf kf s, c s ≤ c q.2 + 1) → bestT kf c s = (stepN (stepsOf kf) c s).map fun q => (q.1, s, q.2)
  | [], _, _ => rfl
  | t :: kf, ne, h => by
    have h1 : ∀ q ∈ stepsOf kf s, c s ≤ c q.2 + 1 := fun q hq => by
      obtain ⟨u, mu, k⟩ := stepsOf_mem.mp hq
      exact h q (stepsOf_mem.mpr ⟨u, .tail _ mu, k⟩)
    have ih := best_step (fun u hu => ne u (.tail _ hu)) h1
    have es : stepsOf (t :: kf) s = ((if t.2.1 = s then [(t.1, t.2.2)] else []) ++ (if t.2.2 = s then [(t.1, t.2.1)] else [])) ++ stepsOf kf s := by
      unfold stepsOf
      rw [List.flatMap_cons]
    have nt := ne t (.head _)
    unfold bestT stepN at ih ⊢
    rw [List.findSome?_cons, es]
    by_cases c1 : t.2.1 = s
    · have c2 : ¬ t.2.2 = s := fun e => nt (c1.trans e.symm)
      rw [if_pos c1, if_pos c1, if_neg c2, List.append_nil]
      have hb := h (t.1, t.2.2) (by rw [es, if_pos c1]; exact .head _)
      dsimp only at hb
      rw [List.singleton_append, List.filter_cons]
      by_cases k : c t.2.2 + 1 = c s
      · rw [if_pos k, if_pos (decide_eq_true (show c (t.1, t.2.2).2 < c s by show c t.2.2 < c s; omega))]
        rfl
      · rw [if_neg k, if_neg (by rw [decide_eq_false (show ¬ c (t.1, t.2.2).2 < c s by show ¬ c t.2.2 < c s; omega)]; exact Bool.false_ne_true)]
        exact ih
    · rw [if_neg c1, if_neg c1, List.nil_append]
      by_cases c2 : t.2.2 = s
      · rw [if_pos c2, if_pos c2]
        have hb := h (t.1, t.2.1) (by rw [es, if_pos c2, if_neg c1]; exact .head _)
        dsimp only at hb
        rw [List.singleton_append, List.filter_cons]
        by_cases k : c t.2.1 + 1 = c s
        · rw [if_pos k, if_pos (decide_eq_true (show c (t.1, t.2.1).2 < c s by show c t.2.1 < c s; omega))]
          rfl
        · rw [if_neg k, if_neg (by rw [decide_eq_false (show ¬ c (t.1, t.2.1).2 < c s by show ¬ c t.2.1 < c s; omega)]; exact Bool.false_ne_true)]
          exact ih
      · rw [if_neg c2, if_neg c2, List.nil_append]
        exact ih
end
end Kj
namespace Kj
open PySem PySem.Spec PyProof.Rows L2 Rd
local macro_rules | `(tactic| walk_at "hp") => `(tactic| first
  | assumption
  | exact upd_same
  | (refine Eq.trans (upd_ne (by first | assumption | (apply Ne.symm; assumption))) ?_; walk_at "hp"))
local macro_rules | `(tactic| walk_at "sq") => `(tactic| first
  | assumption
  | (refine Or.inl (Or.inl ?_); walk_at "hp"))
local macro_rules | `(tactic| walk_at "st") => `(tactic| first
  | assumption
  | (refine Or.inl (Or.inl ?_); walk_at "hp"))
local macro_rules | `(tactic| walk_at "ar") => `(tactic| first
  | assumption
  | omega
  | decide)
local macro_rules | `(tactic| walk_at "ci") => `(tactic| first
  | (refine (show CMul _ _ from Or.inr ⟨?_, ?_⟩) <;> omega)
  | (refine (show CMul _ _ from Or.inl ⟨?_, ?_⟩) <;> omega)
  | (show CPow _ _; exact ⟨by decide, by decide, by decide⟩)
  | (refine wide_div (b := 63) ?_ ?_ (by decide) (by decide) <;> omega)
  | (show (0 : Int) < _; omega))
local macro_rules | `(tactic| walk_at "ty") => `(tactic| first
  | exact dp_ty (by assumption)
  | exact TyX.base (TyOf.int _)
  | exact TyX.base (TyOf.str _)
  | exact TyX.base (TyOf.bl _)
  | exact TyX.base TyOf.non
  | exact tyL' (by walk_at "sq")
  | exact tyT' (by walk_at "st"))
local macro_rules | `(tactic| walk_at "isi") => `(tactic| first
  | ((with_reducible apply Rd.isiF); (walk_at "ty"); (decide))
  | ((with_reducible apply Rd.isiT); (walk_at "ty"); (decide)))
local macro_rules | `(tactic| walk_at "rd") => `(tactic| first
  | with_reducible apply Rd.seq
  | ((with_reducible apply Rd.var); rfl)
  | with_reducible apply Rd.con
  | with_reducible apply Rd.op
  | with_reducible apply Rd.asg
  | ((with_reducible apply Rd.gname); ((dsimp only [List.set, L2.wipe, Int.reduceToNat]) <;> rfl))
  | with_reducible apply Rd.nxt
  | with_reducible apply Rd.ifs
  | with_reducible apply Rd.test
  | with_reducible apply Rd.testB
  | with_reducible apply Rd.exbl
  | with_reducible apply Rd.ret
  | with_reducible apply Rd.drop
  | with_reducible apply Rd.retN
  | with_reducible apply Rd.nil
  | with_reducible apply Rd.cons
  | with_reducible apply Rd.call
  | with_reducible apply Rd.cb
  | with_reducible apply Rd.and
  | with_reducible apply Rd.or
  | with_reducible apply Rd.not
  | with_reducible apply Rd.andV
  | with_reducible apply Rd.orV
  | with_reducible apply Rd.notV
  | with_reducible apply Rd.ife
  | with_reducible apply Rd.tup
  | with_reducible apply Rd.lst
  | with_reducible apply Rd.un
  | with_reducible apply Rd.chain
  | with_reducible apply Rd.brk
  | with_reducible apply Rd.cnt
  | with_reducible apply Rd.I0
  | with_reducible apply Rd.U1
  | ((with_reducible apply Rd.eq); rfl)
  | ((with_reducible apply Rd.ne); rfl)
  | ((with_reducible apply Rd.I1); (walk_at "ci"))
  | with_reducible apply Rd.lc0
  | with_reducible apply Rd.ln0
  | with_reducible apply Rd.exN
  | ((with_reducible apply Rd.iteSf); (decide +kernel))
  | ((with_reducible apply Rd.iteSt); (decide +kernel))
  | ((with_reducible apply Rd.niQ); (exact Or.inl (by walk_at "sq")); (exact ⟨rfl, rfl⟩); (rfl))
  | ((with_reducible apply Rd.inQ); (exact Or.inl (by walk_at "sq")); (exact ⟨rfl, rfl⟩); (rfl))
  | with_reducible apply Rd.rn1
  | with_reducible apply Rd.in1
  | with_reducible apply Rd.sn1
  | with_reducible apply Rd.bn1
  | with_reducible apply Rd.nn1
  | with_reducible apply Rd.rn2
  | with_reducible apply Rd.in2
  | with_reducible apply Rd.sn2
  | with_reducible apply Rd.bn2
  | with_reducible apply Rd.nn2
  | with_reducible apply Rd.nt1
  | with_reducible apply Rd.nf1
  | (with_reducible refine Rd.iteI (fun _ => ?_) (fun _ => ?_))
  | (with_reducible refine Rd.iteNI (fun _ => ?_) (fun _ => ?_))
  | (with_reducible refine iteT ?_)
  | (with_reducible refine iteF ?_)
  | (with_reducible refine Rd.iteD (fun _ => ?_) (fun _ => ?_))
  | (with_reducible refine Rd.iteN (fun _ => ?_) (fun _ => ?_))
  | with_reducible apply Rd.intI
  | with_reducible apply Rd.intB
  | with_reducible apply Rd.maxQ
  | with_reducible apply Rd.minQ
  | with_reducible apply Rd.absQ
  | with_reducible apply Rd.isN
  | with_reducible apply Rd.noN
  | with_reducible apply Rd.ltZ
  | with_reducible apply Rd.bm
  | with_reducible apply Rd.bm0
  | with_reducible apply Rd.par
  | with_reducible apply Rd.expar
  | with_reducible apply Rd.exint
  | with_reducible apply Rd.ipi
  | with_reducible apply Rd.slice
  | with_reducible apply Rd.noPart
  | with_reducible apply Rd.part
  | with_reducible apply Rd.gcons
  | with_reducible apply Rd.gnil
  | with_reducible apply Rd.iseq
  | with_reducible apply Rd.irng1
  | walk_at "isi"
  | with_reducible apply Rd.forX
  | with_reducible apply Rd.lstRev
  | with_reducible apply Rd.lstRg
  | with_reducible apply Rd.rg1
  | with_reducible apply Rd.rg2
  | with_reducible apply Rd.exint2
  | ((with_reducible apply Rd.exrev); (walk_at "sq"))
  | with_reducible apply Rd.lcX
  | with_reducible apply Rd.yes
  | ((with_reducible apply Rd.exrng1); (constructor <;> omega))
  | ((with_reducible apply Rd.exrng2); (refine ⟨?_, ?_, ?_, ?_⟩ <;> omega))
  | with_reducible apply Rd.irng2
  | ((with_reducible apply Rd.aug); rfl)
  | ((with_reducible apply Rd.exlst); (walk_at "sq"))
  | ((with_reducible apply Rd.gtup); (walk_at "st"); (rfl))
  | ((with_reducible apply Rd.tyL); (walk_at "hp"))
  | ((with_reducible apply Rd.ixL); (walk_at "sq"); (rfl))
  | ((with_reducible apply Rd.ixI); (walk_at "sq"); (omega); (first | assumption | (simp only [List.length_map]; omega)); (intro _ _))
  | (with_reducible refine Rd.gsub ?_)
  | ((with_reducible apply Rd.setL); (walk_at "hp"); (rfl); ((dsimp only [List.set, L2.wipe, Int.reduceToNat]) <;> rfl))
  | ((with_reducible apply Rd.lenQ); (first | exact Or.inl (by walk_at "sq") | exact Or.inr (by walk_at "st")))
  | ((with_reducible apply Rd.listQ); (first | exact Or.inl (by walk_at "sq") | exact Or.inr (by walk_at "st")))
  | ((with_reducible apply Rd.tupQ); (walk_at "sq"))
  | ((with_reducible apply Rd.slL); (walk_at "sq"))
  | ((with_reducible apply Rd.ixT); (walk_at "st"); (rfl))
  | (with_reducible refine Rd.iteB (fun _ => ?_) (fun _ => ?_))
  | (with_reducible refine Rd.iteNB (fun _ => ?_) (fun _ => ?_))
  | (refine Rd.andI (Nat.le_of_ble_eq_true rfl) ?_)
  | dsimp only [List.set])
local macro_rules | `(tactic| walk_at "hp") => `(tactic| first
  | assumption
  | exact upd_same
  | (refine Eq.trans (upd_ne (by first | assumption | (apply Ne.symm; assumption))) ?_; walk_at "hp")
  | (refine hpS (by assumption) ?_; walk_at "hp"))
local macro_rules | `(tactic| walk_at "al") => `(tactic| (with_reducible intro l hl; generalize hG : upd _ l _ = G; have hs := newOne hl hG; clear hG; obtain ⟨hs, he⟩ := hs))
local macro_rules | `(tactic| walk_at "rd") => `(tactic| first
  | walk_at "al"
  | ((with_reducible apply Rd.cat); (walk_at "hp"); (walk_at "hp"); (exact Nat.le_of_ble_eq_true rfl)))
local macro_rules | `(tactic| walk_at "sm") => `(tactic| first
  | assumption
  | exact Same.refl _
  | (refine Same.trans ?_ (by assumption); walk_at "sm"))
local macro_rules | `(tactic| walk_at "fr") => `(tactic| first
  | assumption
  | (refine Same.free (by assumption) ?_; walk_at "fr"))
local macro_rules | `(tactic| walk_at "ty") => `(tactic| first
  | exact dv_ty (by assumption)
  | exact tyD' (by walk_at "hp"))
local macro_rules | `(tactic| walk_at "sz") => `(tactic| first
  | exact sz5 (by omega)
  | (simp only [add_len, one_len]; exact sz5 (by omega)))
local macro_rules | `(tactic| walk_at "rd") => `(tactic| first
  | with_reducible apply Rd.istr
  | with_reducible apply Rd.exstr
  | with_reducible apply Rd.leA
  | with_reducible apply Rd.leZz
  | with_reducible apply Rd.le0
  | with_reducible apply Rd.le9
  | with_reducible apply Rd.niZ
  | ((with_reducible apply Rd.lenZ); (walk_at "sz"))
  | ((with_reducible apply Rd.slZ); (walk_at "sz"))
  | ((with_reducible apply Rd.addZ); (walk_at "sz"))
  | with_reducible apply Rd.raiseX
  | with_reducible apply Rd.exone
  | with_reducible apply Rd.callS
  | with_reducible apply Rd.callP
  | with_reducible apply Rd.xsX
  | with_reducible apply Rd.dnewX
  | with_reducible apply Rd.tyZ)
local macro_rules | `(tactic| walk_at "rd") => `(tactic| first
  | with_reducible apply Rd.seq
  | ((with_reducible apply Rd.var); rfl)
  | with_reducible apply Rd.con
  | with_reducible apply Rd.op
  | with_reducible apply Rd.cons
  | with_reducible apply Rd.nil
  | with_reducible apply Rd.asg
  | ((with_reducible apply Rd.gname); ((dsimp only [List.set, L2.wipe, Int.reduceToNat]) <;> rfl))
  | with_reducible apply Rd.nxt
  | with_reducible apply Rd.ifs
  | with_reducible apply Rd.test
  | with_reducible apply Rd.ret
  | with_reducible apply Rd.call
  | with_reducible apply Rd.cb)
open Ty Ln
section
variable {P : Program} {w : World} {K : PySem.W.Frag} {mg : Str → Option Value} {base : Heap} {D : Str → Addr}
theorem wvs_keepG {α : Type} {f : α → List Str} {H : Hp} (p : α → Bool) : ∀ {us : List V} {kt : List α}, WVs H us (kt.map f) → WVs H ((List.range us.length).filterMap fun i => kt[i]?.bind fun t => if p t = true then us[i]? else none) ((kt.filter p).map f)
  | [], [], _ => trivial
  | u :: us, t :: kt, h => by
    have ih := wvs_keepG p (us := us) (kt := kt) h.2
    rw [List.length_cons, List.range_succ_eq_map, List.filterMap_cons, List.filterMap_map, List.filter_cons]
    have e : ((fun i => (t :: kt)[i]?.bind fun t => if p t = true then (u :: us)[i]? else none) ∘ Nat.succ) = fun i => kt[i]?.bind fun t => if p t = true then us[i]? else none := funext fun i => by simp
    rw [e]
    by_cases c : p t = true
    · rw [if_pos c]
      simp only [List.getElem?_cons_zero, Option.bind_some, if_pos c]
      exact ⟨h.1, ih⟩
    · rw [if_neg c]
      simp only [List.getElem?_cons_zero, Option.bind_some, if_neg c]
      exact ih
  | [], _ :: _, h => h.elim
  | _ :: _, [], h => h.elim
theorem dueA_two {zs ns : List Str} {d1 d2 d3 : PyData} (h : dueA zs ns [d1, d2] d3 = none) : ∃ a b, d1 = .str a ∧ d2 = .str b ∧ a ∈ zs ∧ b ∈ zs ∧ (d3 = .none ∨ ∃ n, d3 = .str n ∧ nmB n = true ∧ n ∈ ns) := by
  cases e : dueN [d1, d2] with
  | some x =>
    rw [dueA_bad e] at h
    cases h
  | none =>
    obtain ⟨ws, e1, _⟩ := names_str e
    match ws, e1 with
    | [a, b], e1 =>
      injection e1 with e1 e2
      injection e2 with e2 _
      subst e1 e2
      have e3 : ([PyData.str a, .str b] : List PyData) = [a, b].map PyData.str := rfl
      rw [e3] at e h
      have inz : outS zs [a, b] = none → a ∈ zs ∧ b ∈ zs := fun o => ⟨outS_none o a (.head _), outS_none o b (.tail _ (.head _))⟩
      by_cases hd : d3 = .none
      · subst hd
        cases o : outS zs [a, b] with
        | some x =>
          rw [dueA_house e (.inl rfl) o] at h
          cases h
        | none => exact ⟨a, b, rfl, rfl, (inz o).1, (inz o).2, .inl rfl⟩
      · by_cases k : nameD d3 = true
        · cases o : outS zs [a, b] with
          | some x =>
            rw [dueA_house e (.inr k) o] at h
            cases h
          | none =>
            rcases str_cases d3 with ⟨n, rfl⟩ | ⟨k2, _⟩
            · rw [dueA_line e k o] at h
              by_cases m : n ∈ ns
              · exact ⟨a, b, rfl, rfl, (inz o).1, (inz o).2, .inr ⟨n, rfl, k, m⟩⟩
              · rw [if_neg m] at h
                cases h
            · rw [k2] at k
              cases k
        · rw [dueA_form e hd (by simpa using k)] at h
          cases h
/-- shortest_way(web, a, b, without) -/
def spShort (K : PySem.W.Frag) (D : Str → Addr) (C : Addr) : Sp := fun vs H Q E => ∃ (g : Addr) (zs : List Str) (ts : List (Str × Str × Str)) (v1 v2 v3 : V) (d1 d2 d3 : PyData), vs = [.ref g, v1, v2, v3] ∧ WebAt H C g zs ts ∧ LinesOk zs ts ∧ zs.length ≤ 1000 ∧ ts.length ≤ 1000 ∧ zs.Nodup ∧ (∀ z ∈ zs, NmS z) ∧
  Dv K H v1 d1 ∧ Dv K H v2 d2 ∧ Dv K H v3 d3 ∧ Sz d1 ∧ Sz d2 ∧ Sz d3 ∧
  (dueA zs (ts.map (·.1)) [d1, d2] d3 = none → ∀ (a b : Str) (kt : List (Str × Str × Str)) (ms : List Str) (c : Str → Nat) (v : V) (H' : Hp), d1 = .str a → d2 = .str b → kt.Perm ts → SrtW (kt.map tr) → Bfs (nbs kt v3) b ms c → (∀ x ∈ ms, x ∈ zs) → Same H H' →
    ((a ∉ ms ∧ v = .non) ∨ (a ∈ ms ∧ ∃ L, v = .ref L ∧ H L = none ∧ WL H' L ((wayN (stepsOf (kt.filter (keepL v3))) c (c a) a).map tr))) → Q v H') ∧
  ∀ code e, dueA zs (ts.map (·.1)) [d1, d2] d3 = some (code, e) → ∀ dd v' H', H dd = none → Same H H' → Dv K H' v' e → H' dd = some (.xd [("word", v'), ("code", .str code)]) → E (.ref (D code)) (some dd) H'
local macro_rules | `(tactic| walk_at "rd") => `(tactic| first
  | with_reducible apply Kj.dgetXs
  | with_reducible apply Kj.dniX)
theorem ok_shortest_way (F : DefK K mg "shortest_way" s_shortest_way P_shortest_way [("without", .non)]) (C_check_asked : Ho.CalN P w K mg base 5 "check_asked" P_check_asked (spAskedE K D (D "Web"))) (C_steps_of : Cal P w K mg base 4 "steps_of" P_steps_of (spSteps K (D "Web"))) (C_counts_from : Cal P w K mg base 1 "counts_from" P_counts_from spCounts) : CalK P w K mg base 7 "shortest_way" P_shortest_way [("without", .non)] (spShort K D (D "Web")) := by
  refine F.ok sc_shortest_way (fun vs H Q E h => ?_) (fun f cdv A outer s H vs Q E hr h => ?_)
  · obtain ⟨g, zs, ts, v1, v2, v3, d1, d2, d3, rfl, _⟩ := h
    rfl
  obtain ⟨g, zs, ts, v1, v2, v3, d1, d2, d3, rfl, wa, lo, lz, lt, nd, mz, a1, a2, a3, z1, z2, z3, qn, qs⟩ := h
  refine ⟨_, (pss_cons (ps_expr (Ho.pe_calN C_check_asked (L2N.takes_of rfl rfl rfl rfl) hr (pa_cons (pv 0 (hd := nd_web) (hcd := nc_web)) (pa_cons (pe_lst (pa_cons (pv 1 (hd := nd_a) (hcd := nc_a)) (pa_cons (pv 2 (hd := nd_b) (hcd := nc_b)) pa_nil))) (pa_cons (pv 3 (hd := nd_without) (hcd := nc_without)) pa_nil)))))
  (pss_cons (ps_set (i := 4) sc_shortest_way.nd rfl (Or.inl rfl) (pe_cal C_steps_of hr (pa_cons (pv 0 (hd := nd_web) (hcd := nc_web)) (pa_cons (pv 3 (hd := nd_without) (hcd := nc_without)) pa_nil)) (hdb := nd_steps_of)))
  (pss_cons (ps_set (i := 5) sc_shortest_way.nd rfl (Or.inr rfl) (pe_cal C_counts_from hr (pa_cons (pv 4 (hd := nd_steps) (hcd := nc_steps)) (pa_cons (pv 2 (hd := nd_b) (hcd := nc_b)) pa_nil)) (hdb := nd_counts_from)))
  (pss_cons (ps_if (pt_cmp (pc_dnotin (un1 hr) (pv 1 (hd := nd_a) (hcd := nc_a)) (pv 5 (hd := nd_counts) (hcd := nc_counts)))) (pss_one (ps_ret pe_non)) pss_nil)
  (pss_cons (ps_set (i := 6) sc_shortest_way.nd rfl (Or.inl rfl) (pe_lst pa_nil))
  (pss_cons (ps_set (i := 7) sc_shortest_way.nd rfl (Or.inr rfl) (pv 1 (hd := nd_a) (hcd := nc_a)))
  (pss_cons (ps_while (passes_of rfl) (pt_cmpR op_ne (pv 7 (hd := nd_start) (hcd := nc_start)) (pv 2 (hd := nd_b) (hcd := nc_b)) (nomark _)) (pss_cons (ps_asg (pe_ix ix_list (pe_lc (own := [("step", 10)]) (by rfl) sc_shortest_way.nd (pi_list (pe_dget (un1 hr) (pv 4 (hd := nd_steps) (hcd := nc_steps)) (pv 7 (hd := nd_start) (hcd := nc_start)) (fun _ _ => rfl))) (blkOk_by (N := N_shortest_way) (sc := defScope s_shortest_way) (by decide +kernel)) (fun _ _ _ _ _ => (pg_name (i := 10) sc_shortest_way.nd rfl (Or.inl rfl))) (fun _ _ _ _ _ => (pts_one (pt_cmpR op_lt (pe_dget (un1 hr) (pv 5 (hd := nd_counts) (hcd := nc_counts)) (pe_ix (ix_tupK (K := K) rfl) (pv 10 (hd := nd_step) (hcd := nc_step)) pe_int (fun _ _ => rfl)) (fun _ _ => rfl)) (pe_dget (un1 hr) (pv 5 (hd := nd_counts) (hcd := nc_counts)) (pv 7 (hd := nd_start) (hcd := nc_start)) (fun _ _ => rfl)) (nomark _)))) (fun _ _ _ _ _ => (pv 10 (hd := nd_step) (hcd := nc_step)))) pe_int (fun _ _ => rfl)) (pg_tup (by rfl) (pgs_cons (pg_name (i := 8) sc_shortest_way.nd rfl (Or.inl rfl)) (pgs_cons (pg_name (i := 9) sc_shortest_way.nd rfl (Or.inl rfl)) pgs_nil))))
  (pss_cons (ps_expr (pe_bm PySem.F.plainAttrs_list PySem.F.slot_list_append PySem.F.type_list_append mt_append (pv 6 (hd := nd_way) (hcd := nc_way)) (pa_cons (pe_tup (pa_cons (pv 8 (hd := nd_line) (hcd := nc_line)) (pa_cons (pv 7 (hd := nd_start) (hcd := nc_start)) (pa_cons (pv 9 (hd := nd_stop) (hcd := nc_stop)) pa_nil)))) pa_nil)))
  (pss_one (ps_set (i := 7) sc_shortest_way.nd rfl (Or.inr rfl) (pv 9 (hd := nd_stop) (hcd := nc_stop)))))))
  (pss_one (ps_ret (pv 6 (hd := nd_way) (hcd := nc_way))))))))))), ?_⟩
  refine Rd.at0 (σ := [some (.ref g), some v1, some v2, some v3, none, none, none, none, none, none, none]) rfl ?_
  repeat' (walk_at "rd")
  rename_i l1 n1 G1 s1 e1
  refine ⟨g, l1, zs, ts, [v1, v2], [d1, d2], v3, d3, rfl, wa.same s1, lz, e1, .cons (dv_same s1 a1) (.cons (dv_same s1 a2) .nil), fun d hd => ?_, dv_same s1 a3, z3, fun hn H2 s2 => ?_, fun code e he dd v' H2 n2 s2 dv' e2 => ?_⟩
  · rcases List.mem_cons.mp hd with rfl | hd
    · exact z1
    · rw [List.mem_singleton.mp hd]
      exact z2
  rotate_left
  · exact qs code e he dd v' H2 (s1.free n2) (s1.trans s2) dv' e2
  have qn := qn hn
  clear qs
  have s02 := s1.trans s2
  obtain ⟨a, b, rfl, rfl, ma, mb, hd3⟩ := dueA_two hn
  have hv3 : v3 = .non ∨ ∃ n, v3 = .str n := by
    rcases hd3 with rfl | ⟨n, rfl, _⟩
    · cases a3
      exact .inl rfl
    · cases a3
      exact .inr ⟨n, rfl⟩
  cases a1
  cases a2
  repeat' (walk_at "rd")
  refine ⟨g, zs, ts, v3, rfl, wa.same s02, lo, lz, lt, nd, mz, hv3, fun d ys kt H3 py sy pt sk nd3 s3 adj => ?_⟩
  have lkt : kt.length ≤ 1000 := by rw [pt.length_eq]; exact lt
  have lS : ∀ y, (stepsOf (kt.filter (keepL v3)) y).length ≤ 2000 := fun y => by
    have h1 := stepsOf_len (kt.filter (keepL v3)) y
    have h2 := List.length_filter_le (keepL v3) kt
    omega
  repeat' (walk_at "rd")
  refine ⟨d, b, ys, _, rfl, adj, py.mem_iff.mpr mb, fun y q hq => ?_, by rw [py.length_eq]; exact lz, py.nodup_iff.mpr nd, fun y => Nat.le_trans (lS y) (by decide), fun p ms c H4 bfs sub np s4 ep => ?_⟩
  · obtain ⟨t, mt, _, hq⟩ := stepsOf_mem.mp hq
    have mt := lo.en t (pt.mem_iff.mp (List.mem_filter.mp mt).1)
    rcases hq with ⟨_, e⟩ | ⟨_, e⟩
    · rw [← e]
      exact py.mem_iff.mpr mt.2.1
    · rw [← e]
      exact py.mem_iff.mpr mt.1
  have s04 := (s02.trans s3).trans s4
  have subz : ∀ x ∈ ms, x ∈ zs := fun x hx => py.mem_iff.mp (sub x hx)
  have lms : ms.length ≤ 1000 := Nat.le_trans (nodup_leH bfs.nd subz) lz
  have qn2 := fun v H' => qn a b kt ms c v H' rfl rfl pt sk bfs subz
  have sym : ∀ x y, y ∈ (stepsOf (kt.filter (keepL v3)) x).map (·.2) → x ∈ (stepsOf (kt.filter (keepL v3)) y).map (·.2) := stepsOf_sym
  obtain ⟨f, ed, el⟩ := adj.same s4
  generalize hS : stepsOf (kt.filter (keepL v3)) = S at *
  repeat' (walk_at "rd")
  refine dniC ep ?_
  by_cases mam : a ∈ ms
  rotate_left
  · rw [decide_eq_false mam]
    repeat' (walk_at "rd")
    exact qn2 .non H4 s04 (.inl ⟨mam, rfl⟩)
  rw [decide_eq_true mam]
  repeat' (walk_at "rd")
  rename_i L nL G5 s5 eL
  have nLH : H L = none := noneOf s04 nL
  refine whileX (fun m σ H' => ∃ (s : Str) (dn : List (Str × Str × Str)) (v8 v9 v10 : Option V), σ = [some (.ref g), some (.str a), some (.str b), some v3, some (.ref d), some (.ref p), some (.ref L), some (.str s), v8, v9, v10] ∧ m = c s ∧ s ∈ ms ∧ Same H4 H' ∧ WL H' L (dn.map tr) ∧ wayN S c (c a) a = dn ++ wayN S c (c s) s) (c a) ⟨a, [], _, _, _, rfl, rfl, mam, s5, ⟨[], eL, trivial⟩, rfl⟩ ?_
  rintro m σ H' ⟨s, dn, v8, v9, v10, rfl, rfl, mss, s', ⟨ws, eL', hws⟩, ew⟩
  have ldn : dn.length + c s = c a := by
    have h1 := wayN_len bfs sym mam rfl
    have h2 := wayN_len bfs sym mss rfl
    rw [ew, List.length_append, h2] at h1
    exact h1
  have lca := bfs.lt a mam
  have lws : ws.length = dn.length := by rw [hws.len, List.length_map]
  repeat' (walk_at "rd")
  · rename_i sb
    have sb : s ≠ b := fun e => sb (by rw [e])
    obtain ⟨q, hq, mq, mq2, eq⟩ := step_some bfs sym mss sb
    obtain ⟨pS, ef, ls, els, hls⟩ := el s (sub s mss)
    have lls : ls.length = (S s).length := by rw [hls.len, List.length_map]
    have lSs := lS s
    have ed' := s' _ _ ed
    have ep' := s' _ _ ep
    have els' := s' _ _ els
    refine ⟨d, _, rfl, .inl ⟨_, Sum.inr s, .inl ed', rfl, (kd_get (sub s mss)).symm⟩, ?_⟩
    rw [ef]
    repeat' (walk_at "rd")
    have hls' := hls.same s'
    refine lcF ls (fun i => (S s)[i]?.bind fun q => if decide (c q.2 < c s) = true then ls[i]? else none) (.inl (.inl els')) (by omega) (fun i v' h' hv s2 => ?_) fun A G6 nA s6 eA => ?_
    · intro L0 Nx yes no
      obtain ⟨kk, hkk, okk, t0, rfl, et0⟩ := hls'.at hv
      rw [List.getElem?_map] at hkk
      obtain ⟨u, hu, rfl⟩ := Option.map_eq_some_iff.mp hkk
      have et : h' t0 = some (.tup [.str u.1, .str u.2]) := s2 _ _ et0
      have mu2 : u.2 ∈ ms := (bfs.cl s mss u.2 (List.mem_map.mpr ⟨u, List.mem_of_getElem? hu, rfl⟩)).1
      have eph := s2 _ _ ep'
      have ei : ((S s)[i]?.bind fun q => if decide (c q.2 < c s) = true then ls[i]? else none) = if decide (c u.2 < c s) = true then some (V.ref t0) else none := by rw [hu, hv]; rfl
      refine turn1 ?_
      repeat' (walk_at "rd")
      refine ⟨rfl, ?_⟩
      repeat' (walk_at "rd")
      refine ⟨p, _, rfl, .inl ⟨_, Sum.inr u.2, .inl eph, rfl, (kd_get mu2).symm⟩, ?_⟩
      repeat' (walk_at "rd")
      refine ⟨p, _, rfl, .inl ⟨_, Sum.inr s, .inl eph, rfl, (kd_get mss).symm⟩, ?_⟩
      by_cases k : c u.2 < c s
      · rw [decide_eq_true k] at ei
        repeat' (walk_at "rd")
        all_goals first
        | exact yes _ _ ei (.refl _)
        | (exfalso; omega)
      · rw [decide_eq_false k] at ei
        repeat' (walk_at "rd")
        all_goals first
        | exact no _ ei (.refl _)
        | (exfalso; omega)
    have wk : WL G6 A (((S s).filter fun q => decide (c q.2 < c s)).map pr) := ⟨_, eA, wvs_keepG (f := pr) (fun q => decide (c q.2 < c s)) (hls'.same s6)⟩
    clear eA
    have hq' : ((S s).filter fun q => decide (c q.2 < c s)).head? = some q := hq
    cases hf : ((S s).filter fun q => decide (c q.2 < c s)) with
    | nil => rw [hf] at hq'; cases hq'
    | cons q0 r =>
    rw [hf] at hq' wk
    have e0 : q0 = q := Option.some.inj hq'
    subst e0
    obtain ⟨as, eA, wA⟩ := wk
    cases as with
    | nil => exact wA.elim
    | cons x0 rest =>
    obtain ⟨okq, tq, rfl, etq⟩ := wA.1
    have etq' : G6 tq = some (.tup [.str q0.1, .str q0.2]) := etq
    have eL6 := s6 _ _ eL'
    repeat' (walk_at "rd")
    refine Rd.ixL (v := .ref tq) (.inl (.inl eA)) (atI_nat (show (V.ref tq :: rest)[0]? = some (V.ref tq) from rfl)) ?_
    repeat' (walk_at "rd")
    rename_i T nT G7 s7 eT
    refine append (s7 _ _ eL6) (sz5' (by omega)) ?_
    repeat' (walk_at "rd")
    have s67 := s6.trans s7
    refine ⟨c q0.2, by omega, q0.2, dn ++ [(q0.1, s, q0.2)], _, _, _, rfl, rfl, mq2, fun b o e => (upd_ne (ne_of_none e nL)).trans ((s'.trans s67) _ _ e), ⟨_, upd_same, ?_⟩, ?_⟩
    · rw [List.map_append]
      refine wvs_put (s7 _ _ eL6) ((hws.same s67).app ⟨⟨fun z hz => ?_, T, rfl, eT⟩, trivial⟩)
      have hz : z = q0.1 ∨ z = s ∨ z = q0.2 := by simpa [tr] using hz
      rcases hz with rfl | rfl | rfl
      · exact okq _ (.head _)
      · exact nm_ok (mz _ (subz _ mss))
      · exact nm_ok (mz _ (subz _ mq2))
    · rw [ew, eq, List.append_assoc]
      congr 1
      rw [wayN, hq]
      rfl
  · rename_i sb
    have sb : s = b := by simpa using sb
    subst sb
    rw [bfs.c0, show wayN S c 0 s = [] from rfl, List.append_nil] at ew
    exact qn2 (.ref L) H' (s04.trans s') (.inr ⟨mam, L, rfl, nLH, ⟨ws, eL', by rw [ew]; exact hws⟩⟩)
end
end Kj
namespace Kj
open PySem PySem.Spec PyProof.Rows L2 Rd
local macro_rules | `(tactic| walk_at "hp") => `(tactic| first
  | assumption
  | exact upd_same
  | (refine Eq.trans (upd_ne (by first | assumption | (apply Ne.symm; assumption))) ?_; walk_at "hp"))
local macro_rules | `(tactic| walk_at "sq") => `(tactic| first
  | assumption
  | (refine Or.inl (Or.inl ?_); walk_at "hp"))
local macro_rules | `(tactic| walk_at "st") => `(tactic| first
  | assumption
  | (refine Or.inl (Or.inl ?_); walk_at "hp"))
local macro_rules | `(tactic| walk_at "ar") => `(tactic| first
  | assumption
  | omega
  | decide)
local macro_rules | `(tactic| walk_at "ci") => `(tactic| first
  | (refine (show CMul _ _ from Or.inr ⟨?_, ?_⟩) <;> omega)
  | (refine (show CMul _ _ from Or.inl ⟨?_, ?_⟩) <;> omega)
  | (show CPow _ _; exact ⟨by decide, by decide, by decide⟩)
  | (refine wide_div (b := 63) ?_ ?_ (by decide) (by decide) <;> omega)
  | (show (0 : Int) < _; omega))
local macro_rules | `(tactic| walk_at "ty") => `(tactic| first
  | exact dp_ty (by assumption)
  | exact TyX.base (TyOf.int _)
  | exact TyX.base (TyOf.str _)
  | exact TyX.base (TyOf.bl _)
  | exact TyX.base TyOf.non
  | exact tyL' (by walk_at "sq")
  | exact tyT' (by walk_at "st"))
local macro_rules | `(tactic| walk_at "isi") => `(tactic| first
  | ((with_reducible apply Rd.isiF); (walk_at "ty"); (decide))
  | ((with_reducible apply Rd.isiT); (walk_at "ty"); (decide)))
local macro_rules | `(tactic| walk_at "rd") => `(tactic| first
  | with_reducible apply Rd.seq
  | ((with_reducible apply Rd.var); rfl)
  | with_reducible apply Rd.con
  | with_reducible apply Rd.op
  | with_reducible apply Rd.asg
  | ((with_reducible apply Rd.gname); ((dsimp only [List.set, L2.wipe, Int.reduceToNat]) <;> rfl))
  | with_reducible apply Rd.nxt
  | with_reducible apply Rd.ifs
  | with_reducible apply Rd.test
  | with_reducible apply Rd.testB
  | with_reducible apply Rd.exbl
  | with_reducible apply Rd.ret
  | with_reducible apply Rd.drop
  | with_reducible apply Rd.retN
  | with_reducible apply Rd.nil
  | with_reducible apply Rd.cons
  | with_reducible apply Rd.call
  | with_reducible apply Rd.cb
  | with_reducible apply Rd.and
  | with_reducible apply Rd.or
  | with_reducible apply Rd.not
  | with_reducible apply Rd.andV
  | with_reducible apply Rd.orV
  | with_reducible apply Rd.notV
  | with_reducible apply Rd.ife
  | with_reducible apply Rd.tup
  | with_reducible apply Rd.lst
  | with_reducible apply Rd.un
  | with_reducible apply Rd.chain
  | with_reducible apply Rd.brk
  | with_reducible apply Rd.cnt
  | with_reducible apply Rd.I0
  | with_reducible apply Rd.U1
  | ((with_reducible apply Rd.eq); rfl)
  | ((with_reducible apply Rd.ne); rfl)
  | ((with_reducible apply Rd.I1); (walk_at "ci"))
  | with_reducible apply Rd.lc0
  | with_reducible apply Rd.ln0
  | with_reducible apply Rd.exN
  | ((with_reducible apply Rd.iteSf); (decide +kernel))
  | ((with_reducible apply Rd.iteSt); (decide +kernel))
  | ((with_reducible apply Rd.niQ); (exact Or.inl (by walk_at "sq")); (exact ⟨rfl, rfl⟩); (rfl))
  | ((with_reducible apply Rd.inQ); (exact Or.inl (by walk_at "sq")); (exact ⟨rfl, rfl⟩); (rfl))
  | with_reducible apply Rd.rn1
  | with_reducible apply Rd.in1
  | with_reducible apply Rd.sn1
  | with_reducible apply Rd.bn1
  | with_reducible apply Rd.nn1
  | with_reducible apply Rd.rn2
  | with_reducible apply Rd.in2
  | with_reducible apply Rd.sn2
  | with_reducible apply Rd.bn2
  | with_reducible apply Rd.nn2
  | with_reducible apply Rd.nt1
  | with_reducible apply Rd.nf1
  | (with_reducible refine Rd.iteI (fun _ => ?_) (fun _ => ?_))
  | (with_reducible refine Rd.iteNI (fun _ => ?_) (fun _ => ?_))
  | (with_reducible refine iteT ?_)
  | (with_reducible refine iteF ?_)
  | (with_reducible refine Rd.iteD (fun _ => ?_) (fun _ => ?_))
  | (with_reducible refine Rd.iteN (fun _ => ?_) (fun _ => ?_))
  | with_reducible apply Rd.intI
  | with_reducible apply Rd.intB
  | with_reducible apply Rd.maxQ
  | with_reducible apply Rd.minQ
  | with_reducible apply Rd.absQ
  | with_reducible apply Rd.isN
  | with_reducible apply Rd.noN
  | with_reducible apply Rd.ltZ
  | with_reducible apply Rd.bm
  | with_reducible apply Rd.bm0
  | with_reducible apply Rd.par
  | with_reducible apply Rd.expar
  | with_reducible apply Rd.exint
  | with_reducible apply Rd.ipi
  | with_reducible apply Rd.slice
  | with_reducible apply Rd.noPart
  | with_reducible apply Rd.part
  | with_reducible apply Rd.gcons
  | with_reducible apply Rd.gnil
  | with_reducible apply Rd.iseq
  | with_reducible apply Rd.irng1
  | walk_at "isi"
  | with_reducible apply Rd.forX
  | with_reducible apply Rd.lstRev
  | with_reducible apply Rd.lstRg
  | with_reducible apply Rd.rg1
  | with_reducible apply Rd.rg2
  | with_reducible apply Rd.exint2
  | ((with_reducible apply Rd.exrev); (walk_at "sq"))
  | with_reducible apply Rd.lcX
  | with_reducible apply Rd.yes
  | ((with_reducible apply Rd.exrng1); (constructor <;> omega))
  | ((with_reducible apply Rd.exrng2); (refine ⟨?_, ?_, ?_, ?_⟩ <;> omega))
  | with_reducible apply Rd.irng2
  | ((with_reducible apply Rd.aug); rfl)
  | ((with_reducible apply Rd.exlst); (walk_at "sq"))
  | ((with_reducible apply Rd.gtup); (walk_at "st"); (rfl))
  | ((with_reducible apply Rd.tyL); (walk_at "hp"))
  | ((with_reducible apply Rd.ixL); (walk_at "sq"); (rfl))
  | ((with_reducible apply Rd.ixI); (walk_at "sq"); (omega); (first | assumption | (simp only [List.length_map]; omega)); (intro _ _))
  | (with_reducible refine Rd.gsub ?_)
  | ((with_reducible apply Rd.setL); (walk_at "hp"); (rfl); ((dsimp only [List.set, L2.wipe, Int.reduceToNat]) <;> rfl))
  | ((with_reducible apply Rd.lenQ); (first | exact Or.inl (by walk_at "sq") | exact Or.inr (by walk_at "st")))
  | ((with_reducible apply Rd.listQ); (first | exact Or.inl (by walk_at "sq") | exact Or.inr (by walk_at "st")))
  | ((with_reducible apply Rd.tupQ); (walk_at "sq"))
  | ((with_reducible apply Rd.slL); (walk_at "sq"))
  | ((with_reducible apply Rd.ixT); (walk_at "st"); (rfl))
  | (with_reducible refine Rd.iteB (fun _ => ?_) (fun _ => ?_))
  | (with_reducible refine Rd.iteNB (fun _ => ?_) (fun _ => ?_))
  | (refine Rd.andI (Nat.le_of_ble_eq_true rfl) ?_)
  | dsimp only [List.set])
local macro_rules | `(tactic| walk_at "hp") => `(tactic| first
  | assumption
  | exact upd_same
  | (refine Eq.trans (upd_ne (by first | assumption | (apply Ne.symm; assumption))) ?_; walk_at "hp")
  | (refine hpS (by assumption) ?_; walk_at "hp"))
local macro_rules | `(tactic| walk_at "al") => `(tactic| (with_reducible intro l hl; generalize hG : upd _ l _ = G; have hs := newOne hl hG; clear hG; obtain ⟨hs, he⟩ := hs))
local macro_rules | `(tactic| walk_at "rd") => `(tactic| first
  | walk_at "al"
  | ((with_reducible apply Rd.cat); (walk_at "hp"); (walk_at "hp"); (exact Nat.le_of_ble_eq_true rfl)))
local macro_rules | `(tactic| walk_at "sm") => `(tactic| first
  | assumption
  | exact Same.refl _
  | (refine Same.trans ?_ (by assumption); walk_at "sm"))
local macro_rules | `(tactic| walk_at "fr") => `(tactic| first
  | assumption
  | (refine Same.free (by assumption) ?_; walk_at "fr"))
local macro_rules | `(tactic| walk_at "ty") => `(tactic| first
  | exact dv_ty (by assumption)
  | exact tyD' (by walk_at "hp"))
local macro_rules | `(tactic| walk_at "sz") => `(tactic| first
  | exact sz5 (by omega)
  | (simp only [add_len, one_len]; exact sz5 (by omega)))
local macro_rules | `(tactic| walk_at "rd") => `(tactic| first
  | with_reducible apply Rd.istr
  | with_reducible apply Rd.exstr
  | with_reducible apply Rd.leA
  | with_reducible apply Rd.leZz
  | with_reducible apply Rd.le0
  | with_reducible apply Rd.le9
  | with_reducible apply Rd.niZ
  | ((with_reducible apply Rd.lenZ); (walk_at "sz"))
  | ((with_reducible apply Rd.slZ); (walk_at "sz"))
  | ((with_reducible apply Rd.addZ); (walk_at "sz"))
  | with_reducible apply Rd.raiseX
  | with_reducible apply Rd.exone
  | with_reducible apply Rd.callS
  | with_reducible apply Rd.callP
  | with_reducible apply Rd.xsX
  | with_reducible apply Rd.dnewX
  | with_reducible apply Rd.tyZ)
local macro_rules | `(tactic| walk_at "rd") => `(tactic| first
  | with_reducible apply Rd.seq
  | ((with_reducible apply Rd.var); rfl)
  | with_reducible apply Rd.con
  | with_reducible apply Rd.op
  | with_reducible apply Rd.cons
  | with_reducible apply Rd.nil
  | with_reducible apply Rd.asg
  | ((with_reducible apply Rd.gname); ((dsimp only [List.set, L2.wipe, Int.reduceToNat]) <;> rfl))
  | with_reducible apply Rd.nxt
  | with_reducible apply Rd.ifs
  | with_reducible apply Rd.test
  | with_reducible apply Rd.ret
  | with_reducible apply Rd.call
  | with_reducible apply Rd.cb)
open Ty Ln
section
variable {P : Program} {w : World} {K : PySem.W.Frag} {mg : Str → Option Value} {base : Heap} {D : Str → Addr}
/-- behind k rounds: all counts are at most k, what counts less is done -/
structure LInv (nb : Str → List Str) (h : Str) (ms : List Str) (c : Str → Nat) (k : Nat) : Prop where
  nd : ms.Nodup
  src : h ∈ ms
  c0 : c h = 0
  le : ∀ x ∈ ms, c x ≤ k
  cl : ∀ x ∈ ms, c x < k → ∀ y ∈ nb x, y ∈ ms ∧ c y ≤ c x + 1
  pre : ∀ x ∈ ms, x ≠ h → ∃ y ∈ ms, x ∈ nb y ∧ c x = c y + 1
  ln : k < ms.length
theorem LInv.start (nb : Str → List Str) (h : Str) : LInv nb h [h] (fun _ => 0) 0 where
  nd := by simp
  src := .head _
  c0 := rfl
  le := fun _ _ => Nat.le_refl _
  cl := fun _ _ h => absurd h (Nat.lt_irrefl _)
  pre := fun x hx n => absurd (List.mem_singleton.mp hx) n
  ln := Nat.one_pos
/-- the news nl of a round: new houses beside those with count k, all of them -/
structure News (nb : Str → List Str) (ms : List Str) (c : Str → Nat) (k : Nat) (nl : List Str) : Prop where
  fresh : ∀ y ∈ nl, y ∉ ms ∧ ∃ x ∈ ms, c x = k ∧ y ∈ nb x
  all : ∀ x ∈ ms, c x = k → ∀ y ∈ nb x, y ∉ ms → y ∈ nl
theorem LInv.done {nb : Str → List Str} {h : Str} {ms : List Str} {c : Str → Nat} {k : Nat} (v : LInv nb h ms c k) (n : News nb ms c k []) : Bfs nb h ms c where
  nd := v.nd
  src := v.src
  c0 := v.c0
  cl := fun x hx y hy => by
    have hk := v.le x hx
    by_cases e : c x < k
    · exact v.cl x hx e y hy
    · have e : c x = k := by omega
      by_cases m : y ∈ ms
      · have := v.le y m
        exact ⟨m, by omega⟩
      · exact absurd (n.all x hx e y hy m) (fun h => nomatch h)
  pre := v.pre
  lt := fun x hx => Nat.lt_of_le_of_lt (v.le x hx) v.ln
theorem LInv.next {nb : Str → List Str} {h : Str} {ms ks nl : List Str} {c : Str → Nat} {k : Nat} (v : LInv nb h ms c k) (n : News nb ms c k nl) (ne : nl ≠ []) (nd : ks.Nodup) (mk : ∀ z, z ∈ ks ↔ z ∈ ms ∨ z ∈ nl) : LInv nb h ks (fun z => if z ∈ nl then k + 1 else c z) (k + 1) := by
  have old : ∀ {x}, x ∈ ms → (if x ∈ nl then k + 1 else c x) = c x := fun m => if_neg fun q => (n.fresh _ q).1 m
  refine ⟨nd, (mk h).mpr (.inl v.src), (old v.src).trans v.c0, fun x hx => ?_, fun x hx lx y hy => ?_, fun x hx nx => ?_, ?_⟩
  · rcases (mk x).mp hx with m | m
    · rw [old m]
      exact Nat.le_succ_of_le (v.le x m)
    · rw [if_pos m]
      exact Nat.le_refl _
  · have mx : x ∈ ms := by
      rcases (mk x).mp hx with m | m
      · exact m
      · rw [if_pos m] at lx
        exact absurd lx (Nat.lt_irrefl _)
    rw [old mx] at lx ⊢
    by_cases my : y ∈ ms
    · rw [old my]
      refine ⟨(mk y).mpr (.inl my), ?_⟩
      by_cases e : c x < k
      · exact (v.cl x mx e y hy).2
      · have := v.le y my
        omega
    · have e : c x = k := by
        by_cases e : c x < k
        · exact absurd (v.cl x mx e y hy).1 my
        · omega
      have m := n.all x mx e y hy my
      rw [if_pos m]
      exact ⟨(mk y).mpr (.inr m), by omega⟩
  · rcases (mk x).mp hx with m | m
    · obtain ⟨y, my, h1, h2⟩ := v.pre x m nx
      exact ⟨y, (mk y).mpr (.inl my), h1, by rw [old m, old my]; exact h2⟩
    · obtain ⟨_, y, my, e, h1⟩ := n.fresh x m
      exact ⟨y, (mk y).mpr (.inl my), h1, by rw [if_pos m, old my, e]⟩
  · obtain ⟨y, my⟩ := List.exists_mem_of_ne_nil _ ne
    have : (ms ++ [y]).length ≤ ks.length := by
      refine nodup_leH ?_ fun z hz => ?_
      · refine List.nodup_append.mpr ⟨v.nd, by simp, fun p hp q hq e => ?_⟩
        rw [List.mem_singleton.mp hq] at e
        exact (n.fresh y my).1 (e ▸ hp)
      · rcases List.mem_append.mp hz with hz | hz
        · exact (mk z).mpr (.inl hz)
        · rw [List.mem_singleton.mp hz]
          exact (mk y).mpr (.inr my)
    rw [List.length_append] at this
    have := v.ln
    have h1 : ([y] : List Str).length = 1 := rfl
    omega
theorem Bfs.mem {nb : Str → List Str} {h : Str} {ms ks : List Str} {c : Str → Nat} (b : Bfs nb h ms c) (nd : ks.Nodup) (m : ∀ z, z ∈ ks ↔ z ∈ ms) : Bfs nb h ks c where
  nd := nd
  src := (m h).mpr b.src
  c0 := b.c0
  cl := fun x hx y hy => by
    obtain ⟨k1, k2⟩ := b.cl x ((m x).mp hx) y hy
    exact ⟨(m y).mpr k1, k2⟩
  pre := fun x hx n => by
    obtain ⟨y, k1, k2⟩ := b.pre x ((m x).mp hx) n
    exact ⟨y, (m y).mpr k1, k2⟩
  lt := fun x hx => Nat.lt_of_lt_of_le (b.lt x ((m x).mp hx)) (nodup_leH b.nd fun z hz => (m z).mpr hz)
theorem nb_ends {us : List (Str × Str × Str)} {t : Str × Str × Str} (m : t ∈ us) : t.2.2 ∈ (stepsOf us t.2.1).map (·.2) ∧ t.2.1 ∈ (stepsOf us t.2.2).map (·.2) :=
  ⟨List.mem_map.mpr ⟨(t.1, t.2.2), stepsOf_mem.mpr ⟨t, m, rfl, .inl ⟨rfl, rfl⟩⟩, rfl⟩, List.mem_map.mpr ⟨(t.1, t.2.1), stepsOf_mem.mpr ⟨t, m, rfl, .inr ⟨rfl, rfl⟩⟩, rfl⟩⟩
/-- _law_steps_from(houses, lines, a) -/
def spStepsFrom (K : PySem.W.Frag) : Sp := fun vs H Q _ => ∃ (h l : Addr) (a : Str) (zs : List Str) (us : List (Str × Str × Str)), vs = [.ref h, .ref l, .str a] ∧ H h = some (.lst (zs.map V.str)) ∧ WL H l (us.map tr) ∧ zs.length ≤ 1000 ∧ us.length ≤ 1000 ∧ zs.Nodup ∧ a ∈ zs ∧ (∀ t ∈ us, t.2.1 ∈ zs ∧ t.2.2 ∈ zs) ∧
  ∀ (p : Addr) (ks : List Str) (c : Str → Nat) (H' : Hp), Bfs (fun y => (stepsOf us y).map (·.2)) a ks c → (∀ x ∈ ks, x ∈ zs) → H p = none → Same H H' → H' p = some (.dK (kd ks fun z => .int (c z))) → Q (.ref p) H'
local macro_rules | `(tactic| walk_at "rd") => `(tactic| first
  | with_reducible apply Kj.dgetXs
  | with_reducible apply Kj.dinXa
  | with_reducible apply Kj.dniX)
theorem ok__law_steps_from (F : Def K mg "_law_steps_from" s__law_steps_from P__law_steps_from) (m_range : mg "range" = none) (m_len : mg "len" = none) : Cal P w K mg base 1 "_law_steps_from" P__law_steps_from (spStepsFrom K) := by
  refine F.ok sc__law_steps_from (fun vs H Q E h => ?_) (fun f cdv A outer s H vs Q E hr h => ?_)
  · obtain ⟨h, l, a, zs, us, rfl, _⟩ := h
    rfl
  obtain ⟨h, l, a, zs, us, rfl, eh, ⟨ls, el, hls⟩, lz, lu, nd, ma, en, q⟩ := h
  refine ⟨_, (pss_cons (ps_if (pt_cmpR op_notIn_seq (pv 2 (hd := nd_a) (hcd := nc_a)) (pv 0 (hd := nd_houses) (hcd := nc_houses)) (by rfl)) (pss_one (ps_ret pe_dnewK)) pss_nil)
  (pss_cons (ps_set (i := 3) sc__law_steps_from.nd rfl (Or.inl rfl) (pe_disp (pps_cons (pv 2 (hd := nd_a) (hcd := nc_a)) pe_int pps_nil) (by rfl) (by rfl) (by intro z; cases z) (by decide)))
  (pss_cons (ps_for PassesOwn.never rfl (pi_range1 (by rfl) m_range (pa_cons (pe_callB q_len (by rfl) m_len PySem.boot_len (pa_cons (pv 0 (hd := nd_houses) (hcd := nc_houses)) pa_nil) (hn := nn_len) (hdb := nd_len)) pa_nil)) (pg_name (i := 4) sc__law_steps_from.nd rfl (Or.inl rfl)) (pss_cons (ps_set (i := 5) sc__law_steps_from.nd rfl (Or.inl rfl) (pe_lst pa_nil))
  (pss_cons (ps_for PassesOwn.never rfl (pi_list (pv 1 (hd := nd_lines) (hcd := nc_lines))) (pg_name (i := 6) sc__law_steps_from.nd rfl (Or.inl rfl)) (C8.pss_cut (ps_if (PW.pt (pw_and (pt_cmp (pc_din (un1 hr) (pe_ix ix_tup (pv 6 (hd := nd_line) (hcd := nc_line)) pe_int (fun _ _ => rfl)) (pv 3 (hd := nd_counts) (hcd := nc_counts)))) (pw_and (pt_cmp (pc_dnotin (un1 hr) (pe_ix ix_tup (pv 6 (hd := nd_line) (hcd := nc_line)) pe_int (fun _ _ => rfl)) (pv 3 (hd := nd_counts) (hcd := nc_counts)))) (pw_and1 (pt_cmpR op_eq (pe_dget (un1 hr) (pv 3 (hd := nd_counts) (hcd := nc_counts)) (pe_ix ix_tup (pv 6 (hd := nd_line) (hcd := nc_line)) pe_int (fun _ _ => rfl)) (fun _ _ => rfl)) (pv 4 (hd := nd_k) (hcd := nc_k)) (nomark _)))))) (pss_one (ps_expr (pe_bm PySem.F.plainAttrs_list PySem.F.slot_list_append PySem.F.type_list_append mt_append (pv 5 (hd := nd_news) (hcd := nc_news)) (pa_cons (pe_ix ix_tup (pv 6 (hd := nd_line) (hcd := nc_line)) pe_int (fun _ _ => rfl)) pa_nil)))) pss_nil)
  (pss_one (ps_if (PW.pt (pw_and (pt_cmp (pc_din (un1 hr) (pe_ix ix_tup (pv 6 (hd := nd_line) (hcd := nc_line)) pe_int (fun _ _ => rfl)) (pv 3 (hd := nd_counts) (hcd := nc_counts)))) (pw_and (pt_cmp (pc_dnotin (un1 hr) (pe_ix ix_tup (pv 6 (hd := nd_line) (hcd := nc_line)) pe_int (fun _ _ => rfl)) (pv 3 (hd := nd_counts) (hcd := nc_counts)))) (pw_and1 (pt_cmpR op_eq (pe_dget (un1 hr) (pv 3 (hd := nd_counts) (hcd := nc_counts)) (pe_ix ix_tup (pv 6 (hd := nd_line) (hcd := nc_line)) pe_int (fun _ _ => rfl)) (fun _ _ => rfl)) (pv 4 (hd := nd_k) (hcd := nc_k)) (nomark _)))))) (pss_one (ps_expr (pe_bm PySem.F.plainAttrs_list PySem.F.slot_list_append PySem.F.type_list_append mt_append (pv 5 (hd := nd_news) (hcd := nc_news)) (pa_cons (pe_ix ix_tup (pv 6 (hd := nd_line) (hcd := nc_line)) pe_int (fun _ _ => rfl)) pa_nil)))) pss_nil))))
  (pss_cons (ps_for PassesOwn.never rfl (pi_list (pv 5 (hd := nd_news) (hcd := nc_news))) (pg_name (i := 7) sc__law_steps_from.nd rfl (Or.inl rfl)) (pss_one (ps_asg (pe_op op_add (pv 4 (hd := nd_k) (hcd := nc_k)) pe_int) (pg_sub (pv 3 (hd := nd_counts) (hcd := nc_counts)) (pv 7 (hd := nd_house) (hcd := nc_house)) (set_dict (un1 hr))))))
  (pss_one (ps_if (pt_cmpR op_eq (pe_callB q_len (by rfl) m_len PySem.boot_len (pa_cons (pv 5 (hd := nd_news) (hcd := nc_news)) pa_nil) (hn := nn_len) (hdb := nd_len)) pe_int (nomark _)) (pss_one (ps_ret (pv 3 (hd := nd_counts) (hcd := nc_counts)))) pss_nil))))))
  (pss_one (ps_ret (pv 3 (hd := nd_counts) (hcd := nc_counts))))))), ?_⟩
  refine Rd.at0 (σ := [some (.ref h), some (.ref l), some (.str a), none, none, none, none, none]) rfl ?_
  have lls : ls.length = us.length := by rw [hls.len, List.length_map]
  have lmz : (zs.map V.str).length = zs.length := List.length_map ..
  repeat' (walk_at "rd")
  refine ⟨h, _, rfl, .inl (.inl (.inl eh)), rfl, flat_strs zs, ?_⟩
  rw [if_pos rfl, inV_strs, decide_eq_true ma]
  repeat' (walk_at "rd")
  refine dispX fun C nC => ⟨.str a, rfl, upd_same, [(.inr a, .int 0)], rfl, (show 1 ≤ 15 by decide), ?_⟩
  rw [upd_upd]
  have sC : Same H (upd H C (.dK (mergeK [] [(Sum.inr a, V.int 0)]))) := same_upd nC
  have eC : upd H C (.dK (mergeK [] [(Sum.inr a, V.int 0)])) C = some (.dK (kd [a] fun z => .int (((fun _ => 0 : Str → Nat) z : Nat) : Int))) := upd_same
  generalize upd H C (.dK (mergeK [] [(Sum.inr a, V.int 0)])) = G at *
  have eh1 := sC _ _ eh
  have iv := LInv.start (fun y => (stepsOf us y).map (·.2)) a
  repeat' (walk_at "rd")
  refine forR (fun i σ H' => ∃ (ms : List Str) (c : Str → Nat) (v4 v5 v6 v7 : Option V), σ = [some (.ref h), some (.ref l), some (.str a), some (.ref C), v4, v5, v6, v7] ∧ LInv (fun y => (stepsOf us y).map (·.2)) a ms c i ∧ (∀ x ∈ ms, x ∈ zs) ∧ H' C = some (.dK (kd ms fun z => .int (c z))) ∧ Same H H') ⟨[a], _, none, none, none, none, rfl, iv, (fun x hx => by rw [List.mem_singleton.mp hx]; exact ma), eC, sC⟩ ?_ ?_
  · rintro i σ H' hi ⟨ms, c, v4, v5, v6, v7, rfl, v, sub, eC', s'⟩
    have hi : i < zs.length := by omega
    have lms : ms.length ≤ zs.length := nodup_leH v.nd sub
    repeat' (walk_at "rd")
    rename_i N nN G1 s1 eN
    have eC1 := s1 _ _ eC'
    have el1 := s1 _ _ (s' _ _ el)
    repeat' (walk_at "rd")
    have el' := s' _ _ el
    refine forL ls (fun j σ G => ∃ (nl : List Str) (v6 : Option V), σ = [some (.ref h), some (.ref l), some (.str a), some (.ref C), some (.int (0 + (i : Int))), some (.ref N), v6, v7] ∧ Same H' G ∧ G N = some (.lst (nl.map V.str)) ∧ nl.length ≤ 2 * j ∧ (∀ y ∈ nl, y ∉ ms ∧ ∃ x ∈ ms, c x = i ∧ y ∈ (stepsOf us x).map (·.2)) ∧
      ∀ t ∈ us.take j, (t.2.1 ∈ ms → t.2.2 ∉ ms → c t.2.1 = i → t.2.2 ∈ nl) ∧ (t.2.2 ∈ ms → t.2.1 ∉ ms → c t.2.2 = i → t.2.1 ∈ nl)) ⟨[], _, rfl, s1, eN, Nat.zero_le _, (fun _ h => nomatch h), fun _ h => nomatch h⟩ (fun _ _ _ _ ⟨_, _, _, s, _⟩ => .inl (.inl (s _ _ el'))) ?_ ?_
    · rintro j x σ G hx ⟨nl, v6, rfl, sN, eN', ln, fr, al⟩
      obtain ⟨k, ek, ok, t, rfl, et⟩ := hls.at hx
      rw [List.getElem?_map] at ek
      obtain ⟨u, eu, rfl⟩ := Option.map_eq_some_iff.mp ek
      have lj := (List.getElem?_eq_some_iff.mp hx).1
      have et' : G t = some (.tup [.str u.1, .str u.2.1, .str u.2.2]) := sN _ _ (s' _ _ et)
      have eCr := sN _ _ eC'
      have mu := List.mem_of_getElem? eu
      have tk : us.take (j + 1) = us.take j ++ [u] := by rw [List.take_add_one, eu]; rfl
      repeat' (walk_at "rd")
      refine Rd.cut (fun σ' G => ∃ nl2 : List Str, σ' = [some (.ref h), some (.ref l), some (.str a), some (.ref C), some (.int (0 + (i : Int))), some (.ref N), some (.ref t), v7] ∧ Same H' G ∧ G N = some (.lst (nl2.map V.str)) ∧ (∀ y ∈ nl, y ∈ nl2) ∧ (∀ y ∈ nl2, y ∉ ms ∧ ∃ x ∈ ms, c x = i ∧ y ∈ (stepsOf us x).map (·.2)) ∧ nl2.length ≤ nl.length + 1 ∧ (u.2.1 ∈ ms → u.2.2 ∉ ms → c u.2.1 = i → u.2.2 ∈ nl2)) ?_ ?_
      · have fin : ∀ (n2 : List Str) (F : Hp), Same H' F → F N = some (.lst (n2.map V.str)) → (∀ y ∈ nl, y ∈ n2) → (∀ y ∈ n2, y ∉ ms ∧ ∃ x ∈ ms, c x = i ∧ y ∈ (stepsOf us x).map (·.2)) → n2.length ≤ nl.length + 1 → (u.2.1 ∈ ms → u.2.2 ∉ ms → c u.2.1 = i → u.2.2 ∈ n2) → ∃ nl2 : List Str, [some (.ref h), some (.ref l), some (.str a), some (.ref C), some (.int (0 + (i : Int))), some (.ref N), some (.ref t), v7] = [some (.ref h), some (.ref l), some (.str a), some (.ref C), some (.int (0 + (i : Int))), some (.ref N), some (.ref t), v7] ∧ Same H' F ∧ F N = some (.lst (nl2.map V.str)) ∧ (∀ y ∈ nl, y ∈ nl2) ∧ (∀ y ∈ nl2, y ∉ ms ∧ ∃ x ∈ ms, c x = i ∧ y ∈ (stepsOf us x).map (·.2)) ∧ nl2.length ≤ nl.length + 1 ∧ (u.2.1 ∈ ms → u.2.2 ∉ ms → c u.2.1 = i → u.2.2 ∈ nl2) := fun n2 F a b c d e k => ⟨n2, rfl, a, b, c, d, e, k⟩
        repeat' (walk_at "rd")
        -- u.2.1 stands in counts with this count, u.2.2 does not; nl the list so far; (nb_ends mu).1: neighbours; fin: what is to be shown
        by_cases m1 : u.2.1 ∈ ms
        rotate_left
        · refine dinC eCr ?_
          rw [decide_eq_false m1]
          repeat' (walk_at "rd")
          exact fin nl _ sN eN' (fun y hy => hy) fr (Nat.le_succ _) (fun m => absurd m m1)
        refine dinC eCr ?_
        rw [decide_eq_true m1]
        repeat' (walk_at "rd")
        refine dniC eCr ?_
        by_cases m2 : u.2.2 ∈ ms
        · rw [decide_eq_true m2]
          repeat' (walk_at "rd")
          exact fin nl _ sN eN' (fun y hy => hy) fr (Nat.le_succ _) (fun _ m => absurd m2 m)
        rw [decide_eq_false m2]
        repeat' (walk_at "rd")
        refine ⟨C, _, rfl, .inl ⟨_, Sum.inr u.2.1, .inl eCr, rfl, (kd_get m1).symm⟩, ?_⟩
        repeat' (walk_at "rd")
        · rename_i e
          have e : c u.2.1 = i := by omega
          refine append eN' (sz5' (by rw [List.length_map]; omega)) ?_
          repeat' (walk_at "rd")
          refine fin (nl ++ [u.2.2]) _ (fun b o e => (upd_ne (ne_of_none e nN)).trans (sN _ _ e)) ?_ (fun y hy => List.mem_append_left _ hy) (fun y hy => ?_) (by rw [List.length_append]; exact Nat.le_refl _) (fun _ _ _ => List.mem_append_right _ (.head _))
          · rw [upd_same, List.map_append]
            rfl
          · rcases List.mem_append.mp hy with hy | hy
            · exact fr y hy
            · rw [List.mem_singleton.mp hy]
              exact ⟨m2, u.2.1, m1, e, (nb_ends mu).1⟩
        · rename_i e
          exact fin nl _ sN eN' (fun y hy => hy) fr (Nat.le_succ _) (fun _ _ k => absurd (by omega) e)
      clear et' eCr sN eN'
      rintro σ' G2 ⟨nl2, rfl, sN, eN', sub2, fr, ln2, k1⟩
      have et' : G2 t = some (.tup [.str u.1, .str u.2.1, .str u.2.2]) := sN _ _ (s' _ _ et)
      have eCr := sN _ _ eC'
      have fin : ∀ (n3 : List Str) (F : Hp), Same H' F → F N = some (.lst (n3.map V.str)) → (∀ y ∈ nl2, y ∈ n3) → (∀ y ∈ n3, y ∉ ms ∧ ∃ x ∈ ms, c x = i ∧ y ∈ (stepsOf us x).map (·.2)) → n3.length ≤ nl2.length + 1 → (u.2.2 ∈ ms → u.2.1 ∉ ms → c u.2.2 = i → u.2.1 ∈ n3) → ∃ (nl : List Str) (v6 : Option V), [some (.ref h), some (.ref l), some (.str a), some (.ref C), some (.int (0 + (i : Int))), some (.ref N), some (.ref t), v7] = [some (.ref h), some (.ref l), some (.str a), some (.ref C), some (.int (0 + (i : Int))), some (.ref N), v6, v7] ∧ Same H' F ∧ F N = some (.lst (nl.map V.str)) ∧ nl.length ≤ 2 * (j + 1) ∧ (∀ y ∈ nl, y ∉ ms ∧ ∃ x ∈ ms, c x = i ∧ y ∈ (stepsOf us x).map (·.2)) ∧
          ∀ t ∈ us.take (j + 1), (t.2.1 ∈ ms → t.2.2 ∉ ms → c t.2.1 = i → t.2.2 ∈ nl) ∧ (t.2.2 ∈ ms → t.2.1 ∉ ms → c t.2.2 = i → t.2.1 ∈ nl) := fun n3 F sN3 eN3 sub3 fr3 ln3 k3 => by
        refine ⟨n3, _, rfl, sN3, eN3, by omega, fr3, fun q hq => ?_⟩
        rw [tk] at hq
        rcases List.mem_append.mp hq with hq | hq
        · obtain ⟨q1, q2⟩ := al q hq
          exact ⟨fun a b c => sub3 _ (sub2 _ (q1 a b c)), fun a b c => sub3 _ (sub2 _ (q2 a b c))⟩
        · rw [List.mem_singleton.mp hq]
          exact ⟨fun a b c => sub3 _ (k1 a b c), k3⟩
      repeat' (walk_at "rd")
      -- u.2.2 stands in counts with this count, u.2.1 does not; nl2 the list so far; (nb_ends mu).2: neighbours; fin: what is to be shown
      by_cases m1 : u.2.2 ∈ ms
      rotate_left
      · refine dinC eCr ?_
        rw [decide_eq_false m1]
        repeat' (walk_at "rd")
        exact fin nl2 _ sN eN' (fun y hy => hy) fr (Nat.le_succ _) (fun m => absurd m m1)
      refine dinC eCr ?_
      rw [decide_eq_true m1]
      repeat' (walk_at "rd")
      refine dniC eCr ?_
      by_cases m2 : u.2.1 ∈ ms
      · rw [decide_eq_true m2]
        repeat' (walk_at "rd")
        exact fin nl2 _ sN eN' (fun y hy => hy) fr (Nat.le_succ _) (fun _ m => absurd m2 m)
      rw [decide_eq_false m2]
      repeat' (walk_at "rd")
      refine ⟨C, _, rfl, .inl ⟨_, Sum.inr u.2.2, .inl eCr, rfl, (kd_get m1).symm⟩, ?_⟩
      repeat' (walk_at "rd")
      · rename_i e
        have e : c u.2.2 = i := by omega
        refine append eN' (sz5' (by rw [List.length_map]; omega)) ?_
        repeat' (walk_at "rd")
        refine fin (nl2 ++ [u.2.1]) _ (fun b o e => (upd_ne (ne_of_none e nN)).trans (sN _ _ e)) ?_ (fun y hy => List.mem_append_left _ hy) (fun y hy => ?_) (by rw [List.length_append]; exact Nat.le_refl _) (fun _ _ _ => List.mem_append_right _ (.head _))
        · rw [upd_same, List.map_append]
          rfl
        · rcases List.mem_append.mp hy with hy | hy
          · exact fr y hy
          · rw [List.mem_singleton.mp hy]
            exact ⟨m2, u.2.2, m1, e, (nb_ends mu).2⟩
      · rename_i e
        exact fin nl2 _ sN eN' (fun y hy => hy) fr (Nat.le_succ _) (fun _ _ k => absurd (by omega) e)
    rintro σ G ⟨nl, v6, rfl, sN, eN', ln, fr, al⟩
    rw [List.take_of_length_le (by omega)] at al
    have nw : News (fun y => (stepsOf us y).map (·.2)) ms c i nl := ⟨fr, fun x mx e y hy my => by
      obtain ⟨q, hq, rfl⟩ := List.mem_map.mp hy
      obtain ⟨t, mt, _, k⟩ := stepsOf_mem.mp hq
      rcases k with ⟨e1, e2⟩ | ⟨e1, e2⟩
      · rw [← e2] at my ⊢
        exact (al t mt).1 (e1 ▸ mx) my (by rw [e1]; exact e)
      · rw [← e2] at my ⊢
        exact (al t mt).2 (e1 ▸ mx) my (by rw [e1]; exact e)⟩
    have nlz : ∀ y ∈ nl, y ∈ zs := fun y hy => by
      obtain ⟨_, x, _, _, hn⟩ := fr y hy
      obtain ⟨q, hq, rfl⟩ := List.mem_map.mp hn
      obtain ⟨t, mt, _, k⟩ := stepsOf_mem.mp hq
      rcases k with ⟨_, e2⟩ | ⟨_, e2⟩
      · rw [← e2]; exact (en t mt).2
      · rw [← e2]; exact (en t mt).1
    have nCN : N ≠ C := fun e => by rw [e, eC'] at nN; cases nN
    have sHG := s'.trans sN
    have eCG := sN _ _ eC'
    repeat' (walk_at "rd")
    refine forL (nl.map V.str) (fun j σ F => ∃ (ks : List Str) (f : Str → V) (v7 : Option V), σ = [some (.ref h), some (.ref l), some (.str a), some (.ref C), some (.int (0 + (i : Int))), some (.ref N), v6, v7] ∧ Same H F ∧ F N = some (.lst (nl.map V.str)) ∧ F C = some (.dK (kd ks f)) ∧ ks.Nodup ∧ (∀ z, z ∈ ks ↔ z ∈ ms ∨ z ∈ nl.take j) ∧ ∀ z ∈ ks, f z = .int ((if z ∈ nl.take j then i + 1 else c z : Nat) : Int)) ⟨ms, _, v7, rfl, sHG, eN', eCG, v.nd, (fun z => ⟨.inl, fun h => h.elim id (fun h => (nomatch h))⟩), fun z _ => rfl⟩ (fun _ _ _ _ ⟨_, _, _, _, _, e, _⟩ => .inl (.inl e)) ?_ ?_
    · rintro j x σ F hx ⟨ks, f, v7, rfl, sF, eNF, eCF, ndk, mk, ef⟩
      rw [List.getElem?_map] at hx
      obtain ⟨y, hy, rfl⟩ := Option.map_eq_some_iff.mp hx
      have tk : nl.take (j + 1) = nl.take j ++ [y] := by rw [List.take_add_one, hy]; rfl
      have lks : ks.length ≤ zs.length := nodup_leH ndk fun z hz => ((mk z).mp hz).elim (sub z) fun h => nlz z (List.mem_of_mem_take h)
      have vi : ∀ z, (if z = y then V.int (0 + (i : Int) + 1) else f z) = f z ∨ z = y := fun z => by
        by_cases e : z = y
        · exact .inr e
        · exact .inl (if_neg e)
      have ev : ∀ z, (z ∈ ks ∨ z = y) → (if z = y then V.int (0 + (i : Int) + 1) else f z) = .int ((if z ∈ nl.take (j + 1) then i + 1 else c z : Nat) : Int) := fun z hz => by
        by_cases e : z = y
        · rw [if_pos e, if_pos (by rw [tk, e]; exact List.mem_append_right _ (.head _))]
          congr 1
          omega
        · rw [if_neg e, ef z (hz.resolve_right e)]
          by_cases m : z ∈ nl.take j
          · rw [if_pos m, if_pos (by rw [tk]; exact List.mem_append_left _ m)]
          · rw [if_neg m, if_neg (by rw [tk]; intro h; rcases List.mem_append.mp h with h | h; exact m h; exact e (List.mem_singleton.mp h))]
      have mk2 : ∀ z, (z ∈ ks ∨ z = y) ↔ z ∈ ms ∨ z ∈ nl.take (j + 1) := fun z => by
        rw [tk, List.mem_append, List.mem_singleton, mk z, or_assoc]
      repeat' (walk_at "rd")
      by_cases m : y ∈ ks
      · refine dputK eCF m (by omega) ?_
        repeat' (walk_at "rd")
        refine ⟨ks, _, _, rfl, fun b o e => (upd_ne (ne_of_none e nC)).trans (sF _ _ e), (upd_ne nCN).trans eNF, upd_same, ndk, fun z => ?_, fun z hz => ev z (.inl hz)⟩
        rw [← mk2 z]
        exact ⟨.inl, fun h => h.elim id fun h => h ▸ m⟩
      · refine dnewK eCF m (by omega) ?_
        repeat' (walk_at "rd")
        refine ⟨ks ++ [y], _, _, rfl, fun b o e => (upd_ne (ne_of_none e nC)).trans (sF _ _ e), (upd_ne nCN).trans eNF, upd_same, List.nodup_append.mpr ⟨ndk, by simp, fun p hp q hq e => by rw [List.mem_singleton.mp hq] at e; exact m (e ▸ hp)⟩, fun z => ?_, fun z hz => ev z ?_⟩
        · rw [← mk2 z, List.mem_append, List.mem_singleton]
        · rcases List.mem_append.mp hz with h | h
          · exact .inl h
          · exact .inr (List.mem_singleton.mp h)
    rintro σ F ⟨ks, f, v7, rfl, sF, eNF, eCF, ndk, mk, ef⟩
    rw [List.length_map, List.take_length] at mk ef
    have lks : ∀ z ∈ ks, z ∈ zs := fun z hz => ((mk z).mp hz).elim (sub z) fun h => nlz z h
    repeat' (walk_at "rd")
    · rename_i e0
      have e0 : nl = [] := by
        rw [List.length_map] at e0
        exact List.length_eq_zero_iff.mp (by omega)
      subst e0
      have B := (v.done nw).mem ndk fun z => by rw [mk z]; exact ⟨fun h => h.elim id (fun h => (nomatch h)), .inl⟩
      refine q C ks c F B lks nC sF ?_
      rw [eCF, kd_congr fun z hz => ?_]
      rw [ef z hz, if_neg (fun h => nomatch h)]
    · rename_i e0
      have ne : nl ≠ [] := fun e => e0 (by rw [e]; rfl)
      refine ⟨ks, _, _, _, _, _, rfl, v.next nw ne ndk mk, lks, ?_, sF⟩
      rw [eCF, kd_congr fun z hz => ef z hz]
  · rintro σ H' ⟨ms, c, v4, v5, v6, v7, rfl, v, sub, eC', s'⟩
    exfalso
    have lms : ms.length ≤ zs.length := nodup_leH v.nd sub
    have := v.ln
    omega
end
end Kj
namespace Kj
open PySem PySem.Spec PyProof.Rows L2 Rd
local macro_rules | `(tactic| walk_at "hp") => `(tactic| first
  | assumption
  | exact upd_same
  | (refine Eq.trans (upd_ne (by first | assumption | (apply Ne.symm; assumption))) ?_; walk_at "hp"))
local macro_rules | `(tactic| walk_at "sq") => `(tactic| first
  | assumption
  | (refine Or.inl (Or.inl ?_); walk_at "hp"))
local macro_rules | `(tactic| walk_at "st") => `(tactic| first
  | assumption
  | (refine Or.inl (Or.inl ?_); walk_at "hp"))
local macro_rules | `(tactic| walk_at "ar") => `(tactic| first
  | assumption
  | omega
  | decide)
local macro_rules | `(tactic| walk_at "ci") => `(tactic| first
  | (refine (show CMul _ _ from Or.inr ⟨?_, ?_⟩) <;> omega)
  | (refine (show CMul _ _ from Or.inl ⟨?_, ?_⟩) <;> omega)
  | (show CPow _ _; exact ⟨by decide, by decide, by decide⟩)
  | (refine wide_div (b := 63) ?_ ?_ (by decide) (by decide) <;> omega)
  | (show (0 : Int) < _; omega))
local macro_rules | `(tactic| walk_at "ty") => `(tactic| first
  | exact dp_ty (by assumption)
  | exact TyX.base (TyOf.int _)
  | exact TyX.base (TyOf.str _)
  | exact TyX.base (TyOf.bl _)
  | exact TyX.base TyOf.non
  | exact tyL' (by walk_at "sq")
  | exact tyT' (by walk_at "st"))
local macro_rules | `(tactic| walk_at "isi") => `(tactic| first
  | ((with_reducible apply Rd.isiF); (walk_at "ty"); (decide))
  | ((with_reducible apply Rd.isiT); (walk_at "ty"); (decide)))
local macro_rules | `(tactic| walk_at "rd") => `(tactic| first
  | with_reducible apply Rd.seq
  | ((with_reducible apply Rd.var); rfl)
  | with_reducible apply Rd.con
  | with_reducible apply Rd.op
  | with_reducible apply Rd.asg
  | ((with_reducible apply Rd.gname); ((dsimp only [List.set, L2.wipe, Int.reduceToNat]) <;> rfl))
  | with_reducible apply Rd.nxt
  | with_reducible apply Rd.ifs
  | with_reducible apply Rd.test
  | with_reducible apply Rd.testB
  | with_reducible apply Rd.exbl
  | with_reducible apply Rd.ret
  | with_reducible apply Rd.drop
  | with_reducible apply Rd.retN
  | with_reducible apply Rd.nil
  | with_reducible apply Rd.cons
  | with_reducible apply Rd.call
  | with_reducible apply Rd.cb
  | with_reducible apply Rd.and
  | with_reducible apply Rd.or
  | with_reducible apply Rd.not
  | with_reducible apply Rd.andV
  | with_reducible apply Rd.orV
  | with_reducible apply Rd.notV
  | with_reducible apply Rd.ife
  | with_reducible apply Rd.tup
  | with_reducible apply Rd.lst
  | with_reducible apply Rd.un
  | with_reducible apply Rd.chain
  | with_reducible apply Rd.brk
  | with_reducible apply Rd.cnt
  | with_reducible apply Rd.I0
  | with_reducible apply Rd.U1
  | ((with_reducible apply Rd.eq); rfl)
  | ((with_reducible apply Rd.ne); rfl)
  | ((with_reducible apply Rd.I1); (walk_at "ci"))
  | with_reducible apply Rd.lc0
  | with_reducible apply Rd.ln0
  | with_reducible apply Rd.exN
  | ((with_reducible apply Rd.iteSf); (decide +kernel))
  | ((with_reducible apply Rd.iteSt); (decide +kernel))
  | ((with_reducible apply Rd.niQ); (exact Or.inl (by walk_at "sq")); (exact ⟨rfl, rfl⟩); (rfl))
  | ((with_reducible apply Rd.inQ); (exact Or.inl (by walk_at "sq")); (exact ⟨rfl, rfl⟩); (rfl))
  | with_reducible apply Rd.rn1
  | with_reducible apply Rd.in1
  | with_reducible apply Rd.sn1
  | with_reducible apply Rd.bn1
  | with_reducible apply Rd.nn1
  | with_reducible apply Rd.rn2
  | with_reducible apply Rd.in2
  | with_reducible apply Rd.sn2
  | with_reducible apply Rd.bn2
  | with_reducible apply Rd.nn2
  | with_reducible apply Rd.nt1
  | with_reducible apply Rd.nf1
  | (with_reducible refine Rd.iteI (fun _ => ?_) (fun _ => ?_))
  | (with_reducible refine Rd.iteNI (fun _ => ?_) (fun _ => ?_))
  | (with_reducible refine iteT ?_)
  | (with_reducible refine iteF ?_)
  | (with_reducible refine Rd.iteD (fun _ => ?_) (fun _ => ?_))
  | (with_reducible refine Rd.iteN (fun _ => ?_) (fun _ => ?_))
  | with_reducible apply Rd.intI
  | with_reducible apply Rd.intB
  | with_reducible apply Rd.maxQ
  | with_reducible apply Rd.minQ
  | with_reducible apply Rd.absQ
  | with_reducible apply Rd.isN
  | with_reducible apply Rd.noN
  | with_reducible apply Rd.ltZ
  | with_reducible apply Rd.bm
  | with_reducible apply Rd.bm0
  | with_reducible apply Rd.par
  | with_reducible apply Rd.expar
  | with_reducible apply Rd.exint
  | with_reducible apply Rd.ipi
  | with_reducible apply Rd.slice
  | with_reducible apply Rd.noPart
  | with_reducible apply Rd.part
  | with_reducible apply Rd.gcons
  | with_reducible apply Rd.gnil
  | with_reducible apply Rd.iseq
  | with_reducible apply Rd.irng1
  | walk_at "isi"
  | with_reducible apply Rd.forX
  | with_reducible apply Rd.lstRev
  | with_reducible apply Rd.lstRg
  | with_reducible apply Rd.rg1
  | with_reducible apply Rd.rg2
  | with_reducible apply Rd.exint2
  | ((with_reducible apply Rd.exrev); (walk_at "sq"))
  | with_reducible apply Rd.lcX
  | with_reducible apply Rd.yes
  | ((with_reducible apply Rd.exrng1); (constructor <;> omega))
  | ((with_reducible apply Rd.exrng2); (refine ⟨?_, ?_, ?_, ?_⟩ <;> omega))
  | with_reducible apply Rd.irng2
  | ((with_reducible apply Rd.aug); rfl)
  | ((with_reducible apply Rd.exlst); (walk_at "sq"))
  | ((with_reducible apply Rd.gtup); (walk_at "st"); (rfl))
  | ((with_reducible apply Rd.tyL); (walk_at "hp"))
  | ((with_reducible apply Rd.ixL); (walk_at "sq"); (rfl))
  | ((with_reducible apply Rd.ixI); (walk_at "sq"); (omega); (first | assumption | (simp only [List.length_map]; omega)); (intro _ _))
  | (with_reducible refine Rd.gsub ?_)
  | ((with_reducible apply Rd.setL); (walk_at "hp"); (rfl); ((dsimp only [List.set, L2.wipe, Int.reduceToNat]) <;> rfl))
  | ((with_reducible apply Rd.lenQ); (first | exact Or.inl (by walk_at "sq") | exact Or.inr (by walk_at "st")))
  | ((with_reducible apply Rd.listQ); (first | exact Or.inl (by walk_at "sq") | exact Or.inr (by walk_at "st")))
  | ((with_reducible apply Rd.tupQ); (walk_at "sq"))
  | ((with_reducible apply Rd.slL); (walk_at "sq"))
  | ((with_reducible apply Rd.ixT); (walk_at "st"); (rfl))
  | (with_reducible refine Rd.iteB (fun _ => ?_) (fun _ => ?_))
  | (with_reducible refine Rd.iteNB (fun _ => ?_) (fun _ => ?_))
  | (refine Rd.andI (Nat.le_of_ble_eq_true rfl) ?_)
  | dsimp only [List.set])
local macro_rules | `(tactic| walk_at "hp") => `(tactic| first
  | assumption
  | exact upd_same
  | (refine Eq.trans (upd_ne (by first | assumption | (apply Ne.symm; assumption))) ?_; walk_at "hp")
  | (refine hpS (by assumption) ?_; walk_at "hp"))
local macro_rules | `(tactic| walk_at "al") => `(tactic| (with_reducible intro l hl; generalize hG : upd _ l _ = G; have hs := newOne hl hG; clear hG; obtain ⟨hs, he⟩ := hs))
local macro_rules | `(tactic| walk_at "rd") => `(tactic| first
  | walk_at "al"
  | ((with_reducible apply Rd.cat); (walk_at "hp"); (walk_at "hp"); (exact Nat.le_of_ble_eq_true rfl)))
local macro_rules | `(tactic| walk_at "sm") => `(tactic| first
  | assumption
  | exact Same.refl _
  | (refine Same.trans ?_ (by assumption); walk_at "sm"))
local macro_rules | `(tactic| walk_at "fr") => `(tactic| first
  | assumption
  | (refine Same.free (by assumption) ?_; walk_at "fr"))
local macro_rules | `(tactic| walk_at "ty") => `(tactic| first
  | exact dv_ty (by assumption)
  | exact tyD' (by walk_at "hp"))
local macro_rules | `(tactic| walk_at "sz") => `(tactic| first
  | exact sz5 (by omega)
  | (simp only [add_len, one_len]; exact sz5 (by omega)))
local macro_rules | `(tactic| walk_at "rd") => `(tactic| first
  | with_reducible apply Rd.istr
  | with_reducible apply Rd.exstr
  | with_reducible apply Rd.leA
  | with_reducible apply Rd.leZz
  | with_reducible apply Rd.le0
  | with_reducible apply Rd.le9
  | with_reducible apply Rd.niZ
  | ((with_reducible apply Rd.lenZ); (walk_at "sz"))
  | ((with_reducible apply Rd.slZ); (walk_at "sz"))
  | ((with_reducible apply Rd.addZ); (walk_at "sz"))
  | with_reducible apply Rd.raiseX
  | with_reducible apply Rd.exone
  | with_reducible apply Rd.callS
  | with_reducible apply Rd.callP
  | with_reducible apply Rd.xsX
  | with_reducible apply Rd.dnewX
  | with_reducible apply Rd.tyZ)
local macro_rules | `(tactic| walk_at "rd") => `(tactic| first
  | with_reducible apply Rd.seq
  | ((with_reducible apply Rd.var); rfl)
  | with_reducible apply Rd.con
  | with_reducible apply Rd.op
  | with_reducible apply Rd.cons
  | with_reducible apply Rd.nil
  | with_reducible apply Rd.asg
  | ((with_reducible apply Rd.gname); ((dsimp only [List.set, L2.wipe, Int.reduceToNat]) <;> rfl))
  | with_reducible apply Rd.nxt
  | with_reducible apply Rd.ifs
  | with_reducible apply Rd.test
  | with_reducible apply Rd.ret
  | with_reducible apply Rd.call
  | with_reducible apply Rd.cb)
open Ty Ln
section
variable {P : Program} {w : World} {K : PySem.W.Frag} {mg : Str → Option Value} {base : Heap} {D : Str → Addr}
theorem nb_perm {us kf : List (Str × Str × Str)} (p : kf.Perm us) (x y : Str) : y ∈ (stepsOf us x).map (·.2) ↔ y ∈ (stepsOf kf x).map (·.2) := by
  constructor
  · intro h
    obtain ⟨q, hq, rfl⟩ := List.mem_map.mp h
    obtain ⟨t, mt, k⟩ := stepsOf_mem.mp hq
    exact List.mem_map.mpr ⟨q, stepsOf_mem.mpr ⟨t, p.mem_iff.mpr mt, k⟩, rfl⟩
  · intro h
    obtain ⟨q, hq, rfl⟩ := List.mem_map.mp h
    obtain ⟨t, mt, k⟩ := stepsOf_mem.mp hq
    exact List.mem_map.mpr ⟨q, stepsOf_mem.mpr ⟨t, p.mem_iff.mp mt, k⟩, rfl⟩
theorem srt_tr {ts : List (Str × Str × Str)} : ∀ k ∈ ts.map tr, k ≠ [] := fun k hk => by
  obtain ⟨t, _, rfl⟩ := List.mem_map.mp hk
  exact List.cons_ne_nil _ _
theorem best_app {kp : List (Str × Str × Str)} {u : Str × Str × Str} {c : Str → Nat} {s : Str} : bestT (kp ++ [u]) c s = match bestT kp c s with
    | some x => some x
    | none => if u.2.1 = s then (if c u.2.2 + 1 = c s then some (u.1, s, u.2.2) else none) else if u.2.2 = s then (if c u.2.1 + 1 = c s then some (u.1, s, u.2.1) else none) else none := by
  unfold bestT
  rw [List.findSome?_append]
  cases kp.findSome? _ with
  | some x => rfl
  | none =>
    rw [List.findSome?_cons]
    dsimp only [Option.or]
    split
    · rename_i h
      exact h.symm
    · rename_i h
      exact h.symm
/-- a way as it is told at H', told since H -/
def WayAt (S : Str → List (Str × Str)) (ms : List Str) (c : Str → Nat) (a : Str) (v : V) (H H' : Hp) : Prop := (a ∉ ms ∧ v = .non) ∨ (a ∈ ms ∧ ∃ L, v = .ref L ∧ H L = none ∧ WL H' L ((wayN S c (c a) a).map tr))
/-- _law_least_way(houses, lines, a, b) -/
def spLeastWay (K : PySem.W.Frag) : Sp := fun vs H Q _ => ∃ (h l : Addr) (a b : Str) (zs : List Str) (us kf : List (Str × Str × Str)), vs = [.ref h, .ref l, .str a, .str b] ∧ H h = some (.lst (zs.map V.str)) ∧ WL H l (us.map tr) ∧ zs.length ≤ 1000 ∧ us.length ≤ 1000 ∧ zs.Nodup ∧ (∀ z ∈ zs, NmS z) ∧ a ∈ zs ∧ b ∈ zs ∧ LinesOk zs us ∧ kf.Perm us ∧ SrtW (kf.map tr) ∧
  ∀ (ms : List Str) (c : Str → Nat) (v : V) (H' : Hp), Bfs (fun y => (stepsOf kf y).map (·.2)) b ms c → (∀ x ∈ ms, x ∈ zs) → Same H H' → WayAt (stepsOf kf) ms c a v H H' → Q v H'
local macro_rules | `(tactic| walk_at "rd") => `(tactic| first
  | with_reducible apply Kj.dgetXs
  | with_reducible apply Kj.dniX)
theorem ok__law_least_way (F : Def K mg "_law_least_way" s__law_least_way P__law_least_way) (m_range : mg "range" = none) (m_sorted : mg "sorted" = none) (C__law_steps_from : Cal P w K mg base 1 "_law_steps_from" P__law_steps_from (spStepsFrom K)) : Cal P w K mg base 3 "_law_least_way" P__law_least_way (spLeastWay K) := by
  refine F.ok sc__law_least_way (fun vs H Q E h => ?_) (fun f cdv A outer s H vs Q E hr h => ?_)
  · obtain ⟨h, l, a, b, zs, us, kf, rfl, _⟩ := h
    rfl
  obtain ⟨h, l, a, b, zs, us, kf, rfl, eh, wl, lz, lu, nd, mz, ma, mb, lo, pf, sk, q⟩ := h
  refine ⟨_, (pss_cons (ps_set (i := 4) sc__law_least_way.nd rfl (Or.inl rfl) (pe_cal C__law_steps_from hr (pa_cons (pv 0 (hd := nd_houses) (hcd := nc_houses)) (pa_cons (pv 1 (hd := nd_lines) (hcd := nc_lines)) (pa_cons (pv 3 (hd := nd_b) (hcd := nc_b)) pa_nil))) (hdb := nd__law_steps_from)))
  (pss_cons (ps_if (pt_cmp (pc_dnotin (un1 hr) (pv 2 (hd := nd_a) (hcd := nc_a)) (pv 4 (hd := nd_counts) (hcd := nc_counts)))) (pss_one (ps_ret pe_non)) pss_nil)
  (pss_cons (ps_set (i := 5) sc__law_least_way.nd rfl (Or.inl rfl) (pe_lst pa_nil))
  (pss_cons (ps_set (i := 6) sc__law_least_way.nd rfl (Or.inl rfl) (pv 2 (hd := nd_a) (hcd := nc_a)))
  (pss_cons (ps_for PassesOwn.never rfl (pi_range1 (by rfl) m_range (pa_cons (pe_dget (un1 hr) (pv 4 (hd := nd_counts) (hcd := nc_counts)) (pv 2 (hd := nd_a) (hcd := nc_a)) (fun _ _ => rfl)) pa_nil)) (pg_name (i := 7) sc__law_least_way.nd rfl (Or.inl rfl)) (pss_cons (ps_set (i := 8) sc__law_least_way.nd rfl (Or.inl rfl) pe_non)
  (pss_cons (ps_for PassesOwn.never rfl (pi_list (pe_callB (cr_sortedTSK (K := K) rfl) (by rfl) m_sorted bb_sorted (pa_cons (pv 1 (hd := nd_lines) (hcd := nc_lines)) pa_nil) (hn := nn_sorted) (hdb := nd_sorted))) (pg_name (i := 9) sc__law_least_way.nd rfl (Or.inl rfl)) (pss_one (ps_if (PW.pt (pw_and (pt_cmpR o_isN (pv 8 (hd := nd_best) (hcd := nc_best)) pe_non (nomark _)) (pw_and1 (pt_cmpR op_in_seq (pv 6 (hd := nd_start) (hcd := nc_start)) (pe_lst (pa_cons (pe_ix ix_tup (pv 9 (hd := nd_line) (hcd := nc_line)) pe_int (fun _ _ => rfl)) (pa_cons (pe_ix ix_tup (pv 9 (hd := nd_line) (hcd := nc_line)) pe_int (fun _ _ => rfl)) pa_nil))) (by rfl))))) (pss_cons (ps_set (i := 10) sc__law_least_way.nd rfl (Or.inl rfl) (pe_ix ix_tup (pv 9 (hd := nd_line) (hcd := nc_line)) pe_int (fun _ _ => rfl)))
  (C8.pss_cut (ps_if (pt_cmpR op_eq (pv 6 (hd := nd_start) (hcd := nc_start)) (pe_ix ix_tup (pv 9 (hd := nd_line) (hcd := nc_line)) pe_int (fun _ _ => rfl)) (nomark _)) (pss_one (ps_set (i := 10) sc__law_least_way.nd rfl (Or.inl rfl) (pe_ix ix_tup (pv 9 (hd := nd_line) (hcd := nc_line)) pe_int (fun _ _ => rfl)))) pss_nil)
  (pss_one (ps_if (pt_cmpR op_eq (pe_dget (un1 hr) (pv 4 (hd := nd_counts) (hcd := nc_counts)) (pv 10 (hd := nd_stop) (hcd := nc_stop)) (fun _ _ => rfl)) (pe_op op_sub (pe_dget (un1 hr) (pv 4 (hd := nd_counts) (hcd := nc_counts)) (pv 6 (hd := nd_start) (hcd := nc_start)) (fun _ _ => rfl)) pe_int) (nomark _)) (pss_one (ps_set (i := 8) sc__law_least_way.nd rfl (Or.inl rfl) (pe_tup (pa_cons (pe_ix ix_tup (pv 9 (hd := nd_line) (hcd := nc_line)) pe_int (fun _ _ => rfl)) (pa_cons (pv 6 (hd := nd_start) (hcd := nc_start)) (pa_cons (pv 10 (hd := nd_stop) (hcd := nc_stop)) pa_nil)))))) pss_nil)))) pss_nil)))
  (pss_cons (ps_expr (pe_bm PySem.F.plainAttrs_list PySem.F.slot_list_append PySem.F.type_list_append mt_append (pv 5 (hd := nd_way) (hcd := nc_way)) (pa_cons (pv 8 (hd := nd_best) (hcd := nc_best)) pa_nil)))
  (pss_one (ps_set (i := 6) sc__law_least_way.nd rfl (Or.inl rfl) (pe_ix ix_tup (pv 8 (hd := nd_best) (hcd := nc_best)) pe_int (fun _ _ => rfl))))))))
  (pss_one (ps_ret (pv 5 (hd := nd_way) (hcd := nc_way))))))))), ?_⟩
  refine Rd.at0 (σ := [some (.ref h), some (.ref l), some (.str a), some (.str b), none, none, none, none, none, none, none]) rfl ?_
  repeat' (walk_at "rd")
  refine ⟨h, l, b, zs, us, rfl, eh, wl, lz, lu, nd, mb, fun t ht => ⟨(lo.en t ht).1, (lo.en t ht).2.1⟩, fun C ms c H1 bfs0 sub nC s1 eC => ?_⟩
  have bfs := bfs0.congr (nb_perm pf)
  have q2 := fun v H' => q ms c v H' bfs sub
  have sym : ∀ x y, y ∈ (stepsOf kf x).map (·.2) → x ∈ (stepsOf kf y).map (·.2) := stepsOf_sym
  have ne : ∀ t ∈ kf, t.2.1 ≠ t.2.2 := fun t ht e => by
    have := (lo.en t (pf.mem_iff.mp ht)).2.2
    rw [e] at this
    exact List.lt_irrefl _ this
  have lms : ms.length ≤ 1000 := Nat.le_trans (nodup_leH bfs.nd sub) lz
  have lkf := pf.length_eq
  repeat' (walk_at "rd")
  refine dniC eC ?_
  by_cases mam : a ∈ ms
  rotate_left
  · rw [decide_eq_false mam]
    repeat' (walk_at "rd")
    exact q2 .non H1 s1 (.inl ⟨mam, rfl⟩)
  rw [decide_eq_true mam]
  have lca := bfs.lt a mam
  repeat' (walk_at "rd")
  rename_i W nW G1 sG1 eW
  have eC1 := sG1 _ _ eC
  have nWH : H W = none := noneOf s1 nW
  refine ⟨C, _, rfl, .inl ⟨_, Sum.inr a, .inl eC1, rfl, (kd_get mam).symm⟩, ?_⟩
  repeat' (walk_at "rd")
  refine forR (fun i σ H' => ∃ (s : Str) (dn : List (Str × Str × Str)) (v7 v8 v9 v10 : Option V), σ = [some (.ref h), some (.ref l), some (.str a), some (.str b), some (.ref C), some (.ref W), some (.str s), v7, v8, v9, v10] ∧ c s + i = c a ∧ s ∈ ms ∧ Same H1 H' ∧ WL H' W (dn.map tr) ∧ wayN (stepsOf kf) c (c a) a = dn ++ wayN (stepsOf kf) c (c s) s) ⟨a, [], none, none, none, none, rfl, rfl, mam, sG1, ⟨[], eW, trivial⟩, rfl⟩ ?_ ?_
  · rintro i σ H' hi ⟨s, dn, v7, v8, v9, v10, rfl, es, mss, s', ⟨ws, eW', hws⟩, ew⟩
    have hi : i < c a := by omega
    have sb : s ≠ b := fun e => by
      rw [e, bfs.c0] at es
      omega
    have ldn : dn.length + c s = c a := by
      have h1 := wayN_len bfs sym mam rfl
      have h2 := wayN_len bfs sym mss rfl
      rw [ew, List.length_append, h2] at h1
      exact h1
    have lws : ws.length = dn.length := by rw [hws.len, List.length_map]
    obtain ⟨q0, hq0, mq0, mq2, eq0⟩ := step_some bfs sym mss sb
    have hbest : bestT kf c s = some (q0.1, s, q0.2) := by
      rw [best_step ne fun q hq => (bfs.cl q.2 (bfs.cl s mss q.2 (List.mem_map.mpr ⟨q, hq, rfl⟩)).1 s (sym s q.2 (List.mem_map.mpr ⟨q, hq, rfl⟩))).2, hq0]
      rfl
    have s0' := s1.trans s'
    repeat' (walk_at "rd")
    refine sortW (wl.same s0') srt_tr fun js S G3 pj sj nS s3 wlS => ?_
    obtain rfl : kf.map tr = js := srtw_one ((pf.map tr).trans pj.symm) sk sj
    obtain ⟨ls, el, hls⟩ := wlS
    have lls : ls.length = kf.length := by rw [hls.len, List.length_map]
    have eC3 := s3 _ _ (s' _ _ eC)
    have eW3 := s3 _ _ eW'
    repeat' (walk_at "rd")
    refine forL ls (fun j σ F => ∃ v8 v9 v10 : Option V, σ = [some (.ref h), some (.ref l), some (.str a), some (.str b), some (.ref C), some (.ref W), some (.str s), some (.int (0 + (i : Int))), v8, v9, v10] ∧ Same G3 F ∧ ((bestT (kf.take j) c s = none ∧ v8 = some .non) ∨ ∃ (x : Str × Str × Str) (T : Addr), bestT (kf.take j) c s = some x ∧ v8 = some (.ref T) ∧ F T = some (.tup [.str x.1, .str x.2.1, .str x.2.2]))) ⟨_, _, _, rfl, .refl _, .inl ⟨rfl, rfl⟩⟩ (fun _ _ _ _ ⟨_, _, _, _, s, _⟩ => .inl (.inl (s _ _ el))) ?_ ?_
    · rintro j x σ F hx ⟨v8, v9, v10, rfl, sF, hb⟩
      obtain ⟨k, ek, ok, t, rfl, et⟩ := hls.at hx
      rw [List.getElem?_map] at ek
      obtain ⟨u, eu, rfl⟩ := Option.map_eq_some_iff.mp ek
      have et' : F t = some (.tup [.str u.1, .str u.2.1, .str u.2.2]) := sF _ _ et
      have tk : kf.take (j + 1) = kf.take j ++ [u] := by rw [List.take_add_one, eu]; rfl
      have mu : u ∈ kf := List.mem_of_getElem? eu
      rcases hb with ⟨hb, rfl⟩ | ⟨x, T, hb, rfl, eT⟩
      · have hb2 := best_app (kp := kf.take j) (u := u) (c := c) (s := s)
        rw [hb] at hb2
        dsimp only at hb2
        rw [← tk] at hb2
        repeat' (walk_at "rd")
        rename_i L5 n5 G5 s5 e5
        have e5' : G5 L5 = some (.lst ([u.2.1, u.2.2].map V.str)) := e5
        have sF5 := sF.trans s5
        refine ⟨L5, _, rfl, .inl (.inl (.inl e5')), rfl, flat_strs _, ?_⟩
        rw [if_neg Bool.false_ne_true, inV_strs]
        by_cases m : s ∈ [u.2.1, u.2.2]
        · rw [decide_eq_true m]
          have et5 := s5 _ _ et'
          repeat' (walk_at "rd")
          refine Rd.cut (fun σ' G' => ∃ o : Str, σ' = [some (.ref h), some (.ref l), some (.str a), some (.str b), some (.ref C), some (.ref W), some (.str s), some (.int (0 + (i : Int))), some .non, some (.ref t), some (.str o)] ∧ Same G5 G' ∧ ((s = u.2.1 ∧ o = u.2.2) ∨ (s = u.2.2 ∧ s ≠ u.2.1 ∧ o = u.2.1))) ?_ ?_
          · repeat' (walk_at "rd")
            · rename_i e
              exact ⟨u.2.2, rfl, .refl _, .inl ⟨V.str.inj e, rfl⟩⟩
            · rename_i e
              have e : s ≠ u.2.1 := fun k => e (by rw [k])
              have m2 : s = u.2.2 := by
                have : s = u.2.1 ∨ s = u.2.2 := by simpa using m
                exact this.resolve_left e
              exact ⟨u.2.1, rfl, .refl _, .inr ⟨m2, e, rfl⟩⟩
          rintro σ' G6 ⟨o, rfl, s6, ho⟩
          have nbo : o ∈ (stepsOf kf s).map (·.2) := by
            rcases ho with ⟨e1, e2⟩ | ⟨e1, _, e2⟩
            · rw [e1, e2]
              exact (nb_ends mu).1
            · rw [e1, e2]
              exact (nb_ends mu).2
          have mo : o ∈ ms := (bfs.cl s mss o nbo).1
          have hb3 : bestT (kf.take (j + 1)) c s = if c o + 1 = c s then some (u.1, s, o) else none := by
            rw [hb2]
            rcases ho with ⟨e1, e2⟩ | ⟨e1, e3, e2⟩
            · rw [if_pos e1.symm, e2]
            · rw [if_neg (Ne.symm e3), if_pos e1.symm, e2]
          clear hb2
          have eC6 := s6 _ _ (sF5 _ _ eC3)
          have et6 := s6 _ _ et5
          repeat' (walk_at "rd")
          refine ⟨C, _, rfl, .inl ⟨_, Sum.inr o, .inl eC6, rfl, (kd_get mo).symm⟩, ?_⟩
          repeat' (walk_at "rd")
          refine ⟨C, _, rfl, .inl ⟨_, Sum.inr s, .inl eC6, rfl, (kd_get mss).symm⟩, ?_⟩
          repeat' (walk_at "rd")
          · rename_i e T nT G7 s7 eT
            exact ⟨_, _, _, rfl, (sF5.trans s6).trans s7, .inr ⟨(u.1, s, o), T, by rw [hb3, if_pos (by omega)], rfl, eT⟩⟩
          · rename_i e
            exact ⟨_, _, _, rfl, sF5.trans s6, .inl ⟨by rw [hb3, if_neg (by omega)], rfl⟩⟩
        · rw [decide_eq_false m]
          have m1 : ¬ u.2.1 = s := fun e => m (by rw [e]; exact .head _)
          have m2 : ¬ u.2.2 = s := fun e => m (by rw [e]; exact .tail _ (.head _))
          repeat' (walk_at "rd")
          exact ⟨_, _, _, rfl, sF5, .inl ⟨by rw [hb2, if_neg m1, if_neg m2], rfl⟩⟩
      · have hb2 : bestT (kf.take (j + 1)) c s = some x := by
          rw [tk, best_app, hb]
        repeat' (walk_at "rd")
        exact ⟨_, _, _, rfl, sF, .inr ⟨x, T, hb2, rfl, eT⟩⟩
    · rintro σ F ⟨v8, v9, v10, rfl, sF, hb⟩
      rw [lls, List.take_length, hbest] at hb
      rcases hb with ⟨hb, _⟩ | ⟨x, T, hb, rfl, eT⟩
      · cases hb
      cases hb
      have eWF := sF _ _ eW3
      repeat' (walk_at "rd")
      have eT : F T = some (.tup [.str q0.1, .str s, .str q0.2]) := eT
      have neT : T ≠ W := fun e => by rw [e, eWF] at eT; cases eT
      have eT2 : upd F W (.lst (ws ++ [.ref T])) T = some (.tup [.str q0.1, .str s, .str q0.2]) := (upd_ne neT).trans eT
      refine append eWF (sz5' (by omega)) ?_
      repeat' (walk_at "rd")
      refine ⟨q0.2, dn ++ [(q0.1, s, q0.2)], _, _, _, _, rfl, by omega, mq2, fun b o e => (upd_ne (ne_of_none e nW)).trans (((s'.trans s3).trans sF) _ _ e), ⟨_, upd_same, ?_⟩, ?_⟩
      · rw [List.map_append]
        refine wvs_put eWF ((hws.same (s3.trans sF)).app ⟨⟨fun z hz => ?_, T, rfl, eT⟩, trivial⟩)
        have hz : z = q0.1 ∨ z = s ∨ z = q0.2 := by simpa [tr] using hz
        rcases hz with rfl | rfl | rfl
        · obtain ⟨t, mt, e, _⟩ := stepsOf_mem.mp mq0
          rw [← e]
          exact nm_ok (lo.nm t (pf.mem_iff.mp mt))
        · exact nm_ok (mz _ (sub _ mss))
        · exact nm_ok (mz _ (sub _ mq2))
      · rw [ew, eq0, List.append_assoc]
        congr 1
        rw [wayN, hq0]
        rfl
  · rintro σ H' ⟨s, dn, v7, v8, v9, v10, rfl, es, mss, s', ⟨ws, eW', hws⟩, ew⟩
    have es : c s = 0 := by
      have h1 : ((c a : Int)).toNat = c a := rfl
      omega
    rw [es, show wayN (stepsOf kf) c 0 s = [] from rfl, List.append_nil] at ew
    repeat' (walk_at "rd")
    exact q2 (.ref W) H' (s1.trans s') (.inr ⟨mam, W, rfl, nWH, ⟨ws, eW', by rw [ew]; exact hws⟩⟩)
end
end Kj
namespace Kj
open PySem PySem.Spec PyProof.Rows L2 Rd
local macro_rules | `(tactic| walk_at "hp") => `(tactic| first
  | assumption
  | exact upd_same
  | (refine Eq.trans (upd_ne (by first | assumption | (apply Ne.symm; assumption))) ?_; walk_at "hp"))
local macro_rules | `(tactic| walk_at "sq") => `(tactic| first
  | assumption
  | (refine Or.inl (Or.inl ?_); walk_at "hp"))
local macro_rules | `(tactic| walk_at "st") => `(tactic| first
  | assumption
  | (refine Or.inl (Or.inl ?_); walk_at "hp"))
local macro_rules | `(tactic| walk_at "ar") => `(tactic| first
  | assumption
  | omega
  | decide)
local macro_rules | `(tactic| walk_at "ci") => `(tactic| first
  | (refine (show CMul _ _ from Or.inr ⟨?_, ?_⟩) <;> omega)
  | (refine (show CMul _ _ from Or.inl ⟨?_, ?_⟩) <;> omega)
  | (show CPow _ _; exact ⟨by decide, by decide, by decide⟩)
  | (refine wide_div (b := 63) ?_ ?_ (by decide) (by decide) <;> omega)
  | (show (0 : Int) < _; omega))
local macro_rules | `(tactic| walk_at "ty") => `(tactic| first
  | exact dp_ty (by assumption)
  | exact TyX.base (TyOf.int _)
  | exact TyX.base (TyOf.str _)
  | exact TyX.base (TyOf.bl _)
  | exact TyX.base TyOf.non
  | exact tyL' (by walk_at "sq")
  | exact tyT' (by walk_at "st"))
local macro_rules | `(tactic| walk_at "isi") => `(tactic| first
  | ((with_reducible apply Rd.isiF); (walk_at "ty"); (decide))
  | ((with_reducible apply Rd.isiT); (walk_at "ty"); (decide)))
local macro_rules | `(tactic| walk_at "rd") => `(tactic| first
  | with_reducible apply Rd.seq
  | ((with_reducible apply Rd.var); rfl)
  | with_reducible apply Rd.con
  | with_reducible apply Rd.op
  | with_reducible apply Rd.asg
  | ((with_reducible apply Rd.gname); ((dsimp only [List.set, L2.wipe, Int.reduceToNat]) <;> rfl))
  | with_reducible apply Rd.nxt
  | with_reducible apply Rd.ifs
  | with_reducible apply Rd.test
  | with_reducible apply Rd.testB
  | with_reducible apply Rd.exbl
  | with_reducible apply Rd.ret
  | with_reducible apply Rd.drop
  | with_reducible apply Rd.retN
  | with_reducible apply Rd.nil
  | with_reducible apply Rd.cons
  | with_reducible apply Rd.call
  | with_reducible apply Rd.cb
  | with_reducible apply Rd.and
  | with_reducible apply Rd.or
  | with_reducible apply Rd.not
  | with_reducible apply Rd.andV
  | with_reducible apply Rd.orV
  | with_reducible apply Rd.notV
  | with_reducible apply Rd.ife
  | with_reducible apply Rd.tup
  | with_reducible apply Rd.lst
  | with_reducible apply Rd.un
  | with_reducible apply Rd.chain
  | with_reducible apply Rd.brk
  | with_reducible apply Rd.cnt
  | with_reducible apply Rd.I0
  | with_reducible apply Rd.U1
  | ((with_reducible apply Rd.eq); rfl)
  | ((with_reducible apply Rd.ne); rfl)
  | ((with_reducible apply Rd.I1); (walk_at "ci"))
  | with_reducible apply Rd.lc0
  | with_reducible apply Rd.ln0
  | with_reducible apply Rd.exN
  | ((with_reducible apply Rd.iteSf); (decide +kernel))
  | ((with_reducible apply Rd.iteSt); (decide +kernel))
  | ((with_reducible apply Rd.niQ); (exact Or.inl (by walk_at "sq")); (exact ⟨rfl, rfl⟩); (rfl))
  | ((with_reducible apply Rd.inQ); (exact Or.inl (by walk_at "sq")); (exact ⟨rfl, rfl⟩); (rfl))
  | with_reducible apply Rd.rn1
  | with_reducible apply Rd.in1
  | with_reducible apply Rd.sn1
  | with_reducible apply Rd.bn1
  | with_reducible apply Rd.nn1
  | with_reducible apply Rd.rn2
  | with_reducible apply Rd.in2
  | with_reducible apply Rd.sn2
  | with_reducible apply Rd.bn2
  | with_reducible apply Rd.nn2
  | with_reducible apply Rd.nt1
  | with_reducible apply Rd.nf1
  | (with_reducible refine Rd.iteI (fun _ => ?_) (fun _ => ?_))
  | (with_reducible refine Rd.iteNI (fun _ => ?_) (fun _ => ?_))
  | (with_reducible refine iteT ?_)
  | (with_reducible refine iteF ?_)
  | (with_reducible refine Rd.iteD (fun _ => ?_) (fun _ => ?_))
  | (with_reducible refine Rd.iteN (fun _ => ?_) (fun _ => ?_))
  | with_reducible apply Rd.intI
  | with_reducible apply Rd.intB
  | with_reducible apply Rd.maxQ
  | with_reducible apply Rd.minQ
  | with_reducible apply Rd.absQ
  | with_reducible apply Rd.isN
  | with_reducible apply Rd.noN
  | with_reducible apply Rd.ltZ
  | with_reducible apply Rd.bm
  | with_reducible apply Rd.bm0
  | with_reducible apply Rd.par
  | with_reducible apply Rd.expar
  | with_reducible apply Rd.exint
  | with_reducible apply Rd.ipi
  | with_reducible apply Rd.slice
  | with_reducible apply Rd.noPart
  | with_reducible apply Rd.part
  | with_reducible apply Rd.gcons
  | with_reducible apply Rd.gnil
  | with_reducible apply Rd.iseq
  | with_reducible apply Rd.irng1
  | walk_at "isi"
  | with_reducible apply Rd.forX
  | with_reducible apply Rd.lstRev
  | with_reducible apply Rd.lstRg
  | with_reducible apply Rd.rg1
  | with_reducible apply Rd.rg2
  | with_reducible apply Rd.exint2
  | ((with_reducible apply Rd.exrev); (walk_at "sq"))
  | with_reducible apply Rd.lcX
  | with_reducible apply Rd.yes
  | ((with_reducible apply Rd.exrng1); (constructor <;> omega))
  | ((with_reducible apply Rd.exrng2); (refine ⟨?_, ?_, ?_, ?_⟩ <;> omega))
  | with_reducible apply Rd.irng2
  | ((with_reducible apply Rd.aug); rfl)
  | ((with_reducible apply Rd.exlst); (walk_at "sq"))
  | ((with_reducible apply Rd.gtup); (walk_at "st"); (rfl))
  | ((with_reducible apply Rd.tyL); (walk_at "hp"))
  | ((with_reducible apply Rd.ixL); (walk_at "sq"); (rfl))
  | ((with_reducible apply Rd.ixI); (walk_at "sq"); (omega); (first | assumption | (simp only [List.length_map]; omega)); (intro _ _))
  | (with_reducible refine Rd.gsub ?_)
  | ((with_reducible apply Rd.setL); (walk_at "hp"); (rfl); ((dsimp only [List.set, L2.wipe, Int.reduceToNat]) <;> rfl))
  | ((with_reducible apply Rd.lenQ); (first | exact Or.inl (by walk_at "sq") | exact Or.inr (by walk_at "st")))
  | ((with_reducible apply Rd.listQ); (first | exact Or.inl (by walk_at "sq") | exact Or.inr (by walk_at "st")))
  | ((with_reducible apply Rd.tupQ); (walk_at "sq"))
  | ((with_reducible apply Rd.slL); (walk_at "sq"))
  | ((with_reducible apply Rd.ixT); (walk_at "st"); (rfl))
  | (with_reducible refine Rd.iteB (fun _ => ?_) (fun _ => ?_))
  | (with_reducible refine Rd.iteNB (fun _ => ?_) (fun _ => ?_))
  | (refine Rd.andI (Nat.le_of_ble_eq_true rfl) ?_)
  | dsimp only [List.set])
local macro_rules | `(tactic| walk_at "hp") => `(tactic| first
  | assumption
  | exact upd_same
  | (refine Eq.trans (upd_ne (by first | assumption | (apply Ne.symm; assumption))) ?_; walk_at "hp")
  | (refine hpS (by assumption) ?_; walk_at "hp"))
local macro_rules | `(tactic| walk_at "al") => `(tactic| (with_reducible intro l hl; generalize hG : upd _ l _ = G; have hs := newOne hl hG; clear hG; obtain ⟨hs, he⟩ := hs))
local macro_rules | `(tactic| walk_at "rd") => `(tactic| first
  | walk_at "al"
  | ((with_reducible apply Rd.cat); (walk_at "hp"); (walk_at "hp"); (exact Nat.le_of_ble_eq_true rfl)))
local macro_rules | `(tactic| walk_at "sm") => `(tactic| first
  | assumption
  | exact Same.refl _
  | (refine Same.trans ?_ (by assumption); walk_at "sm"))
local macro_rules | `(tactic| walk_at "fr") => `(tactic| first
  | assumption
  | (refine Same.free (by assumption) ?_; walk_at "fr"))
local macro_rules | `(tactic| walk_at "ty") => `(tactic| first
  | exact dv_ty (by assumption)
  | exact tyD' (by walk_at "hp"))
local macro_rules | `(tactic| walk_at "sz") => `(tactic| first
  | exact sz5 (by omega)
  | (simp only [add_len, one_len]; exact sz5 (by omega)))
local macro_rules | `(tactic| walk_at "rd") => `(tactic| first
  | with_reducible apply Rd.istr
  | with_reducible apply Rd.exstr
  | with_reducible apply Rd.leA
  | with_reducible apply Rd.leZz
  | with_reducible apply Rd.le0
  | with_reducible apply Rd.le9
  | with_reducible apply Rd.niZ
  | ((with_reducible apply Rd.lenZ); (walk_at "sz"))
  | ((with_reducible apply Rd.slZ); (walk_at "sz"))
  | ((with_reducible apply Rd.addZ); (walk_at "sz"))
  | with_reducible apply Rd.raiseX
  | with_reducible apply Rd.exone
  | with_reducible apply Rd.callS
  | with_reducible apply Rd.callP
  | with_reducible apply Rd.xsX
  | with_reducible apply Rd.dnewX
  | with_reducible apply Rd.tyZ)
local macro_rules | `(tactic| walk_at "rd") => `(tactic| first
  | with_reducible apply Rd.seq
  | ((with_reducible apply Rd.var); rfl)
  | with_reducible apply Rd.con
  | with_reducible apply Rd.op
  | with_reducible apply Rd.cons
  | with_reducible apply Rd.nil
  | with_reducible apply Rd.asg
  | ((with_reducible apply Rd.gname); ((dsimp only [List.set, L2.wipe, Int.reduceToNat]) <;> rfl))
  | with_reducible apply Rd.nxt
  | with_reducible apply Rd.ifs
  | with_reducible apply Rd.test
  | with_reducible apply Rd.ret
  | with_reducible apply Rd.call
  | with_reducible apply Rd.cb)
open Ty Ln
section
variable {P : Program} {w : World} {K : PySem.W.Frag} {mg : Str → Option Value} {base : Heap} {D : Str → Addr}
/-- a told error: a new tuple of its class and its value -/
def ErrAt (K : PySem.W.Frag) (H : Hp) (u : V) (code : Str) (e : PyData) : Prop := ∃ t v, u = .ref t ∧ H t = some (.tup [.str code, v]) ∧ Dv K H v e
theorem ErrAt.same {H H' : Hp} {u : V} {code : Str} {e : PyData} (h : ErrAt K H u code e) (s : Same H H') : ErrAt K H' u code e := by
  obtain ⟨t, v, e', ht, dv⟩ := h
  exact ⟨t, v, e', s _ _ ht, dv_same s dv⟩
def optL : PyData → List PyData
  | .none => []
  | d => [d]
theorem dueN_app {ds es : List PyData} : dueN (ds ++ es) = match dueN ds with
    | some e => some e
    | none => dueN es := by
  induction ds with
  | nil => rfl
  | cons d ds ih =>
    rw [List.cons_append, dueN, dueN]
    by_cases k : nameD d = true
    · rw [if_pos k, if_pos k, ih]
    · rw [if_neg k, if_neg k]
theorem dueA_forms {zs ns : List Str} {ds : List PyData} {d e : PyData} (h : dueN (ds ++ optL d) = some e) : dueA zs ns ds d = dErr "BadName" e := by
  rw [dueN_app] at h
  cases k : dueN ds with
  | some x =>
    rw [k] at h
    cases h
    exact dueA_bad k
  | none =>
    rw [k] at h
    by_cases n : d = .none
    · subst n
      cases h
    · have eo : optL d = [d] := by
        cases d with
        | none => exact absurd rfl n
        | _ => rfl
      rw [eo] at h
      have h : dueN [d] = some e := h
      rw [dueN] at h
      by_cases kn : nameD d = true
      · rw [if_pos kn] at h
        cases h
      · rw [if_neg kn] at h
        cases h
        exact dueA_form k n (by simpa using kn)
theorem dueN_forms {ds : List PyData} {d : PyData} (h : dueN (ds ++ optL d) = none) : dueN ds = none ∧ (d = .none ∨ nameD d = true) := by
  rw [dueN_app] at h
  cases k : dueN ds with
  | some x =>
    rw [k] at h
    cases h
  | none =>
    rw [k] at h
    refine ⟨rfl, ?_⟩
    by_cases n : d = .none
    · exact .inl n
    · have eo : optL d = [d] := by
        cases d with
        | none => exact absurd rfl n
        | _ => rfl
      rw [eo] at h
      have h : dueN [d] = none := h
      rw [dueN] at h
      by_cases kn : nameD d = true
      · exact .inr kn
      · rw [if_neg kn] at h
        cases h
theorem va_app {H : Hp} : ∀ {xs : List V} {ds : List PyData} {x : V} {d : PyData}, DvAll K H xs ds → Dv K H x d → DvAll K H (xs ++ [x]) (ds ++ [d])
  | [], [], _, _, .nil, h => .cons h .nil
  | _ :: _, _ :: _, _, _, .cons a b, h => .cons a (va_app b h)
theorem mapD1 (ts : List (Str × Str × Str)) (vs : List V) (l : vs.length = ts.length) : (List.range vs.length).filterMap (fun i => (ts[i]?).map fun t => V.str t.1) = (ts.map (·.1)).map V.str := by
  rw [l, fm_at (f := fun t : Str × Str × Str => some (V.str t.1)) fun i h => by rw [List.getElem?_eq_getElem h]; rfl, List.map_map]
  exact congrFun (List.filterMap_eq_map (f := fun t : Str × Str × Str => V.str t.1)) ts
/-- _law_due_search(houses, lines, words, line) -/
def spDueSearch (K : PySem.W.Frag) : Sp := fun vs H Q _ => ∃ (h l p : Addr) (zs : List Str) (ts : List (Str × Str × Str)) (xs : List V) (ds : List PyData) (v : V) (d : PyData), vs = [.ref h, .ref l, .ref p, v] ∧ H h = some (.lst (zs.map V.str)) ∧ WL H l (ts.map tr) ∧ ts.length ≤ 1000 ∧ H p = some (.lst xs) ∧ xs.length ≤ 1000 ∧ DvAll K H xs ds ∧ (∀ d ∈ ds, Sz d) ∧ Dv K H v d ∧ Sz d ∧
  (dueA zs (ts.map (·.1)) ds d = none → ∀ H', Same H H' → Q .non H') ∧ ∀ code e, dueA zs (ts.map (·.1)) ds d = some (code, e) → ∀ u H', Same H H' → ErrAt K H' u code e → Q u H'
theorem ok__law_due_search (F : Def K mg "_law_due_search" s__law_due_search P__law_due_search) (m_list : mg "list" = none) (C__law_is_name : Cal P w K mg base 1 "_law_is_name" P__law_is_name (spNamed K)) : Cal P w K mg base 2 "_law_due_search" P__law_due_search (spDueSearch K) := by
  refine F.ok sc__law_due_search (fun vs H Q E h => ?_) (fun f cdv A outer s H vs Q E hr h => ?_)
  · obtain ⟨h, l, p, zs, ts, xs, ds, v, d, rfl, _⟩ := h
    rfl
  obtain ⟨h, l, p, zs, ts, xs, ds, v, d, rfl, eh, ⟨ls, el, hls⟩, lt, ep, lx, da, sz, dv, szd, qn, qs⟩ := h
  refine ⟨_, (pss_cons (ps_set (i := 4) sc__law_due_search.nd rfl (Or.inl rfl) (pe_callTy q_list (by rfl) m_list bb_list (pa_cons (pv 2 (hd := nd_words) (hcd := nc_words)) pa_nil) (hn := nn_list) (hdb := nd_list)))
  (C8.pss_cut (ps_if (pt_cmpR o_noN (pv 3 (hd := nd_line) (hcd := nc_line)) pe_non (nomark _)) (pss_one (ps_expr (pe_bm PySem.F.plainAttrs_list PySem.F.slot_list_append PySem.F.type_list_append mt_append (pv 4 (hd := nd_forms) (hcd := nc_forms)) (pa_cons (pv 3 (hd := nd_line) (hcd := nc_line)) pa_nil)))) pss_nil)
  (pss_cons (ps_for PassesOwn.never rfl (pi_list (pv 4 (hd := nd_forms) (hcd := nc_forms))) (pg_name (i := 5) sc__law_due_search.nd rfl (Or.inl rfl)) (pss_one (ps_if (pt_not (pt_val (pe_cal C__law_is_name hr (pa_cons (pv 5 (hd := nd_word) (hcd := nc_word)) pa_nil) (hdb := nd__law_is_name)))) (pss_one (ps_ret (pe_tup (pa_cons pe_str (pa_cons (pv 5 (hd := nd_word) (hcd := nc_word)) pa_nil))))) pss_nil)))
  (pss_cons (ps_for PassesOwn.never rfl (pi_list (pv 2 (hd := nd_words) (hcd := nc_words))) (pg_name (i := 5) sc__law_due_search.nd rfl (Or.inl rfl)) (pss_one (ps_if (pt_cmpR op_notIn_seq (pv 5 (hd := nd_word) (hcd := nc_word)) (pv 0 (hd := nd_houses) (hcd := nc_houses)) (by rfl)) (pss_one (ps_ret (pe_tup (pa_cons pe_str (pa_cons (pv 5 (hd := nd_word) (hcd := nc_word)) pa_nil))))) pss_nil)))
  (pss_cons (ps_if (PW.pt (pw_and (pt_cmpR o_noN (pv 3 (hd := nd_line) (hcd := nc_line)) pe_non (nomark _)) (pw_and1 (pt_cmpR op_notIn_seq (pv 3 (hd := nd_line) (hcd := nc_line)) (pe_lc (own := [("row", 6)]) (by rfl) sc__law_due_search.nd (pi_list (pv 1 (hd := nd_lines) (hcd := nc_lines))) (blkOk_by (N := N__law_due_search) (sc := defScope s__law_due_search) (by decide +kernel)) (fun _ _ _ _ _ => (pg_name (i := 6) sc__law_due_search.nd rfl (Or.inl rfl))) (fun _ _ _ _ _ => pts_nil) (fun _ _ _ _ _ => (pe_ix (ix_tupK (K := K) rfl) (pv 6 (hd := nd_row) (hcd := nc_row)) pe_int (fun _ _ => rfl)))) (by rfl))))) (pss_one (ps_ret (pe_tup (pa_cons pe_str (pa_cons (pv 3 (hd := nd_line) (hcd := nc_line)) pa_nil))))) pss_nil)
  (pss_one (ps_ret pe_non))))))), ?_⟩
  refine Rd.at0 (σ := [some (.ref h), some (.ref l), some (.ref p), some v, none, none, none]) rfl ?_
  have lls : ls.length = ts.length := by rw [hls.len, List.length_map]
  have ldx := va_len da
  repeat' (walk_at "rd")
  rename_i F nF G1 s1 eF
  refine Rd.cut (fun σ' G => ∃ xf : List V, σ' = [some (.ref h), some (.ref l), some (.ref p), some v, some (.ref F), none, none] ∧ Same H G ∧ G F = some (.lst xf) ∧ DvAll K G xf (ds ++ optL d)) ?_ ?_
  · by_cases hv : d = .none
    · subst hv
      cases dv
      repeat' (walk_at "rd")
      refine ⟨xs, rfl, s1, eF, ?_⟩
      rw [show ds ++ optL .none = ds from List.append_nil _]
      exact va_same s1 da
    · have nv : ¬ v = .non := fun z => by
        subst z
        cases dv
        exact hv rfl
      repeat' (walk_at "rd")
      all_goals first
      | (rename_i z; exact absurd z nv)
      | skip
      refine append eF (sz5' (by omega)) ?_
      repeat' (walk_at "rd")
      have sF : Same H (upd G1 F (.lst (xs ++ [v]))) := fun b o e => (upd_ne (ne_of_none e nF)).trans (s1 _ _ e)
      refine ⟨xs ++ [v], rfl, sF, upd_same, ?_⟩
      rw [show optL d = [d] by cases d with | none => exact absurd rfl hv | _ => rfl]
      exact va_app (va_same sF da) (dv_same sF dv)
  rintro σ' G ⟨xf, rfl, sG, eF', df⟩
  have ldf := va_len df
  have szf : ∀ e ∈ ds ++ optL d, Sz e := fun e he => by
    rcases List.mem_append.mp he with he | he
    · exact sz e he
    · cases d with
      | none => cases he
      | _ =>
        rw [List.mem_singleton.mp he]
        exact szd
  have eh1 := sG _ _ eh
  repeat' (walk_at "rd")
  refine forL xf (fun i σ H' => ∃ v5 : Option V, σ = [some (.ref h), some (.ref l), some (.ref p), some v, some (.ref F), v5, none] ∧ Same G H' ∧ dueN (ds ++ optL d) = dueN ((ds ++ optL d).drop i)) ⟨none, rfl, .refl _, rfl⟩ (fun _ _ _ _ ⟨_, _, s, _⟩ => .inl (.inl (s _ _ eF'))) ?_ ?_
  · rintro i x σ H' hx ⟨v5, rfl, s', ed⟩
    obtain ⟨e, he, dx⟩ := va_at' df hx
    rw [drop_at he, show dueN (e :: (ds ++ optL d).drop (i + 1)) = if nameD e = true then dueN ((ds ++ optL d).drop (i + 1)) else some e from rfl] at ed
    have sze := szf e (List.mem_of_getElem? he)
    have dx' := dv_same s' dx
    repeat' (walk_at "rd")
    refine ⟨x, e, rfl, dx', sze, fun H2 s2 => ?_⟩
    have s02 := s'.trans s2
    cases hn : nameD e with
    | false =>
      rw [if_neg (by rw [hn]; exact Bool.false_ne_true)] at ed
      repeat' (walk_at "rd")
      rename_i l2 n2 G2 s3 e2
      exact qs "BadName" e (dueA_forms ed) (.ref l2) G2 ((sG.trans s02).trans s3) ⟨l2, x, rfl, e2, dv_same (s2.trans s3) dx'⟩
    | true =>
      rw [if_pos hn] at ed
      repeat' (walk_at "rd")
      exact ⟨_, rfl, s02, ed⟩
  rintro σ H1 ⟨v5, rfl, s', ed⟩
  rw [List.drop_of_length_le (by omega)] at ed
  obtain ⟨hn, hd⟩ := dueN_forms ed
  obtain ⟨ws, rfl, hw⟩ := names_str hn
  obtain rfl := va_texts da
  have s01 := sG.trans s'
  have ep1 := s01 _ _ ep
  have lws : ws.length ≤ 1000 := by rw [List.length_map] at lx; exact lx
  repeat' (walk_at "rd")
  refine forL (ws.map V.str) (fun i σ H' => ∃ v5 : Option V, σ = [some (.ref h), some (.ref l), some (.ref p), some v, some (.ref F), v5, none] ∧ Same H1 H' ∧ ∀ y ∈ ws.take i, y ∈ zs) ⟨_, rfl, .refl _, fun _ h => nomatch h⟩ (fun _ _ _ _ ⟨_, _, s, _⟩ => .inl (.inl (s _ _ ep1))) ?_ ?_
  · rintro i x σ H' hx ⟨v5, rfl, s3, al⟩
    rw [List.getElem?_map] at hx
    obtain ⟨z, hz, rfl⟩ := Option.map_eq_some_iff.mp hx
    have s03 := s01.trans s3
    have eh3 := s03 _ _ eh
    repeat' (walk_at "rd")
    refine ⟨h, _, rfl, .inl (.inl (.inl eh3)), rfl, flat_strs zs, ?_⟩
    rw [if_pos rfl, inV_strs]
    by_cases m : z ∈ zs
    · rw [decide_eq_true m]
      repeat' (walk_at "rd")
      refine ⟨_, rfl, s3, fun y hy => ?_⟩
      rw [List.take_add_one, hz] at hy
      rcases List.mem_append.mp hy with hy | hy
      · exact al y hy
      · have hy : y = z := by simpa using hy
        rw [hy]
        exact m
    · rw [decide_eq_false m]
      repeat' (walk_at "rd")
      rename_i l2 n2 G2 s4 e2
      exact qs "NoHouse" (.str z) (dueA_house hn hd (outS_at hz m al)) (.ref l2) G2 (s03.trans s4) ⟨l2, _, rfl, e2, .str z⟩
  rintro σ H3 ⟨v6, rfl, s3, al⟩
  have s03 := s01.trans s3
  have o : outS zs ws = none := outS_all fun w hw => al w (by rw [List.length_map, List.take_length]; exact hw)
  by_cases hv : d = .none
  · subst hv
    cases dv
    repeat' (walk_at "rd")
    exact qn (dueA_none hn o) H3 s03
  · have nv : ¬ v = .non := fun z => by
      subst z
      cases dv
      exact hv rfl
    have hk : nameD d = true := hd.resolve_left hv
    rcases str_cases d with ⟨n, rfl⟩ | ⟨e, _⟩
    · cases dv
      have dl := dueA_line (ns := ts.map (·.1)) hn hk o
      have el3 := s03 _ _ el
      have hls3 := hls.same s03
      repeat' (walk_at "rd")
      refine lcF ls (fun i => (ts[i]?).map fun t => V.str t.1) (.inl (.inl el3)) (by omega) (fun i v h' hv s => ?_) fun N G1 nN s4 eN => ?_
      · intro L5 Nx yes no
        obtain ⟨kk, hkk, okk, t0, rfl, et0⟩ := hls3.at hv
        rw [List.getElem?_map] at hkk
        obtain ⟨⟨n, x, y⟩, ht, rfl⟩ := Option.map_eq_some_iff.mp hkk
        have et : h' t0 = some (.tup [.str n, .str x, .str y]) := s _ _ et0
        have ei : (ts[i]?).map (fun t => V.str t.1) = some (.str n) := by rw [ht]; rfl
        refine turn1 ?_
        repeat' (walk_at "rd")
        refine ⟨rfl, ?_⟩
        repeat' (walk_at "rd")
        exact yes _ _ ei (.refl _)
      rw [mapD1 ts ls lls] at eN
      refine ⟨N, _, rfl, .inl (.inl (.inl eN)), rfl, flat_strs _, ?_⟩
      rw [if_pos rfl, inV_strs]
      by_cases m : n ∈ ts.map (·.1)
      · rw [if_pos m] at dl
        rw [decide_eq_true m]
        repeat' (walk_at "rd")
        exact qn dl G1 (s03.trans s4)
      · rw [if_neg m] at dl
        rw [decide_eq_false m]
        repeat' (walk_at "rd")
        rename_i l2 n2 G2 s5 e2
        exact qs "NoLine" (.str n) dl (.ref l2) G2 ((s03.trans s4).trans s5) ⟨l2, _, rfl, e2, .str n⟩
    · rw [e] at hk
      cases hk
end
end Kj
namespace Kj
open PySem PySem.Spec PyProof.Rows L2 Rd
local macro_rules | `(tactic| walk_at "hp") => `(tactic| first
  | assumption
  | exact upd_same
  | (refine Eq.trans (upd_ne (by first | assumption | (apply Ne.symm; assumption))) ?_; walk_at "hp"))
local macro_rules | `(tactic| walk_at "sq") => `(tactic| first
  | assumption
  | (refine Or.inl (Or.inl ?_); walk_at "hp"))
local macro_rules | `(tactic| walk_at "st") => `(tactic| first
  | assumption
  | (refine Or.inl (Or.inl ?_); walk_at "hp"))
local macro_rules | `(tactic| walk_at "ar") => `(tactic| first
  | assumption
  | omega
  | decide)
local macro_rules | `(tactic| walk_at "ci") => `(tactic| first
  | (refine (show CMul _ _ from Or.inr ⟨?_, ?_⟩) <;> omega)
  | (refine (show CMul _ _ from Or.inl ⟨?_, ?_⟩) <;> omega)
  | (show CPow _ _; exact ⟨by decide, by decide, by decide⟩)
  | (refine wide_div (b := 63) ?_ ?_ (by decide) (by decide) <;> omega)
  | (show (0 : Int) < _; omega))
local macro_rules | `(tactic| walk_at "ty") => `(tactic| first
  | exact dp_ty (by assumption)
  | exact TyX.base (TyOf.int _)
  | exact TyX.base (TyOf.str _)
  | exact TyX.base (TyOf.bl _)
  | exact TyX.base TyOf.non
  | exact tyL' (by walk_at "sq")
  | exact tyT' (by walk_at "st"))
local macro_rules | `(tactic| walk_at "isi") => `(tactic| first
  | ((with_reducible apply Rd.isiF); (walk_at "ty"); (decide))
  | ((with_reducible apply Rd.isiT); (walk_at "ty"); (decide)))
local macro_rules | `(tactic| walk_at "rd") => `(tactic| first
  | with_reducible apply Rd.seq
  | ((with_reducible apply Rd.var); rfl)
  | with_reducible apply Rd.con
  | with_reducible apply Rd.op
  | with_reducible apply Rd.asg
  | ((with_reducible apply Rd.gname); ((dsimp only [List.set, L2.wipe, Int.reduceToNat]) <;> rfl))
  | with_reducible apply Rd.nxt
  | with_reducible apply Rd.ifs
  | with_reducible apply Rd.test
  | with_reducible apply Rd.testB
  | with_reducible apply Rd.exbl
  | with_reducible apply Rd.ret
  | with_reducible apply Rd.drop
  | with_reducible apply Rd.retN
  | with_reducible apply Rd.nil
  | with_reducible apply Rd.cons
  | with_reducible apply Rd.call
  | with_reducible apply Rd.cb
  | with_reducible apply Rd.and
  | with_reducible apply Rd.or
  | with_reducible apply Rd.not
  | with_reducible apply Rd.andV
  | with_reducible apply Rd.orV
  | with_reducible apply Rd.notV
  | with_reducible apply Rd.ife
  | with_reducible apply Rd.tup
  | with_reducible apply Rd.lst
  | with_reducible apply Rd.un
  | with_reducible apply Rd.chain
  | with_reducible apply Rd.brk
  | with_reducible apply Rd.cnt
  | with_reducible apply Rd.I0
  | with_reducible apply Rd.U1
  | ((with_reducible apply Rd.eq); rfl)
  | ((with_reducible apply Rd.ne); rfl)
  | ((with_reducible apply Rd.I1); (walk_at "ci"))
  | with_reducible apply Rd.lc0
  | with_reducible apply Rd.ln0
  | with_reducible apply Rd.exN
  | ((with_reducible apply Rd.iteSf); (decide +kernel))
  | ((with_reducible apply Rd.iteSt); (decide +kernel))
  | ((with_reducible apply Rd.niQ); (exact Or.inl (by walk_at "sq")); (exact ⟨rfl, rfl⟩); (rfl))
  | ((with_reducible apply Rd.inQ); (exact Or.inl (by walk_at "sq")); (exact ⟨rfl, rfl⟩); (rfl))
  | with_reducible apply Rd.rn1
  | with_reducible apply Rd.in1
  | with_reducible apply Rd.sn1
  | with_reducible apply Rd.bn1
  | with_reducible apply Rd.nn1
  | with_reducible apply Rd.rn2
  | with_reducible apply Rd.in2
  | with_reducible apply Rd.sn2
  | with_reducible apply Rd.bn2
  | with_reducible apply Rd.nn2
  | with_reducible apply Rd.nt1
  | with_reducible apply Rd.nf1
  | (with_reducible refine Rd.iteI (fun _ => ?_) (fun _ => ?_))
  | (with_reducible refine Rd.iteNI (fun _ => ?_) (fun _ => ?_))
  | (with_reducible refine iteT ?_)
  | (with_reducible refine iteF ?_)
  | (with_reducible refine Rd.iteD (fun _ => ?_) (fun _ => ?_))
  | (with_reducible refine Rd.iteN (fun _ => ?_) (fun _ => ?_))
  | with_reducible apply Rd.intI
  | with_reducible apply Rd.intB
  | with_reducible apply Rd.maxQ
  | with_reducible apply Rd.minQ
  | with_reducible apply Rd.absQ
  | with_reducible apply Rd.isN
  | with_reducible apply Rd.noN
  | with_reducible apply Rd.ltZ
  | with_reducible apply Rd.bm
  | with_reducible apply Rd.bm0
  | with_reducible apply Rd.par
  | with_reducible apply Rd.expar
  | with_reducible apply Rd.exint
  | with_reducible apply Rd.ipi
  | with_reducible apply Rd.slice
  | with_reducible apply Rd.noPart
  | with_reducible apply Rd.part
  | with_reducible apply Rd.gcons
  | with_reducible apply Rd.gnil
  | with_reducible apply Rd.iseq
  | with_reducible apply Rd.irng1
  | walk_at "isi"
  | with_reducible apply Rd.forX
  | with_reducible apply Rd.lstRev
  | with_reducible apply Rd.lstRg
  | with_reducible apply Rd.rg1
  | with_reducible apply Rd.rg2
  | with_reducible apply Rd.exint2
  | ((with_reducible apply Rd.exrev); (walk_at "sq"))
  | with_reducible apply Rd.lcX
  | with_reducible apply Rd.yes
  | ((with_reducible apply Rd.exrng1); (constructor <;> omega))
  | ((with_reducible apply Rd.exrng2); (refine ⟨?_, ?_, ?_, ?_⟩ <;> omega))
  | with_reducible apply Rd.irng2
  | ((with_reducible apply Rd.aug); rfl)
  | ((with_reducible apply Rd.exlst); (walk_at "sq"))
  | ((with_reducible apply Rd.gtup); (walk_at "st"); (rfl))
  | ((with_reducible apply Rd.tyL); (walk_at "hp"))
  | ((with_reducible apply Rd.ixL); (walk_at "sq"); (rfl))
  | ((with_reducible apply Rd.ixI); (walk_at "sq"); (omega); (first | assumption | (simp only [List.length_map]; omega)); (intro _ _))
  | (with_reducible refine Rd.gsub ?_)
  | ((with_reducible apply Rd.setL); (walk_at "hp"); (rfl); ((dsimp only [List.set, L2.wipe, Int.reduceToNat]) <;> rfl))
  | ((with_reducible apply Rd.lenQ); (first | exact Or.inl (by walk_at "sq") | exact Or.inr (by walk_at "st")))
  | ((with_reducible apply Rd.listQ); (first | exact Or.inl (by walk_at "sq") | exact Or.inr (by walk_at "st")))
  | ((with_reducible apply Rd.tupQ); (walk_at "sq"))
  | ((with_reducible apply Rd.slL); (walk_at "sq"))
  | ((with_reducible apply Rd.ixT); (walk_at "st"); (rfl))
  | (with_reducible refine Rd.iteB (fun _ => ?_) (fun _ => ?_))
  | (with_reducible refine Rd.iteNB (fun _ => ?_) (fun _ => ?_))
  | (refine Rd.andI (Nat.le_of_ble_eq_true rfl) ?_)
  | dsimp only [List.set])
local macro_rules | `(tactic| walk_at "hp") => `(tactic| first
  | assumption
  | exact upd_same
  | (refine Eq.trans (upd_ne (by first | assumption | (apply Ne.symm; assumption))) ?_; walk_at "hp")
  | (refine hpS (by assumption) ?_; walk_at "hp"))
local macro_rules | `(tactic| walk_at "al") => `(tactic| (with_reducible intro l hl; generalize hG : upd _ l _ = G; have hs := newOne hl hG; clear hG; obtain ⟨hs, he⟩ := hs))
local macro_rules | `(tactic| walk_at "rd") => `(tactic| first
  | walk_at "al"
  | ((with_reducible apply Rd.cat); (walk_at "hp"); (walk_at "hp"); (exact Nat.le_of_ble_eq_true rfl)))
local macro_rules | `(tactic| walk_at "sm") => `(tactic| first
  | assumption
  | exact Same.refl _
  | (refine Same.trans ?_ (by assumption); walk_at "sm"))
local macro_rules | `(tactic| walk_at "fr") => `(tactic| first
  | assumption
  | (refine Same.free (by assumption) ?_; walk_at "fr"))
local macro_rules | `(tactic| walk_at "ty") => `(tactic| first
  | exact dv_ty (by assumption)
  | exact tyD' (by walk_at "hp"))
local macro_rules | `(tactic| walk_at "sz") => `(tactic| first
  | exact sz5 (by omega)
  | (simp only [add_len, one_len]; exact sz5 (by omega)))
local macro_rules | `(tactic| walk_at "rd") => `(tactic| first
  | with_reducible apply Rd.istr
  | with_reducible apply Rd.exstr
  | with_reducible apply Rd.leA
  | with_reducible apply Rd.leZz
  | with_reducible apply Rd.le0
  | with_reducible apply Rd.le9
  | with_reducible apply Rd.niZ
  | ((with_reducible apply Rd.lenZ); (walk_at "sz"))
  | ((with_reducible apply Rd.slZ); (walk_at "sz"))
  | ((with_reducible apply Rd.addZ); (walk_at "sz"))
  | with_reducible apply Rd.raiseX
  | with_reducible apply Rd.exone
  | with_reducible apply Rd.callS
  | with_reducible apply Rd.callP
  | with_reducible apply Rd.xsX
  | with_reducible apply Rd.dnewX
  | with_reducible apply Rd.tyZ)
local macro_rules | `(tactic| walk_at "rd") => `(tactic| first
  | with_reducible apply Rd.seq
  | ((with_reducible apply Rd.var); rfl)
  | with_reducible apply Rd.con
  | with_reducible apply Rd.op
  | with_reducible apply Rd.cons
  | with_reducible apply Rd.nil
  | with_reducible apply Rd.asg
  | ((with_reducible apply Rd.gname); ((dsimp only [List.set, L2.wipe, Int.reduceToNat]) <;> rfl))
  | with_reducible apply Rd.nxt
  | with_reducible apply Rd.ifs
  | with_reducible apply Rd.test
  | with_reducible apply Rd.ret
  | with_reducible apply Rd.call
  | with_reducible apply Rd.cb)
open Ty Ln
section
variable {P : Program} {w : World} {K : PySem.W.Frag} {mg : Str → Option Value} {base : Heap} {D : Str → Addr}
/-- a value, told at the heap h -/
def OV (K : PySem.W.Frag) (h : Hp) (v : V) : Prop := ∃ d, Dv K h v d ∧ Sz d ∧ Fd 1 d
theorem OV.same {h h' : Hp} {v : V} (o : OV K h v) (s : Same h h') : OV K h' v := by
  obtain ⟨d, a, b, c⟩ := o
  exact ⟨d, dv_same s a, b, c⟩
theorem OV.str {h : Hp} {z : Str} (l : z.length ≤ 100000) : OV K h (.str z) := ⟨.str z, .str z, fun _ e => by cases e; exact l, .str z⟩
theorem nw_go {st c : Addr} {H0 H H' : Hp} (o0 : StoreAt H0 st c) (g : Go st c H H') : Same (nw H0 H) (nw H0 H') := nw_sub fun b o n e => nw_mk n (g.keep b o (fun z => by
  obtain ⟨⟨u, hu⟩, _⟩ := o0.has
  rw [z, hu] at n
  cases n) e)
theorem dnewXr {σ : L2.St} {H : Hp} {Q : VK} (h : ∀ p, H p = none → Q (.ref p) (upd H p (.dK []))) : tDNewK σ H Q := h
local macro_rules | `(tactic| walk_at "rd") => `(tactic| with_reducible apply Kj.dnewXr)
/-- _law_argument(store, pool) -/
def spArg (K : PySem.W.Frag) : Sp := fun vs H Q _ => ∃ (st c p : Addr) (ps : List Str), vs = [.ref st, .ref p] ∧ StoreAt H st c ∧ p ≠ st ∧ H p = some (.lst (ps.map V.str)) ∧ ps.length ≤ 1000 ∧ (∀ z ∈ ps, z.length ≤ 12) ∧
  ∀ (v : V) (H' : Hp), Go st c H H' → OV K (nw H H') v → Q v H'
theorem ok__law_argument (F : Def K mg "_law_argument" s__law_argument P__law_argument) (m_len : mg "len" = none) (C__law_take : Cal P w K mg base 1 "_law_take" P__law_take spTake) (C__law_pick : Cal P w K mg base 2 "_law_pick" P__law_pick (spPick K)) : Cal P w K mg base 3 "_law_argument" P__law_argument (spArg K) := by
  refine F.ok sc__law_argument (fun vs H Q E h => ?_) (fun f cdv A outer s H vs Q E hr h => ?_)
  · obtain ⟨st, c, p, ps, rfl, _⟩ := h
    rfl
  obtain ⟨st, c, p, ps, rfl, hs, pst, ep, lp, np, q⟩ := h
  refine ⟨_, (pss_cons (ps_set (i := 2) sc__law_argument.nd rfl (Or.inl rfl) (pe_lst (pa_cons pe_non (pa_cons pe_bl (pa_cons pe_bl (pa_cons pe_int (pa_cons pe_str (pa_cons pe_str (pa_cons pe_str (pa_cons pe_str (pa_cons (pe_lst pa_nil) (pa_cons (pe_lst (pa_cons pe_str pa_nil)) (pa_cons (pe_tup pa_nil) (pa_cons pe_dnewK (pa_cons (pe_op op_rep_str pe_str pe_int) (pa_cons pe_str (pa_cons pe_str pa_nil)))))))))))))))))
  (pss_cons (ps_set (i := 3) sc__law_argument.nd rfl (Or.inl rfl) (pe_cal C__law_take hr (pa_cons (pv 0 (hd := nd_store) (hcd := nc_store)) (pa_cons pe_int pa_nil)) (hdb := nd__law_take)))
  (pss_cons (ps_if (pt_cmpR op_eq (pv 3 (hd := nd_style) (hcd := nc_style)) pe_int (nomark _)) (pss_one (ps_ret (pe_cal C__law_pick hr (pa_cons (pv 0 (hd := nd_store) (hcd := nc_store)) (pa_cons (pv 2 (hd := nd_odd) (hcd := nc_odd)) pa_nil)) (hdb := nd__law_pick)))) pss_nil)
  (pss_cons (ps_if (PW.pt (pw_or (pt_cmpR op_eq (pv 3 (hd := nd_style) (hcd := nc_style)) pe_int (nomark _)) (pw_or1 (pt_cmpR op_eq (pe_callB q_len (by rfl) m_len PySem.boot_len (pa_cons (pv 1 (hd := nd_pool) (hcd := nc_pool)) pa_nil) (hn := nn_len) (hdb := nd_len)) pe_int (nomark _))))) (pss_one (ps_ret (pe_slice sl_str (pe_op o_addZ (pe_cal C__law_pick hr (pa_cons (pv 0 (hd := nd_store) (hcd := nc_store)) (pa_cons (pe_op op_cat (pv 1 (hd := nd_pool) (hcd := nc_pool)) (pe_lst (pa_cons pe_str pa_nil))) pa_nil)) (hdb := nd__law_pick)) (pe_cal C__law_pick hr (pa_cons (pv 0 (hd := nd_store) (hcd := nc_store)) (pa_cons pe_str pa_nil)) (hdb := nd__law_pick))) po_none (po_some pe_int)))) pss_nil)
  (pss_one (ps_ret (pe_cal C__law_pick hr (pa_cons (pv 0 (hd := nd_store) (hcd := nc_store)) (pa_cons (pv 1 (hd := nd_pool) (hcd := nc_pool)) pa_nil)) (hdb := nd__law_pick)))))))), ?_⟩
  refine Rd.at0 (σ := [some (.ref st), some (.ref p), none, none]) rfl ?_
  have lmp : (ps.map V.str).length = ps.length := List.length_map ..
  repeat' (walk_at "rd")
  refine repZ (by decide) ?_
  repeat' (walk_at "rd")
  rename_i l1 n1 G1 s1 e1 l2 n2 G2 s2 e2 l3 n3 G3 s3 e3 l4 n4 G4 s4 e4 Od nO GO sO eO
  have t4 := sO
  have t3 := s4.trans t4
  have t2 := s3.trans t3
  have t1 := s2.trans t2
  have t0 := s1.trans t1
  have f1 := n1
  have f2 := s1.free n2
  have f3 := (s1.trans s2).free n3
  have f4 := ((s1.trans s2).trans s3).free n4
  have fO := ((hs.same (((s1.trans s2).trans s3).trans s4)).off nO).1
  have oxs : ∀ v ∈ [V.non, .bl true, .bl false, .int 0, .str "", .str "A", .str "0a", .str "a b", .ref l1, .ref l2, .ref l3, .ref l4, .str (Txt.mul "a" 13), .str "a\n", .str "a-"], OV K (nw H GO) v := fun v hv => by
    have k1 := nw_mk f1 (t1 _ _ e1)
    have k2 := nw_mk f2 (t2 _ _ e2)
    have k3 := nw_mk f3 (t3 _ _ e3)
    have k4 := nw_mk f4 (t4 _ _ e4)
    simp only [List.mem_cons, List.not_mem_nil, or_false] at hv
    rcases hv with rfl | rfl | rfl | rfl | rfl | rfl | rfl | rfl | rfl | rfl | rfl | rfl | rfl | rfl | rfl
    · exact ⟨_, .non, (fun _ e => nomatch e), .non⟩
    · exact ⟨_, .bl _, (fun _ e => nomatch e), .bl _⟩
    · exact ⟨_, .bl _, (fun _ e => nomatch e), .bl _⟩
    · exact ⟨_, .int _, (fun _ e => nomatch e), .int _⟩
    · exact .str (by decide)
    · exact .str (by decide)
    · exact .str (by decide)
    · exact .str (by decide)
    · exact ⟨_, .lst (.inl (.inl k1)) .nil, (fun _ e => nomatch e), .lst (Nat.zero_le _) fun _ h => nomatch h⟩
    · exact ⟨_, .lst (.inl (.inl k2)) (.cons (.str _) .nil), (fun _ e => nomatch e), .lst (show 1 ≤ 100000 by decide) fun d hd => by rw [List.mem_singleton.mp hd]; exact .str _⟩
    · exact ⟨_, .tup (.inl (.inl k3)) .nil, (fun _ e => nomatch e), .tup (Nat.zero_le _) fun _ h => nomatch h⟩
    · exact ⟨_, .dc0 k4, (fun _ e => nomatch e), .dc0⟩
    · exact .str (Nat.le_trans (mulL (k := 1) (m := 13) (by decide) (by decide)) (by decide))
    · exact .str (by decide)
    · exact .str (by decide)
  have lxs : [V.non, .bl true, .bl false, .int 0, .str "", .str "A", .str "0a", .str "a b", .ref l1, .ref l2, .ref l3, .ref l4, .str (Txt.mul "a" 13), .str "a\n", .str "a-"].length = 15 := rfl
  generalize [V.non, .bl true, .bl false, .int 0, .str "", .str "A", .str "0a", .str "a b", .ref l1, .ref l2, .ref l3, .ref l4, .str (Txt.mul "a" 13), .str "a\n", .str "a-"] = xs at *
  have g0 := (Go.refl hs).same t0
  have ep0 := t0 _ _ ep
  clear t0 t1 t2 t3 t4 f1 f2 f3 f4 e1 e2 e3 e4 s1 s2 s3 s4 sO n1 n2 n3 n4 nO
  refine ⟨st, c, 9, rfl, g0.ok, by decide, fun y H1 y0 y1 g1 => ?_⟩
  have g01 := g0.trans g1
  have eO1 := g1.keep _ _ fO eO
  have ep1 := g1.keep _ _ pst ep0
  have oxs1 : ∀ v ∈ xs, OV K (nw H H1) v := fun v hv => (oxs v hv).same (nw_go hs g1)
  clear oxs eO ep0
  repeat' (walk_at "rd")
  · refine .inr ⟨st, c, Od, xs, rfl, g01.ok, fO, .inl (.inl eO1), by omega, (fun e => by rw [e] at lxs; cases lxs), fun v H2 hv g2 => ?_⟩
    exact q v H2 (g01.trans g2) ((oxs1 v hv).same (nw_go hs g2))
  ·
    rename_i L5 n5 G5 s5 e5
    refine Rd.cat (s5 _ _ ep1) e5 (sz5 (by show _ + 1 ≤ 100000; omega)) ?_
    repeat' (walk_at "rd")
    rename_i L6 n6 G6 s6 e6
    have g6 := g01.same (s5.trans s6)
    refine .inr ⟨st, c, L6, _, rfl, g6.ok, ((g01.ok.same s5).off n6).1, .inl (.inl e6), by rw [List.length_append]; show _ + 1 ≤ 100000; omega, (fun e => by simp at e), fun x H7 hx g7 => ?_⟩
    obtain ⟨z, rfl, lz12⟩ : ∃ z, x = .str z ∧ z.length ≤ 12 := by
      rcases List.mem_append.mp hx with hx | hx
      · obtain ⟨z, hz, rfl⟩ := List.mem_map.mp hx
        exact ⟨z, rfl, np z hz⟩
      · rw [List.mem_singleton.mp hx]
        exact ⟨_, rfl, by decide⟩
    have g07 := g6.trans g7
    have e4 : ("09az" : Str).length = 4 := by decide +kernel
    repeat' (walk_at "rd")
    refine .inl ⟨st, c, "09az", rfl, g07.ok, by omega, by omega, fun a H8 _ g8 => ?_⟩
    repeat' (walk_at "rd")
    exact q _ H8 (g07.trans g8) (.str (Nat.le_trans (cutL _ _ _ (by rw [add_len, one_len]; omega) (n := 13)) (by decide)))
  ·
    rename_i L5 n5 G5 s5 e5
    refine Rd.cat (s5 _ _ ep1) e5 (sz5 (by show _ + 1 ≤ 100000; omega)) ?_
    repeat' (walk_at "rd")
    rename_i L6 n6 G6 s6 e6
    have g6 := g01.same (s5.trans s6)
    refine .inr ⟨st, c, L6, _, rfl, g6.ok, ((g01.ok.same s5).off n6).1, .inl (.inl e6), by rw [List.length_append]; show _ + 1 ≤ 100000; omega, (fun e => by simp at e), fun x H7 hx g7 => ?_⟩
    obtain ⟨z, rfl, lz12⟩ : ∃ z, x = .str z ∧ z.length ≤ 12 := by
      rcases List.mem_append.mp hx with hx | hx
      · obtain ⟨z, hz, rfl⟩ := List.mem_map.mp hx
        exact ⟨z, rfl, np z hz⟩
      · rw [List.mem_singleton.mp hx]
        exact ⟨_, rfl, by decide⟩
    have g07 := g6.trans g7
    have e4 : ("09az" : Str).length = 4 := by decide +kernel
    repeat' (walk_at "rd")
    refine .inl ⟨st, c, "09az", rfl, g07.ok, by omega, by omega, fun a H8 _ g8 => ?_⟩
    repeat' (walk_at "rd")
    exact q _ H8 (g07.trans g8) (.str (Nat.le_trans (cutL _ _ _ (by rw [add_len, one_len]; omega) (n := 13)) (by decide)))
  · refine .inr ⟨st, c, p, _, rfl, g01.ok, pst, .inl (.inl ep1), by omega, (fun e => by rw [List.map_eq_nil_iff] at e; subst e; simp at *), fun v H2 hv g2 => ?_⟩
    obtain ⟨z, hz, rfl⟩ := List.mem_map.mp hv
    exact q _ H2 (g01.trans g2) (.str (Nat.le_trans (np z hz) (by decide)))
end
end Kj
namespace Kj
open PySem PySem.Spec PyProof.Rows L2 Rd
local macro_rules | `(tactic| walk_at "hp") => `(tactic| first
  | assumption
  | exact upd_same
  | (refine Eq.trans (upd_ne (by first | assumption | (apply Ne.symm; assumption))) ?_; walk_at "hp"))
local macro_rules | `(tactic| walk_at "sq") => `(tactic| first
  | assumption
  | (refine Or.inl (Or.inl ?_); walk_at "hp"))
local macro_rules | `(tactic| walk_at "st") => `(tactic| first
  | assumption
  | (refine Or.inl (Or.inl ?_); walk_at "hp"))
local macro_rules | `(tactic| walk_at "ar") => `(tactic| first
  | assumption
  | omega
  | decide)
local macro_rules | `(tactic| walk_at "ci") => `(tactic| first
  | (refine (show CMul _ _ from Or.inr ⟨?_, ?_⟩) <;> omega)
  | (refine (show CMul _ _ from Or.inl ⟨?_, ?_⟩) <;> omega)
  | (show CPow _ _; exact ⟨by decide, by decide, by decide⟩)
  | (refine wide_div (b := 63) ?_ ?_ (by decide) (by decide) <;> omega)
  | (show (0 : Int) < _; omega))
local macro_rules | `(tactic| walk_at "ty") => `(tactic| first
  | exact dp_ty (by assumption)
  | exact TyX.base (TyOf.int _)
  | exact TyX.base (TyOf.str _)
  | exact TyX.base (TyOf.bl _)
  | exact TyX.base TyOf.non
  | exact tyL' (by walk_at "sq")
  | exact tyT' (by walk_at "st"))
local macro_rules | `(tactic| walk_at "isi") => `(tactic| first
  | ((with_reducible apply Rd.isiF); (walk_at "ty"); (decide))
  | ((with_reducible apply Rd.isiT); (walk_at "ty"); (decide)))
local macro_rules | `(tactic| walk_at "rd") => `(tactic| first
  | with_reducible apply Rd.seq
  | ((with_reducible apply Rd.var); rfl)
  | with_reducible apply Rd.con
  | with_reducible apply Rd.op
  | with_reducible apply Rd.asg
  | ((with_reducible apply Rd.gname); ((dsimp only [List.set, L2.wipe, Int.reduceToNat]) <;> rfl))
  | with_reducible apply Rd.nxt
  | with_reducible apply Rd.ifs
  | with_reducible apply Rd.test
  | with_reducible apply Rd.testB
  | with_reducible apply Rd.exbl
  | with_reducible apply Rd.ret
  | with_reducible apply Rd.drop
  | with_reducible apply Rd.retN
  | with_reducible apply Rd.nil
  | with_reducible apply Rd.cons
  | with_reducible apply Rd.call
  | with_reducible apply Rd.cb
  | with_reducible apply Rd.and
  | with_reducible apply Rd.or
  | with_reducible apply Rd.not
  | with_reducible apply Rd.andV
  | with_reducible apply Rd.orV
  | with_reducible apply Rd.notV
  | with_reducible apply Rd.ife
  | with_reducible apply Rd.tup
  | with_reducible apply Rd.lst
  | with_reducible apply Rd.un
  | with_reducible apply Rd.chain
  | with_reducible apply Rd.brk
  | with_reducible apply Rd.cnt
  | with_reducible apply Rd.I0
  | with_reducible apply Rd.U1
  | ((with_reducible apply Rd.eq); rfl)
  | ((with_reducible apply Rd.ne); rfl)
  | ((with_reducible apply Rd.I1); (walk_at "ci"))
  | with_reducible apply Rd.lc0
  | with_reducible apply Rd.ln0
  | with_reducible apply Rd.exN
  | ((with_reducible apply Rd.iteSf); (decide +kernel))
  | ((with_reducible apply Rd.iteSt); (decide +kernel))
  | ((with_reducible apply Rd.niQ); (exact Or.inl (by walk_at "sq")); (exact ⟨rfl, rfl⟩); (rfl))
  | ((with_reducible apply Rd.inQ); (exact Or.inl (by walk_at "sq")); (exact ⟨rfl, rfl⟩); (rfl))
  | with_reducible apply Rd.rn1
  | with_reducible apply Rd.in1
  | with_reducible apply Rd.sn1
  | with_reducible apply Rd.bn1
  | with_reducible apply Rd.nn1
  | with_reducible apply Rd.rn2
  | with_reducible apply Rd.in2
  | with_reducible apply Rd.sn2
  | with_reducible apply Rd.bn2
  | with_reducible apply Rd.nn2
  | with_reducible apply Rd.nt1
  | with_reducible apply Rd.nf1
  | (with_reducible refine Rd.iteI (fun _ => ?_) (fun _ => ?_))
  | (with_reducible refine Rd.iteNI (fun _ => ?_) (fun _ => ?_))
  | (with_reducible refine iteT ?_)
  | (with_reducible refine iteF ?_)
  | (with_reducible refine Rd.iteD (fun _ => ?_) (fun _ => ?_))
  | (with_reducible refine Rd.iteN (fun _ => ?_) (fun _ => ?_))
  | with_reducible apply Rd.intI
  | with_reducible apply Rd.intB
  | with_reducible apply Rd.maxQ
  | with_reducible apply Rd.minQ
  | with_reducible apply Rd.absQ
  | with_reducible apply Rd.isN
  | with_reducible apply Rd.noN
  | with_reducible apply Rd.ltZ
  | with_reducible apply Rd.bm
  | with_reducible apply Rd.bm0
  | with_reducible apply Rd.par
  | with_reducible apply Rd.expar
  | with_reducible apply Rd.exint
  | with_reducible apply Rd.ipi
  | with_reducible apply Rd.slice
  | with_reducible apply Rd.noPart
  | with_reducible apply Rd.part
  | with_reducible apply Rd.gcons
  | with_reducible apply Rd.gnil
  | with_reducible apply Rd.iseq
  | with_reducible apply Rd.irng1
  | walk_at "isi"
  | with_reducible apply Rd.forX
  | with_reducible apply Rd.lstRev
  | with_reducible apply Rd.lstRg
  | with_reducible apply Rd.rg1
  | with_reducible apply Rd.rg2
  | with_reducible apply Rd.exint2
  | ((with_reducible apply Rd.exrev); (walk_at "sq"))
  | with_reducible apply Rd.lcX
  | with_reducible apply Rd.yes
  | ((with_reducible apply Rd.exrng1); (constructor <;> omega))
  | ((with_reducible apply Rd.exrng2); (refine ⟨?_, ?_, ?_, ?_⟩ <;> omega))
  | with_reducible apply Rd.irng2
  | ((with_reducible apply Rd.aug); rfl)
  | ((with_reducible apply Rd.exlst); (walk_at "sq"))
  | ((with_reducible apply Rd.gtup); (walk_at "st"); (rfl))
  | ((with_reducible apply Rd.tyL); (walk_at "hp"))
  | ((with_reducible apply Rd.ixL); (walk_at "sq"); (rfl))
  | ((with_reducible apply Rd.ixI); (walk_at "sq"); (omega); (first | assumption | (simp only [List.length_map]; omega)); (intro _ _))
  | (with_reducible refine Rd.gsub ?_)
  | ((with_reducible apply Rd.setL); (walk_at "hp"); (rfl); ((dsimp only [List.set, L2.wipe, Int.reduceToNat]) <;> rfl))
  | ((with_reducible apply Rd.lenQ); (first | exact Or.inl (by walk_at "sq") | exact Or.inr (by walk_at "st")))
  | ((with_reducible apply Rd.listQ); (first | exact Or.inl (by walk_at "sq") | exact Or.inr (by walk_at "st")))
  | ((with_reducible apply Rd.tupQ); (walk_at "sq"))
  | ((with_reducible apply Rd.slL); (walk_at "sq"))
  | ((with_reducible apply Rd.ixT); (walk_at "st"); (rfl))
  | (with_reducible refine Rd.iteB (fun _ => ?_) (fun _ => ?_))
  | (with_reducible refine Rd.iteNB (fun _ => ?_) (fun _ => ?_))
  | (refine Rd.andI (Nat.le_of_ble_eq_true rfl) ?_)
  | dsimp only [List.set])
local macro_rules | `(tactic| walk_at "hp") => `(tactic| first
  | assumption
  | exact upd_same
  | (refine Eq.trans (upd_ne (by first | assumption | (apply Ne.symm; assumption))) ?_; walk_at "hp")
  | (refine hpS (by assumption) ?_; walk_at "hp"))
local macro_rules | `(tactic| walk_at "al") => `(tactic| (with_reducible intro l hl; generalize hG : upd _ l _ = G; have hs := newOne hl hG; clear hG; obtain ⟨hs, he⟩ := hs))
local macro_rules | `(tactic| walk_at "rd") => `(tactic| first
  | walk_at "al"
  | ((with_reducible apply Rd.cat); (walk_at "hp"); (walk_at "hp"); (exact Nat.le_of_ble_eq_true rfl)))
local macro_rules | `(tactic| walk_at "sm") => `(tactic| first
  | assumption
  | exact Same.refl _
  | (refine Same.trans ?_ (by assumption); walk_at "sm"))
local macro_rules | `(tactic| walk_at "fr") => `(tactic| first
  | assumption
  | (refine Same.free (by assumption) ?_; walk_at "fr"))
local macro_rules | `(tactic| walk_at "ty") => `(tactic| first
  | exact dv_ty (by assumption)
  | exact tyD' (by walk_at "hp"))
local macro_rules | `(tactic| walk_at "sz") => `(tactic| first
  | exact sz5 (by omega)
  | (simp only [add_len, one_len]; exact sz5 (by omega)))
local macro_rules | `(tactic| walk_at "rd") => `(tactic| first
  | with_reducible apply Rd.istr
  | with_reducible apply Rd.exstr
  | with_reducible apply Rd.leA
  | with_reducible apply Rd.leZz
  | with_reducible apply Rd.le0
  | with_reducible apply Rd.le9
  | with_reducible apply Rd.niZ
  | ((with_reducible apply Rd.lenZ); (walk_at "sz"))
  | ((with_reducible apply Rd.slZ); (walk_at "sz"))
  | ((with_reducible apply Rd.addZ); (walk_at "sz"))
  | with_reducible apply Rd.raiseX
  | with_reducible apply Rd.exone
  | with_reducible apply Rd.callS
  | with_reducible apply Rd.callP
  | with_reducible apply Rd.xsX
  | with_reducible apply Rd.dnewX
  | with_reducible apply Rd.tyZ)
local macro_rules | `(tactic| walk_at "rd") => `(tactic| first
  | with_reducible apply Rd.seq
  | ((with_reducible apply Rd.var); rfl)
  | with_reducible apply Rd.con
  | with_reducible apply Rd.op
  | with_reducible apply Rd.cons
  | with_reducible apply Rd.nil
  | with_reducible apply Rd.asg
  | ((with_reducible apply Rd.gname); ((dsimp only [List.set, L2.wipe, Int.reduceToNat]) <;> rfl))
  | with_reducible apply Rd.nxt
  | with_reducible apply Rd.ifs
  | with_reducible apply Rd.test
  | with_reducible apply Rd.ret
  | with_reducible apply Rd.call
  | with_reducible apply Rd.cb)
open Ty Ln
section
variable {P : Program} {w : World} {K : PySem.W.Frag} {mg : Str → Option Value} {base : Heap} {D : Str → Addr}
theorem calKX {kws : List (Str × V)} {sp : Sp} {E : L2.St → XK} {t : TA} {σ : L2.St} {H : Hp} {Q : VK} (h : t σ H fun vs H1 => sp (vs ++ kws.map (·.2)) H1 Q (E σ)) : tCalK kws sp E t σ H Q := h
theorem calKwX {n m : Nat} {sp : Sp} {E : L2.St → XK} {t tk : TA} {σ : L2.St} {H : Hp} {Q : VK} (h : t σ H fun vs H1 => tk σ H1 fun zs H2 => vs.length = n ∧ zs.length = m ∧ sp (vs ++ zs) H2 Q (E σ)) : tCalKw n m sp E t tk σ H Q := h
theorem mRef1 : (("BadName" : Str), ("word" : Str)) ∈ RefL := List.mem_cons_self
theorem mRef2 : (("NoHouse" : Str), ("word" : Str)) ∈ RefL := .tail _ (.head _)
theorem mRef3 : (("NoLine" : Str), ("word" : Str)) ∈ RefL := .tail _ (.tail _ (.head _))
/-- the errors of a search -/
def Three (code : Str) : Prop := code = "BadName" ∨ code = "NoHouse" ∨ code = "NoLine"
theorem Three.ref {code : Str} (h : Three code) : (code, ("word" : Str)) ∈ RefL := by
  rcases h with rfl | rfl | rfl
  · exact mRef1
  · exact mRef2
  · exact mRef3
/-- what a right search has told at H', which began at H -/
def WayT (zs : List Str) (ts : List (Str × Str × Str)) (v3 : V) (a b : Str) (v : V) (H H' : Hp) : Prop := ∃ (kt : List (Str × Str × Str)) (ms : List Str) (c : Str → Nat), kt.Perm ts ∧ SrtW (kt.map tr) ∧ Bfs (nbs kt v3) b ms c ∧ (∀ x ∈ ms, x ∈ zs) ∧
  ((a ∉ ms ∧ v = .non) ∨ (a ∈ ms ∧ ∃ L, v = .ref L ∧ H L = none ∧ WL H' L ((wayN (stepsOf (kt.filter (keepL v3))) c (c a) a).map tr)))
theorem WayT.same {zs : List Str} {ts : List (Str × Str × Str)} {v3 v : V} {a b : Str} {H H1 H2 : Hp} (h : WayT zs ts v3 a b v H H1) (s : Same H1 H2) : WayT zs ts v3 a b v H H2 := by
  obtain ⟨kt, ms, c, h1, h2, h3, h4, h5⟩ := h
  refine ⟨kt, ms, c, h1, h2, h3, h4, ?_⟩
  rcases h5 with h5 | ⟨m, L, e, n, w⟩
  · exact .inl h5
  · exact .inr ⟨m, L, e, n, w.same s⟩
/-- _law_asked(web, a, b, line, bare) -/
def spAskd (K : PySem.W.Frag) (D : Str → Addr) (C : Addr) : Sp := fun vs H Q _ => ∃ (g : Addr) (zs : List Str) (ts : List (Str × Str × Str)) (v1 v2 v3 : V) (d1 d2 d3 : PyData) (bare : Bool), vs = [.ref g, v1, v2, v3, .bl bare] ∧ WebAt H C g zs ts ∧ LinesOk zs ts ∧ zs.length ≤ 1000 ∧ ts.length ≤ 1000 ∧ zs.Nodup ∧ (∀ z ∈ zs, NmS z) ∧
  Dv K H v1 d1 ∧ Dv K H v2 d2 ∧ Dv K H v3 d3 ∧ Sz d1 ∧ Sz d2 ∧ Sz d3 ∧
  (dueA zs (ts.map (·.1)) [d1, d2] d3 = none → ∀ (a b : Str) (t : Addr) (v : V) (H' : Hp), d1 = .str a → d2 = .str b → WayT zs ts v3 a b v H H' → Same H H' → H' t = some (.tup [.str "told", v]) → Q (.ref t) H') ∧
  ∀ code e, dueA zs (ts.map (·.1)) [d1, d2] d3 = some (code, e) → ∀ (t : Addr) (v' : V) (H' : Hp), Same H H' → H' t = some (.tup [.str "refused", .str code, v']) → Dv K H' v' e → Q (.ref t) H'
local macro_rules | `(tactic| walk_at "rd") => `(tactic| first
  | with_reducible apply Kj.calKX
  | with_reducible apply Kj.calKwX)
theorem ok__law_asked (F : Def K mg "_law_asked" s__law_asked P__law_asked) (c_cls : ∀ x ∈ Classes, mg x = some (.ref (D x))) (C_shortest_way : CalK P w K mg base 7 "shortest_way" P_shortest_way [("without", .non)] (spShort K D (D "Web"))) (C__law_refusal : Ho.CalP P w K mg base 1 "_law_refusal" P__law_refusal (spRefs K D)) (kn : ∀ p ∈ RefL, Ho.Knd K D Kinds (D p.1) p.1 p.2) (xm : ∀ p ∈ RefL, PySem.W.exmOne K (.ref (D p.1)) (.ref (D "KeptError")) = some true) : Cal P w K mg base 10 "_law_asked" P__law_asked (spAskd K D (D "Web")) := by
  refine F.ok sc__law_asked (fun vs H Q E h => ?_) (fun f cdv A outer s H vs Q E hr h => ?_)
  · obtain ⟨g, zs, ts, v1, v2, v3, d1, d2, d3, bare, rfl, _⟩ := h
    rfl
  obtain ⟨g, zs, ts, v1, v2, v3, d1, d2, d3, bare, rfl, wa, lo, lz, lt, nd, mz, a1, a2, a3, z1, z2, z3, qn, qs⟩ := h
  refine ⟨_, (C8.pss_cut (L2N.ps_try_as (i := 6) (Wout := fun _ _ _ _ => False) rfl rfl sc__law_asked.nd rfl rfl ⟨rfl, by decide, .inl (c_cls "KeptError" (by decide))⟩ Ho.takes0 (fun W pn xe tk _ => by exact (pss_one (ps_if (PW.pt (pw_and (pt_val (pv 4 (hd := nd_bare) (hcd := nc_bare))) (pw_and1 (pt_cmpR o_isN (pv 3 (hd := nd_line) (hcd := nc_line)) pe_non (nomark _))))) (pss_one (ps_set (i := 5) sc__law_asked.nd rfl (Or.inl rfl) (pe_tup (pa_cons pe_str (pa_cons (pe_calK C_shortest_way (fun σ => L2N.passAt tk σ) hr (pa_cons (pv 0 (hd := nd_web) (hcd := nc_web)) (pa_cons (pv 1 (hd := nd_a) (hcd := nc_a)) (pa_cons (pv 2 (hd := nd_b) (hcd := nc_b)) pa_nil))) (hdb := nd_shortest_way)) pa_nil))))) (pss_one (ps_set (i := 5) sc__law_asked.nd rfl (Or.inl rfl) (pe_tup (pa_cons pe_str (pa_cons (pe_calKw C_shortest_way (fun σ => L2N.passAt tk σ) hr (pa_cons (pv 0 (hd := nd_web) (hcd := nc_web)) (pa_cons (pv 1 (hd := nd_a) (hcd := nc_a)) (pa_cons (pv 2 (hd := nd_b) (hcd := nc_b)) pa_nil))) (pk_cons (pv 3 (hd := nd_line) (hcd := nc_line)) pk_nil) (hdb := nd_shortest_way)) pa_nil)))))))) (fun a oe cls d pn hz hf => by exact (pss_one (ps_set (i := 5) sc__law_asked.nd rfl (Or.inl rfl) (Ho.pe_calP C__law_refusal hz hf hr (pa_cons (pv 6 (hd := nd_e) (hcd := nc_e)) (pa_cons (Ho.pe_xs (K := K) rfl hz hf (pv 6 (hd := nd_e) (hcd := nc_e))) pa_nil)))))))
  (pss_one (ps_ret (pv 5 (hd := nd_told) (hcd := nc_told))))), ?_⟩
  refine Rd.at0 (σ := [some (.ref g), some v1, some v2, some v3, some (.bl bare), none, none]) rfl ?_
  refine Rd.cut (fun σ' G => ∃ (t : Addr) (v6 : Option V), σ' = [some (.ref g), some v1, some v2, some v3, some (.bl bare), some (.ref t), v6] ∧ Q (.ref t) G) ?_ ?_
  rotate_left
  · rintro σ' G ⟨t, v6, rfl, k⟩
    repeat' (walk_at "rd")
    exact k
  cases hD : dueA zs (ts.map (·.1)) [d1, d2] d3 with
  | none =>
    have qn := qn hD
    clear qs
    by_cases hv : v3 = .non
    · subst hv
      cases bare
      · repeat' (walk_at "rd")
        refine ⟨rfl, rfl, ?_⟩
        refine ⟨g, zs, ts, v1, v2, .non, d1, d2, d3, rfl, wa, lo, lz, lt, nd, mz, a1, a2, a3, z1, z2, z3, fun hn a b kt ms c v H1 e1 e2 pt sk bfs sub s1 h => ?_, fun code e he => by rw [hD] at he; cases he⟩
        repeat' (walk_at "rd")
        rename_i t nt G2 s2 et
        exact ⟨t, _, rfl, qn a b t v G2 e1 e2 (WayT.same ⟨kt, ms, c, pt, sk, bfs, sub, h⟩ s2) (s1.trans s2) et⟩
      · repeat' (walk_at "rd")
        refine ⟨g, zs, ts, v1, v2, .non, d1, d2, d3, rfl, wa, lo, lz, lt, nd, mz, a1, a2, a3, z1, z2, z3, fun hn a b kt ms c v H1 e1 e2 pt sk bfs sub s1 h => ?_, fun code e he => by rw [hD] at he; cases he⟩
        repeat' (walk_at "rd")
        rename_i t nt G2 s2 et
        exact ⟨t, _, rfl, qn a b t v G2 e1 e2 (WayT.same ⟨kt, ms, c, pt, sk, bfs, sub, h⟩ s2) (s1.trans s2) et⟩
    · cases bare
      · repeat' (walk_at "rd")
        refine ⟨rfl, rfl, ?_⟩
        refine ⟨g, zs, ts, v1, v2, v3, d1, d2, d3, rfl, wa, lo, lz, lt, nd, mz, a1, a2, a3, z1, z2, z3, fun hn a b kt ms c v H1 e1 e2 pt sk bfs sub s1 h => ?_, fun code e he => by rw [hD] at he; cases he⟩
        repeat' (walk_at "rd")
        rename_i t nt G2 s2 et
        exact ⟨t, _, rfl, qn a b t v G2 e1 e2 (WayT.same ⟨kt, ms, c, pt, sk, bfs, sub, h⟩ s2) (s1.trans s2) et⟩
      · repeat' (walk_at "rd")
        · rename_i z
          exact absurd z hv
        refine ⟨rfl, rfl, ?_⟩
        refine ⟨g, zs, ts, v1, v2, v3, d1, d2, d3, rfl, wa, lo, lz, lt, nd, mz, a1, a2, a3, z1, z2, z3, fun hn a b kt ms c v H1 e1 e2 pt sk bfs sub s1 h => ?_, fun code e he => by rw [hD] at he; cases he⟩
        repeat' (walk_at "rd")
        rename_i t nt G2 s2 et
        exact ⟨t, _, rfl, qn a b t v G2 e1 e2 (WayT.same ⟨kt, ms, c, pt, sk, bfs, sub, h⟩ s2) (s1.trans s2) et⟩
  | some ce =>
    obtain ⟨code, e⟩ := ce
    have three : Three code := dueA_code hD
    have qs := qs code e hD
    clear qn
    by_cases hv : v3 = .non
    · subst hv
      cases bare
      · repeat' (walk_at "rd")
        refine ⟨rfl, rfl, ?_⟩
        refine ⟨g, zs, ts, v1, v2, .non, d1, d2, d3, rfl, wa, lo, lz, lt, nd, mz, a1, a2, a3, z1, z2, z3, (fun he => by rw [hD] at he; cases he), fun code' e' he dd v H3 n3 s3 dv e3 => ?_⟩
        rw [hD] at he
        cases he
        refine ⟨true, xm _ three.ref, fun _ a na => ?_, fun z => Bool.noConfusion z⟩
        have kk := kn _ three.ref
        dsimp only at kk
        rcases three with rfl | rfl | rfl
        all_goals
          repeat' (walk_at "rd")
          refine ⟨rfl, D _, dd, _, .str _, rfl, kk.xf, kk.nc, rfl, e3, rfl, ?_⟩
          repeat' (walk_at "rd")
          refine ⟨(_, _), (by first | exact mRef1 | exact mRef2 | exact mRef3), D _, dd, v, rfl, rfl, rfl, kk, e3, fun t H4 n4 s4 e4 => ?_⟩
          repeat' (walk_at "rd")
          exact ⟨t, _, rfl, qs t v H4 (s3.trans s4) e4 (dv_same s4 dv)⟩
      · repeat' (walk_at "rd")
        refine ⟨g, zs, ts, v1, v2, .non, d1, d2, d3, rfl, wa, lo, lz, lt, nd, mz, a1, a2, a3, z1, z2, z3, (fun he => by rw [hD] at he; cases he), fun code' e' he dd v H3 n3 s3 dv e3 => ?_⟩
        rw [hD] at he
        cases he
        refine ⟨true, xm _ three.ref, fun _ a na => ?_, fun z => Bool.noConfusion z⟩
        have kk := kn _ three.ref
        dsimp only at kk
        rcases three with rfl | rfl | rfl
        all_goals
          repeat' (walk_at "rd")
          refine ⟨rfl, D _, dd, _, .str _, rfl, kk.xf, kk.nc, rfl, e3, rfl, ?_⟩
          repeat' (walk_at "rd")
          refine ⟨(_, _), (by first | exact mRef1 | exact mRef2 | exact mRef3), D _, dd, v, rfl, rfl, rfl, kk, e3, fun t H4 n4 s4 e4 => ?_⟩
          repeat' (walk_at "rd")
          exact ⟨t, _, rfl, qs t v H4 (s3.trans s4) e4 (dv_same s4 dv)⟩
    · cases bare
      · repeat' (walk_at "rd")
        refine ⟨rfl, rfl, ?_⟩
        refine ⟨g, zs, ts, v1, v2, v3, d1, d2, d3, rfl, wa, lo, lz, lt, nd, mz, a1, a2, a3, z1, z2, z3, (fun he => by rw [hD] at he; cases he), fun code' e' he dd v H3 n3 s3 dv e3 => ?_⟩
        rw [hD] at he
        cases he
        refine ⟨true, xm _ three.ref, fun _ a na => ?_, fun z => Bool.noConfusion z⟩
        have kk := kn _ three.ref
        dsimp only at kk
        rcases three with rfl | rfl | rfl
        all_goals
          repeat' (walk_at "rd")
          refine ⟨rfl, D _, dd, _, .str _, rfl, kk.xf, kk.nc, rfl, e3, rfl, ?_⟩
          repeat' (walk_at "rd")
          refine ⟨(_, _), (by first | exact mRef1 | exact mRef2 | exact mRef3), D _, dd, v, rfl, rfl, rfl, kk, e3, fun t H4 n4 s4 e4 => ?_⟩
          repeat' (walk_at "rd")
          exact ⟨t, _, rfl, qs t v H4 (s3.trans s4) e4 (dv_same s4 dv)⟩
      · repeat' (walk_at "rd")
        · rename_i z
          exact absurd z hv
        refine ⟨rfl, rfl, ?_⟩
        refine ⟨g, zs, ts, v1, v2, v3, d1, d2, d3, rfl, wa, lo, lz, lt, nd, mz, a1, a2, a3, z1, z2, z3, (fun he => by rw [hD] at he; cases he), fun code' e' he dd v H3 n3 s3 dv e3 => ?_⟩
        rw [hD] at he
        cases he
        refine ⟨true, xm _ three.ref, fun _ a na => ?_, fun z => Bool.noConfusion z⟩
        have kk := kn _ three.ref
        dsimp only at kk
        rcases three with rfl | rfl | rfl
        all_goals
          repeat' (walk_at "rd")
          refine ⟨rfl, D _, dd, _, .str _, rfl, kk.xf, kk.nc, rfl, e3, rfl, ?_⟩
          repeat' (walk_at "rd")
          refine ⟨(_, _), (by first | exact mRef1 | exact mRef2 | exact mRef3), D _, dd, v, rfl, rfl, rfl, kk, e3, fun t H4 n4 s4 e4 => ?_⟩
          repeat' (walk_at "rd")
          exact ⟨t, _, rfl, qs t v H4 (s3.trans s4) e4 (dv_same s4 dv)⟩
end
end Kj
namespace Kj
open PySem PySem.Spec PyProof.Rows L2 Rd
local macro_rules | `(tactic| walk_at "hp") => `(tactic| first
  | assumption
  | exact upd_same
  | (refine Eq.trans (upd_ne (by first | assumption | (apply Ne.symm; assumption))) ?_; walk_at "hp"))
local macro_rules | `(tactic| walk_at "sq") => `(tactic| first
  | assumption
  | (refine Or.inl (Or.inl ?_); walk_at "hp"))
local macro_rules | `(tactic| walk_at "st") => `(tactic| first
  | assumption
  | (refine Or.inl (Or.inl ?_); walk_at "hp"))
local macro_rules | `(tactic| walk_at "ar") => `(tactic| first
  | assumption
  | omega
  | decide)
local macro_rules | `(tactic| walk_at "ci") => `(tactic| first
  | (refine (show CMul _ _ from Or.inr ⟨?_, ?_⟩) <;> omega)
  | (refine (show CMul _ _ from Or.inl ⟨?_, ?_⟩) <;> omega)
  | (show CPow _ _; exact ⟨by decide, by decide, by decide⟩)
  | (refine wide_div (b := 63) ?_ ?_ (by decide) (by decide) <;> omega)
  | (show (0 : Int) < _; omega))
local macro_rules | `(tactic| walk_at "ty") => `(tactic| first
  | exact dp_ty (by assumption)
  | exact TyX.base (TyOf.int _)
  | exact TyX.base (TyOf.str _)
  | exact TyX.base (TyOf.bl _)
  | exact TyX.base TyOf.non
  | exact tyL' (by walk_at "sq")
  | exact tyT' (by walk_at "st"))
local macro_rules | `(tactic| walk_at "isi") => `(tactic| first
  | ((with_reducible apply Rd.isiF); (walk_at "ty"); (decide))
  | ((with_reducible apply Rd.isiT); (walk_at "ty"); (decide)))
local macro_rules | `(tactic| walk_at "rd") => `(tactic| first
  | with_reducible apply Rd.seq
  | ((with_reducible apply Rd.var); rfl)
  | with_reducible apply Rd.con
  | with_reducible apply Rd.op
  | with_reducible apply Rd.asg
  | ((with_reducible apply Rd.gname); ((dsimp only [List.set, L2.wipe, Int.reduceToNat]) <;> rfl))
  | with_reducible apply Rd.nxt
  | with_reducible apply Rd.ifs
  | with_reducible apply Rd.test
  | with_reducible apply Rd.testB
  | with_reducible apply Rd.exbl
  | with_reducible apply Rd.ret
  | with_reducible apply Rd.drop
  | with_reducible apply Rd.retN
  | with_reducible apply Rd.nil
  | with_reducible apply Rd.cons
  | with_reducible apply Rd.call
  | with_reducible apply Rd.cb
  | with_reducible apply Rd.and
  | with_reducible apply Rd.or
  | with_reducible apply Rd.not
  | with_reducible apply Rd.andV
  | with_reducible apply Rd.orV
  | with_reducible apply Rd.notV
  | with_reducible apply Rd.ife
  | with_reducible apply Rd.tup
  | with_reducible apply Rd.lst
  | with_reducible apply Rd.un
  | with_reducible apply Rd.chain
  | with_reducible apply Rd.brk
  | with_reducible apply Rd.cnt
  | with_reducible apply Rd.I0
  | with_reducible apply Rd.U1
  | ((with_reducible apply Rd.eq); rfl)
  | ((with_reducible apply Rd.ne); rfl)
  | ((with_reducible apply Rd.I1); (walk_at "ci"))
  | with_reducible apply Rd.lc0
  | with_reducible apply Rd.ln0
  | with_reducible apply Rd.exN
  | ((with_reducible apply Rd.iteSf); (decide +kernel))
  | ((with_reducible apply Rd.iteSt); (decide +kernel))
  | ((with_reducible apply Rd.niQ); (exact Or.inl (by walk_at "sq")); (exact ⟨rfl, rfl⟩); (rfl))
  | ((with_reducible apply Rd.inQ); (exact Or.inl (by walk_at "sq")); (exact ⟨rfl, rfl⟩); (rfl))
  | with_reducible apply Rd.rn1
  | with_reducible apply Rd.in1
  | with_reducible apply Rd.sn1
  | with_reducible apply Rd.bn1
  | with_reducible apply Rd.nn1
  | with_reducible apply Rd.rn2
  | with_reducible apply Rd.in2
  | with_reducible apply Rd.sn2
  | with_reducible apply Rd.bn2
  | with_reducible apply Rd.nn2
  | with_reducible apply Rd.nt1
  | with_reducible apply Rd.nf1
  | (with_reducible refine Rd.iteI (fun _ => ?_) (fun _ => ?_))
  | (with_reducible refine Rd.iteNI (fun _ => ?_) (fun _ => ?_))
  | (with_reducible refine iteT ?_)
  | (with_reducible refine iteF ?_)
  | (with_reducible refine Rd.iteD (fun _ => ?_) (fun _ => ?_))
  | (with_reducible refine Rd.iteN (fun _ => ?_) (fun _ => ?_))
  | with_reducible apply Rd.intI
  | with_reducible apply Rd.intB
  | with_reducible apply Rd.maxQ
  | with_reducible apply Rd.minQ
  | with_reducible apply Rd.absQ
  | with_reducible apply Rd.isN
  | with_reducible apply Rd.noN
  | with_reducible apply Rd.ltZ
  | with_reducible apply Rd.bm
  | with_reducible apply Rd.bm0
  | with_reducible apply Rd.par
  | with_reducible apply Rd.expar
  | with_reducible apply Rd.exint
  | with_reducible apply Rd.ipi
  | with_reducible apply Rd.slice
  | with_reducible apply Rd.noPart
  | with_reducible apply Rd.part
  | with_reducible apply Rd.gcons
  | with_reducible apply Rd.gnil
  | with_reducible apply Rd.iseq
  | with_reducible apply Rd.irng1
  | walk_at "isi"
  | with_reducible apply Rd.forX
  | with_reducible apply Rd.lstRev
  | with_reducible apply Rd.lstRg
  | with_reducible apply Rd.rg1
  | with_reducible apply Rd.rg2
  | with_reducible apply Rd.exint2
  | ((with_reducible apply Rd.exrev); (walk_at "sq"))
  | with_reducible apply Rd.lcX
  | with_reducible apply Rd.yes
  | ((with_reducible apply Rd.exrng1); (constructor <;> omega))
  | ((with_reducible apply Rd.exrng2); (refine ⟨?_, ?_, ?_, ?_⟩ <;> omega))
  | with_reducible apply Rd.irng2
  | ((with_reducible apply Rd.aug); rfl)
  | ((with_reducible apply Rd.exlst); (walk_at "sq"))
  | ((with_reducible apply Rd.gtup); (walk_at "st"); (rfl))
  | ((with_reducible apply Rd.tyL); (walk_at "hp"))
  | ((with_reducible apply Rd.ixL); (walk_at "sq"); (rfl))
  | ((with_reducible apply Rd.ixI); (walk_at "sq"); (omega); (first | assumption | (simp only [List.length_map]; omega)); (intro _ _))
  | (with_reducible refine Rd.gsub ?_)
  | ((with_reducible apply Rd.setL); (walk_at "hp"); (rfl); ((dsimp only [List.set, L2.wipe, Int.reduceToNat]) <;> rfl))
  | ((with_reducible apply Rd.lenQ); (first | exact Or.inl (by walk_at "sq") | exact Or.inr (by walk_at "st")))
  | ((with_reducible apply Rd.listQ); (first | exact Or.inl (by walk_at "sq") | exact Or.inr (by walk_at "st")))
  | ((with_reducible apply Rd.tupQ); (walk_at "sq"))
  | ((with_reducible apply Rd.slL); (walk_at "sq"))
  | ((with_reducible apply Rd.ixT); (walk_at "st"); (rfl))
  | (with_reducible refine Rd.iteB (fun _ => ?_) (fun _ => ?_))
  | (with_reducible refine Rd.iteNB (fun _ => ?_) (fun _ => ?_))
  | (refine Rd.andI (Nat.le_of_ble_eq_true rfl) ?_)
  | dsimp only [List.set])
local macro_rules | `(tactic| walk_at "hp") => `(tactic| first
  | assumption
  | exact upd_same
  | (refine Eq.trans (upd_ne (by first | assumption | (apply Ne.symm; assumption))) ?_; walk_at "hp")
  | (refine hpS (by assumption) ?_; walk_at "hp"))
local macro_rules | `(tactic| walk_at "al") => `(tactic| (with_reducible intro l hl; generalize hG : upd _ l _ = G; have hs := newOne hl hG; clear hG; obtain ⟨hs, he⟩ := hs))
local macro_rules | `(tactic| walk_at "rd") => `(tactic| first
  | walk_at "al"
  | ((with_reducible apply Rd.cat); (walk_at "hp"); (walk_at "hp"); (exact Nat.le_of_ble_eq_true rfl)))
local macro_rules | `(tactic| walk_at "sm") => `(tactic| first
  | assumption
  | exact Same.refl _
  | (refine Same.trans ?_ (by assumption); walk_at "sm"))
local macro_rules | `(tactic| walk_at "fr") => `(tactic| first
  | assumption
  | (refine Same.free (by assumption) ?_; walk_at "fr"))
local macro_rules | `(tactic| walk_at "ty") => `(tactic| first
  | exact dv_ty (by assumption)
  | exact tyD' (by walk_at "hp"))
local macro_rules | `(tactic| walk_at "sz") => `(tactic| first
  | exact sz5 (by omega)
  | (simp only [add_len, one_len]; exact sz5 (by omega)))
local macro_rules | `(tactic| walk_at "rd") => `(tactic| first
  | with_reducible apply Rd.istr
  | with_reducible apply Rd.exstr
  | with_reducible apply Rd.leA
  | with_reducible apply Rd.leZz
  | with_reducible apply Rd.le0
  | with_reducible apply Rd.le9
  | with_reducible apply Rd.niZ
  | ((with_reducible apply Rd.lenZ); (walk_at "sz"))
  | ((with_reducible apply Rd.slZ); (walk_at "sz"))
  | ((with_reducible apply Rd.addZ); (walk_at "sz"))
  | with_reducible apply Rd.raiseX
  | with_reducible apply Rd.exone
  | with_reducible apply Rd.callS
  | with_reducible apply Rd.callP
  | with_reducible apply Rd.xsX
  | with_reducible apply Rd.dnewX
  | with_reducible apply Rd.tyZ)
local macro_rules | `(tactic| walk_at "rd") => `(tactic| first
  | with_reducible apply Rd.seq
  | ((with_reducible apply Rd.var); rfl)
  | with_reducible apply Rd.con
  | with_reducible apply Rd.op
  | with_reducible apply Rd.cons
  | with_reducible apply Rd.nil
  | with_reducible apply Rd.asg
  | ((with_reducible apply Rd.gname); ((dsimp only [List.set, L2.wipe, Int.reduceToNat]) <;> rfl))
  | with_reducible apply Rd.nxt
  | with_reducible apply Rd.ifs
  | with_reducible apply Rd.test
  | with_reducible apply Rd.ret
  | with_reducible apply Rd.call
  | with_reducible apply Rd.cb)
open Ty Ln
section
variable {P : Program} {w : World} {K : PySem.W.Frag} {mg : Str → Option Value} {base : Heap} {D : Str → Addr}
theorem fdStrs {n : Nat} {k : List Str} : ∀ d ∈ k.map PyData.str, Fd n d := fun d hd => by
  obtain ⟨x, _, rfl⟩ := List.mem_map.mp hd
  exact .str x
theorem fd_one {n : Nat} {d : PyData} (h : Fd n d) : ∀ x ∈ [d], Fd n x := fun x hx => by
  rw [List.mem_singleton.mp hx]
  exact h
theorem fd_two {n : Nat} {d e : PyData} (h : Fd n d) (g : Fd n e) : ∀ x ∈ [d, e], Fd n x := fun x hx => by
  rcases List.mem_cons.mp hx with rfl | hx
  · exact h
  · exact fd_one g x hx
theorem fd_three {n : Nat} {d e f : PyData} (h : Fd n d) (g : Fd n e) (k : Fd n f) : ∀ x ∈ [d, e, f], Fd n x := fun x hx => by
  rcases List.mem_cons.mp hx with rfl | hx
  · exact h
  · exact fd_two g k x hx
theorem dueN_fd {n : Nat} {e : PyData} : ∀ {ds : List PyData}, dueN ds = some e → (∀ d ∈ ds, Fd n d) → Fd n e
  | [], h, _ => nomatch h
  | d :: ds, h, a => by
    unfold dueN at h
    by_cases k : nameD d = true
    · rw [if_pos k] at h
      exact dueN_fd h fun x hx => a x (.tail _ hx)
    · rw [if_neg k] at h
      cases h
      exact a _ (.head _)
theorem dueA_fd {n : Nat} {zs ns : List Str} {ds : List PyData} {d e : PyData} {code : Str} (h : dueA zs ns ds d = some (code, e)) (a : ∀ x ∈ ds, Fd n x) (b : Fd n d) : Fd n e := by
  cases k : dueN (ds ++ optL d) with
  | some x =>
    rw [dueA_forms k] at h
    cases h
    refine dueN_fd k fun y hy => ?_
    rcases List.mem_append.mp hy with hy | hy
    · exact a y hy
    · cases d with
      | none => cases hy
      | _ =>
        rw [List.mem_singleton.mp hy]
        exact b
  | none =>
    obtain ⟨hn, hd⟩ := dueN_forms k
    obtain ⟨ws, rfl, _⟩ := names_str hn
    cases o : outS zs ws with
    | some z =>
      rw [dueA_house hn hd o] at h
      cases h
      exact .str _
    | none =>
      rcases hd with rfl | hk
      · rw [dueA_none hn o] at h
        cases h
      · rcases str_cases d with ⟨m, rfl⟩ | ⟨e2, _⟩
        · rw [dueA_line hn hk o] at h
          by_cases mm : m ∈ ns
          · rw [if_pos mm] at h
            cases h
          · rw [if_neg mm] at h
            cases h
            exact .str _
        · rw [e2] at hk
          cases hk
theorem dvStrs {H : Hp} : ∀ k : List Str, DvAll K H (k.map V.str) (k.map PyData.str)
  | [] => .nil
  | x :: k => .cons (.str x) (dvStrs k)
theorem wv_dv {H : Hp} {v : V} {k : List Str} (h : WV H v k) : Dv K H v (wdat k) := by
  obtain ⟨_, t, rfl, h⟩ := h
  exact .tup (.inl (.inl h)) (dvStrs k)
theorem wvs_dv {H : Hp} : ∀ {vs : List V} {ks : List (List Str)}, WVs H vs ks → DvAll K H vs (ks.map wdat)
  | [], [], _ => .nil
  | v :: vs, k :: ks, h => .cons (wv_dv h.1) (wvs_dv h.2)
  | [], _ :: _, h => h.elim
  | _ :: _, [], h => h.elim
theorem wl_dv {H : Hp} {a : Addr} {ks : List (List Str)} (h : WL H a ks) : Dv K H (.ref a) (.list (ks.map wdat)) := by
  obtain ⟨vs, e, k⟩ := h
  exact .lst (.inl (.inl e)) (wvs_dv k)
theorem fd_w {ts : List (Str × Str × Str)} {ks : List (List Str)} (p : ks.Perm (ts.map tr)) (l : ts.length ≤ 100000) : Fd 2 (.list (ks.map wdat)) := .lst (by rw [List.length_map, p.length_eq, List.length_map]; exact l) fun d hd => by
  obtain ⟨k, hk, rfl⟩ := List.mem_map.mp hd
  obtain ⟨u, _, rfl⟩ := List.mem_map.mp (p.mem_iff.mp hk)
  exact .tup (show 3 ≤ 100000 by decide) fdStrs
theorem tr_inj : ∀ {xs ys : List (Str × Str × Str)}, xs.map tr = ys.map tr → xs = ys := fun {xs ys} h => by
  have := congrArg (List.map untr) h
  rw [List.map_map, List.map_map] at this
  have id1 : ∀ zs : List (Str × Str × Str), zs.map (untr ∘ tr) = zs := fun zs => by
    conv => rhs; rw [← List.map_id zs]
    rfl
  rwa [id1, id1] at this
theorem WayT.at {zs : List Str} {ts kt : List (Str × Str × Str)} {v3 v : V} {a b : Str} {H H' : Hp} (h : WayT zs ts v3 a b v H H') (pt : kt.Perm ts) (sk : SrtW (kt.map tr)) :
    ∃ (ms : List Str) (c : Str → Nat), Bfs (fun y => (stepsOf (kt.filter (keepL v3)) y).map (·.2)) b ms c ∧ (∀ x ∈ ms, x ∈ zs) ∧ WayAt (stepsOf (kt.filter (keepL v3))) ms c a v H H' := by
  obtain ⟨k2, ms, c, p2, s2, B, sub, hw⟩ := h
  obtain rfl : k2 = kt := tr_inj (srtw_one ((p2.trans pt.symm).map tr) s2 sk)
  exact ⟨ms, c, B, sub, hw⟩
section
variable {S : Str → List (Str × Str)} {a b : Str} {ms ms' : List Str} {c c' : Str → Nat}
theorem wayN_congr (B : Bfs (fun y => (S y).map (·.2)) b ms c) (h : ∀ x ∈ ms, c x = c' x) : ∀ (n : Nat) (s : Str), s ∈ ms → wayN S c n s = wayN S c' n s
  | 0, _, _ => rfl
  | n + 1, s, m => by
    have es : stepN S c s = stepN S c' s := by
      unfold stepN
      rw [List.filter_congr fun q hq => ?_]
      rw [h s m, h q.2 (B.cl s m q.2 (List.mem_map.mpr ⟨q, hq, rfl⟩)).1]
    unfold wayN
    rw [← es]
    cases hq : stepN S c s with
    | none => rfl
    | some q =>
      have mq : q ∈ S s := by
        unfold stepN at hq
        exact (List.mem_filter.mp (List.mem_of_mem_head? hq)).1
      show (q.1, s, q.2) :: wayN S c n q.2 = (q.1, s, q.2) :: wayN S c' n q.2
      rw [wayN_congr B h n q.2 (B.cl s m q.2 (List.mem_map.mpr ⟨q, mq, rfl⟩)).1]
theorem way_one (B : Bfs (fun y => (S y).map (·.2)) b ms c) (B' : Bfs (fun y => (S y).map (·.2)) b ms' c') (m : a ∈ ms) : wayN S c' (c' a) a = wayN S c (c a) a := by
  obtain ⟨h1, h2⟩ := B.one B'
  rw [← h2 a m]
  exact (wayN_congr B h2 _ a m).symm
variable (sym : ∀ x y, y ∈ (S x).map (·.2) → x ∈ (S y).map (·.2))
include sym
theorem reach_on (B : Bfs (fun y => (S y).map (·.2)) b ms c) (B' : Bfs (fun y => (S y).map (·.2)) a ms' c') : ∀ (n : Nat) (x : Str), x ∈ ms' → x ∈ ms → c' x = n → a ∈ ms ∧ c a ≤ c x + n
  | n, x, m', m, e => by
    by_cases k : x = a
    · subst k
      exact ⟨m, by omega⟩
    · obtain ⟨y, my, hy, e2⟩ := B'.pre x m' k
      obtain ⟨k1, k2⟩ := B.cl x m y (sym y x hy)
      obtain ⟨k3, k4⟩ := reach_on B B' (c' y) y my k1 rfl
      exact ⟨k3, by omega⟩
termination_by n => n
decreasing_by omega
theorem reach_back (B : Bfs (fun y => (S y).map (·.2)) b ms c) (B' : Bfs (fun y => (S y).map (·.2)) a ms' c') (m : b ∈ ms') : a ∈ ms ∧ c a ≤ c' b := by
  obtain ⟨h1, h2⟩ := reach_on sym B B' (c' b) b m B.src rfl
  rw [B.c0] at h2
  exact ⟨h1, by omega⟩
end
theorem dueA_swap {zs ns : List Str} {a b : Str} {d : PyData} (h : dueA zs ns [.str a, .str b] d = none) : dueA zs ns [.str b, .str a] d = none := by
  obtain ⟨a', b', e1, e2, ma, mb, hd⟩ := dueA_two h
  cases e1
  cases e2
  have hn : dueN [.str a, .str b] = none := by
    cases k : dueN [PyData.str a, .str b] with
    | none => rfl
    | some e =>
      rw [dueA_bad k] at h
      cases h
  have k : nmB a = true ∧ nmB b = true := by
    obtain ⟨ws, e, hw⟩ := names_str hn
    match ws, e with
    | [x, y], e =>
      injection e with e1 e2
      injection e2 with e2 _
      cases e1
      cases e2
      exact ⟨hw _ (.head _), hw _ (.tail _ (.head _))⟩
  have hn2 : dueN ([b, a].map PyData.str) = none := by
    show dueN [.str b, .str a] = none
    rw [dueN, if_pos (show nameD (.str b) = true from k.2), dueN, if_pos (show nameD (.str a) = true from k.1)]
    rfl
  have o : outS zs [b, a] = none := outS_all fun w hw => by
    rcases List.mem_cons.mp hw with rfl | hw
    · exact mb
    · rw [List.mem_singleton.mp hw]
      exact ma
  show dueA zs ns ([b, a].map PyData.str) d = none
  rcases hd with rfl | ⟨n, rfl, kn, mn⟩
  · exact dueA_none hn2 o
  · rw [dueA_line hn2 kn o, if_pos mn]
/-- both told alike -/
theorem way_same {S : Str → List (Str × Str)} {a b : Str} {ms ms' : List Str} {c c' : Str → Nat} {v v' : V} {H H1 H0 H2 : Hp} (sym : ∀ x y, y ∈ (S x).map (·.2) → x ∈ (S y).map (·.2)) (B : Bfs (fun y => (S y).map (·.2)) b ms c) (B' : Bfs (fun y => (S y).map (·.2)) b ms' c') (h : WayAt S ms c a v H H1) (h' : WayAt S ms' c' a v' H0 H2) :
    (a ∉ ms ∧ v = .non ∧ v' = .non) ∨ (a ∈ ms ∧ ∃ (L L' : Addr) (ws : List (Str × Str × Str)), v = .ref L ∧ v' = .ref L' ∧ H L = none ∧ H0 L' = none ∧ WL H1 L (ws.map tr) ∧ WL H2 L' (ws.map tr) ∧ ws.length = c a ∧ c a < ms.length ∧ ws = wayN S c (c a) a) := by
  have mm := (B.one B').1 a
  rcases h with ⟨n, rfl⟩ | ⟨m, L, rfl, nL, wL⟩
  · rcases h' with ⟨_, rfl⟩ | ⟨m', _⟩
    · exact .inl ⟨n, rfl, rfl⟩
    · exact absurd (mm.mpr m') n
  · rcases h' with ⟨n', _⟩ | ⟨m', L', rfl, nL', wL'⟩
    · exact absurd (mm.mp m) n'
    · rw [way_one B B' m] at wL'
      exact .inr ⟨m, L, L', _, rfl, rfl, nL, nL', wL, wL', wayN_len B sym m rfl, B.lt a m, rfl⟩
/-- _law_way_right(web, houses, lines, a, b, line) -/
def spWayRight (K : PySem.W.Frag) (C : Addr) : Sp := fun vs H Q _ => ∃ (g h l : Addr) (zs : List Str) (ts : List (Str × Str × Str)) (v1 v2 v3 : V) (d1 d2 d3 : PyData), vs = [.ref g, .ref h, .ref l, v1, v2, v3] ∧ WebAt H C g zs ts ∧ LinesOk zs ts ∧ zs.length ≤ 1000 ∧ ts.length ≤ 1000 ∧ zs.Nodup ∧ (∀ z ∈ zs, NmS z) ∧
  H h = some (.lst (zs.map V.str)) ∧ WL H l (ts.map tr) ∧ Dv K H v1 d1 ∧ Dv K H v2 d2 ∧ Dv K H v3 d3 ∧ Sz d1 ∧ Sz d2 ∧ Sz d3 ∧ Fd 1 d1 ∧ Fd 1 d2 ∧ Fd 1 d3 ∧ ∀ H', Same H H' → Q (.bl true) H'
theorem fd_way {ws : List (Str × Str × Str)} (l : ws.length ≤ 100000) : Fd 3 (.tuple [.str "told", .list ((ws.map tr).map wdat)]) :=
  .tup (show 2 ≤ 100000 by decide) (fd_two (.str _) (.lst (by rw [List.length_map, List.length_map]; exact l) fun d hd => by
    obtain ⟨k, hk, rfl⟩ := List.mem_map.mp hd
    obtain ⟨u, _, rfl⟩ := List.mem_map.mp hk
    exact .tup (show 3 ≤ 100000 by decide) fdStrs))
theorem LinesOk.flt {zs : List Str} {ts : List (Str × Str × Str)} (h : LinesOk zs ts) (p : Str × Str × Str → Bool) : LinesOk zs (ts.filter p) :=
  ⟨h.nd.sublist ((List.filter_sublist).map _), fun t ht => h.nm t (List.mem_filter.mp ht).1, fun t ht => h.en t (List.mem_filter.mp ht).1⟩
theorem two_upd {H G : Hp} {L : Addr} {x y : HO} (s : Same H G) (n : H L = none) : Same H (upd (upd G L x) L y) := fun _ _ e => (upd_ne (ne_of_none e n)).trans ((upd_ne (ne_of_none e n)).trans (s _ _ e))
theorem wl_two {G : Hp} {L L' : Addr} {xs as bs : List V} {ks : List (List Str)} (h : WL G L' ks) (e : G L = some (.lst xs)) (ne : L' ≠ L) : WL (upd (upd G L (.lst as)) L (.lst bs)) L' ks := by
  obtain ⟨vs, k1, k2⟩ := h
  exact ⟨vs, (upd_ne ne).trans ((upd_ne ne).trans k1), wvs_put upd_same (wvs_put e k2)⟩
theorem seqIx0 {n : Nat} (h : 0 < n) : seqIndex? 0 n = some 0 := by
  unfold seqIndex?
  simp [h]
theorem ok__law_way_right (F : Def K mg "_law_way_right" s__law_way_right P__law_way_right) (m_len : mg "len" = none) (C__law_same : Cal P w K mg base 9 "_law_same" P__law_same (spSame K 8)) (C__law_least_way : Cal P w K mg base 3 "_law_least_way" P__law_least_way (spLeastWay K)) (C__law_due_search : Cal P w K mg base 2 "_law_due_search" P__law_due_search (spDueSearch K)) (C__law_asked : Cal P w K mg base 10 "_law_asked" P__law_asked (spAskd K D (D "Web"))) : Cal P w K mg base 12 "_law_way_right" P__law_way_right (spWayRight K (D "Web")) := by
  refine F.ok sc__law_way_right (fun vs H Q E h => ?_) (fun f cdv A outer s H vs Q E hr h => ?_)
  · obtain ⟨g, h, l, zs, ts, v1, v2, v3, d1, d2, d3, rfl, _⟩ := h
    rfl
  obtain ⟨g, h, l, zs, ts, v1, v2, v3, d1, d2, d3, rfl, wa, lo, lz, lt, nd, mz, eh, wl, a1, a2, a3, z1, z2, z3, f1, f2, f3, q⟩ := h
  refine ⟨_, (pss_cons (ps_set (i := 6) sc__law_way_right.nd rfl (Or.inl rfl) (pe_cal C__law_asked hr (pa_cons (pv 0 (hd := nd_web) (hcd := nc_web)) (pa_cons (pv 3 (hd := nd_a) (hcd := nc_a)) (pa_cons (pv 4 (hd := nd_b) (hcd := nc_b)) (pa_cons (pv 5 (hd := nd_line) (hcd := nc_line)) (pa_cons pe_bl pa_nil))))) (hdb := nd__law_asked)))
  (pss_cons (ps_set (i := 7) sc__law_way_right.nd rfl (Or.inl rfl) (pe_cal C__law_due_search hr (pa_cons (pv 1 (hd := nd_houses) (hcd := nc_houses)) (pa_cons (pv 2 (hd := nd_lines) (hcd := nc_lines)) (pa_cons (pe_lst (pa_cons (pv 3 (hd := nd_a) (hcd := nc_a)) (pa_cons (pv 4 (hd := nd_b) (hcd := nc_b)) pa_nil))) (pa_cons (pv 5 (hd := nd_line) (hcd := nc_line)) pa_nil)))) (hdb := nd__law_due_search)))
  (pss_cons (ps_if (pt_cmpR o_noN (pv 7 (hd := nd_due) (hcd := nc_due)) pe_non (nomark _)) (pss_one (ps_ret (pe_cal C__law_same hr (pa_cons (pv 6 (hd := nd_told) (hcd := nc_told)) (pa_cons (pe_tup (pa_cons pe_str (pa_cons (pe_ix ix_tup (pv 7 (hd := nd_due) (hcd := nc_due)) pe_int (fun _ _ => rfl)) (pa_cons (pe_ix ix_tup (pv 7 (hd := nd_due) (hcd := nc_due)) pe_int (fun _ _ => rfl)) pa_nil)))) pa_nil)) (hdb := nd__law_same)))) pss_nil)
  (pss_cons (ps_setLc (i := 8) (own := [("row", 12)]) (by rfl) sc__law_way_right.nd rfl rfl (sw_true rfl rfl rfl (by decide +kernel)) (pi_list (pv 2 (hd := nd_lines) (hcd := nc_lines))) (blkOk_by (N := N__law_way_right) (sc := defScope s__law_way_right) (by decide +kernel)) (fun _ _ _ _ _ => (pg_name (i := 12) sc__law_way_right.nd rfl (Or.inl rfl))) (fun _ _ _ _ _ => (pts_one (pt_cmpR op_ne (pe_ix (ix_tupK (K := K) rfl) (pv 12 (hd := nd_row) (hcd := nc_row)) pe_int (fun _ _ => rfl)) (pv 5 (hd := nd_line) (hcd := nc_line)) (nomark _)))) (fun _ _ _ _ _ => (pv 12 (hd := nd_row) (hcd := nc_row))))
  (pss_cons (ps_set (i := 9) sc__law_way_right.nd rfl (Or.inl rfl) (pe_cal C__law_least_way hr (pa_cons (pv 1 (hd := nd_houses) (hcd := nc_houses)) (pa_cons (pv 8 (hd := nd_less) (hcd := nc_less)) (pa_cons (pv 3 (hd := nd_a) (hcd := nc_a)) (pa_cons (pv 4 (hd := nd_b) (hcd := nc_b)) pa_nil)))) (hdb := nd__law_least_way)))
  (pss_cons (ps_if (pt_not (pt_val (pe_cal C__law_same hr (pa_cons (pv 6 (hd := nd_told) (hcd := nc_told)) (pa_cons (pe_tup (pa_cons pe_str (pa_cons (pv 9 (hd := nd_way) (hcd := nc_way)) pa_nil))) pa_nil)) (hdb := nd__law_same)))) (pss_one (ps_ret pe_bl)) pss_nil)
  (pss_cons (ps_if (pt_cmpR o_isN (pv 9 (hd := nd_way) (hcd := nc_way)) pe_non (nomark _)) (pss_one (ps_ret (pe_cal C__law_same hr (pa_cons (pe_cal C__law_asked hr (pa_cons (pv 0 (hd := nd_web) (hcd := nc_web)) (pa_cons (pv 4 (hd := nd_b) (hcd := nc_b)) (pa_cons (pv 3 (hd := nd_a) (hcd := nc_a)) (pa_cons (pv 5 (hd := nd_line) (hcd := nc_line)) (pa_cons pe_bl pa_nil))))) (hdb := nd__law_asked)) (pa_cons (pe_tup (pa_cons pe_str (pa_cons pe_non pa_nil))) pa_nil)) (hdb := nd__law_same)))) pss_nil)
  (pss_cons (ps_set (i := 10) sc__law_way_right.nd rfl (Or.inl rfl) (pe_ix ix_tup (pv 6 (hd := nd_told) (hcd := nc_told)) pe_int (fun _ _ => rfl)))
  (pss_cons (ps_expr (pe_bm PySem.F.plainAttrs_list PySem.F.slot_list_append PySem.F.type_list_append mt_append (pv 10 (hd := nd_answer) (hcd := nc_answer)) (pa_cons (pe_tup (pa_cons pe_str (pa_cons pe_str (pa_cons pe_str pa_nil)))) pa_nil)))
  (pss_cons (ps_expr (pe_bm PySem.F.plainAttrs_list PySem.F.slot_list_pop PySem.F.type_list_pop mt_popAt (pv 10 (hd := nd_answer) (hcd := nc_answer)) (pa_cons pe_int pa_nil)))
  (pss_cons (ps_set (i := 11) sc__law_way_right.nd rfl (Or.inl rfl) (pe_cal C__law_asked hr (pa_cons (pv 0 (hd := nd_web) (hcd := nc_web)) (pa_cons (pv 4 (hd := nd_b) (hcd := nc_b)) (pa_cons (pv 3 (hd := nd_a) (hcd := nc_a)) (pa_cons (pv 5 (hd := nd_line) (hcd := nc_line)) (pa_cons pe_bl pa_nil))))) (hdb := nd__law_asked)))
  (pss_cons (ps_if (PW.pt (pw_or (pt_not (pt_val (pe_cal C__law_same hr (pa_cons (pv 11 (hd := nd_back) (hcd := nc_back)) (pa_cons (pe_tup (pa_cons pe_str (pa_cons (pe_cal C__law_least_way hr (pa_cons (pv 1 (hd := nd_houses) (hcd := nc_houses)) (pa_cons (pv 8 (hd := nd_less) (hcd := nc_less)) (pa_cons (pv 4 (hd := nd_b) (hcd := nc_b)) (pa_cons (pv 3 (hd := nd_a) (hcd := nc_a)) pa_nil)))) (hdb := nd__law_least_way)) pa_nil))) pa_nil)) (hdb := nd__law_same)))) (pw_or1 (pt_cmpR op_ne (pe_callB q_len (by rfl) m_len PySem.boot_len (pa_cons (pe_ix ix_tup (pv 11 (hd := nd_back) (hcd := nc_back)) pe_int (fun _ _ => rfl)) pa_nil) (hn := nn_len) (hdb := nd_len)) (pe_callB q_len (by rfl) m_len PySem.boot_len (pa_cons (pv 9 (hd := nd_way) (hcd := nc_way)) pa_nil) (hn := nn_len) (hdb := nd_len)) (nomark _))))) (pss_one (ps_ret pe_bl)) pss_nil)
  (pss_one (ps_ret (pe_cal C__law_same hr (pa_cons (pe_cal C__law_asked hr (pa_cons (pv 0 (hd := nd_web) (hcd := nc_web)) (pa_cons (pv 3 (hd := nd_a) (hcd := nc_a)) (pa_cons (pv 4 (hd := nd_b) (hcd := nc_b)) (pa_cons (pv 5 (hd := nd_line) (hcd := nc_line)) (pa_cons pe_bl pa_nil))))) (hdb := nd__law_asked)) (pa_cons (pe_tup (pa_cons pe_str (pa_cons (pv 9 (hd := nd_way) (hcd := nc_way)) pa_nil))) pa_nil)) (hdb := nd__law_same)))))))))))))))), ?_⟩
  refine Rd.at0 (σ := [some (.ref g), some (.ref h), some (.ref l), some v1, some v2, some v3, none, none, none, none, none, none, none]) rfl ?_
  cases hD : dueA zs (ts.map (·.1)) [d1, d2] d3 with
  | some ce =>
    obtain ⟨code, e⟩ := ce
    have fe := dueA_fd hD (fd_two f1 f2) f3
    repeat' (walk_at "rd")
    refine ⟨g, zs, ts, v1, v2, v3, d1, d2, d3, true, rfl, wa, lo, lz, lt, nd, mz, a1, a2, a3, z1, z2, z3, (fun he => by rw [hD] at he; cases he), fun code' e' he t v' H1 s1 et dv' => ?_⟩
    rw [hD] at he
    cases he
    repeat' (walk_at "rd")
    rename_i l2 n2 G2 s2 e2
    have s02 := s1.trans s2
    refine ⟨h, l, l2, zs, ts, [v1, v2], [d1, d2], v3, d3, rfl, s02 _ _ eh, wl.same s02, lt, e2, (show 2 ≤ 1000 by decide), .cons (dv_same s02 a1) (.cons (dv_same s02 a2) .nil), fun d hd => ?_, dv_same s02 a3, z3, (fun he => by rw [hD] at he; cases he), fun code' e' he u H3 s3 hu => ?_⟩
    · rcases List.mem_cons.mp hd with rfl | hd
      · exact z1
      · rw [List.mem_singleton.mp hd]
        exact z2
    rw [hD] at he
    cases he
    obtain ⟨t3, uv, rfl, eu, du⟩ := hu
    repeat' (walk_at "rd")
    rename_i l4 n4 G4 s4 e4
    have s14 := (s2.trans s3).trans s4
    refine ⟨_, _, .tuple [.str "refused", .str code, e], 7, rfl, rfl, .tup (.inl (.inl (s14 _ _ et))) (.cons (.str _) (.cons (.str _) (.cons (dv_same s14 dv') .nil))), .tup (.inl (.inl e4)) (.cons (.str _) (.cons (.str _) (.cons (dv_same s4 du) .nil))), ?_, fun H5 s5 => q H5 ((s1.trans s14).trans s5)⟩
    exact .tup (show 3 ≤ 100000 by decide) (fd_three (.str _) (.str _) (fe.mono (by decide)))
  | none =>
    obtain ⟨a, b, rfl, rfl, ma, mb, hd3⟩ := dueA_two hD
    have hv3 : v3 = .non ∨ ∃ n, v3 = .str n := by
      rcases hd3 with rfl | ⟨n, rfl, _⟩
      · cases a3
        exact .inl rfl
      · cases a3
        exact .inr ⟨n, rfl⟩
    cases a1
    cases a2
    have hD2 : dueA zs (ts.map (·.1)) [.str b, .str a] d3 = none := dueA_swap hD
    repeat' (walk_at "rd")
    refine ⟨g, zs, ts, .str a, .str b, v3, .str a, .str b, d3, true, rfl, wa, lo, lz, lt, nd, mz, .str _, .str _, a3, z1, z2, z3, fun _ a' b' t v H1 e1 e2 way1 s1 et => ?_, fun code e he => by rw [hD] at he; cases he⟩
    cases e1
    cases e2
    obtain ⟨kt, _, _, pt, sk, _⟩ := id way1
    have sym := stepsOf_sym (kt := kt.filter (keepL v3))
    obtain ⟨ms, c, B, sub, wt1⟩ := way1.at pt sk
    have lms : ms.length ≤ 1000 := Nat.le_trans (nodup_leH B.nd sub) lz
    repeat' (walk_at "rd")
    rename_i l2 n2 G2 s2 e2
    have s02 := s1.trans s2
    refine ⟨h, l, l2, zs, ts, [.str a, .str b], [.str a, .str b], v3, d3, rfl, s02 _ _ eh, wl.same s02, lt, e2, (show 2 ≤ 1000 by decide), .cons (.str _) (.cons (.str _) .nil), fun d hd => ?_, dv_same s02 a3, z3, fun _ H3 s3 => ?_, fun code e he => by rw [hD] at he; cases he⟩
    · rcases List.mem_cons.mp hd with rfl | hd
      · exact z1
      · rw [List.mem_singleton.mp hd]
        exact z2
    have s03 := s02.trans s3
    obtain ⟨ls, el, hls⟩ := wl
    have el3 := s03 _ _ el
    have hls3 := hls.same s03
    have lls : ls.length = ts.length := by rw [hls.len, List.length_map]
    repeat' (walk_at "rd")
    refine lcF ls (fun i => ts[i]?.bind fun t => if keepL v3 t = true then ls[i]? else none) (.inl (.inl el3)) (by omega) (fun i v' h' hv s => ?_) fun A G4 nA s4 eA => ?_
    · intro L0 Nx yes no
      obtain ⟨kk, hkk, okk, t0, rfl, et0⟩ := hls3.at hv
      rw [List.getElem?_map] at hkk
      obtain ⟨⟨n, x, y⟩, ht, rfl⟩ := Option.map_eq_some_iff.mp hkk
      have et : h' t0 = some (.tup [.str n, .str x, .str y]) := s _ _ et0
      have ei : (ts[i]?.bind fun t => if keepL v3 t = true then ls[i]? else none) = if (!decide (V.str n = v3)) = true then some (V.ref t0) else none := by rw [ht, hv]; rfl
      have sc : scal (.str n) v3 = true := by rcases hv3 with rfl | ⟨m, rfl⟩ <;> rfl
      refine turn1 ?_
      repeat' (walk_at "rd")
      refine ⟨rfl, ?_⟩
      repeat' (walk_at "rd")
      refine Rd.ne sc ?_
      by_cases c : V.str n = v3
      · rw [decide_eq_true c] at ei ⊢
        repeat' (walk_at "rd")
        exact no _ ei (.refl _)
      · rw [decide_eq_false c] at ei ⊢
        repeat' (walk_at "rd")
        exact yes _ _ ei (.refl _)
    have s04 := s03.trans s4
    have wkH : ∀ {G : Hp}, Same H G → WVs G ((List.range ls.length).filterMap fun i => ts[i]?.bind fun t => if keepL v3 t = true then ls[i]? else none) ((ts.filter (keepL v3)).map tr) := fun {G} s => wvs_keepG (f := tr) (keepL v3) (hls.same s)
    generalize ((List.range ls.length).filterMap fun i => ts[i]?.bind fun t => if keepL v3 t = true then ls[i]? else none) = fs at *
    have lf : (ts.filter (keepL v3)).length ≤ 1000 := Nat.le_trans (List.length_filter_le _ _) lt
    have lof := lo.flt (keepL v3)
    have pf : (kt.filter (keepL v3)).Perm (ts.filter (keepL v3)) := pt.filter _
    have skf : SrtW ((kt.filter (keepL v3)).map tr) := List.Pairwise.sublist ((List.filter_sublist).map tr) sk
    have s14 := (s2.trans s3).trans s4
    have et4 := s14 _ _ et
    generalize hkf : kt.filter (keepL v3) = kf at *
    clear hls3 el3
    repeat' (walk_at "rd")
    refine ⟨h, A, a, b, zs, ts.filter (keepL v3), kf, rfl, s04 _ _ eh, ⟨fs, eA, wkH s04⟩, lz, lf, nd, mz, ma, mb, lof, pf, skf, fun ms1 c1 w1 H5 B1 sub1 s5 wt5 => ?_⟩
    have s05 := s04.trans s5
    have et5 := s5 _ _ et4
    rcases way_same sym B B1 wt1 wt5 with ⟨nm, rfl, rfl⟩ | ⟨mm, L, L', ws, rfl, rfl, nL, nL', wL1, wL5, lws, lwm, ews⟩
    · repeat' (walk_at "rd")
      rename_i l6 n6 G6 s6 e6
      refine ⟨_, _, .tuple [.str "told", .none], 7, rfl, rfl, .tup (.inl (.inl ((s5.trans s6) _ _ et4))) (.cons (.str _) (.cons .non .nil)), .tup (.inl (.inl e6)) (.cons (.str _) (.cons .non .nil)), .tup (show 2 ≤ 100000 by decide) (fd_two (.str _) .non), fun H7 s7 => ?_⟩
      repeat' (walk_at "rd")
      have s07 := (s05.trans s6).trans s7
      refine ⟨g, zs, ts, .str b, .str a, v3, .str b, .str a, d3, true, rfl, wa.same s07, lo, lz, lt, nd, mz, .str _, .str _, dv_same s07 a3, z2, z1, z3, fun _ b' a' t2 w H8 e1 e2 way2 s8 et8 => ?_, fun code e he => by rw [hD2] at he; cases he⟩
      cases e1
      cases e2
      obtain ⟨ms2, c2, B2, sub2, wt2⟩ := way2.at pt sk
      rw [hkf] at B2 wt2
      rcases wt2 with ⟨nm2, rfl⟩ | ⟨mm2, _⟩
      · repeat' (walk_at "rd")
        rename_i l9 n9 G9 s9 e9
        exact ⟨_, _, .tuple [.str "told", .none], 7, rfl, rfl, .tup (.inl (.inl (s9 _ _ et8))) (.cons (.str _) (.cons .non .nil)), .tup (.inl (.inl e9)) (.cons (.str _) (.cons .non .nil)), .tup (show 2 ≤ 100000 by decide) (fd_two (.str _) .non), fun H10 s10 => q H10 (((s07.trans s8).trans s9).trans s10)⟩
      · exact absurd (reach_back sym B B2 mm2).1 nm
    · have fw : Fd 7 (.tuple [.str "told", .list ((ws.map tr).map wdat)]) := (fd_way (by omega)).mono (by decide)
      repeat' (walk_at "rd")
      rename_i l6 n6 G6 s6 e6
      have s16 := (s14.trans s5).trans s6
      refine ⟨_, _, .tuple [.str "told", .list ((ws.map tr).map wdat)], 7, rfl, rfl, .tup (.inl (.inl ((s5.trans s6) _ _ et4))) (.cons (.str _) (.cons (wl_dv (wL1.same s16)) .nil)), .tup (.inl (.inl e6)) (.cons (.str _) (.cons (wl_dv (wL5.same s6)) .nil)), fw, fun H7 s7 => ?_⟩
      have s17 := s16.trans s7
      have s07 := s1.trans s17
      have et7 := s17 _ _ et
      obtain ⟨lv, eL, hlv⟩ := wL1.same s17
      have llv : lv.length = ws.length := by rw [hlv.len, List.length_map]
      have wL7 := wL5.same (s6.trans s7)
      have eA7 := (s5.trans (s6.trans s7)) _ _ eA
      clear et4 et5
      obtain ⟨lx, ex, _⟩ := id wL1
      have nA1 : A ≠ L := fun k => by
        have ey := (s2.trans s3) _ _ ex
        rw [← k, nA] at ey
        cases ey
      have nL1 : L' ≠ L := fun k => by
        have ey := s14 _ _ ex
        rw [← k, nL'] at ey
        cases ey
      clear ex
      repeat' (walk_at "rd")
      rename_i l8 n8 G8 s8 e8
      have eL8 := s8 _ _ eL
      have eA8 := s8 _ _ eA7
      have wL8 := wL7.same s8
      refine append eL8 (sz5' (by omega)) ?_
      repeat' (walk_at "rd")
      obtain ⟨y, hy⟩ : ∃ y, (lv ++ [V.ref l8])[0]? = some y := ⟨_, List.getElem?_eq_getElem (by rw [List.length_append]; exact Nat.succ_pos _)⟩
      refine ⟨L, _, 0, 0, y, rfl, rfl, upd_same, by decide, by decide, seqIx0 (by rw [List.length_append]; exact Nat.succ_pos _), hy, ?_⟩
      have s09 : Same H (upd (upd G8 L (.lst (lv ++ [V.ref l8]))) L (.lst ((lv ++ [V.ref l8]).eraseIdx 0))) := two_upd (s07.trans s8) nL
      have wL9 := wl_two (as := lv ++ [V.ref l8]) (bs := (lv ++ [V.ref l8]).eraseIdx 0) wL8 eL8 nL1
      have eA9 : upd (upd G8 L (.lst (lv ++ [V.ref l8]))) L (.lst ((lv ++ [V.ref l8]).eraseIdx 0)) A = some (.lst fs) := (upd_ne nA1).trans ((upd_ne nA1).trans eA8)
      generalize upd (upd G8 L (.lst (lv ++ [V.ref l8]))) L (.lst ((lv ++ [V.ref l8]).eraseIdx 0)) = G9 at *
      clear eL8 eA8 wL8 eL hlv
      repeat' (walk_at "rd")
      refine ⟨g, zs, ts, .str b, .str a, v3, .str b, .str a, d3, false, rfl, wa.same s09, lo, lz, lt, nd, mz, .str _, .str _, dv_same s09 a3, z2, z1, z3, fun _ b' a' t2 w H10 e1 e2 way2 s10 et10 => ?_, fun code e he => by rw [hD2] at he; cases he⟩
      cases e1
      cases e2
      obtain ⟨ms2, c2, B2, sub2, wt2⟩ := way2.at pt sk
      rw [hkf] at B2 wt2
      obtain ⟨mb2, le2⟩ := reach_back sym B2 B mm
      have le1 := (reach_back sym B B2 mb2).2
      have s010 := s09.trans s10
      repeat' (walk_at "rd")
      refine ⟨h, A, b, a, zs, ts.filter (keepL v3), kf, rfl, s010 _ _ eh, ⟨fs, s10 _ _ eA9, wkH s010⟩, lz, lf, nd, mz, mb, ma, lof, pf, skf, fun ms3 c3 w3 H11 B3 sub3 s11 wt3 => ?_⟩
      rcases way_same sym B2 B3 wt2 wt3 with ⟨nm, _⟩ | ⟨_, L2, L3, ws2, rfl, rfl, _, _, wL2, wL3, lws2, lwm2, _⟩
      · exact absurd mb2 nm
      have fw2 : Fd 7 (.tuple [.str "told", .list ((ws2.map tr).map wdat)]) := (fd_way (by omega)).mono (by decide)
      repeat' (walk_at "rd")
      rename_i l12 n12 G12 s12 e12
      have s1012 := s11.trans s12
      refine ⟨_, _, .tuple [.str "told", .list ((ws2.map tr).map wdat)], 7, rfl, rfl, .tup (.inl (.inl (s1012 _ _ et10))) (.cons (.str _) (.cons (wl_dv (wL2.same s1012)) .nil)), .tup (.inl (.inl e12)) (.cons (.str _) (.cons (wl_dv (wL3.same s12)) .nil)), fw2, fun H13 s13 => ?_⟩
      have s1013 := s1012.trans s13
      have et13 := s1013 _ _ et10
      obtain ⟨lv2, eL2, hlv2⟩ := wL2.same s1013
      obtain ⟨lv3, eL3, hlv3⟩ := wL9.same (s10.trans s1013)
      have llv2 : lv2.length = ws2.length := by rw [hlv2.len, List.length_map]
      have llv3 : lv3.length = ws.length := by rw [hlv3.len, List.length_map]
      have s013 := s010.trans s1013
      have wL13 := wL9.same (s10.trans s1013)
      have e23 : lv2.length = lv3.length := by omega
      clear hlv3 wL9
      repeat' (walk_at "rd")
      · rename_i k
        exact absurd (congrArg Int.ofNat e23) k
      refine ⟨g, zs, ts, .str a, .str b, v3, .str a, .str b, d3, false, rfl, wa.same s013, lo, lz, lt, nd, mz, .str _, .str _, dv_same s013 a3, z1, z2, z3, fun _ a' b' t4 w H14 e1 e2 way4 s14' et14 => ?_, fun code e he => by rw [hD] at he; cases he⟩
      cases e1
      cases e2
      obtain ⟨ms4, c4, B4, sub4, wt4⟩ := way4.at pt sk
      rw [hkf] at B4 wt4
      rcases wt4 with ⟨nm, _⟩ | ⟨_, L4, rfl, _, wL4⟩
      · exact absurd (((B.one B4).1 a).mp mm) nm
      rw [way_one B B4 mm, ← ews] at wL4
      repeat' (walk_at "rd")
      rename_i l15 n15 G15 s15 e15
      exact ⟨_, _, .tuple [.str "told", .list ((ws.map tr).map wdat)], 7, rfl, rfl, .tup (.inl (.inl (s15 _ _ et14))) (.cons (.str _) (.cons (wl_dv (wL4.same s15)) .nil)), .tup (.inl (.inl e15)) (.cons (.str _) (.cons (wl_dv (wL13.same (s14'.trans s15))) .nil)), fw, fun H16 s16' => q H16 (((s013.trans s14').trans s15).trans s16')⟩
end
end Kj
namespace Kj
open PySem PySem.Spec PyProof.Rows L2 Rd
local macro_rules | `(tactic| walk_at "hp") => `(tactic| first
  | assumption
  | exact upd_same
  | (refine Eq.trans (upd_ne (by first | assumption | (apply Ne.symm; assumption))) ?_; walk_at "hp"))
local macro_rules | `(tactic| walk_at "sq") => `(tactic| first
  | assumption
  | (refine Or.inl (Or.inl ?_); walk_at "hp"))
local macro_rules | `(tactic| walk_at "st") => `(tactic| first
  | assumption
  | (refine Or.inl (Or.inl ?_); walk_at "hp"))
local macro_rules | `(tactic| walk_at "ar") => `(tactic| first
  | assumption
  | omega
  | decide)
local macro_rules | `(tactic| walk_at "ci") => `(tactic| first
  | (refine (show CMul _ _ from Or.inr ⟨?_, ?_⟩) <;> omega)
  | (refine (show CMul _ _ from Or.inl ⟨?_, ?_⟩) <;> omega)
  | (show CPow _ _; exact ⟨by decide, by decide, by decide⟩)
  | (refine wide_div (b := 63) ?_ ?_ (by decide) (by decide) <;> omega)
  | (show (0 : Int) < _; omega))
local macro_rules | `(tactic| walk_at "ty") => `(tactic| first
  | exact dp_ty (by assumption)
  | exact TyX.base (TyOf.int _)
  | exact TyX.base (TyOf.str _)
  | exact TyX.base (TyOf.bl _)
  | exact TyX.base TyOf.non
  | exact tyL' (by walk_at "sq")
  | exact tyT' (by walk_at "st"))
local macro_rules | `(tactic| walk_at "isi") => `(tactic| first
  | ((with_reducible apply Rd.isiF); (walk_at "ty"); (decide))
  | ((with_reducible apply Rd.isiT); (walk_at "ty"); (decide)))
local macro_rules | `(tactic| walk_at "rd") => `(tactic| first
  | with_reducible apply Rd.seq
  | ((with_reducible apply Rd.var); rfl)
  | with_reducible apply Rd.con
  | with_reducible apply Rd.op
  | with_reducible apply Rd.asg
  | ((with_reducible apply Rd.gname); ((dsimp only [List.set, L2.wipe, Int.reduceToNat]) <;> rfl))
  | with_reducible apply Rd.nxt
  | with_reducible apply Rd.ifs
  | with_reducible apply Rd.test
  | with_reducible apply Rd.testB
  | with_reducible apply Rd.exbl
  | with_reducible apply Rd.ret
  | with_reducible apply Rd.drop
  | with_reducible apply Rd.retN
  | with_reducible apply Rd.nil
  | with_reducible apply Rd.cons
  | with_reducible apply Rd.call
  | with_reducible apply Rd.cb
  | with_reducible apply Rd.and
  | with_reducible apply Rd.or
  | with_reducible apply Rd.not
  | with_reducible apply Rd.andV
  | with_reducible apply Rd.orV
  | with_reducible apply Rd.notV
  | with_reducible apply Rd.ife
  | with_reducible apply Rd.tup
  | with_reducible apply Rd.lst
  | with_reducible apply Rd.un
  | with_reducible apply Rd.chain
  | with_reducible apply Rd.brk
  | with_reducible apply Rd.cnt
  | with_reducible apply Rd.I0
  | with_reducible apply Rd.U1
  | ((with_reducible apply Rd.eq); rfl)
  | ((with_reducible apply Rd.ne); rfl)
  | ((with_reducible apply Rd.I1); (walk_at "ci"))
  | with_reducible apply Rd.lc0
  | with_reducible apply Rd.ln0
  | with_reducible apply Rd.exN
  | ((with_reducible apply Rd.iteSf); (decide +kernel))
  | ((with_reducible apply Rd.iteSt); (decide +kernel))
  | ((with_reducible apply Rd.niQ); (exact Or.inl (by walk_at "sq")); (exact ⟨rfl, rfl⟩); (rfl))
  | ((with_reducible apply Rd.inQ); (exact Or.inl (by walk_at "sq")); (exact ⟨rfl, rfl⟩); (rfl))
  | with_reducible apply Rd.rn1
  | with_reducible apply Rd.in1
  | with_reducible apply Rd.sn1
  | with_reducible apply Rd.bn1
  | with_reducible apply Rd.nn1
  | with_reducible apply Rd.rn2
  | with_reducible apply Rd.in2
  | with_reducible apply Rd.sn2
  | with_reducible apply Rd.bn2
  | with_reducible apply Rd.nn2
  | with_reducible apply Rd.nt1
  | with_reducible apply Rd.nf1
  | (with_reducible refine Rd.iteI (fun _ => ?_) (fun _ => ?_))
  | (with_reducible refine Rd.iteNI (fun _ => ?_) (fun _ => ?_))
  | (with_reducible refine iteT ?_)
  | (with_reducible refine iteF ?_)
  | (with_reducible refine Rd.iteD (fun _ => ?_) (fun _ => ?_))
  | (with_reducible refine Rd.iteN (fun _ => ?_) (fun _ => ?_))
  | with_reducible apply Rd.intI
  | with_reducible apply Rd.intB
  | with_reducible apply Rd.maxQ
  | with_reducible apply Rd.minQ
  | with_reducible apply Rd.absQ
  | with_reducible apply Rd.isN
  | with_reducible apply Rd.noN
  | with_reducible apply Rd.ltZ
  | with_reducible apply Rd.bm
  | with_reducible apply Rd.bm0
  | with_reducible apply Rd.par
  | with_reducible apply Rd.expar
  | with_reducible apply Rd.exint
  | with_reducible apply Rd.ipi
  | with_reducible apply Rd.slice
  | with_reducible apply Rd.noPart
  | with_reducible apply Rd.part
  | with_reducible apply Rd.gcons
  | with_reducible apply Rd.gnil
  | with_reducible apply Rd.iseq
  | with_reducible apply Rd.irng1
  | walk_at "isi"
  | with_reducible apply Rd.forX
  | with_reducible apply Rd.lstRev
  | with_reducible apply Rd.lstRg
  | with_reducible apply Rd.rg1
  | with_reducible apply Rd.rg2
  | with_reducible apply Rd.exint2
  | ((with_reducible apply Rd.exrev); (walk_at "sq"))
  | with_reducible apply Rd.lcX
  | with_reducible apply Rd.yes
  | ((with_reducible apply Rd.exrng1); (constructor <;> omega))
  | ((with_reducible apply Rd.exrng2); (refine ⟨?_, ?_, ?_, ?_⟩ <;> omega))
  | with_reducible apply Rd.irng2
  | ((with_reducible apply Rd.aug); rfl)
  | ((with_reducible apply Rd.exlst); (walk_at "sq"))
  | ((with_reducible apply Rd.gtup); (walk_at "st"); (rfl))
  | ((with_reducible apply Rd.tyL); (walk_at "hp"))
  | ((with_reducible apply Rd.ixL); (walk_at "sq"); (rfl))
  | ((with_reducible apply Rd.ixI); (walk_at "sq"); (omega); (first | assumption | (simp only [List.length_map]; omega)); (intro _ _))
  | (with_reducible refine Rd.gsub ?_)
  | ((with_reducible apply Rd.setL); (walk_at "hp"); (rfl); ((dsimp only [List.set, L2.wipe, Int.reduceToNat]) <;> rfl))
  | ((with_reducible apply Rd.lenQ); (first | exact Or.inl (by walk_at "sq") | exact Or.inr (by walk_at "st")))
  | ((with_reducible apply Rd.listQ); (first | exact Or.inl (by walk_at "sq") | exact Or.inr (by walk_at "st")))
  | ((with_reducible apply Rd.tupQ); (walk_at "sq"))
  | ((with_reducible apply Rd.slL); (walk_at "sq"))
  | ((with_reducible apply Rd.ixT); (walk_at "st"); (rfl))
  | (with_reducible refine Rd.iteB (fun _ => ?_) (fun _ => ?_))
  | (with_reducible refine Rd.iteNB (fun _ => ?_) (fun _ => ?_))
  | (refine Rd.andI (Nat.le_of_ble_eq_true rfl) ?_)
  | dsimp only [List.set])
local macro_rules | `(tactic| walk_at "hp") => `(tactic| first
  | assumption
  | exact upd_same
  | (refine Eq.trans (upd_ne (by first | assumption | (apply Ne.symm; assumption))) ?_; walk_at "hp")
  | (refine hpS (by assumption) ?_; walk_at "hp"))
local macro_rules | `(tactic| walk_at "al") => `(tactic| (with_reducible intro l hl; generalize hG : upd _ l _ = G; have hs := newOne hl hG; clear hG; obtain ⟨hs, he⟩ := hs))
local macro_rules | `(tactic| walk_at "rd") => `(tactic| first
  | walk_at "al"
  | ((with_reducible apply Rd.cat); (walk_at "hp"); (walk_at "hp"); (exact Nat.le_of_ble_eq_true rfl)))
local macro_rules | `(tactic| walk_at "sm") => `(tactic| first
  | assumption
  | exact Same.refl _
  | (refine Same.trans ?_ (by assumption); walk_at "sm"))
local macro_rules | `(tactic| walk_at "fr") => `(tactic| first
  | assumption
  | (refine Same.free (by assumption) ?_; walk_at "fr"))
local macro_rules | `(tactic| walk_at "ty") => `(tactic| first
  | exact dv_ty (by assumption)
  | exact tyD' (by walk_at "hp"))
local macro_rules | `(tactic| walk_at "sz") => `(tactic| first
  | exact sz5 (by omega)
  | (simp only [add_len, one_len]; exact sz5 (by omega)))
local macro_rules | `(tactic| walk_at "rd") => `(tactic| first
  | with_reducible apply Rd.istr
  | with_reducible apply Rd.exstr
  | with_reducible apply Rd.leA
  | with_reducible apply Rd.leZz
  | with_reducible apply Rd.le0
  | with_reducible apply Rd.le9
  | with_reducible apply Rd.niZ
  | ((with_reducible apply Rd.lenZ); (walk_at "sz"))
  | ((with_reducible apply Rd.slZ); (walk_at "sz"))
  | ((with_reducible apply Rd.addZ); (walk_at "sz"))
  | with_reducible apply Rd.raiseX
  | with_reducible apply Rd.exone
  | with_reducible apply Rd.callS
  | with_reducible apply Rd.callP
  | with_reducible apply Rd.xsX
  | with_reducible apply Rd.dnewX
  | with_reducible apply Rd.tyZ)
local macro_rules | `(tactic| walk_at "rd") => `(tactic| first
  | with_reducible apply Rd.seq
  | ((with_reducible apply Rd.var); rfl)
  | with_reducible apply Rd.con
  | with_reducible apply Rd.op
  | with_reducible apply Rd.cons
  | with_reducible apply Rd.nil
  | with_reducible apply Rd.asg
  | ((with_reducible apply Rd.gname); ((dsimp only [List.set, L2.wipe, Int.reduceToNat]) <;> rfl))
  | with_reducible apply Rd.nxt
  | with_reducible apply Rd.ifs
  | with_reducible apply Rd.test
  | with_reducible apply Rd.ret
  | with_reducible apply Rd.call
  | with_reducible apply Rd.cb)
open Ty Ln
section
variable {P : Program} {w : World} {K : PySem.W.Frag} {mg : Str → Option Value} {base : Heap} {D : Str → Addr}
/-- _law_two(store, houses) of some houses -/
def spTwo : Sp := fun vs H Q _ => ∃ (st c h : Addr) (zs : List Str), vs = [.ref st, .ref h] ∧ StoreAt H st c ∧ h ≠ st ∧ H h = some (.lst (zs.map V.str)) ∧ 1 ≤ zs.length ∧ zs.length ≤ 1000 ∧ ∀ (p : Addr) (x y : Str) (H' : Hp), x ∈ zs → y ∈ zs → H p = none → H' p = some (.lst [.str x, .str y]) → Go st c H H' → Q (.ref p) H'
theorem ok__law_two (F : Def K mg "_law_two" s__law_two P__law_two) (m_len : mg "len" = none) (m_int : mg "int" = none) (C__law_take : Cal P w K mg base 1 "_law_take" P__law_take spTake) : Cal P w K mg base 2 "_law_two" P__law_two spTwo := by
  refine F.ok sc__law_two (fun vs H Q E h => ?_) (fun f cdv A outer s H vs Q E hr h => ?_)
  · obtain ⟨st, c, h, zs, rfl, _⟩ := h
    rfl
  obtain ⟨st, c, h, zs, rfl, hs, hst, eh, l1, lz, q⟩ := h
  refine ⟨_, (pss_cons (ps_if (pt_cmpR op_eq (pe_callB q_len (by rfl) m_len PySem.boot_len (pa_cons (pv 1 (hd := nd_houses) (hcd := nc_houses)) pa_nil) (hn := nn_len) (hdb := nd_len)) pe_int (nomark _)) (pss_one (ps_ret pe_non)) pss_nil)
  (pss_cons (ps_set (i := 2) sc__law_two.nd rfl (Or.inl rfl) (pe_cal C__law_take hr (pa_cons (pv 0 (hd := nd_store) (hcd := nc_store)) (pa_cons (pe_callB q_len (by rfl) m_len PySem.boot_len (pa_cons (pv 1 (hd := nd_houses) (hcd := nc_houses)) pa_nil) (hn := nn_len) (hdb := nd_len)) pa_nil)) (hdb := nd__law_take)))
  (pss_cons (ps_set (i := 3) sc__law_two.nd rfl (Or.inl rfl) (pe_op op_mod (pe_callTy q_intI (by rfl) m_int bb_int (pa_cons (pe_op op_add (pe_op op_add (pv 2 (hd := nd_one) (hcd := nc_one)) pe_int) (pe_cal C__law_take hr (pa_cons (pv 0 (hd := nd_store) (hcd := nc_store)) (pa_cons (pe_op op_sub (pe_callB q_len (by rfl) m_len PySem.boot_len (pa_cons (pv 1 (hd := nd_houses) (hcd := nc_houses)) pa_nil) (hn := nn_len) (hdb := nd_len)) pe_int) pa_nil)) (hdb := nd__law_take))) pa_nil) (hn := nn_int) (hdb := nd_int)) (pe_callB q_len (by rfl) m_len PySem.boot_len (pa_cons (pv 1 (hd := nd_houses) (hcd := nc_houses)) pa_nil) (hn := nn_len) (hdb := nd_len))))
  (pss_cons (ps_if (pt_cmpR op_eq (pe_cal C__law_take hr (pa_cons (pv 0 (hd := nd_store) (hcd := nc_store)) (pa_cons pe_int pa_nil)) (hdb := nd__law_take)) pe_int (nomark _)) (pss_one (ps_set (i := 3) sc__law_two.nd rfl (Or.inl rfl) (pv 2 (hd := nd_one) (hcd := nc_one)))) pss_nil)
  (pss_one (ps_ret (pe_lst (pa_cons (pe_ix ix_list (pv 1 (hd := nd_houses) (hcd := nc_houses)) (pv 2 (hd := nd_one) (hcd := nc_one)) (fun _ _ => rfl)) (pa_cons (pe_ix ix_list (pv 1 (hd := nd_houses) (hcd := nc_houses)) (pv 3 (hd := nd_two) (hcd := nc_two)) (fun _ _ => rfl)) pa_nil))))))))), ?_⟩
  refine Rd.at0 (σ := [some (.ref st), some (.ref h), none, none]) rfl ?_
  have lm : (zs.map V.str).length = zs.length := List.length_map ..
  repeat' (walk_at "rd")
  · exfalso
    omega
  generalize em : ((zs.map V.str).length : Int) = m at *
  have A2 : ∀ z : Int, 0 ≤ z % m ∧ z % m < m := fun z => mod_in (by omega)
  refine ⟨st, c, _, rfl, hs, by omega, fun a H1 a0 a1 g1 => ?_⟩
  have eh1 := g1.keep _ _ hst eh
  repeat' (walk_at "rd")
  rw [em]
  refine ⟨st, c, _, rfl, g1.ok, by omega, fun r H2 r0 r1 g2 => ?_⟩
  have eh2 := g2.keep _ _ hst eh1
  repeat' (walk_at "rd")
  rw [em]
  refine ⟨st, c, _, rfl, g2.ok, by decide, fun r3 H3 r30 r31 g3 => ?_⟩
  have eh3 := g3.keep _ _ hst eh2
  have g13 := (g1.trans g2).trans g3
  obtain ⟨t0, t1⟩ := A2 (a + 1 + r)
  generalize (a + 1 + r) % m = t at *
  repeat' (walk_at "rd")
  · have t0 := a0
    obtain ⟨x, ex⟩ : ∃ x, zs[a.toNat]? = some x := ⟨_, List.getElem?_eq_getElem (by omega)⟩
    obtain ⟨z, ez⟩ : ∃ z, zs[Int.toNat a]? = some z := ⟨_, List.getElem?_eq_getElem (by omega)⟩
    have ex' : (zs.map V.str)[a.toNat]? = some (.str x) := by rw [List.getElem?_map, ex]; rfl
    have ez' : (zs.map V.str)[Int.toNat a]? = some (.str z) := by rw [List.getElem?_map, ez]; rfl
    refine ixN' (.inl (.inl eh3)) a0 ex' ?_
    repeat' (walk_at "rd")
    refine ixN' (.inl (.inl eh3)) t0 ez' ?_
    repeat' (walk_at "rd")
    rename_i l n G4 s4 e4
    exact q l x z G4 (List.mem_of_getElem? ex) (List.mem_of_getElem? ez) (g13.free n) e4 (g13.same s4)
  · have e13 := em
    obtain ⟨x, ex⟩ : ∃ x, zs[a.toNat]? = some x := ⟨_, List.getElem?_eq_getElem (by omega)⟩
    obtain ⟨z, ez⟩ : ∃ z, zs[Int.toNat t]? = some z := ⟨_, List.getElem?_eq_getElem (by omega)⟩
    have ex' : (zs.map V.str)[a.toNat]? = some (.str x) := by rw [List.getElem?_map, ex]; rfl
    have ez' : (zs.map V.str)[Int.toNat t]? = some (.str z) := by rw [List.getElem?_map, ez]; rfl
    refine ixN' (.inl (.inl eh3)) a0 ex' ?_
    repeat' (walk_at "rd")
    refine ixN' (.inl (.inl eh3)) t0 ez' ?_
    repeat' (walk_at "rd")
    rename_i l n G4 s4 e4
    exact q l x z G4 (List.mem_of_getElem? ex) (List.mem_of_getElem? ez) (g13.free n) e4 (g13.same s4)
end
end Kj
namespace Kj
open PySem PySem.Spec PyProof.Rows L2 Rd
local macro_rules | `(tactic| walk_at "hp") => `(tactic| first
  | assumption
  | exact upd_same
  | (refine Eq.trans (upd_ne (by first | assumption | (apply Ne.symm; assumption))) ?_; walk_at "hp"))
local macro_rules | `(tactic| walk_at "sq") => `(tactic| first
  | assumption
  | (refine Or.inl (Or.inl ?_); walk_at "hp"))
local macro_rules | `(tactic| walk_at "st") => `(tactic| first
  | assumption
  | (refine Or.inl (Or.inl ?_); walk_at "hp"))
local macro_rules | `(tactic| walk_at "ar") => `(tactic| first
  | assumption
  | omega
  | decide)
local macro_rules | `(tactic| walk_at "ci") => `(tactic| first
  | (refine (show CMul _ _ from Or.inr ⟨?_, ?_⟩) <;> omega)
  | (refine (show CMul _ _ from Or.inl ⟨?_, ?_⟩) <;> omega)
  | (show CPow _ _; exact ⟨by decide, by decide, by decide⟩)
  | (refine wide_div (b := 63) ?_ ?_ (by decide) (by decide) <;> omega)
  | (show (0 : Int) < _; omega))
local macro_rules | `(tactic| walk_at "ty") => `(tactic| first
  | exact dp_ty (by assumption)
  | exact TyX.base (TyOf.int _)
  | exact TyX.base (TyOf.str _)
  | exact TyX.base (TyOf.bl _)
  | exact TyX.base TyOf.non
  | exact tyL' (by walk_at "sq")
  | exact tyT' (by walk_at "st"))
local macro_rules | `(tactic| walk_at "isi") => `(tactic| first
  | ((with_reducible apply Rd.isiF); (walk_at "ty"); (decide))
  | ((with_reducible apply Rd.isiT); (walk_at "ty"); (decide)))
local macro_rules | `(tactic| walk_at "rd") => `(tactic| first
  | with_reducible apply Rd.seq
  | ((with_reducible apply Rd.var); rfl)
  | with_reducible apply Rd.con
  | with_reducible apply Rd.op
  | with_reducible apply Rd.asg
  | ((with_reducible apply Rd.gname); ((dsimp only [List.set, L2.wipe, Int.reduceToNat]) <;> rfl))
  | with_reducible apply Rd.nxt
  | with_reducible apply Rd.ifs
  | with_reducible apply Rd.test
  | with_reducible apply Rd.testB
  | with_reducible apply Rd.exbl
  | with_reducible apply Rd.ret
  | with_reducible apply Rd.drop
  | with_reducible apply Rd.retN
  | with_reducible apply Rd.nil
  | with_reducible apply Rd.cons
  | with_reducible apply Rd.call
  | with_reducible apply Rd.cb
  | with_reducible apply Rd.and
  | with_reducible apply Rd.or
  | with_reducible apply Rd.not
  | with_reducible apply Rd.andV
  | with_reducible apply Rd.orV
  | with_reducible apply Rd.notV
  | with_reducible apply Rd.ife
  | with_reducible apply Rd.tup
  | with_reducible apply Rd.lst
  | with_reducible apply Rd.un
  | with_reducible apply Rd.chain
  | with_reducible apply Rd.brk
  | with_reducible apply Rd.cnt
  | with_reducible apply Rd.I0
  | with_reducible apply Rd.U1
  | ((with_reducible apply Rd.eq); rfl)
  | ((with_reducible apply Rd.ne); rfl)
  | ((with_reducible apply Rd.I1); (walk_at "ci"))
  | with_reducible apply Rd.lc0
  | with_reducible apply Rd.ln0
  | with_reducible apply Rd.exN
  | ((with_reducible apply Rd.iteSf); (decide +kernel))
  | ((with_reducible apply Rd.iteSt); (decide +kernel))
  | ((with_reducible apply Rd.niQ); (exact Or.inl (by walk_at "sq")); (exact ⟨rfl, rfl⟩); (rfl))
  | ((with_reducible apply Rd.inQ); (exact Or.inl (by walk_at "sq")); (exact ⟨rfl, rfl⟩); (rfl))
  | with_reducible apply Rd.rn1
  | with_reducible apply Rd.in1
  | with_reducible apply Rd.sn1
  | with_reducible apply Rd.bn1
  | with_reducible apply Rd.nn1
  | with_reducible apply Rd.rn2
  | with_reducible apply Rd.in2
  | with_reducible apply Rd.sn2
  | with_reducible apply Rd.bn2
  | with_reducible apply Rd.nn2
  | with_reducible apply Rd.nt1
  | with_reducible apply Rd.nf1
  | (with_reducible refine Rd.iteI (fun _ => ?_) (fun _ => ?_))
  | (with_reducible refine Rd.iteNI (fun _ => ?_) (fun _ => ?_))
  | (with_reducible refine iteT ?_)
  | (with_reducible refine iteF ?_)
  | (with_reducible refine Rd.iteD (fun _ => ?_) (fun _ => ?_))
  | (with_reducible refine Rd.iteN (fun _ => ?_) (fun _ => ?_))
  | with_reducible apply Rd.intI
  | with_reducible apply Rd.intB
  | with_reducible apply Rd.maxQ
  | with_reducible apply Rd.minQ
  | with_reducible apply Rd.absQ
  | with_reducible apply Rd.isN
  | with_reducible apply Rd.noN
  | with_reducible apply Rd.ltZ
  | with_reducible apply Rd.bm
  | with_reducible apply Rd.bm0
  | with_reducible apply Rd.par
  | with_reducible apply Rd.expar
  | with_reducible apply Rd.exint
  | with_reducible apply Rd.ipi
  | with_reducible apply Rd.slice
  | with_reducible apply Rd.noPart
  | with_reducible apply Rd.part
  | with_reducible apply Rd.gcons
  | with_reducible apply Rd.gnil
  | with_reducible apply Rd.iseq
  | with_reducible apply Rd.irng1
  | walk_at "isi"
  | with_reducible apply Rd.forX
  | with_reducible apply Rd.lstRev
  | with_reducible apply Rd.lstRg
  | with_reducible apply Rd.rg1
  | with_reducible apply Rd.rg2
  | with_reducible apply Rd.exint2
  | ((with_reducible apply Rd.exrev); (walk_at "sq"))
  | with_reducible apply Rd.lcX
  | with_reducible apply Rd.yes
  | ((with_reducible apply Rd.exrng1); (constructor <;> omega))
  | ((with_reducible apply Rd.exrng2); (refine ⟨?_, ?_, ?_, ?_⟩ <;> omega))
  | with_reducible apply Rd.irng2
  | ((with_reducible apply Rd.aug); rfl)
  | ((with_reducible apply Rd.exlst); (walk_at "sq"))
  | ((with_reducible apply Rd.gtup); (walk_at "st"); (rfl))
  | ((with_reducible apply Rd.tyL); (walk_at "hp"))
  | ((with_reducible apply Rd.ixL); (walk_at "sq"); (rfl))
  | ((with_reducible apply Rd.ixI); (walk_at "sq"); (omega); (first | assumption | (simp only [List.length_map]; omega)); (intro _ _))
  | (with_reducible refine Rd.gsub ?_)
  | ((with_reducible apply Rd.setL); (walk_at "hp"); (rfl); ((dsimp only [List.set, L2.wipe, Int.reduceToNat]) <;> rfl))
  | ((with_reducible apply Rd.lenQ); (first | exact Or.inl (by walk_at "sq") | exact Or.inr (by walk_at "st")))
  | ((with_reducible apply Rd.listQ); (first | exact Or.inl (by walk_at "sq") | exact Or.inr (by walk_at "st")))
  | ((with_reducible apply Rd.tupQ); (walk_at "sq"))
  | ((with_reducible apply Rd.slL); (walk_at "sq"))
  | ((with_reducible apply Rd.ixT); (walk_at "st"); (rfl))
  | (with_reducible refine Rd.iteB (fun _ => ?_) (fun _ => ?_))
  | (with_reducible refine Rd.iteNB (fun _ => ?_) (fun _ => ?_))
  | (refine Rd.andI (Nat.le_of_ble_eq_true rfl) ?_)
  | dsimp only [List.set])
local macro_rules | `(tactic| walk_at "hp") => `(tactic| first
  | assumption
  | exact upd_same
  | (refine Eq.trans (upd_ne (by first | assumption | (apply Ne.symm; assumption))) ?_; walk_at "hp")
  | (refine hpS (by assumption) ?_; walk_at "hp"))
local macro_rules | `(tactic| walk_at "al") => `(tactic| (with_reducible intro l hl; generalize hG : upd _ l _ = G; have hs := newOne hl hG; clear hG; obtain ⟨hs, he⟩ := hs))
local macro_rules | `(tactic| walk_at "rd") => `(tactic| first
  | walk_at "al"
  | ((with_reducible apply Rd.cat); (walk_at "hp"); (walk_at "hp"); (exact Nat.le_of_ble_eq_true rfl)))
local macro_rules | `(tactic| walk_at "sm") => `(tactic| first
  | assumption
  | exact Same.refl _
  | (refine Same.trans ?_ (by assumption); walk_at "sm"))
local macro_rules | `(tactic| walk_at "fr") => `(tactic| first
  | assumption
  | (refine Same.free (by assumption) ?_; walk_at "fr"))
local macro_rules | `(tactic| walk_at "ty") => `(tactic| first
  | exact dv_ty (by assumption)
  | exact tyD' (by walk_at "hp"))
local macro_rules | `(tactic| walk_at "sz") => `(tactic| first
  | exact sz5 (by omega)
  | (simp only [add_len, one_len]; exact sz5 (by omega)))
local macro_rules | `(tactic| walk_at "rd") => `(tactic| first
  | with_reducible apply Rd.istr
  | with_reducible apply Rd.exstr
  | with_reducible apply Rd.leA
  | with_reducible apply Rd.leZz
  | with_reducible apply Rd.le0
  | with_reducible apply Rd.le9
  | with_reducible apply Rd.niZ
  | ((with_reducible apply Rd.lenZ); (walk_at "sz"))
  | ((with_reducible apply Rd.slZ); (walk_at "sz"))
  | ((with_reducible apply Rd.addZ); (walk_at "sz"))
  | with_reducible apply Rd.raiseX
  | with_reducible apply Rd.exone
  | with_reducible apply Rd.callS
  | with_reducible apply Rd.callP
  | with_reducible apply Rd.xsX
  | with_reducible apply Rd.dnewX
  | with_reducible apply Rd.tyZ)
local macro_rules | `(tactic| walk_at "rd") => `(tactic| first
  | with_reducible apply Rd.seq
  | ((with_reducible apply Rd.var); rfl)
  | with_reducible apply Rd.con
  | with_reducible apply Rd.op
  | with_reducible apply Rd.cons
  | with_reducible apply Rd.nil
  | with_reducible apply Rd.asg
  | ((with_reducible apply Rd.gname); ((dsimp only [List.set, L2.wipe, Int.reduceToNat]) <;> rfl))
  | with_reducible apply Rd.nxt
  | with_reducible apply Rd.ifs
  | with_reducible apply Rd.test
  | with_reducible apply Rd.ret
  | with_reducible apply Rd.call
  | with_reducible apply Rd.cb)
open Ty Ln
section
variable {P : Program} {w : World} {K : PySem.W.Frag} {mg : Str → Option Value} {base : Heap} {D : Str → Addr}
theorem wv_go {st c : Addr} {H H' : Hp} {v : V} {k : List Str} (h : WV H v k) (o : StoreAt H st c) (g : Go st c H H') : WV H' v k := by
  obtain ⟨ok, t, e, ht⟩ := h
  refine ⟨ok, t, e, g.keep _ _ (fun z => ?_) ht⟩
  obtain ⟨ns, p, d, s, t', h1, _⟩ := o
  rw [z, h1] at ht
  cases ht
theorem WebAt.go {st c : Addr} {H H' : Hp} {C a : Addr} {zs : List Str} {ts : List (Str × Str × Str)} (h : WebAt H C a zs ts) (o : StoreAt H st c) (g : Go st c H H') : WebAt H' C a zs ts := by
  obtain ⟨dx, f, d, l, ys, ks, fk, ea, pm, sy, eg, ed, hw, pk, sk, us, el, wl⟩ := h
  obtain ⟨ns, p, d', s, t, h1, _⟩ := id o
  have n1 : a ≠ st := fun z => by rw [z, h1] at ea; cases ea
  have n2 : f ≠ st := fun z => by
    rw [z, h1] at eg
    have e := HO.lst.inj (Option.some.inj eg)
    match ys, e with
    | y :: ys, e => cases e
  have n3 : d ≠ st := fun z => by rw [z, h1] at ed; cases ed
  have n4 : l ≠ st := fun z => by
    rw [z, h1] at el
    have e := HO.lst.inj (Option.some.inj el)
    obtain ⟨k, _, _, t, e1, _⟩ := wl.mem (v := .int p) (by rw [← e]; simp)
    cases e1
  exact ⟨dx, f, d, l, ys, ks, fk, g.keep _ _ n1 ea, pm, sy, g.keep _ _ n2 eg, g.keep _ _ n3 ed, fun t ht => wv_go (hw t ht) o g, pk, sk, us, g.keep _ _ n4 el, wvs_go wl o g⟩
theorem WebAt.ins {H : Hp} {C a : Addr} {zs : List Str} {ts : List (Str × Str × Str)} (h : WebAt H C a zs ts) : ∃ dx g d l, H a = some (.ins C dx (wfs g d l)) := by
  obtain ⟨dx, g, d, l, _, _, _, ea, _⟩ := h
  exact ⟨dx, g, d, l, ea⟩
theorem cut_to (xs : List V) (k : Nat) : cutV xs none (some (k : Int)) = xs.take k := by
  unfold cutV
  rw [HT.sIx_none, HT.sIx_nat, List.drop_zero, Nat.sub_zero]
  rcases Nat.le_total k xs.length with h | h
  · rw [Nat.min_eq_left h]
  · rw [Nat.min_eq_right h, List.take_length, List.take_of_length_le h]
theorem ov_opt {h : Hp} {v : V} (k : v = .non ∨ ∃ n, v = .str n ∧ NmS n) : OV K h v := by
  rcases k with rfl | ⟨n, rfl, nn⟩
  · exact ⟨_, .non, (fun _ e => nomatch e), .non⟩
  · exact .str (Nat.le_trans nn.2 (by decide))
/-- a web with its houses and lines, as they were drawn -/
structure WB (C st c g h l : Addr) (zs : List Str) (ts : List (Str × Str × Str)) (H : Hp) : Prop where
  ok : StoreAt H st c
  wa : WebAt H C g zs ts
  eh : H h = some (.lst (zs.map V.str))
  wl : WL H l (ts.map tr)
theorem WB.go {C st c g h l : Addr} {zs : List Str} {ts : List (Str × Str × Str)} {H H' : Hp} (b : WB C st c g h l zs ts H) (hst : h ≠ st) (lst : l ≠ st) (k : Go st c H H') : WB C st c g h l zs ts H' := ⟨k.ok, b.wa.go b.ok k, k.keep _ _ hst b.eh, wl_go b.wl b.ok k lst⟩
theorem WB.same {C st c g h l : Addr} {zs : List Str} {ts : List (Str × Str × Str)} {H H' : Hp} (b : WB C st c g h l zs ts H) (s : Same H H') : WB C st c g h l zs ts H' := ⟨b.ok.same s, b.wa.same s, s _ _ b.eh, b.wl.same s⟩
/-- _law_web_right(store, web, houses, lines) -/
def spWebRight (K : PySem.W.Frag) (C : Addr) : Sp := fun vs H Q _ => ∃ (st c g h l : Addr) (zs : List Str) (ts : List (Str × Str × Str)), vs = [.ref st, .ref g, .ref h, .ref l] ∧ h ≠ st ∧ l ≠ st ∧ WB C st c g h l zs ts H ∧ LinesOk zs ts ∧ zs.length ≤ 32 ∧ ts.length ≤ 96 ∧ zs.Nodup ∧ (∀ z ∈ zs, NmS z) ∧
  ∀ H', Go st c H H' → Q (.bl true) H'
local macro_rules | `(tactic| walk_at "rd") => `(tactic| first
  | with_reducible apply Kj.propX)
theorem nw_low {st c : Addr} {H0 H1 H : Hp} (g : Go st c H0 H1) : Same (nw H1 H) (nw H0 H) := nw_sub fun b o n e => nw_mk (g.free n) e
theorem ok__law_web_right (F : Def K mg "_law_web_right" s__law_web_right P__law_web_right) (m_range : mg "range" = none) (m_min : mg "min" = none) (m_int : mg "int" = none) (m_len : mg "len" = none) (m_sorted : mg "sorted" = none) (KW_Web : ClsF K mg D "Web" ["_houses", "_ends", "_lines"]) (C__law_take : Cal P w K mg base 1 "_law_take" P__law_take spTake) (C__law_pick : Cal P w K mg base 2 "_law_pick" P__law_pick (spPick K)) (C__law_same : Cal P w K mg base 9 "_law_same" P__law_same (spSame K 8)) (C__law_two : Cal P w K mg base 2 "_law_two" P__law_two spTwo) (C__law_argument : Cal P w K mg base 3 "_law_argument" P__law_argument (spArg K)) (C__law_way_right : Cal P w K mg base 12 "_law_way_right" P__law_way_right (spWayRight K (D "Web"))) (C_Web_houses : CalR P w K mg base 2 (PropR K (D "Web") "houses") P_Web_houses (spWHouses (D "Web"))) (C_Web_lines : CalR P w K mg base 2 (PropR K (D "Web") "lines") P_Web_lines (spWLines (D "Web"))) : Cal P w K mg base 13 "_law_web_right" P__law_web_right (spWebRight K (D "Web")) := by
  refine F.ok sc__law_web_right (fun vs H Q E h => ?_) (fun f cdv A outer s H vs Q E hr h => ?_)
  · obtain ⟨st, c, g, h, l, zs, ts, rfl, _⟩ := h
    rfl
  obtain ⟨st, c, g, h, l, zs, ts, rfl, hst, lst, b, lo, lz, lt, nd, mz, q⟩ := h
  refine ⟨_, (pss_cons (ps_setLc (i := 5) (own := [("line", 4)]) (by rfl) sc__law_web_right.nd rfl rfl (sw_true rfl rfl rfl (by decide +kernel)) (pi_list (pv 3 (hd := nd_lines) (hcd := nc_lines))) (blkOk_by (N := N__law_web_right) (sc := defScope s__law_web_right) (by decide +kernel)) (fun _ _ _ _ _ => (pg_name (i := 4) sc__law_web_right.nd rfl (Or.inl rfl))) (fun _ _ _ _ _ => pts_nil) (fun _ _ _ _ _ => (pe_ix (ix_tupK (K := K) rfl) (pv 4 (hd := nd_line) (hcd := nc_line)) pe_int (fun _ _ => rfl))))
  (pss_cons (ps_for PassesOwn.never rfl (pi_range1 (by rfl) m_range (pa_cons (pe_callB (q_min rfl) (by rfl) m_min bb_min (pa_cons (pe_op op_sub pe_int (pe_op op_mul pe_int (pe_callTy q_intB (by rfl) m_int bb_int (pa_cons (pe_cmpR op_gt (pe_callB q_len (by rfl) m_len PySem.boot_len (pa_cons (pv 3 (hd := nd_lines) (hcd := nc_lines)) pa_nil) (hn := nn_len) (hdb := nd_len)) pe_int (nomark _)) pa_nil) (hn := nn_int) (hdb := nd_int)))) (pa_cons (pe_op op_mul pe_int (pe_callB q_len (by rfl) m_len PySem.boot_len (pa_cons (pv 2 (hd := nd_houses) (hcd := nc_houses)) pa_nil) (hn := nn_len) (hdb := nd_len))) pa_nil)) (hn := nn_min) (hdb := nd_min)) pa_nil)) (pg_name (i := 6) sc__law_web_right.nd rfl (Or.inl rfl)) (pss_cons (ps_set (i := 7) sc__law_web_right.nd rfl (Or.inl rfl) (pe_cal C__law_two hr (pa_cons (pv 0 (hd := nd_store) (hcd := nc_store)) (pa_cons (pv 2 (hd := nd_houses) (hcd := nc_houses)) pa_nil)) (hdb := nd__law_two)))
  (pss_cons (ps_set (i := 4) sc__law_web_right.nd rfl (Or.inl rfl) (pe_ix ix_list (pe_lst (pa_cons pe_non (pa_cons (pe_cal C__law_pick hr (pa_cons (pv 0 (hd := nd_store) (hcd := nc_store)) (pa_cons (pv 5 (hd := nd_names) (hcd := nc_names)) pa_nil)) (hdb := nd__law_pick)) pa_nil))) (pe_cal C__law_take hr (pa_cons (pv 0 (hd := nd_store) (hcd := nc_store)) (pa_cons pe_int pa_nil)) (hdb := nd__law_take)) (fun _ _ => rfl)))
  (pss_one (ps_if (pt_not (pt_val (pe_cal C__law_way_right hr (pa_cons (pv 1 (hd := nd_web) (hcd := nc_web)) (pa_cons (pv 2 (hd := nd_houses) (hcd := nc_houses)) (pa_cons (pv 3 (hd := nd_lines) (hcd := nc_lines)) (pa_cons (pe_ix ix_list (pv 7 (hd := nd_pair) (hcd := nc_pair)) pe_int (fun _ _ => rfl)) (pa_cons (pe_ix ix_list (pv 7 (hd := nd_pair) (hcd := nc_pair)) pe_int (fun _ _ => rfl)) (pa_cons (pv 4 (hd := nd_line) (hcd := nc_line)) pa_nil)))))) (hdb := nd__law_way_right)))) (pss_one (ps_ret pe_bl)) pss_nil)))))
  (pss_cons (ps_for PassesOwn.never rfl (pi_range1 (by rfl) m_range (pa_cons pe_int pa_nil)) (pg_name (i := 6) sc__law_web_right.nd rfl (Or.inl rfl)) (pss_cons (ps_set (i := 8) sc__law_web_right.nd rfl (Or.inl rfl) (pe_cal C__law_argument hr (pa_cons (pv 0 (hd := nd_store) (hcd := nc_store)) (pa_cons (pv 2 (hd := nd_houses) (hcd := nc_houses)) pa_nil)) (hdb := nd__law_argument)))
  (pss_cons (ps_set (i := 9) sc__law_web_right.nd rfl (Or.inl rfl) (pe_ix ix_list (pe_lst (pa_cons (pv 8 (hd := nd_a) (hcd := nc_a)) (pa_cons (pe_cal C__law_argument hr (pa_cons (pv 0 (hd := nd_store) (hcd := nc_store)) (pa_cons (pv 2 (hd := nd_houses) (hcd := nc_houses)) pa_nil)) (hdb := nd__law_argument)) (pa_cons (pe_cal C__law_argument hr (pa_cons (pv 0 (hd := nd_store) (hcd := nc_store)) (pa_cons (pv 2 (hd := nd_houses) (hcd := nc_houses)) pa_nil)) (hdb := nd__law_argument)) pa_nil)))) (pe_cal C__law_take hr (pa_cons (pv 0 (hd := nd_store) (hcd := nc_store)) (pa_cons pe_int pa_nil)) (hdb := nd__law_take)) (fun _ _ => rfl)))
  (pss_cons (ps_set (i := 4) sc__law_web_right.nd rfl (Or.inl rfl) (pe_ix ix_list (pe_lst (pa_cons pe_non (pa_cons (pe_cal C__law_argument hr (pa_cons (pv 0 (hd := nd_store) (hcd := nc_store)) (pa_cons (pv 5 (hd := nd_names) (hcd := nc_names)) pa_nil)) (hdb := nd__law_argument)) (pa_cons (pe_cal C__law_argument hr (pa_cons (pv 0 (hd := nd_store) (hcd := nc_store)) (pa_cons (pv 5 (hd := nd_names) (hcd := nc_names)) pa_nil)) (hdb := nd__law_argument)) pa_nil)))) (pe_cal C__law_take hr (pa_cons (pv 0 (hd := nd_store) (hcd := nc_store)) (pa_cons pe_int pa_nil)) (hdb := nd__law_take)) (fun _ _ => rfl)))
  (pss_one (ps_if (pt_not (pt_val (pe_cal C__law_way_right hr (pa_cons (pv 1 (hd := nd_web) (hcd := nc_web)) (pa_cons (pv 2 (hd := nd_houses) (hcd := nc_houses)) (pa_cons (pv 3 (hd := nd_lines) (hcd := nc_lines)) (pa_cons (pv 8 (hd := nd_a) (hcd := nc_a)) (pa_cons (pv 9 (hd := nd_b) (hcd := nc_b)) (pa_cons (pv 4 (hd := nd_line) (hcd := nc_line)) pa_nil)))))) (hdb := nd__law_way_right)))) (pss_one (ps_ret pe_bl)) pss_nil))))))
  (pss_one (ps_ret (pe_and (pe_cal C__law_same hr (pa_cons (pe_propR C_Web_houses (pv 1 (hd := nd_web) (hcd := nc_web)) KW_Web.cl hr) (pa_cons (pe_callB (q_sortedSK (K := K) rfl) (by rfl) m_sorted bb_sorted (pa_cons (pv 2 (hd := nd_houses) (hcd := nc_houses)) pa_nil) (hn := nn_sorted) (hdb := nd_sorted)) pa_nil)) (hdb := nd__law_same)) (pe_one (pe_cal C__law_same hr (pa_cons (pe_propR C_Web_lines (pv 1 (hd := nd_web) (hcd := nc_web)) KW_Web.cl hr) (pa_cons (pe_callB (cr_sortedTSK (K := K) rfl) (by rfl) m_sorted bb_sorted (pa_cons (pv 3 (hd := nd_lines) (hcd := nc_lines)) pa_nil) (hn := nn_sorted) (hdb := nd_sorted)) pa_nil)) (hdb := nd__law_same))))))))), ?_⟩
  refine Rd.at0 (σ := [some (.ref st), some (.ref g), some (.ref h), some (.ref l), none, none, none, none, none, none]) rfl ?_
  obtain ⟨ls, el, hls⟩ := b.wl
  have lls : ls.length = ts.length := by rw [hls.len, List.length_map]
  have ln : (ts.map (·.1)).length = ts.length := List.length_map _
  repeat' (walk_at "rd")
  refine lcF ls (fun i => (ts[i]?).map fun t => V.str t.1) (.inl (.inl el)) (by omega) (fun i v h' hv s => ?_) fun N G1 nN s1 eN => ?_
  · intro L5 Nx yes no
    obtain ⟨kk, hkk, okk, t0, rfl, et0⟩ := hls.at hv
    rw [List.getElem?_map] at hkk
    obtain ⟨⟨n, x, y⟩, ht, rfl⟩ := Option.map_eq_some_iff.mp hkk
    have et : h' t0 = some (.tup [.str n, .str x, .str y]) := s _ _ et0
    have ei : (ts[i]?).map (fun t => V.str t.1) = some (.str n) := by rw [ht]; rfl
    refine turn1 ?_
    repeat' (walk_at "rd")
    refine ⟨rfl, ?_⟩
    repeat' (walk_at "rd")
    exact yes _ _ ei (.refl _)
  rw [mapD1 ts ls lls] at eN
  generalize hns : ts.map (·.1) = ns at *
  have mn : ∀ n ∈ ns, NmS n := fun n hn => by
    rw [← hns] at hn
    obtain ⟨t, ht, rfl⟩ := List.mem_map.mp hn
    exact lo.nm t ht
  have b1 := b.same s1
  have Nst : N ≠ st := (b.ok.off nN).1
  have lmn : (ns.map V.str).length = ns.length := List.length_map ..
  have lmz : (zs.map V.str).length = zs.length := List.length_map ..
  have g0 : Go st c H G1 := (Go.refl b.ok).same s1
  have nN' : H N = none := nN
  have eh1 := b1.eh
  repeat' (walk_at "rd")
  refine forR (fun i σ H' => ∃ v4 v6 v7 : Option V, σ = [some (.ref st), some (.ref g), some (.ref h), some (.ref l), v4, some (.ref N), v6, v7, none, none] ∧ Go st c G1 H') ⟨_, _, _, rfl, Go.refl b1.ok⟩ ?_ ?_
  · rintro i σ H' hi ⟨v4, v6, v7, rfl, k⟩
    have b' := b1.go hst lst k
    have eN' := k.keep _ _ Nst eN
    have l1 : 1 ≤ zs.length := by omega
    repeat' (walk_at "rd")
    refine ⟨st, c, h, zs, rfl, b'.ok, hst, b'.eh, l1, by omega, fun p x1 x2 H1 m1 m2 np ep g1 => ?_⟩
    have b1 := b'.go hst lst g1
    have eN1 := g1.keep _ _ Nst eN'
    have pst := (b'.ok.off np).1
    repeat' (walk_at "rd")
    refine .inr ⟨st, c, N, _, rfl, b1.ok, Nst, .inl (.inl eN1), by omega, fun e => ?_, fun x H2 hx2 g2 => ?_⟩
    · have g2 : Go st c H1 H1 := Go.refl b1.ok
      have kx : V.non = .non ∨ ∃ n, V.non = .str n ∧ NmS n := .inl rfl
      have b2 := b1.go hst lst g2
      have pst := (b'.ok.off np).1
      have ep2 := g2.keep _ _ pst ep
      repeat' (walk_at "rd")
      rename_i P2 nP2 G5 s5 eP2
      have b5 := b2.same s5
      refine ⟨st, c, 2, rfl, b5.ok, by decide, fun r H6 r0 r1 g6 => ?_⟩
      have g26 := (g2.same s5).trans g6
      have P2st := (b2.ok.off nP2).1
      have eP6 := g6.keep _ _ P2st eP2
      have ep6 := g6.keep _ _ pst (s5 _ _ ep2)
      obtain ⟨v, ev, kv⟩ : ∃ v, [V.non, V.non][r.toNat]? = some v ∧ (v = .non ∨ ∃ n, v = .str n ∧ NmS n) := by
        obtain rfl | rfl : r = 0 ∨ r = 1 := by omega
        · exact ⟨.non, rfl, .inl rfl⟩
        · exact ⟨V.non, rfl, kx⟩
      repeat' (walk_at "rd")
      refine ixN' (.inl (.inl eP6)) r0 ev ?_
      have b6 := b1.go hst lst g26
      obtain ⟨d2, dv2, sz2, fd2⟩ : OV K H6 v := ov_opt kv
      repeat' (walk_at "rd")
      refine ⟨g, h, l, zs, ts, .str x1, .str x2, v, .str x1, .str x2, d2, rfl, b6.wa, lo, by omega, by omega, nd, mz, b6.eh, b6.wl, .str x1, .str x2, dv2, nm_sz (mz x1 m1), nm_sz (mz x2 m2), sz2, .str x1, .str x2, fd2, fun H7 s7 => ?_⟩
      repeat' (walk_at "rd")
      exact ⟨_, _, _, rfl, k.trans (g1.trans (g26.same s7))⟩
    · obtain ⟨n, hn, rfl⟩ := List.mem_map.mp hx2
      have kx : V.str n = .non ∨ ∃ m, V.str n = .str m ∧ NmS m := .inr ⟨n, rfl, mn n hn⟩
      generalize V.str n = x at *
      have b2 := b1.go hst lst g2
      have pst := (b'.ok.off np).1
      have ep2 := g2.keep _ _ pst ep
      repeat' (walk_at "rd")
      rename_i P2 nP2 G5 s5 eP2
      have b5 := b2.same s5
      refine ⟨st, c, 2, rfl, b5.ok, by decide, fun r H6 r0 r1 g6 => ?_⟩
      have g26 := (g2.same s5).trans g6
      have P2st := (b2.ok.off nP2).1
      have eP6 := g6.keep _ _ P2st eP2
      have ep6 := g6.keep _ _ pst (s5 _ _ ep2)
      obtain ⟨v, ev, kv⟩ : ∃ v, [V.non, x][r.toNat]? = some v ∧ (v = .non ∨ ∃ n, v = .str n ∧ NmS n) := by
        obtain rfl | rfl : r = 0 ∨ r = 1 := by omega
        · exact ⟨.non, rfl, .inl rfl⟩
        · exact ⟨x, rfl, kx⟩
      repeat' (walk_at "rd")
      refine ixN' (.inl (.inl eP6)) r0 ev ?_
      have b6 := b1.go hst lst g26
      obtain ⟨d2, dv2, sz2, fd2⟩ : OV K H6 v := ov_opt kv
      repeat' (walk_at "rd")
      refine ⟨g, h, l, zs, ts, .str x1, .str x2, v, .str x1, .str x2, d2, rfl, b6.wa, lo, by omega, by omega, nd, mz, b6.eh, b6.wl, .str x1, .str x2, dv2, nm_sz (mz x1 m1), nm_sz (mz x2 m2), sz2, .str x1, .str x2, fd2, fun H7 s7 => ?_⟩
      repeat' (walk_at "rd")
      exact ⟨_, _, _, rfl, k.trans (g1.trans (g26.same s7))⟩
  rintro σ H4 ⟨v4, v6, v7, rfl, k4⟩
  have b4 := b1.go hst lst k4
  have eN4 := k4.keep _ _ Nst eN
  have g04 := g0.trans k4
  clear b1 eN k4 g0 eh1
  repeat' (walk_at "rd")
  refine forR (fun i σ H' => ∃ v4 v6 v7 v8 v9 : Option V, σ = [some (.ref st), some (.ref g), some (.ref h), some (.ref l), v4, some (.ref N), v6, v7, v8, v9] ∧ Go st c H4 H') ⟨_, _, _, _, _, rfl, Go.refl b4.ok⟩ ?_ ?_
  · rintro i σ H' hi ⟨v4, v6, v7, v8, v9, rfl, k⟩
    have b' := b4.go hst lst k
    have eN' := k.keep _ _ Nst eN4
    repeat' (walk_at "rd")
    refine ⟨st, c, h, zs, rfl, b'.ok, hst, b'.eh, by omega, fun z hz => (mz z hz).2, fun a H1 g1 o1 => ?_⟩
    have b1 := b'.go hst lst g1
    have eN1 := g1.keep _ _ Nst eN'
    repeat' (walk_at "rd")
    refine ⟨st, c, h, zs, rfl, b1.ok, hst, b1.eh, by omega, fun z hz => (mz z hz).2, fun u1 H2 g2 o2 => ?_⟩
    have b2 := b1.go hst lst g2
    repeat' (walk_at "rd")
    refine ⟨st, c, h, zs, rfl, b2.ok, hst, b2.eh, by omega, fun z hz => (mz z hz).2, fun u2 H3 g3 o3 => ?_⟩
    have b3 := b2.go hst lst g3
    repeat' (walk_at "rd")
    rename_i P2 nP2 G5 s5 eP2
    have b5 := b3.same s5
    refine ⟨st, c, 3, rfl, b5.ok, by decide, fun r H6 r0 r1 g6 => ?_⟩
    have P2st := (b3.ok.off nP2).1
    have eP6 := g6.keep _ _ P2st eP2
    have g36 := (Go.refl b3.ok).same s5 |>.trans g6
    have o1' := o1.same (nw_go b'.ok (g2.trans (g3.trans g36)))
    have o2' := (o2.same (nw_go b1.ok (g3.trans g36))).same (nw_low g1)
    have o3' := (o3.same (nw_go b2.ok g36)).same (nw_low (g1.trans g2))
    obtain ⟨b, eb, ob⟩ : ∃ b, [a, u1, u2][r.toNat]? = some b ∧ OV K (nw H' H6) b := by
      obtain rfl | rfl | rfl : r = 0 ∨ r = 1 ∨ r = 2 := by omega
      · exact ⟨a, rfl, o1'⟩
      · exact ⟨u1, rfl, o2'⟩
      · exact ⟨u2, rfl, o3'⟩
    have g26 := g2.trans (g3.trans g36)
    have b6 := b1.go hst lst g26
    have eN6 := g26.keep _ _ Nst eN1
    clear eN1 o1 o2 o3 o2' o3' b2 b3 b5
    repeat' (walk_at "rd")
    refine ixN' (.inl (.inl eP6)) r0 eb ?_
    clear eP6 eP2
    repeat' (walk_at "rd")
    refine ⟨st, c, N, ns, rfl, b6.ok, Nst, eN6, by omega, fun z hz => (mn z hz).2, fun w1 H7 g7 p1 => ?_⟩
    have b7 := b6.go hst lst g7
    have eN7 := g7.keep _ _ Nst eN6
    repeat' (walk_at "rd")
    refine ⟨st, c, N, ns, rfl, b7.ok, Nst, eN7, by omega, fun z hz => (mn z hz).2, fun w2 H8 g8 p2 => ?_⟩
    have b8 := b7.go hst lst g8
    repeat' (walk_at "rd")
    rename_i P3 nP3 G9 s9 eP3
    have b9 := b8.same s9
    refine ⟨st, c, 3, rfl, b9.ok, by decide, fun r2 H10 r20 r21 g10 => ?_⟩
    have P3st := (b8.ok.off nP3).1
    have eP10 := g10.keep _ _ P3st eP3
    have g810 := (Go.refl b8.ok).same s9 |>.trans g10
    have p1' : OV K H10 w1 := (p1.same (nw_go b6.ok (g8.trans g810))).same nw_in
    have p2' : OV K H10 w2 := (p2.same (nw_go b7.ok g810)).same nw_in
    have g610 := g7.trans (g8.trans g810)
    obtain ⟨v, ev, d3, dv3, sz3, fd3⟩ : ∃ v, [V.non, w1, w2][r2.toNat]? = some v ∧ OV K H10 v := by
      obtain rfl | rfl | rfl : r2 = 0 ∨ r2 = 1 ∨ r2 = 2 := by omega
      · exact ⟨.non, rfl, ov_opt (.inl rfl)⟩
      · exact ⟨w1, rfl, p1'⟩
      · exact ⟨w2, rfl, p2'⟩
    have b10 := b6.go hst lst g610
    obtain ⟨d1, dv1, sz1, fd1⟩ := (o1'.same (nw_go b'.ok g610)).same nw_in
    obtain ⟨d2, dv2, sz2, fd2⟩ := (ob.same (nw_go b'.ok g610)).same nw_in
    repeat' (walk_at "rd")
    refine ixN' (.inl (.inl eP10)) r20 ev ?_
    repeat' (walk_at "rd")
    refine ⟨g, h, l, zs, ts, a, b, v, d1, d2, d3, rfl, b10.wa, lo, by omega, by omega, nd, mz, b10.eh, b10.wl, dv1, dv2, dv3, sz1, sz2, sz3, fd1, fd2, fd3, fun H11 s11 => ?_⟩
    repeat' (walk_at "rd")
    exact ⟨_, _, _, _, _, rfl, k.trans (g1.trans (g26.trans (g610.same s11)))⟩
  rintro σ H5 ⟨v4, v6, v7, v8, v9, rfl, k5⟩
  have b5 := b4.go hst lst k5
  have g05 := g04.trans k5
  obtain ⟨dw, f1', f2', f3', ex1⟩ := b5.wa.ins
  repeat' (walk_at "rd")
  refine ⟨g, dw, _, rfl, ex1, g, zs, ts, rfl, b5.wa, by omega, fun Ld ys2 Gd pm sy nLd sd eLd => ?_⟩
  have b6 := b5.same sd
  have ehd := b6.eh
  repeat' (walk_at "rd")
  refine ⟨h, zs, rfl, .inl (.inl ehd), by omega, fun ys3 pe pm2 sy2 npe => ?_⟩
  obtain rfl : ys2 = ys3 := sorted_one (pm.trans pm2.symm) sy sy2
  have se := same_upd (o := .lst (ys2.map V.str)) npe
  have ee : upd Gd pe (.lst (ys2.map V.str)) pe = some (.lst (ys2.map V.str)) := upd_same
  generalize upd Gd pe (.lst (ys2.map V.str)) = Ge at *
  have ly := pm.length_eq
  refine ⟨_, _, .list (ys2.map PyData.str), 7, rfl, rfl, .lst (.inl (.inl (se _ _ eLd))) (dvStrs ys2), .lst (.inl (.inl ee)) (dvStrs ys2), .lst (by rw [List.length_map]; omega) fdStrs, fun Gf sf => ?_⟩
  have b7 := b6.same (se.trans sf)
  have g07 := g05.same (sd.trans (se.trans sf))
  obtain ⟨dw2, g1', g2', g3', ex3⟩ := b7.wa.ins
  repeat' (walk_at "rd")
  refine ⟨g, dw2, _, rfl, ex3, g, zs, ts, rfl, b7.wa, fun La ka Ga pka ska nLa sa wla => ?_⟩
  repeat' (walk_at "rd")
  refine sortW (b7.wl.same sa) srt_tr fun ja pa Gb pja sja npa sb wlb => ?_
  obtain rfl : ka = ja := srtw_one (pka.trans pja.symm) ska sja
  refine ⟨_, _, _, 7, rfl, rfl, wl_dv (wla.same sb), wl_dv wlb, (fd_w pka (by omega)).mono (by decide), fun Gc sc => ?_⟩
  exact q Gc (g07.same (sa.trans (sb.trans sc)))
end
end Kj
namespace Kj
open PySem PySem.Spec PyProof.Rows L2 Rd
local macro_rules | `(tactic| walk_at "hp") => `(tactic| first
  | assumption
  | exact upd_same
  | (refine Eq.trans (upd_ne (by first | assumption | (apply Ne.symm; assumption))) ?_; walk_at "hp"))
local macro_rules | `(tactic| walk_at "sq") => `(tactic| first
  | assumption
  | (refine Or.inl (Or.inl ?_); walk_at "hp"))
local macro_rules | `(tactic| walk_at "st") => `(tactic| first
  | assumption
  | (refine Or.inl (Or.inl ?_); walk_at "hp"))
local macro_rules | `(tactic| walk_at "ar") => `(tactic| first
  | assumption
  | omega
  | decide)
local macro_rules | `(tactic| walk_at "ci") => `(tactic| first
  | (refine (show CMul _ _ from Or.inr ⟨?_, ?_⟩) <;> omega)
  | (refine (show CMul _ _ from Or.inl ⟨?_, ?_⟩) <;> omega)
  | (show CPow _ _; exact ⟨by decide, by decide, by decide⟩)
  | (refine wide_div (b := 63) ?_ ?_ (by decide) (by decide) <;> omega)
  | (show (0 : Int) < _; omega))
local macro_rules | `(tactic| walk_at "ty") => `(tactic| first
  | exact dp_ty (by assumption)
  | exact TyX.base (TyOf.int _)
  | exact TyX.base (TyOf.str _)
  | exact TyX.base (TyOf.bl _)
  | exact TyX.base TyOf.non
  | exact tyL' (by walk_at "sq")
  | exact tyT' (by walk_at "st"))
local macro_rules | `(tactic| walk_at "isi") => `(tactic| first
  | ((with_reducible apply Rd.isiF); (walk_at "ty"); (decide))
  | ((with_reducible apply Rd.isiT); (walk_at "ty"); (decide)))
local macro_rules | `(tactic| walk_at "rd") => `(tactic| first
  | with_reducible apply Rd.seq
  | ((with_reducible apply Rd.var); rfl)
  | with_reducible apply Rd.con
  | with_reducible apply Rd.op
  | with_reducible apply Rd.asg
  | ((with_reducible apply Rd.gname); ((dsimp only [List.set, L2.wipe, Int.reduceToNat]) <;> rfl))
  | with_reducible apply Rd.nxt
  | with_reducible apply Rd.ifs
  | with_reducible apply Rd.test
  | with_reducible apply Rd.testB
  | with_reducible apply Rd.exbl
  | with_reducible apply Rd.ret
  | with_reducible apply Rd.drop
  | with_reducible apply Rd.retN
  | with_reducible apply Rd.nil
  | with_reducible apply Rd.cons
  | with_reducible apply Rd.call
  | with_reducible apply Rd.cb
  | with_reducible apply Rd.and
  | with_reducible apply Rd.or
  | with_reducible apply Rd.not
  | with_reducible apply Rd.andV
  | with_reducible apply Rd.orV
  | with_reducible apply Rd.notV
  | with_reducible apply Rd.ife
  | with_reducible apply Rd.tup
  | with_reducible apply Rd.lst
  | with_reducible apply Rd.un
  | with_reducible apply Rd.chain
  | with_reducible apply Rd.brk
  | with_reducible apply Rd.cnt
  | with_reducible apply Rd.I0
  | with_reducible apply Rd.U1
  | ((with_reducible apply Rd.eq); rfl)
  | ((with_reducible apply Rd.ne); rfl)
  | ((with_reducible apply Rd.I1); (walk_at "ci"))
  | with_reducible apply Rd.lc0
  | with_reducible apply Rd.ln0
  | with_reducible apply Rd.exN
  | ((with_reducible apply Rd.iteSf); (decide +kernel))
  | ((with_reducible apply Rd.iteSt); (decide +kernel))
  | ((with_reducible apply Rd.niQ); (exact Or.inl (by walk_at "sq")); (exact ⟨rfl, rfl⟩); (rfl))
  | ((with_reducible apply Rd.inQ); (exact Or.inl (by walk_at "sq")); (exact ⟨rfl, rfl⟩); (rfl))
  | with_reducible apply Rd.rn1
  | with_reducible apply Rd.in1
  | with_reducible apply Rd.sn1
  | with_reducible apply Rd.bn1
  | with_reducible apply Rd.nn1
  | with_reducible apply Rd.rn2
  | with_reducible apply Rd.in2
  | with_reducible apply Rd.sn2
  | with_reducible apply Rd.bn2
  | with_reducible apply Rd.nn2
  | with_reducible apply Rd.nt1
  | with_reducible apply Rd.nf1
  | (with_reducible refine Rd.iteI (fun _ => ?_) (fun _ => ?_))
  | (with_reducible refine Rd.iteNI (fun _ => ?_) (fun _ => ?_))
  | (with_reducible refine iteT ?_)
  | (with_reducible refine iteF ?_)
  | (with_reducible refine Rd.iteD (fun _ => ?_) (fun _ => ?_))
  | (with_reducible refine Rd.iteN (fun _ => ?_) (fun _ => ?_))
  | with_reducible apply Rd.intI
  | with_reducible apply Rd.intB
  | with_reducible apply Rd.maxQ
  | with_reducible apply Rd.minQ
  | with_reducible apply Rd.absQ
  | with_reducible apply Rd.isN
  | with_reducible apply Rd.noN
  | with_reducible apply Rd.ltZ
  | with_reducible apply Rd.bm
  | with_reducible apply Rd.bm0
  | with_reducible apply Rd.par
  | with_reducible apply Rd.expar
  | with_reducible apply Rd.exint
  | with_reducible apply Rd.ipi
  | with_reducible apply Rd.slice
  | with_reducible apply Rd.noPart
  | with_reducible apply Rd.part
  | with_reducible apply Rd.gcons
  | with_reducible apply Rd.gnil
  | with_reducible apply Rd.iseq
  | with_reducible apply Rd.irng1
  | walk_at "isi"
  | with_reducible apply Rd.forX
  | with_reducible apply Rd.lstRev
  | with_reducible apply Rd.lstRg
  | with_reducible apply Rd.rg1
  | with_reducible apply Rd.rg2
  | with_reducible apply Rd.exint2
  | ((with_reducible apply Rd.exrev); (walk_at "sq"))
  | with_reducible apply Rd.lcX
  | with_reducible apply Rd.yes
  | ((with_reducible apply Rd.exrng1); (constructor <;> omega))
  | ((with_reducible apply Rd.exrng2); (refine ⟨?_, ?_, ?_, ?_⟩ <;> omega))
  | with_reducible apply Rd.irng2
  | ((with_reducible apply Rd.aug); rfl)
  | ((with_reducible apply Rd.exlst); (walk_at "sq"))
  | ((with_reducible apply Rd.gtup); (walk_at "st"); (rfl))
  | ((with_reducible apply Rd.tyL); (walk_at "hp"))
  | ((with_reducible apply Rd.ixL); (walk_at "sq"); (rfl))
  | ((with_reducible apply Rd.ixI); (walk_at "sq"); (omega); (first | assumption | (simp only [List.length_map]; omega)); (intro _ _))
  | (with_reducible refine Rd.gsub ?_)
  | ((with_reducible apply Rd.setL); (walk_at "hp"); (rfl); ((dsimp only [List.set, L2.wipe, Int.reduceToNat]) <;> rfl))
  | ((with_reducible apply Rd.lenQ); (first | exact Or.inl (by walk_at "sq") | exact Or.inr (by walk_at "st")))
  | ((with_reducible apply Rd.listQ); (first | exact Or.inl (by walk_at "sq") | exact Or.inr (by walk_at "st")))
  | ((with_reducible apply Rd.tupQ); (walk_at "sq"))
  | ((with_reducible apply Rd.slL); (walk_at "sq"))
  | ((with_reducible apply Rd.ixT); (walk_at "st"); (rfl))
  | (with_reducible refine Rd.iteB (fun _ => ?_) (fun _ => ?_))
  | (with_reducible refine Rd.iteNB (fun _ => ?_) (fun _ => ?_))
  | (refine Rd.andI (Nat.le_of_ble_eq_true rfl) ?_)
  | dsimp only [List.set])
local macro_rules | `(tactic| walk_at "hp") => `(tactic| first
  | assumption
  | exact upd_same
  | (refine Eq.trans (upd_ne (by first | assumption | (apply Ne.symm; assumption))) ?_; walk_at "hp")
  | (refine hpS (by assumption) ?_; walk_at "hp"))
local macro_rules | `(tactic| walk_at "al") => `(tactic| (with_reducible intro l hl; generalize hG : upd _ l _ = G; have hs := newOne hl hG; clear hG; obtain ⟨hs, he⟩ := hs))
local macro_rules | `(tactic| walk_at "rd") => `(tactic| first
  | walk_at "al"
  | ((with_reducible apply Rd.cat); (walk_at "hp"); (walk_at "hp"); (exact Nat.le_of_ble_eq_true rfl)))
local macro_rules | `(tactic| walk_at "sm") => `(tactic| first
  | assumption
  | exact Same.refl _
  | (refine Same.trans ?_ (by assumption); walk_at "sm"))
local macro_rules | `(tactic| walk_at "fr") => `(tactic| first
  | assumption
  | (refine Same.free (by assumption) ?_; walk_at "fr"))
local macro_rules | `(tactic| walk_at "ty") => `(tactic| first
  | exact dv_ty (by assumption)
  | exact tyD' (by walk_at "hp"))
local macro_rules | `(tactic| walk_at "sz") => `(tactic| first
  | exact sz5 (by omega)
  | (simp only [add_len, one_len]; exact sz5 (by omega)))
local macro_rules | `(tactic| walk_at "rd") => `(tactic| first
  | with_reducible apply Rd.istr
  | with_reducible apply Rd.exstr
  | with_reducible apply Rd.leA
  | with_reducible apply Rd.leZz
  | with_reducible apply Rd.le0
  | with_reducible apply Rd.le9
  | with_reducible apply Rd.niZ
  | ((with_reducible apply Rd.lenZ); (walk_at "sz"))
  | ((with_reducible apply Rd.slZ); (walk_at "sz"))
  | ((with_reducible apply Rd.addZ); (walk_at "sz"))
  | with_reducible apply Rd.raiseX
  | with_reducible apply Rd.exone
  | with_reducible apply Rd.callS
  | with_reducible apply Rd.callP
  | with_reducible apply Rd.xsX
  | with_reducible apply Rd.dnewX
  | with_reducible apply Rd.tyZ)
local macro_rules | `(tactic| walk_at "rd") => `(tactic| first
  | with_reducible apply Rd.seq
  | ((with_reducible apply Rd.var); rfl)
  | with_reducible apply Rd.con
  | with_reducible apply Rd.op
  | with_reducible apply Rd.cons
  | with_reducible apply Rd.nil
  | with_reducible apply Rd.asg
  | ((with_reducible apply Rd.gname); ((dsimp only [List.set, L2.wipe, Int.reduceToNat]) <;> rfl))
  | with_reducible apply Rd.nxt
  | with_reducible apply Rd.ifs
  | with_reducible apply Rd.test
  | with_reducible apply Rd.ret
  | with_reducible apply Rd.call
  | with_reducible apply Rd.cb)
open Ty Ln
section
variable {P : Program} {w : World} {K : PySem.W.Frag} {mg : Str → Option Value} {base : Heap} {D : Str → Addr}
theorem made_same {H : Hp} {x dx : Addr} {o1 o2 : HO} (hx : H x = none) (hd : H dx = none) : Same H (upd (upd H dx o1) x o2) := fun b o e => by
  rw [upd_ne (ne_of_none e hx), upd_ne (ne_of_none e hd)]
  exact e
theorem made_del {H : Hp} {x dx : Addr} {o1 o2 : HO} (hx : H x = none) (hd : H dx = none) : Same H (del (upd (upd H dx o1) x o2) x) := fun b o e => del_mk (ne_of_none e hx) (made_same hx hd _ _ e)
theorem kx_same {H G G' : Hp} {x : Addr} (s : Same H G) (n : H x = none) (k : Kx x G G') : Same H G' := fun b o e => k b o (ne_of_none e n) (s b o e)
def rD (t : Str × Str × Str) : D3 := (.str t.1, .str t.2.1, .str t.2.2)
theorem trD_rD {t : Str × Str × Str} (h : cl t.2.1 < cl t.2.2) : trD (rD t) = t := by
  have n : ¬ t.2.2.cps.toList < t.2.1.cps.toList := fun k => List.lt_irrefl _ (List.lt_trans k h)
  show (t.1, loS t.2.1 t.2.2, hiS t.2.1 t.2.2) = t
  unfold loS hiS
  rw [if_neg n, if_neg n]
theorem map_trD {ts : List (Str × Str × Str)} (h : ∀ t ∈ ts, cl t.2.1 < cl t.2.2) : (ts.map rD).map trD = ts := by
  rw [List.map_map]
  conv => rhs; rw [← List.map_id ts]
  exact List.map_congr_left fun t ht => trD_rD (h t ht)
theorem rows_tr {H : Hp} : ∀ {vs : List V} {ts : List (Str × Str × Str)}, WVs H vs (ts.map tr) → (∀ t ∈ ts, NmS t.1 ∧ NmS t.2.1 ∧ NmS t.2.2) → RowsAt K H vs (ts.map rD)
  | [], [], _, _ => trivial
  | v :: vs, t :: ts, h, n => by
    obtain ⟨⟨ok, p, rfl, hp⟩, r⟩ := h
    obtain ⟨n1, n2, n3⟩ := n t (.head _)
    exact ⟨⟨p, _, _, _, rfl, .inl hp, .str _, .str _, .str _, nm_sz n1, nm_sz n2, nm_sz n3⟩, rows_tr r fun x hx => n x (.tail _ hx)⟩
  | [], _ :: _, h, _ => h.elim
  | _ :: _, [], h, _ => h.elim
theorem dueR_lines {zs : List Str} {r : List D3} (mz : ∀ z ∈ zs, NmS z) : ∀ {kt : List (Str × Str × Str)} {acc : List Str}, (acc ++ kt.map (·.1)).Nodup → (acc ++ kt.map (·.1)).length ≤ 96 → (∀ t ∈ kt, NmS t.1) → (∀ t ∈ kt, t.2.1 ∈ zs ∧ t.2.2 ∈ zs ∧ cl t.2.1 < cl t.2.2) → dueR zs (kt.map rD ++ r) acc = dueR zs r (acc ++ kt.map (·.1))
  | [], acc, _, _, _, _ => by
    rw [List.map_nil, List.map_nil, List.nil_append, List.append_nil]
  | t :: kt, acc, nd, l, nm, en => by
    rw [List.map_cons] at nd l
    have e := en t (.head _)
    have m : t.1 ∉ acc := fun k => (List.nodup_append.mp nd).2.2 t.1 k t.1 (.head _) rfl
    rw [List.map_cons, List.cons_append, dueP_go (dueP_ok (nm_b (nm t (.head _))) (nm_b (mz _ e.1)) (nm_b (mz _ e.2.1)) e.1 e.2.1 (fun z => by rw [z] at e; exact List.lt_irrefl _ e.2.2) m (by rw [List.length_append, List.length_cons] at l; omega))]
    show dueR zs (kt.map rD ++ r) (acc ++ [t.1]) = _
    rw [dueR_lines mz (by rw [List.append_assoc]; exact nd) (by rw [List.append_assoc]; exact l) (fun x hx => nm x (.tail _ hx)) (fun x hx => en x (.tail _ hx)), List.append_assoc]
    rfl
theorem mapStr_inj : ∀ {xs ys : List Str}, xs.map PyData.str = ys.map PyData.str → xs = ys
  | [], [], _ => rfl
  | [], _ :: _, h => nomatch h
  | _ :: _, [], h => nomatch h
  | x :: xs, y :: ys, h => by
    obtain ⟨a, b⟩ := List.cons.inj h
    cases a
    rw [mapStr_inj b]
/-- right houses and lines -/
structure Rt (zs : List Str) (ts : List (Str × Str × Str)) : Prop where
  nd : zs.Nodup
  mz : ∀ z ∈ zs, NmS z
  lz : zs.length ≤ 32
  lo : LinesOk zs ts
  lt : ts.length ≤ 96
theorem Rt.perm {zs ys : List Str} {ts us : List (Str × Str × Str)} (r : Rt zs ts) (p : ys.Perm zs) (q : us.Perm ts) : Rt ys us :=
  ⟨p.nodup_iff.mpr r.nd, fun z hz => r.mz z (p.mem_iff.mp hz), by rw [p.length_eq]; exact r.lz, ⟨(q.map _).nodup_iff.mpr r.lo.nd, fun t ht => r.lo.nm t (q.mem_iff.mp ht), fun t ht => by
    obtain ⟨a, b, c⟩ := r.lo.en t (q.mem_iff.mp ht)
    exact ⟨p.mem_iff.mpr a, p.mem_iff.mpr b, c⟩⟩, by rw [q.length_eq]; exact r.lt⟩
theorem Rt.due {zs : List Str} {ts : List (Str × Str × Str)} (r : Rt zs ts) : dueW (zs.map PyData.str) (ts.map rD) = none := by
  unfold dueW
  rw [dueD_ok (seen := []) (fun z hz => nm_b (r.mz z hz)) r.nd (by rw [List.nil_append]; exact r.lz), strD_map]
  dsimp only
  have := dueR_lines (r := []) r.mz (kt := ts) (acc := []) (by rw [List.nil_append]; exact r.lo.nd) (by rw [List.nil_append, List.length_map]; exact r.lt) (fun t ht => r.lo.nm t ht) (fun t ht => r.lo.en t ht)
  rw [List.append_nil] at this
  rw [this]
  rfl
/-- Web(houses, lines) of right lists -/
theorem made_ok {G : Hp} {C x dx l5 l6 : Addr} {zs : List Str} {ts : List (Str × Str × Str)} {Q : Hp → Prop} {E : XK} (r : Rt zs ts) (nx : G x = none) (nd : G dx = none) (e5 : G l5 = some (.lst (zs.map V.str))) (w6 : WL G l6 (ts.map tr)) (q : ∀ H', WebAt H' C x zs ts → Same G H' → Q H') :
    spWInitE K D C [.ref x, .ref l5, .ref l6] (upd (upd G dx (.own x)) x (.ins C dx [])) (fun v H2 => v = .non ∧ Q H2) E := by
  obtain ⟨us, e6, wus⟩ := w6
  have lus : us.length = ts.length := by rw [wus.len, List.length_map]
  have m1 := made_same (o1 := .own x) (o2 := .ins C dx []) nx nd
  have m2 := made_del (o1 := .own x) (o2 := .ins C dx []) nx nd
  have lt := r.lt
  have lz := r.lz
  refine ⟨x, dx, l5, l6, zs.map V.str, us, zs.map PyData.str, ts.map rD, rfl, upd_same, .inl (m1 _ _ e5), dvStrs zs, fun d hd => ?_, by rw [List.length_map]; omega, m1 _ _ e6, (rows_tr wus fun t ht => ⟨r.lo.nm t ht, r.mz _ (r.lo.en t ht).1, r.mz _ (r.lo.en t ht).2.1⟩).same m2, by omega, fun _ H7 zs' ez _ _ _ w7 _ _ k7 => ⟨rfl, ?_⟩, fun code e he => by rw [r.due] at he; cases he⟩
  · obtain ⟨z, hz, rfl⟩ := List.mem_map.mp hd
    exact nm_sz (r.mz z hz)
  have ez := mapStr_inj ez
  subst ez
  rw [map_trD fun t ht => (r.lo.en t ht).2.2] at w7
  exact q H7 w7 (kx_same m1 nx k7)
theorem makeX {C : Addr} {sp : Sp} {dvs : List V} {E : XK} {t : TA} {σ : L2.St} {H : Hp} {Q : VK} (h : t σ H fun vs H1 => ∀ x dx, H1 x = none → H1 dx = none → dx ≠ x → sp (.ref x :: (vs ++ dvs)) (upd (upd H1 dx (.own x)) x (.ins C dx [])) (fun v H2 => v = .non ∧ Q (.ref x) H2) E) : tMake C sp dvs E t σ H Q := h
theorem LinesOk.sub {zs : List Str} {ts us : List (Str × Str × Str)} (h : LinesOk zs ts) (s : us.Sublist ts) : LinesOk zs us :=
  ⟨h.nd.sublist (s.map _), fun t m => h.nm t (s.subset m), fun t m => h.en t (s.subset m)⟩
theorem cut_from (xs : List V) (k : Nat) : cutV xs (some (k : Int)) none = xs.drop k := by
  unfold cutV
  rw [HT.sIx_none, HT.sIx_nat]
  rcases Nat.le_total k xs.length with h | h
  · rw [Nat.min_eq_left h, List.take_of_length_le (by rw [List.length_drop]; omega)]
  · rw [Nat.min_eq_right h, List.drop_length, List.drop_of_length_le h, List.take_nil]
local macro_rules | `(tactic| walk_at "rd") => `(tactic| first
  | with_reducible apply Kj.makeX
  | with_reducible apply Kj.propX)
def spLaw (K : PySem.W.Frag) : Sp := fun vs H Q _ => ∃ (a : Addr) (ns : List Int), vs = [.ref a] ∧ SqL K H a (ns.map V.int) ∧ ns.length ≤ 63 ∧ ∀ H', Q (.bl true) H'
theorem ok_law {f0 : Addr} {fd0 : FuncData} (F : Fun K "law" "law" s_law f0 fd0) (m_len : mg "len" = none) (m_list : mg "list" = none) (m_range : mg "range" = none) (KW_Web : ClsF K mg D "Web" ["_houses", "_ends", "_lines"])  (C__law_store : Cal P w K mg base 1 "_law_store" P__law_store (spStore K)) (C__law_take : Cal P w K mg base 1 "_law_take" P__law_take spTake) (C__law_web : Cal P w K mg base 6 "_law_web" P__law_web spWeb) (C__law_web_right : Cal P w K mg base 13 "_law_web_right" P__law_web_right (spWebRight K (D "Web"))) (C_Web_init : CalR P w K mg base 7 (Mk K (D "Web")) P_Web_init (spWInitE K D (D "Web"))) : FnOk P w K mg base CX0 14 f0 fd0 ["script"] (spLaw K) := by
  refine F.ok sc_law (fun vs H Q E h => ?_) (fun cdv A outer s H vs Q E hr h => ?_)
  · obtain ⟨a, ns, rfl, _⟩ := h
    rfl
  obtain ⟨a, ns, rfl, hS', hlen, q⟩ := h
  refine ⟨_, (pss_cons (ps_set (i := 1) sc_law.nd rfl (Or.inl rfl) (pe_cal C__law_store hr (pa_cons (pv 0 (hd := nd_script) (hcd := nc_script)) pa_nil) (hdb := nd__law_store)))
  (pss_cons (ps_set (i := 2) sc_law.nd rfl (Or.inl rfl) (pe_cal C__law_web hr (pa_cons (pv 1 (hd := nd_store) (hcd := nc_store)) (pa_cons pe_int pa_nil)) (hdb := nd__law_web)))
  (pss_cons (ps_set (i := 3) sc_law.nd rfl (Or.inl rfl) (pe_cal C__law_take hr (pa_cons (pv 1 (hd := nd_store) (hcd := nc_store)) (pa_cons (pe_callB q_len (by rfl) m_len PySem.boot_len (pa_cons (pe_ix ix_list (pv 2 (hd := nd_first) (hcd := nc_first)) pe_int (fun _ _ => rfl)) pa_nil) (hn := nn_len) (hdb := nd_len)) pa_nil)) (hdb := nd__law_take)))
  (pss_cons (ps_set (i := 4) sc_law.nd rfl (Or.inl rfl) (pe_op op_cat (pe_slice sl_list (pe_ix ix_list (pv 2 (hd := nd_first) (hcd := nc_first)) pe_int (fun _ _ => rfl)) po_none (po_some (pv 3 (hd := nd_at) (hcd := nc_at)))) (pe_slice sl_list (pe_ix ix_list (pv 2 (hd := nd_first) (hcd := nc_first)) pe_int (fun _ _ => rfl)) (po_some (pe_op op_add (pv 3 (hd := nd_at) (hcd := nc_at)) pe_int)) po_none)))
  (pss_cons (ps_set (i := 5) sc_law.nd rfl (Or.inl rfl) (pe_makeR C_Web_init KW_Web.mg hr (pa_cons (pe_callTy q_list (by rfl) m_list bb_list (pa_cons (pe_ix ix_list (pv 2 (hd := nd_first) (hcd := nc_first)) pe_int (fun _ _ => rfl)) pa_nil) (hn := nn_list) (hdb := nd_list)) (pa_cons (pe_callTy q_list (by rfl) m_list bb_list (pa_cons (pe_ix ix_list (pv 2 (hd := nd_first) (hcd := nc_first)) pe_int (fun _ _ => rfl)) pa_nil) (hn := nn_list) (hdb := nd_list)) pa_nil))))
  (pss_cons (ps_set (i := 6) sc_law.nd rfl (Or.inl rfl) (pe_makeR C_Web_init KW_Web.mg hr (pa_cons (pe_callTy q_list (by rfl) m_list bb_list (pa_cons (pe_ix ix_list (pv 2 (hd := nd_first) (hcd := nc_first)) pe_int (fun _ _ => rfl)) pa_nil) (hn := nn_list) (hdb := nd_list)) (pa_cons (pe_callTy q_list (by rfl) m_list bb_list (pa_cons (pv 4 (hd := nd_less) (hcd := nc_less)) pa_nil) (hn := nn_list) (hdb := nd_list)) pa_nil))))
  (pss_cons (ps_for PassesOwn.never rfl (pi_range1 (by rfl) m_range (pa_cons pe_int pa_nil)) (pg_name (i := 7) sc_law.nd rfl (Or.inl rfl)) (pss_cons (ps_if (pt_not (pt_val (pe_cal C__law_web_right hr (pa_cons (pv 1 (hd := nd_store) (hcd := nc_store)) (pa_cons (pv 5 (hd := nd_one) (hcd := nc_one)) (pa_cons (pe_ix ix_list (pv 2 (hd := nd_first) (hcd := nc_first)) pe_int (fun _ _ => rfl)) (pa_cons (pe_ix ix_list (pv 2 (hd := nd_first) (hcd := nc_first)) pe_int (fun _ _ => rfl)) pa_nil)))) (hdb := nd__law_web_right)))) (pss_one (ps_ret pe_bl)) pss_nil)
  (pss_one (ps_if (pt_not (pt_val (pe_cal C__law_web_right hr (pa_cons (pv 1 (hd := nd_store) (hcd := nc_store)) (pa_cons (pv 6 (hd := nd_two) (hcd := nc_two)) (pa_cons (pe_ix ix_list (pv 2 (hd := nd_first) (hcd := nc_first)) pe_int (fun _ _ => rfl)) (pa_cons (pv 4 (hd := nd_less) (hcd := nc_less)) pa_nil)))) (hdb := nd__law_web_right)))) (pss_one (ps_ret pe_bl)) pss_nil))))
  (pss_one (ps_ret pe_bl))))))))), ?_⟩
  refine Rd.at0 (σ := [some (.ref a), none, none, none, none, none, none, none]) rfl ?_
  repeat' (walk_at "rd")
  refine ⟨a, ns, rfl, hS', by omega, fun st c H1 s1 f1 o1 => ?_⟩
  repeat' (walk_at "rd")
  refine ⟨st, c, 32, rfl, o1, by decide, by decide, fun Lf h l zs ts H2 lz ndz nz lt lo nLf nh nl g2 eLf eh wl => ?_⟩
  have o2 := g2.ok
  have hst := (o1.off nh).1
  have lst := (o1.off nl).1
  have fst := (o1.off nLf).1
  have r0 : Rt zs ts := ⟨ndz, nz, by omega, lo, lt⟩
  obtain ⟨ls, el, hls⟩ := wl
  have lls : ls.length = ts.length := by rw [hls.len, List.length_map]
  repeat' (walk_at "rd")
  refine ⟨st, c, _, rfl, o2, by omega, fun at' H3 a0 a1 g3 => ?_⟩
  have o3 := g3.ok
  have eLf3 := g3.keep _ _ fst eLf
  have eh3 := g3.keep _ _ hst eh
  have el3 := g3.keep _ _ lst el
  have hls3 := wvs_go hls o2 g3
  obtain ⟨k, rfl⟩ : ∃ k : Nat, at' = k := ⟨at'.toNat, by omega⟩
  clear eLf eh el hls g3 o2 g2 a1
  repeat' (walk_at "rd")
  rename_i l1 n1 G1 s1 e1 l2 n2 G2 s2 e2
  rw [cut_to] at e1
  rw [show (k : Int) + 1 = ((k + 1 : Nat) : Int) by omega, cut_from] at e2
  refine Rd.cat (s2 _ _ e1) e2 (sz5 (by rw [List.length_take, List.length_drop]; omega)) ?_
  repeat' (walk_at "rd")
  rename_i Ll n4 G4 s4 e4 l5 n5 G5 s5 e5 l6 n6 G6 s6 e6
  have s34 : Same H3 G4 := (s1.trans s2).trans s4
  have s36 : Same H3 G6 := (s34.trans s5).trans s6
  have Llst : Ll ≠ st := ((o3.same (s1.trans s2)).off n4).1
  intro x1 dx1 nx1 nd1 ne1
  refine made_ok r0 nx1 nd1 (s6 _ _ e5) ⟨ls, e6, hls3.same s36⟩ fun H7 w1 s67 => ?_
  have s37 := s36.trans s67
  have sub : (ts.take k ++ ts.drop (k + 1)).Sublist ts := by
    rw [← List.eraseIdx_eq_take_drop_succ]
    exact List.eraseIdx_sublist ..
  have hle : ∀ {G : Hp}, Same H3 G → WVs G (ls.take k ++ ls.drop (k + 1)) ((ts.take k ++ ts.drop (k + 1)).map tr) := fun {G} s => by
    rw [List.map_append, List.map_take, List.map_drop]
    exact ((hls3.same s).cut k).1.app ((hls3.same s).cut (k + 1)).2
  have r2 : Rt zs (ts.take k ++ ts.drop (k + 1)) := ⟨ndz, nz, by omega, lo.sub sub, Nat.le_trans sub.length_le lt⟩
  have eLf7 := s37 _ _ eLf3
  have eh7 := s37 _ _ eh3
  have el7 := s37 _ _ el3
  have eLl7 := (s5.trans (s6.trans s67)) _ _ e4
  repeat' (walk_at "rd")
  rename_i l8 n8 G8 s8 e8 l9 n9 G9 s9 e9
  have s79 := s8.trans s9
  intro x2 dx2 nx2 nd2 ne2
  refine made_ok r2 nx2 nd2 (s9 _ _ e8) ⟨_, e9, hle (s37.trans s79)⟩ fun H10 w2 s910 => ?_
  have s710 := s79.trans s910
  have s310 := s37.trans s710
  have b1 : WB (D "Web") st c x1 h l zs ts H10 := ⟨o3.same s310, w1.same s710, s310 _ _ eh3, ⟨ls, s310 _ _ el3, hls3.same s310⟩⟩
  have b2 : WB (D "Web") st c x2 h Ll zs (ts.take k ++ ts.drop (k + 1)) H10 := ⟨o3.same s310, w2, s310 _ _ eh3, ⟨_, s710 _ _ eLl7, hle s310⟩⟩
  have eLf10 := s310 _ _ eLf3
  have lt2 := r2.lt
  have lo2 := r2.lo
  generalize ts.take k ++ ts.drop (k + 1) = t2 at *
  clear hle eLf7 eh7 el7 eLl7 e1 e2 e4 e5 e6 e8 e9 hls3 el3 eh3 eLf3
  have o10 := o3.same s310
  clear o3
  repeat' (walk_at "rd")
  refine forR (fun i σ H' => ∃ v7 : Option V, σ = [some (.ref a), some (.ref st), some (.ref Lf), some (.int k), some (.ref Ll), some (.ref x1), some (.ref x2), v7] ∧ Go st c H10 H') ⟨_, rfl, Go.refl o10⟩ ?_ ?_
  · rintro i σ H' hi ⟨v7, rfl, gg⟩
    have c1 := b1.go hst lst gg
    have c2 := b2.go hst Llst gg
    have eLf' := gg.keep _ _ fst eLf10
    repeat' (walk_at "rd")
    refine ⟨st, c, x1, h, l, zs, ts, rfl, hst, lst, c1, lo, by omega, lt, ndz, nz, fun H11 g11 => ?_⟩
    have eLf11 := g11.keep _ _ fst eLf'
    have c2' := c2.go hst Llst g11
    repeat' (walk_at "rd")
    refine ⟨st, c, x2, h, Ll, zs, t2, rfl, hst, Llst, c2', lo2, by omega, lt2, ndz, nz, fun H12 g12 => ?_⟩
    repeat' (walk_at "rd")
    exact ⟨_, rfl, gg.trans (g11.trans g12)⟩
  rintro σ H5 ⟨v7, rfl, gg⟩
  repeat' (walk_at "rd")
  exact q H5
end
end Kj
namespace Kj
open PySem PySem.Spec PyProof.Rows L2 Rd
theorem run (w : World) : HandSHeadRun.RunEq Rw (PySem.W.view Rw.prog [69]) (Hk.hook 5 ask) ob 20000 loose w := Hk.run_of (run1 w) (run2 w) (run3 w) (run4 w) (run5 w) (run6 w)
theorem all_mk {P : Program} {w : World} {K : PySem.W.Frag} {h : Heap} {mg : Str → Option Value} {fa : Addr} (X : K.In h) (c : ask.Says K) (G : h.Ns mainGlobals mg) (hfa : mg "law" = some (.ref fa)) :
    ∃ fd : FuncData, (∀ (s : Shared) (v : Value), BindsTo s fd ⟨[v], []⟩ [("script", v)]) ∧ ∀ base : Heap, K.In base → base.Ns mainGlobals mg → FnOk P w K mg base CX0 14 fa fd ["script"] (spLaw K) := by
  have e := hfa.symm.trans (He.glo_ok X G (c.fact (List.mem_of_getElem? (i := 37) rfl)))
  cases e
  obtain ⟨fd, FD⟩ := (c.df (List.mem_of_getElem? (i := 37) (a := dd_law) rfl))
  have FL : Fun K "law" "law" s_law (He.ga K "law") fd := Hk.toFun FD
  have bl := FD.bindsA (ps := ["script"]) bd_law
  refine ⟨fd, fun s v => bl s [v] rfl, fun base _ _ => ?_⟩
  have D__wall : Def K mg "_wall" s__wall P__wall := Hk.toDef (c.df (List.mem_of_getElem? (i := 0) (a := dd__wall) rfl)) (He.glo_ok X G (c.fact (List.mem_of_getElem? (i := 0) rfl))) bd__wall
  have D_is_name : Def K mg "is_name" s_is_name P_is_name := Hk.toDef (c.df (List.mem_of_getElem? (i := 1) (a := dd_is_name) rfl)) (He.glo_ok X G (c.fact (List.mem_of_getElem? (i := 1) rfl))) bd_is_name
  have D_check_name : Def K mg "check_name" s_check_name P_check_name := Hk.toDef (c.df (List.mem_of_getElem? (i := 2) (a := dd_check_name) rfl)) (He.glo_ok X G (c.fact (List.mem_of_getElem? (i := 2) rfl))) bd_check_name
  have D_check_houses : Def K mg "check_houses" s_check_houses P_check_houses := Hk.toDef (c.df (List.mem_of_getElem? (i := 3) (a := dd_check_houses) rfl)) (He.glo_ok X G (c.fact (List.mem_of_getElem? (i := 3) rfl))) bd_check_houses
  have D_ordered : Def K mg "ordered" s_ordered P_ordered := Hk.toDef (c.df (List.mem_of_getElem? (i := 4) (a := dd_ordered) rfl)) (He.glo_ok X G (c.fact (List.mem_of_getElem? (i := 4) rfl))) bd_ordered
  have D_check_names : Def K mg "check_names" s_check_names P_check_names := Hk.toDef (c.df (List.mem_of_getElem? (i := 5) (a := dd_check_names) rfl)) (He.glo_ok X G (c.fact (List.mem_of_getElem? (i := 5) rfl))) bd_check_names
  have D_check_stand : Def K mg "check_stand" s_check_stand P_check_stand := Hk.toDef (c.df (List.mem_of_getElem? (i := 6) (a := dd_check_stand) rfl)) (He.glo_ok X G (c.fact (List.mem_of_getElem? (i := 6) rfl))) bd_check_stand
  have D_check_line : Def K mg "check_line" s_check_line P_check_line := Hk.toDef (c.df (List.mem_of_getElem? (i := 7) (a := dd_check_line) rfl)) (He.glo_ok X G (c.fact (List.mem_of_getElem? (i := 7) rfl))) bd_check_line
  have D_check_new_line : Def K mg "check_new_line" s_check_new_line P_check_new_line := Hk.toDef (c.df (List.mem_of_getElem? (i := 8) (a := dd_check_new_line) rfl)) (He.glo_ok X G (c.fact (List.mem_of_getElem? (i := 8) rfl))) bd_check_new_line
  have D_check_line_stands : Def K mg "check_line_stands" s_check_line_stands P_check_line_stands := Hk.toDef (c.df (List.mem_of_getElem? (i := 9) (a := dd_check_line_stands) rfl)) (He.glo_ok X G (c.fact (List.mem_of_getElem? (i := 9) rfl))) bd_check_line_stands
  have D_shortest_way : DefK K mg "shortest_way" s_shortest_way P_shortest_way [("without", .non)] := by obtain ⟨fd, F⟩ := (c.df (List.mem_of_getElem? (i := 10) (a := dd_shortest_way) rfl)); exact ⟨_, fd, F, He.glo_ok X G (c.fact (List.mem_of_getElem? (i := 10) rfl)), kwB1 F rfl bd0_shortest_way bd1_shortest_way⟩
  have D_check_asked : Def K mg "check_asked" s_check_asked P_check_asked := Hk.toDef (c.df (List.mem_of_getElem? (i := 11) (a := dd_check_asked) rfl)) (He.glo_ok X G (c.fact (List.mem_of_getElem? (i := 11) rfl))) bd_check_asked
  have D_steps_of : Def K mg "steps_of" s_steps_of P_steps_of := Hk.toDef (c.df (List.mem_of_getElem? (i := 12) (a := dd_steps_of) rfl)) (He.glo_ok X G (c.fact (List.mem_of_getElem? (i := 12) rfl))) bd_steps_of
  have D_counts_from : Def K mg "counts_from" s_counts_from P_counts_from := Hk.toDef (c.df (List.mem_of_getElem? (i := 13) (a := dd_counts_from) rfl)) (He.glo_ok X G (c.fact (List.mem_of_getElem? (i := 13) rfl))) bd_counts_from
  have D__law_store : Def K mg "_law_store" s__law_store P__law_store := Hk.toDef (c.df (List.mem_of_getElem? (i := 14) (a := dd__law_store) rfl)) (He.glo_ok X G (c.fact (List.mem_of_getElem? (i := 14) rfl))) bd__law_store
  have D__law_take : Def K mg "_law_take" s__law_take P__law_take := Hk.toDef (c.df (List.mem_of_getElem? (i := 15) (a := dd__law_take) rfl)) (He.glo_ok X G (c.fact (List.mem_of_getElem? (i := 15) rfl))) bd__law_take
  have D__law_between : Def K mg "_law_between" s__law_between P__law_between := Hk.toDef (c.df (List.mem_of_getElem? (i := 16) (a := dd__law_between) rfl)) (He.glo_ok X G (c.fact (List.mem_of_getElem? (i := 16) rfl))) bd__law_between
  have D__law_pick : Def K mg "_law_pick" s__law_pick P__law_pick := Hk.toDef (c.df (List.mem_of_getElem? (i := 17) (a := dd__law_pick) rfl)) (He.glo_ok X G (c.fact (List.mem_of_getElem? (i := 17) rfl))) bd__law_pick
  have D__law_shuffled : Def K mg "_law_shuffled" s__law_shuffled P__law_shuffled := Hk.toDef (c.df (List.mem_of_getElem? (i := 18) (a := dd__law_shuffled) rfl)) (He.glo_ok X G (c.fact (List.mem_of_getElem? (i := 18) rfl))) bd__law_shuffled
  have D__law_is_integer : Def K mg "_law_is_integer" s__law_is_integer P__law_is_integer := Hk.toDef (c.df (List.mem_of_getElem? (i := 19) (a := dd__law_is_integer) rfl)) (He.glo_ok X G (c.fact (List.mem_of_getElem? (i := 19) rfl))) bd__law_is_integer
  have D__law_same : Def K mg "_law_same" s__law_same P__law_same := Hk.toDef (c.df (List.mem_of_getElem? (i := 20) (a := dd__law_same) rfl)) (He.glo_ok X G (c.fact (List.mem_of_getElem? (i := 20) rfl))) bd__law_same
  have D__law_is_name : Def K mg "_law_is_name" s__law_is_name P__law_is_name := Hk.toDef (c.df (List.mem_of_getElem? (i := 21) (a := dd__law_is_name) rfl)) (He.glo_ok X G (c.fact (List.mem_of_getElem? (i := 21) rfl))) bd__law_is_name
  have D__law_names : Def K mg "_law_names" s__law_names P__law_names := Hk.toDef (c.df (List.mem_of_getElem? (i := 22) (a := dd__law_names) rfl)) (He.glo_ok X G (c.fact (List.mem_of_getElem? (i := 22) rfl))) bd__law_names
  have D__law_houses : Def K mg "_law_houses" s__law_houses P__law_houses := Hk.toDef (c.df (List.mem_of_getElem? (i := 23) (a := dd__law_houses) rfl)) (He.glo_ok X G (c.fact (List.mem_of_getElem? (i := 23) rfl))) bd__law_houses
  have D__law_pair : Def K mg "_law_pair" s__law_pair P__law_pair := Hk.toDef (c.df (List.mem_of_getElem? (i := 24) (a := dd__law_pair) rfl)) (He.glo_ok X G (c.fact (List.mem_of_getElem? (i := 24) rfl))) bd__law_pair
  have D__law_line_names : Def K mg "_law_line_names" s__law_line_names P__law_line_names := Hk.toDef (c.df (List.mem_of_getElem? (i := 25) (a := dd__law_line_names) rfl)) (He.glo_ok X G (c.fact (List.mem_of_getElem? (i := 25) rfl))) bd__law_line_names
  have D__law_lines : Def K mg "_law_lines" s__law_lines P__law_lines := Hk.toDef (c.df (List.mem_of_getElem? (i := 26) (a := dd__law_lines) rfl)) (He.glo_ok X G (c.fact (List.mem_of_getElem? (i := 26) rfl))) bd__law_lines
  have D__law_web : Def K mg "_law_web" s__law_web P__law_web := Hk.toDef (c.df (List.mem_of_getElem? (i := 27) (a := dd__law_web) rfl)) (He.glo_ok X G (c.fact (List.mem_of_getElem? (i := 27) rfl))) bd__law_web
  have D__law_two : Def K mg "_law_two" s__law_two P__law_two := Hk.toDef (c.df (List.mem_of_getElem? (i := 28) (a := dd__law_two) rfl)) (He.glo_ok X G (c.fact (List.mem_of_getElem? (i := 28) rfl))) bd__law_two
  have D__law_steps_from : Def K mg "_law_steps_from" s__law_steps_from P__law_steps_from := Hk.toDef (c.df (List.mem_of_getElem? (i := 29) (a := dd__law_steps_from) rfl)) (He.glo_ok X G (c.fact (List.mem_of_getElem? (i := 29) rfl))) bd__law_steps_from
  have D__law_least_way : Def K mg "_law_least_way" s__law_least_way P__law_least_way := Hk.toDef (c.df (List.mem_of_getElem? (i := 30) (a := dd__law_least_way) rfl)) (He.glo_ok X G (c.fact (List.mem_of_getElem? (i := 30) rfl))) bd__law_least_way
  have D__law_refusal : Def K mg "_law_refusal" s__law_refusal P__law_refusal := Hk.toDef (c.df (List.mem_of_getElem? (i := 31) (a := dd__law_refusal) rfl)) (He.glo_ok X G (c.fact (List.mem_of_getElem? (i := 31) rfl))) bd__law_refusal
  have D__law_due_search : Def K mg "_law_due_search" s__law_due_search P__law_due_search := Hk.toDef (c.df (List.mem_of_getElem? (i := 32) (a := dd__law_due_search) rfl)) (He.glo_ok X G (c.fact (List.mem_of_getElem? (i := 32) rfl))) bd__law_due_search
  have D__law_argument : Def K mg "_law_argument" s__law_argument P__law_argument := Hk.toDef (c.df (List.mem_of_getElem? (i := 33) (a := dd__law_argument) rfl)) (He.glo_ok X G (c.fact (List.mem_of_getElem? (i := 33) rfl))) bd__law_argument
  have D__law_asked : Def K mg "_law_asked" s__law_asked P__law_asked := Hk.toDef (c.df (List.mem_of_getElem? (i := 34) (a := dd__law_asked) rfl)) (He.glo_ok X G (c.fact (List.mem_of_getElem? (i := 34) rfl))) bd__law_asked
  have D__law_way_right : Def K mg "_law_way_right" s__law_way_right P__law_way_right := Hk.toDef (c.df (List.mem_of_getElem? (i := 35) (a := dd__law_way_right) rfl)) (He.glo_ok X G (c.fact (List.mem_of_getElem? (i := 35) rfl))) bd__law_way_right
  have D__law_web_right : Def K mg "_law_web_right" s__law_web_right P__law_web_right := Hk.toDef (c.df (List.mem_of_getElem? (i := 36) (a := dd__law_web_right) rfl)) (He.glo_ok X G (c.fact (List.mem_of_getElem? (i := 36) rfl))) bd__law_web_right
  have m_isinstance : mg "isinstance" = none := He.free_ok X G (c.fact (List.mem_of_getElem? (i := 60) rfl))
  have m_str : mg "str" = none := He.free_ok X G (c.fact (List.mem_of_getElem? (i := 61) rfl))
  have m_len : mg "len" = none := He.free_ok X G (c.fact (List.mem_of_getElem? (i := 62) rfl))
  have m_all : mg "all" = none := He.free_ok X G (c.fact (List.mem_of_getElem? (i := 63) rfl))
  have m_sorted : mg "sorted" = none := He.free_ok X G (c.fact (List.mem_of_getElem? (i := 64) rfl))
  have m_list : mg "list" = none := He.free_ok X G (c.fact (List.mem_of_getElem? (i := 65) rfl))
  have m_int : mg "int" = none := He.free_ok X G (c.fact (List.mem_of_getElem? (i := 66) rfl))
  have m_reversed : mg "reversed" = none := He.free_ok X G (c.fact (List.mem_of_getElem? (i := 67) rfl))
  have m_range : mg "range" = none := He.free_ok X G (c.fact (List.mem_of_getElem? (i := 68) rfl))
  have m_bool : mg "bool" = none := He.free_ok X G (c.fact (List.mem_of_getElem? (i := 69) rfl))
  have m_dict : mg "dict" = none := He.free_ok X G (c.fact (List.mem_of_getElem? (i := 70) rfl))
  have m_tuple : mg "tuple" = none := He.free_ok X G (c.fact (List.mem_of_getElem? (i := 71) rfl))
  have m_min : mg "min" = none := He.free_ok X G (c.fact (List.mem_of_getElem? (i := 72) rfl))
  have m_max : mg "max" = none := He.free_ok X G (c.fact (List.mem_of_getElem? (i := 73) rfl))
  have m_ValueError : mg "ValueError" = none := He.free_ok X G (c.fact (List.mem_of_getElem? (i := 74) rfl))
  have m_property : mg "property" = none := He.free_ok X G (c.fact (List.mem_of_getElem? (i := 75) rfl))
  have c_LONGEST_NAME : ∃ t, mg "LONGEST_NAME" = some (.int 12 t) := He.int_ok X G (c.fact (List.mem_of_getElem? (i := 76) rfl))
  have c_MOST_HOUSES : ∃ t, mg "MOST_HOUSES" = some (.int 32 t) := He.int_ok X G (c.fact (List.mem_of_getElem? (i := 77) rfl))
  have c_MOST_LINES : ∃ t, mg "MOST_LINES" = some (.int 96 t) := He.int_ok X G (c.fact (List.mem_of_getElem? (i := 78) rfl))
  have c_cls : ∀ x ∈ Classes, mg x = some (.ref (He.ga K x)) := (Hk.all_cons (He.glo_ok X G (c.fact (List.mem_of_getElem? (i := 38) rfl))) (Hk.all_cons (He.glo_ok X G (c.fact (List.mem_of_getElem? (i := 54) rfl))) (Hk.all_cons (He.glo_ok X G (c.fact (List.mem_of_getElem? (i := 55) rfl))) (Hk.all_cons (He.glo_ok X G (c.fact (List.mem_of_getElem? (i := 56) rfl))) (Hk.all_cons (He.glo_ok X G (c.fact (List.mem_of_getElem? (i := 57) rfl))) (Hk.all_cons (He.glo_ok X G (c.fact (List.mem_of_getElem? (i := 58) rfl))) (Hk.all_cons (He.glo_ok X G (c.fact (List.mem_of_getElem? (i := 39) rfl))) (Hk.all_cons (He.glo_ok X G (c.fact (List.mem_of_getElem? (i := 40) rfl))) (Hk.all_cons (He.glo_ok X G (c.fact (List.mem_of_getElem? (i := 41) rfl))) (Hk.all_cons (He.glo_ok X G (c.fact (List.mem_of_getElem? (i := 42) rfl))) (Hk.all_cons (He.glo_ok X G (c.fact (List.mem_of_getElem? (i := 43) rfl))) (Hk.all_cons (He.glo_ok X G (c.fact (List.mem_of_getElem? (i := 44) rfl))) (Hk.all_cons (He.glo_ok X G (c.fact (List.mem_of_getElem? (i := 45) rfl))) (Hk.all_cons (He.glo_ok X G (c.fact (List.mem_of_getElem? (i := 59) rfl))) (Hk.all_cons (He.glo_ok X G (c.fact (List.mem_of_getElem? (i := 46) rfl))) (Hk.all_cons (He.glo_ok X G (c.fact (List.mem_of_getElem? (i := 47) rfl))) (Hk.all_cons (He.glo_ok X G (c.fact (List.mem_of_getElem? (i := 48) rfl))) (Hk.all_cons (He.glo_ok X G (c.fact (List.mem_of_getElem? (i := 49) rfl))) (Hk.all_cons (He.glo_ok X G (c.fact (List.mem_of_getElem? (i := 50) rfl))) (Hk.all_cons (He.glo_ok X G (c.fact (List.mem_of_getElem? (i := 51) rfl))) (Hk.all_cons (He.glo_ok X G (c.fact (List.mem_of_getElem? (i := 52) rfl))) (Hk.all_cons (He.glo_ok X G (c.fact (List.mem_of_getElem? (i := 53) rfl))) Hk.all_nil))))))))))))))))))))))
  have r_BadName : Hk.ErrK K "BadName" "word" := c.err (List.mem_of_getElem? (i := 0) rfl)
  have T_BadName : Ho.ErrC P w K mg base "BadName" (He.ga K "BadName") "word" := Hk.errC (ps := ["self", "word"]) r_BadName (He.glo_ok X G (c.fact (List.mem_of_getElem? (i := 54) rfl))) (by obtain ⟨fd, F⟩ := (c.df (List.mem_of_getElem? (i := 42) (a := dd_i_BadName) rfl)); exact ⟨fd, ok_init_BadName (Hk.toFun F), (Hk.toFun F).binds bdi_BadName⟩)
  have r_NoHouse : Hk.ErrK K "NoHouse" "word" := c.err (List.mem_of_getElem? (i := 1) rfl)
  have T_NoHouse : Ho.ErrC P w K mg base "NoHouse" (He.ga K "NoHouse") "word" := Hk.errC (ps := ["self", "word"]) r_NoHouse (He.glo_ok X G (c.fact (List.mem_of_getElem? (i := 55) rfl))) (by obtain ⟨fd, F⟩ := (c.df (List.mem_of_getElem? (i := 43) (a := dd_i_NoHouse) rfl)); exact ⟨fd, ok_init_NoHouse (Hk.toFun F), (Hk.toFun F).binds bdi_NoHouse⟩)
  have r_NoLine : Hk.ErrK K "NoLine" "word" := c.err (List.mem_of_getElem? (i := 2) rfl)
  have T_NoLine : Ho.ErrC P w K mg base "NoLine" (He.ga K "NoLine") "word" := Hk.errC (ps := ["self", "word"]) r_NoLine (He.glo_ok X G (c.fact (List.mem_of_getElem? (i := 56) rfl))) (by obtain ⟨fd, F⟩ := (c.df (List.mem_of_getElem? (i := 44) (a := dd_i_NoLine) rfl)); exact ⟨fd, ok_init_NoLine (Hk.toFun F), (Hk.toFun F).binds bdi_NoLine⟩)
  have r_SelfLine : Hk.ErrK K "SelfLine" "word" := c.err (List.mem_of_getElem? (i := 3) rfl)
  have T_SelfLine : Ho.ErrC P w K mg base "SelfLine" (He.ga K "SelfLine") "word" := Hk.errC (ps := ["self", "word"]) r_SelfLine (He.glo_ok X G (c.fact (List.mem_of_getElem? (i := 57) rfl))) (by obtain ⟨fd, F⟩ := (c.df (List.mem_of_getElem? (i := 45) (a := dd_i_SelfLine) rfl)); exact ⟨fd, ok_init_SelfLine (Hk.toFun F), (Hk.toFun F).binds bdi_SelfLine⟩)
  have r_Taken : Hk.ErrK K "Taken" "word" := c.err (List.mem_of_getElem? (i := 4) rfl)
  have T_Taken : Ho.ErrC P w K mg base "Taken" (He.ga K "Taken") "word" := Hk.errC (ps := ["self", "word"]) r_Taken (He.glo_ok X G (c.fact (List.mem_of_getElem? (i := 58) rfl))) (by obtain ⟨fd, F⟩ := (c.df (List.mem_of_getElem? (i := 46) (a := dd_i_Taken) rfl)); exact ⟨fd, ok_init_Taken (Hk.toFun F), (Hk.toFun F).binds bdi_Taken⟩)
  have r_TooMany : Hk.ErrK K "TooMany" "bound" := c.err (List.mem_of_getElem? (i := 5) rfl)
  have T_TooMany : Ho.ErrC P w K mg base "TooMany" (He.ga K "TooMany") "bound" := Hk.errC (ps := ["self", "bound"]) r_TooMany (He.glo_ok X G (c.fact (List.mem_of_getElem? (i := 59) rfl))) (by obtain ⟨fd, F⟩ := (c.df (List.mem_of_getElem? (i := 47) (a := dd_i_TooMany) rfl)); exact ⟨fd, ok_init_TooMany (Hk.toFun F), (Hk.toFun F).binds bdi_TooMany⟩)
  have q_BadName : Hk.KndK K Kinds "KeptError" "BadName" := c.knd (List.mem_of_getElem? (i := 0) rfl)
  have kn_BadName : Ho.Knd K (He.ga K) Kinds (He.ga K "BadName") "BadName" "word" := Hk.knd r_BadName q_BadName c.xo
  have xm_BadName : PySem.W.exmOne K (.ref (He.ga K "BadName")) (.ref (He.ga K "KeptError")) = some true := q_BadName.xm
  have xs_BadName : PySem.W.exmOne K (.ref (He.ga K "BadName")) (.ref (He.ga K "BadName")) = some true := q_BadName.xs
  have q_NoHouse : Hk.KndK K Kinds "KeptError" "NoHouse" := c.knd (List.mem_of_getElem? (i := 1) rfl)
  have kn_NoHouse : Ho.Knd K (He.ga K) Kinds (He.ga K "NoHouse") "NoHouse" "word" := Hk.knd r_NoHouse q_NoHouse c.xo
  have xm_NoHouse : PySem.W.exmOne K (.ref (He.ga K "NoHouse")) (.ref (He.ga K "KeptError")) = some true := q_NoHouse.xm
  have xs_NoHouse : PySem.W.exmOne K (.ref (He.ga K "NoHouse")) (.ref (He.ga K "NoHouse")) = some true := q_NoHouse.xs
  have q_NoLine : Hk.KndK K Kinds "KeptError" "NoLine" := c.knd (List.mem_of_getElem? (i := 2) rfl)
  have kn_NoLine : Ho.Knd K (He.ga K) Kinds (He.ga K "NoLine") "NoLine" "word" := Hk.knd r_NoLine q_NoLine c.xo
  have xm_NoLine : PySem.W.exmOne K (.ref (He.ga K "NoLine")) (.ref (He.ga K "KeptError")) = some true := q_NoLine.xm
  have xs_NoLine : PySem.W.exmOne K (.ref (He.ga K "NoLine")) (.ref (He.ga K "NoLine")) = some true := q_NoLine.xs
  have KW_Web : ClsF K mg (He.ga K) "Web" ["_houses", "_ends", "_lines"] := ⟨He.cls_ok (c.fact (List.mem_of_getElem? (i := 80) rfl)), (Hk.all_cons (He.noat_ok (c.fact (List.mem_of_getElem? (i := 82) rfl))) (Hk.all_cons (He.noat_ok (c.fact (List.mem_of_getElem? (i := 83) rfl))) (Hk.all_cons (He.noat_ok (c.fact (List.mem_of_getElem? (i := 84) rfl))) Hk.all_nil))), He.glo_ok X G (c.fact (List.mem_of_getElem? (i := 79) rfl))⟩
  have D_Web_init : DefR K (Mk K (He.ga K "Web")) "__init__" "Web.__init__" s_Web_init P_Web_init := Hk.toDefR2 (List.cons_ne_nil _ _) (He.mkr_ok (c.fact (List.mem_of_getElem? (i := 81) rfl))) (c.df (List.mem_of_getElem? (i := 38) (a := dd_Web_init) rfl)) bd_Web_init
  have D_Web_houses : DefR K (PropR K (He.ga K "Web") "houses") "houses" "Web.houses" s_Web_houses P_Web_houses := Hk.toDefR (c.prop (List.mem_of_getElem? (i := 0) rfl)) (c.df (List.mem_of_getElem? (i := 39) (a := dd_Web_houses) rfl)) bd_Web_houses
  have D_Web_lines : DefR K (PropR K (He.ga K "Web") "lines") "lines" "Web.lines" s_Web_lines P_Web_lines := Hk.toDefR (c.prop (List.mem_of_getElem? (i := 1) rfl)) (c.df (List.mem_of_getElem? (i := 40) (a := dd_Web_lines) rfl)) bd_Web_lines
  have D_Web_contains : DefR K (InR K (He.ga K "Web")) "__contains__" "Web.__contains__" s_Web_contains P_Web_contains := Hk.toDefR (c.own (List.mem_of_getElem? (i := 0) rfl)) (c.df (List.mem_of_getElem? (i := 41) (a := dd_Web_contains) rfl)) bd_Web_contains
  have kn : ∀ p ∈ RefL, Ho.Knd K (He.ga K) Kinds (He.ga K p.1) p.1 p.2 := (Hk.all_cons kn_BadName (Hk.all_cons kn_NoHouse (Hk.all_cons kn_NoLine Hk.all_nil)))
  have xm : ∀ p ∈ RefL, PySem.W.exmOne K (.ref (He.ga K p.1)) (.ref (He.ga K "KeptError")) = some true := (Hk.all_cons xm_BadName (Hk.all_cons xm_NoHouse (Hk.all_cons xm_NoLine Hk.all_nil)))
  have C__law_take := ok__law_take (P := P) (w := w) (base := base) D__law_take m_int m_len
  have C__law_between := ok__law_between (P := P) (w := w) (base := base) D__law_between C__law_take
  have C__law_store := ok__law_store (P := P) (w := w) (base := base) D__law_store m_list m_len m_int
  have C__law_shuffled := ok__law_shuffled (P := P) (w := w) (base := base) D__law_shuffled m_list m_reversed m_range m_len C__law_take
  have C__law_pick := ok__law_pick (P := P) (w := w) (base := base) D__law_pick m_len C__law_take
  have C__law_names := ok__law_names (P := P) (w := w) (base := base) D__law_names m_range m_int C__law_take C__law_pick C__law_shuffled
  have C__law_is_integer := ok__law_is_integer (P := P) (w := w) (base := base) D__law_is_integer m_isinstance m_int m_bool
  have C__law_same := ok__law_same (P := P) (w := w) (base := base) D__law_same m_isinstance m_bool m_int m_str m_dict m_len m_list m_tuple m_range C__law_is_integer 8
  have C__law_refusal := ok__law_refusal (P := P) (w := w) (base := base) D__law_refusal m_isinstance m_str m_ValueError c_cls
  have C_is_name := ok_is_name (P := P) (w := w) (base := base) D_is_name m_isinstance m_str m_len m_all c_LONGEST_NAME
  have C__law_is_name := ok__law_is_name (P := P) (w := w) (base := base) D__law_is_name m_isinstance m_str m_len
  have C_check_name := ok_check_name (P := P) (w := w) (base := base) D_check_name T_BadName C_is_name
  have C_check_houses := ok_check_houses (P := P) (w := w) (base := base) D_check_houses m_len m_sorted m_list c_MOST_HOUSES T_Taken T_TooMany C_check_name
  have C_ordered := ok_ordered (P := P) (w := w) (base := base) D_ordered
  have C_check_names := ok_check_names (P := P) (w := w) (base := base) D_check_names C_check_name
  have C_check_stand := ok_check_stand (P := P) (w := w) (base := base) D_check_stand T_NoHouse
  have C_check_line := ok_check_line (P := P) (w := w) (base := base) D_check_line T_SelfLine C_check_names C_check_stand
  have C_check_new_line := ok_check_new_line (P := P) (w := w) (base := base) D_check_new_line m_len c_MOST_LINES T_Taken T_TooMany C_check_line
  have C_Web_init := ok_Web_init (P := P) (w := w) (base := base) D_Web_init m_sorted KW_Web C_check_houses C_ordered C_check_new_line
  have C_Web_houses := ok_Web_houses (P := P) (w := w) (base := base) D_Web_houses m_list m_property KW_Web
  have C_Web_lines := ok_Web_lines (P := P) (w := w) (base := base) D_Web_lines m_list m_property KW_Web
  have C_Web_contains := ok_Web_contains (P := P) (w := w) (base := base) D_Web_contains m_isinstance m_str KW_Web
  have C__law_line_names := ok__law_line_names (P := P) (w := w) (base := base) D__law_line_names m_list C__law_take C__law_names
  have C__law_houses := ok__law_houses (P := P) (w := w) (base := base) D__law_houses C__law_take C__law_between C__law_names
  have C__law_pair := ok__law_pair (P := P) (w := w) (base := base) D__law_pair m_len m_int m_min m_max C__law_take
  have C__law_lines := ok__law_lines (P := P) (w := w) (base := base) D__law_lines m_len m_range C__law_take C__law_between C__law_pair C__law_line_names
  have C__law_web := ok__law_web (P := P) (w := w) (base := base) D__law_web m_min C__law_take C__law_houses C__law_lines
  have C_check_asked := ok_check_asked (P := P) (w := w) (base := base) D_check_asked KW_Web T_NoLine C_check_name C_check_names C_check_stand C_Web_houses C_Web_contains
  have C_steps_of := ok_steps_of (P := P) (w := w) (base := base) D_steps_of KW_Web C_Web_lines C_Web_houses
  have C_counts_from := ok_counts_from (P := P) (w := w) (base := base) D_counts_from m_len
  have C_shortest_way := ok_shortest_way (P := P) (w := w) (base := base) D_shortest_way C_check_asked C_steps_of C_counts_from
  have C__law_due_search := ok__law_due_search (P := P) (w := w) (base := base) D__law_due_search m_list C__law_is_name
  have C__law_argument := ok__law_argument (P := P) (w := w) (base := base) D__law_argument m_len C__law_take C__law_pick
  have C__law_asked := ok__law_asked (P := P) (w := w) (base := base) D__law_asked c_cls C_shortest_way C__law_refusal kn xm
  have C__law_steps_from := ok__law_steps_from (P := P) (w := w) (base := base) D__law_steps_from m_range m_len
  have C__law_least_way := ok__law_least_way (P := P) (w := w) (base := base) D__law_least_way m_range m_sorted C__law_steps_from
  have C__law_way_right := ok__law_way_right (P := P) (w := w) (base := base) D__law_way_right m_len C__law_same C__law_least_way C__law_due_search C__law_asked
  have C__law_two := ok__law_two (P := P) (w := w) (base := base) D__law_two m_len m_int C__law_take
  have C__law_web_right := ok__law_web_right (P := P) (w := w) (base := base) D__law_web_right m_range m_min m_int m_len m_sorted KW_Web C__law_take C__law_pick C__law_same C__law_two C__law_argument C__law_way_right C_Web_houses C_Web_lines
  exact ok_law FL m_len m_list m_range KW_Web C__law_store C__law_take C__law_web C__law_web_right C_Web_init
end Kj
open PySem PySem.W PySem.Calls PyProof.Rows
set_option maxHeartbeats 0 in
theorem PySem.Challenge.cw_keptjoined_k09_shortest_way_holds : PySem.Challenge.rw_keptjoined_k09_shortest_way.Holds := by
  w_on; o_law
  refine HandSHeadRun.head_any (r := Kj.Rw) (q := view Kj.Rw.prog [69]) (H := Hk.hook 5 Kj.ask) (ob := Kj.ob) (M := 20000) (loose := Kj.loose) (d := HandSHeadRun.topDef Kj.Rw.prog 69) (kwd := []) Kj.ob_eq
    (by kernel_rfl) (fun s => by kernel_rfl) Kj.run (by kernel_rfl) (by kernel_rfl) (by kernel_rfl) (by rfl) (by first | assumption | decide +kernel) (by decide +kernel) ⟨rfl, rfl, rfl, rfl, rfl, by decide +kernel⟩ ?hw ?hc
  case hw => w_witness2
  case hc =>
    refine Hk.walk_w (l := PySem.Challenge.rw_keptjoined_k09_shortest_way) (n := 63) (k := 14) (CX := fun _ => L2.CX0) rfl (by decide) (by kernel_rfl) ⟨rfl, by decide, by decide⟩ (fun _ _ _ _ _ z => z) ?F
    intro w mg fa h K KX c G m
    have e : (HandSHeadRun.topDef Kj.Rw.prog 69).name = ("law" : PySem.Str) := by kernel_rfl
    rw [e] at m
    obtain ⟨fd, hb, ok⟩ := Kj.all_mk (P := (PySem.Challenge.rw_keptjoined_k09_shortest_way).prog) (w := w) KX c G m
    exact ⟨fd, Kj.spLaw K, hb, fun H a ns hl hS => ⟨a, ns, rfl, hS, hl, fun _ => rfl⟩, ok⟩
