import PyProof.Rows.All
import Wide.All
import OpenK.AllK
import Wide.FinOn
import HandS.ForMost
import HandS.Conv
import HandS.Rev
import HandS.RevTup
import HandS.Wide
import HandS.IsInst
import HandS.Codes
import HandS.Comp
import HandS.HotCalls
import HandS.ExcInit
import HandS.ExcInitHot
import HandS.ExcField
import HandS.SuiteRaise
import KE.KExcIs
import HandS.Style
import HandS.Small
import PyProof.DictUpdate
import HandS.WideBits
import PySem.Challenge.RW_keptjoined_k47_bounds_of_the_counts
set_option Elab.async false
set_option linter.all false
set_option maxRecDepth 100000
set_option maxHeartbeats 4000000
/-! list(reversed(xs)) of a list: a new list with the items from behind -/
namespace LRev
open PySem RT
section
variable {prog : Program} {w : World} {A : Around} {E : Value → Shared → Prop} {s : Shared} {it l S : Addr} {items : Array Value}
/-- what a filled list tells -/
abbrev Back (items : Array Value) : Nat → Value → Prop := fun i v => items[items.size - 1 - i]? = some v
abbrev After (s : Shared) (S it : Addr) (items : Array Value) (K : Heap → Nat → Array Value → Prop) : Prop :=
  ∀ (g : Heap) (tk : Nat) (out : Array Value) (cap : Nat), (∀ b o, b ≠ S → b ≠ it → s.heap.get? b = some o → g.get? b = some o) →
    g.get? S = some { cls := .type "list", dict := none, data := .seq out cap, slots := #[] } →
      ItemsOf (Back items) out items.size → K g tk out
abbrev OutOf (prog : Program) (w : World) (A : Around) (R : Result → Shared → Prop) : Fin → Shared → Prop := fun fin t =>
  match fin with
  | .done f => R (.ok f) t
  | .again k => k.quiet = true ∧ codeAny (model prog w) A k R t
theorem extend {R : Result → Shared → Prop} (hh : A.handled = none) (hit : s.heap.IsRevIter it l ((items.size : Int) - 1)) (hl : s.heap.IsList l items)
    (hne : l ≠ it) (hz : items.size ≤ sizeLine) (hSi : S ≠ it) (hSl : S ≠ l) (res : Value) (c0 : Nat)
    (hS : s.heap.get? S = some { cls := .type "list", data := .seq #[] c0 })
    (k : After s S it items fun g tk _ => R (.ok (.ret res)) { s with heap := g, toks := tk }) :
    wpAny (model prog w) A.in1 (Builtin.List.listExtendWith (.ref S) (.ref it) res) (OutOf prog w A R) (fun e t => R (.error e) t) s := by
  have W := (Walks.listRev (prog := prog) (w := w) (A := A.in1) hh it l hne items).toS
  have out : S ∉ [it, l] := by
    simp only [List.mem_cons, List.not_mem_nil, or_false, not_or]
    exact ⟨hSi, hSl⟩
  have ty : s.TypeIs (.ref it) "list_reverseiterator" := hit.typeIs
  have other : Builtin.List.listSameRef (.ref S) (.ref it) = false := by simp [Builtin.List.listSameRef, hSi]
  unfold Builtin.List.listExtendWith
  refine wpAny_bind (wpAny_typeOf ty ?_)
  rw [if_neg (by rw [other]; decide)]
  refine wpAny_bind (wpAny_pyIter_revIter hit ?_)
  refine wpAny_bind (wpAny_holding ?_)
  unfold Builtin.List.listLengthHint
  refine wpAny_bind (wpAny_specialOf ty nolen_lri ?_)
  show wpAny _ A.in1 (specialOf (Value.ref it) (Str.ofString "__length_hint__") >>= _) _ _ _
  refine wpAny_bind (wpAny_specialOf ty hint_lri ?_)
  generalize nm : ("list_reverseiterator.__length_hint__" : String) = at0
  wp_delta
  rw [show splitId at0 = some ("list_reverseiterator", "__length_hint__") from by subst nm; decide +kernel]
  subst nm
  refine wpAny_bind (wpAny_isInstance (b := true) ty (by rw [isSubtype_type]; kernel_rfl) ?_)
  refine wpAny_pure ?_
  rw [if_neg (by decide)]
  have at1 : ((items.size : Nat) : Int) - 1 - ((0 : Nat) : Int) = (items.size : Int) - 1 := by omega
  refine wpAny_pure ⟨plainId_quiet F.plain_extend_loop _, ?_⟩
  refine codeAny_extend_loopS W hz _ out _ items.size 0 _ _ _ rfl (Nat.zero_le _) ⟨Nat.zero_le _, by rw [at1]; exact hit, hl⟩ hS (ItemsOf.nil _) fun t got cap mv ht hi => ?_
  rw [Moved.eq_with mv]
  refine k t.heap t.toks got cap (fun b o n1 n2 e => mv.heap b o (fun hm => ?_) e) ht hi
  rcases List.mem_cons.mp hm with e1 | hm
  · exact n1 e1
  · exact n2 (List.mem_singleton.mp hm)
theorem init {R : Result → Shared → Prop} (hh : A.handled = none) (hit : s.heap.IsRevIter it l ((items.size : Int) - 1)) (hl : s.heap.IsList l items)
    (hne : l ≠ it) (hz : items.size ≤ sizeLine) (hSi : S ≠ it) (hSl : S ≠ l) (hS : s.heap.get? S = some { cls := .type "list", data := .seq #[] })
    (k : After s S it items fun g tk _ => R (.ok (.ret .none)) { s with heap := g, toks := tk }) :
    wpAny (model prog w) A.in1 (Builtin.«list.__init__» ⟨[.ref S, .ref it], []⟩) (OutOf prog w A R) (fun e t => R (.error e) t) s := by
  show wpAny _ _ (Builtin.List.listItems (.ref S) >>= fun old => Builtin.List.listUpdate (.ref S) (fun _ => #[]) >>= fun _ => letGo old.toList.reverse >>= fun _ => Builtin.List.listExtendWith (.ref S) (.ref it) .none) _ _ s
  refine wpAny_bind ?_
  unfold Builtin.List.listItems
  refine wpAny_bind (wpAny_seqItems hS rfl (wpAny_pure ?_))
  show wpAny _ _ (updateSeq S (fun _ => #[]) >>= fun _ => (letGo (#[] : Array Value).toList.reverse >>= fun _ => Builtin.List.listExtendWith (.ref S) (.ref it) .none)) _ _ s
  refine wpAny_bind (wpAny_updateSeq hS rfl ?_)
  have hS2 := Heap.get?_update_self (Obj.mapSeq fun _ => (#[] : Array Value)) hS rfl
  have oth : ∀ b o, b ≠ S → s.heap.get? b = some o → (s.heap.update S (Obj.mapSeq fun _ => (#[] : Array Value))).get? b = some o := fun b o n e =>
    (Heap.get?_update_other _ _ (Ne.symm n)).trans e
  refine wpAny_bind (wpAny_letGo ?_)
  obtain ⟨ol, hol, cl, dl⟩ := id hl
  refine extend hh (hit.at fun o e => oth it o (Ne.symm hSi) e) ⟨ol, oth l ol (Ne.symm hSl) hol, cl, dl⟩ hne hz hSi hSl .none _ hS2 fun g tk got cap hk ht hi => ?_
  exact k g tk got cap (fun b o n1 n2 e => hk b o n1 n2 (oth b o n1 e)) ht hi
theorem callRev {Q : Value → Shared → Prop} (hh : A.handled = none) (hit : s.heap.IsRevIter it l ((items.size : Int) - 1)) (hl : s.heap.IsList l items) (hne : l ≠ it) (hz : items.size ≤ sizeLine)
    (k : ∀ (g : Heap) (tk : Nat) (out : Array Value) (cap : Nat), (∀ b o, b ≠ it → s.heap.get? b = some o → g.get? b = some o) →
      g.get? s.heap.objs.size = some { cls := .type "list", dict := none, data := .seq out cap, slots := #[] } → ItemsOf (Back items) out items.size →
        Q (.ref s.heap.objs.size) { s with heap := g, toks := tk }) :
    wpAny (model prog w) A (call (.type "list") [.ref it]) Q E s := by
  refine callType_codes (Q₁ := fun u t => u = .ref s.heap.objs.size ∧ t = { s with heap := s.heap.push { cls := .type "list", data := .seq #[] } })
    F.called_list (F.typeCall_list_1 _) F.entry_list_init (code_list_new _ ⟨rfl, rfl⟩) fun u t hu => ?_
  obtain ⟨rfl, rfl⟩ := hu
  have hS : (s.heap.push { cls := .type "list", data := .seq #[] }).get? s.heap.objs.size = some { cls := .type "list", data := .seq #[] } := Heap.get?_push_size _ rfl
  obtain ⟨oi, hoi, _⟩ := id hit
  obtain ⟨ol, hol, _⟩ := id hl
  refine ⟨⟨_, hS, rfl⟩, F.args_list_init_2 _ _, init (A := A.in1) hh (hit.at fun o e => Heap.get?_push_of_some _ e) (hl.push _) hne hz (Nat.ne_of_gt (Heap.lt_size hoi)) (Nat.ne_of_gt (Heap.lt_size hol)) hS fun g tk out cap hk hg hi => ?_⟩
  exact ⟨rfl, k g tk out cap (fun b o n e => hk b o (Nat.ne_of_lt (Heap.lt_size e)) n (Heap.get?_push_of_some _ e)) hg hi⟩
end
end LRev
namespace L2
open PySem PySem.Spec PyProof.Rows
/-- list(reversed(x)), x a list -/
def tLstRev (K : PySem.W.Frag) (te : TE) : TE := fun σ H Q => te σ H fun v h => ∃ (a : Addr) (xs : List V), v = .ref a ∧ SqL K h a xs ∧
  ∀ q, h q = none → Q (.ref q) (upd h q (.lst xs.reverse))
theorem pe_lstRev {X : Cx} {e : Expr} {te : TE} {p p2 pos pos2 : Pos} (hc : X.calm = true) (hg : Gl X "list") (hm : X.mg "list" = none) (hg2 : Gl X "reversed") (hm2 : X.mg "reversed" = none) (he : PE X e te)
    (n1 : starEach [e] X.env = (false, eval e X.env) :: starEach [] X.env := by rfl)
    (n2 : starEach [.Call (.Name "reversed" p2) [e] [] pos2] X.env = (false, eval (.Call (.Name "reversed" p2) [e] [] pos2) X.env) :: starEach [] X.env := by rfl) :
    PE X (.Call (.Name "list" p) [.Call (.Name "reversed" p2) [e] [] pos2] [] pos) (tLstRev X.K te) := by
  refine ⟨fun pins s σ H Q I h => ?_⟩
  refine Call_ (ld_blt I hg hm boot_list (PyProof.Rows.callWith_type1 (args_cons (Call_ (ld_blt I hg2 hm2 PyProof.Rows.boot_reversed (PyProof.Rows.callWith_type1
    (args_cons (thn (he.run pins s σ H _ I h) fun u s1 ⟨v, H1, I1, r1, q1⟩ => args_nil ?_) n1) n1 rfl))) n2) n2 rfl))
  obtain ⟨a, xs, rfl, hq, q⟩ := q1
  obtain rfl : u = Value.ref a := r1
  obtain ⟨its, rv, pl, hz⟩ := I1.list hq
  refine call_reversed_list pl.isList (args_nil ?_)
  have k0 : ∀ b o, s1.heap.get? b = some o → (s1.heap.push (revObj a ((its.toArray.size : Int) - 1))).get? b = some o := fun b o z => Heap.get?_push_of_some _ z
  have I2 : Inv X pins σ H1 { s1 with heap := s1.heap.push (revObj a ((its.toArray.size : Int) - 1)) } := I1.kept (t' := s1.toks) k0
  obtain ⟨f0, f1, f2, f3, f4, f5⟩ := I1.fpOk (H' := H1) (b := s1.heap.objs.size) (Nat.le_refl _) (I1.hok.fresh (Nat.le_refl _))
  have hl := pl.isList
  obtain ⟨ol, hol, _⟩ := id hl
  have far : a ≠ s1.heap.objs.size := Nat.ne_of_lt (Heap.lt_size hol)
  have fits : its.toArray.size ≤ sizeLine := by
    rw [List.size_toArray, ← rv.length]
    exact hz
  refine LRev.callRev (s := { s1 with heap := s1.heap.push (revObj a ((its.toArray.size : Int) - 1)) }) (I1.ok.hd hc) ⟨_, Heap.get?_push_size _ rfl, rfl, rfl⟩ (hl.push _) far fits fun g tk out cap hk hg hi => ?_
  have sz : (s1.heap.push (revObj a ((its.toArray.size : Int) - 1))).objs.size = s1.heap.objs.size + 1 := Heap.size_push _ _
  generalize hS : (s1.heap.push (revObj a ((its.toArray.size : Int) - 1))).objs.size = S at hg
  have fr : H1 S = none := I1.hok.fresh (by rw [← hS, sz]; exact Nat.le_succ _)
  have J : Inv X pins σ (upd H1 S (.lst xs.reverse)) { s1 with heap := g, toks := tk } :=
    I1.laid (h' := g) (t' := tk) (fun b o z => hk b o (Nat.ne_of_lt (Heap.lt_size z)) (k0 b o z)) (by rw [← hS, sz]; exact Nat.le_succ _)
      ⟨by rw [List.length_reverse]; exact hz, out.toList, cap, RT.vals_rev rv hi, by rw [Array.toArray_toList]; exact hg⟩
  exact ⟨.ref S, _, J, rfl, q S fr⟩
end L2
/-! a stepper for readings -/
namespace Rd
open PySem PySem.Spec PyProof.Rows L2
section
variable {D : Ends} {σ σ' : L2.St} {H : Hp} {Q : VK} {t u : TS} {te ta tb tc : TE} {tt uu : TT} {g : TG} {i : Nat} {v x y z : V} {r r' : R2} {B : Bool → Prop} {ts tr : TA} {n b c : L2.St → Hp → Prop} {rr : VK}
theorem seq (h : t ⟨u ⟨n, rr, b, c⟩, rr, b, c⟩ σ H) : tSeq t u ⟨n, rr, b, c⟩ σ H := h
theorem at0 {N : List Str} {vs : List V} (e : start N vs = σ) (h : t D σ H) : t D (start N vs) H := by
  rw [e]
  exact h
theorem nxt (h : n σ H) : tNext ⟨n, rr, b, c⟩ σ H := h
theorem brk (h : b σ H) : tBreak ⟨n, rr, b, c⟩ σ H := h
theorem cnt (h : c σ H) : tCont ⟨n, rr, b, c⟩ σ H := h
theorem ret (h : te σ H rr) : tRet te ⟨n, rr, b, c⟩ σ H := h
theorem retN (h : rr .non H) : tRetN ⟨n, rr, b, c⟩ σ H := h
theorem drop (h : te σ H fun _ H1 => n σ H1) : tDrop te ⟨n, rr, b, c⟩ σ H := h
theorem ifs (h : tt σ H fun b H1 => if b = true then t D σ H1 else u D σ H1) : tIfS tt t u D σ H := h
theorem asg (h : te σ H fun x H1 => g x σ H1 n) : tAsg te g ⟨n, rr, b, c⟩ σ H := h
theorem gname {P : L2.St → Hp → Prop} (e : σ.set i (some v) = σ') (h : P σ' H) : gName i v σ H P := by
  subst e
  exact h
theorem var (e : σ[i]? = some (some v)) (h : Q v H) : tVar i σ H Q := ⟨v, e, h⟩
theorem con (h : Q v H) : tC v σ H Q := h
theorem op (h : ta σ H fun x H1 => tb σ H1 fun y H2 => r x y H2 Q) : tOp r ta tb σ H Q := h
theorem un {r : V → Hp → VK → Prop} (h : ta σ H fun x H1 => r x H1 Q) : tUn r ta σ H Q := h
theorem test {Q : Bool → Hp → Prop} (h : te σ H fun x H' => ∃ k, x = .bl k ∧ Q k H') : tTest te σ H Q := h
theorem testB {Q : Bool → Hp → Prop} (h : te σ H fun x H' => ∃ k, x = .bl k ∧ Q k H') : tB te σ H Q := h
theorem exbl {P : Bool → Prop} {b : Bool} (h : P b) : ∃ k, V.bl b = V.bl k ∧ P k := ⟨b, rfl, h⟩
theorem and {Q : Bool → Hp → Prop} (h : tt σ H fun c H1 => if c = true then uu σ H1 Q else Q false H1) : tAnd tt uu σ H Q := h
theorem or {Q : Bool → Hp → Prop} (h : tt σ H fun c H1 => if c = true then Q true H1 else uu σ H1 Q) : tOr tt uu σ H Q := h
theorem not {Q : Bool → Hp → Prop} (h : tt σ H fun c H1 => Q (!c) H1) : tNot tt σ H Q := h
theorem andV (h : ta σ H fun x H1 => ∃ c, x = .bl c ∧ if c = true then tb σ H1 Q else Q (.bl false) H1) : tAndV ta tb σ H Q := h
theorem orV (h : ta σ H fun x H1 => ∃ c, x = .bl c ∧ if c = true then Q (.bl true) H1 else tb σ H1 Q) : tOrV ta tb σ H Q := h
theorem notV (h : ta σ H fun x H1 => ∃ c, x = .bl c ∧ Q (.bl (!c)) H1) : tNotV ta σ H Q := h
theorem ife (h : tt σ H fun c H1 => if c = true then ta σ H1 Q else tb σ H1 Q) : tIf tt ta tb σ H Q := h
theorem nil {Q : List V → Hp → Prop} (h : Q [] H) : tNil σ H Q := h
theorem cons {Q : List V → Hp → Prop} (h : te σ H fun x H1 => tr σ H1 fun xs H2 => Q (x :: xs) H2) : tCons te tr σ H Q := h
theorem tup (h : ts σ H fun xs H1 => xs.length ≤ sizeLine ∧ ∀ p, H1 p = none → Q (.ref p) (upd H1 p (.tup xs))) : tTup ts σ H Q := h
theorem lst (h : ts σ H fun xs H1 => xs.length ≤ sizeLine ∧ ∀ p, H1 p = none → Q (.ref p) (upd H1 p (.lst xs))) : tLst ts σ H Q := h
theorem call {sp : Sp} {dvs : List V} {E : XK} (h : ts σ H fun vs H1 => sp (vs ++ dvs) H1 Q E) : tCall sp dvs E ts σ H Q := h
theorem cb {r : List V → Hp → VK → Prop} (h : ts σ H fun vs H1 => r vs H1 Q) : tCB r ts σ H Q := h
theorem chain (h : ta σ H fun x H1 => tb σ H1 fun y H2 => r x y H2 fun z H3 => ∃ k, z = .bl k ∧ (if k = true then tc σ H3 fun w' H4 => r' y w' H4 Q else Q (.bl false) H3)) : tChain r r' ta tb tc σ H Q := h
/-- ints -/
theorem I0 {g : Int → Int → V} {i j : Int} (h : Q (g i j) H) : rI0 g (.int i) (.int j) H Q := ⟨i, j, rfl, rfl, h⟩
theorem I1 {C : Int → Int → Prop} {g : Int → Int → V} {i j : Int} (c : C i j) (h : Q (g i j) H) : rI C g (.int i) (.int j) H Q := ⟨i, j, rfl, rfl, c, h⟩
theorem U1 {g : Int → V} {i : Int} (h : Q (g i) H) : rU g (.int i) H Q := ⟨i, rfl, h⟩
theorem eq (e : scal x y = true) (h : Q (.bl (decide (x = y))) H) : rEq x y H Q := ⟨e, h⟩
theorem ne (e : scal x y = true) (h : Q (.bl (!decide (x = y))) H) : rNe x y H Q := ⟨e, h⟩
/-- tests -/
theorem iteD {p A B : Prop} [Decidable p] (h1 : p → A) (h2 : ¬ p → B) : if decide p = true then A else B := by
  by_cases h : p
  · rw [if_pos (decide_eq_true h)]
    exact h1 h
  · rw [if_neg (by rw [decide_eq_false h]; exact Bool.false_ne_true)]
    exact h2 h
theorem iteN {p A B : Prop} [Decidable p] (h1 : ¬ p → A) (h2 : p → B) : if (!decide p) = true then A else B := by
  by_cases h : p
  · rw [if_neg (by rw [decide_eq_true h]; exact Bool.false_ne_true)]
    exact h2 h
  · rw [if_pos (by rw [decide_eq_false h]; rfl)]
    exact h1 h
theorem iteI {i j : Int} {A B : Prop} (h1 : i = j → A) (h2 : i ≠ j → B) : if decide (V.int i = V.int j) = true then A else B := iteD (fun e => h1 (V.int.inj e)) fun n => h2 fun e => n (by rw [e])
theorem iteNI {i j : Int} {A B : Prop} (h1 : i ≠ j → A) (h2 : i = j → B) : if (!decide (V.int i = V.int j)) = true then A else B := iteN (fun n => h1 fun e => n (by rw [e])) fun e => h2 (V.int.inj e)
theorem iteB {b : Bool} {A B : Prop} (h1 : b = true → A) (h2 : b = false → B) : if b = true then A else B := by
  cases b with
  | true => exact iteT (h1 rfl)
  | false => exact iteF (h2 rfl)
theorem iteNB {b : Bool} {A B : Prop} (h1 : b = false → A) (h2 : b = true → B) : if (!b) = true then A else B := by
  cases b with
  | true => exact iteF (h2 rfl)
  | false => exact iteT (h1 rfl)
theorem rn1 {a : Addr} {A B : Prop} (h : B) : if decide (V.ref a = V.non) = true then A else B := h
theorem in1 {i : Int} {A B : Prop} (h : B) : if decide (V.int i = V.non) = true then A else B := h
theorem sn1 {i : Str} {A B : Prop} (h : B) : if decide (V.str i = V.non) = true then A else B := h
theorem bn1 {i : Bool} {A B : Prop} (h : B) : if decide (V.bl i = V.non) = true then A else B := h
theorem nn1 {A B : Prop} (h : A) : if decide (V.non = V.non) = true then A else B := h
theorem rn2 {a : Addr} {A B : Prop} (h : A) : if (!decide (V.ref a = V.non)) = true then A else B := h
theorem in2 {i : Int} {A B : Prop} (h : A) : if (!decide (V.int i = V.non)) = true then A else B := h
theorem sn2 {i : Str} {A B : Prop} (h : A) : if (!decide (V.str i = V.non)) = true then A else B := h
theorem bn2 {i : Bool} {A B : Prop} (h : A) : if (!decide (V.bl i = V.non)) = true then A else B := h
theorem nn2 {A B : Prop} (h : B) : if (!decide (V.non = V.non)) = true then A else B := h
theorem nt1 {A B : Prop} (h : B) : if (!true) = true then A else B := h
theorem nf1 {A B : Prop} (h : A) : if (!false) = true then A else B := h
theorem pick {c A B : Prop} [Decidable c] (hc : c) (h : A) : if c then A else B := by
  rw [if_pos hc]
  exact h
theorem skip {c A B : Prop} [Decidable c] (hc : ¬ c) (h : B) : if c then A else B := by
  rw [if_neg hc]
  exact h
end
/-! ### calls: a def with all that a caller needs -/
section
variable {P : Program} {w : World} {K : PySem.W.Frag} {mg : Str → Option Value} {base : Heap}
/-- the def of this name stands as the text says -/
def Def (K : PySem.W.Frag) (mg : Str → Option Value) (x : Str) (st : Stmt) (ps : List Str) : Prop := ∃ f fd, Fun K x x st f fd ∧ mg x = some (.ref f) ∧ Binds K fd ps []
/-- the def of this name keeps this promise -/
def Cal (P : Program) (w : World) (K : PySem.W.Frag) (mg : Str → Option Value) (base : Heap) (k : Nat) (x : Str) (ps : List Str) (sp : Sp) : Prop :=
  ∃ f fd, FnOk P w K mg base CX0 k f fd ps sp ∧ mg x = some (.ref f) ∧ PySem.W.keepIn K (.ref f) = true ∧ Binds K fd ps []
theorem Def.ok {x : Str} {st : Stmt} {ps N : List Str} {k : Nat} {sp : Sp} (F : Def K mg x st ps) (S : FnScope N ps (defScope st)) (len : ∀ vs H Q E, sp vs H Q E → vs.length = ps.length)
    (hbody : ∀ (f : Addr) (cdv : Value) (A : Around) (outer : List Env) (s : Shared) (H : Hp) (vs : List V) (Q : VK) (E : XK), Room k (A.deeper (envOfC x (defScope st) s.heap.objs.size f cdv)) → sp vs H Q E →
      ∃ t, PSs (cxOf CX0 P w K mg base N x (defScope st) f cdv A outer s H E).nox (defBody st) t ∧ t { nx := fun _ H' => Q .non H', rt := Q } (start N vs) H) : Cal P w K mg base (k + 1) x ps sp := by
  obtain ⟨f, fd, F, m, b⟩ := F
  exact ⟨f, fd, F.ok S len (fun cdv A outer s H vs Q E hr h => hbody f cdv A outer s H vs Q E hr h), m, F.kp, b⟩
theorem Cal.mono {x : Str} {ps : List Str} {j k : Nat} {sp : Sp} (C : Cal P w K mg base j x ps sp) (h : j ≤ k) : Cal P w K mg base k x ps sp := by
  obtain ⟨f, fd, F, r⟩ := C
  exact ⟨f, fd, F.mono h, r⟩
theorem Cal.imp {x : Str} {ps : List Str} {k : Nat} {sp sp' : Sp} (C : Cal P w K mg base k x ps sp) (h : ∀ vs H Q E, sp' vs H Q E → sp vs H Q E) : Cal P w K mg base k x ps sp' := by
  obtain ⟨f, fd, F, r⟩ := C
  exact ⟨f, fd, F.imp h, r⟩
end
theorem pe_cal {X : Cx} {e : Expr} {es : List Expr} {t : TA} {p pos : Pos} {j k : Nat} {x : Str} {ps : List Str} {sp : Sp} (C : Cal X.prog X.w X.K X.mg X.base j x ps sp) (hr : Room k X.A) (ha : PA X (e :: es) t) (hk : j ≤ k := by decide) (hg : Gl X x := by rfl)
    (hdb : (x == ("__debug__" : Str)) = false := by decide) (he : starEach (e :: es) X.env = (false, eval e X.env) :: starEach es X.env := by rfl) (hpl : (backTo pos (starEach es X.env)).any (·.1) = false := by rfl) :
    PE X (.Call (.Name x p) (e :: es) [] pos) (tCall sp [] E0 t) := by
  obtain ⟨f, fd, F, m, kp, b⟩ := C
  exact pe_call F (hr.mono hk) hg m kp b .nil pass0 ha hdb he hpl
theorem pe_cal0 {X : Cx} {p pos : Pos} {j k : Nat} {x : Str} {sp : Sp} (C : Cal X.prog X.w X.K X.mg X.base j x [] sp) (hr : Room k X.A) (hk : j ≤ k := by decide) (hg : Gl X x := by rfl)
    (hdb : (x == ("__debug__" : Str)) = false := by decide) :
    PE X (.Call (.Name x p) [] [] pos) (tCall sp [] E0 tNil) := by
  obtain ⟨f, fd, F, m, kp, b⟩ := C
  exact pe_call0 F (hr.mono hk) hg m kp b .nil pass0 hdb
/-- nothing is promised of a call that is never made -/
theorem Def.none {P : Program} {w : World} {K : PySem.W.Frag} {mg : Str → Option Value} {base : Heap} {x : Str} {st : Stmt} {ps : List Str} (D : Def K mg x st ps) : Cal P w K mg base 0 x ps fun _ _ _ _ => False := by
  obtain ⟨f, fd, F, m, b⟩ := D
  exact ⟨f, fd, ⟨fun _ _ _ _ h => h.elim, fun _ _ _ _ _ _ _ _ _ _ _ _ _ h => h.elim⟩, m, F.kp, b⟩
/-- what the top has left of a def -/
theorem def_mk {K : PySem.W.Frag} {mg : Str → Option Value} {h : Heap} {x : Str} {st : Stmt} {ps : List Str} {f : Addr} {oc : Value} {od an : Option Addr} {osl : Array (Option Value)} {kV dc pm cdv ct : Value} (X : K.In h) (G : h.Ns mainGlobals mg)
    (a : PySem.W.nsIn K mainGlobals x = some (some (.ref f))) (l : K.lookup f = some ⟨oc, od, .func (PySem.W.fnOf x x (defArgs st) (defBody st) (defScope st) .none kV dc pm an cdv ct), osl⟩) (c : PySem.W.codeIn K cdv x = true) (k : PySem.W.keepIn K (.ref f) = true)
    (hb : ∀ (kV doc pm : Value) (an : Option Addr) (cdv ct : Value) (us : List Value), us.length = ps.length → bindArgs (PySem.W.fnOf x x (defArgs st) (defBody st) (defScope st) .none kV doc pm an cdv ct) ⟨us, []⟩ = pure (ps.zip us)) : Def K mg x st ps :=
  ⟨f, _, fun_mk l c k, PySem.W.mg_of X G a, (fun_mk l c k).binds hb⟩
end Rd
namespace Rd
open PySem PySem.Spec PyProof.Rows L2
/-! ### built-ins with a reading of their own name -/
def rIntI : List V → Hp → VK → Prop := fun xs H Q => ∃ i, xs = [.int i] ∧ Q (.int i) H
def rIntB : List V → Hp → VK → Prop := fun xs H Q => ∃ k, xs = [.bl k] ∧ Q (.int (if k then 1 else 0)) H
def rLenQ (K : PySem.W.Frag) : List V → Hp → VK → Prop := fun xs H Q => ∃ p ys, xs = [.ref p] ∧ (SqL K H p ys ∨ SqT K H p ys) ∧ Q (.int ys.length) H
def rLenZ : List V → Hp → VK → Prop := fun xs H Q => ∃ z, xs = [.str z] ∧ z.length ≤ sizeLine ∧ Q (.int z.length) H
def rListQ (K : PySem.W.Frag) : List V → Hp → VK → Prop := fun xs H Q => ∃ p ys, xs = [.ref p] ∧ (SqL K H p ys ∨ SqT K H p ys) ∧ ∀ l, H l = none → Q (.ref l) (upd H l (.lst ys))
def rTupQ (K : PySem.W.Frag) : List V → Hp → VK → Prop := fun xs H Q => ∃ p ys, xs = [.ref p] ∧ SqL K H p ys ∧ ∀ l, H l = none → Q (.ref l) (upd H l (.tup ys))
def rMaxQ : List V → Hp → VK → Prop := fun xs H Q => ∃ i j, xs = [.int i, .int j] ∧ Q (.int (if j > i then j else i)) H
def rMinQ : List V → Hp → VK → Prop := fun xs H Q => ∃ i j, xs = [.int i, .int j] ∧ Q (.int (if j < i then j else i)) H
def rAbsQ : List V → Hp → VK → Prop := fun xs H Q => ∃ i, xs = [.int i] ∧ Q (.int (if i < 0 then -i else i)) H
def rStrQ : List V → Hp → VK → Prop := fun xs H Q => ∃ i, xs = [.int i] ∧ i.natAbs.log2 < 1920 ∧ Q (.str (toString i)) H
def rAddZ : R2 := fun x y H Q => ∃ i j, x = .str i ∧ y = .str j ∧ i.length + j.length ≤ sizeLine ∧ Q (.str (i ++ j)) H
def rInZ : R2 := fun x y H Q => ∃ (c : Nat) (z : Str), x = .str ⟨#[c]⟩ ∧ y = .str z ∧ Q (.bl (decide (c ∈ z.cps.toList))) H
def rNiZ : R2 := fun x y H Q => ∃ (c : Nat) (z : Str), x = .str ⟨#[c]⟩ ∧ y = .str z ∧ Q (.bl (!decide (c ∈ z.cps.toList))) H
def rLtZ : R2 := fun x y H Q => ∃ i j, x = .str i ∧ y = .str j ∧ Q (.bl (decide (i.cps.toList < j.cps.toList))) H
def rIsN : R2 := fun x y H Q => y = .non ∧ Q (.bl (decide (x = .non))) H
def rNoN : R2 := fun x y H Q => y = .non ∧ Q (.bl (!decide (x = .non))) H
section
variable {X : Cx}
theorem q_intI : CallR X (.type "int") rIntI := fun pins s σ H xs us Q I r h => call_int1 pins s σ H xs us Q I r (.inl h)
theorem q_intB : CallR X (.type "int") rIntB := fun pins s σ H xs us Q I r h => call_int1 pins s σ H xs us Q I r (.inr h)
theorem q_len : CallR X (.builtin "len") (rLenQ X.K) := call_len_seq
theorem q_lenZ : CallR X (.builtin "len") rLenZ := call_len_str
theorem q_list : CallR X (.type "list") (rListQ X.K) := call_list_of
theorem q_tup : CallR X (.type "tuple") (rTupQ X.K) := fun pins s σ H xs us Q I r ⟨p, ys, e, h, q⟩ => call_tuple_of pins s σ H xs us Q I r ⟨p, ys, e, .inl ⟨h, q⟩⟩
theorem q_max (hc : X.calm = true) : CallR X (.builtin "max") rMaxQ := call_max2 hc
theorem q_min (hc : X.calm = true) : CallR X (.builtin "min") rMinQ := call_min2 hc
theorem q_abs : CallR X (.builtin "abs") rAbsQ := call_abs
theorem q_str : CallR X (.type "str") rStrQ := call_str_int
theorem o_addZ : OpR X (binaryOp .Add) rAddZ := op_add_str
theorem o_inZ : OpR X (compareOp .In) rInZ := op_in_sign
theorem o_niZ : OpR X (compareOp .NotIn) rNiZ := op_notIn_sign
theorem o_ltZ : OpR X (compareOp .Lt) rLtZ := op_lt_str
theorem o_isN : OpR X (compareOp .Is) rIsN := op_isN
theorem o_noN : OpR X (compareOp .IsNot) rNoN := op_notN
end
section
variable {K : PySem.W.Frag} {D : Ends} {σ σ' : L2.St} {H : Hp} {Q : VK} {to ti te tb : TE} {t : TSet} {v x y : V} {p q : Addr} {xs ys : List V} {i j k : Int} {a b' : Str} {n b c : L2.St → Hp → Prop} {rr : VK}
theorem intI (h : Q (.int i) H) : rIntI [.int i] H Q := ⟨i, rfl, h⟩
theorem intB {c : Bool} (h : Q (.int (if c then 1 else 0)) H) : rIntB [.bl c] H Q := ⟨c, rfl, h⟩
theorem lenQ (h : SqL K H p xs ∨ SqT K H p xs) (g : Q (.int xs.length) H) : rLenQ K [.ref p] H Q := ⟨p, xs, rfl, h, g⟩
theorem lenZ (h : a.length ≤ sizeLine) (g : Q (.int a.length) H) : rLenZ [.str a] H Q := ⟨a, rfl, h, g⟩
theorem listQ (h : SqL K H p xs ∨ SqT K H p xs) (g : ∀ l, H l = none → Q (.ref l) (upd H l (.lst xs))) : rListQ K [.ref p] H Q := ⟨p, xs, rfl, h, g⟩
theorem tupQ (h : SqL K H p xs) (g : ∀ l, H l = none → Q (.ref l) (upd H l (.tup xs))) : rTupQ K [.ref p] H Q := ⟨p, xs, rfl, h, g⟩
theorem maxQ (h : Q (.int (if j > i then j else i)) H) : rMaxQ [.int i, .int j] H Q := ⟨i, j, rfl, h⟩
theorem minQ (h : Q (.int (if j < i then j else i)) H) : rMinQ [.int i, .int j] H Q := ⟨i, j, rfl, h⟩
theorem absQ (h : Q (.int (if i < 0 then -i else i)) H) : rAbsQ [.int i] H Q := ⟨i, rfl, h⟩
theorem strQ (c : i.natAbs.log2 < 1920) (h : Q (.str (toString i)) H) : rStrQ [.int i] H Q := ⟨i, rfl, c, h⟩
theorem addZ (c : a.length + b'.length ≤ sizeLine) (h : Q (.str (a ++ b')) H) : rAddZ (.str a) (.str b') H Q := ⟨a, b', rfl, rfl, c, h⟩
theorem inZ {c : Nat} (h : Q (.bl (decide (c ∈ a.cps.toList))) H) : rInZ (.str ⟨#[c]⟩) (.str a) H Q := ⟨c, a, rfl, rfl, h⟩
theorem niZ {c : Nat} (h : Q (.bl (!decide (c ∈ a.cps.toList))) H) : rNiZ (.str ⟨#[c]⟩) (.str a) H Q := ⟨c, a, rfl, rfl, h⟩
theorem ltZ (h : Q (.bl (decide (a.cps.toList < b'.cps.toList))) H) : rLtZ (.str a) (.str b') H Q := ⟨a, b', rfl, rfl, h⟩
theorem isN (h : Q (.bl (decide (x = .non))) H) : rIsN x .non H Q := ⟨rfl, h⟩
theorem noN (h : Q (.bl (!decide (x = .non))) H) : rNoN x .non H Q := ⟨rfl, h⟩
theorem ixL (h : SqL K H p xs) (e : atI xs i = some v) (g : Q v H) : rIxL K (.ref p) (.int i) H Q := ⟨p, xs, i, v, rfl, rfl, h, e, g⟩
theorem ixI {ns : List Int} (h : SqL K H p (ns.map V.int)) (h0 : 0 ≤ i) (h1 : i < ((ns.map V.int).length : Int)) (g : ∀ z, z ∈ ns → Q (.int z) H) : rIxL K (.ref p) (.int i) H Q := by
  rw [List.length_map] at h1
  have hj : i.toNat < ns.length := by omega
  have e : atI (ns.map V.int) ((i.toNat : Nat) : Int) = some (.int ns[i.toNat]) := atI_nat (by rw [List.getElem?_map, List.getElem?_eq_getElem hj]; rfl)
  rw [show ((i.toNat : Nat) : Int) = i by omega] at e
  exact ⟨p, _, i, _, rfl, rfl, h, e, g _ (List.getElem_mem hj)⟩
theorem ixT (h : SqT K H p xs) (e : atI xs i = some v) (g : Q v H) : rIxT K (.ref p) (.int i) H Q := ⟨p, xs, i, v, rfl, rfl, h, e, g⟩
theorem ixZ {c : Nat} (h : a.length ≤ sizeLine) (e : atI a.cps.toList i = some c) (g : Q (.str ⟨#[c]⟩) H) : rIxS (.str a) (.int i) H Q := ⟨a, i, c, rfl, rfl, h, e, g⟩
theorem gsub {P : L2.St → Hp → Prop} (h : to σ H fun o H1 => ti σ H1 fun i H2 => t o i v H2 fun H3 => P σ H3) : gSub to ti t v σ H P := h
theorem setL {P : Hp → Prop} {j : Nat} (h : H p = some (.lst xs)) (e : ixN xs.length k = some j) (e2 : xs.set j v = ys) (g : P (upd H p (.lst ys))) : rSetL (.ref p) (.int k) v H P := by
  subst e2
  exact ⟨p, xs, k, j, rfl, rfl, h, e, g⟩
theorem append (h : H p = some (.lst xs)) (c : xs.length < sizeLine) (g : Q .non (upd H p (.lst (xs ++ [y])))) : rAppend (.ref p) [y] H Q := ⟨p, xs, y, rfl, rfl, h, c, g⟩
theorem pop (h : H p = some (.lst xs)) (e : xs[xs.length - 1]? = some y) (g : Q y (upd H p (.lst xs.dropLast))) : rPop (.ref p) [] H Q := ⟨p, xs, y, rfl, rfl, h, e, g⟩
theorem cat (h : H p = some (.lst xs)) (h' : H q = some (.lst ys)) (c : xs.length + ys.length ≤ sizeLine) (g : ∀ l, H l = none → Q (.ref l) (upd H l (.lst (xs ++ ys)))) : rCat (.ref p) (.ref q) H Q := ⟨p, q, xs, ys, rfl, rfl, h, h', c, g⟩
theorem bm {T : String} {r : V → List V → Hp → VK → Prop} {ts : TA} (h : to σ H fun x H1 => tyV K T x H1 ∧ ts σ H1 fun xs H2 => r x xs H2 Q) : tBM K T r to ts σ H Q := h
theorem bm0 {T : String} {r : V → List V → Hp → VK → Prop} (h : to σ H fun x H1 => tyV K T x H1 ∧ r x [] H1 Q) : tBM0 K T r to σ H Q := h
theorem tyL {B : Prop} (h : H p = some (.lst xs)) (g : B) : tyV K "list" (.ref p) H ∧ B := ⟨.inl ⟨rfl, _, .inl (.inl h)⟩, g⟩
theorem gtup {n : Nat} {t : TGs} {P : L2.St → Hp → Prop} (h : SqT K H p xs) (e : xs.length = n) (g : t xs σ H P) : gTup K n t (.ref p) σ H P := ⟨p, xs, rfl, h, e, g⟩
theorem gnil {P : L2.St → Hp → Prop} (h : P σ H) : gNil [] σ H P := ⟨rfl, h⟩
theorem gcons {t : TG} {u : TGs} {P : L2.St → Hp → Prop} (h : t v σ H fun σ' H' => u xs σ' H' P) : gCons t u (v :: xs) σ H P := ⟨v, xs, rfl, h⟩
theorem par {i j : Nat} {ta : TA} (h : ta σ H fun vs H1 => ∃ v w, vs = [v, w] ∧ n ((σ.set i (some v)).set j (some w)) H1) : tPar i j ta ⟨n, rr, b, c⟩ σ H := h
theorem expar {P' : V → V → Prop} (h : P' x y) : ∃ v w, [x, y] = [v, w] ∧ P' v w := ⟨x, y, rfl, h⟩
theorem aug {i : Nat} {ti : TIp} (e : σ[i]? = some (some x)) (h : te σ H fun y H1 => ti x y H1 fun z H2 => n (σ.set i (some z)) H2) : tAug i te ti ⟨n, rr, b, c⟩ σ H := ⟨x, e, h⟩
theorem ipi {f : Int → Int → Int} (h : Q (.int (f i j)) H) : ipI f (.int i) (.int j) H Q := ⟨i, j, rfl, rfl, h⟩
theorem slice {r : V → Option Int → Option Int → Hp → VK → Prop} {tl th : TO} (h : te σ H fun x H1 => tl σ H1 fun l H2 => th σ H2 fun u H3 => r x l u H3 Q) : tSl r te tl th σ H Q := h
theorem noPart {P : Option Int → Hp → Prop} (h : P none H) : tNoPart σ H P := h
theorem part {P : Option Int → Hp → Prop} (h : te σ H fun x H1 => ∃ i, x = .int i ∧ P (some i) H1) : tPart te σ H P := h
theorem slL {lo hi : Option Int} (h : SqL K H p xs) (g : ∀ l, H l = none → Q (.ref l) (upd H l (.lst (cutV xs lo hi)))) : rSlL K (.ref p) lo hi H Q := ⟨p, xs, rfl, h, g⟩
theorem slZ {lo hi : Option Int} (h : a.length ≤ sizeLine) (g : Q (.str (cutS a lo hi)) H) : rSlS (.str a) lo hi H Q := ⟨a, rfl, h, g⟩
theorem exint {P' : Int → Prop} (h : P' i) : ∃ j, V.int i = V.int j ∧ P' j := ⟨i, rfl, h⟩
/-- what a loop walks -/
theorem iseq {R : It → Hp → Prop} (h : te σ H fun x H1 => ∃ a, x = .ref a ∧ (∃ xs, SqL K H1 a xs) ∧ R (Itl K a) H1) : iList K te σ H R := h
theorem exlst {P' : Addr → Prop} (h : SqL K H p ys) (g : P' p) : ∃ a, V.ref p = V.ref a ∧ (∃ zs, SqL K H a zs) ∧ P' a := ⟨p, rfl, ⟨ys, h⟩, g⟩
theorem irng1 {ta : TA} {R : It → Hp → Prop} (h : ta σ H fun vs H1 => ∃ j : Int, vs = [.int j] ∧ -(2 ^ 62) ≤ j ∧ j < 2 ^ 62 ∧ R (Itr 0 j.toNat) H1) : iRng1 ta σ H R := h
theorem exrng1 {P' : Int → Prop} (c : -(2 ^ 62) ≤ i ∧ i < 2 ^ 62) (h : P' i) : ∃ j : Int, [V.int i] = [V.int j] ∧ -(2 ^ 62) ≤ j ∧ j < 2 ^ 62 ∧ P' j := ⟨i, rfl, c.1, c.2, h⟩
theorem irng2 {ta : TA} {R : It → Hp → Prop} (h : ta σ H fun vs H1 => ∃ i j : Int, vs = [.int i, .int j] ∧ (-(2 ^ 62) ≤ i ∧ i < 2 ^ 62 ∧ -(2 ^ 62) ≤ j ∧ j < 2 ^ 62) ∧ R (Itr i (j - i).toNat) H1) : iRng2 ta σ H R := h
theorem exrng2 {P' : Int → Int → Prop} (c : -(2 ^ 62) ≤ i ∧ i < 2 ^ 62 ∧ -(2 ^ 62) ≤ j ∧ j < 2 ^ 62) (h : P' i j) : ∃ a b : Int, [V.int i, V.int j] = [V.int a, V.int b] ∧ (-(2 ^ 62) ≤ a ∧ a < 2 ^ 62 ∧ -(2 ^ 62) ≤ b ∧ b < 2 ^ 62) ∧ P' a b := ⟨i, j, rfl, c, h⟩
end
end Rd
/-! ### loops and comprehensions, what is walked apart from what is done -/
namespace Rd
open PySem PySem.Spec PyProof.Rows L2
/-- a for over a walk that has begun; a comprehension over one -/
def ForB (J : It) (g : TG) (tb : TS) (D : Ends) (σ : L2.St) (H : Hp) : Prop := tFor (fun _ H1 R => R J H1) g tb D σ H
def LcB (J : It) (g : TG) (tt : TT) (te : TE) (vs : List Nat) (σ : L2.St) (H : Hp) (Q : VK) : Prop := tLc (fun _ H1 R => R J H1) g tt te vs σ H Q
section
variable {K : PySem.W.Frag} {wi : TI} {g : TG} {tb : TS} {D : Ends} {σ : L2.St} {H : Hp} {tt : TT} {te : TE} {vs : List Nat} {Q : VK} {a : Addr} {xs : List V} {n b c : L2.St → Hp → Prop} {rr : VK} {lo : Int} {m : Nat} {P : Prop}
theorem forX (h : wi σ H fun J H1 => ForB J g tb D σ H1) : tFor wi g tb D σ H := h
theorem lcX (h : wi σ H fun J H1 => LcB J g tt te vs σ H1 Q) : tLc wi g tt te vs σ H Q := h
theorem forL (xs : List V) (Pv : Nat → L2.St → Hp → Prop) (h0 : Pv 0 σ H) (hl : ∀ i σ H, i ≤ xs.length → Pv i σ H → SqL K H a xs)
    (hs : ∀ i x σ H, xs[i]? = some x → Pv i σ H → g x σ H fun σ2 H2 => tb ⟨Pv (i + 1), rr, n, Pv (i + 1)⟩ σ2 H2) (hd : ∀ σ H, Pv xs.length σ H → n σ H) : ForB (Itl K a) g tb ⟨n, rr, b, c⟩ σ H :=
  for_list (D := ⟨n, rr, b, c⟩) Pv h0 hl hs hd
theorem forR (Pv : Nat → L2.St → Hp → Prop) (h0 : Pv 0 σ H)
    (hs : ∀ i σ H, i < m → Pv i σ H → g (.int (lo + i)) σ H fun σ2 H2 => tb ⟨Pv (i + 1), rr, n, Pv (i + 1)⟩ σ2 H2) (hd : ∀ σ H, Pv m σ H → n σ H) : ForB (Itr lo m) g tb ⟨n, rr, b, c⟩ σ H :=
  for_range (D := ⟨n, rr, b, c⟩) Pv h0 hs hd
/-- what a comprehension's turn is to do, at the new list L -/
def Turn1 (g : TG) (tt : TT) (te : TE) (vs : List Nat) (σ : L2.St) (L : Addr) (x : V) (h : Hp) (Nx : Hp → Prop) : Prop :=
  g x (wipe σ vs) h fun σ2 h2 => wipe σ2 vs = wipe σ vs ∧
    tt σ2 h2 fun k h3 => if k = true then (te σ2 h3 fun y h4 => ∃ out, h4 L = some (.lst out) ∧ out.length < sizeLine ∧ Nx (upd h4 L (.lst (out ++ [y])))) else Nx h3
theorem lcL (xs : List V) (f : ∀ L, H L = none → ∃ Pv : Nat → Hp → Prop, Pv 0 (upd H L (.lst [])) ∧ (∀ i h, i ≤ xs.length → Pv i h → SqL K h a xs) ∧
    (∀ i x h, xs[i]? = some x → Pv i h → Turn1 g tt te vs σ L x h (Pv (i + 1))) ∧ ∀ h, Pv xs.length h → Q (.ref L) h) : LcB (Itl K a) g tt te vs σ H Q := fun L hL => by
  obtain ⟨Pv, h0, hl, hs, hd⟩ := f L hL
  exact lc_list (Qd := Q (.ref L)) Pv h0 hl hs hd
theorem lcR (f : ∀ L, H L = none → ∃ Pv : Nat → Hp → Prop, Pv 0 (upd H L (.lst [])) ∧
    (∀ i h, i < m → Pv i h → Turn1 g tt te vs σ L (.int (lo + i)) h (Pv (i + 1))) ∧ ∀ h, Pv m h → Q (.ref L) h) : LcB (Itr lo m) g tt te vs σ H Q := fun L hL => by
  obtain ⟨Pv, h0, hs, hd⟩ := f L hL
  exact lc_range (Qd := Q (.ref L)) Pv h0 hs hd
theorem turn1 {L : Addr} {x : V} {h : Hp} {Nx : Hp → Prop} (q : g x (wipe σ vs) h fun σ2 h2 => wipe σ2 vs = wipe σ vs ∧
    tt σ2 h2 fun k h3 => if k = true then (te σ2 h3 fun y h4 => ∃ out, h4 L = some (.lst out) ∧ out.length < sizeLine ∧ Nx (upd h4 L (.lst (out ++ [y])))) else Nx h3) : Turn1 g tt te vs σ L x h Nx := q
theorem andI {A B : Prop} (h1 : A) (h2 : B) : A ∧ B := ⟨h1, h2⟩
theorem yes {Q' : Bool → Hp → Prop} (h : Q' true H) : tYes σ H Q' := h
theorem irR {ta : TA} {R : It → Hp → Prop} (h : ta σ H fun vs H1 => ∃ j : Int, vs = [.int j] ∧ -(2 ^ 62) ≤ j ∧ j < 2 ^ 62 ∧ R (Itr 0 j.toNat) H1) : iRng1 ta σ H R := h
/-- an item of a list of ints -/
theorem int_at {ns : List Int} {i : Nat} {x : V} (h : (ns.map V.int)[i]? = some x) : ∃ z, ns[i]? = some z ∧ x = .int z := by
  rw [List.getElem?_map] at h
  cases e : ns[i]? with
  | none =>
    rw [e] at h
    cases h
  | some z =>
    rw [e] at h
    exact ⟨z, rfl, (Option.some.inj h).symm⟩
theorem same_upd {H : Hp} {p : Addr} {o : HO} (h : H p = none) : Same H (upd H p o) := fun b x e => by
  rw [upd_ne (ne_of_none e h)]
  exact e
/-- a new object stands beside what stood -/
theorem new_ne {H : Hp} {p q : Addr} {o : HO} (h : H p = some o) (h' : H q = none) : q ≠ p := fun e => by
  rw [e, h] at h'
  cases h'
theorem free_of {H H' : Hp} {p : Addr} (h : H' p = none) (k : ∀ b o, H b = some o → H' b = some o) : H p = none := by
  cases e : H p with
  | none => rfl
  | some o =>
    rw [k p o e] at h
    cases h
end
end Rd
namespace Rd
open PySem PySem.Spec PyProof.Rows L2
section
variable {K : PySem.W.Frag} {D : Ends} {σ : L2.St} {H : Hp} {te ta tb : TE} {Q : VK} {p : Addr} {xs : List V} {i j : Int}
theorem lstRev (h : te σ H fun v h => ∃ a zs, v = .ref a ∧ SqL K h a zs ∧ ∀ q, h q = none → Q (.ref q) (upd h q (.lst zs.reverse))) : tLstRev K te σ H Q := h
theorem exrev {P' : List V → Prop} (h : SqL K H p xs) (g : P' xs) : ∃ a zs, V.ref p = V.ref a ∧ SqL K H a zs ∧ P' zs := ⟨p, xs, rfl, h, g⟩
theorem lstRg {tr : L2.St → Hp → (Int → Int → Hp → Prop) → Prop} (h : tr σ H fun a b H1 => RgOk a b ∧ ∀ q, H1 q = none → Q (.ref q) (upd H1 q (.lst (rgV a b)))) : tLstRg tr σ H Q := h
theorem rg1 {P' : Int → Int → Hp → Prop} (h : ta σ H fun x H1 => ∃ m, x = .int m ∧ P' 0 m H1) : tRg1 ta σ H P' := h
theorem rg2 {P' : Int → Int → Hp → Prop} (h : ta σ H fun x H1 => tb σ H1 fun y H2 => ∃ a b, x = .int a ∧ y = .int b ∧ P' a b H2) : tRg2 ta tb σ H P' := h
theorem exint2 {P' : Int → Int → Prop} (h : P' i j) : ∃ a b, V.int i = V.int a ∧ V.int j = V.int b ∧ P' a b := ⟨i, j, rfl, rfl, h⟩
/-- an item at an open place -/
theorem ixN' {i : Int} {x : V} (h : SqL K H p xs) (h0 : 0 ≤ i) (h1 : xs[i.toNat]? = some x) (g : Q x H) : rIxL K (.ref p) (.int i) H Q := by
  have e : atI xs ((i.toNat : Nat) : Int) = some x := atI_nat h1
  rw [show ((i.toNat : Nat) : Int) = i by omega] at e
  exact ⟨p, xs, i, x, rfl, rfl, h, e, g⟩
theorem ixT' {i : Int} {x : V} (h : SqT K H p xs) (h0 : 0 ≤ i) (h1 : xs[i.toNat]? = some x) (g : Q x H) : rIxT K (.ref p) (.int i) H Q := by
  have e : atI xs ((i.toNat : Nat) : Int) = some x := atI_nat h1
  rw [show ((i.toNat : Nat) : Int) = i by omega] at e
  exact ⟨p, xs, i, x, rfl, rfl, h, e, g⟩
theorem setN' {P' : Hp → Prop} {k : Int} {v : V} (h : H p = some (.lst xs)) (h0 : 0 ≤ k) (h1 : k < (xs.length : Int)) (g : P' (upd H p (.lst (xs.set k.toNat v)))) : rSetL (.ref p) (.int k) v H P' := by
  refine ⟨p, xs, k, k.toNat, rfl, rfl, h, ?_, g⟩
  unfold ixN
  rw [if_pos h0, if_pos h1]
end
theorem swap_perm {α : Type} {l : List α} {i j : Nat} {x y : α} (hx : l[i]? = some x) (hy : l[j]? = some y) : ((l.set i y).set j x).Perm l := by
  obtain ⟨hi, e1⟩ := List.getElem?_eq_some_iff.mp hx
  obtain ⟨hj, e2⟩ := List.getElem?_eq_some_iff.mp hy
  rw [← e1, ← e2]
  exact List.set_set_perm hi hj
end Rd
/-! ### data, and what isinstance says of it -/
namespace Rd
open PySem PySem.Spec PyProof.Rows L2
def tys : List String := ["NoneType", "bool", "int", "str", "list", "tuple", "dict"]
def isT (t T : String) : Bool := t == T || (t == "bool" && T == "int")
theorem kit_all : ∀ t ∈ tys, ∀ T ∈ tys.tail, kitB t T = some (isT t T) := by decide +kernel
def tn : PyData → String
  | .none => "NoneType"
  | .bool _ => "bool"
  | .int _ => "int"
  | .str _ => "str"
  | .list _ => "list"
  | .tuple _ => "tuple"
  | .dict _ => "dict"
section
variable {K : PySem.W.Frag} {H : Hp} {x y : V} {d : PyData} {a : Addr} {xs : List V} {Q : VK}
theorem tyL' (h : SqL K H a xs) : TyX K H (.ref a) (.type "list") := by
  rcases h with (h | ⟨o, h⟩) | ⟨o, its, n, h, c, _⟩
  · exact .base (.lst h)
  · exact .base (.frz h)
  · exact .kList h c
theorem tyT' (h : SqT K H a xs) : TyX K H (.ref a) (.type "tuple") := by
  rcases h with (h | ⟨o, h⟩) | ⟨o, its, n, h, c, _⟩
  · exact .base (.tup h)
  · exact .fTuple h
  · exact .kTuple h c
theorem isi {t T : String} {b : Bool} (ty : TyX K H x (.type t)) (ht : t ∈ tys) (hT : T ∈ tys.tail) (e : isT t T = b) (q : Q (.bl b) H) : rIsi K [x, .ty T] H Q := by
  subst e
  exact ⟨x, .ty T, _, _, _, rfl, .ty T, ty, kit_ty (kit_all t ht T hT), q⟩
theorem isiT {t T : String} (ty : TyX K H x (.type t)) (e : (t ∈ tys ∧ T ∈ tys.tail) ∧ isT t T = true) (q : Q (.bl true) H) : rIsi K [x, .ty T] H Q := isi ty e.1.1 e.1.2 e.2 q
theorem isiF {t T : String} (ty : TyX K H x (.type t)) (e : (t ∈ tys ∧ T ∈ tys.tail) ∧ isT t T = false) (q : Q (.bl false) H) : rIsi K [x, .ty T] H Q := isi ty e.1.1 e.1.2 e.2 q
theorem dp_ty (h : Dp K H x d) : TyX K H x (.type (tn d)) := by
  cases h with
  | non => exact .base .non
  | bl b => exact .base (.bl b)
  | int i => exact .base (.int i)
  | str s => exact .base (.str s)
  | lst h _ => exact tyL' h
  | tup h _ => exact tyT' h
end
/-- data no deeper than n, with short lists -/
inductive Fit : Nat → PyData → Prop
  | non {n : Nat} : Fit n .none
  | bl {n : Nat} (b : Bool) : Fit n (.bool b)
  | int {n : Nat} (i : Int) : Fit n (.int i)
  | str {n : Nat} (s : Str) : Fit n (.str s)
  | lst {n : Nat} {ds : List PyData} : ds.length ≤ 100000 → (∀ d ∈ ds, Fit n d) → Fit (n + 1) (.list ds)
  | tup {n : Nat} {ds : List PyData} : ds.length ≤ 100000 → (∀ d ∈ ds, Fit n d) → Fit (n + 1) (.tuple ds)
theorem Fit.mono {n m : Nat} {d : PyData} (h : Fit n d) (k : n ≤ m) : Fit m d := by
  induction h generalizing m with
  | non => exact .non
  | bl b => exact .bl b
  | int i => exact .int i
  | str s => exact .str s
  | lst l _ ih =>
    cases m with
    | zero => omega
    | succ m => exact .lst l fun d hd => ih d hd (by omega)
  | tup l _ ih =>
    cases m with
    | zero => omega
    | succ m => exact .tup l fun d hd => ih d hd (by omega)
section
variable {K : PySem.W.Frag} {H H' : Hp}
theorem sqT_same {a : Addr} {xs : List V} (e : Same H H') (h : SqT K H a xs) : SqT K H' a xs := by
  rcases h with (h | ⟨o, h⟩) | h
  · exact .inl (.inl (e _ _ h))
  · exact .inl (.inr ⟨o, e _ _ h⟩)
  · exact .inr h
theorem all_len : ∀ {vs : List V} {ds : List PyData}, DpAll K H vs ds → vs.length = ds.length
  | _, _, .nil => rfl
  | _, _, .cons _ r => by rw [List.length_cons, List.length_cons, all_len r]
theorem all_at' : ∀ (vs : List V) (ds : List PyData) (i : Nat) (d : PyData), DpAll K H vs ds → ds[i]? = some d → ∃ v, vs[i]? = some v ∧ Dp K H v d
  | _, [], _, _, _, e => by simp at e
  | [], _ :: _, _, _, h, _ => by cases h
  | v :: _, _ :: _, 0, _, h, e => by
    cases h with
    | cons a _ =>
      cases e
      exact ⟨v, rfl, a⟩
  | _ :: vs, _ :: ds, i + 1, d, h, e => by
    cases h with
    | cons _ r =>
      obtain ⟨v, ev, dv⟩ := all_at' vs ds i d r (by simpa using e)
      exact ⟨v, by simpa using ev, dv⟩
theorem all_at {vs : List V} {ds : List PyData} {i : Nat} {d : PyData} (h : DpAll K H vs ds) (e : ds[i]? = some d) : ∃ v, vs[i]? = some v ∧ Dp K H v d := all_at' vs ds i d h e
theorem all_append' : ∀ (vs : List V) (ds : List PyData) {ws : List V} {es : List PyData}, DpAll K H vs ds → DpAll K H ws es → DpAll K H (vs ++ ws) (ds ++ es)
  | [], [], _, _, _, h => h
  | _ :: vs, _ :: ds, _, _, h, h' => by
    cases h with
    | cons a r => exact .cons a (all_append' vs ds r h')
  | [], _ :: _, _, _, h, _ => by cases h
  | _ :: _, [], _, _, h, _ => by cases h
theorem all_append {vs ws : List V} {ds es : List PyData} (h : DpAll K H vs ds) (h' : DpAll K H ws es) : DpAll K H (vs ++ ws) (ds ++ es) := all_append' vs ds h h'
theorem all_mid {vs ws : List V} {ds es : List PyData} {v : V} {d : PyData} (h : DpAll K H vs ds) (a : Dp K H v d) (h' : DpAll K H ws es) : DpAll K H (vs ++ [v] ++ ws) (ds ++ d :: es) := by
  rw [List.append_assoc]
  exact all_append h (.cons a h')
mutual
theorem dp_same (e : Same H H') : ∀ {v : V} {d : PyData}, Dp K H v d → Dp K H' v d
  | _, _, .non => .non
  | _, _, .bl b => .bl b
  | _, _, .int i => .int i
  | _, _, .str s => .str s
  | _, _, .lst h r => .lst (e.seq h) (all_same e r)
  | _, _, .tup h r => .tup (sqT_same e h) (all_same e r)
theorem all_same (e : Same H H') : ∀ {v : List V} {d : List PyData}, DpAll K H v d → DpAll K H' v d
  | _, _, .nil => .nil
  | _, _, .cons h r => .cons (dp_same e h) (all_same e r)
end
end
end Rd
/-! ### signs and names -/
namespace Rd
open PySem PySem.Spec PyProof.Rows L2
abbrev cl (z : Str) : List Nat := z.cps.toList
theorem cl_len (z : Str) : (cl z).length = z.length := by simp [cl, Str.length]
theorem cl_add (a b : Str) : cl (a ++ b) = cl a ++ cl b := by
  show (a.cps ++ b.cps).toList = _
  rw [Array.toList_append]
theorem add_len (a b : Str) : (a ++ b).length = a.length + b.length := by
  rw [← cl_len, cl_add, List.length_append, cl_len, cl_len]
theorem cl_one (c : Nat) : cl ⟨#[c]⟩ = [c] := rfl
theorem one_len (c : Nat) : (⟨#[c]⟩ : Str).length = 1 := rfl
theorem cl_inj {a b : Str} (h : cl a = cl b) : a = b := by
  obtain ⟨⟨a⟩⟩ := a
  obtain ⟨⟨b⟩⟩ := b
  have h : a = b := h
  rw [h]
def Low (c : Nat) : Prop := 97 ≤ c ∧ c ≤ 122
def Aln (c : Nat) : Prop := Low c ∨ (48 ≤ c ∧ c ≤ 57)
instance (c : Nat) : Decidable (Low c) := inferInstanceAs (Decidable (_ ∧ _))
instance (c : Nat) : Decidable (Aln c) := inferInstanceAs (Decidable (_ ∨ _))
/-- the signs of a name -/
def Nm (l : List Nat) : Prop := ∃ c r, l = c :: r ∧ Low c ∧ ∀ x ∈ r, Aln x
theorem Nm.all {l : List Nat} (h : Nm l) : ∀ x ∈ l, Aln x := by
  obtain ⟨c, r, rfl, hc, hr⟩ := h
  intro x hx
  rcases List.mem_cons.mp hx with rfl | hx
  · exact .inl hc
  · exact hr x hx
theorem Nm.snoc {l : List Nat} (h : Nm l) {x : Nat} (a : Aln x) : Nm (l ++ [x]) := by
  obtain ⟨c, r, rfl, hc, hr⟩ := h
  refine ⟨c, r ++ [x], rfl, hc, fun y hy => ?_⟩
  rcases List.mem_append.mp hy with hy | hy
  · exact hr y hy
  · rw [List.mem_singleton.mp hy]
    exact a
theorem Nm.head {l : List Nat} (h : Nm l) : ∃ c, l[0]? = some c ∧ Low c := by
  obtain ⟨c, r, rfl, hc, _⟩ := h
  exact ⟨c, rfl, hc⟩
theorem sz5 {n : Nat} (h : n ≤ 100000) : n ≤ sizeLine := Nat.le_trans h (by decide)
theorem sz5' {n : Nat} (h : n ≤ 100000) : n < sizeLine := Nat.lt_of_le_of_lt h (by decide)
section
variable {K : PySem.W.Frag} {H : Hp} {Q : VK} {i : Int} {z : Str}
/-- a sign of a text, at an open place -/
theorem sign (hl : z.length ≤ 100000) (h0 : 0 ≤ i) (h1 : i < (z.length : Int)) (g : ∀ c, (cl z)[i.toNat]? = some c → c ∈ cl z → Q (.str ⟨#[c]⟩) H) : rIxS (.str z) (.int i) H Q := by
  have hj : i.toNat < (cl z).length := by
    rw [cl_len]
    omega
  have e1 := List.getElem?_eq_getElem hj
  have e : atI (cl z) ((i.toNat : Nat) : Int) = some (cl z)[i.toNat] := atI_nat e1
  rw [show ((i.toNat : Nat) : Int) = i by omega] at e
  exact ⟨z, i, _, rfl, rfl, sz5 hl, e, g _ e1 (List.getElem_mem hj)⟩
end
end Rd
namespace Rd
open PySem PySem.Spec PyProof.Rows L2
section
variable {σ : L2.St} {H : Hp} {cc : TT} {tb : TS} {n b c : L2.St → Hp → Prop} {rr : VK}
/-- a while by an invariant with a number that falls -/
theorem whileX (W : Nat → L2.St → Hp → Prop) (m0 : Nat) (h0 : W m0 σ H)
    (hs : ∀ m σ H, W m σ H → cc σ H fun k H1 => if k = true then ∃ N : L2.St → Hp → Prop, (∀ σ' H', N σ' H' → ∃ j, j < m ∧ W j σ' H') ∧ tb ⟨N, rr, n, N⟩ σ H1 else n σ H1) : tWhile cc tb ⟨n, rr, b, c⟩ σ H :=
  ⟨W, ⟨m0, h0⟩, hs⟩
theorem exN {m : Nat} {W : Nat → L2.St → Hp → Prop} (h : tb ⟨fun σ' H' => ∃ j, j < m ∧ W j σ' H', rr, n, fun σ' H' => ∃ j, j < m ∧ W j σ' H'⟩ σ H) :
    ∃ N : L2.St → Hp → Prop, (∀ σ' H', N σ' H' → ∃ j, j < m ∧ W j σ' H') ∧ tb ⟨N, rr, n, N⟩ σ H := ⟨_, fun _ _ z => z, h⟩
theorem lc0 {x : V} {xs : List V} {A B : Prop} (h : B) : if decide (V.int (((x :: xs).length : Nat) : Int) = V.int 0) = true then A else B := by
  rw [if_neg]
  · exact h
  · intro e
    have e := V.int.inj (of_decide_eq_true e)
    rw [List.length_cons] at e
    omega
theorem ln0 {A B : Prop} (h : A) : if decide (V.int ((([] : List V).length : Nat) : Int) = V.int 0) = true then A else B := h
end
end Rd
namespace Rd
theorem log_small {n : Int} (h0 : 0 ≤ n) (h1 : n ≤ 1000000) : n.natAbs.log2 < 1920 :=
  Nat.lt_trans (PySem.Flt.log2_lt_of (k := 20) (by decide) (by omega)) (by decide)
end Rd
namespace Rd
open PySem PySem.Spec PyProof.Rows L2
/-- ways that meet -/
theorem cut {t u : TS} {n b c : L2.St → Hp → Prop} {rr : VK} {σ : L2.St} {H : Hp} (Mid : L2.St → Hp → Prop) (h : t ⟨Mid, rr, b, c⟩ σ H) (k : ∀ σ' H', Mid σ' H' → u ⟨n, rr, b, c⟩ σ' H') : C8.tCut t u ⟨n, rr, b, c⟩ σ H := ⟨Mid, h, k⟩
end Rd
/-! ### data without lists stays where only lists are written -/
namespace Rd
open PySem PySem.Spec PyProof.Rows L2
inductive Tp : PyData → Prop
  | non : Tp .none
  | bl (b : Bool) : Tp (.bool b)
  | int (i : Int) : Tp (.int i)
  | str (s : Str) : Tp (.str s)
  | tup {ds : List PyData} : (∀ d ∈ ds, Tp d) → Tp (.tuple ds)
def Tk (H H' : Hp) : Prop := ∀ b o, (∀ xs, o ≠ HO.lst xs) → H b = some o → H' b = some o
theorem Tk.trans {H H1 H2 : Hp} (a : Tk H H1) (b : Tk H1 H2) : Tk H H2 := fun c o n e => b c o n (a c o n e)
theorem Same.tk {H H' : Hp} (a : Same H H') : Tk H H' := fun c o _ e => a c o e
/-- two lists may be written -/
theorem tk_but {H H' : Hp} {p q : Addr} {xs ys : List V} (hp : H p = some (.lst xs)) (hq : H q = some (.lst ys)) (k : ∀ b o, b ≠ p → b ≠ q → H b = some o → H' b = some o) : Tk H H' := fun b o n e =>
  k b o (fun z => by rw [z, hp] at e; exact n xs (Option.some.inj e).symm) (fun z => by rw [z, hq] at e; exact n ys (Option.some.inj e).symm) e
section
variable {K : PySem.W.Frag} {H H' : Hp}
theorem sqT_tk {a : Addr} {xs : List V} (e : Tk H H') (h : SqT K H a xs) : SqT K H' a xs := by
  rcases h with (h | ⟨o, h⟩) | h
  · exact .inl (.inl (e _ _ (fun _ z => by cases z) h))
  · exact .inl (.inr ⟨o, e _ _ (fun _ z => by cases z) h⟩)
  · exact .inr h
mutual
theorem dp_tk (e : Tk H H') : ∀ {v : V} {d : PyData}, Dp K H v d → Tp d → Dp K H' v d
  | _, _, .non, _ => .non
  | _, _, .bl b, _ => .bl b
  | _, _, .int i, _ => .int i
  | _, _, .str s, _ => .str s
  | _, _, .lst _ _, t => nomatch t
  | _, _, .tup h r, .tup t => .tup (sqT_tk e h) (all_tk e r t)
theorem all_tk (e : Tk H H') : ∀ {v : List V} {d : List PyData}, DpAll K H v d → (∀ x ∈ d, Tp x) → DpAll K H' v d
  | _, _, .nil, _ => .nil
  | _, _, .cons h r, t => .cons (dp_tk e h (t _ List.mem_cons_self)) (all_tk e r fun x hx => t x (List.mem_cons_of_mem _ hx))
end
end
end Rd
namespace Rd
open PySem PySem.Spec PyProof.Rows L2
section
variable {K : PySem.W.Frag} {H : Hp} {Q : VK} {a b : Str} {A B : Prop} {p : Addr} {z x : V} {zs xs : List V}
theorem iteSt (e : a = b) (h : A) : if decide (V.str a = V.str b) = true then A else B := by
  subst e
  rw [if_pos (decide_eq_true rfl)]
  exact h
theorem iteSf (e : ¬ a = b) (h : B) : if decide (V.str a = V.str b) = true then A else B := by
  rw [if_neg]
  · exact h
  · intro z
    exact e (V.str.inj (of_decide_eq_true z))
theorem popR (h : H p = some (.lst (z :: zs).reverse)) (g : Q z (upd H p (.lst zs.reverse))) : rPop (.ref p) [] H Q := by
  rw [List.reverse_cons] at h
  refine ⟨p, _, z, rfl, rfl, h, ?_, ?_⟩
  · rw [List.length_append, List.length_singleton, Nat.add_sub_cancel, List.getElem?_append_right (Nat.le_refl _), Nat.sub_self]
    rfl
  · rw [List.dropLast_concat]
    exact g
theorem appR (h : H p = some (.lst zs.reverse)) (c : zs.length < 100000) (g : Q .non (upd H p (.lst (z :: zs).reverse))) : rAppend (.ref p) [z] H Q := by
  refine ⟨p, _, z, rfl, rfl, h, ?_, ?_⟩
  · rw [List.length_reverse]
    exact sz5' (by omega)
  · rw [← List.reverse_cons]
    exact g
theorem niQ (h : SqL K H p xs ∨ SqT K H p xs) (f : flatV x = true ∧ xs.all flatV = true) (e : inV x xs = true) (g : Q (.bl false) H) : rIn K true x (.ref p) H Q := by
  refine ⟨p, xs, rfl, h, f.1, f.2, ?_⟩
  rw [if_pos rfl, e]
  exact g
theorem inQ (h : SqL K H p xs ∨ SqT K H p xs) (f : flatV x = true ∧ xs.all flatV = true) (e : inV x xs = true) (g : Q (.bl true) H) : rIn K false x (.ref p) H Q := by
  refine ⟨p, xs, rfl, h, f.1, f.2, ?_⟩
  rw [if_neg Bool.false_ne_true, e]
  exact g
end
end Rd
namespace Rd
open PySem PySem.Spec PyProof.Rows L2
theorem same_put {H H' : Hp} {p : Addr} (s : Same H H') (f : H p = none) (o : HO) : Same H (upd H' p o) := fun b u e => (upd_ne (ne_of_none e f)).trans (s b u e)
theorem tk_put {H : Hp} {p : Addr} {xs : List V} (h : H p = some (.lst xs)) (o : HO) : Tk H (upd H p o) := fun b u n e => (upd_ne fun z => by
  rw [z, h] at e
  exact n xs (Option.some.inj e).symm).trans e
theorem tk_new {H : Hp} {p : Addr} (h : H p = none) (o : HO) : Tk H (upd H p o) := fun b u _ e => (upd_ne (ne_of_none e h)).trans e
theorem ne_tl {H : Hp} {p q : Addr} {xs ys : List V} (h : H p = some (.tup xs)) (h' : H q = some (.lst ys)) : p ≠ q := fun z => by
  rw [z, h'] at h
  cases h
end Rd
/-! ### texts whose signs are signs -/
namespace Rd
open PySem PySem.Spec PyProof.Rows L2
def TxOk (z : Str) : Prop := z.cps.all (fun c => decide (c < 0x110000)) = true
instance (z : Str) : Decidable (TxOk z) := inferInstanceAs (Decidable (_ = true))
theorem txOk_iff {z : Str} : TxOk z ↔ ∀ c ∈ cl z, c < 0x110000 := by
  unfold TxOk
  rw [← Array.all_toList, List.all_eq_true]
  exact ⟨fun h c hc => of_decide_eq_true (h c hc), fun h c hc => decide_eq_true (h c hc)⟩
theorem txOk_nm {z : Str} (h : Nm (cl z)) : TxOk z := txOk_iff.mpr fun c hc => by
  rcases h.all c hc with a | a
  · have := a.2
    omega
  · have := a.2
    omega
theorem txOk_num (n : Int) : TxOk (toString n) := txOk_iff.mpr fun c hc => by
  have e : cl (PySem.Str.ofString (toString n)) = (toString n).toList.map Char.toNat := signs_ofString _
  have hc : c ∈ cl (PySem.Str.ofString (toString n)) := hc
  rw [e] at hc
  obtain ⟨x, _, rfl⟩ := List.mem_map.mp hc
  have v := x.valid
  have : x.toNat < 0x110000 := by
    rcases v with v | v
    · have : x.toNat < 0xd800 := v
      omega
    · exact v.2
  exact this
theorem txOk_add {a b : Str} (h : TxOk a) (h' : TxOk b) : TxOk (a ++ b) := txOk_iff.mpr fun c hc => by
  rw [cl_add] at hc
  rcases List.mem_append.mp hc with hc | hc
  · exact txOk_iff.mp h c hc
  · exact txOk_iff.mp h' c hc
end Rd
/-! ### within a comprehension: the written part by its own name -/
namespace Rd
open PySem PySem.Spec PyProof.Rows L2
section
variable {X : Cx} {K : PySem.W.Frag}
theorem sl_listK (h : X.K = K) : SlR X (rSlL K) := h ▸ sl_list
theorem ix_listK (h : X.K = K) : IxR X (rIxL K) := h ▸ ix_list
theorem ix_tupK (h : X.K = K) : IxR X (rIxT K) := h ▸ ix_tup
theorem q_lenK (h : X.K = K) : CallR X (.builtin "len") (rLenQ K) := h ▸ q_len
theorem q_listK (h : X.K = K) : CallR X (.type "list") (rListQ K) := h ▸ q_list
theorem q_tupK (h : X.K = K) : CallR X (.type "tuple") (rTupQ K) := h ▸ q_tup
end
end Rd
/-! while an exception is handled: a list walked by a comprehension, isinstance and fields of that exception -/
namespace Ho
open PySem PySem.Spec PyProof.Rows L2 HotX L2H
section
variable {prog : Program} {w : World} {A : Around} {E : Value → Shared → Prop} {s : Shared}
/-- a list's iterator has come to its end -/
theorem list_end {it l x1 : Addr} {i : Nat} {its : Array Value} {Q : Option Value → Shared → Prop} (hot : HotAt A x1 s.heap) (st : s.heap.IsListIter it l i) (hl : s.heap.IsList l its) (out : its[i]? = none)
    (k : ∀ h', (∀ b o, b ≠ it → s.heap.get? b = some o → h'.get? b = some o) → Q none { s with heap := h' }) : wpAny (model prog w) A (pyNext (.ref it)) Q E s := by
  have ty := st.typeIs
  obtain ⟨oi, gi, ci, di⟩ := st
  obtain ⟨ol, gl, _, n, dl⟩ := hl
  obtain ⟨hh, o1, vs1, g1, d1, c1⟩ := hot
  have apart : x1 ≠ it := by
    rintro rfl
    rw [gi] at g1
    cases g1
    rw [di] at d1
    cases d1
    cases c1
  unfold pyNext
  refine wpAny_bind (wpAny_attempt (wpAny_callSpecial?_slot (name := Str.ofString "__next__") ty slot_listiter_next
    (wpAny_call_entry slot_listiter_next ty entry_listiter_next ?_ (args_listiter_next _))))
  show wpAny _ _ (field (.ref it) 0 >>= _) _ _ s
  refine wpAny_bind (wpAny_field gi di (x := .ref l) rfl ?_)
  have notN : ¬ (Value.ref l == Value.none) = true := Bool.false_ne_true
  show wpAny _ _ (if (Value.ref l == Value.none) = true then _ else _) _ _ s
  rw [if_neg notN]
  show wpAny _ _ (field (.ref it) 1 >>= _) _ _ s
  refine wpAny_bind (wpAny_field gi di (x := .int i 0) rfl ?_)
  show wpAny _ _ (seqItems? (.ref l) >>= _) _ _ s
  refine wpAny_bind (wpAny_seqItems gl dl ?_)
  simp only [Int.toNat_natCast, out]
  refine wpAny_bind (wpAny_rule (wpAny_bind (wpAny_setField gi di (by simp) ?_)))
  show wpAny _ _ (newExc (.type "StopIteration") [] >>= _) _ _ _
  refine wpAny_bind ?_
  simp only [newExc, newTuple]
  refine wpAny_bind (wpAny_newObj_type ?_ (by size_fits))
  refine wpAny_bind (m := firstArgMember _ _) (wpAny_of_eq (a := Value.none) (by first | rfl | (simp only [firstArgMember]; rfl)) ?_)
  refine wpAny_newObj_type ?_ (by size_fits)
  have g1' := (Heap.get?_update_other s.heap (Obj.mapFields (·.setIfInBounds 0 Value.none)) (Ne.symm apart)).trans g1
  refine raiseNew_hot (x1 := x1) ⟨hh, o1, vs1, ?_, d1, c1⟩ ?_ (Heap.get?_push_size _ rfl) rfl (by first | (simp; done) | (simp; omega) | (simp only [Array.size_append]; simp; omega)) ?_
  · first
    | exact Heap.get?_push_of_some _ (Heap.get?_push_of_some _ g1')
    | exact Heap.get?_push_of_some _ (Heap.get?_push_of_some _ ((Heap.get?_update_other _ _ (Ne.symm apart)).trans g1))
  · refine Nat.ne_of_lt (Heap.lt_size (o := o1) (Heap.get?_push_of_some _ ?_))
    exact (Heap.get?_update_other _ _ (Ne.symm apart)).trans g1
  refine wpAny_bind (wpAny_isInstance (T := "StopIteration") (b := true) ⟨_, Heap.get?_update_self _ (Heap.get?_push_size _ rfl) rfl, rfl⟩ isSubtype_stop ?_)
  refine wpAny_pure (k _ fun b o hb e => ?_)
  have e2 := (Heap.get?_update_other s.heap (Obj.mapFields (·.setIfInBounds 0 Value.none)) (Ne.symm hb)).trans e
  have e3 : ∀ f, (s.heap.update it f).get? b = some o := fun f => (Heap.get?_update_other _ f (Ne.symm hb)).trans e
  rw [Heap.get?_update_other _ _ (Nat.ne_of_gt (Heap.lt_size (o := o) (Heap.get?_push_of_some _ (e3 _))))]
  exact Heap.get?_push_of_some _ (Heap.get?_push_of_some _ (e3 _))
end
section
variable {X : Cx} {pins : List (Addr × Obj)} {σ : L2.St} {H : Hp} {s : Shared} {a it : Addr} {i : Nat} {E : Value → Shared → Prop} {tg : Expr}
/-- the next item of a list that is walked -/
theorem walk_item (I : Inv X pins σ H s) (f : FpOk X pins H it) (st : s.heap.IsListIter it a i) (g : ∃ xs x, SqL X.K H a xs ∧ xs[i]? = some x) :
    wpAny (model X.prog X.w) X.A (pyNext (.ref it)) (fun r s1 => ∃ u, r = some u ∧ wpAny (model X.prog X.w) X.A (letOwnedTupleGo tg (.ref it) u)
      (fun _ s2 => ∃ x, Inv X pins σ H s2 ∧ RelV x u ∧ (Itl X.K a).yld i H x H ∧ s2.heap.IsListIter it a (i + 1)) E s1) E s := by
  obtain ⟨xs, x, hq, hx⟩ := g
  obtain ⟨vs, rel, lay, _⟩ := I.list hq
  obtain ⟨u, hu, ru⟩ := rel.get hx
  obtain ⟨n0, n1, n2, n3, n4, n5⟩ := f
  refine wpAny_pyNext_list_item st lay.isList (x := u) (by simpa using hu) fun h1 st1 but => ?_
  have J : Inv X pins σ H { s with heap := h1 } := I.turned (t' := s.toks) (fun b o nb eb => (but.2 b nb).trans eb) n0 n1 n3 n4 n5
  have st2 := st1
  obtain ⟨o, eo, co, dO⟩ := st1
  refine ⟨u, rfl, go_of (s := { s with heap := h1 }) eo co dO (by decide) ⟨x, J, ru, ⟨rfl, fun ys hy => ?_⟩, st2⟩⟩
  rw [I.list_inj hy hq]
  exact hx
/-- no further item, an exception being handled -/
theorem walk_done {p : Addr × Obj} (hot : Hot1 X.A p) (hp : p ∈ X.pn ++ pins) (I : Inv X pins σ H s) (f : FpOk X pins H it) (st : s.heap.IsListIter it a i) (g : ∃ xs, SqL X.K H a xs ∧ xs.length ≤ i) :
    wpAny (model X.prog X.w) X.A (pyNext (.ref it)) (fun r s1 => r = none ∧ Inv X pins σ H s1) E s := by
  obtain ⟨xs, hq, hx⟩ := g
  obtain ⟨vs, rel, lay, _⟩ := I.list hq
  obtain ⟨n0, n1, n2, n3, n4, n5⟩ := f
  have len := rel.length
  obtain ⟨hh, fs, df, cf⟩ := hot
  exact list_end ⟨hh, p.2, fs, (I.pin p hp).1, df, cf⟩ st lay.isList (by simp; omega) fun h1 k => ⟨rfl, I.turned (t' := s.toks) (fun b o nb eb => k b o nb eb) n0 n1 n3 n4 n5⟩
end
section
variable {X : Cx}
/-- [elt for tg in iter if ..] over a list, an exception being handled -/
theorem pe_lcH {elt tg iter : Expr} {ifs : List Expr} {scope : Scope} {own : List (Str × Nat)} {pos : Pos} {tl : TE} {g : TG} {tt : TT} {te : TE} (hot : HotC X) (hN : X.N.Nodup) (hi : PE X iter tl) (ok : BlkOk X.N X.env.scope scope own)
    (hg : ∀ (s : Shared) (H : Hp) (C : Addr) (cl : List (Str × Addr)) (fp : List Addr), PG (X.blk s H scope (compEnvC scope cl C X.env) fp) tg g)
    (ht : ∀ (s : Shared) (H : Hp) (C : Addr) (cl : List (Str × Addr)) (fp : List Addr), PTs (X.blk s H scope (compEnvC scope cl C X.env) fp) ifs tt)
    (he : ∀ (s : Shared) (H : Hp) (C : Addr) (cl : List (Str × Addr)) (fp : List Addr), PE (X.blk s H scope (compEnvC scope cl C X.env) fp) elt te)
    (hs : ∀ x, foldedSetIterable iter X.env x = pure x := by intro _; rfl) :
    PE X (.ListComp elt [⟨tg, iter, ifs, 0⟩] scope pos) (tLc (iList X.K tl) g tt te (own.map (·.2))) := by
  refine ⟨fun pins s σ H Q I h => ?_⟩
  obtain ⟨p, hot1, hp⟩ := hot
  rw [eval_ListComp]
  have cells : ∀ y ∈ scope.names, y.2 = .free → ∃ c, X.env.cells.lookup y.1 = some c := by
    intro y hy ey
    cases ok.free y hy ey with
    | inl k => exact I.ok.has _ (.inl k)
    | inr k => exact I.ok.has _ (.inr k)
  refine wpAny_comprehension_free (use := none) rfl hs (closure_ok cells) ok.kind (fun y hy ey => by rw [ok.uniq y hy, ey])
    (thn (hi.run pins s σ H _ I h) fun v s1 h1 => ?_)
  obtain ⟨x, H1, I1, r1, a, ex, ⟨xs, hq⟩, q⟩ := h1
  subst ex
  cases r1
  obtain ⟨vs, rel, lay, _⟩ := I1.list hq
  refine wpAny_pyIter_list lay.isList ?_
  -- the iterator
  generalize hs2 : ({ s1 with heap := s1.heap.push { cls := .type "list_iterator", data := .fields #[.ref a, .int 0 0] } } : Shared) = s2
  generalize hit : s1.heap.objs.size = it
  have I2 : Inv X pins σ H1 s2 := by
    rw [← hs2]
    exact I1.kept (t' := s1.toks) fun b o eb => Heap.get?_push_of_some _ eb
  have st2 : s2.heap.IsListIter it a 0 := by
    rw [← hs2, ← hit]
    exact ⟨_, Heap.get?_push_size _ rfl, rfl, rfl⟩
  have f2 : FpOk X pins H1 it := I1.fpOk (Nat.le_of_eq hit) (I1.hok.fresh (Nat.le_of_eq hit))
  refine wpAny_newObj_type (newEnv_comp ?_) (by show 0 ≤ sizeLine; decide)
  generalize hD : s2.heap.objs.size = D
  have freeD : H1 D = none := I2.hok.fresh (Nat.le_of_eq hD)
  obtain ⟨W, ⟨m0, w0⟩, turn⟩ := q D freeD
  -- the new list
  generalize hs3 : ({ s2 with heap := s2.heap.push { cls := .type "list", data := .seq ([] : List Value).toArray } } : Shared) = s3
  have h3 : s3.heap = s2.heap.push { cls := .type "list", data := .seq ([] : List Value).toArray } := by rw [← hs3]
  have I3 : Inv X pins σ (upd H1 D (.lst [])) s3 := by
    rw [← hs3]
    refine I2.laid (t' := s2.toks) (fun b o eb => Heap.get?_push_of_some _ eb) (Nat.le_of_eq hD) ⟨Nat.zero_le _, [], 0, .nil, ?_⟩
    rw [← hD]
    exact Heap.get?_push_size _ rfl
  have itlt : it < s2.heap.objs.size := by
    obtain ⟨o, eo, _⟩ := st2
    exact Heap.lt_size eo
  have f3 : ∀ b ∈ [it], FpOk X pins (upd H1 D (.lst [])) b ∧ b < s3.heap.objs.size := by
    intro b hb
    cases List.mem_singleton.mp hb
    refine ⟨⟨?_, f2.2⟩, ?_⟩
    · rw [upd_ne (by rw [← hD]; exact Nat.ne_of_lt itlt)]
      exact f2.1
    · rw [h3, Heap.size_push]
      exact Nat.lt_succ_of_lt itlt
  have st3 : s3.heap.IsListIter it a 0 := by
    rw [h3]
    exact st2.at fun o eo => Heap.get?_push_of_some _ eo
  have I4 := block_start I3 ok hN f3
  have pg := hg s3 (upd H1 D (.lst [])) s3.heap.objs.size (cellsFrom (s3.heap.objs.size + 1) scope.names (cloFrom X.env.cells scope.names [])) [it]
  have pt := ht s3 (upd H1 D (.lst [])) s3.heap.objs.size (cellsFrom (s3.heap.objs.size + 1) scope.names (cloFrom X.env.cells scope.names [])) [it]
  have pe := he s3 (upd H1 D (.lst [])) s3.heap.objs.size (cellsFrom (s3.heap.objs.size + 1) scope.names (cloFrom X.env.cells scope.names [])) [it]
  show codeAny _ _ (.compStart (.ListComp elt [⟨tg, iter, ifs, 0⟩] scope pos) 0 (.ref it) (.ref D) (compEnvC scope (cellsFrom (s3.heap.objs.size + 1) scope.names (cloFrom X.env.cells scope.names [])) s3.heap.objs.size X.env))
    (compPost (model X.prog X.w) X.A X.xe none (EP X pins σ Q) (.ref D) s3.heap.objs.size) { s3 with heap := pushCells (s3.heap.push { cls := .type "dict", data := .dict #[] }) scope.names }
  have nit : (upd H1 D (.lst [])) it = none := (f3 it (List.mem_singleton.mpr rfl)).1.1
  have P3 := I3.pin p (List.mem_append_left _ hp)
  generalize hce : compEnvC scope (cellsFrom (s3.heap.objs.size + 1) scope.names (cloFrom X.env.cells scope.names [])) s3.heap.objs.size X.env = ce at I4 pg pt pe ⊢
  have cL : ce.locals = s3.heap.objs.size := by
    subst hce
    rfl
  generalize hH3 : upd H1 D (.lst []) = H3 at I3 I4 pg pt pe w0 nit f3 P3
  generalize hs4 : ({ s3 with heap := pushCells (s3.heap.push { cls := .type "dict", data := .dict #[] }) scope.names } : Shared) = s4 at I4 ⊢
  have up4 : ∀ b o, s3.heap.get? b = some o → s4.heap.get? b = some o := by
    intro b o eb
    rw [← hs4]
    exact pushCells_keeps _ _ _ _ (Heap.get?_push_of_some _ eb)
  have st4 : s4.heap.IsListIter it a 0 := st3.at fun o eo => up4 _ o eo
  -- the handled exception stays pinned within the block
  have pfs : p.1 ∉ (X.blk s3 H3 scope ce [it]).fs := by
    intro z
    rcases List.mem_cons.mp (I3.stkSub p.1 z) with z | z
    · exact P3.2.2.1 z
    · exact P3.2.2.2.1 z
  have I4 : Inv (X.blk s3 H3 scope ce [it]) [p] (wipe σ (own.map (·.2))) H3 s4 := I4.pins_of fun r hr => by
    have er : r = p := by simpa using (show r ∈ ([] : List (Addr × Obj)) ++ [p] from hr)
    subst er
    refine ⟨up4 _ _ P3.1, P3.2.1, ?_, pfs, P3.2.2.2.2⟩
    rw [cL]
    exact Nat.ne_of_lt (Heap.lt_size P3.1)
  have pit : p.1 ≠ it := f2.2.2.2.2.2 p (List.mem_append_left _ hp)
  have stat : ∀ {σ' : L2.St} {H' : Hp} {s' : Shared}, Inv (X.blk s3 H3 scope ce [it]) [p] σ' H' s' → H' it = none → FpOk (X.blk s3 H3 scope ce [it]) [p] H' it := fun {σ' H' s'} J n =>
    have mem : it ∈ [it] := List.mem_singleton.mpr rfl
    ⟨n, (J.ok.exf it mem).1, J.ok.exfs it mem, .inl mem, fun y c ey => (J.ok.exf it mem).2 y c ey, fun r hr => by
      have er : r = p := by simpa using (show r ∈ ([] : List (Addr × Obj)) ++ [p] from hr)
      rw [er]
      exact pit⟩
  have loop : codeAny (model X.prog X.w) X.A (.compLoop (.ListComp elt [⟨tg, iter, ifs, 0⟩] scope pos) 0 (.ref it) (.ref D) ce) (compPost (model X.prog X.w) X.A X.xe none (EP X pins σ Q) (.ref D) s3.heap.objs.size) s4 := by
    refine compLoop_any (fun n s' => ∃ i H', Inv (X.blk s3 H3 scope ce [it]) [p] (wipe σ (own.map (·.2))) H' s' ∧ s'.heap.IsListIter it a i ∧ H' it = none ∧ W i n H') ?_ m0 ⟨0, H3, I4, st4, nit, w0⟩
    rintro n s5 ⟨i, H5, I5, st5, n5, w5⟩
    rcases turn i n H5 w5 with ⟨stop, qq⟩ | ⟨go, Nx, hNx, step⟩
    · refine thnF (walk_done (X := X.blk s3 H3 scope ce [it]) (E := fun _ _ => False) hot1 (List.mem_append_right _ (List.mem_singleton.mpr rfl)) I5 (stat I5 n5) st5 stop) fun r s6 ⟨hr, I6⟩ => ?_
      subst hr
      have I7 : Inv X pins σ H5 s6 := I3.call' (ch := [it]) I6.os I6.base I6.hok I6.bare fun b hb =>
        have z := (f3 b hb).1
        ⟨z.2.2.2.1, z.2.1, z.2.2.2.2.1, z.2.2.2.2.2⟩
      have nC : H5 s3.heap.objs.size = none := by
        have z : H5 ce.locals = none := I6.free
        rw [cL] at z
        exact z
      obtain ⟨m, hn, _⟩ := I6.loc
      have hn : s6.heap.Ns ce.locals m := hn
      rw [cL] at hn
      obtain ⟨k0, k1, k2, k3, k4, k5⟩ := I3.fpOk (Nat.le_refl _) nC
      exact ⟨m, hn, fun h9 sb => ⟨.ref D, H5, I7.turned (t' := s6.toks) (fun b o nb eb => (sb.2 b nb).trans eb) k0 k1 k3 k4 k5, rfl, qq⟩⟩
    · refine thnF (walk_item (tg := tg) (X := X.blk s3 H3 scope ce [it]) (E := fun _ _ => False) I5 (stat I5 n5) st5 go) fun r s6 ⟨u, hr, h6⟩ => ?_
      subst hr
      refine thnF h6 fun _ s7 ⟨x, I7, r7, y7, st7⟩ => ?_
      have objs : ∀ b ∈ [it], ∃ o, s7.heap.get? b = some o ∧ ∀ v, o.data ≠ .cell v := by
        intro b hb
        cases List.mem_singleton.mp hb
        obtain ⟨o, eo, _, dO⟩ := st7
        exact ⟨o, eo, fun v z => by rw [dO] at z; cases z⟩
      have I7' := I7.pinned (fp := [it]) (fun b hb => by cases List.mem_singleton.mp hb; exact stat I7 n5) objs
      refine thnF (pg.run _ s7 _ H5 x u _ I7' r7 (step x H5 y7)) fun _ s8 ⟨σ8, H8, I8, hw8, q8⟩ => ?_
      refine thnF (pt.run _ s8 σ8 H8 _ I8 q8) fun b s9 ⟨H9, I9, q9⟩ => ?_
      have fin : ∀ {s' : Shared} {H' : Hp}, Inv (X.blk s3 H3 scope ce [it]) ([p] ++ pinsAt [it] s7.heap) σ8 H' s' → Nx H' →
          ∃ m, m < n ∧ ∃ i H', Inv (X.blk s3 H3 scope ce [it]) [p] (wipe σ (own.map (·.2))) H' s' ∧ s'.heap.IsListIter it a i ∧ H' it = none ∧ W i m H' := by
        intro s' H' J nx
        obtain ⟨m', hm, w'⟩ := hNx H' nx
        obtain ⟨o, eo, ho⟩ := id st7
        have z := J.pin (it, o) (List.mem_append_right _ (List.mem_append_right _ (mem_pinsAt (List.mem_singleton.mpr rfl) eo)))
        have hl : (wipe σ (own.map (·.2))).length = σ8.length := by rw [← hw8, wipe_length]
        refine ⟨m', hm, i + 1, H', (J.unpinned (pins := [p])).weak hl (fun j v ej => ?_), ⟨o, z.1, ho⟩, z.2.1, w'⟩
        rw [← hw8] at ej
        exact (wipe_some ej).1
      cases b with
      | false =>
        simp only [Bool.false_eq_true, if_false] at q9 ⊢
        exact fin I9 q9
      | true =>
        simp only [if_true] at q9 ⊢
        refine thnF (pe.run _ s9 σ8 H9 _ I9 q9) fun z s10 ⟨yv, H10, I10, r10, acc, hD10, hz10, nx⟩ => ?_
        exact app_ok (X := X.blk s3 H3 scope ce [it]) I10 hD10 hz10 r10 fun s11 I11 => fin I11 nx
  exact codeAny_compStart_list loop (wpAny_pyIter_listiter st4 loop)
end
/-! ### defs that may raise, defs called while an exception is handled -/
section
variable {P : Program} {w : World} {K : PySem.W.Frag} {mg : Str → Option Value} {base : Heap}
theorem okN {x qual : Str} {st : Stmt} {f : Addr} {fd : FuncData} {N ps : List Str} {k : Nat} {sp : Sp} (F : L2.Fun K x qual st f fd) (S : FnScope N ps (defScope st)) (len : ∀ vs H Q E, sp vs H Q E → vs.length = ps.length)
    (body : ∀ (cdv : Value) (A : Around) (outer : List Env) (s : Shared) (H : Hp) (vs : List V) (Q : VK) (E : XK), Room k (A.deeper (envOfC qual (defScope st) s.heap.objs.size f cdv)) → sp vs H Q E →
      ∃ t, PSs (cxOf (L2N.CX P w) P w K mg base N qual (defScope st) f cdv A outer s H E) (defBody st) t ∧ t ⟨fun _ H' => Q .non H', Q, fun _ _ => False, fun _ _ => False⟩ (L2.start N vs) H) :
    FnOk P w K mg base (L2N.CX P w) (k + 1) f fd ps sp := by
  obtain ⟨oc, od, kV, doc, pm, an, cdv, ct, osl, rfl, lk, hcd⟩ := F.ex
  exact fn_of lk hcd S len fun A outer s H vs Q E hr h => body cdv A outer s H vs Q E hr h
theorem okH {x qual : Str} {st : Stmt} {f : Addr} {fd : FuncData} {N ps : List Str} {k : Nat} {sp : Sp} (F : L2.Fun K x qual st f fd) (S : FnScope N ps (defScope st)) (len : ∀ vs H Q E, sp vs H Q E → vs.length = ps.length)
    (body : ∀ (cdv : Value) (A : Around) (outer : List Env) (s : Shared) (H : Hp) (vs : List V) (Q : VK) (E : XK) (p : Addr × Obj), Hot1 A p → RoomH k (A.deeper (envOfC qual (defScope st) s.heap.objs.size f cdv)) → sp vs H Q E →
      ∃ t, PSs (cxH CX0 P w K mg base N qual (defScope st) f cdv A outer s H E p) (defBody st) t ∧ t ⟨fun _ H' => Q .non H', Q, fun _ _ => False, fun _ _ => False⟩ (L2.start N vs) H) :
    FnH P w K mg base CX0 (k + 1) f fd ps sp := by
  obtain ⟨oc, od, kV, doc, pm, an, cdv, ct, osl, rfl, lk, hcd⟩ := F.ex
  exact fn_ofH lk hcd S len fun A outer s H vs Q E p hot hr h => body cdv A outer s H vs Q E p hot hr h
/-- the def of this name keeps this promise; it may raise -/
def CalN (P : Program) (w : World) (K : PySem.W.Frag) (mg : Str → Option Value) (base : Heap) (k : Nat) (x : Str) (ps : List Str) (sp : Sp) : Prop :=
  ∃ f fd, FnOk P w K mg base (L2N.CX P w) k f fd ps sp ∧ mg x = some (.ref f) ∧ PySem.W.keepIn K (.ref f) = true ∧ Binds K fd ps []
/-- the def of this name keeps this promise while an exception is handled -/
def CalH (P : Program) (w : World) (K : PySem.W.Frag) (mg : Str → Option Value) (base : Heap) (k : Nat) (x : Str) (ps : List Str) (sp : Sp) : Prop :=
  ∃ f fd, FnH P w K mg base CX0 k f fd ps sp ∧ mg x = some (.ref f) ∧ PySem.W.keepIn K (.ref f) = true ∧ Binds K fd ps []
theorem defN {x : Str} {st : Stmt} {ps N : List Str} {k : Nat} {sp : Sp} (F : Rd.Def K mg x st ps) (S : FnScope N ps (defScope st)) (len : ∀ vs H Q E, sp vs H Q E → vs.length = ps.length)
    (body : ∀ (f : Addr) (cdv : Value) (A : Around) (outer : List Env) (s : Shared) (H : Hp) (vs : List V) (Q : VK) (E : XK), Room k (A.deeper (envOfC x (defScope st) s.heap.objs.size f cdv)) → sp vs H Q E →
      ∃ t, PSs (cxOf (L2N.CX P w) P w K mg base N x (defScope st) f cdv A outer s H E) (defBody st) t ∧ t ⟨fun _ H' => Q .non H', Q, fun _ _ => False, fun _ _ => False⟩ (L2.start N vs) H) : CalN P w K mg base (k + 1) x ps sp := by
  obtain ⟨f, fd, F, m, b⟩ := F
  exact ⟨f, fd, okN F S len (fun cdv A outer s H vs Q E hr h => body f cdv A outer s H vs Q E hr h), m, F.kp, b⟩
theorem defH {x : Str} {st : Stmt} {ps N : List Str} {k : Nat} {sp : Sp} (F : Rd.Def K mg x st ps) (S : FnScope N ps (defScope st)) (len : ∀ vs H Q E, sp vs H Q E → vs.length = ps.length)
    (body : ∀ (f : Addr) (cdv : Value) (A : Around) (outer : List Env) (s : Shared) (H : Hp) (vs : List V) (Q : VK) (E : XK) (p : Addr × Obj), Hot1 A p → RoomH k (A.deeper (envOfC x (defScope st) s.heap.objs.size f cdv)) → sp vs H Q E →
      ∃ t, PSs (cxH CX0 P w K mg base N x (defScope st) f cdv A outer s H E p) (defBody st) t ∧ t ⟨fun _ H' => Q .non H', Q, fun _ _ => False, fun _ _ => False⟩ (L2.start N vs) H) : CalH P w K mg base (k + 1) x ps sp := by
  obtain ⟨f, fd, F, m, b⟩ := F
  exact ⟨f, fd, okH F S len (fun cdv A outer s H vs Q E p hot hr h => body f cdv A outer s H vs Q E p hot hr h), m, F.kp, b⟩
theorem CalN.mono {x : Str} {ps : List Str} {j k : Nat} {sp : Sp} (C : CalN P w K mg base j x ps sp) (h : j ≤ k) : CalN P w K mg base k x ps sp := by
  obtain ⟨f, fd, F, r⟩ := C
  exact ⟨f, fd, F.mono h, r⟩
end
theorem pe_calN {X : Cx} {W : WX} {e : Expr} {es : List Expr} {t : TA} {p pos : Pos} {j k : Nat} {x : Str} {ps : List Str} {sp : Sp} (C : CalN X.prog X.w X.K X.mg X.base j x ps sp) (tk : L2N.Takes X W) (hr : Room k X.A) (ha : PA X (e :: es) t) (hk : j ≤ k := by decide) (hg : Gl X x := by rfl)
    (hdb : (x == ("__debug__" : Str)) = false := by decide) (he : starEach (e :: es) X.env = (false, eval e X.env) :: starEach es X.env := by rfl) (hpl : (backTo pos (starEach es X.env)).any (·.1) = false := by rfl) :
    PE X (.Call (.Name x p) (e :: es) [] pos) (tCallS sp (WE W) t) := by
  obtain ⟨f, fd, F, m, kp, b⟩ := C
  exact pe_callS F (hr.mono hk) hg m kp b (fun σ => L2N.passAt tk σ) ha hdb he hpl
theorem pe_calH {X : Cx} {e : Expr} {es : List Expr} {t : TA} {p pos : Pos} {j k : Nat} {x : Str} {ps : List Str} {sp : Sp} (C : CalH X.prog X.w X.K X.mg X.base j x ps sp) (hot : HotC X) (hr : RoomH k X.A) (ha : PA X (e :: es) t) (hk : j ≤ k := by decide) (hg : Gl X x := by rfl)
    (hdb : (x == ("__debug__" : Str)) = false := by decide) (he : starEach (e :: es) X.env = (false, eval e X.env) :: starEach es X.env := by rfl) (hpl : (backTo pos (starEach es X.env)).any (·.1) = false := by rfl) :
    PE X (.Call (.Name x p) (e :: es) [] pos) (tCallS sp (fun _ => E0) t) := by
  obtain ⟨f, fd, F, m, kp, b⟩ := C
  exact pe_callH F (hr.mono hk) hot hg m kp b (fun σ _ _ _ _ _ _ h => h.elim) ha hdb he hpl
/-! ### the exception that is handled: its fields, its class -/
/-- a is a pinned exception of the class at C, its dict holds fs -/
def ExAt (pn : List (Addr × Obj)) (H : Hp) (a C : Addr) (fs : List (Str × V)) : Prop := ∃ (p : Addr × Obj) (dd : Addr), p ∈ pn ∧ p.1 = a ∧ p.2.cls = .ref C ∧ p.2.dict = some dd ∧ (∃ vs, p.2.data = .fields vs) ∧ H dd = some (.xd fs)
/-- e.f -/
def tXe (K : PySem.W.Frag) (pn : List (Addr × Obj)) (f : Str) (te : TE) : TE := fun σ H Q => te σ H fun x H1 => ∃ (a C : Addr) (fs : List (Str × V)) (v : V), x = .ref a ∧ ExAt pn H1 a C fs ∧ XfC K C ∧ PySem.W.findIn K (.ref C) f = some none ∧ fs.lookup f = some v ∧ Q v H1
section
variable {X : Cx} {pins : List (Addr × Obj)} {σ : L2.St} {H : Hp} {s : Shared}
theorem ExAt.inst {a C : Addr} {fs : List (Str × V)} (x : ExAt X.pn H a C fs) (I : Inv X pins σ H s) : ∃ (oe od : Obj) (dd : Addr) (mA : Str → Option Value), PySem.W.InstAt s.heap a oe C (some od) ∧ (∀ f, PySem.W.lookIn f od = some (mA f)) ∧ ∀ f, RelO (fs.lookup f) (mA f) := by
  obtain ⟨p, dd, hp, rfl, hc, hd, ⟨vs, hv⟩, hx⟩ := x
  obtain ⟨gp, _⟩ := I.pin p (List.mem_append_left _ hp)
  obtain ⟨mA, ns, rel⟩ := (show ObjOk X.prog X.w H s.heap dd (.xd fs) from I.hok dd _ hx)
  obtain ⟨od, ho, hl⟩ := lookIn_ns ns
  refine ⟨p.2, od, dd, mA, ⟨gp, hc, ?_, ?_⟩, fun f => hl f, rel⟩
  · unfold PySem.W.notCls
    rw [hv] <;> rfl
  · rw [hd]
    exact ho
theorem pe_xe {e : Expr} {te : TE} {pos : Pos} {n : Str} (he : PE X e te) (hb : attributeBase e n X.env (eval e X.env) = eval e X.env := by rfl) : PE X (.Attribute e n pos) (tXe X.K X.pn n te) := by
  refine ⟨fun pins s σ H Q I h => ?_⟩
  refine attr_of hb (thn (he.run pins s σ H _ I h) fun u s1 hh => ?_)
  obtain ⟨x, H1, I1, rx, a, C, fs, v, ex, at1, T, hno, l, q⟩ := hh
  subst ex
  obtain rfl : u = Value.ref a := rx
  obtain ⟨oe, od, dd, mA, J, hl, rel⟩ := at1.inst I1
  obtain ⟨u, hu, ru⟩ := RelO.some_of (v := v) (o := mA n) (by rw [← l]; exact rel n)
  exact HandSPX.exc_get I1.kIn J T.ga T.gg T.exC (PySem.W.findObj_own T.hdC hno rfl (by rw [hl, hu])) (handed_of ru) ⟨v, H1, I1.tok _, ru, q⟩
/-- what the written part says of a class of errors, for isinstance -/
structure XkC (K : PySem.W.Frag) (C : Addr) : Prop where
  cl : (PySem.W.clsIn K C).isSome = true
  ca : PySem.W.findIn K (.ref C) "__class__" = some (some (.builtin "object.__class__"))
  ob : PySem.W.mroIn K C (.type "object") = some true
structure XkO (K : PySem.W.Frag) : Prop where
  gt : PySem.W.specialIn K (.builtin "object.__class__") "__get__" = some (some (.builtin "getset_descriptor.__get__"))
  tk : PySem.W.takesIn K (.builtin "object.__class__") = some true
/-- isinstance(e, D) -/
def rIsE (K : PySem.W.Frag) (pn : List (Addr × Obj)) : List V → Hp → VK → Prop := fun xs H Q => ∃ (a C : Addr) (fs : List (Str × V)) (c : V) (u : Value) (b : Bool), xs = [.ref a, c] ∧ ExAt pn H a C fs ∧ XfC K C ∧ XkC K C ∧ XkO K ∧ ClsV c u ∧ PySem.W.kitOne K (.ref C) u = some b ∧ Q (.bl b) H
theorem q_isE : CallR X (.builtin "isinstance") (rIsE X.K X.pn) := by
  intro pins s σ H xs us Q I r h
  obtain ⟨a, C, fs, c, u, b, rfl, at1, T, T2, O, k, e, q⟩ := h
  obtain ⟨u1, u2, rfl, r1, r2⟩ := vals2 r
  have e2 := k.eq r2
  subst e2
  obtain rfl : u1 = Value.ref a := r1
  obtain ⟨oe, od, dd, mA, J, _, _⟩ := at1.inst I
  exact PySem.W.kia_one (PySem.W.kitx_exc T2.cl T.ga T.gg T.exC T2.ca O.gt O.tk T2.ob) I.kIn J e (fun z => nomatch z) fun tk => ⟨.bl b, H, I.tok tk, rfl, q⟩
end
/-! ### raise, where nothing is handled: an exception whose context is None -/
section
variable {X : Cx} {e : Expr} {es : List Expr} {ta : TA} {p pos : Pos}
/-- as HandS.ExcInit's rule, and the context of what is made is told -/
theorem pmk_init {CX : CXT} {x : Str} {C fI : Addr} {k : Nat} {fd : FuncData} {ps : List Str} {sp : Sp} (T : OexC X.K C) (iC : PySem.W.findIn X.K (.ref C) "__init__" = some (some (.ref fI))) (tI : PySem.W.typeIn X.K (.ref fI) = some (.type "function"))
    (Fi : FnOk X.prog X.w X.K X.mg X.base CX k fI fd ps sp) (hr : Room (k + 1) X.A) (hb : Binds X.K fd ps []) (hx : Passes CX X (fun _ _ _ => False)) (hg : Gl X x) (hm : X.mg x = some (.ref C)) (ha : PA X (e :: es) ta)
    (hdb : (x == ("__debug__" : Str)) = false := by decide) (he : starEach (e :: es) X.env = (false, eval e X.env) :: starEach es X.env := by rfl) (hpl : (backTo pos (starEach es X.env)).any (·.1) = false := by rfl) :
    L2N.PMk X (.Call (.Name x p) (e :: es) [] pos) (tMkO C sp [] ta) := by
  intro pins s σ H Q I h
  obtain ⟨nm, q, N, bs, bm, sn, sub, ab, col, dd, k0, k1, k2, k3, k5, hC, hbm⟩ := T.cls
  refine wpAny_Call_Name_kw (ld_glob I hg hm ?_ hdb)
  refine PySem.W.callWith_K (h₀ := X.base) I.ok.mod.kin T.kC (thn (ha.run pos pins s σ H _ I h) fun us s1 hh => ?_) he hpl
  obtain ⟨vs, H1, I1, r1, hz, q1⟩ := hh
  refine ⟨I1.kIn, ?_⟩
  show wpAny _ _ (call (.ref C) us) _ _ _
  obtain ⟨hp, g, dr, tk, os⟩ := s1
  generalize hD : hp.objs.size + 1 = D
  have hsz : hp.objs.size ≤ D := by
    rw [← hD]
    exact Nat.le_succ _
  have hq := q1 D (I1.hok.fresh hsz)
  rw [List.append_nil] at hq
  generalize hh2 : (hp.push (PySem.W.kdv_tup us)).push (PySem.HandSPX.excO C hp.objs.size) = h2
  have kk : ∀ b o, hp.get? b = some o → h2.get? b = some o := by
    intro b o eb
    rw [← hh2]
    exact Heap.get?_push_of_some _ (Heap.get?_push_of_some _ eb)
  have hget : h2.get? D = some (PySem.HandSPX.excO C hp.objs.size) := by
    rw [← hh2, ← hD]
    heap_get
  have I2 : Inv X pins σ (upd H1 D (exo D C none)) ⟨h2, g, dr, tk, os⟩ := I1.laid (t' := tk) (a := D) (o := exo D C none) (h' := h2) kk hsz (exo_ok hget)
  have r2 : Vals (V.ref D :: vs) (Value.ref D :: us) := .cons rfl r1
  have hl : (Value.ref D :: us).length = ps.length := by
    rw [← Fi.len _ _ _ _ hq]
    exact r2.length.symm
  have b2 := hb ⟨h2, g, dr, tk, os⟩ (Value.ref D :: us) I2.kIn (by rw [List.append_nil]; exact hl)
  rw [List.append_nil] at b2
  have hus : us.length ≤ sizeLine := by
    rw [← Paired.length r1, sizeLine_eq]
    omega
  subst hh2
  subst hD
  refine wpAny_call (PySem.HandSPX.call_own F.excBase_ValueError (fun Y => PySem.HandSPX.refsVE_contains Y bm hbm) (I1.kIn _ _ hC) (PySem.W.looks_findIn I1.kIn iC) (fun self => PySem.W.bind_fn I1.kIn self tI) hus ?_)
  refine codeAny_mono (Fi.run _ X.stack _ _ _ _ _ _ (fun _ _ _ => False) (hr.make C us []) (I2.env0.make C us []) b2 r2 hq) fun r s' hq' => ?_
  cases r with
  | error er => exact hx pins σ _ _ er s' I2 hq'
  | ok fl =>
    cases fl with
    | ret u =>
      obtain ⟨v, H2, os2, bare2, un2, hok2, rv, ev, d, fs, ea, ed, hd1, q2⟩ := hq'
      subst ev
      obtain ⟨h3, g3, d3, t3, os'⟩ := s'
      obtain ⟨t0, G, J, kG, ge, hoe, na⟩ := mk_end0 (d2 := d3) (t2 := t3) I1 hsz kk un2 hok2 os2 bare2 ea ed hd1
      exact ⟨rv, ⟨_, _, _, ⟨G, g3, d3, t3, os'⟩, _, .ref C, some d, rfl, J, kG, ge, hoe, ⟨rfl, rfl, fun vs hv => by cases hv; rfl⟩, rfl, rfl, na, rfl, bare2, raises_own T.exC T.tyC, q2⟩⟩
    | next => exact False.elim hq'
    | brk => exact False.elim hq'
    | cont => exact False.elim hq'
end
/-! ### defs that are told which exception is handled: at a, of the class cls, its dict d -/
structure FnP (P : Program) (w : World) (K : PySem.W.Frag) (mg : Str → Option Value) (base : Heap) (k : Nat) (f : Addr) (fd : FuncData) (ps : List Str) (sp : Addr → Value → Option Addr → Sp) : Prop where
  len : ∀ a c d vs H Q E, sp a c d vs H Q E → vs.length = ps.length
  run : ∀ (A : Around) (outer : List Env) (s : Shared) (H : Hp) (args : Args) (us : List Value) (vs : List V) (Q : VK) (E : XK) (p : Addr × Obj), RoomH k A → Hot1 A p → PinOk outer H s p → Env0 P w K mg base A outer s H →
    BindsTo s fd args (ps.zip us) → Vals vs us → sp p.1 p.2.cls p.2.dict vs H Q E → codeAny (model P w) A (.call (.ref f) args) (CR CX0 outer P w H s Q E) s
/-- the def of this name keeps this promise of the exception that is handled -/
def CalP (P : Program) (w : World) (K : PySem.W.Frag) (mg : Str → Option Value) (base : Heap) (k : Nat) (x : Str) (ps : List Str) (sp : Addr → Value → Option Addr → Sp) : Prop :=
  ∃ f fd, FnP P w K mg base k f fd ps sp ∧ mg x = some (.ref f) ∧ PySem.W.keepIn K (.ref f) = true ∧ Binds K fd ps []
section
variable {P : Program} {w : World} {K : PySem.W.Frag} {mg : Str → Option Value} {base : Heap}
theorem fnP_of {k : Nat} {f : Addr} {name qual : Str} {params : Arguments} {body : List Stmt} {scope : Scope} {dV kV doc pm cdv ct oc : Value} {an od : Option Addr} {osl : Array (Option Value)} {N ps : List Str} {sp : Addr → Value → Option Addr → Sp}
    (lk : K.lookup f = some ⟨oc, od, .func (PySem.W.fnOf name qual params body scope dV kV doc pm an cdv ct), osl⟩) (code : PySem.W.codeIn K cdv qual = true) (S : FnScope N ps scope) (len : ∀ a c d vs H Q E, sp a c d vs H Q E → vs.length = ps.length)
    (hb : ∀ (A : Around) (outer : List Env) (s : Shared) (H : Hp) (vs : List V) (Q : VK) (E : XK) (p : Addr × Obj), Hot1 A p → RoomH k (A.deeper (envOfC qual scope s.heap.objs.size f cdv)) → sp p.1 p.2.cls p.2.dict vs H Q E →
      ∃ t, PSs (cxH CX0 P w K mg base N qual scope f cdv A outer s H E p) body t ∧ t ⟨fun _ H' => Q .non H', Q, fun _ _ => False, fun _ _ => False⟩ (L2.start N vs) H) :
    FnP P w K mg base (k + 1) f (PySem.W.fnOf name qual params body scope dV kV doc pm an cdv ct) ps sp where
  len := len
  run := by
    intro A outer s H args us vs Q E p room hot pinned e0 binds rel h
    have hl := len _ _ _ _ _ _ _ h
    have kin : K.In s.heap := e0.mod.kin.keeps fun b o eb => (e0.bs b o eb).1
    have lim : s.heap.NoLimit := e0.mod.nolimit.keeps fun b o eb => (e0.bs b o eb).1
    refine codeAny_call_function room.depth (kin _ _ lk) rfl S.co S.gen rfl (PySem.W.codeRec_of kin code) (binds _ _ _ _ ?_)
    refine wpAny_newFunctionEnv_cells S.kind (fun y hy => ?_) fun env he s1 x => ?_
    · obtain ⟨n, v⟩ := y
      cases S.par n (List.of_mem_zip hy).1 with
      | inl q => exact .inl q
      | inr q => exact .inr ⟨q, PySem.W.cellsFrom_some _ _ _ (.inl q)⟩
    · subst he
      obtain ⟨t, ht, hq⟩ := hb A outer s H vs Q E p hot (room.deeper _) h
      refine ⟨lim.keeps x.toInCall.keep, codeAny_func ?_⟩
      refine wpAny_mono (ht.run [] s1 (L2.start N vs) H _ (inv_startH S pinned e0 hl rel x) hq) (fun fl s' hs => ?_) fun e s' hs => hs
      cases fl with
      | ret u =>
        obtain ⟨v, σ', H', J, rv, q⟩ := hs
        exact ⟨v, H', J.os, J.bare, J.base, J.hok, rv, q⟩
      | next =>
        obtain ⟨σ', H', J, q⟩ := hs
        exact ⟨.non, H', J.os, J.bare, J.base, J.hok, rfl, q⟩
      | brk =>
        obtain ⟨_, _, _, q⟩ := hs
        exact q.elim
      | cont =>
        obtain ⟨_, _, _, q⟩ := hs
        exact q.elim
theorem defP {x : Str} {st : Stmt} {ps N : List Str} {k : Nat} {sp : Addr → Value → Option Addr → Sp} (F : Rd.Def K mg x st ps) (S : FnScope N ps (defScope st)) (len : ∀ a c d vs H Q E, sp a c d vs H Q E → vs.length = ps.length)
    (body : ∀ (f : Addr) (cdv : Value) (A : Around) (outer : List Env) (s : Shared) (H : Hp) (vs : List V) (Q : VK) (E : XK) (p : Addr × Obj), Hot1 A p → RoomH k (A.deeper (envOfC x (defScope st) s.heap.objs.size f cdv)) → sp p.1 p.2.cls p.2.dict vs H Q E →
      ∃ t, PSs (cxH CX0 P w K mg base N x (defScope st) f cdv A outer s H E p) (defBody st) t ∧ t ⟨fun _ H' => Q .non H', Q, fun _ _ => False, fun _ _ => False⟩ (L2.start N vs) H) : CalP P w K mg base (k + 1) x ps sp := by
  obtain ⟨f, fd, F, m, b⟩ := F
  obtain ⟨oc, od, kV, doc, pm, an, cdv, ct, osl, rfl, lk, hcd⟩ := F.ex
  exact ⟨f, _, fnP_of lk hcd S len (fun A outer s H vs Q E p hot hr h => body f cdv A outer s H vs Q E p hot hr h), m, F.kp, b⟩
end
/-- such a call in an except suite -/
def tCallP (sp : Addr → Value → Option Addr → Sp) (a : Addr) (cls : Value) (d : Option Addr) (t : TA) : TE := fun σ H Q => t σ H fun vs H1 => sp a cls d vs H1 Q E0
theorem pe_calP {X : Cx} {a : Addr} {oe : Obj} {cls : Value} {d : Option Addr} {pn : List (Addr × Obj)} {e : Expr} {es : List Expr} {t : TA} {q pos : Pos} {j k : Nat} {x : Str} {ps : List Str} {sp : Addr → Value → Option Addr → Sp}
    (C : CalP X.prog X.w X.K X.mg X.base j x ps sp) (hz : L2N.Zn cls d oe) (hf : ∃ vs, oe.data = .fields vs) (hr : Room k X.A) (ha : PA (X.suite a ((a, oe) :: pn)) (e :: es) t) (hk : j ≤ k := by decide) (hg : Gl (X.suite a ((a, oe) :: pn)) x := by rfl)
    (hdb : (x == ("__debug__" : Str)) = false := by decide) (he : starEach (e :: es) X.env = (false, eval e X.env) :: starEach es X.env := by rfl) (hpl : (backTo pos (starEach es X.env)).any (·.1) = false := by rfl) :
    PE (X.suite a ((a, oe) :: pn)) (.Call (.Name x q) (e :: es) [] pos) (tCallP sp a cls d t) := by
  obtain ⟨f, fd, F, m, kp, b⟩ := C
  refine ⟨fun pins s σ H Q I h => ?_⟩
  refine wpAny_Call_Name_kw (ld_glob I hg m ?_ hdb)
  refine PySem.W.callWith_K (h₀ := X.base) I.ok.mod.kin kp (thn (ha.run pos pins s σ H _ I h) fun us s1 hh => ?_) he hpl
  obtain ⟨vs, H1, I1, r, h1⟩ := hh
  refine ⟨I1.kIn, ?_⟩
  have hl : us.length = ps.length := by
    rw [← F.len _ _ _ _ _ _ _ h1]
    exact r.length.symm
  have b2 := b s1 us I1.kIn (by rw [List.append_nil]; exact hl)
  rw [List.append_nil] at b2
  obtain ⟨fs, dat⟩ := hf
  obtain ⟨p1, p2, p3, p4, p5⟩ := I1.pin (a, oe) (List.mem_append_left _ List.mem_cons_self)
  have pinned : PinOk X.stack H1 s1 (a, oe) := by
    refine ⟨p1, p2, fun hm => ?_, p5⟩
    cases List.mem_cons.mp (I1.stkSub a hm) with
    | inl z => exact p3 z
    | inr z => exact p4 z
  have hot : Hot1 (X.suite a ((a, oe) :: pn)).A (a, oe) := ⟨rfl, fs, dat, hz.2.2 fs dat⟩
  have h2 : sp (a, oe).1 (a, oe).2.cls (a, oe).2.dict vs H1 Q E0 := by
    show sp a oe.cls oe.dict vs H1 Q E0
    rw [hz.1, hz.2.1]
    exact h1
  have hr2 : RoomH j (X.A.mark (some (.ref a))) := roomH_mark (hr.mono hk) _
  refine wpAny_call (codeAny_mono (F.run _ X.stack s1 H1 ⟨us, []⟩ us vs Q E0 (a, oe) hr2 hot pinned I1.env0 b2 r h2) fun r s' hq => ?_)
  cases r with
  | error e => exact hq.elim
  | ok fl =>
    cases fl with
    | ret u => exact I1.after hq
    | next => exact hq.elim
    | brk => exact hq.elim
    | cont => exact hq.elim
/-- e.f in an except suite: a the exception, cls its class, d its dict -/
def tXs (K : PySem.W.Frag) (a : Addr) (cls : Value) (d : Option Addr) (f : Str) (te : TE) : TE := fun σ H Q => te σ H fun x H1 => x = .ref a ∧ ∃ (C dd : Addr) (fs : List (Str × V)) (v : V), cls = .ref C ∧ XfC K C ∧ PySem.W.findIn K (.ref C) f = some none ∧ d = some dd ∧ H1 dd = some (.xd fs) ∧ fs.lookup f = some v ∧ Q v H1
theorem pe_xs {X : Cx} {K : PySem.W.Frag} (hK : X.K = K) {a : Addr} {oe : Obj} {cls : Value} {d : Option Addr} {pn : List (Addr × Obj)} {e : Expr} {te : TE} {pos : Pos} {n : Str} (hz : L2N.Zn cls d oe) (hf : ∃ vs, oe.data = .fields vs) (he : PE (X.suite a ((a, oe) :: pn)) e te)
    (hb : attributeBase e n X.env (eval e X.env) = eval e X.env := by rfl) : PE (X.suite a ((a, oe) :: pn)) (.Attribute e n pos) (tXs K a cls d n te) := by
  subst hK
  refine ⟨fun pins s σ H Q I h => ?_⟩
  refine attr_of hb (thn (he.run pins s σ H _ I h) fun u s1 hh => ?_)
  obtain ⟨x, H1, I1, rx, ex, C, dd, fs, v, ec, T, hno, ed, hd, l, q⟩ := hh
  subst ex
  obtain rfl : u = Value.ref a := rx
  have at1 : ExAt (X.suite a ((a, oe) :: pn)).pn H1 a C fs := ⟨(a, oe), dd, List.mem_cons_self, rfl, hz.1.trans ec, hz.2.1.trans ed, hf, hd⟩
  obtain ⟨oe', od, dd', mA, J, hl, rel⟩ := at1.inst I1
  obtain ⟨u, hu, ru⟩ := RelO.some_of (v := v) (o := mA n) (by rw [← l]; exact rel n)
  have found := PySem.W.findObj_own (od := od) T.hdC hno rfl (by rw [hl, hu])
  exact HandSPX.exc_get I1.kIn J T.ga T.gg T.exC found (handed_of ru) ⟨v, H1, I1.tok _, ru, q⟩
/-! ### an error class of the program with one field -/
section
variable {P : Program} {w : World} {K : PySem.W.Frag} {mg : Str → Option Value} {base : Heap}
/-- C.__init__(self, y): self.code = x; self.f = y -/
def spInit (K : PySem.W.Frag) (C : Addr) (x f : Str) : Sp := fun vs H Q _ => ∃ (a : Addr) (y : V), vs = [.ref a, y] ∧ H a = some (exo a C none) ∧ OexC K C ∧ PySem.W.findIn K (.ref C) "code" = some none ∧ PySem.W.findIn K (.ref C) f = some none ∧
  ∀ dx, H dx = none → dx ≠ a → Q .non (upd (upd (upd H dx (exd dx [("code", .str x)])) a (exo a C (some dx))) dx (exd dx [(f, y), ("code", .str x)]))
structure ErrC (P : Program) (w : World) (K : PySem.W.Frag) (mg : Str → Option Value) (base : Heap) (x : Str) (C : Addr) (f : Str) : Prop where
  gC : mg x = some (.ref C)
  ox : OexC K C
  xf : XfC K C
  no1 : PySem.W.findIn K (.ref C) "code" = some none
  no2 : PySem.W.findIn K (.ref C) f = some none
  ini : ∃ fI fd, PySem.W.findIn K (.ref C) "__init__" = some (some (.ref fI)) ∧ PySem.W.typeIn K (.ref fI) = some (.type "function") ∧ FnOk P w K mg base CX0 1 fI fd ["self", f] (spInit K C x f) ∧ Binds K fd ["self", f] []
end
def tErr (C : Addr) (x f : Str) (ta : TA) : L2.St → Hp → XK → Prop := fun σ H Q => ta σ H fun vs H1 => ∃ y, vs = [y] ∧ ∀ d, H1 d = none → Q (.ref C) (some d) (upd H1 d (.xd [(f, y), ("code", .str x)]))
def tRaise (C : Addr) (x f : Str) (W : WX) (ta : TA) : TS := fun _ σ H => tErr C x f ta σ H fun cls d H' => W cls d σ H'
theorem upd_del {H : Hp} {a d : Addr} {o1 o2 o3 o4 o : HO} (n : H a = none) : upd (del (upd (upd (upd (upd H a o1) d o2) a o3) d o4) a) d o = upd H d o := by
  funext b
  by_cases hd : b = d
  · rw [hd, upd_same, upd_same]
  · rw [upd_ne hd, upd_ne hd]
    by_cases ha : b = a
    · rw [ha, del_same, n]
    · rw [del_ne ha, upd_ne hd, upd_ne ha, upd_ne hd, upd_ne ha]
def Up (ta : TA) : Prop := ∀ (σ : L2.St) (H : Hp) (Q Q' : List V → Hp → Prop), (∀ vs H', Q vs H' → Q' vs H') → ta σ H Q → ta σ H Q'
theorem up_v {i : Nat} : Up (tCons (tVar i) tNil) := fun σ H Q Q' k h => by
  obtain ⟨v, e, q⟩ := h
  exact ⟨v, e, k _ _ q⟩
theorem up_c {v : V} : Up (tCons (tC v) tNil) := fun σ H Q Q' k h => k _ _ h
theorem mk_of_err {P : Program} {w : World} {K : PySem.W.Frag} {mg : Str → Option Value} {base : Heap} {x f : Str} {C : Addr} {ta : TA} {σ : L2.St} {H : Hp} {Q : XK} (T : ErrC P w K mg base x C f) (up : Up ta) (h : tErr C x f ta σ H Q) : tMkO C (spInit K C x f) [] ta σ H Q := by
  refine up σ H _ _ (fun vs H1 q => ?_) h
  obtain ⟨y, rfl, q⟩ := q
  refine ⟨by show 1 ≤ 1000; decide, fun a na => ⟨a, y, rfl, upd_same, T.ox, T.no1, T.no2, fun dx nd ne => ?_⟩⟩
  have nd1 : H1 dx = none := by
    rw [upd_ne ne] at nd
    exact nd
  refine ⟨rfl, dx, _, (upd_ne (Ne.symm ne)).trans upd_same, upd_same, nd1, ?_⟩
  rw [upd_del na]
  exact q dx nd1
section
variable {X : Cx} {W : WX} {e : Expr} {ta : TA} {x f : Str} {C : Addr} {p pos pos2 : Pos} {k : Nat}
theorem ps_err (hc : X.calm = true) (T : ErrC X.prog X.w X.K X.mg X.base x C f) (hr : Room k X.A) (tk : L2N.Takes X W) (ha : PA X [e] ta) (up : Up ta) (hk : 2 ≤ k := by decide) (hg : Gl X x := by rfl) (hdb : (x == ("__debug__" : Str)) = false := by decide)
    (he : starEach (e :: []) X.env = (false, eval e X.env) :: starEach [] X.env := by rfl) (hpl : (backTo pos (starEach [] X.env)).any (·.1) = false := by rfl) :
    PS X (.Raise (some (.Call (.Name x p) [e] [] pos)) none pos2) (tRaise C x f W ta) := by
  obtain ⟨fI, fd, iC, tI, F, b⟩ := T.ini
  have mk := pmk_init (X := X) (p := p) (pos := pos) T.ox iC tI F (hr.mono hk) b pass0 hg T.gC ha hdb he hpl
  exact L2N.ps_raise hc tk (t := tErr C x f ta) fun pins s σ H Q I h => mk pins s σ H Q I (mk_of_err T up h)
end
/-! ### small ones -/
theorem takes0 {X : Cx} : L2N.Takes X (fun _ _ _ _ => False) := fun _ _ x => by
  obtain ⟨_, _, _, _, _, _, _, _, _, _, _, _, _, _, _, _, z⟩ := x
  exact z.elim
theorem pe_const {X : Cx} {x : Str} {v : Int} {pos : Pos} (h : ∃ t, X.mg x = some (.int v t)) (hg : Gl X x) (hd : (x == ("__debug__" : Str)) = false := by decide) : PE X (.Name x pos) (tC (.int v)) := by
  obtain ⟨t, h⟩ := h
  exact pe_glob hg h ⟨t, rfl⟩ hd
section
variable {X : Cx} {K : PySem.W.Frag} {pn : List (Addr × Obj)}
theorem q_isEK (hK : X.K = K) (hp : X.pn = pn) : CallR X (.builtin "isinstance") (rIsE K pn) := by
  subst hK hp
  exact q_isE
theorem pe_xeK {e : Expr} {te : TE} {pos : Pos} {n : Str} (hK : X.K = K) (hp : X.pn = pn) (he : PE X e te) (hb : attributeBase e n X.env (eval e X.env) = eval e X.env := by rfl) : PE X (.Attribute e n pos) (tXe K pn n te) := by
  subst hK hp
  exact pe_xe he hb
theorem pe_lcHK {elt tg iter : Expr} {ifs : List Expr} {scope : Scope} {own : List (Str × Nat)} {pos : Pos} {tl : TE} {g : TG} {tt : TT} {te : TE} (hK : X.K = K) (hot : HotC X) (hN : X.N.Nodup) (hi : PE X iter tl) (ok : BlkOk X.N X.env.scope scope own)
    (hg : ∀ (s : Shared) (H : Hp) (C : Addr) (cl : List (Str × Addr)) (fp : List Addr), PG (X.blk s H scope (compEnvC scope cl C X.env) fp) tg g) (ht : ∀ (s : Shared) (H : Hp) (C : Addr) (cl : List (Str × Addr)) (fp : List Addr), PTs (X.blk s H scope (compEnvC scope cl C X.env) fp) ifs tt)
    (he : ∀ (s : Shared) (H : Hp) (C : Addr) (cl : List (Str × Addr)) (fp : List Addr), PE (X.blk s H scope (compEnvC scope cl C X.env) fp) elt te) (hs : ∀ x, foldedSetIterable iter X.env x = pure x := by intro _; rfl) :
    PE X (.ListComp elt [⟨tg, iter, ifs, 0⟩] scope pos) (tLc (iList K tl) g tt te (own.map (·.2))) := by
  subst hK
  exact pe_lcH hot hN hi ok hg ht he hs
theorem eqDK (hK : X.K = K) (hu : X.A.units + 64 < cLine) : OpR X (compareOp .Eq) (rEqD K) := by
  subst hK
  exact op_eqD hu
theorem neDK (hK : X.K = K) (hu : X.A.units + 64 < cLine) : OpR X (compareOp .NotEq) (rNeD K) := by
  subst hK
  exact op_neD hu
theorem unitsH {k : Nat} {A : Around} (r : RoomH k A) : A.units + 64 < cLine := by
  have := r.un
  omega
end
/-- what the written part says of the class of an error, so that isinstance and fields are known -/
structure Knd (K : PySem.W.Frag) (D : Str → Addr) (names : List Str) (C : Addr) (code f : Str) : Prop where
  xf : XfC K C
  xk : XkC K C
  xo : XkO K
  nf : PySem.W.findIn K (.ref C) f = some none
  nc : PySem.W.findIn K (.ref C) "code" = some none
  is : ∀ x ∈ names, PySem.W.kitOne K (.ref C) (.ref (D x)) = some (decide (x = code))
  ve : PySem.W.kitOne K (.ref C) (.type "ValueError") = some true
section
variable {K : PySem.W.Frag} {D : Str → Addr} {names : List Str} {C dd : Addr} {code f x : Str} {p : Addr × Obj} {fs : List (Str × V)} {H : Hp} {Q : VK} {b : Bool}
theorem isE (kn : Knd K D names C code f) (hc : p.2.cls = .ref C) (hd : p.2.dict = some dd) (hv : ∃ vs, p.2.data = .fields vs) (hx : H dd = some (.xd fs)) (m : x ∈ names) (e : decide (x = code) = b) (q : Q (.bl b) H) : rIsE K [p] [.ref p.1, .ref (D x)] H Q := by
  subst e
  exact ⟨p.1, C, fs, _, _, _, rfl, ⟨p, dd, List.mem_cons_self, rfl, hc, hd, hv, hx⟩, kn.xf, kn.xk, kn.xo, .own _, kn.is x m, q⟩
theorem isEf (kn : Knd K D names C code f) (hc : p.2.cls = .ref C) (hd : p.2.dict = some dd) (hv : ∃ vs, p.2.data = .fields vs) (hx : H dd = some (.xd fs)) (m : x ∈ names ∧ decide (x = code) = false) (q : Q (.bl false) H) : rIsE K [p] [.ref p.1, .ref (D x)] H Q := isE kn hc hd hv hx m.1 m.2 q
theorem isEt (kn : Knd K D names C code f) (hc : p.2.cls = .ref C) (hd : p.2.dict = some dd) (hv : ∃ vs, p.2.data = .fields vs) (hx : H dd = some (.xd fs)) (m : x ∈ names ∧ decide (x = code) = true) (q : Q (.bl true) H) : rIsE K [p] [.ref p.1, .ref (D x)] H Q := isE kn hc hd hv hx m.1 m.2 q
theorem isVE (kn : Knd K D names C code f) (hc : p.2.cls = .ref C) (hd : p.2.dict = some dd) (hv : ∃ vs, p.2.data = .fields vs) (hx : H dd = some (.xd fs)) (q : Q (.bl true) H) : rIsE K [p] [.ref p.1, .ty "ValueError"] H Q :=
  ⟨p.1, C, fs, _, _, _, rfl, ⟨p, dd, List.mem_cons_self, rfl, hc, hd, hv, hx⟩, kn.xf, kn.xk, kn.xo, .ty _, kn.ve, q⟩
theorem xeE {v : V} (kn : Knd K D names C code f) (hc : p.2.cls = .ref C) (hd : p.2.dict = some dd) (hv : ∃ vs, p.2.data = .fields vs) (hx : H dd = some (.xd fs)) (l : fs.lookup f = some v) (q : Q v H) :
    ∃ (a C : Addr) (fs : List (Str × V)) (v : V), V.ref p.1 = .ref a ∧ ExAt [p] H a C fs ∧ XfC K C ∧ PySem.W.findIn K (.ref C) f = some none ∧ fs.lookup f = some v ∧ Q v H :=
  ⟨p.1, C, fs, v, rfl, ⟨p, dd, List.mem_cons_self, rfl, hc, hd, hv, hx⟩, kn.xf, kn.nf, l, q⟩
end
theorem xe {K : PySem.W.Frag} {pn : List (Addr × Obj)} {f : Str} {te : TE} {σ : L2.St} {H : Hp} {Q : VK} (h : te σ H fun x H1 => ∃ (a C : Addr) (fs : List (Str × V)) (v : V), x = .ref a ∧ ExAt pn H1 a C fs ∧ XfC K C ∧ PySem.W.findIn K (.ref C) f = some none ∧ fs.lookup f = some v ∧ Q v H1) : tXe K pn f te σ H Q := h
/-- _law_refusal(e, e.code): a new tuple -/
def spRef (K : PySem.W.Frag) (D : Str → Addr) (names : List Str) (code f : Str) : Addr → Value → Option Addr → Sp := fun a cls d vs H Q _ => ∃ (C dd : Addr) (y : V), cls = .ref C ∧ d = some dd ∧ vs = [.ref a, .str code] ∧ Knd K D names C code f ∧ H dd = some (.xd [(f, y), ("code", .str code)]) ∧
  ∀ p H', H p = none → L2.Same H H' → H' p = some (.tup [.str "refused", .str code, y]) → Q (.ref p) H'
end Ho
namespace Rd
open PySem PySem.Spec PyProof.Rows L2
section
variable {K : PySem.W.Frag} {σ : L2.St} {H : Hp} {g : TG} {tt : TT} {te : TE} {vs : List Nat} {Q : VK} {a : Addr}
/-- a comprehension whose turns only make their item -/
theorem lcMap (xs : List V) (f : V → V) (ha : SqL K H a xs) (hz : xs.length ≤ 100000)
    (hs : ∀ (i : Nat) (x : V) (L : Addr) (G : Hp) (out : List V) (Nx : Hp → Prop), xs[i]? = some x → Same H G → G L = some (.lst out) → out.length < sizeLine → Nx (upd G L (.lst (out ++ [f x]))) → Turn1 g tt te vs σ L x G Nx)
    (hd : ∀ (L : Addr) (G : Hp), H L = none → Same H G → G L = some (.lst (xs.map f)) → Q (.ref L) G) : LcB (Itl K a) g tt te vs σ H Q := by
  refine lcL xs fun L hL => ⟨fun i h => i ≤ xs.length ∧ h = upd H L (.lst ((xs.take i).map f)), ⟨Nat.zero_le _, rfl⟩, ?_, ?_, ?_⟩
  · rintro i h _ ⟨_, rfl⟩
    exact (same_upd hL).seq ha
  · rintro i x h hx ⟨hi, rfl⟩
    have lt : i < xs.length := (List.getElem?_eq_some_iff.mp hx).1
    refine hs i x L _ _ _ hx (same_upd hL) upd_same ?_ ⟨lt, ?_⟩
    · rw [List.length_map, List.length_take]
      exact sz5' (by omega)
    · rw [upd_upd, List.take_add_one, hx, List.map_append]
      rfl
  · rintro h ⟨_, rfl⟩
    rw [List.take_length]
    exact hd L _ hL (same_upd hL) upd_same
theorem dp_bls : ∀ bs : List Bool, DpAll K H (bs.map V.bl) (bs.map PyData.bool)
  | [] => .nil
  | b :: bs => .cons (.bl b) (dp_bls bs)
/-- two lists of the same bools differ not -/
theorem neBl {p q : Addr} {xs ys : List V} (bs : List Bool) (h : H p = some (.lst xs)) (h' : H q = some (.lst ys)) (e : (xs = bs.map V.bl ∧ ys = bs.map V.bl) ∧ SeqAt.shaped (.list (bs.map PyData.bool)) = true ∧ PyData.eqv (.list (bs.map PyData.bool)) (.list (bs.map PyData.bool)) = true)
    (k : Q (.bl false) H) : rNeD K (.ref p) (.ref q) H Q := by
  obtain ⟨⟨rfl, rfl⟩, e1, e2⟩ := e
  refine ⟨_, _, .lst (.inl (.inl h)) (dp_bls bs), .lst (.inl (.inl h')) (dp_bls bs), e1, e1, ?_⟩
  rw [e2]
  exact k
theorem idx {p : Addr} {ys : List V} {y : V} (j : Nat) (h : H p = some (.lst ys)) (e : (flatV y && (ys.all flatV && ((ys[j]?.any fun z => eqV z y) && (ys.take j).all fun z => !eqV z y))) = true) (k : Q (.int (j : Nat)) H) : rIndex K (.ref p) [y] H Q := by
  obtain ⟨e1, e⟩ := Bool.and_eq_true_iff.mp e
  obtain ⟨e2, e⟩ := Bool.and_eq_true_iff.mp e
  obtain ⟨e3, e4⟩ := Bool.and_eq_true_iff.mp e
  cases hz : ys[j]? with
  | none =>
    rw [hz] at e3
    cases e3
  | some z =>
    rw [hz] at e3
    refine ⟨p, ys, y, j, z, rfl, rfl, .inl (.inl h), e1, e2, hz, e3, fun m z' hm hz' => ?_, k⟩
    have q := List.all_eq_true.mp e4 z' (List.mem_of_getElem? (i := m) (by rw [List.getElem?_take_of_lt hm]; exact hz'))
    simpa using q
theorem iteDt {p A B : Prop} [Decidable p] (h : p) (k : A) : if decide p = true then A else B := by
  rw [if_pos (decide_eq_true h)]
  exact k
theorem iteDf {p A B : Prop} [Decidable p] (h : ¬ p) (k : B) : if decide p = true then A else B := by
  rw [if_neg (by rw [decide_eq_false h]; exact Bool.false_ne_true)]
  exact k
end
end Rd
/-! ### data with dicts of at most one entry -/
namespace Rd
open PySem PySem.Spec PyProof.Rows L2
mutual
inductive Dv (K : PySem.W.Frag) (H : Hp) : V → PyData → Prop
  | non : Dv K H .non .none
  | bl (b : Bool) : Dv K H (.bl b) (.bool b)
  | int (i : Int) : Dv K H (.int i) (.int i)
  | str (x : Str) : Dv K H (.str x) (.str x)
  | lst {a : Addr} {xs : List V} {ds : List PyData} : SqL K H a xs → DvAll K H xs ds → Dv K H (.ref a) (.list ds)
  | tup {a : Addr} {xs : List V} {ds : List PyData} : SqT K H a xs → DvAll K H xs ds → Dv K H (.ref a) (.tuple ds)
  | dc0 {a : Addr} : H a = some (.dK []) → Dv K H (.ref a) (.dict [])
  | dc1 {a : Addr} {k : Str} {v : V} {d : PyData} : H a = some (.dK [(Sum.inr k, v)]) → Dv K H v d → Dv K H (.ref a) (.dict [(.str k, d)])
inductive DvAll (K : PySem.W.Frag) (H : Hp) : List V → List PyData → Prop
  | nil : DvAll K H [] []
  | cons {v : V} {vs : List V} {d : PyData} {ds : List PyData} : Dv K H v d → DvAll K H vs ds → DvAll K H (v :: vs) (d :: ds)
end
/-- data no deeper than n, with short lists -/
inductive Fd : Nat → PyData → Prop
  | non {n : Nat} : Fd n .none
  | bl {n : Nat} (b : Bool) : Fd n (.bool b)
  | int {n : Nat} (i : Int) : Fd n (.int i)
  | str {n : Nat} (s : Str) : Fd n (.str s)
  | lst {n : Nat} {ds : List PyData} : ds.length ≤ 100000 → (∀ d ∈ ds, Fd n d) → Fd (n + 1) (.list ds)
  | tup {n : Nat} {ds : List PyData} : ds.length ≤ 100000 → (∀ d ∈ ds, Fd n d) → Fd (n + 1) (.tuple ds)
  | dc0 {n : Nat} : Fd (n + 1) (.dict [])
  | dc1 {n : Nat} {k : Str} {d : PyData} : Fd n d → Fd (n + 1) (.dict [(.str k, d)])
theorem Fd.mono {n m : Nat} {d : PyData} (h : Fd n d) (k : n ≤ m) : Fd m d := by
  induction h generalizing m with
  | non => exact .non
  | bl b => exact .bl b
  | int i => exact .int i
  | str s => exact .str s
  | lst l _ ih =>
    cases m with
    | zero => omega
    | succ m => exact .lst l fun d hd => ih d hd (by omega)
  | tup l _ ih =>
    cases m with
    | zero => omega
    | succ m => exact .tup l fun d hd => ih d hd (by omega)
  | dc0 =>
    cases m with
    | zero => omega
    | succ m => exact .dc0
  | dc1 _ ih =>
    cases m with
    | zero => omega
    | succ m => exact .dc1 (ih (by omega))
section
variable {K : PySem.W.Frag} {H H' : Hp} {Q : VK}
theorem va_len : ∀ {vs : List V} {ds : List PyData}, DvAll K H vs ds → vs.length = ds.length
  | _, _, .nil => rfl
  | _, _, .cons _ r => by rw [List.length_cons, List.length_cons, va_len r]
theorem va_at : ∀ (vs : List V) (ds : List PyData) (i : Nat) (d : PyData), DvAll K H vs ds → ds[i]? = some d → ∃ v, vs[i]? = some v ∧ Dv K H v d
  | _, [], _, _, _, e => by simp at e
  | [], _ :: _, _, _, h, _ => by cases h
  | v :: _, _ :: _, 0, _, h, e => by
    cases h with
    | cons a _ =>
      cases e
      exact ⟨v, rfl, a⟩
  | _ :: vs, _ :: ds, i + 1, d, h, e => by
    cases h with
    | cons _ r =>
      obtain ⟨v, ev, dv⟩ := va_at vs ds i d r (by simpa using e)
      exact ⟨v, by simpa using ev, dv⟩
theorem va_append : ∀ (vs : List V) (ds : List PyData) {ws : List V} {es : List PyData}, DvAll K H vs ds → DvAll K H ws es → DvAll K H (vs ++ ws) (ds ++ es)
  | [], [], _, _, _, h => h
  | _ :: vs, _ :: ds, _, _, h, h' => by
    cases h with
    | cons a r => exact .cons a (va_append vs ds r h')
  | [], _ :: _, _, _, h, _ => by cases h
  | _ :: _, [], _, _, h, _ => by cases h
mutual
theorem dv_same (e : Same H H') : ∀ {v : V} {d : PyData}, Dv K H v d → Dv K H' v d
  | _, _, .non => .non
  | _, _, .bl b => .bl b
  | _, _, .int i => .int i
  | _, _, .str s => .str s
  | _, _, .lst h r => .lst (e.seq h) (va_same e r)
  | _, _, .tup h r => .tup (sqT_same e h) (va_same e r)
  | _, _, .dc0 h => .dc0 (e _ _ h)
  | _, _, .dc1 h r => .dc1 (e _ _ h) (dv_same e r)
theorem va_same (e : Same H H') : ∀ {v : List V} {d : List PyData}, DvAll K H v d → DvAll K H' v d
  | _, _, .nil => .nil
  | _, _, .cons h r => .cons (dv_same e h) (va_same e r)
end
def tnv : PyData → String
  | .none => "NoneType"
  | .bool _ => "bool"
  | .int _ => "int"
  | .str _ => "str"
  | .list _ => "list"
  | .tuple _ => "tuple"
  | .dict _ => "dict"
theorem dv_ty {x : V} {d : PyData} (h : Dv K H x d) : TyX K H x (.type (tnv d)) := by
  cases h with
  | non => exact .base .non
  | bl b => exact .base (.bl b)
  | int i => exact .base (.int i)
  | str s => exact .base (.str s)
  | lst h _ => exact tyL' h
  | tup h _ => exact tyT' h
  | dc0 h => exact .base (.dK h)
  | dc1 h _ => exact .base (.dK h)
theorem tyD' {a : Addr} {kvs : List (Key × V)} (h : H a = some (.dK kvs)) : TyX K H (.ref a) (.type "dict") := .base (.dK h)
/-- len of a list, a tuple, a dict -/
def rLenA (K : PySem.W.Frag) : List V → Hp → VK → Prop := fun xs H Q => ∃ (p : Addr) (n : Nat), xs = [.ref p] ∧ ((∃ ys, (SqL K H p ys ∨ SqT K H p ys) ∧ n = ys.length) ∨ ∃ kvs, H p = some (.dK kvs) ∧ n = kvs.length) ∧ Q (.int n) H
theorem q_lenA {X : Cx} : CallR X (.builtin "len") (rLenA X.K) := by
  intro pins s σ H xs us Q I r h
  obtain ⟨p, n, rfl, h | h, q⟩ := h
  · obtain ⟨ys, h, rfl⟩ := h
    exact q_len pins s σ H _ us Q I r ⟨p, ys, rfl, h, q⟩
  · obtain ⟨kvs, h, rfl⟩ := h
    exact call_lenD pins s σ H _ us Q I r ⟨p, kvs, rfl, h, q⟩
theorem lenAs {p : Addr} {ys : List V} (h : SqL K H p ys ∨ SqT K H p ys) (q : Q (.int ys.length) H) : rLenA K [.ref p] H Q := ⟨p, _, rfl, .inl ⟨ys, h, rfl⟩, q⟩
theorem lenAd {p : Addr} {kvs : List (Key × V)} (h : H p = some (.dK kvs)) (q : Q (.int kvs.length) H) : rLenA K [.ref p] H Q := ⟨p, _, rfl, .inr ⟨kvs, h, rfl⟩, q⟩
theorem din {td : TE} {σ : L2.St} {ty : TE} (h : ty σ H fun y H1 => td σ H1 fun x H2 => ∃ a o, x = .ref a ∧ DGet H2 a y o ∧ Q (.bl (!o.isSome)) H2) : tDNotIn ty td σ H Q := h
theorem dget {td ty : TE} {σ : L2.St} (h : td σ H fun x H1 => ty σ H1 fun y H2 => ∃ a v, x = .ref a ∧ DGet H2 a y (some v) ∧ Q v H2) : tDGet td ty σ H Q := h
def rListDk : List V → Hp → VK → Prop := fun xs H Q => ∃ (a : Addr) (kvs : List (Key × V)), xs = [.ref a] ∧ Rd H a (.dK kvs) ∧ ∀ p, H p = none → Q (.ref p) (upd H p (.lst (kvs.map fun kv => kV kv.1)))
theorem q_listDk {X : Cx} (hc : X.calm = true) : CallR X (.type "list") rListDk := call_listD hc
theorem listDk {a : Addr} {kvs : List (Key × V)} {zs : List V} (h : H a = some (.dK kvs)) (e : (kvs.map fun kv => kV kv.1) = zs) (q : ∀ p, H p = none → Q (.ref p) (upd H p (.lst zs))) : rListDk [.ref a] H Q := by
  subst e
  exact ⟨a, kvs, rfl, .inl h, q⟩
end
end Rd
namespace Rd
open PySem PySem.Spec PyProof.Rows L2
theorem q_lenAK {X : Cx} {K : PySem.W.Frag} (h : X.K = K) : CallR X (.builtin "len") (rLenA K) := h ▸ q_lenA
end Rd
namespace Rd
open PySem PySem.Spec PyProof.Rows L2
theorem bb_isinstance : bootBuiltins "isinstance" = some (.builtin "isinstance") := by decide +kernel
theorem bb_int : bootBuiltins "int" = some (.type "int") := by decide +kernel
theorem bb_bool : bootBuiltins "bool" = some (.type "bool") := by decide +kernel
theorem bb_str : bootBuiltins "str" = some (.type "str") := by decide +kernel
theorem bb_list : bootBuiltins "list" = some (.type "list") := by decide +kernel
theorem bb_tuple : bootBuiltins "tuple" = some (.type "tuple") := by decide +kernel
theorem bb_dict : bootBuiltins "dict" = some (.type "dict") := by decide +kernel
theorem bb_ValueError : bootBuiltins "ValueError" = some (.type "ValueError") := by decide +kernel
theorem bb_max : bootBuiltins "max" = some (.builtin "max") := by decide +kernel
theorem bb_min : bootBuiltins "min" = some (.builtin "min") := by decide +kernel
theorem bb_abs : bootBuiltins "abs" = some (.builtin "abs") := by decide +kernel
theorem bb_sorted : bootBuiltins "sorted" = some (.builtin "sorted") := by decide +kernel
theorem bb_all : bootBuiltins "all" = some (.builtin "all") := by decide +kernel
end Rd
namespace Rd
open PySem PySem.Spec PyProof.Rows L2
theorem q_sortedSK {X : Cx} {K : PySem.W.Frag} (h : X.K = K) : CallR X (.builtin "sorted") (rSortedS K) := h ▸ cr_sortedS
theorem sortS1 {K : PySem.W.Frag} {H : Hp} {Q : VK} {a : Addr} (z : List Str) (hz : z.length ≤ 1) (h : SqL K H a (z.map V.str)) (q : ∀ p, H p = none → Q (.ref p) (upd H p (.lst (z.map V.str)))) : rSortedS K [.ref a] H Q := by
  have lt : z.length < 64 := Nat.lt_of_le_of_lt hz (by decide)
  refine ⟨a, z, rfl, h, lt, fun ys p pm _ n => ?_⟩
  have e : ys = z := by
    rcases z with _ | ⟨x, _ | ⟨y, z⟩⟩
    · exact List.perm_nil.mp pm
    · exact List.perm_singleton.mp pm
    · exact absurd hz (by rw [List.length_cons, List.length_cons]; omega)
  subst e
  exact q p n
end Rd
namespace Rd
open PySem PySem.Spec PyProof.Rows L2
theorem dget_k {H : Hp} {a : Addr} {k : Str} {v : V} (h : H a = some (.dK [(Sum.inr k, v)])) : DGet H a (.str k) (some v) := by
  have e : valV [((Sum.inr k : Key), v)] (Sum.inr k) = some v := by simp [valV]
  exact .inl ⟨_, Sum.inr k, .inl h, rfl, e.symm⟩
theorem someF {v : V} {A B : Prop} (h : B) : if (!(some v).isSome) = true then A else B := h
theorem lcT {K : PySem.W.Frag} {g : TG} {tt : TT} {te : TE} {vs : List Nat} {σ : L2.St} {H : Hp} {Q : VK} {a : Addr} (xs : List V) (f : ∀ L, H L = none → ∃ Pv : Nat → Hp → Prop, Pv 0 (upd H L (.lst [])) ∧ (∀ i h, i ≤ xs.length → Pv i h → SqT K h a xs) ∧
    (∀ i x h, xs[i]? = some x → Pv i h → Turn1 g tt te vs σ L x h (Pv (i + 1))) ∧ ∀ h, Pv xs.length h → Q (.ref L) h) : LcB (Itt K a) g tt te vs σ H Q := fun L hL => by
  obtain ⟨Pv, h0, hl, hs, hd⟩ := f L hL
  exact lc_tup (Qd := Q (.ref L)) Pv h0 hl hs hd
/-! data without lists and dicts stays where lists are written -/
mutual
theorem dv_tk {K : PySem.W.Frag} {H H' : Hp} (e : Tk H H') : ∀ {v : V} {d : PyData}, Dv K H v d → Tp d → Dv K H' v d
  | _, _, .non, _ => .non
  | _, _, .bl b, _ => .bl b
  | _, _, .int i, _ => .int i
  | _, _, .str s, _ => .str s
  | _, _, .lst _ _, t => nomatch t
  | _, _, .tup h r, .tup t => .tup (sqT_tk e h) (va_tk e r t)
  | _, _, .dc0 _, t => nomatch t
  | _, _, .dc1 _ _, t => nomatch t
theorem va_tk {K : PySem.W.Frag} {H H' : Hp} (e : Tk H H') : ∀ {v : List V} {d : List PyData}, DvAll K H v d → (∀ x ∈ d, Tp x) → DvAll K H' v d
  | _, _, .nil, _ => .nil
  | _, _, .cons h r, t => .cons (dv_tk e h (t _ List.mem_cons_self)) (va_tk e r fun x hx => t x (List.mem_cons_of_mem _ hx))
end
theorem itup {K : PySem.W.Frag} {te : TE} {σ : L2.St} {H : Hp} {R : It → Hp → Prop} (h : te σ H fun x H1 => ∃ a, x = .ref a ∧ (∃ xs, SqT K H1 a xs) ∧ R (Itt K a) H1) : iTup K te σ H R := h
theorem extup {K : PySem.W.Frag} {H : Hp} {p : Addr} {ys : List V} {P' : Addr → Prop} (h : SqT K H p ys) (g : P' p) : ∃ a, V.ref p = V.ref a ∧ (∃ zs, SqT K H a zs) ∧ P' a := ⟨p, rfl, ⟨ys, h⟩, g⟩
end Rd
/-! the order of texts; sorted lists of texts; dicts whose keys are texts -/
namespace Rd
open PySem PySem.Spec PyProof.Rows L2
theorem ltCps_iff : ∀ (a b : List Nat), ltCps a b = true ↔ a < b
  | [], [] => ⟨fun h => (nomatch h), fun h => absurd h (List.lt_irrefl _)⟩
  | [], _ :: _ => ⟨fun _ => List.nil_lt_cons _ _, fun _ => rfl⟩
  | _ :: _, [] => ⟨fun h => (nomatch h), fun h => absurd h (List.not_lt_nil _)⟩
  | a :: r, b :: t => by
    rw [List.cons_lt_cons_iff, ← ltCps_iff r t]
    show (decide (a < b) || (a == b && ltCps r t)) = true ↔ _
    simp
theorem ltCps_not {a b : List Nat} : ltCps a b = false ↔ ¬ a < b := by
  rw [← ltCps_iff]
  cases ltCps a b <;> simp
theorem not_lt_trans {a b c : List Nat} (h : ¬ b < a) (k : ¬ c < b) : ¬ c < a := List.le_trans (List.not_lt.mp h) (List.not_lt.mp k)
theorem rising_pw : ∀ (p : Str) (l : List Str), risingS p l = true → (p :: l).Pairwise (fun a b => ¬ cl b < cl a)
  | p, [], _ => List.pairwise_singleton _ _
  | p, x :: r, h => by
    have h : (!ltCps x.cps.toList p.cps.toList && risingS x r) = true := h
    obtain ⟨h1, h2⟩ := Bool.and_eq_true_iff.mp h
    have h1 : ltCps x.cps.toList p.cps.toList = false := by simpa using h1
    have ih := rising_pw x r h2
    refine List.pairwise_cons.mpr ⟨fun y hy => ?_, ih⟩
    rcases List.mem_cons.mp hy with rfl | hy
    · exact ltCps_not.mp h1
    · exact not_lt_trans (ltCps_not.mp h1) ((List.pairwise_cons.mp ih).1 y hy)
theorem sorted_pw : ∀ (l : List Str), sortedS l = true → l.Pairwise (fun a b => ¬ cl b < cl a)
  | [], _ => .nil
  | x :: r, h => rising_pw x r h
theorem le_antisymm' {a b : Str} (h : ¬ cl b < cl a) (k : ¬ cl a < cl b) : a = b := cl_inj (List.le_antisymm (List.not_lt.mp h) (List.not_lt.mp k))
/-- the sorted order is one -/
theorem sorted_one {ys zs : List Str} (p : ys.Perm zs) (h : sortedS ys = true) (k : sortedS zs = true) : ys = zs :=
  List.Perm.eq_of_pairwise (le := fun a b => ¬ cl b < cl a) (fun _ _ _ _ h k => le_antisymm' h k) (sorted_pw _ h) (sorted_pw _ k) p
theorem sorted_strict {ys : List Str} (h : sortedS ys = true) (n : ys.Nodup) : ys.Pairwise (fun a b => cl a < cl b) := by
  refine ((sorted_pw _ h).and n).imp fun {a b} hab => ?_
  rcases Decidable.em (cl a < cl b) with z | z
  · exact z
  · exact absurd (le_antisymm' hab.1 z) hab.2
section
variable {K : PySem.W.Frag} {H : Hp} {Q : VK} {a : Addr}
/-- sorted of texts whose order is known -/
theorem sortS {ks zs : List Str} (h : SqL K H a (ks.map V.str)) (hz : ks.length < 64) (p : ks.Perm zs) (s : sortedS zs = true) (q : ∀ p, H p = none → Q (.ref p) (upd H p (.lst (zs.map V.str)))) : rSortedS K [.ref a] H Q :=
  ⟨a, ks, rfl, h, hz, fun ys l pm sy n => by
    rw [sorted_one (pm.trans p) sy s]
    exact q l n⟩
end
/-! ### dicts: the keys ks, at each the value f -/
def kd (ks : List Str) (f : Str → V) : List (Key × V) := ks.map fun z => (Sum.inr z, f z)
theorem kd_len {ks : List Str} {f : Str → V} : (kd ks f).length = ks.length := List.length_map _
theorem kd_keys {ks : List Str} {f : Str → V} : ((kd ks f).map fun kv => kV kv.1) = ks.map V.str := by
  unfold kd
  rw [List.map_map]
  rfl
theorem kd_get : ∀ {ks : List Str} {f : Str → V} {z : Str}, z ∈ ks → valV (kd ks f) (Sum.inr z) = some (f z)
  | k :: ks, f, z, h => by
    unfold kd valV
    rw [List.map_cons, List.find?_cons]
    by_cases e : k = z
    · subst e
      rw [decide_eq_true rfl]
      rfl
    · rw [decide_eq_false (by intro z'; exact e (Sum.inr.inj z'))]
      exact kd_get (ks := ks) (f := f) ((List.mem_cons.mp h).resolve_left (fun w => e w.symm))
theorem kd_none : ∀ {ks : List Str} {f : Str → V} {z : Str}, z ∉ ks → valV (kd ks f) (Sum.inr z) = none
  | [], _, _, _ => rfl
  | k :: ks, f, z, h => by
    unfold kd valV
    rw [List.map_cons, List.find?_cons]
    rw [decide_eq_false (by intro z'; exact h (by rw [Sum.inr.inj z']; exact List.mem_cons_self))]
    exact kd_none (ks := ks) (f := f) (fun w => h (List.mem_cons_of_mem _ w))
theorem kd_any {ks : List Str} {f : Str → V} {z : Str} : ((kd ks f).any fun kv => decide (kv.1 = (Sum.inr z : Key))) = decide (z ∈ ks) := by
  rw [Bool.eq_iff_iff, List.any_eq_true, decide_eq_true_iff]
  unfold kd
  constructor
  · rintro ⟨x, hx, e⟩
    obtain ⟨y, hy, rfl⟩ := List.mem_map.mp hx
    rw [← Sum.inr.inj (of_decide_eq_true e)]
    exact hy
  · intro h
    exact ⟨_, List.mem_map.mpr ⟨z, h, rfl⟩, decide_eq_true rfl⟩
theorem kd_put {ks : List Str} {f : Str → V} {z : Str} {v : V} (h : z ∈ ks) : putK (kd ks f) (Sum.inr z) v = kd ks (fun y => if y = z then v else f y) := by
  unfold putK
  rw [kd_any, decide_eq_true h, if_pos rfl]
  unfold kd
  rw [List.map_map]
  refine List.map_congr_left fun y _ => ?_
  show (if (Sum.inr y : Key) = Sum.inr z then _ else _) = _
  by_cases e : y = z
  · subst e
    rw [if_pos rfl]
    show _ = ((Sum.inr y : Key), if y = y then v else f y)
    rw [if_pos rfl]
  · rw [if_neg (fun w => e (Sum.inr.inj w))]
    show _ = ((Sum.inr y : Key), if y = z then v else f y)
    rw [if_neg e]
theorem kd_congr {ks : List Str} {f g : Str → V} (h : ∀ z ∈ ks, f z = g z) : kd ks f = kd ks g := List.map_congr_left fun y hy => by rw [h y hy]
theorem kd_new {ks : List Str} {f : Str → V} {z : Str} {v : V} (h : z ∉ ks) : putK (kd ks f) (Sum.inr z) v = kd (ks ++ [z]) (fun y => if y = z then v else f y) := by
  unfold putK
  rw [kd_any, decide_eq_false h, if_neg Bool.false_ne_true]
  unfold kd
  rw [List.map_append]
  congr 1
  · refine List.map_congr_left fun y hy => ?_
    show _ = ((Sum.inr y : Key), if y = z then v else f y)
    rw [if_neg (fun e => h (by rw [← e]; exact hy))]
  · show _ = [((Sum.inr z : Key), if z = z then v else f z)]
    rw [if_pos rfl]
/-- pairs of texts and values, as a dict -/
def kp (ps : List (Str × V)) : List (Key × V) := ps.map fun p => (Sum.inr p.1, p.2)
theorem kp_kd {ks : List Str} {f : Str → V} : kp (ks.map fun z => (z, f z)) = kd ks f := by
  unfold kp kd
  rw [List.map_map]
  rfl
theorem merge_kd : ∀ {ls ks : List Str} {f : Str → V}, ls.Nodup → (∀ z ∈ ls, z ∉ ks) → mergeK (kd ks f) (kd ls f) = kd (ks ++ ls) f
  | [], ks, f, _, _ => by
    rw [List.append_nil]
    rfl
  | z :: ls, ks, f, n, d => by
    obtain ⟨n1, n2⟩ := List.nodup_cons.mp n
    show mergeK (putK (kd ks f) (Sum.inr z) (f z)) (kd ls f) = _
    rw [kd_new (d z List.mem_cons_self), kd_congr (g := f) (fun y _ => by
      split
      · rename_i e
        rw [e]
      · rfl)]
    rw [merge_kd n2 (fun y hy hz => ?_), List.append_assoc]
    · rfl
    · rcases List.mem_append.mp hz with h | h
      · exact d y (List.mem_cons_of_mem _ hy) h
      · rw [List.mem_singleton.mp h] at hy
        exact n1 hy
section
variable {K : PySem.W.Frag} {H : Hp} {Q : VK} {a b : Addr} {ks ls : List Str} {f g : Str → V} {z : Str} {v : V}
theorem dgetK (h : H a = some (.dK (kd ks f))) (m : z ∈ ks) (q : Q (f z) H) : ∃ a' v, V.ref a = .ref a' ∧ DGet H a' (.str z) (some v) ∧ Q v H := ⟨a, _, rfl, .inl ⟨_, Sum.inr z, .inl h, rfl, (kd_get m).symm⟩, q⟩
theorem dputK {P : Hp → Prop} (h : H a = some (.dK (kd ks f))) (m : z ∈ ks) (hz : ks.length ≤ 100000) (q : P (upd H a (.dK (kd ks fun y => if y = z then v else f y)))) : rSetD (.ref a) (.str z) v H P :=
  ⟨a, _, rfl, .inl ⟨_, Sum.inr z, h, rfl, by rw [kd_len]; exact sz5' hz, by rw [kd_put m]⟩, q⟩
theorem dnewK {P : Hp → Prop} (h : H a = some (.dK (kd ks f))) (m : z ∉ ks) (hz : ks.length ≤ 100000) (q : P (upd H a (.dK (kd (ks ++ [z]) fun y => if y = z then v else f y)))) : rSetD (.ref a) (.str z) v H P :=
  ⟨a, _, rfl, .inl ⟨_, Sum.inr z, h, rfl, by rw [kd_len]; exact sz5' hz, by rw [kd_new m]⟩, q⟩
def rDictD : List V → Hp → VK → Prop := fun xs H Q => ∃ (a : Addr) (kvs : List (Key × V)), xs = [.ref a] ∧ L2.Rd H a (.dK kvs) ∧ ∀ p, H p = none → Q (.ref p) (upd H p (.dK kvs))
theorem q_dictD {X : Cx} : CallR X (.type "dict") rDictD := call_dictD
theorem dictD {kvs : List (Key × V)} (h : H a = some (.dK kvs)) (q : ∀ p, H p = none → Q (.ref p) (upd H p (.dK kvs))) : rDictD [.ref a] H Q := ⟨a, kvs, rfl, .inl h, q⟩
theorem listDkd (h : H a = some (.dK (kd ks f))) (q : ∀ p, H p = none → Q (.ref p) (upd H p (.lst (ks.map V.str)))) : rListDk [.ref a] H Q := listDk h kd_keys q
end
theorem cr_anyK {X : Cx} {K : PySem.W.Frag} (h : X.K = K) (hc : X.calm = true) : CallR X (.builtin "any") (rAny K) := h ▸ cr_any hc
theorem q_maxLK {X : Cx} {K : PySem.W.Frag} (h : X.K = K) (hc : X.calm = true) : CallR X (.builtin "max") (rMax K) := h ▸ cr_max hc
theorem bb_any : bootBuiltins "any" = some (.builtin "any") := by decide +kernel
theorem un1 {k : Nat} {A : Around} (r : Room k A) : A.units + 1 < cLine := by
  have := r.units
  omega
/-! ### d.update(d2) -/
def rUpdD : V → List V → Hp → VK → Prop := fun x vs H Q => ∃ (a b : Addr) (kvs ks : List (Key × V)), x = .ref a ∧ vs = [.ref b] ∧ a ≠ b ∧ H a = some (.dK kvs) ∧ H b = some (.dK ks) ∧ kvs.length + ks.length ≤ 100000 ∧ Q .non (upd H a (.dK (mergeK kvs ks)))
theorem mt_dict_update {X : Cx} : MtR X "dict.update" rUpdD := by
  intro pins s σ H x vs v us Q I rx rv h
  obtain ⟨a, b, kvs, ks, rfl, rfl, ne, ha, hb, hl, q⟩ := h
  obtain rfl : v = Value.ref a := rx
  obtain ⟨u, rfl, ru⟩ := vals1 rv
  obtain rfl : u = Value.ref b := ru
  obtain ⟨z, hd, ws, rel, dd⟩ := dk_of I.hok ha
  obtain ⟨z2, hd2, ws2, rel2, dd2⟩ := dk_of I.hok hb
  have hz : ws.length + ws2.length ≤ sizeLine := by
    rw [← rel.length, ← rel2.length]
    exact sz5 hl
  refine call_meetsIn PySem.F.slot_dict_update dd.typeIs PySem.F.entry_dict_update (PySem.F.args_dict_update_2 _ _) (meets_dict_update _ a b ne hd2) ⟨ws, ws2, dd, dd2, hz, fun h' dd' _ hs => ?_⟩
  have he : ∃ q, h'.get? a = some q := let ⟨q, _, _, hq, _⟩ := dd'; ⟨q, hq⟩
  exact ⟨.non, _, d_write (t' := s.toks) I (by rw [ha]; exact True.intro) hs he (dk_new (Nat.le_trans (length_mergeK ks kvs) (sz5 hl)) hd (KV.merge rel2 rel) dd'), rfl, q⟩
section
variable {K : PySem.W.Frag} {H : Hp} {Q : VK} {a b : Addr} {ks ls : List Str} {f : Str → V}
theorem updD (ha : H a = some (.dK (kd ks f))) (hb : H b = some (.dK (kd ls f))) (ne : a ≠ b) (n : ls.Nodup) (d : ∀ z ∈ ls, z ∉ ks) (l : ks.length + ls.length ≤ 100000) (q : Q .non (upd H a (.dK (kd (ks ++ ls) f)))) : rUpdD (.ref a) [.ref b] H Q :=
  ⟨a, b, _, _, rfl, rfl, ne, ha, hb, by rw [kd_len, kd_len]; exact l, by rw [merge_kd n d]; exact q⟩
theorem lockE {t : TE} {σ : L2.St} {d : Addr} {kvs : List (Key × V)} (h : H d = some (.dK kvs)) (g : ∀ od, t σ (upd H d (.frz od (.dK kvs))) fun v H' => H' d = some (.frz od (.dK kvs)) ∧ Q v (upd H' d (.dK kvs))) : tLockE t σ H Q := ⟨d, _, h, True.intro, g⟩
end
/-- a comprehension over the values of a locked dict -/
theorem lcV {g : TG} {tt : TT} {te : TE} {vs : List Nat} {σ : L2.St} {H : Hp} {Q : VK} {d : Addr} {o : Obj} (kvs : List (Key × V)) (f : ∀ L, H L = none → ∃ Pv : Nat → Hp → Prop, Pv 0 (upd H L (.lst [])) ∧ (∀ i h, i ≤ kvs.length → Pv i h → h d = some (.frz o (.dK kvs))) ∧
    (∀ i k x h, kvs[i]? = some (k, x) → Pv i h → Turn1 g tt te vs σ L x h (Pv (i + 1))) ∧ ∀ h, Pv kvs.length h → Q (.ref L) h) : LcB (Itd d o kvs) g tt te vs σ H Q := fun L hL => by
  obtain ⟨Pv, h0, hl, hs, hd⟩ := f L hL
  refine ⟨fun i m h => m = kvs.length - i ∧ i ≤ kvs.length ∧ Pv i h, ⟨kvs.length, by simp, Nat.zero_le _, h0⟩, ?_⟩
  rintro i m h ⟨rfl, hi, p⟩
  have q := hl i h hi p
  by_cases hlt : i < kvs.length
  · refine .inr ⟨⟨q, hlt⟩, Pv (i + 1), fun H' p' => ⟨kvs.length - (i + 1), by omega, rfl, hlt, p'⟩, fun x H' y => ?_⟩
    obtain ⟨e, k, y⟩ := y
    subst e
    exact hs i k x _ y p
  · have : i = kvs.length := by omega
    subst this
    exact .inl ⟨⟨q, Nat.le_refl _⟩, hd h p⟩
theorem valsX {td : TE} {σ : L2.St} {H : Hp} {R : It → Hp → Prop} (h : td σ H fun x H1 => ∃ d o kvs, x = .ref d ∧ H1 d = some (.frz o (.dK kvs)) ∧ R (Itd d o kvs) H1) : iVals td σ H R := h
end Rd
namespace Kj
open PySem PySem.Spec PyProof.Rows L2 Rd
def topS (i : Nat) : Stmt := PySem.Challenge.pw_keptjoined_k47_bounds_of_the_counts.main.body.getD i (.Pass ⟨0, 0, 0, 0⟩)
theorem nd_count : (("count" : Str) == ("__debug__" : Str)) = false := by decide +kernel
theorem nc_count : (("count" : Str) == ("__classdict__" : Str)) = false := by decide +kernel
theorem nn_count : ("count" : Str) ≠ "__name__" := by decide +kernel
theorem nd_top_level : (("top_level" : Str) == ("__debug__" : Str)) = false := by decide +kernel
theorem nc_top_level : (("top_level" : Str) == ("__classdict__" : Str)) = false := by decide +kernel
theorem nn_top_level : ("top_level" : Str) ≠ "__name__" := by decide +kernel
theorem nd_puts : (("puts" : Str) == ("__debug__" : Str)) = false := by decide +kernel
theorem nc_puts : (("puts" : Str) == ("__classdict__" : Str)) = false := by decide +kernel
theorem nn_puts : ("puts" : Str) ≠ "__name__" := by decide +kernel
theorem nd_max : (("max" : Str) == ("__debug__" : Str)) = false := by decide +kernel
theorem nc_max : (("max" : Str) == ("__classdict__" : Str)) = false := by decide +kernel
theorem nn_max : ("max" : Str) ≠ "__name__" := by decide +kernel
theorem nd_rise_bound : (("rise_bound" : Str) == ("__debug__" : Str)) = false := by decide +kernel
theorem nc_rise_bound : (("rise_bound" : Str) == ("__classdict__" : Str)) = false := by decide +kernel
theorem nn_rise_bound : ("rise_bound" : Str) ≠ "__name__" := by decide +kernel
theorem nd_takes : (("takes" : Str) == ("__debug__" : Str)) = false := by decide +kernel
theorem nc_takes : (("takes" : Str) == ("__classdict__" : Str)) = false := by decide +kernel
theorem nn_takes : ("takes" : Str) ≠ "__name__" := by decide +kernel
theorem nd_rises : (("rises" : Str) == ("__debug__" : Str)) = false := by decide +kernel
theorem nc_rises : (("rises" : Str) == ("__classdict__" : Str)) = false := by decide +kernel
theorem nn_rises : ("rises" : Str) ≠ "__name__" := by decide +kernel
theorem nd_step_bound : (("step_bound" : Str) == ("__debug__" : Str)) = false := by decide +kernel
theorem nc_step_bound : (("step_bound" : Str) == ("__classdict__" : Str)) = false := by decide +kernel
theorem nn_step_bound : ("step_bound" : Str) ≠ "__name__" := by decide +kernel
theorem nd_counts : (("counts" : Str) == ("__debug__" : Str)) = false := by decide +kernel
theorem nc_counts : (("counts" : Str) == ("__classdict__" : Str)) = false := by decide +kernel
theorem nn_counts : ("counts" : Str) ≠ "__name__" := by decide +kernel
theorem nd_steps : (("steps" : Str) == ("__debug__" : Str)) = false := by decide +kernel
theorem nc_steps : (("steps" : Str) == ("__classdict__" : Str)) = false := by decide +kernel
theorem nn_steps : ("steps" : Str) ≠ "__name__" := by decide +kernel
theorem nd_number : (("number" : Str) == ("__debug__" : Str)) = false := by decide +kernel
theorem nc_number : (("number" : Str) == ("__classdict__" : Str)) = false := by decide +kernel
theorem nn_number : ("number" : Str) ≠ "__name__" := by decide +kernel
theorem nd_any : (("any" : Str) == ("__debug__" : Str)) = false := by decide +kernel
theorem nc_any : (("any" : Str) == ("__classdict__" : Str)) = false := by decide +kernel
theorem nn_any : ("any" : Str) ≠ "__name__" := by decide +kernel
theorem nd_is_within : (("is_within" : Str) == ("__debug__" : Str)) = false := by decide +kernel
theorem nc_is_within : (("is_within" : Str) == ("__classdict__" : Str)) = false := by decide +kernel
theorem nn_is_within : ("is_within" : Str) ≠ "__name__" := by decide +kernel
theorem nd_script : (("script" : Str) == ("__debug__" : Str)) = false := by decide +kernel
theorem nc_script : (("script" : Str) == ("__classdict__" : Str)) = false := by decide +kernel
theorem nn_script : ("script" : Str) ≠ "__name__" := by decide +kernel
theorem nd_cells : (("cells" : Str) == ("__debug__" : Str)) = false := by decide +kernel
theorem nc_cells : (("cells" : Str) == ("__classdict__" : Str)) = false := by decide +kernel
theorem nn_cells : ("cells" : Str) ≠ "__name__" := by decide +kernel
theorem nd_state : (("state" : Str) == ("__debug__" : Str)) = false := by decide +kernel
theorem nc_state : (("state" : Str) == ("__classdict__" : Str)) = false := by decide +kernel
theorem nn_state : ("state" : Str) ≠ "__name__" := by decide +kernel
theorem nd_cell : (("cell" : Str) == ("__debug__" : Str)) = false := by decide +kernel
theorem nc_cell : (("cell" : Str) == ("__classdict__" : Str)) = false := by decide +kernel
theorem nn_cell : ("cell" : Str) ≠ "__name__" := by decide +kernel
theorem nd_list : (("list" : Str) == ("__debug__" : Str)) = false := by decide +kernel
theorem nc_list : (("list" : Str) == ("__classdict__" : Str)) = false := by decide +kernel
theorem nn_list : ("list" : Str) ≠ "__name__" := by decide +kernel
theorem nd_len : (("len" : Str) == ("__debug__" : Str)) = false := by decide +kernel
theorem nc_len : (("len" : Str) == ("__classdict__" : Str)) = false := by decide +kernel
theorem nn_len : ("len" : Str) ≠ "__name__" := by decide +kernel
theorem nd_int : (("int" : Str) == ("__debug__" : Str)) = false := by decide +kernel
theorem nc_int : (("int" : Str) == ("__classdict__" : Str)) = false := by decide +kernel
theorem nn_int : ("int" : Str) ≠ "__name__" := by decide +kernel
theorem nd__law_store : (("_law_store" : Str) == ("__debug__" : Str)) = false := by decide +kernel
theorem nc__law_store : (("_law_store" : Str) == ("__classdict__" : Str)) = false := by decide +kernel
theorem nn__law_store : ("_law_store" : Str) ≠ "__name__" := by decide +kernel
theorem nd_store : (("store" : Str) == ("__debug__" : Str)) = false := by decide +kernel
theorem nc_store : (("store" : Str) == ("__classdict__" : Str)) = false := by decide +kernel
theorem nn_store : ("store" : Str) ≠ "__name__" := by decide +kernel
theorem nd_many : (("many" : Str) == ("__debug__" : Str)) = false := by decide +kernel
theorem nc_many : (("many" : Str) == ("__classdict__" : Str)) = false := by decide +kernel
theorem nn_many : ("many" : Str) ≠ "__name__" := by decide +kernel
theorem nd_digits : (("digits" : Str) == ("__debug__" : Str)) = false := by decide +kernel
theorem nc_digits : (("digits" : Str) == ("__classdict__" : Str)) = false := by decide +kernel
theorem nn_digits : ("digits" : Str) ≠ "__name__" := by decide +kernel
theorem nd_tick : (("tick" : Str) == ("__debug__" : Str)) = false := by decide +kernel
theorem nc_tick : (("tick" : Str) == ("__classdict__" : Str)) = false := by decide +kernel
theorem nn_tick : ("tick" : Str) ≠ "__name__" := by decide +kernel
theorem nd_place : (("place" : Str) == ("__debug__" : Str)) = false := by decide +kernel
theorem nc_place : (("place" : Str) == ("__classdict__" : Str)) = false := by decide +kernel
theorem nn_place : ("place" : Str) ≠ "__name__" := by decide +kernel
theorem nd_mixed : (("mixed" : Str) == ("__debug__" : Str)) = false := by decide +kernel
theorem nc_mixed : (("mixed" : Str) == ("__classdict__" : Str)) = false := by decide +kernel
theorem nn_mixed : ("mixed" : Str) ≠ "__name__" := by decide +kernel
theorem nd__law_take : (("_law_take" : Str) == ("__debug__" : Str)) = false := by decide +kernel
theorem nc__law_take : (("_law_take" : Str) == ("__classdict__" : Str)) = false := by decide +kernel
theorem nn__law_take : ("_law_take" : Str) ≠ "__name__" := by decide +kernel
theorem nd_items : (("items" : Str) == ("__debug__" : Str)) = false := by decide +kernel
theorem nc_items : (("items" : Str) == ("__classdict__" : Str)) = false := by decide +kernel
theorem nn_items : ("items" : Str) ≠ "__name__" := by decide +kernel
theorem nd__law_pick : (("_law_pick" : Str) == ("__debug__" : Str)) = false := by decide +kernel
theorem nc__law_pick : (("_law_pick" : Str) == ("__classdict__" : Str)) = false := by decide +kernel
theorem nn__law_pick : ("_law_pick" : Str) ≠ "__name__" := by decide +kernel
theorem nd_row : (("row" : Str) == ("__debug__" : Str)) = false := by decide +kernel
theorem nc_row : (("row" : Str) == ("__classdict__" : Str)) = false := by decide +kernel
theorem nn_row : ("row" : Str) ≠ "__name__" := by decide +kernel
theorem nd_style : (("style" : Str) == ("__debug__" : Str)) = false := by decide +kernel
theorem nc_style : (("style" : Str) == ("__classdict__" : Str)) = false := by decide +kernel
theorem nn_style : ("style" : Str) ≠ "__name__" := by decide +kernel
theorem nd_k : (("k" : Str) == ("__debug__" : Str)) = false := by decide +kernel
theorem nc_k : (("k" : Str) == ("__classdict__" : Str)) = false := by decide +kernel
theorem nn_k : ("k" : Str) ≠ "__name__" := by decide +kernel
theorem nd_at : (("at" : Str) == ("__debug__" : Str)) = false := by decide +kernel
theorem nc_at : (("at" : Str) == ("__classdict__" : Str)) = false := by decide +kernel
theorem nn_at : ("at" : Str) ≠ "__name__" := by decide +kernel
theorem nd_kept : (("kept" : Str) == ("__debug__" : Str)) = false := by decide +kernel
theorem nc_kept : (("kept" : Str) == ("__classdict__" : Str)) = false := by decide +kernel
theorem nn_kept : ("kept" : Str) ≠ "__name__" := by decide +kernel
theorem nd_reversed : (("reversed" : Str) == ("__debug__" : Str)) = false := by decide +kernel
theorem nc_reversed : (("reversed" : Str) == ("__classdict__" : Str)) = false := by decide +kernel
theorem nn_reversed : ("reversed" : Str) ≠ "__name__" := by decide +kernel
theorem nd_range : (("range" : Str) == ("__debug__" : Str)) = false := by decide +kernel
theorem nc_range : (("range" : Str) == ("__classdict__" : Str)) = false := by decide +kernel
theorem nn_range : ("range" : Str) ≠ "__name__" := by decide +kernel
theorem nd__law_shuffled : (("_law_shuffled" : Str) == ("__debug__" : Str)) = false := by decide +kernel
theorem nc__law_shuffled : (("_law_shuffled" : Str) == ("__classdict__" : Str)) = false := by decide +kernel
theorem nn__law_shuffled : ("_law_shuffled" : Str) ≠ "__name__" := by decide +kernel
theorem nd_one : (("one" : Str) == ("__debug__" : Str)) = false := by decide +kernel
theorem nc_one : (("one" : Str) == ("__classdict__" : Str)) = false := by decide +kernel
theorem nn_one : ("one" : Str) ≠ "__name__" := by decide +kernel
theorem nd_two : (("two" : Str) == ("__debug__" : Str)) = false := by decide +kernel
theorem nc_two : (("two" : Str) == ("__classdict__" : Str)) = false := by decide +kernel
theorem nn_two : ("two" : Str) ≠ "__name__" := by decide +kernel
theorem nd_isinstance : (("isinstance" : Str) == ("__debug__" : Str)) = false := by decide +kernel
theorem nc_isinstance : (("isinstance" : Str) == ("__classdict__" : Str)) = false := by decide +kernel
theorem nn_isinstance : ("isinstance" : Str) ≠ "__name__" := by decide +kernel
theorem nd_str : (("str" : Str) == ("__debug__" : Str)) = false := by decide +kernel
theorem nc_str : (("str" : Str) == ("__classdict__" : Str)) = false := by decide +kernel
theorem nn_str : ("str" : Str) ≠ "__name__" := by decide +kernel
theorem nd_tuple : (("tuple" : Str) == ("__debug__" : Str)) = false := by decide +kernel
theorem nc_tuple : (("tuple" : Str) == ("__classdict__" : Str)) = false := by decide +kernel
theorem nn_tuple : ("tuple" : Str) ≠ "__name__" := by decide +kernel
theorem nd_bool : (("bool" : Str) == ("__debug__" : Str)) = false := by decide +kernel
theorem nc_bool : (("bool" : Str) == ("__classdict__" : Str)) = false := by decide +kernel
theorem nn_bool : ("bool" : Str) ≠ "__name__" := by decide +kernel
theorem nd__law_alike : (("_law_alike" : Str) == ("__debug__" : Str)) = false := by decide +kernel
theorem nc__law_alike : (("_law_alike" : Str) == ("__classdict__" : Str)) = false := by decide +kernel
theorem nn__law_alike : ("_law_alike" : Str) ≠ "__name__" := by decide +kernel
theorem nd_most : (("most" : Str) == ("__debug__" : Str)) = false := by decide +kernel
theorem nc_most : (("most" : Str) == ("__classdict__" : Str)) = false := by decide +kernel
theorem nn_most : ("most" : Str) ≠ "__name__" := by decide +kernel
theorem nd__law_number : (("_law_number" : Str) == ("__debug__" : Str)) = false := by decide +kernel
theorem nc__law_number : (("_law_number" : Str) == ("__classdict__" : Str)) = false := by decide +kernel
theorem nn__law_number : ("_law_number" : Str) ≠ "__name__" := by decide +kernel
theorem nd__law_up_to : (("_law_up_to" : Str) == ("__debug__" : Str)) = false := by decide +kernel
theorem nc__law_up_to : (("_law_up_to" : Str) == ("__classdict__" : Str)) = false := by decide +kernel
theorem nn__law_up_to : ("_law_up_to" : Str) ≠ "__name__" := by decide +kernel
theorem nd_highest : (("highest" : Str) == ("__debug__" : Str)) = false := by decide +kernel
theorem nc_highest : (("highest" : Str) == ("__classdict__" : Str)) = false := by decide +kernel
theorem nn_highest : ("highest" : Str) ≠ "__name__" := by decide +kernel
theorem nd_key : (("key" : Str) == ("__debug__" : Str)) = false := by decide +kernel
theorem nc_key : (("key" : Str) == ("__classdict__" : Str)) = false := by decide +kernel
theorem nn_key : ("key" : Str) ≠ "__name__" := by decide +kernel
theorem nd_sorted : (("sorted" : Str) == ("__debug__" : Str)) = false := by decide +kernel
theorem nc_sorted : (("sorted" : Str) == ("__classdict__" : Str)) = false := by decide +kernel
theorem nn_sorted : ("sorted" : Str) ≠ "__name__" := by decide +kernel
theorem nd__law_sentences : (("_law_sentences" : Str) == ("__debug__" : Str)) = false := by decide +kernel
theorem nc__law_sentences : (("_law_sentences" : Str) == ("__classdict__" : Str)) = false := by decide +kernel
theorem nn__law_sentences : ("_law_sentences" : Str) ≠ "__name__" := by decide +kernel
theorem nd__law_double : (("_law_double" : Str) == ("__debug__" : Str)) = false := by decide +kernel
theorem nc__law_double : (("_law_double" : Str) == ("__classdict__" : Str)) = false := by decide +kernel
theorem nn__law_double : ("_law_double" : Str) ≠ "__name__" := by decide +kernel
theorem nd_times : (("times" : Str) == ("__debug__" : Str)) = false := by decide +kernel
theorem nc_times : (("times" : Str) == ("__classdict__" : Str)) = false := by decide +kernel
theorem nn_times : ("times" : Str) ≠ "__name__" := by decide +kernel
theorem nd_power : (("power" : Str) == ("__debug__" : Str)) = false := by decide +kernel
theorem nc_power : (("power" : Str) == ("__classdict__" : Str)) = false := by decide +kernel
theorem nn_power : ("power" : Str) ≠ "__name__" := by decide +kernel
theorem nd_found : (("found" : Str) == ("__debug__" : Str)) = false := by decide +kernel
theorem nc_found : (("found" : Str) == ("__classdict__" : Str)) = false := by decide +kernel
theorem nn_found : ("found" : Str) ≠ "__name__" := by decide +kernel
theorem nd_apart : (("apart" : Str) == ("__debug__" : Str)) = false := by decide +kernel
theorem nc_apart : (("apart" : Str) == ("__classdict__" : Str)) = false := by decide +kernel
theorem nn_apart : ("apart" : Str) ≠ "__name__" := by decide +kernel
theorem nd_joined : (("joined" : Str) == ("__debug__" : Str)) = false := by decide +kernel
theorem nc_joined : (("joined" : Str) == ("__classdict__" : Str)) = false := by decide +kernel
theorem nn_joined : ("joined" : Str) ≠ "__name__" := by decide +kernel
theorem nd_cuts : (("cuts" : Str) == ("__debug__" : Str)) = false := by decide +kernel
theorem nc_cuts : (("cuts" : Str) == ("__classdict__" : Str)) = false := by decide +kernel
theorem nn_cuts : ("cuts" : Str) ≠ "__name__" := by decide +kernel
theorem nd_due : (("due" : Str) == ("__debug__" : Str)) = false := by decide +kernel
theorem nc_due : (("due" : Str) == ("__classdict__" : Str)) = false := by decide +kernel
theorem nn_due : ("due" : Str) ≠ "__name__" := by decide +kernel
theorem nd_min : (("min" : Str) == ("__debug__" : Str)) = false := by decide +kernel
theorem nc_min : (("min" : Str) == ("__classdict__" : Str)) = false := by decide +kernel
theorem nn_min : ("min" : Str) ≠ "__name__" := by decide +kernel
theorem nd__law_good_counts : (("_law_good_counts" : Str) == ("__debug__" : Str)) = false := by decide +kernel
theorem nc__law_good_counts : (("_law_good_counts" : Str) == ("__classdict__" : Str)) = false := by decide +kernel
theorem nn__law_good_counts : ("_law_good_counts" : Str) ≠ "__name__" := by decide +kernel
theorem nd_handed : (("handed" : Str) == ("__debug__" : Str)) = false := by decide +kernel
theorem nc_handed : (("handed" : Str) == ("__classdict__" : Str)) = false := by decide +kernel
theorem nn_handed : ("handed" : Str) ≠ "__name__" := by decide +kernel
theorem nd_told : (("told" : Str) == ("__debug__" : Str)) = false := by decide +kernel
theorem nc_told : (("told" : Str) == ("__classdict__" : Str)) = false := by decide +kernel
theorem nn_told : ("told" : Str) ≠ "__name__" := by decide +kernel
theorem nd_dict : (("dict" : Str) == ("__debug__" : Str)) = false := by decide +kernel
theorem nc_dict : (("dict" : Str) == ("__classdict__" : Str)) = false := by decide +kernel
theorem nn_dict : ("dict" : Str) ≠ "__name__" := by decide +kernel
theorem nd__law_asked : (("_law_asked" : Str) == ("__debug__" : Str)) = false := by decide +kernel
theorem nc__law_asked : (("_law_asked" : Str) == ("__classdict__" : Str)) = false := by decide +kernel
theorem nn__law_asked : ("_law_asked" : Str) ≠ "__name__" := by decide +kernel
theorem nd_value : (("value" : Str) == ("__debug__" : Str)) = false := by decide +kernel
theorem nc_value : (("value" : Str) == ("__classdict__" : Str)) = false := by decide +kernel
theorem nn_value : ("value" : Str) ≠ "__name__" := by decide +kernel
theorem nd_bent : (("bent" : Str) == ("__debug__" : Str)) = false := by decide +kernel
theorem nc_bent : (("bent" : Str) == ("__classdict__" : Str)) = false := by decide +kernel
theorem nn_bent : ("bent" : Str) ≠ "__name__" := by decide +kernel
theorem nd_other : (("other" : Str) == ("__debug__" : Str)) = false := by decide +kernel
theorem nc_other : (("other" : Str) == ("__classdict__" : Str)) = false := by decide +kernel
theorem nn_other : ("other" : Str) ≠ "__name__" := by decide +kernel
theorem nd_law : (("law" : Str) == ("__debug__" : Str)) = false := by decide +kernel
theorem nc_law : (("law" : Str) == ("__classdict__" : Str)) = false := by decide +kernel
theorem nn_law : ("law" : Str) ≠ "__name__" := by decide +kernel
abbrev s_top_level : Stmt := topS 1
abbrev N_top_level : List Str := ["count"]
abbrev P_top_level : List Str := ["count"]
theorem sc_top_level : FnScope N_top_level P_top_level (defScope s_top_level) := ⟨rfl, rfl, rfl, by decide +kernel, rfl, by decide +kernel, by decide +kernel⟩
abbrev s_rise_bound : Stmt := topS 3
abbrev N_rise_bound : List Str := ["count", "puts"]
abbrev P_rise_bound : List Str := ["count", "puts"]
theorem sc_rise_bound : FnScope N_rise_bound P_rise_bound (defScope s_rise_bound) := ⟨rfl, rfl, rfl, by decide +kernel, rfl, by decide +kernel, by decide +kernel⟩
abbrev s_step_bound : Stmt := topS 4
abbrev N_step_bound : List Str := ["count", "puts", "takes", "rises"]
abbrev P_step_bound : List Str := ["count", "puts", "takes", "rises"]
theorem sc_step_bound : FnScope N_step_bound P_step_bound (defScope s_step_bound) := ⟨rfl, rfl, rfl, by decide +kernel, rfl, by decide +kernel, by decide +kernel⟩
abbrev s_is_within : Stmt := topS 5
abbrev N_is_within : List Str := ["count", "counts", "puts", "takes", "rises", "steps", "number"]
abbrev P_is_within : List Str := ["count", "counts"]
theorem sc_is_within : FnScope N_is_within P_is_within (defScope s_is_within) := ⟨rfl, rfl, rfl, by decide +kernel, rfl, by decide +kernel, by decide +kernel⟩
abbrev s__law_store : Stmt := topS 7
abbrev N__law_store : List Str := ["script", "cells", "state", "cell"]
abbrev P__law_store : List Str := ["script"]
theorem sc__law_store : FnScope N__law_store P__law_store (defScope s__law_store) := ⟨rfl, rfl, rfl, by decide +kernel, rfl, by decide +kernel, by decide +kernel⟩
abbrev s__law_take : Stmt := topS 8
abbrev N__law_take : List Str := ["store", "many", "digits", "tick", "cells", "place", "cell", "mixed"]
abbrev P__law_take : List Str := ["store", "many"]
theorem sc__law_take : FnScope N__law_take P__law_take (defScope s__law_take) := ⟨rfl, rfl, rfl, by decide +kernel, rfl, by decide +kernel, by decide +kernel⟩
abbrev s__law_pick : Stmt := topS 9
abbrev N__law_pick : List Str := ["store", "items"]
abbrev P__law_pick : List Str := ["store", "items"]
theorem sc__law_pick : FnScope N__law_pick P__law_pick (defScope s__law_pick) := ⟨rfl, rfl, rfl, by decide +kernel, rfl, by decide +kernel, by decide +kernel⟩
abbrev s__law_shuffled : Stmt := topS 10
abbrev N__law_shuffled : List Str := ["store", "items", "row", "style", "k", "at", "kept"]
abbrev P__law_shuffled : List Str := ["store", "items"]
theorem sc__law_shuffled : FnScope N__law_shuffled P__law_shuffled (defScope s__law_shuffled) := ⟨rfl, rfl, rfl, by decide +kernel, rfl, by decide +kernel, by decide +kernel⟩
abbrev s__law_alike : Stmt := topS 11
abbrev N__law_alike : List Str := ["one", "two", "k"]
abbrev P__law_alike : List Str := ["one", "two"]
theorem sc__law_alike : FnScope N__law_alike P__law_alike (defScope s__law_alike) := ⟨rfl, rfl, rfl, by decide +kernel, rfl, by decide +kernel, by decide +kernel⟩
abbrev s__law_number : Stmt := topS 12
abbrev N__law_number : List Str := ["store", "most"]
abbrev P__law_number : List Str := ["store"]
theorem sc__law_number : FnScope N__law_number P__law_number (defScope s__law_number) := ⟨rfl, rfl, rfl, by decide +kernel, rfl, by decide +kernel, by decide +kernel⟩
abbrev s__law_up_to : Stmt := topS 13
abbrev N__law_up_to : List Str := ["store", "most", "style"]
abbrev P__law_up_to : List Str := ["store", "most"]
theorem sc__law_up_to : FnScope N__law_up_to P__law_up_to (defScope s__law_up_to) := ⟨rfl, rfl, rfl, by decide +kernel, rfl, by decide +kernel, by decide +kernel⟩
abbrev s__law_sentences : Stmt := topS 14
abbrev N__law_sentences : List Str := ["count", "counts", "highest", "rises", "steps", "row", "key", "k"]
abbrev P__law_sentences : List Str := ["count", "counts"]
theorem sc__law_sentences : FnScope N__law_sentences P__law_sentences (defScope s__law_sentences) := ⟨rfl, rfl, rfl, by decide +kernel, rfl, by decide +kernel, by decide +kernel⟩
abbrev s__law_double : Stmt := topS 15
abbrev N__law_double : List Str := ["times", "power", "k"]
abbrev P__law_double : List Str := ["times"]
theorem sc__law_double : FnScope N__law_double P__law_double (defScope s__law_double) := ⟨rfl, rfl, rfl, by decide +kernel, rfl, by decide +kernel, by decide +kernel⟩
abbrev s__law_good_counts : Stmt := topS 16
abbrev N__law_good_counts : List Str := ["store", "count", "puts", "takes", "found", "apart", "joined", "highest", "rises", "steps", "cuts", "due", "counts", "key", "k"]
abbrev P__law_good_counts : List Str := ["store", "count"]
theorem sc__law_good_counts : FnScope N__law_good_counts P__law_good_counts (defScope s__law_good_counts) := ⟨rfl, rfl, rfl, by decide +kernel, rfl, by decide +kernel, by decide +kernel⟩
abbrev s__law_asked : Stmt := topS 17
abbrev N__law_asked : List Str := ["count", "counts", "handed", "due", "told", "key"]
abbrev P__law_asked : List Str := ["count", "counts"]
theorem sc__law_asked : FnScope N__law_asked P__law_asked (defScope s__law_asked) := ⟨rfl, rfl, rfl, by decide +kernel, rfl, by decide +kernel, by decide +kernel⟩
abbrev s_law : Stmt := topS 18
abbrev N_law : List Str := ["script", "store", "count", "puts", "takes", "rises", "highest", "steps", "counts", "key", "value", "bent", "other", "k"]
abbrev P_law : List Str := ["script"]
theorem sc_law : FnScope N_law P_law (defScope s_law) := ⟨rfl, rfl, rfl, by decide +kernel, rfl, by decide +kernel, by decide +kernel⟩
/-! ### heaps by their names -/
theorem hpS {H G : Hp} {a : Addr} {o : HO} (s : Same H G) (h : H a = some o) : G a = some o := s _ _ h
theorem newOne {H G : Hp} {l : Addr} {o : HO} (n : H l = none) (e : upd H l o = G) : Same H G ∧ G l = some o := by
  subst e
  exact ⟨same_upd n, upd_same⟩
/-! ### the stepper -/
local macro_rules | `(tactic| walk_at "hp") => `(tactic| first
  | assumption
  | exact upd_same
  | (refine Eq.trans (upd_ne (by first | assumption | (apply Ne.symm; assumption))) ?_; walk_at "hp"))
local macro_rules | `(tactic| walk_at "sq") => `(tactic| first
  | assumption
  | (refine Or.inl (Or.inl ?_); walk_at "hp"))
local macro_rules | `(tactic| walk_at "st") => `(tactic| first
  | assumption
  | (refine Or.inl (Or.inl ?_); walk_at "hp"))
local macro_rules | `(tactic| walk_at "ar") => `(tactic| first
  | assumption
  | omega
  | decide)
local macro_rules | `(tactic| walk_at "ci") => `(tactic| first
  | (refine (show CMul _ _ from Or.inr ⟨?_, ?_⟩) <;> omega)
  | (refine (show CMul _ _ from Or.inl ⟨?_, ?_⟩) <;> omega)
  | (show CPow _ _; exact ⟨by decide, by decide, by decide⟩)
  | (refine wide_div (b := 63) ?_ ?_ (by decide) (by decide) <;> omega)
  | (show (0 : Int) < _; omega))
local macro_rules | `(tactic| walk_at "ty") => `(tactic| first
  | exact dp_ty (by assumption)
  | exact TyX.base (TyOf.int _)
  | exact TyX.base (TyOf.str _)
  | exact TyX.base (TyOf.bl _)
  | exact TyX.base TyOf.non
  | exact tyL' (by walk_at "sq")
  | exact tyT' (by walk_at "st"))
local macro_rules | `(tactic| walk_at "isi") => `(tactic| first
  | ((with_reducible apply Rd.isiF); (walk_at "ty"); (decide))
  | ((with_reducible apply Rd.isiT); (walk_at "ty"); (decide)))
local macro_rules | `(tactic| walk_at "rd") => `(tactic| first
  | with_reducible apply Rd.seq
  | ((with_reducible apply Rd.var); rfl)
  | with_reducible apply Rd.con
  | with_reducible apply Rd.op
  | with_reducible apply Rd.asg
  | ((with_reducible apply Rd.gname); ((dsimp only [List.set, L2.wipe, Int.reduceToNat]) <;> rfl))
  | with_reducible apply Rd.nxt
  | with_reducible apply Rd.ifs
  | with_reducible apply Rd.test
  | with_reducible apply Rd.testB
  | with_reducible apply Rd.exbl
  | with_reducible apply Rd.ret
  | with_reducible apply Rd.drop
  | with_reducible apply Rd.retN
  | with_reducible apply Rd.nil
  | with_reducible apply Rd.cons
  | with_reducible apply Rd.call
  | with_reducible apply Rd.cb
  | with_reducible apply Rd.and
  | with_reducible apply Rd.or
  | with_reducible apply Rd.not
  | with_reducible apply Rd.andV
  | with_reducible apply Rd.orV
  | with_reducible apply Rd.notV
  | with_reducible apply Rd.ife
  | with_reducible apply Rd.tup
  | with_reducible apply Rd.lst
  | with_reducible apply Rd.un
  | with_reducible apply Rd.chain
  | with_reducible apply Rd.brk
  | with_reducible apply Rd.cnt
  | with_reducible apply Rd.I0
  | with_reducible apply Rd.U1
  | ((with_reducible apply Rd.eq); rfl)
  | ((with_reducible apply Rd.ne); rfl)
  | ((with_reducible apply Rd.I1); (walk_at "ci"))
  | with_reducible apply Rd.lc0
  | with_reducible apply Rd.ln0
  | with_reducible apply Rd.exN
  | ((with_reducible apply Rd.iteSf); (decide +kernel))
  | ((with_reducible apply Rd.iteSt); (decide +kernel))
  | ((with_reducible apply Rd.niQ); (exact Or.inl (by walk_at "sq")); (exact ⟨rfl, rfl⟩); (rfl))
  | ((with_reducible apply Rd.inQ); (exact Or.inl (by walk_at "sq")); (exact ⟨rfl, rfl⟩); (rfl))
  | with_reducible apply Rd.rn1
  | with_reducible apply Rd.in1
  | with_reducible apply Rd.sn1
  | with_reducible apply Rd.bn1
  | with_reducible apply Rd.nn1
  | with_reducible apply Rd.rn2
  | with_reducible apply Rd.in2
  | with_reducible apply Rd.sn2
  | with_reducible apply Rd.bn2
  | with_reducible apply Rd.nn2
  | with_reducible apply Rd.nt1
  | with_reducible apply Rd.nf1
  | (with_reducible refine Rd.iteI (fun _ => ?_) (fun _ => ?_))
  | (with_reducible refine Rd.iteNI (fun _ => ?_) (fun _ => ?_))
  | (with_reducible refine iteT ?_)
  | (with_reducible refine iteF ?_)
  | (with_reducible refine Rd.iteD (fun _ => ?_) (fun _ => ?_))
  | (with_reducible refine Rd.iteN (fun _ => ?_) (fun _ => ?_))
  | with_reducible apply Rd.intI
  | with_reducible apply Rd.intB
  | with_reducible apply Rd.maxQ
  | with_reducible apply Rd.minQ
  | with_reducible apply Rd.absQ
  | with_reducible apply Rd.isN
  | with_reducible apply Rd.noN
  | with_reducible apply Rd.ltZ
  | with_reducible apply Rd.bm
  | with_reducible apply Rd.bm0
  | with_reducible apply Rd.par
  | with_reducible apply Rd.expar
  | with_reducible apply Rd.exint
  | with_reducible apply Rd.ipi
  | with_reducible apply Rd.slice
  | with_reducible apply Rd.noPart
  | with_reducible apply Rd.part
  | with_reducible apply Rd.gcons
  | with_reducible apply Rd.gnil
  | with_reducible apply Rd.iseq
  | with_reducible apply Rd.irng1
  | walk_at "isi"
  | with_reducible apply Rd.forX
  | with_reducible apply Rd.lstRev
  | with_reducible apply Rd.lstRg
  | with_reducible apply Rd.rg1
  | with_reducible apply Rd.rg2
  | with_reducible apply Rd.exint2
  | ((with_reducible apply Rd.exrev); (walk_at "sq"))
  | with_reducible apply Rd.lcX
  | with_reducible apply Rd.yes
  | ((with_reducible apply Rd.exrng1); (constructor <;> omega))
  | ((with_reducible apply Rd.exrng2); (refine ⟨?_, ?_, ?_, ?_⟩ <;> omega))
  | with_reducible apply Rd.irng2
  | ((with_reducible apply Rd.aug); rfl)
  | ((with_reducible apply Rd.exlst); (walk_at "sq"))
  | ((with_reducible apply Rd.gtup); (walk_at "st"); (rfl))
  | ((with_reducible apply Rd.tyL); (walk_at "hp"))
  | ((with_reducible apply Rd.ixL); (walk_at "sq"); (rfl))
  | ((with_reducible apply Rd.ixI); (walk_at "sq"); (omega); (first | assumption | (simp only [List.length_map]; omega)); (intro _ _))
  | (with_reducible refine Rd.gsub ?_)
  | ((with_reducible apply Rd.setL); (walk_at "hp"); (rfl); ((dsimp only [List.set, L2.wipe, Int.reduceToNat]) <;> rfl))
  | ((with_reducible apply Rd.lenQ); (first | exact Or.inl (by walk_at "sq") | exact Or.inr (by walk_at "st")))
  | ((with_reducible apply Rd.listQ); (first | exact Or.inl (by walk_at "sq") | exact Or.inr (by walk_at "st")))
  | ((with_reducible apply Rd.tupQ); (walk_at "sq"))
  | ((with_reducible apply Rd.slL); (walk_at "sq"))
  | ((with_reducible apply Rd.ixT); (walk_at "st"); (rfl))
  | (with_reducible refine Rd.iteB (fun _ => ?_) (fun _ => ?_))
  | (with_reducible refine Rd.iteNB (fun _ => ?_) (fun _ => ?_))
  | (refine Rd.andI (Nat.le_of_ble_eq_true rfl) ?_)
  | dsimp only [List.set])
local macro_rules | `(tactic| walk_at "ci") => `(tactic| first
  | (refine (show CMul _ _ from Or.inr ⟨?_, ?_⟩) <;> omega)
  | (refine (show CMul _ _ from Or.inl ⟨?_, ?_⟩) <;> omega)
  | (refine wide_div (b := 121) ?_ ?_ (by decide) (by decide) <;> omega))
/-! ### the law's store of draws -/
/-- at st a store, its cells at c: a place and digits that are no less than 0 -/
def StoreAt (H : Hp) (st c : Addr) : Prop := ∃ (ns : List Int) (p d s t : Int), H st = some (.lst [.ref c, .int p, .int d, .int s, .int t]) ∧ H c = some (.lst (ns.map V.int)) ∧ c ≠ st ∧ 0 ≤ p ∧ 0 ≤ d
theorem StoreAt.kept {H H' : Hp} {st c : Addr} (h : StoreAt H st c) (k : ∀ b o, (b = st ∨ b = c) → H b = some o → H' b = some o) : StoreAt H' st c := by
  obtain ⟨ns, p, d, s, t, h1, h2, r⟩ := h
  exact ⟨ns, p, d, s, t, k _ _ (.inl rfl) h1, k _ _ (.inr rfl) h2, r⟩
theorem StoreAt.same {H H' : Hp} {st c : Addr} (h : StoreAt H st c) (k : Same H H') : StoreAt H' st c := h.kept fun b o _ => k b o
theorem StoreAt.has {H : Hp} {st c : Addr} (h : StoreAt H st c) : (∃ o, H st = some o) ∧ ∃ o, H c = some o := by
  obtain ⟨ns, p, d, s, t, h1, h2, r⟩ := h
  exact ⟨⟨_, h1⟩, ⟨_, h2⟩⟩
/-- what is new is no part of the store -/
theorem StoreAt.off {H : Hp} {st c p : Addr} (h : StoreAt H st c) (n : H p = none) : p ≠ st ∧ p ≠ c := by
  obtain ⟨⟨o, e⟩, ⟨o', e'⟩⟩ := h.has
  exact ⟨(ne_of_none e n).symm, (ne_of_none e' n).symm⟩
theorem StoreAt.put {H : Hp} {st c p : Addr} (h : StoreAt H st c) (n : p ≠ st ∧ p ≠ c) (o : HO) : StoreAt (upd H p o) st c := h.kept fun b u e z => by
  rw [upd_ne]
  · exact z
  · rcases e with rfl | rfl
    · exact n.1.symm
    · exact n.2.symm
/-- draws were taken: all else stands -/
structure Go (st c : Addr) (H H' : Hp) : Prop where
  ok : StoreAt H' st c
  keep : ∀ b o, b ≠ st → H b = some o → H' b = some o
theorem Go.refl {st c : Addr} {H : Hp} (h : StoreAt H st c) : Go st c H H := ⟨h, fun _ _ _ e => e⟩
theorem Go.trans {st c : Addr} {H H1 H2 : Hp} (a : Go st c H H1) (b : Go st c H1 H2) : Go st c H H2 := ⟨b.ok, fun d o n e => b.keep d o n (a.keep d o n e)⟩
/-- what is new behind was new ahead -/
theorem Go.free {st c p : Addr} {H H' : Hp} (g : Go st c H H') (n : H' p = none) : H p = none := by
  cases e : H p with
  | none => rfl
  | some o =>
    rw [g.keep p o (g.ok.off n).1 e] at n
    cases n
/-- a new object beside -/
theorem Go.new {st c p : Addr} {H H' : Hp} (g : Go st c H H') (n : H' p = none) (o : HO) : Go st c H (upd H' p o) :=
  ⟨g.ok.put (g.ok.off n) o, fun b u hb e => (upd_ne (ne_of_none (g.keep b u hb e) n)).trans (g.keep b u hb e)⟩
/-- an object that is newer than H is written -/
theorem Go.write {st c p : Addr} {H H' : Hp} (g : Go st c H H') (n : H p = none) (h : p ≠ st ∧ p ≠ c) (o : HO) : Go st c H (upd H' p o) :=
  ⟨g.ok.put h o, fun b u hb e => (upd_ne (ne_of_none e n)).trans (g.keep b u hb e)⟩
theorem Go.same {st c : Addr} {H H1 H2 : Hp} (g : Go st c H H1) (k : Same H1 H2) : Go st c H H2 := ⟨g.ok.same k, fun b u hb e => k b u (g.keep b u hb e)⟩
theorem go_upd {st c : Addr} {H : Hp} {ns : List Int} {p d s t p' d' s' t' : Int} (h : H st = some (.lst [.ref c, .int p, .int d, .int s, .int t])) (hc : H c = some (.lst (ns.map V.int))) (n : c ≠ st) (hp : 0 ≤ p') (hd : 0 ≤ d') :
    Go st c H (upd H st (.lst [.ref c, .int p', .int d', .int s', .int t'])) :=
  ⟨⟨ns, p', d', s', t', upd_same, (upd_ne n).trans hc, n, hp, hd⟩, fun b o hb e => (upd_ne hb).trans e⟩
/-- _law_take(store, many): 0, or a number below many -/
def spTake : Sp := fun vs H Q _ => ∃ (st c : Addr) (many : Int), vs = [.ref st, .int many] ∧ StoreAt H st c ∧ many < 2 ^ 120 ∧ ∀ (r : Int) (H' : Hp), 0 ≤ r → (r < many ∨ r = 0) → Go st c H H' → Q (.int r) H'
section
variable {P : Program} {w : World} {K : PySem.W.Frag} {mg : Str → Option Value} {base : Heap}
theorem ok__law_take (F : Def K mg "_law_take" s__law_take P__law_take) (m_int : mg "int" = none) (m_len : mg "len" = none) : Cal P w K mg base 1 "_law_take" P__law_take spTake := by
  refine F.ok sc__law_take (fun vs H Q E h => ?_) (fun f cdv A outer s H vs Q E hr h => ?_)
  · obtain ⟨st, c, many, rfl, _⟩ := h
    rfl
  obtain ⟨st, c, many, rfl, ⟨ns, p, d, z, t, hst, hc, hne, hp, hd⟩, hm, q⟩ := h
  refine ⟨_, (pss_cons (ps_if (pt_cmpR op_lt (pv 1 (hd := nd_many) (hcd := nc_many)) pe_int (nomark _)) (pss_one (ps_ret pe_int)) pss_nil)
  (pss_cons (ps_set (i := 2) sc__law_take.nd rfl (Or.inl rfl) (pe_callTy q_intI (by rfl) m_int bb_int (pa_cons (pe_ix ix_list (pv 0 (hd := nd_store) (hcd := nc_store)) pe_int (fun _ _ => rfl)) pa_nil) (hn := nn_int) (hdb := nd_int)))
  (pss_cons (ps_if (pt_cmpR op_gt (pv 2 (hd := nd_digits) (hcd := nc_digits)) pe_int (nomark _)) (pss_cons (ps_asg (pe_op op_fdivW (pv 2 (hd := nd_digits) (hcd := nc_digits)) (pv 1 (hd := nd_many) (hcd := nc_many))) (pg_sub (pv 0 (hd := nd_store) (hcd := nc_store)) pe_int set_list))
  (pss_one (ps_ret (pe_op op_mod (pv 2 (hd := nd_digits) (hcd := nc_digits)) (pv 1 (hd := nd_many) (hcd := nc_many)))))) pss_nil)
  (pss_cons (ps_asg (pe_op op_add (pe_callTy q_intI (by rfl) m_int bb_int (pa_cons (pe_ix ix_list (pv 0 (hd := nd_store) (hcd := nc_store)) pe_int (fun _ _ => rfl)) pa_nil) (hn := nn_int) (hdb := nd_int)) pe_int) (pg_sub (pv 0 (hd := nd_store) (hcd := nc_store)) pe_int set_list))
  (pss_cons (ps_set (i := 3) sc__law_take.nd rfl (Or.inl rfl) (pe_callTy q_intI (by rfl) m_int bb_int (pa_cons (pe_ix ix_list (pv 0 (hd := nd_store) (hcd := nc_store)) pe_int (fun _ _ => rfl)) pa_nil) (hn := nn_int) (hdb := nd_int)))
  (pss_cons (ps_set (i := 4) sc__law_take.nd rfl (Or.inl rfl) (pe_ix ix_list (pv 0 (hd := nd_store) (hcd := nc_store)) pe_int (fun _ _ => rfl)))
  (pss_cons (ps_set (i := 5) sc__law_take.nd rfl (Or.inl rfl) (pe_callTy q_intI (by rfl) m_int bb_int (pa_cons (pe_ix ix_list (pv 0 (hd := nd_store) (hcd := nc_store)) pe_int (fun _ _ => rfl)) pa_nil) (hn := nn_int) (hdb := nd_int)))
  (pss_cons (ps_if (pt_cmpR op_lt (pv 5 (hd := nd_place) (hcd := nc_place)) (pe_callB q_len (by rfl) m_len PySem.boot_len (pa_cons (pv 4 (hd := nd_cells) (hcd := nc_cells)) pa_nil) (hn := nn_len) (hdb := nd_len)) (nomark _)) (pss_cons (ps_set (i := 6) sc__law_take.nd rfl (Or.inl rfl) (pe_callTy q_intI (by rfl) m_int bb_int (pa_cons (pe_ix ix_list (pv 4 (hd := nd_cells) (hcd := nc_cells)) (pv 5 (hd := nd_place) (hcd := nc_place)) (fun _ _ => rfl)) pa_nil) (hn := nn_int) (hdb := nd_int)))
  (pss_cons (ps_asg (pe_op op_add (pv 5 (hd := nd_place) (hcd := nc_place)) pe_int) (pg_sub (pv 0 (hd := nd_store) (hcd := nc_store)) pe_int set_list))
  (pss_cons (ps_if (pt_cmpR op_ge (pv 6 (hd := nd_cell) (hcd := nc_cell)) (pe_op op_pow pe_int pe_int) (nomark _)) (pss_cons (ps_asg (pe_op op_fdivW (pv 6 (hd := nd_cell) (hcd := nc_cell)) (pv 1 (hd := nd_many) (hcd := nc_many))) (pg_sub (pv 0 (hd := nd_store) (hcd := nc_store)) pe_int set_list))
  (pss_one (ps_ret (pe_op op_mod (pv 6 (hd := nd_cell) (hcd := nc_cell)) (pv 1 (hd := nd_many) (hcd := nc_many)))))) pss_nil)
  (pss_one (ps_set (i := 7) sc__law_take.nd rfl (Or.inl rfl) (pe_op op_mod (pe_op op_add (pe_op op_add (pe_op op_mul (pv 6 (hd := nd_cell) (hcd := nc_cell)) pe_int) (pe_op op_mul (pv 3 (hd := nd_tick) (hcd := nc_tick)) pe_int)) pe_int) pe_int)))))) (pss_cons (ps_set (i := 7) sc__law_take.nd rfl (Or.inl rfl) (pe_op op_mod (pe_op op_add (pe_op op_add (pe_op op_mul (pe_callTy q_intI (by rfl) m_int bb_int (pa_cons (pe_ix ix_list (pv 0 (hd := nd_store) (hcd := nc_store)) pe_int (fun _ _ => rfl)) pa_nil) (hn := nn_int) (hdb := nd_int)) pe_int) (pe_op op_mul (pv 3 (hd := nd_tick) (hcd := nc_tick)) pe_int)) pe_int) pe_int))
  (pss_one (ps_asg (pv 7 (hd := nd_mixed) (hcd := nc_mixed)) (pg_sub (pv 0 (hd := nd_store) (hcd := nc_store)) pe_int set_list)))))
  (pss_one (ps_ret (pe_op op_mod (pe_op op_mod (pe_op op_add (pe_op op_mul (pv 7 (hd := nd_mixed) (hcd := nc_mixed)) (pv 7 (hd := nd_mixed) (hcd := nc_mixed))) (pe_op op_fdivW (pv 7 (hd := nd_mixed) (hcd := nc_mixed)) pe_int)) pe_int) (pv 1 (hd := nd_many) (hcd := nc_many))))))))))))), ?_⟩
  refine Rd.at0 (σ := [some (.ref st), some (.int many), none, none, none, none, none, none]) rfl ?_
  repeat' (walk_at "rd")
  · exact q 0 _ (Int.le_refl 0) (.inr rfl) (Go.refl ⟨ns, p, d, z, t, hst, hc, hne, hp, hd⟩)
  · exact q _ _ (Int.emod_nonneg _ (by omega)) (.inl (Int.emod_lt_of_pos _ (by omega))) (go_upd hst hc hne hp (Int.ediv_nonneg hd (by omega)))
  · rename_i v hv hv2
    have h0 : (0 : Int) ≤ v := Int.le_trans (by decide) hv2
    rw [upd_upd, upd_upd]
    exact q _ _ (Int.emod_nonneg _ (by omega)) (.inl (Int.emod_lt_of_pos _ (by omega))) (go_upd hst hc hne (by omega) (Int.ediv_nonneg h0 (by omega)))
  · rw [upd_upd]
    exact q _ _ (Int.emod_nonneg _ (by omega)) (.inl (Int.emod_lt_of_pos _ (by omega))) (go_upd hst hc hne (by omega) hd)
  · rw [upd_upd]
    exact q _ _ (Int.emod_nonneg _ (by omega)) (.inl (Int.emod_lt_of_pos _ (by omega))) (go_upd hst hc hne hp hd)
/-- _law_store(script): a new store -/
def spStore (K : PySem.W.Frag) : Sp := fun vs H Q _ => ∃ (a : Addr) (ns : List Int), vs = [.ref a] ∧ SqL K H a (ns.map V.int) ∧ ns.length ≤ 1000 ∧ ∀ (st c : Addr) (H' : Hp), Same H H' → H st = none → StoreAt H' st c → Q (.ref st) H'
theorem ok__law_store (F : Def K mg "_law_store" s__law_store P__law_store) (m_list : mg "list" = none) (m_len : mg "len" = none) (m_int : mg "int" = none) : Cal P w K mg base 1 "_law_store" P__law_store (spStore K) := by
  refine F.ok sc__law_store (fun vs H Q E h => ?_) (fun f cdv A outer s H vs Q E hr h => ?_)
  · obtain ⟨a, ns, rfl, _⟩ := h
    rfl
  obtain ⟨a, ns, rfl, hS, hl, q⟩ := h
  refine ⟨_, (pss_cons (ps_set (i := 1) sc__law_store.nd rfl (Or.inl rfl) (pe_callTy q_list (by rfl) m_list bb_list (pa_cons (pv 0 (hd := nd_script) (hcd := nc_script)) pa_nil) (hn := nn_list) (hdb := nd_list)))
  (pss_cons (ps_set (i := 2) sc__law_store.nd rfl (Or.inl rfl) (pe_op op_add pe_int (pe_callB q_len (by rfl) m_len PySem.boot_len (pa_cons (pv 1 (hd := nd_cells) (hcd := nc_cells)) pa_nil) (hn := nn_len) (hdb := nd_len))))
  (pss_cons (ps_for PassesOwn.never rfl (pi_list (pv 1 (hd := nd_cells) (hcd := nc_cells))) (pg_name (i := 3) sc__law_store.nd rfl (Or.inl rfl)) (pss_one (ps_set (i := 2) sc__law_store.nd rfl (Or.inl rfl) (pe_op op_mod (pe_op op_add (pe_op op_add (pe_op op_mul (pv 2 (hd := nd_state) (hcd := nc_state)) pe_int) (pe_op op_mod (pe_callTy q_intI (by rfl) m_int bb_int (pa_cons (pv 3 (hd := nd_cell) (hcd := nc_cell)) pa_nil) (hn := nn_int) (hdb := nd_int)) pe_int)) pe_int) pe_int))))
  (pss_one (ps_ret (pe_lst (pa_cons (pv 1 (hd := nd_cells) (hcd := nc_cells)) (pa_cons pe_int (pa_cons pe_int (pa_cons (pv 2 (hd := nd_state) (hcd := nc_state)) (pa_cons pe_int pa_nil))))))))))), ?_⟩
  refine Rd.at0 (σ := [some (.ref a), none, none, none]) rfl ?_
  repeat' (walk_at "rd")
  intro c hc
  repeat' (walk_at "rd")
  refine forL (ns.map V.int) (fun i σ H' => ∃ (s : Int) (v3 : Option V), σ = [some (.ref a), some (.ref c), some (.int s), v3] ∧ H' = upd H c (.lst (ns.map V.int))) ⟨_, none, rfl, rfl⟩ (fun i σ H' _ ⟨_, _, _, e⟩ => by rw [e]; exact .inl (.inl upd_same)) ?_ ?_
  · rintro i x σ H' hx ⟨z, v3, rfl, rfl⟩
    obtain ⟨y, hy, rfl⟩ := int_at hx
    repeat' (walk_at "rd")
    exact ⟨_, _, rfl, rfl⟩
  · rintro σ H' ⟨z, v3, rfl, rfl⟩
    repeat' (walk_at "rd")
    intro st hst
    have n1 : c ≠ st := (new_ne upd_same hst).symm
    exact q st c _ ((same_upd hc).trans (same_upd hst)) (free_of hst (same_upd hc)) ⟨ns, 0, 0, z, 0, upd_same, (upd_ne n1).trans upd_same, n1, Int.le_refl _, Int.le_refl _⟩
end
/-! ### a drawn order -/
/-- _law_shuffled(store, items): a new list of the same items in some order -/
def spShuffled (K : PySem.W.Frag) : Sp := fun vs H Q _ => ∃ (st c a : Addr) (xs : List V), vs = [.ref st, .ref a] ∧ StoreAt H st c ∧ SqL K H a xs ∧ xs.length ≤ 100000 ∧
  ∀ (l : Addr) (ys : List V) (H' : Hp), ys.Perm xs → H l = none → Go st c H H' → H' l = some (.lst ys) → Q (.ref l) H'
section
variable {P : Program} {w : World} {K : PySem.W.Frag} {mg : Str → Option Value} {base : Heap}
theorem ok__law_shuffled (F : Def K mg "_law_shuffled" s__law_shuffled P__law_shuffled) (m_list : mg "list" = none) (m_reversed : mg "reversed" = none) (m_range : mg "range" = none) (m_len : mg "len" = none) (C__law_take : Cal P w K mg base 1 "_law_take" P__law_take spTake) : Cal P w K mg base 2 "_law_shuffled" P__law_shuffled (spShuffled K) := by
  refine F.ok sc__law_shuffled (fun vs H Q E h => ?_) (fun f cdv A outer s H vs Q E hr h => ?_)
  · obtain ⟨st, c, a, xs, rfl, _⟩ := h
    rfl
  obtain ⟨st, c, a, xs, rfl, hs, ha, hl, q⟩ := h
  refine ⟨_, (pss_cons (ps_set (i := 2) sc__law_shuffled.nd rfl (Or.inl rfl) (pe_callTy q_list (by rfl) m_list bb_list (pa_cons (pv 1 (hd := nd_items) (hcd := nc_items)) pa_nil) (hn := nn_list) (hdb := nd_list)))
  (pss_cons (ps_set (i := 3) sc__law_shuffled.nd rfl (Or.inl rfl) (pe_cal C__law_take hr (pa_cons (pv 0 (hd := nd_store) (hcd := nc_store)) (pa_cons pe_int pa_nil)) (hdb := nd__law_take)))
  (pss_cons (ps_if (pt_cmpR op_eq (pv 3 (hd := nd_style) (hcd := nc_style)) pe_int (nomark _)) (pss_one (ps_ret (pv 2 (hd := nd_row) (hcd := nc_row)))) pss_nil)
  (pss_cons (ps_if (pt_cmpR op_eq (pv 3 (hd := nd_style) (hcd := nc_style)) pe_int (nomark _)) (pss_one (ps_ret (pe_lstRev (by rfl) (by rfl) m_list (by rfl) m_reversed (pv 2 (hd := nd_row) (hcd := nc_row))))) pss_nil)
  (pss_cons (ps_for PassesOwn.never rfl (pi_range1 (by rfl) m_range (pa_cons (pe_op op_sub (pe_callB q_len (by rfl) m_len PySem.boot_len (pa_cons (pv 2 (hd := nd_row) (hcd := nc_row)) pa_nil) (hn := nn_len) (hdb := nd_len)) pe_int) pa_nil)) (pg_name (i := 4) sc__law_shuffled.nd rfl (Or.inl rfl)) (pss_cons (ps_set (i := 5) sc__law_shuffled.nd rfl (Or.inl rfl) (pe_op op_add (pv 4 (hd := nd_k) (hcd := nc_k)) (pe_cal C__law_take hr (pa_cons (pv 0 (hd := nd_store) (hcd := nc_store)) (pa_cons (pe_op op_sub (pe_callB q_len (by rfl) m_len PySem.boot_len (pa_cons (pv 2 (hd := nd_row) (hcd := nc_row)) pa_nil) (hn := nn_len) (hdb := nd_len)) (pv 4 (hd := nd_k) (hcd := nc_k))) pa_nil)) (hdb := nd__law_take))))
  (pss_cons (ps_set (i := 6) sc__law_shuffled.nd rfl (Or.inl rfl) (pe_ix ix_list (pv 2 (hd := nd_row) (hcd := nc_row)) (pv 4 (hd := nd_k) (hcd := nc_k)) (fun _ _ => rfl)))
  (pss_cons (ps_asg (pe_ix ix_list (pv 2 (hd := nd_row) (hcd := nc_row)) (pv 5 (hd := nd_at) (hcd := nc_at)) (fun _ _ => rfl)) (pg_sub (pv 2 (hd := nd_row) (hcd := nc_row)) (pv 4 (hd := nd_k) (hcd := nc_k)) set_list))
  (pss_one (ps_asg (pv 6 (hd := nd_kept) (hcd := nc_kept)) (pg_sub (pv 2 (hd := nd_row) (hcd := nc_row)) (pv 5 (hd := nd_at) (hcd := nc_at)) set_list)))))))
  (pss_one (ps_ret (pv 2 (hd := nd_row) (hcd := nc_row))))))))), ?_⟩
  refine Rd.at0 (σ := [some (.ref st), some (.ref a), none, none, none, none, none]) rfl ?_
  repeat' (walk_at "rd")
  intro p hp
  have pst := hs.off hp
  have g0 : Go st c H (upd H p (.lst xs)) := (Go.refl hs).new hp _
  repeat' (walk_at "rd")
  refine ⟨st, c, 6, rfl, g0.ok, by decide, fun e H1 e0 e6 g1 => ?_⟩
  have hp1 : H1 p = some (.lst xs) := g1.keep p _ pst.1 upd_same
  have g01 := g0.trans g1
  repeat' (walk_at "rd")
  · exact q p xs H1 (.refl _) hp g01 hp1
  · intro r hr1
    exact q r xs.reverse _ (List.reverse_perm xs) (g01.free hr1) (g01.new hr1 _) upd_same
  refine forR (fun i σ H' => ∃ (ys : List V) (v4 v5 v6 : Option V), σ = [some (.ref st), some (.ref a), some (.ref p), some (.int e), v4, v5, v6] ∧ ys.Perm xs ∧ H' p = some (.lst ys) ∧ Go st c H H')
    ⟨xs, none, none, none, rfl, .refl _, hp1, g01⟩ ?_ ?_
  · rintro i σ H' hi ⟨ys, v4, v5, v6, rfl, pm, hp', g⟩
    have hy : ys.length = xs.length := pm.length_eq
    have hi2 : i + 1 < ys.length := by omega
    repeat' (walk_at "rd")
    refine ⟨st, c, _, rfl, g.ok, by omega, fun r H2 r0 r1 g2 => ?_⟩
    have hp2 : H2 p = some (.lst ys) := g2.keep p _ pst.1 hp'
    have hr2 : 0 + (i : Int) + r < (ys.length : Int) := by omega
    have x1 : ys[(0 + (i : Int)).toNat]? = some ys[i] := by
      rw [show (0 + (i : Int)).toNat = i by omega]
      exact List.getElem?_eq_getElem (by omega)
    have j2 : (0 + (i : Int) + r).toNat < ys.length := by omega
    have x2 : ys[(0 + (i : Int) + r).toNat]? = some ys[(0 + (i : Int) + r).toNat] := List.getElem?_eq_getElem j2
    repeat' (walk_at "rd")
    refine ixN' (.inl (.inl hp2)) (by omega) x1 ?_
    repeat' (walk_at "rd")
    refine ixN' (.inl (.inl hp2)) (by omega) x2 ?_
    repeat' (walk_at "rd")
    refine setN' hp2 (by omega) (by omega) ?_
    repeat' (walk_at "rd")
    refine setN' upd_same (by omega) (by rw [List.length_set]; omega) ?_
    repeat' (walk_at "rd")
    rw [upd_upd]
    exact ⟨_, _, _, _, rfl, (swap_perm x1 x2).trans pm, upd_same, (g.trans g2).write hp pst _⟩
  · rintro σ H' ⟨ys, v4, v5, v6, rfl, pm, hp', g⟩
    repeat' (walk_at "rd")
    exact q p ys H' pm hp g hp'
end
end Kj
namespace Kj
open PySem PySem.Spec PyProof.Rows L2 Rd
/-! ### the stepper -/
local macro_rules | `(tactic| walk_at "hp") => `(tactic| first
  | assumption
  | exact upd_same
  | (refine Eq.trans (upd_ne (by first | assumption | (apply Ne.symm; assumption))) ?_; walk_at "hp"))
local macro_rules | `(tactic| walk_at "sq") => `(tactic| first
  | assumption
  | (refine Or.inl (Or.inl ?_); walk_at "hp"))
local macro_rules | `(tactic| walk_at "st") => `(tactic| first
  | assumption
  | (refine Or.inl (Or.inl ?_); walk_at "hp"))
local macro_rules | `(tactic| walk_at "ar") => `(tactic| first
  | assumption
  | omega
  | decide)
local macro_rules | `(tactic| walk_at "ci") => `(tactic| first
  | (refine (show CMul _ _ from Or.inr ⟨?_, ?_⟩) <;> omega)
  | (refine (show CMul _ _ from Or.inl ⟨?_, ?_⟩) <;> omega)
  | (show CPow _ _; exact ⟨by decide, by decide, by decide⟩)
  | (refine wide_div (b := 63) ?_ ?_ (by decide) (by decide) <;> omega)
  | (show (0 : Int) < _; omega))
local macro_rules | `(tactic| walk_at "ty") => `(tactic| first
  | exact dp_ty (by assumption)
  | exact TyX.base (TyOf.int _)
  | exact TyX.base (TyOf.str _)
  | exact TyX.base (TyOf.bl _)
  | exact TyX.base TyOf.non
  | exact tyL' (by walk_at "sq")
  | exact tyT' (by walk_at "st"))
local macro_rules | `(tactic| walk_at "isi") => `(tactic| first
  | ((with_reducible apply Rd.isiF); (walk_at "ty"); (decide))
  | ((with_reducible apply Rd.isiT); (walk_at "ty"); (decide)))
local macro_rules | `(tactic| walk_at "rd") => `(tactic| first
  | with_reducible apply Rd.seq
  | ((with_reducible apply Rd.var); rfl)
  | with_reducible apply Rd.con
  | with_reducible apply Rd.op
  | with_reducible apply Rd.asg
  | ((with_reducible apply Rd.gname); ((dsimp only [List.set, L2.wipe, Int.reduceToNat]) <;> rfl))
  | with_reducible apply Rd.nxt
  | with_reducible apply Rd.ifs
  | with_reducible apply Rd.test
  | with_reducible apply Rd.testB
  | with_reducible apply Rd.exbl
  | with_reducible apply Rd.ret
  | with_reducible apply Rd.drop
  | with_reducible apply Rd.retN
  | with_reducible apply Rd.nil
  | with_reducible apply Rd.cons
  | with_reducible apply Rd.call
  | with_reducible apply Rd.cb
  | with_reducible apply Rd.and
  | with_reducible apply Rd.or
  | with_reducible apply Rd.not
  | with_reducible apply Rd.andV
  | with_reducible apply Rd.orV
  | with_reducible apply Rd.notV
  | with_reducible apply Rd.ife
  | with_reducible apply Rd.tup
  | with_reducible apply Rd.lst
  | with_reducible apply Rd.un
  | with_reducible apply Rd.chain
  | with_reducible apply Rd.brk
  | with_reducible apply Rd.cnt
  | with_reducible apply Rd.I0
  | with_reducible apply Rd.U1
  | ((with_reducible apply Rd.eq); rfl)
  | ((with_reducible apply Rd.ne); rfl)
  | ((with_reducible apply Rd.I1); (walk_at "ci"))
  | with_reducible apply Rd.lc0
  | with_reducible apply Rd.ln0
  | with_reducible apply Rd.exN
  | ((with_reducible apply Rd.iteSf); (decide +kernel))
  | ((with_reducible apply Rd.iteSt); (decide +kernel))
  | ((with_reducible apply Rd.niQ); (exact Or.inl (by walk_at "sq")); (exact ⟨rfl, rfl⟩); (rfl))
  | ((with_reducible apply Rd.inQ); (exact Or.inl (by walk_at "sq")); (exact ⟨rfl, rfl⟩); (rfl))
  | with_reducible apply Rd.rn1
  | with_reducible apply Rd.in1
  | with_reducible apply Rd.sn1
  | with_reducible apply Rd.bn1
  | with_reducible apply Rd.nn1
  | with_reducible apply Rd.rn2
  | with_reducible apply Rd.in2
  | with_reducible apply Rd.sn2
  | with_reducible apply Rd.bn2
  | with_reducible apply Rd.nn2
  | with_reducible apply Rd.nt1
  | with_reducible apply Rd.nf1
  | (with_reducible refine Rd.iteI (fun _ => ?_) (fun _ => ?_))
  | (with_reducible refine Rd.iteNI (fun _ => ?_) (fun _ => ?_))
  | (with_reducible refine iteT ?_)
  | (with_reducible refine iteF ?_)
  | (with_reducible refine Rd.iteD (fun _ => ?_) (fun _ => ?_))
  | (with_reducible refine Rd.iteN (fun _ => ?_) (fun _ => ?_))
  | with_reducible apply Rd.intI
  | with_reducible apply Rd.intB
  | with_reducible apply Rd.maxQ
  | with_reducible apply Rd.minQ
  | with_reducible apply Rd.absQ
  | with_reducible apply Rd.isN
  | with_reducible apply Rd.noN
  | with_reducible apply Rd.ltZ
  | with_reducible apply Rd.bm
  | with_reducible apply Rd.bm0
  | with_reducible apply Rd.par
  | with_reducible apply Rd.expar
  | with_reducible apply Rd.exint
  | with_reducible apply Rd.ipi
  | with_reducible apply Rd.slice
  | with_reducible apply Rd.noPart
  | with_reducible apply Rd.part
  | with_reducible apply Rd.gcons
  | with_reducible apply Rd.gnil
  | with_reducible apply Rd.iseq
  | with_reducible apply Rd.irng1
  | walk_at "isi"
  | with_reducible apply Rd.forX
  | with_reducible apply Rd.lstRev
  | with_reducible apply Rd.lstRg
  | with_reducible apply Rd.rg1
  | with_reducible apply Rd.rg2
  | with_reducible apply Rd.exint2
  | ((with_reducible apply Rd.exrev); (walk_at "sq"))
  | with_reducible apply Rd.lcX
  | with_reducible apply Rd.yes
  | ((with_reducible apply Rd.exrng1); (constructor <;> omega))
  | ((with_reducible apply Rd.exrng2); (refine ⟨?_, ?_, ?_, ?_⟩ <;> omega))
  | with_reducible apply Rd.irng2
  | ((with_reducible apply Rd.aug); rfl)
  | ((with_reducible apply Rd.exlst); (walk_at "sq"))
  | ((with_reducible apply Rd.gtup); (walk_at "st"); (rfl))
  | ((with_reducible apply Rd.tyL); (walk_at "hp"))
  | ((with_reducible apply Rd.ixL); (walk_at "sq"); (rfl))
  | ((with_reducible apply Rd.ixI); (walk_at "sq"); (omega); (first | assumption | (simp only [List.length_map]; omega)); (intro _ _))
  | (with_reducible refine Rd.gsub ?_)
  | ((with_reducible apply Rd.setL); (walk_at "hp"); (rfl); ((dsimp only [List.set, L2.wipe, Int.reduceToNat]) <;> rfl))
  | ((with_reducible apply Rd.lenQ); (first | exact Or.inl (by walk_at "sq") | exact Or.inr (by walk_at "st")))
  | ((with_reducible apply Rd.listQ); (first | exact Or.inl (by walk_at "sq") | exact Or.inr (by walk_at "st")))
  | ((with_reducible apply Rd.tupQ); (walk_at "sq"))
  | ((with_reducible apply Rd.slL); (walk_at "sq"))
  | ((with_reducible apply Rd.ixT); (walk_at "st"); (rfl))
  | (with_reducible refine Rd.iteB (fun _ => ?_) (fun _ => ?_))
  | (with_reducible refine Rd.iteNB (fun _ => ?_) (fun _ => ?_))
  | (refine Rd.andI (Nat.le_of_ble_eq_true rfl) ?_)
  | dsimp only [List.set])
local macro_rules | `(tactic| walk_at "hp") => `(tactic| first
  | assumption
  | exact upd_same
  | (refine Eq.trans (upd_ne (by first | assumption | (apply Ne.symm; assumption))) ?_; walk_at "hp")
  | (refine hpS (by assumption) ?_; walk_at "hp"))
local macro_rules | `(tactic| walk_at "al") => `(tactic| (with_reducible intro l hl; generalize hG : upd _ l _ = G; have hs := newOne hl hG; clear hG; obtain ⟨hs, he⟩ := hs))
local macro_rules | `(tactic| walk_at "rd") => `(tactic| first
  | walk_at "al"
  | ((with_reducible apply Rd.cat); (walk_at "hp"); (walk_at "hp"); (exact Nat.le_of_ble_eq_true rfl)))
local macro_rules | `(tactic| walk_at "sm") => `(tactic| first
  | assumption
  | exact Same.refl _
  | (refine Same.trans ?_ (by assumption); walk_at "sm"))
local macro_rules | `(tactic| walk_at "fr") => `(tactic| first
  | assumption
  | (refine Same.free (by assumption) ?_; walk_at "fr"))
local macro_rules | `(tactic| walk_at "ty") => `(tactic| first
  | exact dv_ty (by assumption)
  | exact tyD' (by walk_at "hp"))
local macro_rules | `(tactic| walk_at "ci") => `(tactic| first
  | (refine (show CMul _ _ from Or.inr ⟨?_, ?_⟩) <;> omega)
  | (refine (show CMul _ _ from Or.inl ⟨?_, ?_⟩) <;> omega)
  | (refine wide_div (b := 121) ?_ ?_ (by decide) (by decide) <;> omega))
/-! ### the numbers -/
theorem p2_pos (k : Nat) : 0 < 2 ^ k := Nat.pow_pos (by decide)
/-- k is the top level of n -/
def Top (n : Int) (k : Nat) : Prop := (n = 0 → k = 0) ∧ (n ≠ 0 → ((2^k : Nat) : Int) ≤ n ∧ n < ((2^(k+1) : Nat) : Int))
theorem top_le {n : Int} {k : Nat} (h : Top n k) (hn : n ≤ 33) : k ≤ 5 := by
  apply Nat.le_of_not_lt
  intro c
  by_cases z : n = 0
  · have := h.1 z
    omega
  have := (h.2 z).1
  have : 2 ^ 6 ≤ 2 ^ k := Nat.pow_le_pow_right (by decide) c
  have e : (2 : Nat) ^ 6 = 64 := by decide
  omega
/-- the bound of rises, of steps -/
def RB (k : Nat) (p : Int) : Int := p * (if (k : Int) - 1 > 0 then (k : Int) - 1 else 0)
def SB (k : Nat) (p t r : Int) : Int := 7 * p + 12 * (if (k : Int) > 1 then (k : Int) else 1) * t + 7 * r
def K8 : List Str := ["cuts", "found", "joined", "parted", "puts", "rises", "splices", "takes"]
theorem k8_sorted : sortedS K8 = true := by decide +kernel
theorem k8_nodup : K8.Nodup := by decide +kernel
/-- at a the counts f -/
def CD (H : Hp) (a : Addr) (f : Str → Int) : Prop := ∃ ks : List Str, ks.Perm K8 ∧ H a = some (.dK (kd ks fun z => .int (f z)))
theorem CD.same {H H' : Hp} {a : Addr} {f : Str → Int} (h : CD H a f) (s : Same H H') : CD H' a f := by
  obtain ⟨ks, p, e⟩ := h
  exact ⟨ks, p, s _ _ e⟩
theorem mem8 {ks : List Str} {z : Str} (p : ks.Perm K8) (h : z ∈ K8) : z ∈ ks := p.mem_iff.mpr h
theorem len8 {ks : List Str} (p : ks.Perm K8) : ks.length = 8 := p.length_eq
/-- the counts f are good for n houses, k the top level of n -/
def Good (n : Int) (k : Nat) (f : Str → Int) : Prop := (∀ z ∈ K8, 0 ≤ f z) ∧ f "takes" ≤ f "puts" ∧ f "joined" ≤ f "puts" ∧ f "found" + f "parted" ≤ f "takes" ∧ f "parted" ≤ f "joined" ∧
  f "joined" - f "parted" ≤ (if n - 1 > 0 then n - 1 else 0) ∧ f "rises" ≤ RB k (f "puts") ∧ f "cuts" + f "splices" ≤ SB k (f "puts") (f "takes") (f "rises")
theorem dgetI {H : Hp} {a : Addr} {Q : VK} {ks : List Str} {f : Str → Int} {z : Str} (h : H a = some (.dK (kd ks fun z => .int (f z)))) (m : z ∈ ks) (q : Q (.int (f z)) H) : ∃ a' v, V.ref a = .ref a' ∧ DGet H a' (.str z) (some v) ∧ Q v H := dgetK h m q
local macro_rules | `(tactic| walk_at "km") => `(tactic| first
  | assumption
  | exact mem8 (by assumption) (by decide +kernel))
local macro_rules | `(tactic| walk_at "rd") => `(tactic| first
  | with_reducible apply Rd.dget
  | ((with_reducible apply Kj.dgetI); (walk_at "hp"); (walk_at "km")))
theorem bits {σ : L2.St} {H : Hp} {Q : VK} {to : TE} (h : to σ H fun x H1 => ∃ i, x = .int i ∧ Q (.int (Builtin.Int.intBits i : Nat)) H1) : tBits to σ H Q := h
theorem par3 {i j l : Nat} {ta : TA} {n b c : L2.St → Hp → Prop} {rr : VK} {σ : L2.St} {H : Hp} (h : ta σ H fun vs H1 => ∃ u v w, vs = [u, v, w] ∧ n (((σ.set i (some u)).set j (some v)).set l (some w)) H1) : tPar3 i j l ta ⟨n, rr, b, c⟩ σ H := h
theorem expar3 {x y z : V} {P' : V → V → V → Prop} (h : P' x y z) : ∃ u v w, [x, y, z] = [u, v, w] ∧ P' u v w := ⟨x, y, z, rfl, h⟩
local macro_rules | `(tactic| walk_at "rd") => `(tactic| first
  | with_reducible apply Kj.bits
  | with_reducible apply Kj.par3
  | with_reducible apply Kj.expar3)
section
variable {P : Program} {w : World} {K : PySem.W.Frag} {mg : Str → Option Value} {base : Heap}
/-- top_level(n) -/
def spTop : Sp := fun vs H Q _ => ∃ n : Int, vs = [.int n] ∧ 0 ≤ n ∧ ∀ k : Nat, Top n k → Q (.int k) H
theorem ok_top_level (F : Def K mg "top_level" s_top_level P_top_level) : Cal P w K mg base 1 "top_level" P_top_level spTop := by
  refine F.ok sc_top_level (fun vs H Q E h => ?_) (fun f cdv A outer s H vs Q E hr h => ?_)
  · obtain ⟨n, rfl, _⟩ := h
    rfl
  obtain ⟨n, rfl, h0, q⟩ := h
  refine ⟨_, (pss_cons (ps_if (pt_cmpR op_eq (pv 0 (hd := nd_count) (hcd := nc_count)) pe_int (nomark _)) (pss_one (ps_ret pe_int)) pss_nil)
  (pss_one (ps_ret (pe_op op_sub (pe_bits (pv 0 (hd := nd_count) (hcd := nc_count))) pe_int)))), ?_⟩
  refine Rd.at0 (σ := [some (.int n)]) rfl ?_
  repeat' (walk_at "rd")
  · rename_i z
    exact q 0 ⟨fun _ => rfl, fun y => absurd z y⟩
  · rename_i z
    have e : ((Builtin.Int.intBits n : Nat) : Int) - 1 = (n.natAbs.log2 : Nat) := by
      unfold Builtin.Int.intBits
      rw [if_neg (by simpa using z)]
      omega
    rw [e]
    have n0 : n.natAbs ≠ 0 := by omega
    have a := Nat.log2_self_le n0
    have b := Nat.lt_log2_self (n := n.natAbs)
    exact q _ ⟨fun y => absurd y z, fun _ => ⟨by omega, by omega⟩⟩
theorem top_one {n : Int} {j k : Nat} (h : Top n j) (h' : Top n k) : j = k := by
  by_cases z : n = 0
  · rw [h.1 z, h'.1 z]
  obtain ⟨a, b⟩ := h.2 z
  obtain ⟨c, d⟩ := h'.2 z
  apply Nat.le_antisymm
  · apply Nat.le_of_not_lt
    intro l
    have : 2 ^ (k + 1) ≤ 2 ^ j := Nat.pow_le_pow_right (by decide) l
    omega
  · apply Nat.le_of_not_lt
    intro l
    have : 2 ^ (j + 1) ≤ 2 ^ k := Nat.pow_le_pow_right (by decide) l
    omega
/-- rise_bound(n, puts) -/
def spRise : Sp := fun vs H Q _ => ∃ (n p : Int) (k : Nat), vs = [.int n, .int p] ∧ 0 ≤ n ∧ n ≤ 33 ∧ Top n k ∧ Q (.int (RB k p)) H
theorem ok_rise_bound (F : Def K mg "rise_bound" s_rise_bound P_rise_bound) (m_max : mg "max" = none) (C_top_level : Cal P w K mg base 1 "top_level" P_top_level spTop) : Cal P w K mg base 2 "rise_bound" P_rise_bound spRise := by
  refine F.ok sc_rise_bound (fun vs H Q E h => ?_) (fun f cdv A outer s H vs Q E hr h => ?_)
  · obtain ⟨n, p, k, rfl, _⟩ := h
    rfl
  obtain ⟨n, p, k, rfl, h0, h1, hk, q⟩ := h
  refine ⟨_, (pss_one (ps_ret (pe_op op_mul (pv 1 (hd := nd_puts) (hcd := nc_puts)) (pe_callB (q_max rfl) (by rfl) m_max bb_max (pa_cons pe_int (pa_cons (pe_op op_sub (pe_cal C_top_level hr (pa_cons (pv 0 (hd := nd_count) (hcd := nc_count)) pa_nil) (hdb := nd_top_level)) pe_int) pa_nil)) (hn := nn_max) (hdb := nd_max))))), ?_⟩
  refine Rd.at0 (σ := [some (.int n), some (.int p)]) rfl ?_
  repeat' (walk_at "rd")
  refine ⟨n, rfl, h0, fun k' hk' => ?_⟩
  rw [top_one hk' hk]
  have k5 := top_le hk h1
  repeat' (walk_at "rd")
  exact q
/-- step_bound(n, puts, takes, rises) -/
def spStep : Sp := fun vs H Q _ => ∃ (n p t r : Int) (k : Nat), vs = [.int n, .int p, .int t, .int r] ∧ 0 ≤ n ∧ n ≤ 33 ∧ Top n k ∧ Q (.int (SB k p t r)) H
theorem ok_step_bound (F : Def K mg "step_bound" s_step_bound P_step_bound) (m_max : mg "max" = none) (C_top_level : Cal P w K mg base 1 "top_level" P_top_level spTop) : Cal P w K mg base 2 "step_bound" P_step_bound spStep := by
  refine F.ok sc_step_bound (fun vs H Q E h => ?_) (fun f cdv A outer s H vs Q E hr h => ?_)
  · obtain ⟨n, p, t, r, k, rfl, _⟩ := h
    rfl
  obtain ⟨n, p, t, r, k, rfl, h0, h1, hk, q⟩ := h
  refine ⟨_, (pss_one (ps_ret (pe_op op_add (pe_op op_add (pe_op op_mul pe_int (pv 1 (hd := nd_puts) (hcd := nc_puts))) (pe_op op_mul (pe_op op_mul pe_int (pe_callB (q_max rfl) (by rfl) m_max bb_max (pa_cons pe_int (pa_cons (pe_cal C_top_level hr (pa_cons (pv 0 (hd := nd_count) (hcd := nc_count)) pa_nil) (hdb := nd_top_level)) pa_nil)) (hn := nn_max) (hdb := nd_max))) (pv 2 (hd := nd_takes) (hcd := nc_takes)))) (pe_op op_mul pe_int (pv 3 (hd := nd_rises) (hcd := nc_rises)))))), ?_⟩
  refine Rd.at0 (σ := [some (.int n), some (.int p), some (.int t), some (.int r)]) rfl ?_
  repeat' (walk_at "rd")
  refine ⟨n, rfl, h0, fun k' hk' => ?_⟩
  rw [top_one hk' hk]
  have k5 := top_le hk h1
  repeat' (walk_at "rd")
  exact q
/-- is_within(n, counts) -/
def spWithin : Sp := fun vs H Q _ => ∃ (n : Int) (a : Addr) (k : Nat) (f : Str → Int), vs = [.int n, .ref a] ∧ 0 ≤ n ∧ n ≤ 33 ∧ Top n k ∧ CD H a f ∧ ∀ (b : Bool) (H' : Hp), (b = true ↔ Good n k f) → Same H H' → Q (.bl b) H'
theorem unlock {H : Hp} {a L : Addr} {o o' l : HO} (h : H a = some o) (hL : (upd H a o') L = none) : Same H (upd (upd (upd H a o') L l) a o) ∧ L ≠ a ∧ (upd (upd (upd H a o') L l) a o) L = some l := by
  have ne : L ≠ a := fun e => by
    rw [e, upd_same] at hL
    cases hL
  refine ⟨fun b u e => ?_, ne, (upd_ne ne).trans upd_same⟩
  by_cases z : b = a
  · subst z
    rw [upd_same, ← h, e]
  · rw [upd_ne z]
    have e' : (upd H a o') b = some u := (upd_ne z).trans e
    exact (upd_ne (ne_of_none e' hL)).trans e'
theorem ok_is_within (F : Def K mg "is_within" s_is_within P_is_within) (m_any : mg "any" = none) (m_max : mg "max" = none) (C_rise_bound : Cal P w K mg base 2 "rise_bound" P_rise_bound spRise) (C_step_bound : Cal P w K mg base 2 "step_bound" P_step_bound spStep) : Cal P w K mg base 3 "is_within" P_is_within spWithin := by
  refine F.ok sc_is_within (fun vs H Q E h => ?_) (fun f cdv A outer s H vs Q E hr h => ?_)
  · obtain ⟨n, a, k, f, rfl, _⟩ := h
    rfl
  obtain ⟨n, a, k, f, rfl, h0, h1, hk, ⟨ks, pm, hc⟩, q⟩ := h
  refine ⟨_, (pss_cons (ps_if (pt_val (pe_callB (cr_anyK (K := K) rfl rfl) (by rfl) m_any bb_any (pa_cons (pe_lock (pe_lc (own := [("number", 6)]) (by rfl) sc_is_within.nd (pi_values (pv 1 (hd := nd_counts) (hcd := nc_counts))) (blkOk_by (N := N_is_within) (sc := defScope s_is_within) (by decide +kernel)) (fun _ _ _ _ _ => (pg_name (i := 6) sc_is_within.nd rfl (Or.inl rfl))) (fun _ _ _ _ _ => pts_nil) (fun _ _ _ _ _ => (pe_cmpR op_lt (pv 6 (hd := nd_number) (hcd := nc_number)) pe_int (nomark _))))) pa_nil) (hn := nn_any) (hdb := nd_any))) (pss_one (ps_ret pe_bl)) pss_nil)
  (pss_cons (ps_par3 (i := 2) (j := 3) (l := 4) (by rfl) sc_is_within.nd rfl rfl rfl (by decide) (by decide) (by decide) rfl rfl rfl (pa_cons (pe_dget (un1 hr) (pv 1 (hd := nd_counts) (hcd := nc_counts)) pe_str (fun _ _ => rfl)) (pa_cons (pe_dget (un1 hr) (pv 1 (hd := nd_counts) (hcd := nc_counts)) pe_str (fun _ _ => rfl)) (pa_cons (pe_dget (un1 hr) (pv 1 (hd := nd_counts) (hcd := nc_counts)) pe_str (fun _ _ => rfl)) pa_nil))) (by rfl))
  (pss_cons (ps_if (PW.pt (pw_or (pt_cmpR op_gt (pv 3 (hd := nd_takes) (hcd := nc_takes)) (pv 2 (hd := nd_puts) (hcd := nc_puts)) (nomark _)) (pw_or (pt_cmpR op_gt (pe_dget (un1 hr) (pv 1 (hd := nd_counts) (hcd := nc_counts)) pe_str (fun _ _ => rfl)) (pv 2 (hd := nd_puts) (hcd := nc_puts)) (nomark _)) (pw_or1 (pt_cmpR op_gt (pe_op op_add (pe_dget (un1 hr) (pv 1 (hd := nd_counts) (hcd := nc_counts)) pe_str (fun _ _ => rfl)) (pe_dget (un1 hr) (pv 1 (hd := nd_counts) (hcd := nc_counts)) pe_str (fun _ _ => rfl))) (pv 3 (hd := nd_takes) (hcd := nc_takes)) (nomark _)))))) (pss_one (ps_ret pe_bl)) pss_nil)
  (pss_cons (ps_if (pt_not (pt_chain op_le op_le pe_int (pe_op op_sub (pe_dget (un1 hr) (pv 1 (hd := nd_counts) (hcd := nc_counts)) pe_str (fun _ _ => rfl)) (pe_dget (un1 hr) (pv 1 (hd := nd_counts) (hcd := nc_counts)) pe_str (fun _ _ => rfl))) (pe_callB (q_max rfl) (by rfl) m_max bb_max (pa_cons pe_int (pa_cons (pe_op op_sub (pv 0 (hd := nd_count) (hcd := nc_count)) pe_int) pa_nil)) (hn := nn_max) (hdb := nd_max)))) (pss_one (ps_ret pe_bl)) pss_nil)
  (pss_cons (ps_set (i := 5) sc_is_within.nd rfl (Or.inl rfl) (pe_op op_add (pe_dget (un1 hr) (pv 1 (hd := nd_counts) (hcd := nc_counts)) pe_str (fun _ _ => rfl)) (pe_dget (un1 hr) (pv 1 (hd := nd_counts) (hcd := nc_counts)) pe_str (fun _ _ => rfl))))
  (pss_one (ps_ret (pe_and (pe_cmpR op_le (pv 4 (hd := nd_rises) (hcd := nc_rises)) (pe_cal C_rise_bound hr (pa_cons (pv 0 (hd := nd_count) (hcd := nc_count)) (pa_cons (pv 2 (hd := nd_puts) (hcd := nc_puts)) pa_nil)) (hdb := nd_rise_bound)) (nomark _)) (pe_one (pe_cmpR op_le (pv 5 (hd := nd_steps) (hcd := nc_steps)) (pe_cal C_step_bound hr (pa_cons (pv 0 (hd := nd_count) (hcd := nc_count)) (pa_cons (pv 2 (hd := nd_puts) (hcd := nc_puts)) (pa_cons (pv 3 (hd := nd_takes) (hcd := nc_takes)) (pa_cons (pv 4 (hd := nd_rises) (hcd := nc_rises)) pa_nil)))) (hdb := nd_step_bound)) (nomark _))))))))))), ?_⟩
  refine Rd.at0 (σ := [some (.int n), some (.ref a), none, none, none, none, none]) rfl ?_
  repeat' (walk_at "rd")
  refine lockE hc fun od => ?_
  repeat' (walk_at "rd")
  refine valsX ?_
  repeat' (walk_at "rd")
  refine ⟨a, od, _, rfl, upd_same, ?_⟩
  have l8 := len8 pm
  refine lcV _ fun L hL => ⟨fun i h => h = upd (upd H a (.frz od (.dK (kd ks fun z => .int (f z))))) L (.lst (((ks.take i).map fun z => decide (f z < 0)).map V.bl)), rfl, (fun i h _ e => ?_), ?_, ?_⟩
  · rw [e]
    have ne : L ≠ a := fun e => by
      rw [e, upd_same] at hL
      cases hL
    exact (upd_ne (Ne.symm ne)).trans upd_same
  · rintro i kk x h hx rfl
    unfold kd at hx
    rw [List.getElem?_map] at hx
    obtain ⟨z, hz, e⟩ := Option.map_eq_some_iff.mp hx
    obtain ⟨rfl, rfl⟩ := Prod.mk.inj e
    refine turn1 ?_
    repeat' (walk_at "rd")
    refine ⟨rfl, ?_⟩
    repeat' (walk_at "rd")
    refine ⟨_, upd_same, sz5' (by rw [List.length_map, List.length_map, List.length_take]; omega), ?_⟩
    rw [upd_upd, List.take_add_one, hz, List.map_append, List.map_append]
    rfl
  · rintro h rfl
    rw [kd_len, List.take_length]
    obtain ⟨s1, ne, eL⟩ := unlock (l := .lst ((ks.map fun z => decide (f z < 0)).map V.bl)) hc hL
    refine ⟨(upd_ne (Ne.symm ne)).trans upd_same, ?_⟩
    generalize upd (upd (upd H a _) L _) a _ = G at *
    have hc := s1 _ _ hc
    repeat' (walk_at "rd")
    refine ⟨L, _, rfl, .inl (.inl eL), ?_⟩
    refine exbl ?_
    refine iteB (fun z => ?_) (fun z => ?_)
    · obtain ⟨x, hx, e⟩ := List.any_eq_true.mp z
      obtain ⟨y, hy, rfl⟩ := List.mem_map.mp hx
      have e : f y < 0 := of_decide_eq_true e
      repeat' (walk_at "rd")
      refine q false _ ⟨fun h => (nomatch h), fun g => ?_⟩ s1
      have := g.1 y (pm.mem_iff.mp hy)
      omega
    have pos : ∀ z ∈ K8, 0 ≤ f z := fun y hy => by
      have := List.any_eq_false.mp z (decide (f y < 0)) (List.mem_map.mpr ⟨y, pm.mem_iff.mpr hy, rfl⟩)
      have : ¬ f y < 0 := fun z => this (decide_eq_true z)
      omega
    repeat' (walk_at "rd")
    all_goals try (refine q false _ ⟨fun h => (nomatch h), fun g => ?_⟩ s1; obtain ⟨g1, g2, g3, g4, g5, g6, g7, g8⟩ := g; omega)
    refine ⟨n, _, k, rfl, h0, h1, hk, ?_⟩
    repeat' (walk_at "rd")
    · refine ⟨n, _, _, _, k, rfl, h0, h1, hk, ?_⟩
      repeat' (walk_at "rd")
      refine q _ _ ⟨fun h => ?_, fun g => ?_⟩ s1
      · have := of_decide_eq_true h
        exact ⟨pos, by omega, by omega, by omega, by omega, by omega, by omega, this⟩
      · exact decide_eq_true g.2.2.2.2.2.2.2
    · refine q false _ ⟨fun h => (nomatch h), fun g => ?_⟩ s1
      have := g.2.2.2.2.2.2.1
      omega
end
end Kj
namespace Kj
open PySem PySem.Spec PyProof.Rows L2 Rd
/-! ### the stepper -/
local macro_rules | `(tactic| walk_at "hp") => `(tactic| first
  | assumption
  | exact upd_same
  | (refine Eq.trans (upd_ne (by first | assumption | (apply Ne.symm; assumption))) ?_; walk_at "hp"))
local macro_rules | `(tactic| walk_at "sq") => `(tactic| first
  | assumption
  | (refine Or.inl (Or.inl ?_); walk_at "hp"))
local macro_rules | `(tactic| walk_at "st") => `(tactic| first
  | assumption
  | (refine Or.inl (Or.inl ?_); walk_at "hp"))
local macro_rules | `(tactic| walk_at "ar") => `(tactic| first
  | assumption
  | omega
  | decide)
local macro_rules | `(tactic| walk_at "ci") => `(tactic| first
  | (refine (show CMul _ _ from Or.inr ⟨?_, ?_⟩) <;> omega)
  | (refine (show CMul _ _ from Or.inl ⟨?_, ?_⟩) <;> omega)
  | (show CPow _ _; exact ⟨by decide, by decide, by decide⟩)
  | (refine wide_div (b := 63) ?_ ?_ (by decide) (by decide) <;> omega)
  | (show (0 : Int) < _; omega))
local macro_rules | `(tactic| walk_at "ty") => `(tactic| first
  | exact dp_ty (by assumption)
  | exact TyX.base (TyOf.int _)
  | exact TyX.base (TyOf.str _)
  | exact TyX.base (TyOf.bl _)
  | exact TyX.base TyOf.non
  | exact tyL' (by walk_at "sq")
  | exact tyT' (by walk_at "st"))
local macro_rules | `(tactic| walk_at "isi") => `(tactic| first
  | ((with_reducible apply Rd.isiF); (walk_at "ty"); (decide))
  | ((with_reducible apply Rd.isiT); (walk_at "ty"); (decide)))
local macro_rules | `(tactic| walk_at "rd") => `(tactic| first
  | with_reducible apply Rd.seq
  | ((with_reducible apply Rd.var); rfl)
  | with_reducible apply Rd.con
  | with_reducible apply Rd.op
  | with_reducible apply Rd.asg
  | ((with_reducible apply Rd.gname); ((dsimp only [List.set, L2.wipe, Int.reduceToNat]) <;> rfl))
  | with_reducible apply Rd.nxt
  | with_reducible apply Rd.ifs
  | with_reducible apply Rd.test
  | with_reducible apply Rd.testB
  | with_reducible apply Rd.exbl
  | with_reducible apply Rd.ret
  | with_reducible apply Rd.drop
  | with_reducible apply Rd.retN
  | with_reducible apply Rd.nil
  | with_reducible apply Rd.cons
  | with_reducible apply Rd.call
  | with_reducible apply Rd.cb
  | with_reducible apply Rd.and
  | with_reducible apply Rd.or
  | with_reducible apply Rd.not
  | with_reducible apply Rd.andV
  | with_reducible apply Rd.orV
  | with_reducible apply Rd.notV
  | with_reducible apply Rd.ife
  | with_reducible apply Rd.tup
  | with_reducible apply Rd.lst
  | with_reducible apply Rd.un
  | with_reducible apply Rd.chain
  | with_reducible apply Rd.brk
  | with_reducible apply Rd.cnt
  | with_reducible apply Rd.I0
  | with_reducible apply Rd.U1
  | ((with_reducible apply Rd.eq); rfl)
  | ((with_reducible apply Rd.ne); rfl)
  | ((with_reducible apply Rd.I1); (walk_at "ci"))
  | with_reducible apply Rd.lc0
  | with_reducible apply Rd.ln0
  | with_reducible apply Rd.exN
  | ((with_reducible apply Rd.iteSf); (decide +kernel))
  | ((with_reducible apply Rd.iteSt); (decide +kernel))
  | ((with_reducible apply Rd.niQ); (exact Or.inl (by walk_at "sq")); (exact ⟨rfl, rfl⟩); (rfl))
  | ((with_reducible apply Rd.inQ); (exact Or.inl (by walk_at "sq")); (exact ⟨rfl, rfl⟩); (rfl))
  | with_reducible apply Rd.rn1
  | with_reducible apply Rd.in1
  | with_reducible apply Rd.sn1
  | with_reducible apply Rd.bn1
  | with_reducible apply Rd.nn1
  | with_reducible apply Rd.rn2
  | with_reducible apply Rd.in2
  | with_reducible apply Rd.sn2
  | with_reducible apply Rd.bn2
  | with_reducible apply Rd.nn2
  | with_reducible apply Rd.nt1
  | with_reducible apply Rd.nf1
  | (with_reducible refine Rd.iteI (fun _ => ?_) (fun _ => ?_))
  | (with_reducible refine Rd.iteNI (fun _ => ?_) (fun _ => ?_))
  | (with_reducible refine iteT ?_)
  | (with_reducible refine iteF ?_)
  | (with_reducible refine Rd.iteD (fun _ => ?_) (fun _ => ?_))
  | (with_reducible refine Rd.iteN (fun _ => ?_) (fun _ => ?_))
  | with_reducible apply Rd.intI
  | with_reducible apply Rd.intB
  | with_reducible apply Rd.maxQ
  | with_reducible apply Rd.minQ
  | with_reducible apply Rd.absQ
  | with_reducible apply Rd.isN
  | with_reducible apply Rd.noN
  | with_reducible apply Rd.ltZ
  | with_reducible apply Rd.bm
  | with_reducible apply Rd.bm0
  | with_reducible apply Rd.par
  | with_reducible apply Rd.expar
  | with_reducible apply Rd.exint
  | with_reducible apply Rd.ipi
  | with_reducible apply Rd.slice
  | with_reducible apply Rd.noPart
  | with_reducible apply Rd.part
  | with_reducible apply Rd.gcons
  | with_reducible apply Rd.gnil
  | with_reducible apply Rd.iseq
  | with_reducible apply Rd.irng1
  | walk_at "isi"
  | with_reducible apply Rd.forX
  | with_reducible apply Rd.lstRev
  | with_reducible apply Rd.lstRg
  | with_reducible apply Rd.rg1
  | with_reducible apply Rd.rg2
  | with_reducible apply Rd.exint2
  | ((with_reducible apply Rd.exrev); (walk_at "sq"))
  | with_reducible apply Rd.lcX
  | with_reducible apply Rd.yes
  | ((with_reducible apply Rd.exrng1); (constructor <;> omega))
  | ((with_reducible apply Rd.exrng2); (refine ⟨?_, ?_, ?_, ?_⟩ <;> omega))
  | with_reducible apply Rd.irng2
  | ((with_reducible apply Rd.aug); rfl)
  | ((with_reducible apply Rd.exlst); (walk_at "sq"))
  | ((with_reducible apply Rd.gtup); (walk_at "st"); (rfl))
  | ((with_reducible apply Rd.tyL); (walk_at "hp"))
  | ((with_reducible apply Rd.ixL); (walk_at "sq"); (rfl))
  | ((with_reducible apply Rd.ixI); (walk_at "sq"); (omega); (first | assumption | (simp only [List.length_map]; omega)); (intro _ _))
  | (with_reducible refine Rd.gsub ?_)
  | ((with_reducible apply Rd.setL); (walk_at "hp"); (rfl); ((dsimp only [List.set, L2.wipe, Int.reduceToNat]) <;> rfl))
  | ((with_reducible apply Rd.lenQ); (first | exact Or.inl (by walk_at "sq") | exact Or.inr (by walk_at "st")))
  | ((with_reducible apply Rd.listQ); (first | exact Or.inl (by walk_at "sq") | exact Or.inr (by walk_at "st")))
  | ((with_reducible apply Rd.tupQ); (walk_at "sq"))
  | ((with_reducible apply Rd.slL); (walk_at "sq"))
  | ((with_reducible apply Rd.ixT); (walk_at "st"); (rfl))
  | (with_reducible refine Rd.iteB (fun _ => ?_) (fun _ => ?_))
  | (with_reducible refine Rd.iteNB (fun _ => ?_) (fun _ => ?_))
  | (refine Rd.andI (Nat.le_of_ble_eq_true rfl) ?_)
  | dsimp only [List.set])
local macro_rules | `(tactic| walk_at "hp") => `(tactic| first
  | assumption
  | exact upd_same
  | (refine Eq.trans (upd_ne (by first | assumption | (apply Ne.symm; assumption))) ?_; walk_at "hp")
  | (refine hpS (by assumption) ?_; walk_at "hp"))
local macro_rules | `(tactic| walk_at "al") => `(tactic| (with_reducible intro l hl; generalize hG : upd _ l _ = G; have hs := newOne hl hG; clear hG; obtain ⟨hs, he⟩ := hs))
local macro_rules | `(tactic| walk_at "rd") => `(tactic| first
  | walk_at "al"
  | ((with_reducible apply Rd.cat); (walk_at "hp"); (walk_at "hp"); (exact Nat.le_of_ble_eq_true rfl)))
local macro_rules | `(tactic| walk_at "sm") => `(tactic| first
  | assumption
  | exact Same.refl _
  | (refine Same.trans ?_ (by assumption); walk_at "sm"))
local macro_rules | `(tactic| walk_at "fr") => `(tactic| first
  | assumption
  | (refine Same.free (by assumption) ?_; walk_at "fr"))
local macro_rules | `(tactic| walk_at "ty") => `(tactic| first
  | exact dv_ty (by assumption)
  | exact tyD' (by walk_at "hp"))
local macro_rules | `(tactic| walk_at "ci") => `(tactic| first
  | (refine (show CMul _ _ from Or.inr ⟨?_, ?_⟩) <;> omega)
  | (refine (show CMul _ _ from Or.inl ⟨?_, ?_⟩) <;> omega)
  | (refine wide_div (b := 121) ?_ ?_ (by decide) (by decide) <;> omega))
section
variable {P : Program} {w : World} {K : PySem.W.Frag} {mg : Str → Option Value} {base : Heap}
theorem Go.seq {st c a : Addr} {H H' : Hp} {xs : List V} (g : Go st c H H') (n : a ≠ st) (h : SqL K H a xs) : SqL K H' a xs := by
  rcases h with (h | ⟨o, h⟩) | h
  · exact .inl (.inl (g.keep _ _ n h))
  · exact .inl (.inr ⟨o, g.keep _ _ n h⟩)
  · exact .inr h
theorem CD.go {st c a : Addr} {H H' : Hp} {f : Str → Int} (h : CD H a f) (o : StoreAt H st c) (g : Go st c H H') : CD H' a f := by
  obtain ⟨ks, p, e⟩ := h
  refine ⟨ks, p, g.keep _ _ (fun z => ?_) e⟩
  obtain ⟨_, _, _, _, _, z1, _⟩ := o
  rw [z, z1] at e
  cases e
/-- _law_pick(store, items): one of them -/
def spPickL (K : PySem.W.Frag) : Sp := fun vs H Q _ => ∃ (st c a : Addr) (xs : List V), vs = [.ref st, .ref a] ∧ StoreAt H st c ∧ a ≠ st ∧ SqL K H a xs ∧ 1 ≤ xs.length ∧ xs.length ≤ 100000 ∧ ∀ (x : V) (H' : Hp), x ∈ xs → Go st c H H' → Q x H'
theorem ok__law_pick (F : Def K mg "_law_pick" s__law_pick P__law_pick) (m_len : mg "len" = none) (C__law_take : Cal P w K mg base 1 "_law_take" P__law_take spTake) : Cal P w K mg base 2 "_law_pick" P__law_pick (spPickL K) := by
  refine F.ok sc__law_pick (fun vs H Q E h => ?_) (fun f cdv A outer s H vs Q E hr h => ?_)
  · obtain ⟨st, c, a, xs, rfl, _⟩ := h
    rfl
  obtain ⟨st, c, a, xs, rfl, hs, na, ha, l1, l2, q⟩ := h
  refine ⟨_, (pss_cons (ps_if (pt_cmpR op_eq (pe_callB q_len (by rfl) m_len PySem.boot_len (pa_cons (pv 1 (hd := nd_items) (hcd := nc_items)) pa_nil) (hn := nn_len) (hdb := nd_len)) pe_int (nomark _)) (pss_one (ps_ret pe_non)) pss_nil)
  (pss_one (ps_ret (pe_ix ix_list (pv 1 (hd := nd_items) (hcd := nc_items)) (pe_cal C__law_take hr (pa_cons (pv 0 (hd := nd_store) (hcd := nc_store)) (pa_cons (pe_callB q_len (by rfl) m_len PySem.boot_len (pa_cons (pv 1 (hd := nd_items) (hcd := nc_items)) pa_nil) (hn := nn_len) (hdb := nd_len)) pa_nil)) (hdb := nd__law_take)) (fun _ _ => rfl))))), ?_⟩
  refine Rd.at0 (σ := [some (.ref st), some (.ref a)]) rfl ?_
  repeat' (walk_at "rd")
  · exfalso
    omega
  refine ⟨st, c, _, rfl, hs, by omega, fun r H1 r0 r1 g => ?_⟩
  have lt : r.toNat < xs.length := by omega
  exact ixN' (g.seq na ha) r0 (List.getElem?_eq_getElem lt) (q _ H1 (List.getElem_mem lt) g)
/-- _law_alike of two bools, of two ints -/
def spAlike : Sp := fun vs H Q _ => (∃ b c : Bool, vs = [.bl b, .bl c] ∧ Q (.bl (decide (b = c))) H) ∨ ∃ i j : Int, vs = [.int i, .int j] ∧ Q (.bl (decide (i = j))) H
theorem ok__law_alike (F : Def K mg "_law_alike" s__law_alike P__law_alike) (m_isinstance : mg "isinstance" = none) (m_str : mg "str" = none) (m_list : mg "list" = none) (m_tuple : mg "tuple" = none) (m_len : mg "len" = none) (m_range : mg "range" = none) (m_int : mg "int" = none) (m_bool : mg "bool" = none) : Cal P w K mg base 1 "_law_alike" P__law_alike spAlike := by
  refine F.ok sc__law_alike (fun vs H Q E h => ?_) (fun f cdv A outer s H vs Q E hr h => ?_)
  · rcases h with ⟨b, c, rfl, _⟩ | ⟨i, j, rfl, _⟩ <;> rfl
  rcases h with ⟨b, c, rfl, q⟩ | ⟨i, j, rfl, q⟩
  · refine ⟨_, (pss_cons (ps_if (PW.pt (pw_or (pt_val (pe_callB call_isi (by rfl) m_isinstance bb_isinstance (pa_cons (pv 0 (hd := nd_one) (hcd := nc_one)) (pa_cons (pe_bltn (v := .ty "str") (u := .type "str") (by rfl) m_str bb_str rfl (hn := nn_str) (hd := nd_str)) pa_nil)) (hn := nn_isinstance) (hdb := nd_isinstance))) (pw_or1 (pt_val (pe_callB call_isi (by rfl) m_isinstance bb_isinstance (pa_cons (pv 1 (hd := nd_two) (hcd := nc_two)) (pa_cons (pe_bltn (v := .ty "str") (u := .type "str") (by rfl) m_str bb_str rfl (hn := nn_str) (hd := nd_str)) pa_nil)) (hn := nn_isinstance) (hdb := nd_isinstance)))))) (pss_one (ps_ret (pe_and (pe_callB call_isi (by rfl) m_isinstance bb_isinstance (pa_cons (pv 0 (hd := nd_one) (hcd := nc_one)) (pa_cons (pe_bltn (v := .ty "str") (u := .type "str") (by rfl) m_str bb_str rfl (hn := nn_str) (hd := nd_str)) pa_nil)) (hn := nn_isinstance) (hdb := nd_isinstance)) (pe_and (pe_callB call_isi (by rfl) m_isinstance bb_isinstance (pa_cons (pv 1 (hd := nd_two) (hcd := nc_two)) (pa_cons (pe_bltn (v := .ty "str") (u := .type "str") (by rfl) m_str bb_str rfl (hn := nn_str) (hd := nd_str)) pa_nil)) (hn := nn_isinstance) (hdb := nd_isinstance)) (pe_one (pe_cmpR op_eq (pv 0 (hd := nd_one) (hcd := nc_one)) (pv 1 (hd := nd_two) (hcd := nc_two)) (nomark _))))))) pss_nil)
  (pss_cons (ps_if (PW.pt (pw_or (PW.pt (pw_and (pt_val (pe_callB call_isi (by rfl) m_isinstance bb_isinstance (pa_cons (pv 0 (hd := nd_one) (hcd := nc_one)) (pa_cons (pe_bltn (v := .ty "list") (u := .type "list") (by rfl) m_list bb_list rfl (hn := nn_list) (hd := nd_list)) pa_nil)) (hn := nn_isinstance) (hdb := nd_isinstance))) (pw_and1 (pt_val (pe_callB call_isi (by rfl) m_isinstance bb_isinstance (pa_cons (pv 1 (hd := nd_two) (hcd := nc_two)) (pa_cons (pe_bltn (v := .ty "list") (u := .type "list") (by rfl) m_list bb_list rfl (hn := nn_list) (hd := nd_list)) pa_nil)) (hn := nn_isinstance) (hdb := nd_isinstance)))))) (pw_or1 (PW.pt (pw_and (pt_val (pe_callB call_isi (by rfl) m_isinstance bb_isinstance (pa_cons (pv 0 (hd := nd_one) (hcd := nc_one)) (pa_cons (pe_bltn (v := .ty "tuple") (u := .type "tuple") (by rfl) m_tuple bb_tuple rfl (hn := nn_tuple) (hd := nd_tuple)) pa_nil)) (hn := nn_isinstance) (hdb := nd_isinstance))) (pw_and1 (pt_val (pe_callB call_isi (by rfl) m_isinstance bb_isinstance (pa_cons (pv 1 (hd := nd_two) (hcd := nc_two)) (pa_cons (pe_bltn (v := .ty "tuple") (u := .type "tuple") (by rfl) m_tuple bb_tuple rfl (hn := nn_tuple) (hd := nd_tuple)) pa_nil)) (hn := nn_isinstance) (hdb := nd_isinstance))))))))) pss_never pss_nil)
  (pss_cons (ps_if (PW.pt (pw_or (pt_cmpR o_isN (pv 0 (hd := nd_one) (hcd := nc_one)) pe_non (nomark _)) (pw_or1 (pt_cmpR o_isN (pv 1 (hd := nd_two) (hcd := nc_two)) pe_non (nomark _))))) (pss_one (ps_ret (pe_and (pe_cmpR o_isN (pv 0 (hd := nd_one) (hcd := nc_one)) pe_non (nomark _)) (pe_one (pe_cmpR o_isN (pv 1 (hd := nd_two) (hcd := nc_two)) pe_non (nomark _)))))) pss_nil)
  (pss_cons (ps_if (PW.pt (pw_or (pt_not (pt_val (pe_callB call_isi (by rfl) m_isinstance bb_isinstance (pa_cons (pv 0 (hd := nd_one) (hcd := nc_one)) (pa_cons (pe_bltn (v := .ty "int") (u := .type "int") (by rfl) m_int bb_int rfl (hn := nn_int) (hd := nd_int)) pa_nil)) (hn := nn_isinstance) (hdb := nd_isinstance)))) (pw_or1 (pt_not (pt_val (pe_callB call_isi (by rfl) m_isinstance bb_isinstance (pa_cons (pv 1 (hd := nd_two) (hcd := nc_two)) (pa_cons (pe_bltn (v := .ty "int") (u := .type "int") (by rfl) m_int bb_int rfl (hn := nn_int) (hd := nd_int)) pa_nil)) (hn := nn_isinstance) (hdb := nd_isinstance))))))) (pss_one (ps_ret pe_bl)) pss_nil)
  (pss_one (ps_ret (pe_and (pe_cmpR op_eq (pe_callB call_isi (by rfl) m_isinstance bb_isinstance (pa_cons (pv 0 (hd := nd_one) (hcd := nc_one)) (pa_cons (pe_bltn (v := .ty "bool") (u := .type "bool") (by rfl) m_bool bb_bool rfl (hn := nn_bool) (hd := nd_bool)) pa_nil)) (hn := nn_isinstance) (hdb := nd_isinstance)) (pe_callB call_isi (by rfl) m_isinstance bb_isinstance (pa_cons (pv 1 (hd := nd_two) (hcd := nc_two)) (pa_cons (pe_bltn (v := .ty "bool") (u := .type "bool") (by rfl) m_bool bb_bool rfl (hn := nn_bool) (hd := nd_bool)) pa_nil)) (hn := nn_isinstance) (hdb := nd_isinstance)) (nomark _)) (pe_one (pe_cmpR op_eq (pv 0 (hd := nd_one) (hcd := nc_one)) (pv 1 (hd := nd_two) (hcd := nc_two)) (nomark _)))))))))), ?_⟩
    refine Rd.at0 (σ := [some (.bl b), some (.bl c), none]) rfl ?_
    repeat' (walk_at "rd")
    all_goals first
    | (exfalso; rename_i z; exact z rfl)
    | (rw [show decide (V.bl b = V.bl c) = decide (b = c) by simp]; exact q)
  · refine ⟨_, (pss_cons (ps_if (PW.pt (pw_or (pt_val (pe_callB call_isi (by rfl) m_isinstance bb_isinstance (pa_cons (pv 0 (hd := nd_one) (hcd := nc_one)) (pa_cons (pe_bltn (v := .ty "str") (u := .type "str") (by rfl) m_str bb_str rfl (hn := nn_str) (hd := nd_str)) pa_nil)) (hn := nn_isinstance) (hdb := nd_isinstance))) (pw_or1 (pt_val (pe_callB call_isi (by rfl) m_isinstance bb_isinstance (pa_cons (pv 1 (hd := nd_two) (hcd := nc_two)) (pa_cons (pe_bltn (v := .ty "str") (u := .type "str") (by rfl) m_str bb_str rfl (hn := nn_str) (hd := nd_str)) pa_nil)) (hn := nn_isinstance) (hdb := nd_isinstance)))))) (pss_one (ps_ret (pe_and (pe_callB call_isi (by rfl) m_isinstance bb_isinstance (pa_cons (pv 0 (hd := nd_one) (hcd := nc_one)) (pa_cons (pe_bltn (v := .ty "str") (u := .type "str") (by rfl) m_str bb_str rfl (hn := nn_str) (hd := nd_str)) pa_nil)) (hn := nn_isinstance) (hdb := nd_isinstance)) (pe_and (pe_callB call_isi (by rfl) m_isinstance bb_isinstance (pa_cons (pv 1 (hd := nd_two) (hcd := nc_two)) (pa_cons (pe_bltn (v := .ty "str") (u := .type "str") (by rfl) m_str bb_str rfl (hn := nn_str) (hd := nd_str)) pa_nil)) (hn := nn_isinstance) (hdb := nd_isinstance)) (pe_one (pe_cmpR op_eq (pv 0 (hd := nd_one) (hcd := nc_one)) (pv 1 (hd := nd_two) (hcd := nc_two)) (nomark _))))))) pss_nil)
  (pss_cons (ps_if (PW.pt (pw_or (PW.pt (pw_and (pt_val (pe_callB call_isi (by rfl) m_isinstance bb_isinstance (pa_cons (pv 0 (hd := nd_one) (hcd := nc_one)) (pa_cons (pe_bltn (v := .ty "list") (u := .type "list") (by rfl) m_list bb_list rfl (hn := nn_list) (hd := nd_list)) pa_nil)) (hn := nn_isinstance) (hdb := nd_isinstance))) (pw_and1 (pt_val (pe_callB call_isi (by rfl) m_isinstance bb_isinstance (pa_cons (pv 1 (hd := nd_two) (hcd := nc_two)) (pa_cons (pe_bltn (v := .ty "list") (u := .type "list") (by rfl) m_list bb_list rfl (hn := nn_list) (hd := nd_list)) pa_nil)) (hn := nn_isinstance) (hdb := nd_isinstance)))))) (pw_or1 (PW.pt (pw_and (pt_val (pe_callB call_isi (by rfl) m_isinstance bb_isinstance (pa_cons (pv 0 (hd := nd_one) (hcd := nc_one)) (pa_cons (pe_bltn (v := .ty "tuple") (u := .type "tuple") (by rfl) m_tuple bb_tuple rfl (hn := nn_tuple) (hd := nd_tuple)) pa_nil)) (hn := nn_isinstance) (hdb := nd_isinstance))) (pw_and1 (pt_val (pe_callB call_isi (by rfl) m_isinstance bb_isinstance (pa_cons (pv 1 (hd := nd_two) (hcd := nc_two)) (pa_cons (pe_bltn (v := .ty "tuple") (u := .type "tuple") (by rfl) m_tuple bb_tuple rfl (hn := nn_tuple) (hd := nd_tuple)) pa_nil)) (hn := nn_isinstance) (hdb := nd_isinstance))))))))) pss_never pss_nil)
  (pss_cons (ps_if (PW.pt (pw_or (pt_cmpR o_isN (pv 0 (hd := nd_one) (hcd := nc_one)) pe_non (nomark _)) (pw_or1 (pt_cmpR o_isN (pv 1 (hd := nd_two) (hcd := nc_two)) pe_non (nomark _))))) (pss_one (ps_ret (pe_and (pe_cmpR o_isN (pv 0 (hd := nd_one) (hcd := nc_one)) pe_non (nomark _)) (pe_one (pe_cmpR o_isN (pv 1 (hd := nd_two) (hcd := nc_two)) pe_non (nomark _)))))) pss_nil)
  (pss_cons (ps_if (PW.pt (pw_or (pt_not (pt_val (pe_callB call_isi (by rfl) m_isinstance bb_isinstance (pa_cons (pv 0 (hd := nd_one) (hcd := nc_one)) (pa_cons (pe_bltn (v := .ty "int") (u := .type "int") (by rfl) m_int bb_int rfl (hn := nn_int) (hd := nd_int)) pa_nil)) (hn := nn_isinstance) (hdb := nd_isinstance)))) (pw_or1 (pt_not (pt_val (pe_callB call_isi (by rfl) m_isinstance bb_isinstance (pa_cons (pv 1 (hd := nd_two) (hcd := nc_two)) (pa_cons (pe_bltn (v := .ty "int") (u := .type "int") (by rfl) m_int bb_int rfl (hn := nn_int) (hd := nd_int)) pa_nil)) (hn := nn_isinstance) (hdb := nd_isinstance))))))) (pss_one (ps_ret pe_bl)) pss_nil)
  (pss_one (ps_ret (pe_and (pe_cmpR op_eq (pe_callB call_isi (by rfl) m_isinstance bb_isinstance (pa_cons (pv 0 (hd := nd_one) (hcd := nc_one)) (pa_cons (pe_bltn (v := .ty "bool") (u := .type "bool") (by rfl) m_bool bb_bool rfl (hn := nn_bool) (hd := nd_bool)) pa_nil)) (hn := nn_isinstance) (hdb := nd_isinstance)) (pe_callB call_isi (by rfl) m_isinstance bb_isinstance (pa_cons (pv 1 (hd := nd_two) (hcd := nc_two)) (pa_cons (pe_bltn (v := .ty "bool") (u := .type "bool") (by rfl) m_bool bb_bool rfl (hn := nn_bool) (hd := nd_bool)) pa_nil)) (hn := nn_isinstance) (hdb := nd_isinstance)) (nomark _)) (pe_one (pe_cmpR op_eq (pv 0 (hd := nd_one) (hcd := nc_one)) (pv 1 (hd := nd_two) (hcd := nc_two)) (nomark _)))))))))), ?_⟩
    refine Rd.at0 (σ := [some (.int i), some (.int j), none]) rfl ?_
    repeat' (walk_at "rd")
    all_goals first
    | (exfalso; rename_i z; exact z rfl)
    | (rw [show decide (V.int i = V.int j) = decide (i = j) by simp]; exact q)
/-- a number from 0, below 10 ** 30 -/
def spNumber : Sp := fun vs H Q _ => ∃ (st c : Addr), vs = [.ref st] ∧ StoreAt H st c ∧ ∀ (n : Int) (H' : Hp), 0 ≤ n → n < 10 ^ 30 → Go st c H H' → Q (.int n) H'
theorem ok__law_number (F : Def K mg "_law_number" s__law_number P__law_number) (C__law_take : Cal P w K mg base 1 "_law_take" P__law_take spTake) : Cal P w K mg base 2 "_law_number" P__law_number spNumber := by
  refine F.ok sc__law_number (fun vs H Q E h => ?_) (fun f cdv A outer s H vs Q E hr h => ?_)
  · obtain ⟨st, c, rfl, _⟩ := h
    rfl
  obtain ⟨st, c, rfl, hs, q⟩ := h
  refine ⟨_, (pss_cons (ps_set (i := 1) sc__law_number.nd rfl (Or.inl rfl) (pe_ix ix_list (pe_lst (pa_cons pe_int (pa_cons pe_int (pa_cons pe_int (pa_cons pe_int (pa_cons pe_int (pa_cons (pe_op op_pow pe_int pe_int) pa_nil))))))) (pe_cal C__law_take hr (pa_cons (pv 0 (hd := nd_store) (hcd := nc_store)) (pa_cons pe_int pa_nil)) (hdb := nd__law_take)) (fun _ _ => rfl)))
  (pss_one (ps_ret (pe_cal C__law_take hr (pa_cons (pv 0 (hd := nd_store) (hcd := nc_store)) (pa_cons (pv 1 (hd := nd_most) (hcd := nc_most)) pa_nil)) (hdb := nd__law_take))))), ?_⟩
  refine Rd.at0 (σ := [some (.ref st), none]) rfl ?_
  repeat' (walk_at "rd")
  rename_i l nl G sG eG
  refine ⟨st, c, 6, rfl, hs.same sG, by decide, fun r H1 r0 r1 g => ?_⟩
  have m := g.keep l _ ((hs.off nl).1) eG
  have gg := ((Go.refl hs).same sG).trans g
  obtain rfl | rfl | rfl | rfl | rfl | rfl : r = 0 ∨ r = 1 ∨ r = 2 ∨ r = 3 ∨ r = 4 ∨ r = 5 := by omega
  all_goals
    refine ixL (.inl (.inl m)) rfl ?_
    repeat' (walk_at "rd")
    refine ⟨st, c, _, rfl, gg.ok, by decide, fun r H2 r0 r1 g2 => ?_⟩
    refine q _ _ r0 (by first | omega | (rcases r1 with r1 | rfl; exact Int.lt_of_lt_of_le r1 (by decide); decide)) (gg.trans g2)
/-- a number from 0 to most -/
def spUpTo : Sp := fun vs H Q _ => ∃ (st c : Addr) (m : Int), vs = [.ref st, .int m] ∧ StoreAt H st c ∧ 0 ≤ m ∧ m < 10 ^ 35 ∧ ∀ (n : Int) (H' : Hp), 0 ≤ n → n ≤ m → Go st c H H' → Q (.int n) H'
theorem ok__law_up_to (F : Def K mg "_law_up_to" s__law_up_to P__law_up_to) (C__law_take : Cal P w K mg base 1 "_law_take" P__law_take spTake) : Cal P w K mg base 2 "_law_up_to" P__law_up_to spUpTo := by
  refine F.ok sc__law_up_to (fun vs H Q E h => ?_) (fun f cdv A outer s H vs Q E hr h => ?_)
  · obtain ⟨st, c, m, rfl, _⟩ := h
    rfl
  obtain ⟨st, c, m, rfl, hs, m0, m1, q⟩ := h
  refine ⟨_, (pss_cons (ps_set (i := 2) sc__law_up_to.nd rfl (Or.inl rfl) (pe_cal C__law_take hr (pa_cons (pv 0 (hd := nd_store) (hcd := nc_store)) (pa_cons pe_int pa_nil)) (hdb := nd__law_take)))
  (pss_cons (ps_if (pt_cmpR op_lt (pv 2 (hd := nd_style) (hcd := nc_style)) pe_int (nomark _)) (pss_one (ps_ret (pe_op op_mul (pv 1 (hd := nd_most) (hcd := nc_most)) (pv 2 (hd := nd_style) (hcd := nc_style))))) pss_nil)
  (pss_one (ps_ret (pe_cal C__law_take hr (pa_cons (pv 0 (hd := nd_store) (hcd := nc_store)) (pa_cons (pe_op op_add (pv 1 (hd := nd_most) (hcd := nc_most)) pe_int) pa_nil)) (hdb := nd__law_take)))))), ?_⟩
  refine Rd.at0 (σ := [some (.ref st), some (.int m), none]) rfl ?_
  repeat' (walk_at "rd")
  refine ⟨st, c, 4, rfl, hs, by decide, fun r H1 r0 r1 g => ?_⟩
  repeat' (walk_at "rd")
  · obtain rfl | rfl : r = 0 ∨ r = 1 := by omega
    · exact q _ _ (by omega) (by omega) g
    · exact q _ _ (by omega) (by omega) g
  · refine ⟨st, c, m + 1, rfl, g.ok, by omega, fun r H2 r0 r1 g2 => ?_⟩
    exact q _ _ r0 (by omega) (g.trans g2)
/-- 2 ** times -/
def spDouble : Sp := fun vs H Q _ => ∃ t : Nat, vs = [.int t] ∧ t ≤ 60 ∧ Q (.int ((2 ^ t : Nat) : Int)) H
theorem ok__law_double (F : Def K mg "_law_double" s__law_double P__law_double) (m_range : mg "range" = none) : Cal P w K mg base 1 "_law_double" P__law_double spDouble := by
  refine F.ok sc__law_double (fun vs H Q E h => ?_) (fun f cdv A outer s H vs Q E hr h => ?_)
  · obtain ⟨t, rfl, _⟩ := h
    rfl
  obtain ⟨t, rfl, ht, q⟩ := h
  refine ⟨_, (pss_cons (ps_set (i := 1) sc__law_double.nd rfl (Or.inl rfl) pe_int)
  (pss_cons (ps_for PassesOwn.never rfl (pi_range1 (by rfl) m_range (pa_cons (pv 0 (hd := nd_times) (hcd := nc_times)) pa_nil)) (pg_name (i := 2) sc__law_double.nd rfl (Or.inl rfl)) (pss_one (ps_set (i := 1) sc__law_double.nd rfl (Or.inl rfl) (pe_op op_add (pv 1 (hd := nd_power) (hcd := nc_power)) (pv 1 (hd := nd_power) (hcd := nc_power))))))
  (pss_one (ps_ret (pv 1 (hd := nd_power) (hcd := nc_power)))))), ?_⟩
  refine Rd.at0 (σ := [some (.int t), none, none]) rfl ?_
  repeat' (walk_at "rd")
  refine forR (fun i σ H' => ∃ v2 : Option V, σ = [some (.int t), some (.int ((2 ^ i : Nat) : Int)), v2] ∧ H' = H) ⟨none, rfl, rfl⟩ ?_ ?_
  · rintro i σ H' hi ⟨v2, rfl, rfl⟩
    repeat' (walk_at "rd")
    exact ⟨_, by rw [show (2 : Nat) ^ (i + 1) = 2 ^ i + 2 ^ i by rw [Nat.pow_succ]; omega, Int.natCast_add], rfl⟩
  · rintro σ H' ⟨v2, rfl, rfl⟩
    repeat' (walk_at "rd")
    exact q
end
end Kj
namespace Kj
open PySem PySem.Spec PyProof.Rows L2 Rd
/-! ### the stepper -/
local macro_rules | `(tactic| walk_at "hp") => `(tactic| first
  | assumption
  | exact upd_same
  | (refine Eq.trans (upd_ne (by first | assumption | (apply Ne.symm; assumption))) ?_; walk_at "hp"))
local macro_rules | `(tactic| walk_at "sq") => `(tactic| first
  | assumption
  | (refine Or.inl (Or.inl ?_); walk_at "hp"))
local macro_rules | `(tactic| walk_at "st") => `(tactic| first
  | assumption
  | (refine Or.inl (Or.inl ?_); walk_at "hp"))
local macro_rules | `(tactic| walk_at "ar") => `(tactic| first
  | assumption
  | omega
  | decide)
local macro_rules | `(tactic| walk_at "ci") => `(tactic| first
  | (refine (show CMul _ _ from Or.inr ⟨?_, ?_⟩) <;> omega)
  | (refine (show CMul _ _ from Or.inl ⟨?_, ?_⟩) <;> omega)
  | (show CPow _ _; exact ⟨by decide, by decide, by decide⟩)
  | (refine wide_div (b := 63) ?_ ?_ (by decide) (by decide) <;> omega)
  | (show (0 : Int) < _; omega))
local macro_rules | `(tactic| walk_at "ty") => `(tactic| first
  | exact dp_ty (by assumption)
  | exact TyX.base (TyOf.int _)
  | exact TyX.base (TyOf.str _)
  | exact TyX.base (TyOf.bl _)
  | exact TyX.base TyOf.non
  | exact tyL' (by walk_at "sq")
  | exact tyT' (by walk_at "st"))
local macro_rules | `(tactic| walk_at "isi") => `(tactic| first
  | ((with_reducible apply Rd.isiF); (walk_at "ty"); (decide))
  | ((with_reducible apply Rd.isiT); (walk_at "ty"); (decide)))
local macro_rules | `(tactic| walk_at "rd") => `(tactic| first
  | with_reducible apply Rd.seq
  | ((with_reducible apply Rd.var); rfl)
  | with_reducible apply Rd.con
  | with_reducible apply Rd.op
  | with_reducible apply Rd.asg
  | ((with_reducible apply Rd.gname); ((dsimp only [List.set, L2.wipe, Int.reduceToNat]) <;> rfl))
  | with_reducible apply Rd.nxt
  | with_reducible apply Rd.ifs
  | with_reducible apply Rd.test
  | with_reducible apply Rd.testB
  | with_reducible apply Rd.exbl
  | with_reducible apply Rd.ret
  | with_reducible apply Rd.drop
  | with_reducible apply Rd.retN
  | with_reducible apply Rd.nil
  | with_reducible apply Rd.cons
  | with_reducible apply Rd.call
  | with_reducible apply Rd.cb
  | with_reducible apply Rd.and
  | with_reducible apply Rd.or
  | with_reducible apply Rd.not
  | with_reducible apply Rd.andV
  | with_reducible apply Rd.orV
  | with_reducible apply Rd.notV
  | with_reducible apply Rd.ife
  | with_reducible apply Rd.tup
  | with_reducible apply Rd.lst
  | with_reducible apply Rd.un
  | with_reducible apply Rd.chain
  | with_reducible apply Rd.brk
  | with_reducible apply Rd.cnt
  | with_reducible apply Rd.I0
  | with_reducible apply Rd.U1
  | ((with_reducible apply Rd.eq); rfl)
  | ((with_reducible apply Rd.ne); rfl)
  | ((with_reducible apply Rd.I1); (walk_at "ci"))
  | with_reducible apply Rd.lc0
  | with_reducible apply Rd.ln0
  | with_reducible apply Rd.exN
  | ((with_reducible apply Rd.iteSf); (decide +kernel))
  | ((with_reducible apply Rd.iteSt); (decide +kernel))
  | ((with_reducible apply Rd.niQ); (exact Or.inl (by walk_at "sq")); (exact ⟨rfl, rfl⟩); (rfl))
  | ((with_reducible apply Rd.inQ); (exact Or.inl (by walk_at "sq")); (exact ⟨rfl, rfl⟩); (rfl))
  | with_reducible apply Rd.rn1
  | with_reducible apply Rd.in1
  | with_reducible apply Rd.sn1
  | with_reducible apply Rd.bn1
  | with_reducible apply Rd.nn1
  | with_reducible apply Rd.rn2
  | with_reducible apply Rd.in2
  | with_reducible apply Rd.sn2
  | with_reducible apply Rd.bn2
  | with_reducible apply Rd.nn2
  | with_reducible apply Rd.nt1
  | with_reducible apply Rd.nf1
  | (with_reducible refine Rd.iteI (fun _ => ?_) (fun _ => ?_))
  | (with_reducible refine Rd.iteNI (fun _ => ?_) (fun _ => ?_))
  | (with_reducible refine iteT ?_)
  | (with_reducible refine iteF ?_)
  | (with_reducible refine Rd.iteD (fun _ => ?_) (fun _ => ?_))
  | (with_reducible refine Rd.iteN (fun _ => ?_) (fun _ => ?_))
  | with_reducible apply Rd.intI
  | with_reducible apply Rd.intB
  | with_reducible apply Rd.maxQ
  | with_reducible apply Rd.minQ
  | with_reducible apply Rd.absQ
  | with_reducible apply Rd.isN
  | with_reducible apply Rd.noN
  | with_reducible apply Rd.ltZ
  | with_reducible apply Rd.bm
  | with_reducible apply Rd.bm0
  | with_reducible apply Rd.par
  | with_reducible apply Rd.expar
  | with_reducible apply Rd.exint
  | with_reducible apply Rd.ipi
  | with_reducible apply Rd.slice
  | with_reducible apply Rd.noPart
  | with_reducible apply Rd.part
  | with_reducible apply Rd.gcons
  | with_reducible apply Rd.gnil
  | with_reducible apply Rd.iseq
  | with_reducible apply Rd.irng1
  | walk_at "isi"
  | with_reducible apply Rd.forX
  | with_reducible apply Rd.lstRev
  | with_reducible apply Rd.lstRg
  | with_reducible apply Rd.rg1
  | with_reducible apply Rd.rg2
  | with_reducible apply Rd.exint2
  | ((with_reducible apply Rd.exrev); (walk_at "sq"))
  | with_reducible apply Rd.lcX
  | with_reducible apply Rd.yes
  | ((with_reducible apply Rd.exrng1); (constructor <;> omega))
  | ((with_reducible apply Rd.exrng2); (refine ⟨?_, ?_, ?_, ?_⟩ <;> omega))
  | with_reducible apply Rd.irng2
  | ((with_reducible apply Rd.aug); rfl)
  | ((with_reducible apply Rd.exlst); (walk_at "sq"))
  | ((with_reducible apply Rd.gtup); (walk_at "st"); (rfl))
  | ((with_reducible apply Rd.tyL); (walk_at "hp"))
  | ((with_reducible apply Rd.ixL); (walk_at "sq"); (rfl))
  | ((with_reducible apply Rd.ixI); (walk_at "sq"); (omega); (first | assumption | (simp only [List.length_map]; omega)); (intro _ _))
  | (with_reducible refine Rd.gsub ?_)
  | ((with_reducible apply Rd.setL); (walk_at "hp"); (rfl); ((dsimp only [List.set, L2.wipe, Int.reduceToNat]) <;> rfl))
  | ((with_reducible apply Rd.lenQ); (first | exact Or.inl (by walk_at "sq") | exact Or.inr (by walk_at "st")))
  | ((with_reducible apply Rd.listQ); (first | exact Or.inl (by walk_at "sq") | exact Or.inr (by walk_at "st")))
  | ((with_reducible apply Rd.tupQ); (walk_at "sq"))
  | ((with_reducible apply Rd.slL); (walk_at "sq"))
  | ((with_reducible apply Rd.ixT); (walk_at "st"); (rfl))
  | (with_reducible refine Rd.iteB (fun _ => ?_) (fun _ => ?_))
  | (with_reducible refine Rd.iteNB (fun _ => ?_) (fun _ => ?_))
  | (refine Rd.andI (Nat.le_of_ble_eq_true rfl) ?_)
  | dsimp only [List.set])
local macro_rules | `(tactic| walk_at "hp") => `(tactic| first
  | assumption
  | exact upd_same
  | (refine Eq.trans (upd_ne (by first | assumption | (apply Ne.symm; assumption))) ?_; walk_at "hp")
  | (refine hpS (by assumption) ?_; walk_at "hp"))
local macro_rules | `(tactic| walk_at "al") => `(tactic| (with_reducible intro l hl; generalize hG : upd _ l _ = G; have hs := newOne hl hG; clear hG; obtain ⟨hs, he⟩ := hs))
local macro_rules | `(tactic| walk_at "rd") => `(tactic| first
  | walk_at "al"
  | ((with_reducible apply Rd.cat); (walk_at "hp"); (walk_at "hp"); (exact Nat.le_of_ble_eq_true rfl)))
local macro_rules | `(tactic| walk_at "sm") => `(tactic| first
  | assumption
  | exact Same.refl _
  | (refine Same.trans ?_ (by assumption); walk_at "sm"))
local macro_rules | `(tactic| walk_at "fr") => `(tactic| first
  | assumption
  | (refine Same.free (by assumption) ?_; walk_at "fr"))
local macro_rules | `(tactic| walk_at "ty") => `(tactic| first
  | exact dv_ty (by assumption)
  | exact tyD' (by walk_at "hp"))
local macro_rules | `(tactic| walk_at "ci") => `(tactic| first
  | (refine (show CMul _ _ from Or.inr ⟨?_, ?_⟩) <;> omega)
  | (refine (show CMul _ _ from Or.inl ⟨?_, ?_⟩) <;> omega)
  | (refine wide_div (b := 121) ?_ ?_ (by decide) (by decide) <;> omega))
section
variable {P : Program} {w : World} {K : PySem.W.Frag} {mg : Str → Option Value} {base : Heap}
local macro_rules | `(tactic| walk_at "km") => `(tactic| first
  | assumption
  | exact mem8 (by assumption) (by first | assumption | decide +kernel))
local macro_rules | `(tactic| walk_at "rd") => `(tactic| first
  | with_reducible apply Rd.dget
  | ((with_reducible apply Kj.dgetI); (walk_at "hp"); (walk_at "km")))
theorem sb_eq {k : Nat} {p t r : Int} (h : k ≤ 5) : p * 7 + t * 12 * (if (k : Int) > 1 then (k : Int) else 1) + r * 7 = SB k p t r := by
  unfold SB
  obtain rfl | rfl | rfl | rfl | rfl | rfl : k = 0 ∨ k = 1 ∨ k = 2 ∨ k = 3 ∨ k = 4 ∨ k = 5 := by omega
  all_goals simp <;> omega
/-- _law_sentences(n, counts) -/
def spSent : Sp := fun vs H Q _ => ∃ (n : Int) (a : Addr) (k : Nat) (f : Str → Int), vs = [.int n, .ref a] ∧ 0 ≤ n ∧ n ≤ 33 ∧ Top n k ∧ CD H a f ∧ ∀ (L : Addr) (bs : List Bool) (H' : Hp), (bs.all id = true ↔ Good n k f) → Same H H' → H' L = some (.lst (bs.map V.bl)) → Q (.ref L) H'
theorem ok__law_sentences (F : Def K mg "_law_sentences" s__law_sentences P__law_sentences) (m_max : mg "max" = none) (m_range : mg "range" = none) (m_sorted : mg "sorted" = none) (m_list : mg "list" = none) (C__law_double : Cal P w K mg base 1 "_law_double" P__law_double spDouble) : Cal P w K mg base 2 "_law_sentences" P__law_sentences spSent := by
  refine F.ok sc__law_sentences (fun vs H Q E h => ?_) (fun f cdv A outer s H vs Q E hr h => ?_)
  · obtain ⟨n, a, k, f, rfl, _⟩ := h
    rfl
  obtain ⟨n, a, k, f, rfl, h0, h1, hk, ⟨ks, pm, hc⟩, q⟩ := h
  refine ⟨_, (pss_cons (ps_set (i := 2) sc__law_sentences.nd rfl (Or.inl rfl) (pe_callB (q_maxLK (K := K) rfl rfl) (by rfl) m_max bb_max (pa_cons (pe_lc (own := [("k", 7)]) (by rfl) sc__law_sentences.nd (pi_range1 (by rfl) m_range (pa_cons pe_int pa_nil)) (blkOk_by (N := N__law_sentences) (sc := defScope s__law_sentences) (by decide +kernel)) (fun _ _ _ _ _ => (pg_name (i := 7) sc__law_sentences.nd rfl (Or.inl rfl))) (fun _ _ _ _ _ => (pts_one (PW.pt (pw_or (pt_cmpR op_eq (pv 7 (hd := nd_k) (hcd := nc_k)) pe_int (nomark _)) (pw_or1 (pt_cmpR op_le (pe_op op_mul pe_int (pe_cal C__law_double hr (pa_cons (pe_op op_sub (pv 7 (hd := nd_k) (hcd := nc_k)) pe_int) pa_nil) (hdb := nd__law_double))) (pv 0 (hd := nd_count) (hcd := nc_count)) (nomark _))))))) (fun _ _ _ _ _ => (pv 7 (hd := nd_k) (hcd := nc_k)))) pa_nil) (hn := nn_max) (hdb := nd_max)))
  (pss_cons (ps_set (i := 3) sc__law_sentences.nd rfl (Or.inl rfl) (pe_op op_mul (pe_dget (un1 hr) (pv 1 (hd := nd_counts) (hcd := nc_counts)) pe_str (fun _ _ => rfl)) (pe_callB (q_max rfl) (by rfl) m_max bb_max (pa_cons pe_int (pa_cons (pe_op op_sub (pv 2 (hd := nd_highest) (hcd := nc_highest)) pe_int) pa_nil)) (hn := nn_max) (hdb := nd_max))))
  (pss_cons (ps_set (i := 4) sc__law_sentences.nd rfl (Or.inl rfl) (pe_op op_add (pe_op op_add (pe_op op_mul (pe_dget (un1 hr) (pv 1 (hd := nd_counts) (hcd := nc_counts)) pe_str (fun _ _ => rfl)) pe_int) (pe_op op_mul (pe_op op_mul (pe_dget (un1 hr) (pv 1 (hd := nd_counts) (hcd := nc_counts)) pe_str (fun _ _ => rfl)) pe_int) (pe_callB (q_max rfl) (by rfl) m_max bb_max (pa_cons pe_int (pa_cons (pv 2 (hd := nd_highest) (hcd := nc_highest)) pa_nil)) (hn := nn_max) (hdb := nd_max)))) (pe_op op_mul (pe_dget (un1 hr) (pv 1 (hd := nd_counts) (hcd := nc_counts)) pe_str (fun _ _ => rfl)) pe_int)))
  (pss_cons (ps_setLc (i := 5) (own := [("key", 6)]) (by rfl) sc__law_sentences.nd rfl rfl (sw_true rfl rfl rfl (by decide +kernel)) (pi_list (pe_callB (q_sortedSK (K := K) rfl) (by rfl) m_sorted bb_sorted (pa_cons (pe_callTy (q_listDk rfl) (by rfl) m_list bb_list (pa_cons (pv 1 (hd := nd_counts) (hcd := nc_counts)) pa_nil) (hn := nn_list) (hdb := nd_list)) pa_nil) (hn := nn_sorted) (hdb := nd_sorted))) (blkOk_by (N := N__law_sentences) (sc := defScope s__law_sentences) (by decide +kernel)) (fun _ _ _ _ _ => (pg_name (i := 6) sc__law_sentences.nd rfl (Or.inl rfl))) (fun _ _ _ _ _ => pts_nil) (fun _ _ _ _ _ => (pe_cmpR op_ge (pe_dget (un1 hr) (pv 1 (hd := nd_counts) (hcd := nc_counts)) (pv 6 (hd := nd_key) (hcd := nc_key)) (fun _ _ => rfl)) pe_int (nomark _))))
  (pss_cons (ps_set (i := 5) sc__law_sentences.nd rfl (Or.inl rfl) (pe_op op_cat (pv 5 (hd := nd_row) (hcd := nc_row)) (pe_lst (pa_cons (pe_cmpR op_le (pe_dget (un1 hr) (pv 1 (hd := nd_counts) (hcd := nc_counts)) pe_str (fun _ _ => rfl)) (pe_dget (un1 hr) (pv 1 (hd := nd_counts) (hcd := nc_counts)) pe_str (fun _ _ => rfl)) (nomark _)) (pa_cons (pe_cmpR op_le (pe_dget (un1 hr) (pv 1 (hd := nd_counts) (hcd := nc_counts)) pe_str (fun _ _ => rfl)) (pe_dget (un1 hr) (pv 1 (hd := nd_counts) (hcd := nc_counts)) pe_str (fun _ _ => rfl)) (nomark _)) pa_nil)))))
  (pss_cons (ps_set (i := 5) sc__law_sentences.nd rfl (Or.inl rfl) (pe_op op_cat (pv 5 (hd := nd_row) (hcd := nc_row)) (pe_lst (pa_cons (pe_cmpR op_le (pe_op op_add (pe_dget (un1 hr) (pv 1 (hd := nd_counts) (hcd := nc_counts)) pe_str (fun _ _ => rfl)) (pe_dget (un1 hr) (pv 1 (hd := nd_counts) (hcd := nc_counts)) pe_str (fun _ _ => rfl))) (pe_dget (un1 hr) (pv 1 (hd := nd_counts) (hcd := nc_counts)) pe_str (fun _ _ => rfl)) (nomark _)) (pa_cons (pe_cmpR op_ge (pe_dget (un1 hr) (pv 1 (hd := nd_counts) (hcd := nc_counts)) pe_str (fun _ _ => rfl)) (pe_dget (un1 hr) (pv 1 (hd := nd_counts) (hcd := nc_counts)) pe_str (fun _ _ => rfl)) (nomark _)) pa_nil)))))
  (pss_cons (ps_set (i := 5) sc__law_sentences.nd rfl (Or.inl rfl) (pe_op op_cat (pv 5 (hd := nd_row) (hcd := nc_row)) (pe_lst (pa_cons (pe_cmpR op_le (pe_op op_sub (pe_dget (un1 hr) (pv 1 (hd := nd_counts) (hcd := nc_counts)) pe_str (fun _ _ => rfl)) (pe_dget (un1 hr) (pv 1 (hd := nd_counts) (hcd := nc_counts)) pe_str (fun _ _ => rfl))) (pe_callB (q_max rfl) (by rfl) m_max bb_max (pa_cons pe_int (pa_cons (pe_op op_sub (pv 0 (hd := nd_count) (hcd := nc_count)) pe_int) pa_nil)) (hn := nn_max) (hdb := nd_max)) (nomark _)) (pa_cons (pe_cmpR op_le (pe_dget (un1 hr) (pv 1 (hd := nd_counts) (hcd := nc_counts)) pe_str (fun _ _ => rfl)) (pv 3 (hd := nd_rises) (hcd := nc_rises)) (nomark _)) pa_nil)))))
  (pss_one (ps_ret (pe_op op_cat (pv 5 (hd := nd_row) (hcd := nc_row)) (pe_lst (pa_cons (pe_cmpR op_le (pe_op op_add (pe_dget (un1 hr) (pv 1 (hd := nd_counts) (hcd := nc_counts)) pe_str (fun _ _ => rfl)) (pe_dget (un1 hr) (pv 1 (hd := nd_counts) (hcd := nc_counts)) pe_str (fun _ _ => rfl))) (pv 4 (hd := nd_steps) (hcd := nc_steps)) (nomark _)) pa_nil)))))))))))), ?_⟩
  refine Rd.at0 (σ := [some (.int n), some (.ref a), none, none, none, none, none, none]) rfl ?_
  repeat' (walk_at "rd")
  -- H: the heap, H1: the facts of n (h0 h1 hk)
  refine lcR fun L hL => ⟨fun i h => ∃ ns : List Int, h = upd H L (.lst (ns.map V.int)) ∧ ns.length ≤ i ∧ ∀ m, m ∈ ns ↔ ∃ j : Nat, (j : Int) = m ∧ j < i ∧ (j = 0 ∨ ((2 ^ j : Nat) : Int) ≤ n), ⟨[], rfl, Nat.le_refl _, fun m => ⟨fun h => (nomatch h), fun ⟨_, _, h, _⟩ => absurd h (Nat.not_lt_zero _)⟩⟩, ?_, ?_⟩
  · rintro i h hi ⟨ns, rfl, ln, mm⟩
    have hi : i < 6 := hi
    have yes : (i = 0 ∨ ((2 ^ i : Nat) : Int) ≤ n) → ∀ m, m ∈ ns ++ [0 + (i : Int)] ↔ ∃ j : Nat, (j : Int) = m ∧ j < i + 1 ∧ (j = 0 ∨ ((2 ^ j : Nat) : Int) ≤ n) := fun y m => by
      rw [List.mem_append, mm, List.mem_singleton]
      constructor
      · rintro (⟨j, e, a, b⟩ | e)
        · exact ⟨j, e, by omega, b⟩
        · exact ⟨i, by omega, by omega, y⟩
      · rintro ⟨j, e, a, b⟩
        by_cases z : j = i
        · exact .inr (by omega)
        · exact .inl ⟨j, e, by omega, b⟩
    have no : ¬ (i = 0 ∨ ((2 ^ i : Nat) : Int) ≤ n) → ∀ m, m ∈ ns ↔ ∃ j : Nat, (j : Int) = m ∧ j < i + 1 ∧ (j = 0 ∨ ((2 ^ j : Nat) : Int) ≤ n) := fun y m => by
      rw [mm]
      constructor
      · rintro ⟨j, e, a, b⟩
        exact ⟨j, e, by omega, b⟩
      · rintro ⟨j, e, a, b⟩
        by_cases z : j = i
        · subst z
          exact absurd b y
        · exact ⟨j, e, by omega, b⟩
    refine turn1 ?_
    repeat' (walk_at "rd")
    refine ⟨rfl, ?_⟩
    repeat' (walk_at "rd")
    · refine ⟨_, upd_same, sz5' (by rw [List.length_map]; omega), ns ++ [0 + (i : Int)], ?_, ?_, yes (.inl (by omega))⟩
      · rw [upd_upd, List.map_append]
        rfl
      · rw [List.length_append]
        show ns.length + 1 ≤ i + 1
        omega
    obtain ⟨j, rfl⟩ : ∃ j, i = j + 1 := ⟨i - 1, by omega⟩
    refine ⟨j, by rw [show (0 : Int) + ((j + 1 : Nat) : Int) - 1 = (j : Int) by omega]; rfl, by omega, ?_⟩
    have e2 : ((2 ^ (j + 1) : Nat) : Int) = 2 * ((2 ^ j : Nat) : Int) := by
      rw [Nat.pow_succ]
      omega
    have b : 2 ^ j ≤ 2 ^ 5 := Nat.pow_le_pow_right (by decide) (by omega)
    have e5 : (2 : Nat) ^ 5 = 32 := by decide
    repeat' (walk_at "rd")
    · refine ⟨_, upd_same, sz5' (by rw [List.length_map]; omega), ns ++ [0 + ((j + 1 : Nat) : Int)], ?_, ?_, yes (.inr (by omega))⟩
      · rw [upd_upd, List.map_append]
        rfl
      · rw [List.length_append]
        show ns.length + 1 ≤ j + 1 + 1
        omega
    · refine ⟨ns, rfl, by omega, no ?_⟩
      rintro (z | z) <;> omega
  rintro h ⟨ns, rfl, ln, mm⟩
  repeat' (walk_at "rd")
  refine ⟨L, ns, rfl, .inl (.inl upd_same), List.length_pos_of_mem ((mm 0).mpr ⟨0, rfl, by decide, .inl rfl⟩), fun m hm hM => ?_⟩
  obtain rfl : m = (k : Int) := by
    obtain ⟨j, rfl, j6, hj⟩ := (mm m).mp hm
    have k5 := top_le hk h1
    have : (k : Int) ≤ j := hM _ ((mm _).mpr ⟨k, rfl, by omega, by
      by_cases z : n = 0
      · exact .inl (hk.1 z)
      · exact .inr (hk.2 z).1⟩)
    have : j ≤ k := by
      rcases hj with rfl | hj
      · exact Nat.zero_le _
      · apply Nat.le_of_not_lt
        intro c
        by_cases z : n = 0
        · have := p2_pos j
          omega
        · have := (hk.2 z).2
          have : 2 ^ (k + 1) ≤ 2 ^ j := Nat.pow_le_pow_right (by decide) c
          omega
    omega
  have sH := same_upd (o := .lst (ns.map V.int)) hL
  clear hM hm
  generalize upd H L (.lst (ns.map V.int)) = H1 at *
  have k5 := top_le hk h1
  have hc1 := sH _ _ hc
  repeat' (walk_at "rd")
  refine listDkd hc1 fun L2 hL2 => ?_
  have s2 := same_upd (o := .lst (ks.map V.str)) hL2
  repeat' (walk_at "rd")
  refine sortS (.inl (.inl upd_same)) (by rw [len8 pm]; decide) pm k8_sorted fun L3 hL3 => ?_
  have s3 := same_upd (o := .lst (K8.map V.str)) hL3
  have e3 : (upd (upd H1 L2 (.lst (ks.map V.str))) L3 (.lst (K8.map V.str))) L3 = some (.lst (K8.map V.str)) := upd_same
  have s13 := (sH.trans s2).trans s3
  generalize upd (upd H1 L2 (.lst (ks.map V.str))) L3 (.lst (K8.map V.str)) = H3 at *
  refine exlst (.inl (.inl e3)) ?_
  refine lcMap (K8.map V.str) (fun v => match v with | .str z => .bl (decide (0 ≤ f z)) | _ => .non) (.inl (.inl e3)) (by decide) (fun i x L4 G out Nx hx sG eL lo nx => ?_) (fun L4 G nL4 sG eL => ?_)
  · rw [List.getElem?_map] at hx
    obtain ⟨z, hz, rfl⟩ := Option.map_eq_some_iff.mp hx
    have hz := List.mem_of_getElem? hz
    have hcG := sG _ _ (s13 _ _ hc)
    refine turn1 ?_
    repeat' (walk_at "rd")
    refine ⟨rfl, ?_⟩
    repeat' (walk_at "rd")
    exact ⟨_, eL, lo, nx⟩
  have sG' := s13.trans sG
  have hc := sG' _ _ hc
  rw [List.map_map] at eL
  repeat' (walk_at "rd")
  rename_i l hl G' hs he
  refine q l ((K8.map fun z => decide (0 ≤ f z)) ++ [decide (f "takes" ≤ f "puts"), decide (f "joined" ≤ f "puts")] ++ [decide (f "found" + f "parted" ≤ f "takes"), decide (f "parted" ≤ f "joined")] ++
    [decide (f "joined" - f "parted" ≤ if n - 1 > 0 then n - 1 else 0), decide (f "rises" ≤ f "puts" * if (k : Int) - 1 > 0 then (k : Int) - 1 else 0)] ++ [decide (f "cuts" + f "splices" ≤ f "puts" * 7 + f "takes" * 12 * (if (k : Int) > 1 then (k : Int) else 1) + f "rises" * 7)]) _ ?_ (by walk_at "sm") ?_
  · rw [sb_eq k5]
    simp only [List.all_append, List.all_cons, List.all_nil, Bool.and_eq_true, Bool.and_true, id, decide_eq_true_eq, List.all_map, List.all_eq_true, Function.comp]
    unfold Good RB
    constructor
    · rintro ⟨⟨⟨⟨a1, a2, a3⟩, a4, a5⟩, a6, a7⟩, a8⟩
      exact ⟨a1, a2, a3, a4, a5, a6, a7, a8⟩
    · rintro ⟨a1, a2, a3, a4, a5, a6, a7, a8⟩
      exact ⟨⟨⟨⟨a1, a2, a3⟩, a4, a5⟩, a6, a7⟩, a8⟩
  · refine he.trans ?_
    simp only [List.map_append, List.map_map]
    rfl
end
end Kj
namespace Kj
open PySem PySem.Spec PyProof.Rows L2 Rd
/-! ### the stepper -/
local macro_rules | `(tactic| walk_at "hp") => `(tactic| first
  | assumption
  | exact upd_same
  | (refine Eq.trans (upd_ne (by first | assumption | (apply Ne.symm; assumption))) ?_; walk_at "hp"))
local macro_rules | `(tactic| walk_at "sq") => `(tactic| first
  | assumption
  | (refine Or.inl (Or.inl ?_); walk_at "hp"))
local macro_rules | `(tactic| walk_at "st") => `(tactic| first
  | assumption
  | (refine Or.inl (Or.inl ?_); walk_at "hp"))
local macro_rules | `(tactic| walk_at "ar") => `(tactic| first
  | assumption
  | omega
  | decide)
local macro_rules | `(tactic| walk_at "ci") => `(tactic| first
  | (refine (show CMul _ _ from Or.inr ⟨?_, ?_⟩) <;> omega)
  | (refine (show CMul _ _ from Or.inl ⟨?_, ?_⟩) <;> omega)
  | (show CPow _ _; exact ⟨by decide, by decide, by decide⟩)
  | (refine wide_div (b := 63) ?_ ?_ (by decide) (by decide) <;> omega)
  | (show (0 : Int) < _; omega))
local macro_rules | `(tactic| walk_at "ty") => `(tactic| first
  | exact dp_ty (by assumption)
  | exact TyX.base (TyOf.int _)
  | exact TyX.base (TyOf.str _)
  | exact TyX.base (TyOf.bl _)
  | exact TyX.base TyOf.non
  | exact tyL' (by walk_at "sq")
  | exact tyT' (by walk_at "st"))
local macro_rules | `(tactic| walk_at "isi") => `(tactic| first
  | ((with_reducible apply Rd.isiF); (walk_at "ty"); (decide))
  | ((with_reducible apply Rd.isiT); (walk_at "ty"); (decide)))
local macro_rules | `(tactic| walk_at "rd") => `(tactic| first
  | with_reducible apply Rd.seq
  | ((with_reducible apply Rd.var); rfl)
  | with_reducible apply Rd.con
  | with_reducible apply Rd.op
  | with_reducible apply Rd.asg
  | ((with_reducible apply Rd.gname); ((dsimp only [List.set, L2.wipe, Int.reduceToNat]) <;> rfl))
  | with_reducible apply Rd.nxt
  | with_reducible apply Rd.ifs
  | with_reducible apply Rd.test
  | with_reducible apply Rd.testB
  | with_reducible apply Rd.exbl
  | with_reducible apply Rd.ret
  | with_reducible apply Rd.drop
  | with_reducible apply Rd.retN
  | with_reducible apply Rd.nil
  | with_reducible apply Rd.cons
  | with_reducible apply Rd.call
  | with_reducible apply Rd.cb
  | with_reducible apply Rd.and
  | with_reducible apply Rd.or
  | with_reducible apply Rd.not
  | with_reducible apply Rd.andV
  | with_reducible apply Rd.orV
  | with_reducible apply Rd.notV
  | with_reducible apply Rd.ife
  | with_reducible apply Rd.tup
  | with_reducible apply Rd.lst
  | with_reducible apply Rd.un
  | with_reducible apply Rd.chain
  | with_reducible apply Rd.brk
  | with_reducible apply Rd.cnt
  | with_reducible apply Rd.I0
  | with_reducible apply Rd.U1
  | ((with_reducible apply Rd.eq); rfl)
  | ((with_reducible apply Rd.ne); rfl)
  | ((with_reducible apply Rd.I1); (walk_at "ci"))
  | with_reducible apply Rd.lc0
  | with_reducible apply Rd.ln0
  | with_reducible apply Rd.exN
  | ((with_reducible apply Rd.iteSf); (decide +kernel))
  | ((with_reducible apply Rd.iteSt); (decide +kernel))
  | ((with_reducible apply Rd.niQ); (exact Or.inl (by walk_at "sq")); (exact ⟨rfl, rfl⟩); (rfl))
  | ((with_reducible apply Rd.inQ); (exact Or.inl (by walk_at "sq")); (exact ⟨rfl, rfl⟩); (rfl))
  | with_reducible apply Rd.rn1
  | with_reducible apply Rd.in1
  | with_reducible apply Rd.sn1
  | with_reducible apply Rd.bn1
  | with_reducible apply Rd.nn1
  | with_reducible apply Rd.rn2
  | with_reducible apply Rd.in2
  | with_reducible apply Rd.sn2
  | with_reducible apply Rd.bn2
  | with_reducible apply Rd.nn2
  | with_reducible apply Rd.nt1
  | with_reducible apply Rd.nf1
  | (with_reducible refine Rd.iteI (fun _ => ?_) (fun _ => ?_))
  | (with_reducible refine Rd.iteNI (fun _ => ?_) (fun _ => ?_))
  | (with_reducible refine iteT ?_)
  | (with_reducible refine iteF ?_)
  | (with_reducible refine Rd.iteD (fun _ => ?_) (fun _ => ?_))
  | (with_reducible refine Rd.iteN (fun _ => ?_) (fun _ => ?_))
  | with_reducible apply Rd.intI
  | with_reducible apply Rd.intB
  | with_reducible apply Rd.maxQ
  | with_reducible apply Rd.minQ
  | with_reducible apply Rd.absQ
  | with_reducible apply Rd.isN
  | with_reducible apply Rd.noN
  | with_reducible apply Rd.ltZ
  | with_reducible apply Rd.bm
  | with_reducible apply Rd.bm0
  | with_reducible apply Rd.par
  | with_reducible apply Rd.expar
  | with_reducible apply Rd.exint
  | with_reducible apply Rd.ipi
  | with_reducible apply Rd.slice
  | with_reducible apply Rd.noPart
  | with_reducible apply Rd.part
  | with_reducible apply Rd.gcons
  | with_reducible apply Rd.gnil
  | with_reducible apply Rd.iseq
  | with_reducible apply Rd.irng1
  | walk_at "isi"
  | with_reducible apply Rd.forX
  | with_reducible apply Rd.lstRev
  | with_reducible apply Rd.lstRg
  | with_reducible apply Rd.rg1
  | with_reducible apply Rd.rg2
  | with_reducible apply Rd.exint2
  | ((with_reducible apply Rd.exrev); (walk_at "sq"))
  | with_reducible apply Rd.lcX
  | with_reducible apply Rd.yes
  | ((with_reducible apply Rd.exrng1); (constructor <;> omega))
  | ((with_reducible apply Rd.exrng2); (refine ⟨?_, ?_, ?_, ?_⟩ <;> omega))
  | with_reducible apply Rd.irng2
  | ((with_reducible apply Rd.aug); rfl)
  | ((with_reducible apply Rd.exlst); (walk_at "sq"))
  | ((with_reducible apply Rd.gtup); (walk_at "st"); (rfl))
  | ((with_reducible apply Rd.tyL); (walk_at "hp"))
  | ((with_reducible apply Rd.ixL); (walk_at "sq"); (rfl))
  | ((with_reducible apply Rd.ixI); (walk_at "sq"); (omega); (first | assumption | (simp only [List.length_map]; omega)); (intro _ _))
  | (with_reducible refine Rd.gsub ?_)
  | ((with_reducible apply Rd.setL); (walk_at "hp"); (rfl); ((dsimp only [List.set, L2.wipe, Int.reduceToNat]) <;> rfl))
  | ((with_reducible apply Rd.lenQ); (first | exact Or.inl (by walk_at "sq") | exact Or.inr (by walk_at "st")))
  | ((with_reducible apply Rd.listQ); (first | exact Or.inl (by walk_at "sq") | exact Or.inr (by walk_at "st")))
  | ((with_reducible apply Rd.tupQ); (walk_at "sq"))
  | ((with_reducible apply Rd.slL); (walk_at "sq"))
  | ((with_reducible apply Rd.ixT); (walk_at "st"); (rfl))
  | (with_reducible refine Rd.iteB (fun _ => ?_) (fun _ => ?_))
  | (with_reducible refine Rd.iteNB (fun _ => ?_) (fun _ => ?_))
  | (refine Rd.andI (Nat.le_of_ble_eq_true rfl) ?_)
  | dsimp only [List.set])
local macro_rules | `(tactic| walk_at "hp") => `(tactic| first
  | assumption
  | exact upd_same
  | (refine Eq.trans (upd_ne (by first | assumption | (apply Ne.symm; assumption))) ?_; walk_at "hp")
  | (refine hpS (by assumption) ?_; walk_at "hp"))
local macro_rules | `(tactic| walk_at "al") => `(tactic| (with_reducible intro l hl; generalize hG : upd _ l _ = G; have hs := newOne hl hG; clear hG; obtain ⟨hs, he⟩ := hs))
local macro_rules | `(tactic| walk_at "rd") => `(tactic| first
  | walk_at "al"
  | ((with_reducible apply Rd.cat); (walk_at "hp"); (walk_at "hp"); (exact Nat.le_of_ble_eq_true rfl)))
local macro_rules | `(tactic| walk_at "sm") => `(tactic| first
  | assumption
  | exact Same.refl _
  | (refine Same.trans ?_ (by assumption); walk_at "sm"))
local macro_rules | `(tactic| walk_at "fr") => `(tactic| first
  | assumption
  | (refine Same.free (by assumption) ?_; walk_at "fr"))
local macro_rules | `(tactic| walk_at "ty") => `(tactic| first
  | exact dv_ty (by assumption)
  | exact tyD' (by walk_at "hp"))
local macro_rules | `(tactic| walk_at "ci") => `(tactic| first
  | (refine (show CMul _ _ from Or.inr ⟨?_, ?_⟩) <;> omega)
  | (refine (show CMul _ _ from Or.inl ⟨?_, ?_⟩) <;> omega)
  | (refine wide_div (b := 121) ?_ ?_ (by decide) (by decide) <;> omega))
section
variable {P : Program} {w : World} {K : PySem.W.Frag} {mg : Str → Option Value} {base : Heap}
def K6 : List Str := ["puts", "takes", "rises", "found", "joined", "parted"]
def K2 : List Str := ["cuts", "splices"]
theorem k62 : (K6 ++ K2).Perm K8 := by decide +kernel
theorem k6n : K6.Nodup := by decide +kernel
theorem k2n : K2.Nodup := by decide +kernel
theorem k26 : ∀ z ∈ K2, z ∉ K6 := by decide +kernel
/-- the counts of these names -/
def cf (a b c d e f g h : Int) : Str → Int := fun z => if z = "puts" then a else if z = "takes" then b else if z = "rises" then c else if z = "found" then d else if z = "joined" then e else if z = "parted" then f else if z = "cuts" then g else h
section
variable (a b c d e f g h : Int)
theorem cf1 : cf a b c d e f g h "puts" = a := rfl
theorem cf2 : cf a b c d e f g h "takes" = b := by
  unfold cf
  rw [if_neg (by decide +kernel), if_pos rfl]
theorem cf3 : cf a b c d e f g h "rises" = c := by
  unfold cf
  rw [if_neg (by decide +kernel), if_neg (by decide +kernel), if_pos rfl]
theorem cf4 : cf a b c d e f g h "found" = d := by
  unfold cf
  rw [if_neg (by decide +kernel), if_neg (by decide +kernel), if_neg (by decide +kernel), if_pos rfl]
theorem cf5 : cf a b c d e f g h "joined" = e := by
  unfold cf
  rw [if_neg (by decide +kernel), if_neg (by decide +kernel), if_neg (by decide +kernel), if_neg (by decide +kernel), if_pos rfl]
theorem cf6 : cf a b c d e f g h "parted" = f := by
  unfold cf
  rw [if_neg (by decide +kernel), if_neg (by decide +kernel), if_neg (by decide +kernel), if_neg (by decide +kernel), if_neg (by decide +kernel), if_pos rfl]
theorem cf7 : cf a b c d e f g h "cuts" = g := by
  unfold cf
  rw [if_neg (by decide +kernel), if_neg (by decide +kernel), if_neg (by decide +kernel), if_neg (by decide +kernel), if_neg (by decide +kernel), if_neg (by decide +kernel), if_pos rfl]
theorem cf8 : cf a b c d e f g h "splices" = h := by
  unfold cf
  rw [if_neg (by decide +kernel), if_neg (by decide +kernel), if_neg (by decide +kernel), if_neg (by decide +kernel), if_neg (by decide +kernel), if_neg (by decide +kernel), if_neg (by decide +kernel)]
theorem kd6 : kd K6 (fun z => .int (cf a b c d e f g h z)) = [(.inr "puts", .int a), (.inr "takes", .int b), (.inr "rises", .int c), (.inr "found", .int d), (.inr "joined", .int e), (.inr "parted", .int f)] := by
  unfold kd K6
  simp only [List.map_cons, List.map_nil, cf1, cf2, cf3, cf4, cf5, cf6]
theorem kd2 : kd K2 (fun z => .int (cf a b c d e f g h z)) = [(.inr "cuts", .int g), (.inr "splices", .int h)] := by
  unfold kd K2
  simp only [List.map_cons, List.map_nil, cf7, cf8]
end
theorem disp {trs : List (TE × TE)} {σ : L2.St} {H : Hp} {Q : VK} (h : ∀ p, H p = none → tPairs trs σ (upd H p (.dK [])) fun ps H2 => H2 p = some (.dK []) ∧ ∃ kvs : List (Key × V), ps = kvs.map (fun kv => (kV kv.1, kv.2)) ∧ kvs.length ≤ 15 ∧ Q (.ref p) (upd H2 p (.dK (mergeK [] kvs)))) : tDisp trs σ H Q := h
theorem merge0 {ls : List Str} {f : Str → V} (n : ls.Nodup) : mergeK [] (kd ls f) = kd ls f := merge_kd (ks := []) n (fun _ _ h => nomatch h)
/-- good counts -/
def spGood : Sp := fun vs H Q _ => ∃ (st c : Addr) (n : Int) (k : Nat), vs = [.ref st, .int n] ∧ StoreAt H st c ∧ 0 ≤ n ∧ n ≤ 33 ∧ Top n k ∧ ∀ (a : Addr) (f : Str → Int) (H' : Hp), Good n k f → CD H' a f → H a = none → Go st c H H' → Q (.ref a) H'
theorem pairsN {σ : L2.St} {H : Hp} {P : List (V × V) → Hp → Prop} (h : P [] H) : tPairs [] σ H P := h
theorem pairsC {a b : TE} {r : List (TE × TE)} {σ : L2.St} {H : Hp} {P : List (V × V) → Hp → Prop} (h : a σ H fun x H1 => b σ H1 fun y H2 => tPairs r σ H2 fun ps H3 => P ((x, y) :: ps) H3) : tPairs ((a, b) :: r) σ H P := h
theorem tyDx {K : PySem.W.Frag} {H : Hp} {p : Addr} {kvs : List (Key × V)} {B : Prop} (h : H p = some (.dK kvs)) (g : B) : tyV K "dict" (.ref p) H ∧ B := ⟨.inr (.inr (.inl ⟨rfl, .inl ⟨_, h⟩⟩)), g⟩
theorem permS {ys : List V} {zs : List Str} (p : ys.Perm (zs.map V.str)) : ∃ ks : List Str, ys = ks.map V.str ∧ ks.Perm zs := by
  refine ⟨ys.map fun v => match v with | .str z => z | _ => "", ?_, ?_⟩
  · rw [List.map_map]
    conv => lhs; rw [← List.map_id ys]
    refine List.map_congr_left fun y hy => ?_
    obtain ⟨z, _, rfl⟩ := List.mem_map.mp (p.mem_iff.mp hy)
    rfl
  · have := p.map fun v => match v with | .str z => z | _ => ""
    rw [List.map_map] at this
    simpa [Function.comp_def] using this
theorem dnewX {σ : L2.St} {H : Hp} {Q : VK} (h : ∀ p, H p = none → Q (.ref p) (upd H p (.dK []))) : tDNewK σ H Q := h
local macro_rules | `(tactic| walk_at "rd") => `(tactic| first
  | with_reducible apply Kj.dnewX
  | with_reducible apply Kj.pairsN
  | with_reducible apply Rd.dget
  | with_reducible apply Kj.pairsC
  | ((with_reducible apply Kj.tyDx); (walk_at "hp")))
theorem ok__law_good_counts (F : Def K mg "_law_good_counts" s__law_good_counts P__law_good_counts) (m_min : mg "min" = none) (m_max : mg "max" = none) (m_range : mg "range" = none) (m_sorted : mg "sorted" = none) (m_list : mg "list" = none) (C__law_shuffled : Cal P w K mg base 2 "_law_shuffled" P__law_shuffled (spShuffled K)) (C__law_number : Cal P w K mg base 2 "_law_number" P__law_number spNumber) (C__law_up_to : Cal P w K mg base 2 "_law_up_to" P__law_up_to spUpTo) (C__law_double : Cal P w K mg base 1 "_law_double" P__law_double spDouble) : Cal P w K mg base 3 "_law_good_counts" P__law_good_counts spGood := by
  refine F.ok sc__law_good_counts (fun vs H Q E h => ?_) (fun f cdv A outer s H vs Q E hr h => ?_)
  · obtain ⟨st, c, n, k, rfl, _⟩ := h
    rfl
  obtain ⟨st, c, n, k, rfl, hs, h0, h1, hk, q⟩ := h
  refine ⟨_, (pss_cons (ps_set (i := 2) sc__law_good_counts.nd rfl (Or.inl rfl) (pe_cal C__law_number hr (pa_cons (pv 0 (hd := nd_store) (hcd := nc_store)) pa_nil) (hdb := nd__law_number)))
  (pss_cons (ps_set (i := 3) sc__law_good_counts.nd rfl (Or.inl rfl) (pe_cal C__law_up_to hr (pa_cons (pv 0 (hd := nd_store) (hcd := nc_store)) (pa_cons (pv 2 (hd := nd_puts) (hcd := nc_puts)) pa_nil)) (hdb := nd__law_up_to)))
  (pss_cons (ps_set (i := 4) sc__law_good_counts.nd rfl (Or.inl rfl) (pe_cal C__law_up_to hr (pa_cons (pv 0 (hd := nd_store) (hcd := nc_store)) (pa_cons (pv 3 (hd := nd_takes) (hcd := nc_takes)) pa_nil)) (hdb := nd__law_up_to)))
  (pss_cons (ps_set (i := 5) sc__law_good_counts.nd rfl (Or.inl rfl) (pe_cal C__law_up_to hr (pa_cons (pv 0 (hd := nd_store) (hcd := nc_store)) (pa_cons (pe_op op_sub (pv 3 (hd := nd_takes) (hcd := nc_takes)) (pv 4 (hd := nd_found) (hcd := nc_found))) pa_nil)) (hdb := nd__law_up_to)))
  (pss_cons (ps_set (i := 6) sc__law_good_counts.nd rfl (Or.inl rfl) (pe_callB (q_min rfl) (by rfl) m_min bb_min (pa_cons (pv 2 (hd := nd_puts) (hcd := nc_puts)) (pa_cons (pe_op op_add (pv 5 (hd := nd_apart) (hcd := nc_apart)) (pe_cal C__law_up_to hr (pa_cons (pv 0 (hd := nd_store) (hcd := nc_store)) (pa_cons (pe_callB (q_max rfl) (by rfl) m_max bb_max (pa_cons pe_int (pa_cons (pe_op op_sub (pv 1 (hd := nd_count) (hcd := nc_count)) pe_int) pa_nil)) (hn := nn_max) (hdb := nd_max)) pa_nil)) (hdb := nd__law_up_to))) pa_nil)) (hn := nn_min) (hdb := nd_min)))
  (pss_cons (ps_set (i := 7) sc__law_good_counts.nd rfl (Or.inl rfl) (pe_callB (q_maxLK (K := K) rfl rfl) (by rfl) m_max bb_max (pa_cons (pe_lc (own := [("k", 14)]) (by rfl) sc__law_good_counts.nd (pi_range1 (by rfl) m_range (pa_cons pe_int pa_nil)) (blkOk_by (N := N__law_good_counts) (sc := defScope s__law_good_counts) (by decide +kernel)) (fun _ _ _ _ _ => (pg_name (i := 14) sc__law_good_counts.nd rfl (Or.inl rfl))) (fun _ _ _ _ _ => (pts_one (PW.pt (pw_or (pt_cmpR op_eq (pv 14 (hd := nd_k) (hcd := nc_k)) pe_int (nomark _)) (pw_or1 (pt_cmpR op_le (pe_op op_mul pe_int (pe_cal C__law_double hr (pa_cons (pe_op op_sub (pv 14 (hd := nd_k) (hcd := nc_k)) pe_int) pa_nil) (hdb := nd__law_double))) (pv 1 (hd := nd_count) (hcd := nc_count)) (nomark _))))))) (fun _ _ _ _ _ => (pv 14 (hd := nd_k) (hcd := nc_k)))) pa_nil) (hn := nn_max) (hdb := nd_max)))
  (pss_cons (ps_set (i := 8) sc__law_good_counts.nd rfl (Or.inl rfl) (pe_cal C__law_up_to hr (pa_cons (pv 0 (hd := nd_store) (hcd := nc_store)) (pa_cons (pe_op op_mul (pv 2 (hd := nd_puts) (hcd := nc_puts)) (pe_callB (q_max rfl) (by rfl) m_max bb_max (pa_cons pe_int (pa_cons (pe_op op_sub (pv 7 (hd := nd_highest) (hcd := nc_highest)) pe_int) pa_nil)) (hn := nn_max) (hdb := nd_max))) pa_nil)) (hdb := nd__law_up_to)))
  (pss_cons (ps_set (i := 9) sc__law_good_counts.nd rfl (Or.inl rfl) (pe_cal C__law_up_to hr (pa_cons (pv 0 (hd := nd_store) (hcd := nc_store)) (pa_cons (pe_op op_add (pe_op op_add (pe_op op_mul (pv 2 (hd := nd_puts) (hcd := nc_puts)) pe_int) (pe_op op_mul (pe_op op_mul (pv 3 (hd := nd_takes) (hcd := nc_takes)) pe_int) (pe_callB (q_max rfl) (by rfl) m_max bb_max (pa_cons pe_int (pa_cons (pv 7 (hd := nd_highest) (hcd := nc_highest)) pa_nil)) (hn := nn_max) (hdb := nd_max)))) (pe_op op_mul (pv 8 (hd := nd_rises) (hcd := nc_rises)) pe_int)) pa_nil)) (hdb := nd__law_up_to)))
  (pss_cons (ps_set (i := 10) sc__law_good_counts.nd rfl (Or.inl rfl) (pe_cal C__law_up_to hr (pa_cons (pv 0 (hd := nd_store) (hcd := nc_store)) (pa_cons (pv 9 (hd := nd_steps) (hcd := nc_steps)) pa_nil)) (hdb := nd__law_up_to)))
  (pss_cons (ps_set (i := 11) sc__law_good_counts.nd rfl (Or.inl rfl) (pe_disp (pps_cons pe_str (pv 2 (hd := nd_puts) (hcd := nc_puts)) (pps_cons pe_str (pv 3 (hd := nd_takes) (hcd := nc_takes)) (pps_cons pe_str (pv 8 (hd := nd_rises) (hcd := nc_rises)) (pps_cons pe_str (pv 4 (hd := nd_found) (hcd := nc_found)) (pps_cons pe_str (pv 6 (hd := nd_joined) (hcd := nc_joined)) (pps_cons pe_str (pv 5 (hd := nd_apart) (hcd := nc_apart)) pps_nil)))))) (by rfl) (by rfl) (by intro z; cases z) (by decide)))
  (pss_cons (ps_expr (pe_bm PySem.F.plainAttrs_dict PySem.F.slot_dict_update PySem.F.type_dict_update mt_dict_update (pv 11 (hd := nd_due) (hcd := nc_due)) (pa_cons (pe_disp (pps_cons pe_str (pv 10 (hd := nd_cuts) (hcd := nc_cuts)) (pps_cons pe_str (pe_op op_sub (pv 9 (hd := nd_steps) (hcd := nc_steps)) (pv 10 (hd := nd_cuts) (hcd := nc_cuts))) pps_nil)) (by rfl) (by rfl) (by intro z; cases z) (by decide)) pa_nil)))
  (pss_cons (ps_set (i := 12) sc__law_good_counts.nd rfl (Or.inl rfl) pe_dnewK)
  (pss_cons (ps_for PassesOwn.never rfl (pi_list (pe_cal C__law_shuffled hr (pa_cons (pv 0 (hd := nd_store) (hcd := nc_store)) (pa_cons (pe_callB (q_sortedSK (K := K) rfl) (by rfl) m_sorted bb_sorted (pa_cons (pe_callTy (q_listDk rfl) (by rfl) m_list bb_list (pa_cons (pv 11 (hd := nd_due) (hcd := nc_due)) pa_nil) (hn := nn_list) (hdb := nd_list)) pa_nil) (hn := nn_sorted) (hdb := nd_sorted)) pa_nil)) (hdb := nd__law_shuffled))) (pg_name (i := 13) sc__law_good_counts.nd rfl (Or.inl rfl)) (pss_one (ps_asg (pe_dget (un1 hr) (pv 11 (hd := nd_due) (hcd := nc_due)) (pv 13 (hd := nd_key) (hcd := nc_key)) (fun _ _ => rfl)) (pg_sub (pv 12 (hd := nd_counts) (hcd := nc_counts)) (pv 13 (hd := nd_key) (hcd := nc_key)) (set_dict (un1 hr))))))
  (pss_one (ps_ret (pv 12 (hd := nd_counts) (hcd := nc_counts))))))))))))))))), ?_⟩
  refine Rd.at0 (σ := [some (.ref st), some (.int n), none, none, none, none, none, none, none, none, none, none, none, none, none]) rfl ?_
  have k5 := top_le hk h1
  repeat' (walk_at "rd")
  refine ⟨st, c, rfl, hs, fun p H1 p0 p1 g1 => ?_⟩
  repeat' (walk_at "rd")
  refine ⟨st, c, p, rfl, g1.ok, p0, by omega, fun t H2 t0 t1 g2 => ?_⟩
  repeat' (walk_at "rd")
  refine ⟨st, c, t, rfl, g2.ok, t0, by omega, fun fo H3 fo0 fo1 g3 => ?_⟩
  repeat' (walk_at "rd")
  refine ⟨st, c, t - fo, rfl, g3.ok, by omega, by omega, fun ap H4 ap0 ap1 g4 => ?_⟩
  repeat' (walk_at "rd")
  refine ⟨st, c, _, rfl, g4.ok, by omega, by omega, fun jo H5 jo0 jo1 g5 => ?_⟩
  have g15 := (((g1.trans g2).trans g3).trans g4).trans g5
  repeat' (walk_at "rd")
  -- H5: the heap, H6: the facts of n (h0 h1 hk)
  refine lcR fun L hL => ⟨fun i h => ∃ ns : List Int, h = upd H5 L (.lst (ns.map V.int)) ∧ ns.length ≤ i ∧ ∀ m, m ∈ ns ↔ ∃ j : Nat, (j : Int) = m ∧ j < i ∧ (j = 0 ∨ ((2 ^ j : Nat) : Int) ≤ n), ⟨[], rfl, Nat.le_refl _, fun m => ⟨fun h => (nomatch h), fun ⟨_, _, h, _⟩ => absurd h (Nat.not_lt_zero _)⟩⟩, ?_, ?_⟩
  · rintro i h hi ⟨ns, rfl, ln, mm⟩
    have hi : i < 6 := hi
    have yes : (i = 0 ∨ ((2 ^ i : Nat) : Int) ≤ n) → ∀ m, m ∈ ns ++ [0 + (i : Int)] ↔ ∃ j : Nat, (j : Int) = m ∧ j < i + 1 ∧ (j = 0 ∨ ((2 ^ j : Nat) : Int) ≤ n) := fun y m => by
      rw [List.mem_append, mm, List.mem_singleton]
      constructor
      · rintro (⟨j, e, a, b⟩ | e)
        · exact ⟨j, e, by omega, b⟩
        · exact ⟨i, by omega, by omega, y⟩
      · rintro ⟨j, e, a, b⟩
        by_cases z : j = i
        · exact .inr (by omega)
        · exact .inl ⟨j, e, by omega, b⟩
    have no : ¬ (i = 0 ∨ ((2 ^ i : Nat) : Int) ≤ n) → ∀ m, m ∈ ns ↔ ∃ j : Nat, (j : Int) = m ∧ j < i + 1 ∧ (j = 0 ∨ ((2 ^ j : Nat) : Int) ≤ n) := fun y m => by
      rw [mm]
      constructor
      · rintro ⟨j, e, a, b⟩
        exact ⟨j, e, by omega, b⟩
      · rintro ⟨j, e, a, b⟩
        by_cases z : j = i
        · subst z
          exact absurd b y
        · exact ⟨j, e, by omega, b⟩
    refine turn1 ?_
    repeat' (walk_at "rd")
    refine ⟨rfl, ?_⟩
    repeat' (walk_at "rd")
    · refine ⟨_, upd_same, sz5' (by rw [List.length_map]; omega), ns ++ [0 + (i : Int)], ?_, ?_, yes (.inl (by omega))⟩
      · rw [upd_upd, List.map_append]
        rfl
      · rw [List.length_append]
        show ns.length + 1 ≤ i + 1
        omega
    obtain ⟨j, rfl⟩ : ∃ j, i = j + 1 := ⟨i - 1, by omega⟩
    refine ⟨j, by rw [show (0 : Int) + ((j + 1 : Nat) : Int) - 1 = (j : Int) by omega]; rfl, by omega, ?_⟩
    have e2 : ((2 ^ (j + 1) : Nat) : Int) = 2 * ((2 ^ j : Nat) : Int) := by
      rw [Nat.pow_succ]
      omega
    have b : 2 ^ j ≤ 2 ^ 5 := Nat.pow_le_pow_right (by decide) (by omega)
    have e5 : (2 : Nat) ^ 5 = 32 := by decide
    repeat' (walk_at "rd")
    · refine ⟨_, upd_same, sz5' (by rw [List.length_map]; omega), ns ++ [0 + ((j + 1 : Nat) : Int)], ?_, ?_, yes (.inr (by omega))⟩
      · rw [upd_upd, List.map_append]
        rfl
      · rw [List.length_append]
        show ns.length + 1 ≤ j + 1 + 1
        omega
    · refine ⟨ns, rfl, by omega, no ?_⟩
      rintro (z | z) <;> omega
  rintro h ⟨ns, rfl, ln, mm⟩
  repeat' (walk_at "rd")
  refine ⟨L, ns, rfl, .inl (.inl upd_same), List.length_pos_of_mem ((mm 0).mpr ⟨0, rfl, by decide, .inl rfl⟩), fun m hm hM => ?_⟩
  obtain rfl : m = (k : Int) := by
    obtain ⟨j, rfl, j6, hj⟩ := (mm m).mp hm
    have k5 := top_le hk h1
    have : (k : Int) ≤ j := hM _ ((mm _).mpr ⟨k, rfl, by omega, by
      by_cases z : n = 0
      · exact .inl (hk.1 z)
      · exact .inr (hk.2 z).1⟩)
    have : j ≤ k := by
      rcases hj with rfl | hj
      · exact Nat.zero_le _
      · apply Nat.le_of_not_lt
        intro c
        by_cases z : n = 0
        · have := p2_pos j
          omega
        · have := (hk.2 z).2
          have : 2 ^ (k + 1) ≤ 2 ^ j := Nat.pow_le_pow_right (by decide) c
          omega
    omega
  have sH := same_upd (o := .lst (ns.map V.int)) hL
  clear hM hm
  generalize upd H5 L (.lst (ns.map V.int)) = H6 at *
  have g16 := g15.same sH
  have rb0 : 0 ≤ RB k p := by
    unfold RB
    exact Int.mul_nonneg p0 (by omega)
  have rb1 : RB k p ≤ p * 5 := by
    unfold RB
    exact Int.mul_le_mul_of_nonneg_left (by omega) p0
  repeat' (walk_at "rd")
  refine ⟨st, c, RB k p, rfl, g16.ok, rb0, by omega, fun r H7 r0 r1 g7 => ?_⟩
  have sb0 : 0 ≤ SB k p t r ∧ SB k p t r < 10 ^ 34 := by
    unfold SB
    obtain rfl | rfl | rfl | rfl | rfl | rfl : k = 0 ∨ k = 1 ∨ k = 2 ∨ k = 3 ∨ k = 4 ∨ k = 5 := by omega
    all_goals simp <;> omega
  repeat' (walk_at "rd")
  refine ⟨st, c, SB k p t r, by rw [← sb_eq k5]; rfl, g7.ok, sb0.1, by omega, fun sp H8 sp0 sp1 g8 => ?_⟩
  repeat' (walk_at "rd")
  refine ⟨st, c, sp, rfl, g8.ok, sp0, by omega, fun cu H9 cu0 cu1 g9 => ?_⟩
  have g19 := ((g16.trans g7).trans g8).trans g9
  repeat' (walk_at "rd")
  obtain ⟨jj, hjj⟩ : ∃ jj : Int, jj = if ap + jo < p then ap + jo else p := ⟨_, rfl⟩
  rw [← hjj]
  obtain ⟨f, hf⟩ : ∃ f, f = cf p t r fo jj ap cu (sp - cu) := ⟨_, rfl⟩
  have good : Good n k f := by
    rw [hf]
    unfold Good
    rw [cf1, cf2, cf3, cf4, cf5, cf6, cf7, cf8]
    refine ⟨fun z _ => ?_, by omega, by omega, by omega, by omega, by omega, by omega, by omega⟩
    unfold cf
    repeat' split
    all_goals omega
  refine disp fun d hd => ?_
  repeat' (walk_at "rd")
  refine ⟨upd_same, kd K6 (fun z => .int (f z)), ?_, ?_, ?_⟩
  · rw [hf, kd6]
    rfl
  · rw [kd_len]
    decide
  rw [upd_upd, merge0 k6n]
  have g20 := g19.new hd (.dK (kd K6 fun z => .int (f z)))
  have ed : (upd H9 d (.dK (kd K6 fun z => .int (f z)))) d = some (.dK (kd K6 fun z => .int (f z))) := upd_same
  generalize upd H9 d (.dK (kd K6 fun z => .int (f z))) = H10 at *
  repeat' (walk_at "rd")
  refine disp fun d2 hd2 => ?_
  repeat' (walk_at "rd")
  refine ⟨upd_same, kd K2 (fun z => .int (f z)), ?_, ?_, ?_⟩
  · rw [hf, kd2]
    rfl
  · rw [kd_len]
    decide
  rw [upd_upd, merge0 k2n]
  have nd := ne_of_none ed hd2
  repeat' (walk_at "rd")
  refine updD ((upd_ne nd).trans ed) upd_same nd k2n k26 (by decide) ?_
  have g21 := (g20.new hd2 (.dK (kd K2 fun z => .int (f z)))).write (g19.free hd) (g19.ok.off hd) (.dK (kd (K6 ++ K2) fun z => .int (f z)))
  have ed2 : (upd (upd H10 d2 (.dK (kd K2 fun z => .int (f z)))) d (.dK (kd (K6 ++ K2) fun z => .int (f z)))) d = some (.dK (kd (K6 ++ K2) fun z => .int (f z))) := upd_same
  generalize upd (upd H10 d2 (.dK (kd K2 fun z => .int (f z)))) d (.dK (kd (K6 ++ K2) fun z => .int (f z))) = H11 at *
  repeat' (walk_at "rd")
  rename_i D hD H12 s12 eD
  have nD := ne_of_none ed2 hD
  have g22 := g21.same s12
  have ed3 := s12 _ _ ed2
  have eD : H12 D = some (.dK (kd ([] : List Str) fun z => .int (f z))) := eD
  have fD := g21.free hD
  have oD := g21.ok.off hD
  refine listDkd ed3 fun L1 hL1 => ?_
  repeat' (walk_at "rd")
  refine sortS (.inl (.inl upd_same)) (by decide) k62 k8_sorted fun L2 hL2 => ?_
  repeat' (walk_at "rd")
  have g24 := (g22.new hL1 (.lst ((K6 ++ K2).map V.str))).new hL2 (.lst (K8.map V.str))
  refine ⟨st, c, L2, K8.map V.str, rfl, g24.ok, .inl (.inl upd_same), by decide, fun l ys H13 pm fl g25 el => ?_⟩
  have s24 := (same_upd (o := .lst ((K6 ++ K2).map V.str)) hL1).trans (same_upd (o := .lst (K8.map V.str)) hL2)
  have od := (g21.ok.same (fun _ _ e => e))
  have ndst : d ≠ st := (g19.ok.off hd).1
  have ed4 := g25.keep _ _ ndst (s24 _ _ ed3)
  have eD4 := g25.keep _ _ oD.1 (s24 _ _ eD)
  have nl : l ≠ D := fun e => by
    rw [← e] at eD
    rw [s24 _ _ eD] at fl
    cases fl
  obtain ⟨ks, rfl, pk⟩ := permS pm
  have g26 := g24.trans g25
  repeat' (walk_at "rd")
  refine forL (ks.map V.str) (fun i σ H' => ∃ v13 : Option V, σ = [some (.ref st), some (.int n), some (.int p), some (.int t), some (.int fo), some (.int ap), some (.int jj), some (.int k), some (.int r), some (.int sp), some (.int cu), some (.ref d), some (.ref D), v13, none] ∧
    H' D = some (.dK (kd (ks.take i) fun z => .int (f z))) ∧ H' d = some (.dK (kd (K6 ++ K2) fun z => .int (f z))) ∧ H' l = some (.lst (ks.map V.str)) ∧ Go st c H H') ⟨none, rfl, eD4, ed4, el, g26⟩ (fun _ _ _ _ ⟨_, _, _, _, z, _⟩ => .inl (.inl z)) ?_ ?_
  · rintro i x σ H' hx ⟨v13, rfl, eD', ed', el', g'⟩
    rw [List.getElem?_map] at hx
    obtain ⟨z, hz, rfl⟩ := Option.map_eq_some_iff.mp hx
    have lt : i < ks.length := (List.getElem?_eq_some_iff.mp hz).1
    have l8 := len8 pk
    have mz := List.mem_of_getElem? hz
    have nz : z ∉ ks.take i := fun h => by
      have nd := pk.nodup_iff.mpr k8_nodup
      rw [← List.take_append_drop i ks] at nd
      refine (List.nodup_append.mp nd).2.2 z h z ?_ rfl
      rw [List.drop_eq_getElem_cons lt]
      rw [← (List.getElem?_eq_some_iff.mp hz).2]
      exact List.mem_cons_self
    repeat' (walk_at "rd")
    have mz' := k62.mem_iff.mpr (pk.mem_iff.mp mz)
    with_reducible apply Kj.dgetI
    · exact ed'
    · exact mz'
    repeat' (walk_at "rd")
    refine dnewK eD' nz (by rw [List.length_take]; omega) ?_
    rw [kd_congr (g := fun z => .int (f z)) (fun y _ => by
      split
      · rename_i e
        rw [e]
      · rfl), ← (show ks.take (i + 1) = ks.take i ++ [z] by rw [List.take_add_one, hz]; rfl)]
    repeat' (walk_at "rd")
    exact ⟨_, rfl, upd_same, (upd_ne nD).trans ed', (upd_ne nl).trans el', g'.write fD oD _⟩
  · rintro σ H' ⟨v13, rfl, eD', ed', el', g'⟩
    rw [List.length_map, List.take_length] at eD'
    repeat' (walk_at "rd")
    exact q D f H' good ⟨ks, pk, eD'⟩ fD g'
end
end Kj
namespace Kj
open PySem PySem.Spec PyProof.Rows L2 Rd
/-! ### the stepper -/
local macro_rules | `(tactic| walk_at "hp") => `(tactic| first
  | assumption
  | exact upd_same
  | (refine Eq.trans (upd_ne (by first | assumption | (apply Ne.symm; assumption))) ?_; walk_at "hp"))
local macro_rules | `(tactic| walk_at "sq") => `(tactic| first
  | assumption
  | (refine Or.inl (Or.inl ?_); walk_at "hp"))
local macro_rules | `(tactic| walk_at "st") => `(tactic| first
  | assumption
  | (refine Or.inl (Or.inl ?_); walk_at "hp"))
local macro_rules | `(tactic| walk_at "ar") => `(tactic| first
  | assumption
  | omega
  | decide)
local macro_rules | `(tactic| walk_at "ci") => `(tactic| first
  | (refine (show CMul _ _ from Or.inr ⟨?_, ?_⟩) <;> omega)
  | (refine (show CMul _ _ from Or.inl ⟨?_, ?_⟩) <;> omega)
  | (show CPow _ _; exact ⟨by decide, by decide, by decide⟩)
  | (refine wide_div (b := 63) ?_ ?_ (by decide) (by decide) <;> omega)
  | (show (0 : Int) < _; omega))
local macro_rules | `(tactic| walk_at "ty") => `(tactic| first
  | exact dp_ty (by assumption)
  | exact TyX.base (TyOf.int _)
  | exact TyX.base (TyOf.str _)
  | exact TyX.base (TyOf.bl _)
  | exact TyX.base TyOf.non
  | exact tyL' (by walk_at "sq")
  | exact tyT' (by walk_at "st"))
local macro_rules | `(tactic| walk_at "isi") => `(tactic| first
  | ((with_reducible apply Rd.isiF); (walk_at "ty"); (decide))
  | ((with_reducible apply Rd.isiT); (walk_at "ty"); (decide)))
local macro_rules | `(tactic| walk_at "rd") => `(tactic| first
  | with_reducible apply Rd.seq
  | ((with_reducible apply Rd.var); rfl)
  | with_reducible apply Rd.con
  | with_reducible apply Rd.op
  | with_reducible apply Rd.asg
  | ((with_reducible apply Rd.gname); ((dsimp only [List.set, L2.wipe, Int.reduceToNat]) <;> rfl))
  | with_reducible apply Rd.nxt
  | with_reducible apply Rd.ifs
  | with_reducible apply Rd.test
  | with_reducible apply Rd.testB
  | with_reducible apply Rd.exbl
  | with_reducible apply Rd.ret
  | with_reducible apply Rd.drop
  | with_reducible apply Rd.retN
  | with_reducible apply Rd.nil
  | with_reducible apply Rd.cons
  | with_reducible apply Rd.call
  | with_reducible apply Rd.cb
  | with_reducible apply Rd.and
  | with_reducible apply Rd.or
  | with_reducible apply Rd.not
  | with_reducible apply Rd.andV
  | with_reducible apply Rd.orV
  | with_reducible apply Rd.notV
  | with_reducible apply Rd.ife
  | with_reducible apply Rd.tup
  | with_reducible apply Rd.lst
  | with_reducible apply Rd.un
  | with_reducible apply Rd.chain
  | with_reducible apply Rd.brk
  | with_reducible apply Rd.cnt
  | with_reducible apply Rd.I0
  | with_reducible apply Rd.U1
  | ((with_reducible apply Rd.eq); rfl)
  | ((with_reducible apply Rd.ne); rfl)
  | ((with_reducible apply Rd.I1); (walk_at "ci"))
  | with_reducible apply Rd.lc0
  | with_reducible apply Rd.ln0
  | with_reducible apply Rd.exN
  | ((with_reducible apply Rd.iteSf); (decide +kernel))
  | ((with_reducible apply Rd.iteSt); (decide +kernel))
  | ((with_reducible apply Rd.niQ); (exact Or.inl (by walk_at "sq")); (exact ⟨rfl, rfl⟩); (rfl))
  | ((with_reducible apply Rd.inQ); (exact Or.inl (by walk_at "sq")); (exact ⟨rfl, rfl⟩); (rfl))
  | with_reducible apply Rd.rn1
  | with_reducible apply Rd.in1
  | with_reducible apply Rd.sn1
  | with_reducible apply Rd.bn1
  | with_reducible apply Rd.nn1
  | with_reducible apply Rd.rn2
  | with_reducible apply Rd.in2
  | with_reducible apply Rd.sn2
  | with_reducible apply Rd.bn2
  | with_reducible apply Rd.nn2
  | with_reducible apply Rd.nt1
  | with_reducible apply Rd.nf1
  | (with_reducible refine Rd.iteI (fun _ => ?_) (fun _ => ?_))
  | (with_reducible refine Rd.iteNI (fun _ => ?_) (fun _ => ?_))
  | (with_reducible refine iteT ?_)
  | (with_reducible refine iteF ?_)
  | (with_reducible refine Rd.iteD (fun _ => ?_) (fun _ => ?_))
  | (with_reducible refine Rd.iteN (fun _ => ?_) (fun _ => ?_))
  | with_reducible apply Rd.intI
  | with_reducible apply Rd.intB
  | with_reducible apply Rd.maxQ
  | with_reducible apply Rd.minQ
  | with_reducible apply Rd.absQ
  | with_reducible apply Rd.isN
  | with_reducible apply Rd.noN
  | with_reducible apply Rd.ltZ
  | with_reducible apply Rd.bm
  | with_reducible apply Rd.bm0
  | with_reducible apply Rd.par
  | with_reducible apply Rd.expar
  | with_reducible apply Rd.exint
  | with_reducible apply Rd.ipi
  | with_reducible apply Rd.slice
  | with_reducible apply Rd.noPart
  | with_reducible apply Rd.part
  | with_reducible apply Rd.gcons
  | with_reducible apply Rd.gnil
  | with_reducible apply Rd.iseq
  | with_reducible apply Rd.irng1
  | walk_at "isi"
  | with_reducible apply Rd.forX
  | with_reducible apply Rd.lstRev
  | with_reducible apply Rd.lstRg
  | with_reducible apply Rd.rg1
  | with_reducible apply Rd.rg2
  | with_reducible apply Rd.exint2
  | ((with_reducible apply Rd.exrev); (walk_at "sq"))
  | with_reducible apply Rd.lcX
  | with_reducible apply Rd.yes
  | ((with_reducible apply Rd.exrng1); (constructor <;> omega))
  | ((with_reducible apply Rd.exrng2); (refine ⟨?_, ?_, ?_, ?_⟩ <;> omega))
  | with_reducible apply Rd.irng2
  | ((with_reducible apply Rd.aug); rfl)
  | ((with_reducible apply Rd.exlst); (walk_at "sq"))
  | ((with_reducible apply Rd.gtup); (walk_at "st"); (rfl))
  | ((with_reducible apply Rd.tyL); (walk_at "hp"))
  | ((with_reducible apply Rd.ixL); (walk_at "sq"); (rfl))
  | ((with_reducible apply Rd.ixI); (walk_at "sq"); (omega); (first | assumption | (simp only [List.length_map]; omega)); (intro _ _))
  | (with_reducible refine Rd.gsub ?_)
  | ((with_reducible apply Rd.setL); (walk_at "hp"); (rfl); ((dsimp only [List.set, L2.wipe, Int.reduceToNat]) <;> rfl))
  | ((with_reducible apply Rd.lenQ); (first | exact Or.inl (by walk_at "sq") | exact Or.inr (by walk_at "st")))
  | ((with_reducible apply Rd.listQ); (first | exact Or.inl (by walk_at "sq") | exact Or.inr (by walk_at "st")))
  | ((with_reducible apply Rd.tupQ); (walk_at "sq"))
  | ((with_reducible apply Rd.slL); (walk_at "sq"))
  | ((with_reducible apply Rd.ixT); (walk_at "st"); (rfl))
  | (with_reducible refine Rd.iteB (fun _ => ?_) (fun _ => ?_))
  | (with_reducible refine Rd.iteNB (fun _ => ?_) (fun _ => ?_))
  | (refine Rd.andI (Nat.le_of_ble_eq_true rfl) ?_)
  | dsimp only [List.set])
local macro_rules | `(tactic| walk_at "hp") => `(tactic| first
  | assumption
  | exact upd_same
  | (refine Eq.trans (upd_ne (by first | assumption | (apply Ne.symm; assumption))) ?_; walk_at "hp")
  | (refine hpS (by assumption) ?_; walk_at "hp"))
local macro_rules | `(tactic| walk_at "al") => `(tactic| (with_reducible intro l hl; generalize hG : upd _ l _ = G; have hs := newOne hl hG; clear hG; obtain ⟨hs, he⟩ := hs))
local macro_rules | `(tactic| walk_at "rd") => `(tactic| first
  | walk_at "al"
  | ((with_reducible apply Rd.cat); (walk_at "hp"); (walk_at "hp"); (exact Nat.le_of_ble_eq_true rfl)))
local macro_rules | `(tactic| walk_at "sm") => `(tactic| first
  | assumption
  | exact Same.refl _
  | (refine Same.trans ?_ (by assumption); walk_at "sm"))
local macro_rules | `(tactic| walk_at "fr") => `(tactic| first
  | assumption
  | (refine Same.free (by assumption) ?_; walk_at "fr"))
local macro_rules | `(tactic| walk_at "ty") => `(tactic| first
  | exact dv_ty (by assumption)
  | exact tyD' (by walk_at "hp"))
local macro_rules | `(tactic| walk_at "ci") => `(tactic| first
  | (refine (show CMul _ _ from Or.inr ⟨?_, ?_⟩) <;> omega)
  | (refine (show CMul _ _ from Or.inl ⟨?_, ?_⟩) <;> omega)
  | (refine wide_div (b := 121) ?_ ?_ (by decide) (by decide) <;> omega))
section
variable {P : Program} {w : World} {K : PySem.W.Frag} {mg : Str → Option Value} {base : Heap}
local macro_rules | `(tactic| walk_at "km") => `(tactic| first
  | assumption
  | exact mem8 (by assumption) (by first | assumption | decide +kernel))
local macro_rules | `(tactic| walk_at "rd") => `(tactic| first
  | with_reducible apply Rd.dget
  | ((with_reducible apply Kj.dgetI); (walk_at "hp"); (walk_at "km")))
theorem inV_false : ∀ bs : List Bool, inV (.bl false) (bs.map V.bl) = !bs.all id
  | [] => rfl
  | b :: bs => by
    have ih := inV_false bs
    unfold inV at ih ⊢
    rw [List.map_cons, List.any_cons, List.all_cons, ih]
    cases b <;> rfl
theorem flat_bls : ∀ bs : List Bool, (bs.map V.bl).all flatV = true
  | [] => rfl
  | b :: bs => by
    rw [List.map_cons, List.all_cons, flat_bls bs]
    rfl
theorem niF {H : Hp} {Q : VK} {p : Addr} {bs : List Bool} (h : H p = some (.lst (bs.map V.bl))) (q : Q (.bl (bs.all id)) H) : rIn K true (.bl false) (.ref p) H Q := by
  refine ⟨p, _, rfl, .inl (.inl (.inl h)), rfl, flat_bls bs, ?_⟩
  rw [if_pos rfl, inV_false, Bool.not_not]
  exact q
theorem inF {H : Hp} {Q : VK} {p : Addr} {bs : List Bool} (h : H p = some (.lst (bs.map V.bl))) (q : Q (.bl (!bs.all id)) H) : rIn K false (.bl false) (.ref p) H Q := by
  refine ⟨p, _, rfl, .inl (.inl (.inl h)), rfl, flat_bls bs, ?_⟩
  rw [if_neg Bool.false_ne_true, inV_false]
  exact q
theorem dp_strs {H : Hp} : ∀ zs : List Str, DpAll K H (zs.map V.str) (zs.map PyData.str)
  | [] => .nil
  | z :: zs => .cons (.str z) (dp_strs zs)
theorem neK8 {H : Hp} {Q : VK} {p q : Addr} (h : H p = some (.lst (K8.map V.str))) (h' : H q = some (.lst (K8.map V.str))) (k : Q (.bl false) H) : rNeD K (.ref p) (.ref q) H Q := by
  refine ⟨_, _, .lst (.inl (.inl h)) (dp_strs K8), .lst (.inl (.inl h')) (dp_strs K8), by decide +kernel, by decide +kernel, ?_⟩
  rw [show PyData.eqv (.list (K8.map PyData.str)) (.list (K8.map PyData.str)) = true by decide +kernel]
  exact k
/-- _law_asked(n, counts): True -/
def spAsked : Sp := fun vs H Q _ => ∃ (n : Int) (a : Addr) (k : Nat) (f : Str → Int), vs = [.int n, .ref a] ∧ 0 ≤ n ∧ n ≤ 33 ∧ Top n k ∧ CD H a f ∧ ∀ H', Same H H' → Q (.bl true) H'
theorem ok__law_asked (F : Def K mg "_law_asked" s__law_asked P__law_asked) (m_dict : mg "dict" = none) (m_sorted : mg "sorted" = none) (m_list : mg "list" = none) (C_is_within : Cal P w K mg base 3 "is_within" P_is_within spWithin) (C__law_alike : Cal P w K mg base 1 "_law_alike" P__law_alike spAlike) (C__law_sentences : Cal P w K mg base 2 "_law_sentences" P__law_sentences spSent) : Cal P w K mg base 4 "_law_asked" P__law_asked spAsked := by
  refine F.ok sc__law_asked (fun vs H Q E h => ?_) (fun f cdv A outer s H vs Q E hr h => ?_)
  · obtain ⟨n, a, k, f, rfl, _⟩ := h
    rfl
  obtain ⟨n, a, k, f, rfl, h0, h1, hk, ⟨ks, pm, hc⟩, q⟩ := h
  refine ⟨_, (pss_cons (ps_set (i := 2) sc__law_asked.nd rfl (Or.inr rfl) (pe_callTy q_dictD (by rfl) m_dict bb_dict (pa_cons (pv 1 (hd := nd_counts) (hcd := nc_counts)) pa_nil) (hn := nn_dict) (hdb := nd_dict)))
  (pss_cons (ps_set (i := 3) sc__law_asked.nd rfl (Or.inl rfl) (pe_cmpR op_notIn_seq pe_bl (pe_cal C__law_sentences hr (pa_cons (pv 0 (hd := nd_count) (hcd := nc_count)) (pa_cons (pv 1 (hd := nd_counts) (hcd := nc_counts)) pa_nil)) (hdb := nd__law_sentences)) (by rfl)))
  (pss_cons (ps_set (i := 4) sc__law_asked.nd rfl (Or.inl rfl) (pe_cal C_is_within hr (pa_cons (pv 0 (hd := nd_count) (hcd := nc_count)) (pa_cons (pv 2 (hd := nd_handed) (hcd := nc_handed)) pa_nil)) (hdb := nd_is_within)))
  (pss_cons (ps_if (PW.pt (pw_or (pt_not (pt_val (pe_cal C__law_alike hr (pa_cons (pv 4 (hd := nd_told) (hcd := nc_told)) (pa_cons (pv 3 (hd := nd_due) (hcd := nc_due)) pa_nil)) (hdb := nd__law_alike)))) (pw_or1 (pt_cmpR (Ho.neDK (K := K) rfl hr.units) (pe_callB (q_sortedSK (K := K) rfl) (by rfl) m_sorted bb_sorted (pa_cons (pe_callTy (q_listDk rfl) (by rfl) m_list bb_list (pa_cons (pv 2 (hd := nd_handed) (hcd := nc_handed)) pa_nil) (hn := nn_list) (hdb := nd_list)) pa_nil) (hn := nn_sorted) (hdb := nd_sorted)) (pe_callB (q_sortedSK (K := K) rfl) (by rfl) m_sorted bb_sorted (pa_cons (pe_callTy (q_listDk rfl) (by rfl) m_list bb_list (pa_cons (pv 1 (hd := nd_counts) (hcd := nc_counts)) pa_nil) (hn := nn_list) (hdb := nd_list)) pa_nil) (hn := nn_sorted) (hdb := nd_sorted)) (nomark _))))) (pss_one (ps_ret pe_bl)) pss_nil)
  (pss_one (ps_ret (pe_cmpR op_notIn_seq pe_bl (pe_lc (own := [("key", 5)]) (by rfl) sc__law_asked.nd (pi_list (pe_callTy (q_listDk rfl) (by rfl) m_list bb_list (pa_cons (pv 1 (hd := nd_counts) (hcd := nc_counts)) pa_nil) (hn := nn_list) (hdb := nd_list))) (blkOk_by (N := N__law_asked) (sc := defScope s__law_asked) (by decide +kernel)) (fun _ _ _ _ _ => (pg_name (i := 5) sc__law_asked.nd rfl (Or.inl rfl))) (fun _ _ _ _ _ => pts_nil) (fun _ _ _ _ _ => (pe_cal C__law_alike hr (pa_cons (pe_dget (un1 hr) (pv 2 (hd := nd_handed) (hcd := nc_handed)) (pv 5 (hd := nd_key) (hcd := nc_key)) (fun _ _ => rfl)) (pa_cons (pe_dget (un1 hr) (pv 1 (hd := nd_counts) (hcd := nc_counts)) (pv 5 (hd := nd_key) (hcd := nc_key)) (fun _ _ => rfl)) pa_nil)) (hdb := nd__law_alike)))) (by rfl)))))))), ?_⟩
  refine Rd.at0 (σ := [some (.int n), some (.ref a), none, none, none, none]) rfl ?_
  have l8 := len8 pm
  repeat' (walk_at "rd")
  refine dictD hc fun b hb => ?_
  have s1 := same_upd (o := .dK (kd ks fun z => .int (f z))) hb
  have eb : (upd H b (.dK (kd ks fun z => .int (f z)))) b = some (.dK (kd ks fun z => .int (f z))) := upd_same
  generalize upd H b (.dK (kd ks fun z => .int (f z))) = H1 at *
  repeat' (walk_at "rd")
  refine ⟨n, a, k, f, rfl, h0, h1, hk, ⟨ks, pm, s1 _ _ hc⟩, fun L bs H2 iff s2 eL => ?_⟩
  have s12 := s1.trans s2
  repeat' (walk_at "rd")
  refine niF eL ?_
  repeat' (walk_at "rd")
  refine ⟨n, b, k, f, rfl, h0, h1, hk, ⟨ks, pm, s2 _ _ eb⟩, fun r H3 iff2 s3 => ?_⟩
  have s13 := s12.trans s3
  have er : r = bs.all id := by
    rw [Bool.eq_iff_iff, iff2, iff]
  rw [er]
  repeat' (walk_at "rd")
  refine .inl ⟨_, _, rfl, ?_⟩
  rw [decide_eq_true rfl]
  have eb3 := s3 _ _ (s2 _ _ eb)
  have ec3 := s13 _ _ hc
  repeat' (walk_at "rd")
  refine listDkd eb3 fun L1 hL1 => ?_
  repeat' (walk_at "rd")
  refine sortS (.inl (.inl upd_same)) (by omega) pm k8_sorted fun L2 hL2 => ?_
  have t2 := (same_upd (o := .lst (ks.map V.str)) hL1).trans (same_upd (o := .lst (K8.map V.str)) hL2)
  have e2 : (upd (upd H3 L1 (.lst (ks.map V.str))) L2 (.lst (K8.map V.str))) L2 = some (.lst (K8.map V.str)) := upd_same
  generalize upd (upd H3 L1 (.lst (ks.map V.str))) L2 (.lst (K8.map V.str)) = H4 at *
  repeat' (walk_at "rd")
  refine listDkd (t2 _ _ ec3) fun L3 hL3 => ?_
  repeat' (walk_at "rd")
  refine sortS (.inl (.inl upd_same)) (by omega) pm k8_sorted fun L4 hL4 => ?_
  have t4 := (same_upd (o := .lst (ks.map V.str)) hL3).trans (same_upd (o := .lst (K8.map V.str)) hL4)
  have e4 : (upd (upd H4 L3 (.lst (ks.map V.str))) L4 (.lst (K8.map V.str))) L4 = some (.lst (K8.map V.str)) := upd_same
  generalize upd (upd H4 L3 (.lst (ks.map V.str))) L4 (.lst (K8.map V.str)) = H5 at *
  refine neK8 (t4 _ _ e2) e4 ?_
  have t24 := t2.trans t4
  have eb5 := t24 _ _ eb3
  have ec5 := t24 _ _ ec3
  have s15 := s13.trans t24
  repeat' (walk_at "rd")
  refine listDkd ec5 fun L6 hL6 => ?_
  have s6 := same_upd (o := .lst (ks.map V.str)) hL6
  refine exlst (.inl (.inl upd_same)) ?_
  refine lcMap (ks.map V.str) (fun _ => .bl true) (.inl (.inl upd_same)) (by rw [List.length_map]; omega) (fun i x L4 G out Nx hx sG eL lo nx => ?_) (fun L4 G nL4 sG eL => ?_)
  · rw [List.getElem?_map] at hx
    obtain ⟨z, hz, rfl⟩ := Option.map_eq_some_iff.mp hx
    have hz := List.mem_of_getElem? hz
    have ebG := sG _ _ (s6 _ _ eb5)
    have ecG := sG _ _ (s6 _ _ ec5)
    refine turn1 ?_
    repeat' (walk_at "rd")
    refine ⟨rfl, ?_⟩
    repeat' (walk_at "rd")
    refine .inr ⟨_, _, rfl, ?_⟩
    rw [decide_eq_true rfl]
    exact ⟨_, eL, lo, nx⟩
  have e : ((ks.map V.str).map fun _ => V.bl true) = (ks.map fun _ => true).map V.bl := by
    rw [List.map_map, List.map_map]
    rfl
  rw [e] at eL
  refine niF eL ?_
  have e1 : (ks.map fun _ => true).all id = true := by
    rw [List.all_map]
    exact List.all_eq_true.mpr fun _ _ => rfl
  rw [e1]
  exact q _ ((s15.trans s6).trans sG)
end
end Kj
namespace Kj
open PySem PySem.Spec PyProof.Rows L2 Rd
/-! ### the stepper -/
local macro_rules | `(tactic| walk_at "hp") => `(tactic| first
  | assumption
  | exact upd_same
  | (refine Eq.trans (upd_ne (by first | assumption | (apply Ne.symm; assumption))) ?_; walk_at "hp"))
local macro_rules | `(tactic| walk_at "sq") => `(tactic| first
  | assumption
  | (refine Or.inl (Or.inl ?_); walk_at "hp"))
local macro_rules | `(tactic| walk_at "st") => `(tactic| first
  | assumption
  | (refine Or.inl (Or.inl ?_); walk_at "hp"))
local macro_rules | `(tactic| walk_at "ar") => `(tactic| first
  | assumption
  | omega
  | decide)
local macro_rules | `(tactic| walk_at "ci") => `(tactic| first
  | (refine (show CMul _ _ from Or.inr ⟨?_, ?_⟩) <;> omega)
  | (refine (show CMul _ _ from Or.inl ⟨?_, ?_⟩) <;> omega)
  | (show CPow _ _; exact ⟨by decide, by decide, by decide⟩)
  | (refine wide_div (b := 63) ?_ ?_ (by decide) (by decide) <;> omega)
  | (show (0 : Int) < _; omega))
local macro_rules | `(tactic| walk_at "ty") => `(tactic| first
  | exact dp_ty (by assumption)
  | exact TyX.base (TyOf.int _)
  | exact TyX.base (TyOf.str _)
  | exact TyX.base (TyOf.bl _)
  | exact TyX.base TyOf.non
  | exact tyL' (by walk_at "sq")
  | exact tyT' (by walk_at "st"))
local macro_rules | `(tactic| walk_at "isi") => `(tactic| first
  | ((with_reducible apply Rd.isiF); (walk_at "ty"); (decide))
  | ((with_reducible apply Rd.isiT); (walk_at "ty"); (decide)))
local macro_rules | `(tactic| walk_at "rd") => `(tactic| first
  | with_reducible apply Rd.seq
  | ((with_reducible apply Rd.var); rfl)
  | with_reducible apply Rd.con
  | with_reducible apply Rd.op
  | with_reducible apply Rd.asg
  | ((with_reducible apply Rd.gname); ((dsimp only [List.set, L2.wipe, Int.reduceToNat]) <;> rfl))
  | with_reducible apply Rd.nxt
  | with_reducible apply Rd.ifs
  | with_reducible apply Rd.test
  | with_reducible apply Rd.testB
  | with_reducible apply Rd.exbl
  | with_reducible apply Rd.ret
  | with_reducible apply Rd.drop
  | with_reducible apply Rd.retN
  | with_reducible apply Rd.nil
  | with_reducible apply Rd.cons
  | with_reducible apply Rd.call
  | with_reducible apply Rd.cb
  | with_reducible apply Rd.and
  | with_reducible apply Rd.or
  | with_reducible apply Rd.not
  | with_reducible apply Rd.andV
  | with_reducible apply Rd.orV
  | with_reducible apply Rd.notV
  | with_reducible apply Rd.ife
  | with_reducible apply Rd.tup
  | with_reducible apply Rd.lst
  | with_reducible apply Rd.un
  | with_reducible apply Rd.chain
  | with_reducible apply Rd.brk
  | with_reducible apply Rd.cnt
  | with_reducible apply Rd.I0
  | with_reducible apply Rd.U1
  | ((with_reducible apply Rd.eq); rfl)
  | ((with_reducible apply Rd.ne); rfl)
  | ((with_reducible apply Rd.I1); (walk_at "ci"))
  | with_reducible apply Rd.lc0
  | with_reducible apply Rd.ln0
  | with_reducible apply Rd.exN
  | ((with_reducible apply Rd.iteSf); (decide +kernel))
  | ((with_reducible apply Rd.iteSt); (decide +kernel))
  | ((with_reducible apply Rd.niQ); (exact Or.inl (by walk_at "sq")); (exact ⟨rfl, rfl⟩); (rfl))
  | ((with_reducible apply Rd.inQ); (exact Or.inl (by walk_at "sq")); (exact ⟨rfl, rfl⟩); (rfl))
  | with_reducible apply Rd.rn1
  | with_reducible apply Rd.in1
  | with_reducible apply Rd.sn1
  | with_reducible apply Rd.bn1
  | with_reducible apply Rd.nn1
  | with_reducible apply Rd.rn2
  | with_reducible apply Rd.in2
  | with_reducible apply Rd.sn2
  | with_reducible apply Rd.bn2
  | with_reducible apply Rd.nn2
  | with_reducible apply Rd.nt1
  | with_reducible apply Rd.nf1
  | (with_reducible refine Rd.iteI (fun _ => ?_) (fun _ => ?_))
  | (with_reducible refine Rd.iteNI (fun _ => ?_) (fun _ => ?_))
  | (with_reducible refine iteT ?_)
  | (with_reducible refine iteF ?_)
  | (with_reducible refine Rd.iteD (fun _ => ?_) (fun _ => ?_))
  | (with_reducible refine Rd.iteN (fun _ => ?_) (fun _ => ?_))
  | with_reducible apply Rd.intI
  | with_reducible apply Rd.intB
  | with_reducible apply Rd.maxQ
  | with_reducible apply Rd.minQ
  | with_reducible apply Rd.absQ
  | with_reducible apply Rd.isN
  | with_reducible apply Rd.noN
  | with_reducible apply Rd.ltZ
  | with_reducible apply Rd.bm
  | with_reducible apply Rd.bm0
  | with_reducible apply Rd.par
  | with_reducible apply Rd.expar
  | with_reducible apply Rd.exint
  | with_reducible apply Rd.ipi
  | with_reducible apply Rd.slice
  | with_reducible apply Rd.noPart
  | with_reducible apply Rd.part
  | with_reducible apply Rd.gcons
  | with_reducible apply Rd.gnil
  | with_reducible apply Rd.iseq
  | with_reducible apply Rd.irng1
  | walk_at "isi"
  | with_reducible apply Rd.forX
  | with_reducible apply Rd.lstRev
  | with_reducible apply Rd.lstRg
  | with_reducible apply Rd.rg1
  | with_reducible apply Rd.rg2
  | with_reducible apply Rd.exint2
  | ((with_reducible apply Rd.exrev); (walk_at "sq"))
  | with_reducible apply Rd.lcX
  | with_reducible apply Rd.yes
  | ((with_reducible apply Rd.exrng1); (constructor <;> omega))
  | ((with_reducible apply Rd.exrng2); (refine ⟨?_, ?_, ?_, ?_⟩ <;> omega))
  | with_reducible apply Rd.irng2
  | ((with_reducible apply Rd.aug); rfl)
  | ((with_reducible apply Rd.exlst); (walk_at "sq"))
  | ((with_reducible apply Rd.gtup); (walk_at "st"); (rfl))
  | ((with_reducible apply Rd.tyL); (walk_at "hp"))
  | ((with_reducible apply Rd.ixL); (walk_at "sq"); (rfl))
  | ((with_reducible apply Rd.ixI); (walk_at "sq"); (omega); (first | assumption | (simp only [List.length_map]; omega)); (intro _ _))
  | (with_reducible refine Rd.gsub ?_)
  | ((with_reducible apply Rd.setL); (walk_at "hp"); (rfl); ((dsimp only [List.set, L2.wipe, Int.reduceToNat]) <;> rfl))
  | ((with_reducible apply Rd.lenQ); (first | exact Or.inl (by walk_at "sq") | exact Or.inr (by walk_at "st")))
  | ((with_reducible apply Rd.listQ); (first | exact Or.inl (by walk_at "sq") | exact Or.inr (by walk_at "st")))
  | ((with_reducible apply Rd.tupQ); (walk_at "sq"))
  | ((with_reducible apply Rd.slL); (walk_at "sq"))
  | ((with_reducible apply Rd.ixT); (walk_at "st"); (rfl))
  | (with_reducible refine Rd.iteB (fun _ => ?_) (fun _ => ?_))
  | (with_reducible refine Rd.iteNB (fun _ => ?_) (fun _ => ?_))
  | (refine Rd.andI (Nat.le_of_ble_eq_true rfl) ?_)
  | dsimp only [List.set])
local macro_rules | `(tactic| walk_at "hp") => `(tactic| first
  | assumption
  | exact upd_same
  | (refine Eq.trans (upd_ne (by first | assumption | (apply Ne.symm; assumption))) ?_; walk_at "hp")
  | (refine hpS (by assumption) ?_; walk_at "hp"))
local macro_rules | `(tactic| walk_at "al") => `(tactic| (with_reducible intro l hl; generalize hG : upd _ l _ = G; have hs := newOne hl hG; clear hG; obtain ⟨hs, he⟩ := hs))
local macro_rules | `(tactic| walk_at "rd") => `(tactic| first
  | walk_at "al"
  | ((with_reducible apply Rd.cat); (walk_at "hp"); (walk_at "hp"); (exact Nat.le_of_ble_eq_true rfl)))
local macro_rules | `(tactic| walk_at "sm") => `(tactic| first
  | assumption
  | exact Same.refl _
  | (refine Same.trans ?_ (by assumption); walk_at "sm"))
local macro_rules | `(tactic| walk_at "fr") => `(tactic| first
  | assumption
  | (refine Same.free (by assumption) ?_; walk_at "fr"))
local macro_rules | `(tactic| walk_at "ty") => `(tactic| first
  | exact dv_ty (by assumption)
  | exact tyD' (by walk_at "hp"))
local macro_rules | `(tactic| walk_at "ci") => `(tactic| first
  | (refine (show CMul _ _ from Or.inr ⟨?_, ?_⟩) <;> omega)
  | (refine (show CMul _ _ from Or.inl ⟨?_, ?_⟩) <;> omega)
  | (refine wide_div (b := 121) ?_ ?_ (by decide) (by decide) <;> omega))
section
variable {P : Program} {w : World} {K : PySem.W.Frag} {mg : Str → Option Value} {base : Heap}
local macro_rules | `(tactic| walk_at "km") => `(tactic| first
  | assumption
  | exact mem8 (by assumption) (by first | assumption | decide +kernel))
local macro_rules | `(tactic| walk_at "rd") => `(tactic| first
  | with_reducible apply Rd.dget
  | ((with_reducible apply Kj.dgetI); (walk_at "hp"); (walk_at "km")))
def spLaw (K : PySem.W.Frag) : Sp := fun vs H Q _ => ∃ (a : Addr) (ns : List Int), vs = [.ref a] ∧ SqL K H a (ns.map V.int) ∧ ns.length ≤ 63 ∧ ∀ H', Q (.bl true) H'
theorem putI {H : Hp} {a : Addr} {ks : List Str} {f : Str → Int} {z : Str} {v : Int} {P : Hp → Prop} (h : H a = some (.dK (kd ks fun z => .int (f z)))) (m : z ∈ ks) (hz : ks.length ≤ 100000) (q : P (upd H a (.dK (kd ks fun y => .int (if y = z then v else f y))))) : rSetD (.ref a) (.str z) (.int v) H P :=
  dputK h m hz (by
    rw [kd_congr (g := fun y => .int (if y = z then v else f y)) (fun y _ => by
      show (if y = z then V.int v else .int (f y)) = .int (if y = z then v else f y)
      split <;> rfl)]
    exact q)
theorem top_ex : ∀ m : Fin 35, ∃ k, k < 6 ∧ Top (m.val : Int) k := by
  intro ⟨m, hm⟩
  by_cases z : m = 0
  · subst z
    exact ⟨0, by decide, fun _ => rfl, fun h => absurd rfl h⟩
  · refine ⟨m.log2, ?_, fun h => absurd (by simpa using h) z, fun _ => ⟨?_, ?_⟩⟩
    · rw [Nat.log2_lt z]
      omega
    · have := Nat.log2_self_le z
      simp only
      omega
    · have := Nat.lt_log2_self (n := m)
      simp only
      omega
theorem top_of {n : Int} (h0 : 0 ≤ n) (h1 : n ≤ 33) : ∃ k, Top n k := by
  obtain ⟨k, _, h⟩ := top_ex ⟨n.toNat, by omega⟩
  refine ⟨k, ?_⟩
  rwa [show (((⟨n.toNat, by omega⟩ : Fin 35).val : Nat) : Int) = n by simp; omega] at h
theorem sb_eq2 {k : Nat} {p t r : Int} (h : k ≤ 5) : p + p + 5 * p + 12 * t * (if (k : Int) > 1 then (k : Int) else 1) + 7 * r = SB k p t r := by
  unfold SB
  obtain rfl | rfl | rfl | rfl | rfl | rfl : k = 0 ∨ k = 1 ∨ k = 2 ∨ k = 3 ∨ k = 4 ∨ k = 5 := by omega
  all_goals simp <;> omega
theorem ok_law {f0 : Addr} {fd0 : FuncData} (F : Fun K "law" "law" s_law f0 fd0) (m_max : mg "max" = none) (m_range : mg "range" = none) (m_dict : mg "dict" = none) (m_sorted : mg "sorted" = none) (m_list : mg "list" = none) (m_min : mg "min" = none)  (C_rise_bound : Cal P w K mg base 2 "rise_bound" P_rise_bound spRise) (C_step_bound : Cal P w K mg base 2 "step_bound" P_step_bound spStep) (C_is_within : Cal P w K mg base 3 "is_within" P_is_within spWithin) (C__law_store : Cal P w K mg base 1 "_law_store" P__law_store (spStore K)) (C__law_take : Cal P w K mg base 1 "_law_take" P__law_take spTake) (C__law_pick : Cal P w K mg base 2 "_law_pick" P__law_pick (spPickL K)) (C__law_alike : Cal P w K mg base 1 "_law_alike" P__law_alike spAlike) (C__law_number : Cal P w K mg base 2 "_law_number" P__law_number spNumber) (C__law_sentences : Cal P w K mg base 2 "_law_sentences" P__law_sentences spSent) (C__law_double : Cal P w K mg base 1 "_law_double" P__law_double spDouble) (C__law_good_counts : Cal P w K mg base 3 "_law_good_counts" P__law_good_counts spGood) (C__law_asked : Cal P w K mg base 4 "_law_asked" P__law_asked spAsked) : FnOk P w K mg base CX0 12 f0 fd0 ["script"] (spLaw K) := by
  refine F.ok sc_law (fun vs H Q E h => ?_) (fun cdv A outer s H vs Q E hr h => ?_)
  · obtain ⟨a, ns, rfl, _⟩ := h
    rfl
  obtain ⟨a, ns, rfl, hS, hlen, q⟩ := h
  refine ⟨_, (pss_cons (ps_set (i := 1) sc_law.nd rfl (Or.inl rfl) (pe_cal C__law_store hr (pa_cons (pv 0 (hd := nd_script) (hcd := nc_script)) pa_nil) (hdb := nd__law_store)))
  (pss_cons (ps_set (i := 2) sc_law.nd rfl (Or.inr rfl) (pe_ix ix_list (pe_lst (pa_cons (pe_cal C__law_take hr (pa_cons (pv 1 (hd := nd_store) (hcd := nc_store)) (pa_cons pe_int pa_nil)) (hdb := nd__law_take)) (pa_cons pe_int (pa_cons pe_int (pa_cons pe_int (pa_cons pe_int (pa_cons pe_int (pa_cons pe_int (pa_cons pe_int (pa_cons pe_int (pa_cons pe_int pa_nil))))))))))) (pe_cal C__law_take hr (pa_cons (pv 1 (hd := nd_store) (hcd := nc_store)) (pa_cons pe_int pa_nil)) (hdb := nd__law_take)) (fun _ _ => rfl)))
  (pss_cons (ps_set (i := 3) sc_law.nd rfl (Or.inl rfl) (pe_cal C__law_number hr (pa_cons (pv 1 (hd := nd_store) (hcd := nc_store)) pa_nil) (hdb := nd__law_number)))
  (pss_cons (ps_set (i := 4) sc_law.nd rfl (Or.inl rfl) (pe_cal C__law_number hr (pa_cons (pv 1 (hd := nd_store) (hcd := nc_store)) pa_nil) (hdb := nd__law_number)))
  (pss_cons (ps_set (i := 5) sc_law.nd rfl (Or.inl rfl) (pe_cal C__law_number hr (pa_cons (pv 1 (hd := nd_store) (hcd := nc_store)) pa_nil) (hdb := nd__law_number)))
  (pss_cons (ps_set (i := 6) sc_law.nd rfl (Or.inl rfl) (pe_callB (q_maxLK (K := K) rfl rfl) (by rfl) m_max bb_max (pa_cons (pe_lc (own := [("k", 13)]) (by rfl) sc_law.nd (pi_range1 (by rfl) m_range (pa_cons pe_int pa_nil)) (blkOk_by (N := N_law) (sc := defScope s_law) (by decide +kernel)) (fun _ _ _ _ _ => (pg_name (i := 13) sc_law.nd rfl (Or.inl rfl))) (fun _ _ _ _ _ => (pts_one (PW.pt (pw_or (pt_cmpR op_eq (pv 13 (hd := nd_k) (hcd := nc_k)) pe_int (nomark _)) (pw_or1 (pt_cmpR op_le (pe_op op_mul pe_int (pe_cal C__law_double hr (pa_cons (pe_op op_sub (pv 13 (hd := nd_k) (hcd := nc_k)) pe_int) pa_nil) (hdb := nd__law_double))) (pv 2 (hd := nd_count) (hcd := nc_count)) (nomark _))))))) (fun _ _ _ _ _ => (pv 13 (hd := nd_k) (hcd := nc_k)))) pa_nil) (hn := nn_max) (hdb := nd_max)))
  (pss_cons (ps_if (pt_not (pt_val (pe_cal C__law_alike hr (pa_cons (pe_cal C_rise_bound hr (pa_cons (pv 2 (hd := nd_count) (hcd := nc_count)) (pa_cons (pv 3 (hd := nd_puts) (hcd := nc_puts)) pa_nil)) (hdb := nd_rise_bound)) (pa_cons (pe_op op_mul (pv 3 (hd := nd_puts) (hcd := nc_puts)) (pe_callB (q_max rfl) (by rfl) m_max bb_max (pa_cons pe_int (pa_cons (pe_op op_sub (pv 6 (hd := nd_highest) (hcd := nc_highest)) pe_int) pa_nil)) (hn := nn_max) (hdb := nd_max))) pa_nil)) (hdb := nd__law_alike)))) (pss_one (ps_ret pe_bl)) pss_nil)
  (pss_cons (ps_set (i := 7) sc_law.nd rfl (Or.inl rfl) (pe_op op_add (pe_op op_add (pe_op op_add (pe_op op_add (pv 3 (hd := nd_puts) (hcd := nc_puts)) (pv 3 (hd := nd_puts) (hcd := nc_puts))) (pe_op op_mul pe_int (pv 3 (hd := nd_puts) (hcd := nc_puts)))) (pe_op op_mul (pe_op op_mul pe_int (pv 4 (hd := nd_takes) (hcd := nc_takes))) (pe_callB (q_max rfl) (by rfl) m_max bb_max (pa_cons pe_int (pa_cons (pv 6 (hd := nd_highest) (hcd := nc_highest)) pa_nil)) (hn := nn_max) (hdb := nd_max)))) (pe_op op_mul pe_int (pv 5 (hd := nd_rises) (hcd := nc_rises)))))
  (pss_cons (ps_if (pt_not (pt_val (pe_cal C__law_alike hr (pa_cons (pe_cal C_step_bound hr (pa_cons (pv 2 (hd := nd_count) (hcd := nc_count)) (pa_cons (pv 3 (hd := nd_puts) (hcd := nc_puts)) (pa_cons (pv 4 (hd := nd_takes) (hcd := nc_takes)) (pa_cons (pv 5 (hd := nd_rises) (hcd := nc_rises)) pa_nil)))) (hdb := nd_step_bound)) (pa_cons (pv 7 (hd := nd_steps) (hcd := nc_steps)) pa_nil)) (hdb := nd__law_alike)))) (pss_one (ps_ret pe_bl)) pss_nil)
  (pss_cons (ps_set (i := 8) sc_law.nd rfl (Or.inl rfl) (pe_cal C__law_good_counts hr (pa_cons (pv 1 (hd := nd_store) (hcd := nc_store)) (pa_cons (pv 2 (hd := nd_count) (hcd := nc_count)) pa_nil)) (hdb := nd__law_good_counts)))
  (pss_cons (ps_if (PW.pt (pw_or (pt_cmpR op_notBl (pe_cal C_is_within hr (pa_cons (pv 2 (hd := nd_count) (hcd := nc_count)) (pa_cons (pe_callTy q_dictD (by rfl) m_dict bb_dict (pa_cons (pv 8 (hd := nd_counts) (hcd := nc_counts)) pa_nil) (hn := nn_dict) (hdb := nd_dict)) pa_nil)) (hdb := nd_is_within)) pe_bl (nomark _)) (pw_or1 (pt_cmpR op_in_seq pe_bl (pe_cal C__law_sentences hr (pa_cons (pv 2 (hd := nd_count) (hcd := nc_count)) (pa_cons (pv 8 (hd := nd_counts) (hcd := nc_counts)) pa_nil)) (hdb := nd__law_sentences)) (by rfl))))) (pss_one (ps_ret pe_bl)) pss_nil)
  (pss_cons (ps_for PassesOwn.never rfl (pi_list (pe_callB (q_sortedSK (K := K) rfl) (by rfl) m_sorted bb_sorted (pa_cons (pe_callTy (q_listDk rfl) (by rfl) m_list bb_list (pa_cons (pv 8 (hd := nd_counts) (hcd := nc_counts)) pa_nil) (hn := nn_list) (hdb := nd_list)) pa_nil) (hn := nn_sorted) (hdb := nd_sorted))) (pg_name (i := 9) sc_law.nd rfl (Or.inl rfl)) (pss_cons (ps_for PassesOwn.never rfl (pi_list (pe_lst (pa_cons (pe_op op_add (pe_dget (un1 hr) (pv 8 (hd := nd_counts) (hcd := nc_counts)) (pv 9 (hd := nd_key) (hcd := nc_key)) (fun _ _ => rfl)) pe_int) (pa_cons (pe_op op_sub (pe_dget (un1 hr) (pv 8 (hd := nd_counts) (hcd := nc_counts)) (pv 9 (hd := nd_key) (hcd := nc_key)) (fun _ _ => rfl)) pe_int) (pa_cons (pe_un un_neg pe_int) (pa_cons (pe_cal C__law_number hr (pa_cons (pv 1 (hd := nd_store) (hcd := nc_store)) pa_nil) (hdb := nd__law_number)) pa_nil)))))) (pg_name (i := 10) sc_law.nd rfl (Or.inl rfl)) (pss_cons (ps_set (i := 11) sc_law.nd rfl (Or.inl rfl) (pe_callTy q_dictD (by rfl) m_dict bb_dict (pa_cons (pv 8 (hd := nd_counts) (hcd := nc_counts)) pa_nil) (hn := nn_dict) (hdb := nd_dict)))
  (pss_cons (ps_asg (pv 10 (hd := nd_value) (hcd := nc_value)) (pg_sub (pv 11 (hd := nd_bent) (hcd := nc_bent)) (pv 9 (hd := nd_key) (hcd := nc_key)) (set_dict (un1 hr))))
  (pss_one (ps_if (pt_not (pt_val (pe_cal C__law_asked hr (pa_cons (pv 2 (hd := nd_count) (hcd := nc_count)) (pa_cons (pv 11 (hd := nd_bent) (hcd := nc_bent)) pa_nil)) (hdb := nd__law_asked)))) (pss_one (ps_ret pe_bl)) pss_nil)))))
  (pss_cons (ps_set (i := 12) sc_law.nd rfl (Or.inl rfl) (pe_cal C__law_pick hr (pa_cons (pv 1 (hd := nd_store) (hcd := nc_store)) (pa_cons (pe_callB (q_sortedSK (K := K) rfl) (by rfl) m_sorted bb_sorted (pa_cons (pe_callTy (q_listDk rfl) (by rfl) m_list bb_list (pa_cons (pv 8 (hd := nd_counts) (hcd := nc_counts)) pa_nil) (hn := nn_list) (hdb := nd_list)) pa_nil) (hn := nn_sorted) (hdb := nd_sorted)) pa_nil)) (hdb := nd__law_pick)))
  (pss_cons (ps_set (i := 11) sc_law.nd rfl (Or.inl rfl) (pe_callTy q_dictD (by rfl) m_dict bb_dict (pa_cons (pv 8 (hd := nd_counts) (hcd := nc_counts)) pa_nil) (hn := nn_dict) (hdb := nd_dict)))
  (pss_cons (ps_asg (pe_op op_sub (pe_dget (un1 hr) (pv 11 (hd := nd_bent) (hcd := nc_bent)) (pv 9 (hd := nd_key) (hcd := nc_key)) (fun _ _ => rfl)) pe_int) (pg_sub (pv 11 (hd := nd_bent) (hcd := nc_bent)) (pv 9 (hd := nd_key) (hcd := nc_key)) (set_dict (un1 hr))))
  (pss_cons (ps_asg (pe_op op_add (pe_dget (un1 hr) (pv 11 (hd := nd_bent) (hcd := nc_bent)) (pv 12 (hd := nd_other) (hcd := nc_other)) (fun _ _ => rfl)) pe_int) (pg_sub (pv 11 (hd := nd_bent) (hcd := nc_bent)) (pv 12 (hd := nd_other) (hcd := nc_other)) (set_dict (un1 hr))))
  (pss_one (ps_if (pt_not (pt_val (pe_cal C__law_asked hr (pa_cons (pv 2 (hd := nd_count) (hcd := nc_count)) (pa_cons (pv 11 (hd := nd_bent) (hcd := nc_bent)) pa_nil)) (hdb := nd__law_asked)))) (pss_one (ps_ret pe_bl)) pss_nil))))))))
  (pss_cons (ps_if (PW.pt (pw_or (pt_not (pt_val (pe_cal C__law_asked hr (pa_cons (pe_callB (q_max rfl) (by rfl) m_max bb_max (pa_cons pe_int (pa_cons (pe_op op_sub (pv 2 (hd := nd_count) (hcd := nc_count)) pe_int) pa_nil)) (hn := nn_max) (hdb := nd_max)) (pa_cons (pv 8 (hd := nd_counts) (hcd := nc_counts)) pa_nil)) (hdb := nd__law_asked)))) (pw_or1 (pt_not (pt_val (pe_cal C__law_asked hr (pa_cons (pe_callB (q_min rfl) (by rfl) m_min bb_min (pa_cons pe_int (pa_cons (pe_op op_add (pv 2 (hd := nd_count) (hcd := nc_count)) pe_int) pa_nil)) (hn := nn_min) (hdb := nd_min)) (pa_cons (pv 8 (hd := nd_counts) (hcd := nc_counts)) pa_nil)) (hdb := nd__law_asked))))))) (pss_one (ps_ret pe_bl)) pss_nil)
  (pss_one (ps_ret (pe_cal C__law_asked hr (pa_cons (pv 2 (hd := nd_count) (hcd := nc_count)) (pa_cons (pv 8 (hd := nd_counts) (hcd := nc_counts)) pa_nil)) (hdb := nd__law_asked))))))))))))))))), ?_⟩
  refine Rd.at0 (σ := [some (.ref a), none, none, none, none, none, none, none, none, none, none, none, none, none]) rfl ?_
  repeat' (walk_at "rd")
  refine ⟨a, ns, rfl, hS, by omega, fun st c H1 s1 f1 o1 => ?_⟩
  repeat' (walk_at "rd")
  refine ⟨st, c, 33, rfl, o1, by decide, fun r0 H2 a0 a1 g1 => ?_⟩
  repeat' (walk_at "rd")
  rename_i l nl G sG eG
  refine ⟨st, c, 10, rfl, g1.ok.same sG, by decide, fun r H3 b0 b1 g2 => ?_⟩
  have m := g2.keep l _ ((g1.ok.off nl).1) eG
  have o3 := g2.ok
  have hn : ∃ n : Int, 0 ≤ n ∧ n ≤ 32 ∧ [V.int r0, .int 32, .int 0, .int 1, .int 2, .int 3, .int 4, .int 8, .int 16, .int 31][r.toNat]? = some (.int n) := by
    obtain rfl | rfl | rfl | rfl | rfl | rfl | rfl | rfl | rfl | rfl : r = 0 ∨ r = 1 ∨ r = 2 ∨ r = 3 ∨ r = 4 ∨ r = 5 ∨ r = 6 ∨ r = 7 ∨ r = 8 ∨ r = 9 := by omega
    all_goals exact ⟨_, by omega, by omega, rfl⟩
  obtain ⟨n, h0, h32, hn⟩ := hn
  refine ixN' (.inl (.inl m)) b0 hn ?_
  obtain ⟨k, hk⟩ := top_of h0 (by omega)
  have h1 : n ≤ 33 := by omega
  have k5 := top_le hk h1
  repeat' (walk_at "rd")
  refine ⟨st, c, rfl, o3, fun p H4 p0 p1 g4 => ?_⟩
  repeat' (walk_at "rd")
  refine ⟨st, c, rfl, g4.ok, fun t H5 t0 t1 g5 => ?_⟩
  repeat' (walk_at "rd")
  refine ⟨st, c, rfl, g5.ok, fun r H6 r0 r1 g6 => ?_⟩
  have g46 := (g4.trans g5).trans g6
  repeat' (walk_at "rd")
  -- H6: the heap, H7: the facts of n (h0 h1 hk)
  refine lcR fun L hL => ⟨fun i h => ∃ ns : List Int, h = upd H6 L (.lst (ns.map V.int)) ∧ ns.length ≤ i ∧ ∀ m, m ∈ ns ↔ ∃ j : Nat, (j : Int) = m ∧ j < i ∧ (j = 0 ∨ ((2 ^ j : Nat) : Int) ≤ n), ⟨[], rfl, Nat.le_refl _, fun m => ⟨fun h => (nomatch h), fun ⟨_, _, h, _⟩ => absurd h (Nat.not_lt_zero _)⟩⟩, ?_, ?_⟩
  · rintro i h hi ⟨ns, rfl, ln, mm⟩
    have hi : i < 6 := hi
    have yes : (i = 0 ∨ ((2 ^ i : Nat) : Int) ≤ n) → ∀ m, m ∈ ns ++ [0 + (i : Int)] ↔ ∃ j : Nat, (j : Int) = m ∧ j < i + 1 ∧ (j = 0 ∨ ((2 ^ j : Nat) : Int) ≤ n) := fun y m => by
      rw [List.mem_append, mm, List.mem_singleton]
      constructor
      · rintro (⟨j, e, a, b⟩ | e)
        · exact ⟨j, e, by omega, b⟩
        · exact ⟨i, by omega, by omega, y⟩
      · rintro ⟨j, e, a, b⟩
        by_cases z : j = i
        · exact .inr (by omega)
        · exact .inl ⟨j, e, by omega, b⟩
    have no : ¬ (i = 0 ∨ ((2 ^ i : Nat) : Int) ≤ n) → ∀ m, m ∈ ns ↔ ∃ j : Nat, (j : Int) = m ∧ j < i + 1 ∧ (j = 0 ∨ ((2 ^ j : Nat) : Int) ≤ n) := fun y m => by
      rw [mm]
      constructor
      · rintro ⟨j, e, a, b⟩
        exact ⟨j, e, by omega, b⟩
      · rintro ⟨j, e, a, b⟩
        by_cases z : j = i
        · subst z
          exact absurd b y
        · exact ⟨j, e, by omega, b⟩
    refine turn1 ?_
    repeat' (walk_at "rd")
    refine ⟨rfl, ?_⟩
    repeat' (walk_at "rd")
    · refine ⟨_, upd_same, sz5' (by rw [List.length_map]; omega), ns ++ [0 + (i : Int)], ?_, ?_, yes (.inl (by omega))⟩
      · rw [upd_upd, List.map_append]
        rfl
      · rw [List.length_append]
        show ns.length + 1 ≤ i + 1
        omega
    obtain ⟨j, rfl⟩ : ∃ j, i = j + 1 := ⟨i - 1, by omega⟩
    refine ⟨j, by rw [show (0 : Int) + ((j + 1 : Nat) : Int) - 1 = (j : Int) by omega]; rfl, by omega, ?_⟩
    have e2 : ((2 ^ (j + 1) : Nat) : Int) = 2 * ((2 ^ j : Nat) : Int) := by
      rw [Nat.pow_succ]
      omega
    have b : 2 ^ j ≤ 2 ^ 5 := Nat.pow_le_pow_right (by decide) (by omega)
    have e5 : (2 : Nat) ^ 5 = 32 := by decide
    repeat' (walk_at "rd")
    · refine ⟨_, upd_same, sz5' (by rw [List.length_map]; omega), ns ++ [0 + ((j + 1 : Nat) : Int)], ?_, ?_, yes (.inr (by omega))⟩
      · rw [upd_upd, List.map_append]
        rfl
      · rw [List.length_append]
        show ns.length + 1 ≤ j + 1 + 1
        omega
    · refine ⟨ns, rfl, by omega, no ?_⟩
      rintro (z | z) <;> omega
  rintro h ⟨ns, rfl, ln, mm⟩
  repeat' (walk_at "rd")
  refine ⟨L, ns, rfl, .inl (.inl upd_same), List.length_pos_of_mem ((mm 0).mpr ⟨0, rfl, by decide, .inl rfl⟩), fun m hm hM => ?_⟩
  obtain rfl : m = (k : Int) := by
    obtain ⟨j, rfl, j6, hj⟩ := (mm m).mp hm
    have k5 := top_le hk h1
    have : (k : Int) ≤ j := hM _ ((mm _).mpr ⟨k, rfl, by omega, by
      by_cases z : n = 0
      · exact .inl (hk.1 z)
      · exact .inr (hk.2 z).1⟩)
    have : j ≤ k := by
      rcases hj with rfl | hj
      · exact Nat.zero_le _
      · apply Nat.le_of_not_lt
        intro c
        by_cases z : n = 0
        · have := p2_pos j
          omega
        · have := (hk.2 z).2
          have : 2 ^ (k + 1) ≤ 2 ^ j := Nat.pow_le_pow_right (by decide) c
          omega
    omega
  have sH := same_upd (o := .lst (ns.map V.int)) hL
  clear hM hm
  generalize upd H6 L (.lst (ns.map V.int)) = H7 at *
  have o7 := g46.ok.same sH
  repeat' (walk_at "rd")
  refine ⟨n, p, k, rfl, h0, h1, hk, ?_⟩
  repeat' (walk_at "rd")
  refine .inr ⟨_, _, rfl, ?_⟩
  rw [show RB k p = p * (if (k : Int) - 1 > 0 then (k : Int) - 1 else 0) from rfl, decide_eq_true rfl]
  repeat' (walk_at "rd")
  refine ⟨n, p, t, r, k, rfl, h0, h1, hk, ?_⟩
  repeat' (walk_at "rd")
  refine .inr ⟨_, _, rfl, ?_⟩
  rw [sb_eq2 k5, decide_eq_true rfl]
  repeat' (walk_at "rd")
  refine ⟨st, c, n, k, rfl, o7, h0, h1, hk, fun cs f H8 good hcs fcs g8 => ?_⟩
  have o8 := g8.ok
  obtain ⟨ks, pm, ec⟩ := hcs
  have l8 := len8 pm
  repeat' (walk_at "rd")
  refine dictD ec fun b hb => ?_
  have s9 := same_upd (o := .dK (kd ks fun z => .int (f z))) hb
  have eb : (upd H8 b (.dK (kd ks fun z => .int (f z)))) b = some (.dK (kd ks fun z => .int (f z))) := upd_same
  generalize upd H8 b (.dK (kd ks fun z => .int (f z))) = H9 at *
  refine ⟨n, b, k, f, rfl, h0, h1, hk, ⟨ks, pm, eb⟩, fun rb H10 iff s10 => ?_⟩
  rw [iff.mpr good]
  repeat' (walk_at "rd")
  refine ⟨true, true, rfl, rfl, ?_⟩
  rw [decide_eq_true rfl]
  have ec10 := s10 _ _ (s9 _ _ ec)
  have g10 := (g8.same s9).same s10
  repeat' (walk_at "rd")
  refine ⟨n, cs, k, f, rfl, h0, h1, hk, ⟨ks, pm, ec10⟩, fun L bs H11 iff2 s11 eL => ?_⟩
  repeat' (walk_at "rd")
  refine inF eL ?_
  rw [iff2.mpr good]
  have ec11 := s11 _ _ ec10
  have g11 := g10.same s11
  repeat' (walk_at "rd")
  refine listDkd ec11 fun L1 hL1 => ?_
  repeat' (walk_at "rd")
  refine sortS (.inl (.inl upd_same)) (by omega) pm k8_sorted fun LK hLK => ?_
  have t2 := (same_upd (o := .lst (ks.map V.str)) hL1).trans (same_upd (o := .lst (K8.map V.str)) hLK)
  have nLK : LK ≠ st := ((g11.ok.same (same_upd (o := .lst (ks.map V.str)) hL1)).off hLK).1
  have eK : (upd (upd H11 L1 (.lst (ks.map V.str))) LK (.lst (K8.map V.str))) LK = some (.lst (K8.map V.str)) := upd_same
  generalize upd (upd H11 L1 (.lst (ks.map V.str))) LK (.lst (K8.map V.str)) = H12 at *
  have ec12 := t2 _ _ ec11
  have g12 := g11.same t2
  have ncs : cs ≠ st := (o7.off fcs).1
  refine exlst (.inl (.inl eK)) ?_
  refine forL (K8.map V.str) (fun i σ H' => ∃ v9 v10 v11 v12 : Option V, σ = [some (.ref a), some (.ref st), some (.int n), some (.int p), some (.int t), some (.int r), some (.int k), some (.int (SB k p t r)), some (.ref cs), v9, v10, v11, v12, none] ∧
    H' LK = some (.lst (K8.map V.str)) ∧ H' cs = some (.dK (kd ks fun z => .int (f z))) ∧ StoreAt H' st c) ⟨none, none, none, none, rfl, eK, ec12, g12.ok⟩ (fun _ _ _ _ ⟨_, _, _, _, _, z, _⟩ => .inl (.inl z)) ?_ ?_
  · rintro i x σ H' hx ⟨v9, v10, v11, v12, rfl, eK', ec', o'⟩
    rw [List.getElem?_map] at hx
    obtain ⟨z, hz, rfl⟩ := Option.map_eq_some_iff.mp hx
    have hz := List.mem_of_getElem? hz
    repeat' (walk_at "rd")
    refine ⟨st, c, rfl, o', fun x H13 _ _ g13 => ?_⟩
    have eK13 := g13.keep _ _ nLK eK'
    have ec13 := g13.keep _ _ ncs ec'
    repeat' (walk_at "rd")
    rename_i l hl H14 s14 el
    have eK14 := s14 _ _ eK13
    have ec14 := s14 _ _ ec13
    have o14 := g13.ok.same s14
    have nl := (g13.ok.off hl).1
    refine forL [.int (f z + 1), .int (f z - 1), .int (-1), .int x] (fun i σ H' => ∃ v10 v11 : Option V, σ = [some (.ref a), some (.ref st), some (.int n), some (.int p), some (.int t), some (.int r), some (.int k), some (.int (SB k p t r)), some (.ref cs), some (.str z), v10, v11, v12, none] ∧ Same H14 H') ⟨v10, v11, rfl, .refl _⟩ (fun _ _ _ _ ⟨_, _, _, z⟩ => .inl (.inl (z _ _ el))) ?_ ?_
    · rintro i y σ H' hy ⟨v10, v11, rfl, s15⟩
      obtain ⟨v, rfl⟩ : ∃ v, y = .int v := by
        rcases i with _ | _ | _ | _ | i
        · exact ⟨_, (Option.some.inj hy).symm⟩
        · exact ⟨_, (Option.some.inj hy).symm⟩
        · exact ⟨_, (Option.some.inj hy).symm⟩
        · exact ⟨_, (Option.some.inj hy).symm⟩
        · cases hy
      have ec15 := s15 _ _ ec14
      repeat' (walk_at "rd")
      refine dictD ec15 fun b hb => ?_
      repeat' (walk_at "rd")
      refine putI upd_same (mem8 pm hz) (by omega) ?_
      rw [upd_upd]
      have s16 := same_upd (o := .dK (kd ks fun y => .int (if y = z then v else f y))) hb
      have eb : (upd H' b (.dK (kd ks fun y => .int (if y = z then v else f y)))) b = some (.dK (kd ks fun y => .int (if y = z then v else f y))) := upd_same
      generalize upd H' b (.dK (kd ks fun y => .int (if y = z then v else f y))) = H16 at *
      repeat' (walk_at "rd")
      refine ⟨n, b, k, _, rfl, h0, h1, hk, ⟨ks, pm, eb⟩, fun H17 s17 => ?_⟩
      repeat' (walk_at "rd")
      exact ⟨_, _, rfl, (s15.trans s16).trans s17⟩
    rintro σ H' ⟨v10, v11, rfl, s15⟩
    have ec15 := s15 _ _ ec14
    have eK15 := s15 _ _ eK14
    have o15 := o14.same s15
    repeat' (walk_at "rd")
    refine listDkd ec15 fun L1 hL1 => ?_
    repeat' (walk_at "rd")
    refine sortS (.inl (.inl upd_same)) (by omega) pm k8_sorted fun L5 hL5 => ?_
    have t5 := (same_upd (o := .lst (ks.map V.str)) hL1).trans (same_upd (o := .lst (K8.map V.str)) hL5)
    have e5 : (upd (upd H' L1 (.lst (ks.map V.str))) L5 (.lst (K8.map V.str))) L5 = some (.lst (K8.map V.str)) := upd_same
    have n5 : L5 ≠ st := ((o15.same (same_upd (o := .lst (ks.map V.str)) hL1)).off hL5).1
    generalize upd (upd H' L1 (.lst (ks.map V.str))) L5 (.lst (K8.map V.str)) = H16 at *
    refine ⟨st, c, L5, K8.map V.str, rfl, o15.same t5, n5, .inl (.inl e5), by decide, by decide, fun y H17 hy g17 => ?_⟩
    obtain ⟨z2, hz2, rfl⟩ := List.mem_map.mp hy
    have ec17 := g17.keep _ _ ncs (t5 _ _ ec15)
    have eK17 := g17.keep _ _ nLK (t5 _ _ eK15)
    repeat' (walk_at "rd")
    refine dictD ec17 fun b hb => ?_
    have eb0 : (upd H17 b (.dK (kd ks fun z => .int (f z)))) b = some (.dK (kd ks fun z => .int (f z))) := upd_same
    have sB := same_upd (o := .dK (kd ks fun z => .int (f z))) hb
    generalize upd H17 b (.dK (kd ks fun z => .int (f z))) = HB at *
    repeat' (walk_at "rd")
    refine putI eb0 (mem8 pm hz) (by omega) ?_
    obtain ⟨f1, hf1⟩ : ∃ f1 : Str → Int, f1 = fun y => if y = z then f z - 1 else f y := ⟨_, rfl⟩
    rw [show (fun y => V.int (if y = z then f z - 1 else f y)) = fun y => .int (f1 y) by rw [hf1]]
    have eb1 : (upd HB b (.dK (kd ks fun y => .int (f1 y)))) b = some (.dK (kd ks fun y => .int (f1 y))) := upd_same
    have sC := same_put sB hb (.dK (kd ks fun y => .int (f1 y)))
    generalize upd HB b (.dK (kd ks fun y => .int (f1 y))) = HC at *
    repeat' (walk_at "rd")
    refine putI eb1 (mem8 pm hz2) (by omega) ?_
    have s18 := same_put sC hb (.dK (kd ks fun y => .int (if y = z2 then f1 z2 + 1 else f1 y)))
    have eb : (upd HC b (.dK (kd ks fun y => .int (if y = z2 then f1 z2 + 1 else f1 y)))) b = some (.dK (kd ks fun y => .int (if y = z2 then f1 z2 + 1 else f1 y))) := upd_same
    generalize upd HC b (.dK (kd ks fun y => .int (if y = z2 then f1 z2 + 1 else f1 y))) = H18 at *
    repeat' (walk_at "rd")
    refine ⟨n, b, k, _, rfl, h0, h1, hk, ⟨ks, pm, eb⟩, fun H19 s19 => ?_⟩
    have s1719 := s18.trans s19
    repeat' (walk_at "rd")
    exact ⟨_, _, _, _, rfl, s1719 _ _ eK17, s1719 _ _ ec17, g17.ok.same s1719⟩
  · rintro σ H' ⟨v9, v10, v11, v12, rfl, eK', ec', o'⟩
    repeat' (walk_at "rd")
    obtain ⟨k', hk'⟩ := top_of (n := if n - 1 > 0 then n - 1 else 0) (by omega) (by omega)
    refine ⟨_, cs, k', f, rfl, by omega, by omega, hk', ⟨ks, pm, ec'⟩, fun H18 s18 => ?_⟩
    repeat' (walk_at "rd")
    obtain ⟨k'', hk''⟩ := top_of (n := if n + 1 < 32 then n + 1 else 32) (by omega) (by omega)
    refine ⟨_, cs, k'', f, rfl, by omega, by omega, hk'', ⟨ks, pm, s18 _ _ ec'⟩, fun H19 s19 => ?_⟩
    repeat' (walk_at "rd")
    refine ⟨_, cs, k, f, rfl, h0, h1, hk, ⟨ks, pm, s19 _ _ (s18 _ _ ec')⟩, fun H20 s20 => q H20⟩
end
end Kj
namespace Kj
open PySem PySem.Spec PyProof.Rows L2 Rd
/-! ### the top -/
theorem bd_top_level : ∀ (kV doc pm : Value) (an : Option Addr) (cdv ct : Value) (us : List Value), us.length = P_top_level.length → bindArgs (PySem.W.fnOf "top_level" "top_level" (defArgs s_top_level) (defBody s_top_level) (defScope s_top_level) .none kV doc pm an cdv ct) ⟨us, []⟩ = pure (P_top_level.zip us) := fun _ _ _ _ _ _ us hl => match us, hl with | [_], _ => rfl
theorem bd_rise_bound : ∀ (kV doc pm : Value) (an : Option Addr) (cdv ct : Value) (us : List Value), us.length = P_rise_bound.length → bindArgs (PySem.W.fnOf "rise_bound" "rise_bound" (defArgs s_rise_bound) (defBody s_rise_bound) (defScope s_rise_bound) .none kV doc pm an cdv ct) ⟨us, []⟩ = pure (P_rise_bound.zip us) := fun _ _ _ _ _ _ us hl => match us, hl with | [_, _], _ => rfl
theorem bd_step_bound : ∀ (kV doc pm : Value) (an : Option Addr) (cdv ct : Value) (us : List Value), us.length = P_step_bound.length → bindArgs (PySem.W.fnOf "step_bound" "step_bound" (defArgs s_step_bound) (defBody s_step_bound) (defScope s_step_bound) .none kV doc pm an cdv ct) ⟨us, []⟩ = pure (P_step_bound.zip us) := fun _ _ _ _ _ _ us hl => match us, hl with | [_, _, _, _], _ => rfl
theorem bd_is_within : ∀ (kV doc pm : Value) (an : Option Addr) (cdv ct : Value) (us : List Value), us.length = P_is_within.length → bindArgs (PySem.W.fnOf "is_within" "is_within" (defArgs s_is_within) (defBody s_is_within) (defScope s_is_within) .none kV doc pm an cdv ct) ⟨us, []⟩ = pure (P_is_within.zip us) := fun _ _ _ _ _ _ us hl => match us, hl with | [_, _], _ => rfl
theorem bd__law_store : ∀ (kV doc pm : Value) (an : Option Addr) (cdv ct : Value) (us : List Value), us.length = P__law_store.length → bindArgs (PySem.W.fnOf "_law_store" "_law_store" (defArgs s__law_store) (defBody s__law_store) (defScope s__law_store) .none kV doc pm an cdv ct) ⟨us, []⟩ = pure (P__law_store.zip us) := fun _ _ _ _ _ _ us hl => match us, hl with | [_], _ => rfl
theorem bd__law_take : ∀ (kV doc pm : Value) (an : Option Addr) (cdv ct : Value) (us : List Value), us.length = P__law_take.length → bindArgs (PySem.W.fnOf "_law_take" "_law_take" (defArgs s__law_take) (defBody s__law_take) (defScope s__law_take) .none kV doc pm an cdv ct) ⟨us, []⟩ = pure (P__law_take.zip us) := fun _ _ _ _ _ _ us hl => match us, hl with | [_, _], _ => rfl
theorem bd__law_pick : ∀ (kV doc pm : Value) (an : Option Addr) (cdv ct : Value) (us : List Value), us.length = P__law_pick.length → bindArgs (PySem.W.fnOf "_law_pick" "_law_pick" (defArgs s__law_pick) (defBody s__law_pick) (defScope s__law_pick) .none kV doc pm an cdv ct) ⟨us, []⟩ = pure (P__law_pick.zip us) := fun _ _ _ _ _ _ us hl => match us, hl with | [_, _], _ => rfl
theorem bd__law_shuffled : ∀ (kV doc pm : Value) (an : Option Addr) (cdv ct : Value) (us : List Value), us.length = P__law_shuffled.length → bindArgs (PySem.W.fnOf "_law_shuffled" "_law_shuffled" (defArgs s__law_shuffled) (defBody s__law_shuffled) (defScope s__law_shuffled) .none kV doc pm an cdv ct) ⟨us, []⟩ = pure (P__law_shuffled.zip us) := fun _ _ _ _ _ _ us hl => match us, hl with | [_, _], _ => rfl
theorem bd__law_alike : ∀ (kV doc pm : Value) (an : Option Addr) (cdv ct : Value) (us : List Value), us.length = P__law_alike.length → bindArgs (PySem.W.fnOf "_law_alike" "_law_alike" (defArgs s__law_alike) (defBody s__law_alike) (defScope s__law_alike) .none kV doc pm an cdv ct) ⟨us, []⟩ = pure (P__law_alike.zip us) := fun _ _ _ _ _ _ us hl => match us, hl with | [_, _], _ => rfl
theorem bd__law_number : ∀ (kV doc pm : Value) (an : Option Addr) (cdv ct : Value) (us : List Value), us.length = P__law_number.length → bindArgs (PySem.W.fnOf "_law_number" "_law_number" (defArgs s__law_number) (defBody s__law_number) (defScope s__law_number) .none kV doc pm an cdv ct) ⟨us, []⟩ = pure (P__law_number.zip us) := fun _ _ _ _ _ _ us hl => match us, hl with | [_], _ => rfl
theorem bd__law_up_to : ∀ (kV doc pm : Value) (an : Option Addr) (cdv ct : Value) (us : List Value), us.length = P__law_up_to.length → bindArgs (PySem.W.fnOf "_law_up_to" "_law_up_to" (defArgs s__law_up_to) (defBody s__law_up_to) (defScope s__law_up_to) .none kV doc pm an cdv ct) ⟨us, []⟩ = pure (P__law_up_to.zip us) := fun _ _ _ _ _ _ us hl => match us, hl with | [_, _], _ => rfl
theorem bd__law_sentences : ∀ (kV doc pm : Value) (an : Option Addr) (cdv ct : Value) (us : List Value), us.length = P__law_sentences.length → bindArgs (PySem.W.fnOf "_law_sentences" "_law_sentences" (defArgs s__law_sentences) (defBody s__law_sentences) (defScope s__law_sentences) .none kV doc pm an cdv ct) ⟨us, []⟩ = pure (P__law_sentences.zip us) := fun _ _ _ _ _ _ us hl => match us, hl with | [_, _], _ => rfl
theorem bd__law_double : ∀ (kV doc pm : Value) (an : Option Addr) (cdv ct : Value) (us : List Value), us.length = P__law_double.length → bindArgs (PySem.W.fnOf "_law_double" "_law_double" (defArgs s__law_double) (defBody s__law_double) (defScope s__law_double) .none kV doc pm an cdv ct) ⟨us, []⟩ = pure (P__law_double.zip us) := fun _ _ _ _ _ _ us hl => match us, hl with | [_], _ => rfl
theorem bd__law_good_counts : ∀ (kV doc pm : Value) (an : Option Addr) (cdv ct : Value) (us : List Value), us.length = P__law_good_counts.length → bindArgs (PySem.W.fnOf "_law_good_counts" "_law_good_counts" (defArgs s__law_good_counts) (defBody s__law_good_counts) (defScope s__law_good_counts) .none kV doc pm an cdv ct) ⟨us, []⟩ = pure (P__law_good_counts.zip us) := fun _ _ _ _ _ _ us hl => match us, hl with | [_, _], _ => rfl
theorem bd__law_asked : ∀ (kV doc pm : Value) (an : Option Addr) (cdv ct : Value) (us : List Value), us.length = P__law_asked.length → bindArgs (PySem.W.fnOf "_law_asked" "_law_asked" (defArgs s__law_asked) (defBody s__law_asked) (defScope s__law_asked) .none kV doc pm an cdv ct) ⟨us, []⟩ = pure (P__law_asked.zip us) := fun _ _ _ _ _ _ us hl => match us, hl with | [_, _], _ => rfl
theorem bd_law : ∀ (kV doc pm : Value) (an : Option Addr) (cdv ct : Value) (us : List Value), us.length = P_law.length → bindArgs (PySem.W.fnOf "law" "law" (defArgs s_law) (defBody s_law) (defScope s_law) .none kV doc pm an cdv ct) ⟨us, []⟩ = pure (P_law.zip us) := fun _ _ _ _ _ _ us hl => match us, hl with | [_], _ => rfl
theorem all_mk {l : PySem.W.OpenLaw} {w : World} {K : PySem.W.Frag} {h : Heap} {mg : Str → Option Value} {fa f0 : Addr} (X : K.In h) (G : h.Ns mainGlobals mg) (hfa : mg "law" = some (.ref fa))
    (D_top_level : Def K mg "top_level" s_top_level P_top_level) (D_rise_bound : Def K mg "rise_bound" s_rise_bound P_rise_bound) (D_step_bound : Def K mg "step_bound" s_step_bound P_step_bound) (D_is_within : Def K mg "is_within" s_is_within P_is_within) (D__law_store : Def K mg "_law_store" s__law_store P__law_store) (D__law_take : Def K mg "_law_take" s__law_take P__law_take) (D__law_pick : Def K mg "_law_pick" s__law_pick P__law_pick) (D__law_shuffled : Def K mg "_law_shuffled" s__law_shuffled P__law_shuffled) (D__law_alike : Def K mg "_law_alike" s__law_alike P__law_alike) (D__law_number : Def K mg "_law_number" s__law_number P__law_number) (D__law_up_to : Def K mg "_law_up_to" s__law_up_to P__law_up_to) (D__law_sentences : Def K mg "_law_sentences" s__law_sentences P__law_sentences) (D__law_double : Def K mg "_law_double" s__law_double P__law_double) (D__law_good_counts : Def K mg "_law_good_counts" s__law_good_counts P__law_good_counts) (D__law_asked : Def K mg "_law_asked" s__law_asked P__law_asked)
    {od an : Option Addr} {sl : Array (Option Value)} {oc kV dc pm cd ct : Value} (aL : PySem.W.nsIn K mainGlobals "law" = some (some (.ref f0)))
    (lL : K.lookup f0 = some ⟨oc, od, .func (PySem.W.fnOf "law" "law" (defArgs s_law) (defBody s_law) (defScope s_law) .none kV dc pm an cd ct), sl⟩) (cL : PySem.W.codeIn K cd "law" = true) (kL : PySem.W.keepIn K (.ref f0) = true)
    (m_max : mg "max" = none) (m_any : mg "any" = none) (m_list : mg "list" = none) (m_len : mg "len" = none) (m_int : mg "int" = none) (m_reversed : mg "reversed" = none) (m_range : mg "range" = none) (m_isinstance : mg "isinstance" = none) (m_str : mg "str" = none) (m_tuple : mg "tuple" = none) (m_bool : mg "bool" = none) (m_sorted : mg "sorted" = none) (m_min : mg "min" = none) (m_dict : mg "dict" = none) :
    ∃ fd : FuncData, (∀ (s : Shared) (v : Value), BindsTo s fd ⟨[v], []⟩ [("script", v)]) ∧ ∀ base : Heap, K.In base → base.Ns mainGlobals mg → FnOk l.prog w K mg base CX0 12 fa fd ["script"] (spLaw K) := by
  have e := hfa.symm.trans (PySem.W.mg_of X G aL)
  cases e
  have FL := fun_mk (st := s_law) lL cL kL
  refine ⟨PySem.W.fnOf "law" "law" (defArgs s_law) (defBody s_law) (defScope s_law) .none kV dc pm an cd ct, fun s v => .of_eq rfl, fun base _ _ => ?_⟩
  have C_top_level := ok_top_level (P := l.prog) (w := w) (base := base) D_top_level
  have C_rise_bound := ok_rise_bound (P := l.prog) (w := w) (base := base) D_rise_bound m_max C_top_level
  have C_step_bound := ok_step_bound (P := l.prog) (w := w) (base := base) D_step_bound m_max C_top_level
  have C_is_within := ok_is_within (P := l.prog) (w := w) (base := base) D_is_within m_any m_max C_rise_bound C_step_bound
  have C__law_store := ok__law_store (P := l.prog) (w := w) (base := base) D__law_store m_list m_len m_int
  have C__law_take := ok__law_take (P := l.prog) (w := w) (base := base) D__law_take m_int m_len
  have C__law_pick := ok__law_pick (P := l.prog) (w := w) (base := base) D__law_pick m_len C__law_take
  have C__law_shuffled := ok__law_shuffled (P := l.prog) (w := w) (base := base) D__law_shuffled m_list m_reversed m_range m_len C__law_take
  have C__law_alike := ok__law_alike (P := l.prog) (w := w) (base := base) D__law_alike m_isinstance m_str m_list m_tuple m_len m_range m_int m_bool
  have C__law_number := ok__law_number (P := l.prog) (w := w) (base := base) D__law_number C__law_take
  have C__law_up_to := ok__law_up_to (P := l.prog) (w := w) (base := base) D__law_up_to C__law_take
  have C__law_double := ok__law_double (P := l.prog) (w := w) (base := base) D__law_double m_range
  have C__law_sentences := ok__law_sentences (P := l.prog) (w := w) (base := base) D__law_sentences m_max m_range m_sorted m_list C__law_double
  have C__law_good_counts := ok__law_good_counts (P := l.prog) (w := w) (base := base) D__law_good_counts m_min m_max m_range m_sorted m_list C__law_shuffled C__law_number C__law_up_to C__law_double
  have C__law_asked := ok__law_asked (P := l.prog) (w := w) (base := base) D__law_asked m_dict m_sorted m_list C_is_within C__law_alike C__law_sentences
  exact ok_law FL m_max m_range m_dict m_sorted m_list m_min C_rise_bound C_step_bound C_is_within C__law_store C__law_take C__law_pick C__law_alike C__law_number C__law_sentences C__law_double C__law_good_counts C__law_asked
end Kj
open PySem PySem.W PyProof.Rows
set_option maxHeartbeats 0 in
theorem PySem.Challenge.cw_keptjoined_k47_bounds_of_the_counts_holds : PySem.Challenge.rw_keptjoined_k47_bounds_of_the_counts.Holds := by
  w_on; o_law; k_head; (case hw => w_witness2)
  k_fill
  refine L2.walk_of (l := PySem.Challenge.rw_keptjoined_k47_bounds_of_the_counts) (n := 63) (k := 12) (x := "script") (CX := fun _ => L2.CX0) (sp := fun w => Kj.spLaw _) rfl (by decide) rfl ⟨rfl, by decide, by decide⟩ (fun w h Y => PySem.W.kIn_of Y) ?F (fun _ _ a ns hl _ hS => ⟨a, ns, rfl, hS, hl, fun _ => rfl⟩) (fun _ _ _ _ _ h => h)
  case F =>
    intro w mg fa h KX G hmg
    refine' Kj.all_mk KX G hmg (Rd.def_mk KX G ?a0 ?l0 ?c0 ?k0 Kj.bd_top_level) (Rd.def_mk KX G ?a1 ?l1 ?c1 ?k1 Kj.bd_rise_bound) (Rd.def_mk KX G ?a2 ?l2 ?c2 ?k2 Kj.bd_step_bound) (Rd.def_mk KX G ?a3 ?l3 ?c3 ?k3 Kj.bd_is_within) (Rd.def_mk KX G ?a4 ?l4 ?c4 ?k4 Kj.bd__law_store) (Rd.def_mk KX G ?a5 ?l5 ?c5 ?k5 Kj.bd__law_take) (Rd.def_mk KX G ?a6 ?l6 ?c6 ?k6 Kj.bd__law_pick) (Rd.def_mk KX G ?a7 ?l7 ?c7 ?k7 Kj.bd__law_shuffled) (Rd.def_mk KX G ?a8 ?l8 ?c8 ?k8 Kj.bd__law_alike) (Rd.def_mk KX G ?a9 ?l9 ?c9 ?k9 Kj.bd__law_number) (Rd.def_mk KX G ?a10 ?l10 ?c10 ?k10 Kj.bd__law_up_to) (Rd.def_mk KX G ?a11 ?l11 ?c11 ?k11 Kj.bd__law_sentences) (Rd.def_mk KX G ?a12 ?l12 ?c12 ?k12 Kj.bd__law_double) (Rd.def_mk KX G ?a13 ?l13 ?c13 ?k13 Kj.bd__law_good_counts) (Rd.def_mk KX G ?a14 ?l14 ?c14 ?k14 Kj.bd__law_asked) ?aL ?lL ?cL ?kL (PySem.W.mg_none_of KX G ?z0) (PySem.W.mg_none_of KX G ?z1) (PySem.W.mg_none_of KX G ?z2) (PySem.W.mg_none_of KX G ?z3) (PySem.W.mg_none_of KX G ?z4) (PySem.W.mg_none_of KX G ?z5) (PySem.W.mg_none_of KX G ?z6) (PySem.W.mg_none_of KX G ?z7) (PySem.W.mg_none_of KX G ?z8) (PySem.W.mg_none_of KX G ?z9) (PySem.W.mg_none_of KX G ?z10) (PySem.W.mg_none_of KX G ?z11) (PySem.W.mg_none_of KX G ?z12) (PySem.W.mg_none_of KX G ?z13)
    (case a0 => k_is); (case l0 => k_is); (case c0 => k_is); (case k0 => k_is); (case a1 => k_is); (case l1 => k_is); (case c1 => k_is); (case k1 => k_is); (case a2 => k_is); (case l2 => k_is); (case c2 => k_is); (case k2 => k_is); (case a3 => k_is); (case l3 => k_is); (case c3 => k_is); (case k3 => k_is); (case a4 => k_is); (case l4 => k_is); (case c4 => k_is); (case k4 => k_is); (case a5 => k_is); (case l5 => k_is); (case c5 => k_is); (case k5 => k_is); (case a6 => k_is); (case l6 => k_is); (case c6 => k_is); (case k6 => k_is); (case a7 => k_is); (case l7 => k_is); (case c7 => k_is); (case k7 => k_is); (case a8 => k_is); (case l8 => k_is); (case c8 => k_is); (case k8 => k_is); (case a9 => k_is); (case l9 => k_is); (case c9 => k_is); (case k9 => k_is); (case a10 => k_is); (case l10 => k_is); (case c10 => k_is); (case k10 => k_is); (case a11 => k_is); (case l11 => k_is); (case c11 => k_is); (case k11 => k_is); (case a12 => k_is); (case l12 => k_is); (case c12 => k_is); (case k12 => k_is); (case a13 => k_is); (case l13 => k_is); (case c13 => k_is); (case k13 => k_is); (case a14 => k_is); (case l14 => k_is); (case c14 => k_is); (case k14 => k_is); (case aL => k_is); (case lL => k_is); (case cL => k_is); (case kL => k_is); (case z0 => k_is); (case z1 => k_is); (case z2 => k_is); (case z3 => k_is); (case z4 => k_is); (case z5 => k_is); (case z6 => k_is); (case z7 => k_is); (case z8 => k_is); (case z9 => k_is); (case z10 => k_is); (case z11 => k_is); (case z12 => k_is); (case z13 => k_is)
