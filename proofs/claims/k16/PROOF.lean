import PyProof.Rows.All
import Wide.All
import OpenK.AllK
import Wide.FinOn
import HandS.ForMost
import HandS.Conv
import HandS.Rev
import HandS.RevTup
import HandS.Wide
import HandS.IsInst
import HandS.Codes
import PySem.Challenge.RW_keptjoined_k16_shapes_judged
set_option Elab.async false
set_option linter.all false
set_option maxRecDepth 100000
set_option maxHeartbeats 4000000
/-! list(reversed(xs)) of a list: a new list with the items from behind -/
namespace LRev
open PySem RT
section
variable {prog : Program} {w : World} {A : Around} {E : Value → Shared → Prop} {s : Shared} {it l S : Addr} {items : Array Value}
/-- what a filled list tells -/
abbrev Back (items : Array Value) : Nat → Value → Prop := fun i v => items[items.size - 1 - i]? = some v
abbrev After (s : Shared) (S it : Addr) (items : Array Value) (K : Heap → Nat → Array Value → Prop) : Prop :=
  ∀ (g : Heap) (tk : Nat) (out : Array Value) (cap : Nat), (∀ b o, b ≠ S → b ≠ it → s.heap.get? b = some o → g.get? b = some o) →
    g.get? S = some { cls := .type "list", dict := none, data := .seq out cap, slots := #[] } →
      ItemsOf (Back items) out items.size → K g tk out
abbrev OutOf (prog : Program) (w : World) (A : Around) (R : Result → Shared → Prop) : Fin → Shared → Prop := fun fin t =>
  match fin with
  | .done f => R (.ok f) t
  | .again k => k.quiet = true ∧ codeAny (model prog w) A k R t
theorem extend {R : Result → Shared → Prop} (hh : A.handled = none) (hit : s.heap.IsRevIter it l ((items.size : Int) - 1)) (hl : s.heap.IsList l items)
    (hne : l ≠ it) (hz : items.size ≤ sizeLine) (hSi : S ≠ it) (hSl : S ≠ l) (res : Value) (c0 : Nat)
    (hS : s.heap.get? S = some { cls := .type "list", data := .seq #[] c0 })
    (k : After s S it items fun g tk _ => R (.ok (.ret res)) { s with heap := g, toks := tk }) :
    wpAny (model prog w) A.in1 (Builtin.List.listExtendWith (.ref S) (.ref it) res) (OutOf prog w A R) (fun e t => R (.error e) t) s := by
  have W := (Walks.listRev (prog := prog) (w := w) (A := A.in1) hh it l hne items).toS
  have out : S ∉ [it, l] := by
    simp only [List.mem_cons, List.not_mem_nil, or_false, not_or]
    exact ⟨hSi, hSl⟩
  have ty : s.TypeIs (.ref it) "list_reverseiterator" := hit.typeIs
  have other : Builtin.List.listSameRef (.ref S) (.ref it) = false := by simp [Builtin.List.listSameRef, hSi]
  unfold Builtin.List.listExtendWith
  refine wpAny_bind (wpAny_typeOf ty ?_)
  rw [if_neg (by rw [other]; decide)]
  refine wpAny_bind (wpAny_pyIter_revIter hit ?_)
  refine wpAny_bind (wpAny_holding ?_)
  unfold Builtin.List.listLengthHint
  refine wpAny_bind (wpAny_specialOf ty nolen_lri ?_)
  show wpAny _ A.in1 (specialOf (Value.ref it) (Str.ofString "__length_hint__") >>= _) _ _ _
  refine wpAny_bind (wpAny_specialOf ty hint_lri ?_)
  generalize nm : ("list_reverseiterator.__length_hint__" : String) = at0
  wp_delta
  rw [show splitId at0 = some ("list_reverseiterator", "__length_hint__") from by subst nm; decide +kernel]
  subst nm
  refine wpAny_bind (wpAny_isInstance (b := true) ty (by rw [isSubtype_type]; kernel_rfl) ?_)
  refine wpAny_pure ?_
  rw [if_neg (by decide)]
  have at1 : ((items.size : Nat) : Int) - 1 - ((0 : Nat) : Int) = (items.size : Int) - 1 := by omega
  refine wpAny_pure ⟨plainId_quiet F.plain_extend_loop _, ?_⟩
  refine codeAny_extend_loopS W hz _ out _ items.size 0 _ _ _ rfl (Nat.zero_le _) ⟨Nat.zero_le _, by rw [at1]; exact hit, hl⟩ hS (ItemsOf.nil _) fun t got cap mv ht hi => ?_
  rw [Moved.eq_with mv]
  refine k t.heap t.toks got cap (fun b o n1 n2 e => mv.heap b o (fun hm => ?_) e) ht hi
  rcases List.mem_cons.mp hm with e1 | hm
  · exact n1 e1
  · exact n2 (List.mem_singleton.mp hm)
theorem init {R : Result → Shared → Prop} (hh : A.handled = none) (hit : s.heap.IsRevIter it l ((items.size : Int) - 1)) (hl : s.heap.IsList l items)
    (hne : l ≠ it) (hz : items.size ≤ sizeLine) (hSi : S ≠ it) (hSl : S ≠ l) (hS : s.heap.get? S = some { cls := .type "list", data := .seq #[] })
    (k : After s S it items fun g tk _ => R (.ok (.ret .none)) { s with heap := g, toks := tk }) :
    wpAny (model prog w) A.in1 (Builtin.«list.__init__» ⟨[.ref S, .ref it], []⟩) (OutOf prog w A R) (fun e t => R (.error e) t) s := by
  show wpAny _ _ (Builtin.List.listItems (.ref S) >>= fun old => Builtin.List.listUpdate (.ref S) (fun _ => #[]) >>= fun _ => letGo old.toList.reverse >>= fun _ => Builtin.List.listExtendWith (.ref S) (.ref it) .none) _ _ s
  refine wpAny_bind ?_
  unfold Builtin.List.listItems
  refine wpAny_bind (wpAny_seqItems hS rfl (wpAny_pure ?_))
  show wpAny _ _ (updateSeq S (fun _ => #[]) >>= fun _ => (letGo (#[] : Array Value).toList.reverse >>= fun _ => Builtin.List.listExtendWith (.ref S) (.ref it) .none)) _ _ s
  refine wpAny_bind (wpAny_updateSeq hS rfl ?_)
  have hS2 := Heap.get?_update_self (Obj.mapSeq fun _ => (#[] : Array Value)) hS rfl
  have oth : ∀ b o, b ≠ S → s.heap.get? b = some o → (s.heap.update S (Obj.mapSeq fun _ => (#[] : Array Value))).get? b = some o := fun b o n e =>
    (Heap.get?_update_other _ _ (Ne.symm n)).trans e
  refine wpAny_bind (wpAny_letGo ?_)
  obtain ⟨ol, hol, cl, dl⟩ := id hl
  refine extend hh (hit.at fun o e => oth it o (Ne.symm hSi) e) ⟨ol, oth l ol (Ne.symm hSl) hol, cl, dl⟩ hne hz hSi hSl .none _ hS2 fun g tk got cap hk ht hi => ?_
  exact k g tk got cap (fun b o n1 n2 e => hk b o n1 n2 (oth b o n1 e)) ht hi
theorem callRev {Q : Value → Shared → Prop} (hh : A.handled = none) (hit : s.heap.IsRevIter it l ((items.size : Int) - 1)) (hl : s.heap.IsList l items) (hne : l ≠ it) (hz : items.size ≤ sizeLine)
    (k : ∀ (g : Heap) (tk : Nat) (out : Array Value) (cap : Nat), (∀ b o, b ≠ it → s.heap.get? b = some o → g.get? b = some o) →
      g.get? s.heap.objs.size = some { cls := .type "list", dict := none, data := .seq out cap, slots := #[] } → ItemsOf (Back items) out items.size →
        Q (.ref s.heap.objs.size) { s with heap := g, toks := tk }) :
    wpAny (model prog w) A (call (.type "list") [.ref it]) Q E s := by
  refine callType_codes (Q₁ := fun u t => u = .ref s.heap.objs.size ∧ t = { s with heap := s.heap.push { cls := .type "list", data := .seq #[] } })
    F.called_list (F.typeCall_list_1 _) F.entry_list_init (code_list_new _ ⟨rfl, rfl⟩) fun u t hu => ?_
  obtain ⟨rfl, rfl⟩ := hu
  have hS : (s.heap.push { cls := .type "list", data := .seq #[] }).get? s.heap.objs.size = some { cls := .type "list", data := .seq #[] } := Heap.get?_push_size _ rfl
  obtain ⟨oi, hoi, _⟩ := id hit
  obtain ⟨ol, hol, _⟩ := id hl
  refine ⟨⟨_, hS, rfl⟩, F.args_list_init_2 _ _, init (A := A.in1) hh (hit.at fun o e => Heap.get?_push_of_some _ e) (hl.push _) hne hz (Nat.ne_of_gt (Heap.lt_size hoi)) (Nat.ne_of_gt (Heap.lt_size hol)) hS fun g tk out cap hk hg hi => ?_⟩
  exact ⟨rfl, k g tk out cap (fun b o n e => hk b o (Nat.ne_of_lt (Heap.lt_size e)) n (Heap.get?_push_of_some _ e)) hg hi⟩
end
end LRev
namespace L2
open PySem PySem.Spec PyProof.Rows
/-- list(reversed(x)), x a list -/
def tLstRev (K : PySem.W.Frag) (te : TE) : TE := fun σ H Q => te σ H fun v h => ∃ (a : Addr) (xs : List V), v = .ref a ∧ SqL K h a xs ∧
  ∀ q, h q = none → Q (.ref q) (upd h q (.lst xs.reverse))
theorem pe_lstRev {X : Cx} {e : Expr} {te : TE} {p p2 pos pos2 : Pos} (hc : X.calm = true) (hg : Gl X "list") (hm : X.mg "list" = none) (hg2 : Gl X "reversed") (hm2 : X.mg "reversed" = none) (he : PE X e te)
    (n1 : starEach [e] X.env = (false, eval e X.env) :: starEach [] X.env := by rfl)
    (n2 : starEach [.Call (.Name "reversed" p2) [e] [] pos2] X.env = (false, eval (.Call (.Name "reversed" p2) [e] [] pos2) X.env) :: starEach [] X.env := by rfl) :
    PE X (.Call (.Name "list" p) [.Call (.Name "reversed" p2) [e] [] pos2] [] pos) (tLstRev X.K te) := by
  refine ⟨fun pins s σ H Q I h => ?_⟩
  refine Call_ (ld_blt I hg hm boot_list (PyProof.Rows.callWith_type1 (args_cons (Call_ (ld_blt I hg2 hm2 PyProof.Rows.boot_reversed (PyProof.Rows.callWith_type1
    (args_cons (thn (he.run pins s σ H _ I h) fun u s1 ⟨v, H1, I1, r1, q1⟩ => args_nil ?_) n1) n1 rfl))) n2) n2 rfl))
  obtain ⟨a, xs, rfl, hq, q⟩ := q1
  obtain rfl : u = Value.ref a := r1
  obtain ⟨its, rv, pl, hz⟩ := I1.list hq
  refine call_reversed_list pl.isList (args_nil ?_)
  have k0 : ∀ b o, s1.heap.get? b = some o → (s1.heap.push (revObj a ((its.toArray.size : Int) - 1))).get? b = some o := fun b o z => Heap.get?_push_of_some _ z
  have I2 : Inv X pins σ H1 { s1 with heap := s1.heap.push (revObj a ((its.toArray.size : Int) - 1)) } := I1.kept (t' := s1.toks) k0
  obtain ⟨f0, f1, f2, f3, f4, f5⟩ := I1.fpOk (H' := H1) (b := s1.heap.objs.size) (Nat.le_refl _) (I1.hok.fresh (Nat.le_refl _))
  have hl := pl.isList
  obtain ⟨ol, hol, _⟩ := id hl
  have far : a ≠ s1.heap.objs.size := Nat.ne_of_lt (Heap.lt_size hol)
  have fits : its.toArray.size ≤ sizeLine := by
    rw [List.size_toArray, ← rv.length]
    exact hz
  refine LRev.callRev (s := { s1 with heap := s1.heap.push (revObj a ((its.toArray.size : Int) - 1)) }) (I1.ok.hd hc) ⟨_, Heap.get?_push_size _ rfl, rfl, rfl⟩ (hl.push _) far fits fun g tk out cap hk hg hi => ?_
  have sz : (s1.heap.push (revObj a ((its.toArray.size : Int) - 1))).objs.size = s1.heap.objs.size + 1 := Heap.size_push _ _
  generalize hS : (s1.heap.push (revObj a ((its.toArray.size : Int) - 1))).objs.size = S at hg
  have fr : H1 S = none := I1.hok.fresh (by rw [← hS, sz]; exact Nat.le_succ _)
  have J : Inv X pins σ (upd H1 S (.lst xs.reverse)) { s1 with heap := g, toks := tk } :=
    I1.laid (h' := g) (t' := tk) (fun b o z => hk b o (Nat.ne_of_lt (Heap.lt_size z)) (k0 b o z)) (by rw [← hS, sz]; exact Nat.le_succ _)
      ⟨by rw [List.length_reverse]; exact hz, out.toList, cap, RT.vals_rev rv hi, by rw [Array.toArray_toList]; exact hg⟩
  exact ⟨.ref S, _, J, rfl, q S fr⟩
end L2
/-! a stepper for readings -/
namespace Rd
open PySem PySem.Spec PyProof.Rows L2
section
variable {D : Ends} {σ σ' : L2.St} {H : Hp} {Q : VK} {t u : TS} {te ta tb tc : TE} {tt uu : TT} {g : TG} {i : Nat} {v x y z : V} {r r' : R2} {B : Bool → Prop} {ts tr : TA} {n b c : L2.St → Hp → Prop} {rr : VK}
theorem seq (h : t ⟨u ⟨n, rr, b, c⟩, rr, b, c⟩ σ H) : tSeq t u ⟨n, rr, b, c⟩ σ H := h
theorem at0 {N : List Str} {vs : List V} (e : start N vs = σ) (h : t D σ H) : t D (start N vs) H := by
  rw [e]
  exact h
theorem nxt (h : n σ H) : tNext ⟨n, rr, b, c⟩ σ H := h
theorem brk (h : b σ H) : tBreak ⟨n, rr, b, c⟩ σ H := h
theorem cnt (h : c σ H) : tCont ⟨n, rr, b, c⟩ σ H := h
theorem ret (h : te σ H rr) : tRet te ⟨n, rr, b, c⟩ σ H := h
theorem retN (h : rr .non H) : tRetN ⟨n, rr, b, c⟩ σ H := h
theorem drop (h : te σ H fun _ H1 => n σ H1) : tDrop te ⟨n, rr, b, c⟩ σ H := h
theorem ifs (h : tt σ H fun b H1 => if b = true then t D σ H1 else u D σ H1) : tIfS tt t u D σ H := h
theorem asg (h : te σ H fun x H1 => g x σ H1 n) : tAsg te g ⟨n, rr, b, c⟩ σ H := h
theorem gname {P : L2.St → Hp → Prop} (e : σ.set i (some v) = σ') (h : P σ' H) : gName i v σ H P := by
  subst e
  exact h
theorem var (e : σ[i]? = some (some v)) (h : Q v H) : tVar i σ H Q := ⟨v, e, h⟩
theorem con (h : Q v H) : tC v σ H Q := h
theorem op (h : ta σ H fun x H1 => tb σ H1 fun y H2 => r x y H2 Q) : tOp r ta tb σ H Q := h
theorem un {r : V → Hp → VK → Prop} (h : ta σ H fun x H1 => r x H1 Q) : tUn r ta σ H Q := h
theorem test {Q : Bool → Hp → Prop} (h : te σ H fun x H' => ∃ k, x = .bl k ∧ Q k H') : tTest te σ H Q := h
theorem testB {Q : Bool → Hp → Prop} (h : te σ H fun x H' => ∃ k, x = .bl k ∧ Q k H') : tB te σ H Q := h
theorem exbl {P : Bool → Prop} {b : Bool} (h : P b) : ∃ k, V.bl b = V.bl k ∧ P k := ⟨b, rfl, h⟩
theorem and {Q : Bool → Hp → Prop} (h : tt σ H fun c H1 => if c = true then uu σ H1 Q else Q false H1) : tAnd tt uu σ H Q := h
theorem or {Q : Bool → Hp → Prop} (h : tt σ H fun c H1 => if c = true then Q true H1 else uu σ H1 Q) : tOr tt uu σ H Q := h
theorem not {Q : Bool → Hp → Prop} (h : tt σ H fun c H1 => Q (!c) H1) : tNot tt σ H Q := h
theorem andV (h : ta σ H fun x H1 => ∃ c, x = .bl c ∧ if c = true then tb σ H1 Q else Q (.bl false) H1) : tAndV ta tb σ H Q := h
theorem orV (h : ta σ H fun x H1 => ∃ c, x = .bl c ∧ if c = true then Q (.bl true) H1 else tb σ H1 Q) : tOrV ta tb σ H Q := h
theorem notV (h : ta σ H fun x H1 => ∃ c, x = .bl c ∧ Q (.bl (!c)) H1) : tNotV ta σ H Q := h
theorem ife (h : tt σ H fun c H1 => if c = true then ta σ H1 Q else tb σ H1 Q) : tIf tt ta tb σ H Q := h
theorem nil {Q : List V → Hp → Prop} (h : Q [] H) : tNil σ H Q := h
theorem cons {Q : List V → Hp → Prop} (h : te σ H fun x H1 => tr σ H1 fun xs H2 => Q (x :: xs) H2) : tCons te tr σ H Q := h
theorem tup (h : ts σ H fun xs H1 => xs.length ≤ sizeLine ∧ ∀ p, H1 p = none → Q (.ref p) (upd H1 p (.tup xs))) : tTup ts σ H Q := h
theorem lst (h : ts σ H fun xs H1 => xs.length ≤ sizeLine ∧ ∀ p, H1 p = none → Q (.ref p) (upd H1 p (.lst xs))) : tLst ts σ H Q := h
theorem call {sp : Sp} {dvs : List V} {E : XK} (h : ts σ H fun vs H1 => sp (vs ++ dvs) H1 Q E) : tCall sp dvs E ts σ H Q := h
theorem cb {r : List V → Hp → VK → Prop} (h : ts σ H fun vs H1 => r vs H1 Q) : tCB r ts σ H Q := h
theorem chain (h : ta σ H fun x H1 => tb σ H1 fun y H2 => r x y H2 fun z H3 => ∃ k, z = .bl k ∧ (if k = true then tc σ H3 fun w' H4 => r' y w' H4 Q else Q (.bl false) H3)) : tChain r r' ta tb tc σ H Q := h
/-- ints -/
theorem I0 {g : Int → Int → V} {i j : Int} (h : Q (g i j) H) : rI0 g (.int i) (.int j) H Q := ⟨i, j, rfl, rfl, h⟩
theorem I1 {C : Int → Int → Prop} {g : Int → Int → V} {i j : Int} (c : C i j) (h : Q (g i j) H) : rI C g (.int i) (.int j) H Q := ⟨i, j, rfl, rfl, c, h⟩
theorem U1 {g : Int → V} {i : Int} (h : Q (g i) H) : rU g (.int i) H Q := ⟨i, rfl, h⟩
theorem eq (e : scal x y = true) (h : Q (.bl (decide (x = y))) H) : rEq x y H Q := ⟨e, h⟩
theorem ne (e : scal x y = true) (h : Q (.bl (!decide (x = y))) H) : rNe x y H Q := ⟨e, h⟩
/-- tests -/
theorem iteD {p A B : Prop} [Decidable p] (h1 : p → A) (h2 : ¬ p → B) : if decide p = true then A else B := by
  by_cases h : p
  · rw [if_pos (decide_eq_true h)]
    exact h1 h
  · rw [if_neg (by rw [decide_eq_false h]; exact Bool.false_ne_true)]
    exact h2 h
theorem iteN {p A B : Prop} [Decidable p] (h1 : ¬ p → A) (h2 : p → B) : if (!decide p) = true then A else B := by
  by_cases h : p
  · rw [if_neg (by rw [decide_eq_true h]; exact Bool.false_ne_true)]
    exact h2 h
  · rw [if_pos (by rw [decide_eq_false h]; rfl)]
    exact h1 h
theorem iteI {i j : Int} {A B : Prop} (h1 : i = j → A) (h2 : i ≠ j → B) : if decide (V.int i = V.int j) = true then A else B := iteD (fun e => h1 (V.int.inj e)) fun n => h2 fun e => n (by rw [e])
theorem iteNI {i j : Int} {A B : Prop} (h1 : i ≠ j → A) (h2 : i = j → B) : if (!decide (V.int i = V.int j)) = true then A else B := iteN (fun n => h1 fun e => n (by rw [e])) fun e => h2 (V.int.inj e)
theorem iteB {b : Bool} {A B : Prop} (h1 : b = true → A) (h2 : b = false → B) : if b = true then A else B := by
  cases b with
  | true => exact iteT (h1 rfl)
  | false => exact iteF (h2 rfl)
theorem iteNB {b : Bool} {A B : Prop} (h1 : b = false → A) (h2 : b = true → B) : if (!b) = true then A else B := by
  cases b with
  | true => exact iteF (h2 rfl)
  | false => exact iteT (h1 rfl)
theorem rn1 {a : Addr} {A B : Prop} (h : B) : if decide (V.ref a = V.non) = true then A else B := h
theorem in1 {i : Int} {A B : Prop} (h : B) : if decide (V.int i = V.non) = true then A else B := h
theorem sn1 {i : Str} {A B : Prop} (h : B) : if decide (V.str i = V.non) = true then A else B := h
theorem bn1 {i : Bool} {A B : Prop} (h : B) : if decide (V.bl i = V.non) = true then A else B := h
theorem nn1 {A B : Prop} (h : A) : if decide (V.non = V.non) = true then A else B := h
theorem rn2 {a : Addr} {A B : Prop} (h : A) : if (!decide (V.ref a = V.non)) = true then A else B := h
theorem in2 {i : Int} {A B : Prop} (h : A) : if (!decide (V.int i = V.non)) = true then A else B := h
theorem sn2 {i : Str} {A B : Prop} (h : A) : if (!decide (V.str i = V.non)) = true then A else B := h
theorem bn2 {i : Bool} {A B : Prop} (h : A) : if (!decide (V.bl i = V.non)) = true then A else B := h
theorem nn2 {A B : Prop} (h : B) : if (!decide (V.non = V.non)) = true then A else B := h
theorem nt1 {A B : Prop} (h : B) : if (!true) = true then A else B := h
theorem nf1 {A B : Prop} (h : A) : if (!false) = true then A else B := h
theorem pick {c A B : Prop} [Decidable c] (hc : c) (h : A) : if c then A else B := by
  rw [if_pos hc]
  exact h
theorem skip {c A B : Prop} [Decidable c] (hc : ¬ c) (h : B) : if c then A else B := by
  rw [if_neg hc]
  exact h
end
/-! ### calls: a def with all that a caller needs -/
section
variable {P : Program} {w : World} {K : PySem.W.Frag} {mg : Str → Option Value} {base : Heap}
/-- the def of this name stands as the text says -/
def Def (K : PySem.W.Frag) (mg : Str → Option Value) (x : Str) (st : Stmt) (ps : List Str) : Prop := ∃ f fd, Fun K x x st f fd ∧ mg x = some (.ref f) ∧ Binds K fd ps []
/-- the def of this name keeps this promise -/
def Cal (P : Program) (w : World) (K : PySem.W.Frag) (mg : Str → Option Value) (base : Heap) (k : Nat) (x : Str) (ps : List Str) (sp : Sp) : Prop :=
  ∃ f fd, FnOk P w K mg base CX0 k f fd ps sp ∧ mg x = some (.ref f) ∧ PySem.W.keepIn K (.ref f) = true ∧ Binds K fd ps []
theorem Def.ok {x : Str} {st : Stmt} {ps N : List Str} {k : Nat} {sp : Sp} (F : Def K mg x st ps) (S : FnScope N ps (defScope st)) (len : ∀ vs H Q E, sp vs H Q E → vs.length = ps.length)
    (hbody : ∀ (f : Addr) (cdv : Value) (A : Around) (outer : List Env) (s : Shared) (H : Hp) (vs : List V) (Q : VK) (E : XK), Room k (A.deeper (envOfC x (defScope st) s.heap.objs.size f cdv)) → sp vs H Q E →
      ∃ t, PSs (cxOf CX0 P w K mg base N x (defScope st) f cdv A outer s H E).nox (defBody st) t ∧ t { nx := fun _ H' => Q .non H', rt := Q } (start N vs) H) : Cal P w K mg base (k + 1) x ps sp := by
  obtain ⟨f, fd, F, m, b⟩ := F
  exact ⟨f, fd, F.ok S len (fun cdv A outer s H vs Q E hr h => hbody f cdv A outer s H vs Q E hr h), m, F.kp, b⟩
theorem Cal.mono {x : Str} {ps : List Str} {j k : Nat} {sp : Sp} (C : Cal P w K mg base j x ps sp) (h : j ≤ k) : Cal P w K mg base k x ps sp := by
  obtain ⟨f, fd, F, r⟩ := C
  exact ⟨f, fd, F.mono h, r⟩
theorem Cal.imp {x : Str} {ps : List Str} {k : Nat} {sp sp' : Sp} (C : Cal P w K mg base k x ps sp) (h : ∀ vs H Q E, sp' vs H Q E → sp vs H Q E) : Cal P w K mg base k x ps sp' := by
  obtain ⟨f, fd, F, r⟩ := C
  exact ⟨f, fd, F.imp h, r⟩
end
theorem pe_cal {X : Cx} {e : Expr} {es : List Expr} {t : TA} {p pos : Pos} {j k : Nat} {x : Str} {ps : List Str} {sp : Sp} (C : Cal X.prog X.w X.K X.mg X.base j x ps sp) (hr : Room k X.A) (ha : PA X (e :: es) t) (hk : j ≤ k := by decide) (hg : Gl X x := by rfl)
    (hdb : (x == ("__debug__" : Str)) = false := by decide) (he : starEach (e :: es) X.env = (false, eval e X.env) :: starEach es X.env := by rfl) (hpl : (backTo pos (starEach es X.env)).any (·.1) = false := by rfl) :
    PE X (.Call (.Name x p) (e :: es) [] pos) (tCall sp [] E0 t) := by
  obtain ⟨f, fd, F, m, kp, b⟩ := C
  exact pe_call F (hr.mono hk) hg m kp b .nil pass0 ha hdb he hpl
theorem pe_cal0 {X : Cx} {p pos : Pos} {j k : Nat} {x : Str} {sp : Sp} (C : Cal X.prog X.w X.K X.mg X.base j x [] sp) (hr : Room k X.A) (hk : j ≤ k := by decide) (hg : Gl X x := by rfl)
    (hdb : (x == ("__debug__" : Str)) = false := by decide) :
    PE X (.Call (.Name x p) [] [] pos) (tCall sp [] E0 tNil) := by
  obtain ⟨f, fd, F, m, kp, b⟩ := C
  exact pe_call0 F (hr.mono hk) hg m kp b .nil pass0 hdb
/-- nothing is promised of a call that is never made -/
theorem Def.none {P : Program} {w : World} {K : PySem.W.Frag} {mg : Str → Option Value} {base : Heap} {x : Str} {st : Stmt} {ps : List Str} (D : Def K mg x st ps) : Cal P w K mg base 0 x ps fun _ _ _ _ => False := by
  obtain ⟨f, fd, F, m, b⟩ := D
  exact ⟨f, fd, ⟨fun _ _ _ _ h => h.elim, fun _ _ _ _ _ _ _ _ _ _ _ _ _ h => h.elim⟩, m, F.kp, b⟩
/-- what the top has left of a def -/
theorem def_mk {K : PySem.W.Frag} {mg : Str → Option Value} {h : Heap} {x : Str} {st : Stmt} {ps : List Str} {f : Addr} {oc : Value} {od an : Option Addr} {osl : Array (Option Value)} {kV dc pm cdv ct : Value} (X : K.In h) (G : h.Ns mainGlobals mg)
    (a : PySem.W.nsIn K mainGlobals x = some (some (.ref f))) (l : K.lookup f = some ⟨oc, od, .func (PySem.W.fnOf x x (defArgs st) (defBody st) (defScope st) .none kV dc pm an cdv ct), osl⟩) (c : PySem.W.codeIn K cdv x = true) (k : PySem.W.keepIn K (.ref f) = true)
    (hb : ∀ (kV doc pm : Value) (an : Option Addr) (cdv ct : Value) (us : List Value), us.length = ps.length → bindArgs (PySem.W.fnOf x x (defArgs st) (defBody st) (defScope st) .none kV doc pm an cdv ct) ⟨us, []⟩ = pure (ps.zip us)) : Def K mg x st ps :=
  ⟨f, _, fun_mk l c k, PySem.W.mg_of X G a, (fun_mk l c k).binds hb⟩
end Rd
namespace Rd
open PySem PySem.Spec PyProof.Rows L2
/-! ### built-ins with a reading of their own name -/
def rIntI : List V → Hp → VK → Prop := fun xs H Q => ∃ i, xs = [.int i] ∧ Q (.int i) H
def rIntB : List V → Hp → VK → Prop := fun xs H Q => ∃ k, xs = [.bl k] ∧ Q (.int (if k then 1 else 0)) H
def rLenQ (K : PySem.W.Frag) : List V → Hp → VK → Prop := fun xs H Q => ∃ p ys, xs = [.ref p] ∧ (SqL K H p ys ∨ SqT K H p ys) ∧ Q (.int ys.length) H
def rLenZ : List V → Hp → VK → Prop := fun xs H Q => ∃ z, xs = [.str z] ∧ z.length ≤ sizeLine ∧ Q (.int z.length) H
def rListQ (K : PySem.W.Frag) : List V → Hp → VK → Prop := fun xs H Q => ∃ p ys, xs = [.ref p] ∧ (SqL K H p ys ∨ SqT K H p ys) ∧ ∀ l, H l = none → Q (.ref l) (upd H l (.lst ys))
def rTupQ (K : PySem.W.Frag) : List V → Hp → VK → Prop := fun xs H Q => ∃ p ys, xs = [.ref p] ∧ SqL K H p ys ∧ ∀ l, H l = none → Q (.ref l) (upd H l (.tup ys))
def rMaxQ : List V → Hp → VK → Prop := fun xs H Q => ∃ i j, xs = [.int i, .int j] ∧ Q (.int (if j > i then j else i)) H
def rMinQ : List V → Hp → VK → Prop := fun xs H Q => ∃ i j, xs = [.int i, .int j] ∧ Q (.int (if j < i then j else i)) H
def rAbsQ : List V → Hp → VK → Prop := fun xs H Q => ∃ i, xs = [.int i] ∧ Q (.int (if i < 0 then -i else i)) H
def rStrQ : List V → Hp → VK → Prop := fun xs H Q => ∃ i, xs = [.int i] ∧ i.natAbs.log2 < 1920 ∧ Q (.str (toString i)) H
def rAddZ : R2 := fun x y H Q => ∃ i j, x = .str i ∧ y = .str j ∧ i.length + j.length ≤ sizeLine ∧ Q (.str (i ++ j)) H
def rInZ : R2 := fun x y H Q => ∃ (c : Nat) (z : Str), x = .str ⟨#[c]⟩ ∧ y = .str z ∧ Q (.bl (decide (c ∈ z.cps.toList))) H
def rNiZ : R2 := fun x y H Q => ∃ (c : Nat) (z : Str), x = .str ⟨#[c]⟩ ∧ y = .str z ∧ Q (.bl (!decide (c ∈ z.cps.toList))) H
def rLtZ : R2 := fun x y H Q => ∃ i j, x = .str i ∧ y = .str j ∧ Q (.bl (decide (i.cps.toList < j.cps.toList))) H
def rIsN : R2 := fun x y H Q => y = .non ∧ Q (.bl (decide (x = .non))) H
def rNoN : R2 := fun x y H Q => y = .non ∧ Q (.bl (!decide (x = .non))) H
section
variable {X : Cx}
theorem q_intI : CallR X (.type "int") rIntI := fun pins s σ H xs us Q I r h => call_int1 pins s σ H xs us Q I r (.inl h)
theorem q_intB : CallR X (.type "int") rIntB := fun pins s σ H xs us Q I r h => call_int1 pins s σ H xs us Q I r (.inr h)
theorem q_len : CallR X (.builtin "len") (rLenQ X.K) := call_len_seq
theorem q_lenZ : CallR X (.builtin "len") rLenZ := call_len_str
theorem q_list : CallR X (.type "list") (rListQ X.K) := call_list_of
theorem q_tup : CallR X (.type "tuple") (rTupQ X.K) := fun pins s σ H xs us Q I r ⟨p, ys, e, h, q⟩ => call_tuple_of pins s σ H xs us Q I r ⟨p, ys, e, .inl ⟨h, q⟩⟩
theorem q_max (hc : X.calm = true) : CallR X (.builtin "max") rMaxQ := call_max2 hc
theorem q_min (hc : X.calm = true) : CallR X (.builtin "min") rMinQ := call_min2 hc
theorem q_abs : CallR X (.builtin "abs") rAbsQ := call_abs
theorem q_str : CallR X (.type "str") rStrQ := call_str_int
theorem o_addZ : OpR X (binaryOp .Add) rAddZ := op_add_str
theorem o_inZ : OpR X (compareOp .In) rInZ := op_in_sign
theorem o_niZ : OpR X (compareOp .NotIn) rNiZ := op_notIn_sign
theorem o_ltZ : OpR X (compareOp .Lt) rLtZ := op_lt_str
theorem o_isN : OpR X (compareOp .Is) rIsN := op_isN
theorem o_noN : OpR X (compareOp .IsNot) rNoN := op_notN
end
section
variable {K : PySem.W.Frag} {D : Ends} {σ σ' : L2.St} {H : Hp} {Q : VK} {to ti te tb : TE} {t : TSet} {v x y : V} {p q : Addr} {xs ys : List V} {i j k : Int} {a b' : Str} {n b c : L2.St → Hp → Prop} {rr : VK}
theorem intI (h : Q (.int i) H) : rIntI [.int i] H Q := ⟨i, rfl, h⟩
theorem intB {c : Bool} (h : Q (.int (if c then 1 else 0)) H) : rIntB [.bl c] H Q := ⟨c, rfl, h⟩
theorem lenQ (h : SqL K H p xs ∨ SqT K H p xs) (g : Q (.int xs.length) H) : rLenQ K [.ref p] H Q := ⟨p, xs, rfl, h, g⟩
theorem lenZ (h : a.length ≤ sizeLine) (g : Q (.int a.length) H) : rLenZ [.str a] H Q := ⟨a, rfl, h, g⟩
theorem listQ (h : SqL K H p xs ∨ SqT K H p xs) (g : ∀ l, H l = none → Q (.ref l) (upd H l (.lst xs))) : rListQ K [.ref p] H Q := ⟨p, xs, rfl, h, g⟩
theorem tupQ (h : SqL K H p xs) (g : ∀ l, H l = none → Q (.ref l) (upd H l (.tup xs))) : rTupQ K [.ref p] H Q := ⟨p, xs, rfl, h, g⟩
theorem maxQ (h : Q (.int (if j > i then j else i)) H) : rMaxQ [.int i, .int j] H Q := ⟨i, j, rfl, h⟩
theorem minQ (h : Q (.int (if j < i then j else i)) H) : rMinQ [.int i, .int j] H Q := ⟨i, j, rfl, h⟩
theorem absQ (h : Q (.int (if i < 0 then -i else i)) H) : rAbsQ [.int i] H Q := ⟨i, rfl, h⟩
theorem strQ (c : i.natAbs.log2 < 1920) (h : Q (.str (toString i)) H) : rStrQ [.int i] H Q := ⟨i, rfl, c, h⟩
theorem addZ (c : a.length + b'.length ≤ sizeLine) (h : Q (.str (a ++ b')) H) : rAddZ (.str a) (.str b') H Q := ⟨a, b', rfl, rfl, c, h⟩
theorem inZ {c : Nat} (h : Q (.bl (decide (c ∈ a.cps.toList))) H) : rInZ (.str ⟨#[c]⟩) (.str a) H Q := ⟨c, a, rfl, rfl, h⟩
theorem niZ {c : Nat} (h : Q (.bl (!decide (c ∈ a.cps.toList))) H) : rNiZ (.str ⟨#[c]⟩) (.str a) H Q := ⟨c, a, rfl, rfl, h⟩
theorem ltZ (h : Q (.bl (decide (a.cps.toList < b'.cps.toList))) H) : rLtZ (.str a) (.str b') H Q := ⟨a, b', rfl, rfl, h⟩
theorem isN (h : Q (.bl (decide (x = .non))) H) : rIsN x .non H Q := ⟨rfl, h⟩
theorem noN (h : Q (.bl (!decide (x = .non))) H) : rNoN x .non H Q := ⟨rfl, h⟩
theorem ixL (h : SqL K H p xs) (e : atI xs i = some v) (g : Q v H) : rIxL K (.ref p) (.int i) H Q := ⟨p, xs, i, v, rfl, rfl, h, e, g⟩
theorem ixI {ns : List Int} (h : SqL K H p (ns.map V.int)) (h0 : 0 ≤ i) (h1 : i < ((ns.map V.int).length : Int)) (g : ∀ z, z ∈ ns → Q (.int z) H) : rIxL K (.ref p) (.int i) H Q := by
  rw [List.length_map] at h1
  have hj : i.toNat < ns.length := by omega
  have e : atI (ns.map V.int) ((i.toNat : Nat) : Int) = some (.int ns[i.toNat]) := atI_nat (by rw [List.getElem?_map, List.getElem?_eq_getElem hj]; rfl)
  rw [show ((i.toNat : Nat) : Int) = i by omega] at e
  exact ⟨p, _, i, _, rfl, rfl, h, e, g _ (List.getElem_mem hj)⟩
theorem ixT (h : SqT K H p xs) (e : atI xs i = some v) (g : Q v H) : rIxT K (.ref p) (.int i) H Q := ⟨p, xs, i, v, rfl, rfl, h, e, g⟩
theorem ixZ {c : Nat} (h : a.length ≤ sizeLine) (e : atI a.cps.toList i = some c) (g : Q (.str ⟨#[c]⟩) H) : rIxS (.str a) (.int i) H Q := ⟨a, i, c, rfl, rfl, h, e, g⟩
theorem gsub {P : L2.St → Hp → Prop} (h : to σ H fun o H1 => ti σ H1 fun i H2 => t o i v H2 fun H3 => P σ H3) : gSub to ti t v σ H P := h
theorem setL {P : Hp → Prop} {j : Nat} (h : H p = some (.lst xs)) (e : ixN xs.length k = some j) (e2 : xs.set j v = ys) (g : P (upd H p (.lst ys))) : rSetL (.ref p) (.int k) v H P := by
  subst e2
  exact ⟨p, xs, k, j, rfl, rfl, h, e, g⟩
theorem append (h : H p = some (.lst xs)) (c : xs.length < sizeLine) (g : Q .non (upd H p (.lst (xs ++ [y])))) : rAppend (.ref p) [y] H Q := ⟨p, xs, y, rfl, rfl, h, c, g⟩
theorem pop (h : H p = some (.lst xs)) (e : xs[xs.length - 1]? = some y) (g : Q y (upd H p (.lst xs.dropLast))) : rPop (.ref p) [] H Q := ⟨p, xs, y, rfl, rfl, h, e, g⟩
theorem cat (h : H p = some (.lst xs)) (h' : H q = some (.lst ys)) (c : xs.length + ys.length ≤ sizeLine) (g : ∀ l, H l = none → Q (.ref l) (upd H l (.lst (xs ++ ys)))) : rCat (.ref p) (.ref q) H Q := ⟨p, q, xs, ys, rfl, rfl, h, h', c, g⟩
theorem bm {T : String} {r : V → List V → Hp → VK → Prop} {ts : TA} (h : to σ H fun x H1 => tyV K T x H1 ∧ ts σ H1 fun xs H2 => r x xs H2 Q) : tBM K T r to ts σ H Q := h
theorem bm0 {T : String} {r : V → List V → Hp → VK → Prop} (h : to σ H fun x H1 => tyV K T x H1 ∧ r x [] H1 Q) : tBM0 K T r to σ H Q := h
theorem tyL {B : Prop} (h : H p = some (.lst xs)) (g : B) : tyV K "list" (.ref p) H ∧ B := ⟨.inl ⟨rfl, _, .inl (.inl h)⟩, g⟩
theorem gtup {n : Nat} {t : TGs} {P : L2.St → Hp → Prop} (h : SqT K H p xs) (e : xs.length = n) (g : t xs σ H P) : gTup K n t (.ref p) σ H P := ⟨p, xs, rfl, h, e, g⟩
theorem gnil {P : L2.St → Hp → Prop} (h : P σ H) : gNil [] σ H P := ⟨rfl, h⟩
theorem gcons {t : TG} {u : TGs} {P : L2.St → Hp → Prop} (h : t v σ H fun σ' H' => u xs σ' H' P) : gCons t u (v :: xs) σ H P := ⟨v, xs, rfl, h⟩
theorem par {i j : Nat} {ta : TA} (h : ta σ H fun vs H1 => ∃ v w, vs = [v, w] ∧ n ((σ.set i (some v)).set j (some w)) H1) : tPar i j ta ⟨n, rr, b, c⟩ σ H := h
theorem expar {P' : V → V → Prop} (h : P' x y) : ∃ v w, [x, y] = [v, w] ∧ P' v w := ⟨x, y, rfl, h⟩
theorem aug {i : Nat} {ti : TIp} (e : σ[i]? = some (some x)) (h : te σ H fun y H1 => ti x y H1 fun z H2 => n (σ.set i (some z)) H2) : tAug i te ti ⟨n, rr, b, c⟩ σ H := ⟨x, e, h⟩
theorem ipi {f : Int → Int → Int} (h : Q (.int (f i j)) H) : ipI f (.int i) (.int j) H Q := ⟨i, j, rfl, rfl, h⟩
theorem slice {r : V → Option Int → Option Int → Hp → VK → Prop} {tl th : TO} (h : te σ H fun x H1 => tl σ H1 fun l H2 => th σ H2 fun u H3 => r x l u H3 Q) : tSl r te tl th σ H Q := h
theorem noPart {P : Option Int → Hp → Prop} (h : P none H) : tNoPart σ H P := h
theorem part {P : Option Int → Hp → Prop} (h : te σ H fun x H1 => ∃ i, x = .int i ∧ P (some i) H1) : tPart te σ H P := h
theorem slL {lo hi : Option Int} (h : SqL K H p xs) (g : ∀ l, H l = none → Q (.ref l) (upd H l (.lst (cutV xs lo hi)))) : rSlL K (.ref p) lo hi H Q := ⟨p, xs, rfl, h, g⟩
theorem slZ {lo hi : Option Int} (h : a.length ≤ sizeLine) (g : Q (.str (cutS a lo hi)) H) : rSlS (.str a) lo hi H Q := ⟨a, rfl, h, g⟩
theorem exint {P' : Int → Prop} (h : P' i) : ∃ j, V.int i = V.int j ∧ P' j := ⟨i, rfl, h⟩
/-- what a loop walks -/
theorem iseq {R : It → Hp → Prop} (h : te σ H fun x H1 => ∃ a, x = .ref a ∧ (∃ xs, SqL K H1 a xs) ∧ R (Itl K a) H1) : iList K te σ H R := h
theorem exlst {P' : Addr → Prop} (h : SqL K H p ys) (g : P' p) : ∃ a, V.ref p = V.ref a ∧ (∃ zs, SqL K H a zs) ∧ P' a := ⟨p, rfl, ⟨ys, h⟩, g⟩
theorem irng1 {ta : TA} {R : It → Hp → Prop} (h : ta σ H fun vs H1 => ∃ j : Int, vs = [.int j] ∧ -(2 ^ 62) ≤ j ∧ j < 2 ^ 62 ∧ R (Itr 0 j.toNat) H1) : iRng1 ta σ H R := h
theorem exrng1 {P' : Int → Prop} (c : -(2 ^ 62) ≤ i ∧ i < 2 ^ 62) (h : P' i) : ∃ j : Int, [V.int i] = [V.int j] ∧ -(2 ^ 62) ≤ j ∧ j < 2 ^ 62 ∧ P' j := ⟨i, rfl, c.1, c.2, h⟩
theorem irng2 {ta : TA} {R : It → Hp → Prop} (h : ta σ H fun vs H1 => ∃ i j : Int, vs = [.int i, .int j] ∧ (-(2 ^ 62) ≤ i ∧ i < 2 ^ 62 ∧ -(2 ^ 62) ≤ j ∧ j < 2 ^ 62) ∧ R (Itr i (j - i).toNat) H1) : iRng2 ta σ H R := h
theorem exrng2 {P' : Int → Int → Prop} (c : -(2 ^ 62) ≤ i ∧ i < 2 ^ 62 ∧ -(2 ^ 62) ≤ j ∧ j < 2 ^ 62) (h : P' i j) : ∃ a b : Int, [V.int i, V.int j] = [V.int a, V.int b] ∧ (-(2 ^ 62) ≤ a ∧ a < 2 ^ 62 ∧ -(2 ^ 62) ≤ b ∧ b < 2 ^ 62) ∧ P' a b := ⟨i, j, rfl, c, h⟩
end
end Rd
/-! ### loops and comprehensions, what is walked apart from what is done -/
namespace Rd
open PySem PySem.Spec PyProof.Rows L2
/-- a for over a walk that has begun; a comprehension over one -/
def ForB (J : It) (g : TG) (tb : TS) (D : Ends) (σ : L2.St) (H : Hp) : Prop := tFor (fun _ H1 R => R J H1) g tb D σ H
def LcB (J : It) (g : TG) (tt : TT) (te : TE) (vs : List Nat) (σ : L2.St) (H : Hp) (Q : VK) : Prop := tLc (fun _ H1 R => R J H1) g tt te vs σ H Q
section
variable {K : PySem.W.Frag} {wi : TI} {g : TG} {tb : TS} {D : Ends} {σ : L2.St} {H : Hp} {tt : TT} {te : TE} {vs : List Nat} {Q : VK} {a : Addr} {xs : List V} {n b c : L2.St → Hp → Prop} {rr : VK} {lo : Int} {m : Nat} {P : Prop}
theorem forX (h : wi σ H fun J H1 => ForB J g tb D σ H1) : tFor wi g tb D σ H := h
theorem lcX (h : wi σ H fun J H1 => LcB J g tt te vs σ H1 Q) : tLc wi g tt te vs σ H Q := h
theorem forL (xs : List V) (Pv : Nat → L2.St → Hp → Prop) (h0 : Pv 0 σ H) (hl : ∀ i σ H, i ≤ xs.length → Pv i σ H → SqL K H a xs)
    (hs : ∀ i x σ H, xs[i]? = some x → Pv i σ H → g x σ H fun σ2 H2 => tb ⟨Pv (i + 1), rr, n, Pv (i + 1)⟩ σ2 H2) (hd : ∀ σ H, Pv xs.length σ H → n σ H) : ForB (Itl K a) g tb ⟨n, rr, b, c⟩ σ H :=
  for_list (D := ⟨n, rr, b, c⟩) Pv h0 hl hs hd
theorem forR (Pv : Nat → L2.St → Hp → Prop) (h0 : Pv 0 σ H)
    (hs : ∀ i σ H, i < m → Pv i σ H → g (.int (lo + i)) σ H fun σ2 H2 => tb ⟨Pv (i + 1), rr, n, Pv (i + 1)⟩ σ2 H2) (hd : ∀ σ H, Pv m σ H → n σ H) : ForB (Itr lo m) g tb ⟨n, rr, b, c⟩ σ H :=
  for_range (D := ⟨n, rr, b, c⟩) Pv h0 hs hd
/-- what a comprehension's turn is to do, at the new list L -/
def Turn1 (g : TG) (tt : TT) (te : TE) (vs : List Nat) (σ : L2.St) (L : Addr) (x : V) (h : Hp) (Nx : Hp → Prop) : Prop :=
  g x (wipe σ vs) h fun σ2 h2 => wipe σ2 vs = wipe σ vs ∧
    tt σ2 h2 fun k h3 => if k = true then (te σ2 h3 fun y h4 => ∃ out, h4 L = some (.lst out) ∧ out.length < sizeLine ∧ Nx (upd h4 L (.lst (out ++ [y])))) else Nx h3
theorem lcL (xs : List V) (f : ∀ L, H L = none → ∃ Pv : Nat → Hp → Prop, Pv 0 (upd H L (.lst [])) ∧ (∀ i h, i ≤ xs.length → Pv i h → SqL K h a xs) ∧
    (∀ i x h, xs[i]? = some x → Pv i h → Turn1 g tt te vs σ L x h (Pv (i + 1))) ∧ ∀ h, Pv xs.length h → Q (.ref L) h) : LcB (Itl K a) g tt te vs σ H Q := fun L hL => by
  obtain ⟨Pv, h0, hl, hs, hd⟩ := f L hL
  exact lc_list (Qd := Q (.ref L)) Pv h0 hl hs hd
theorem lcR (f : ∀ L, H L = none → ∃ Pv : Nat → Hp → Prop, Pv 0 (upd H L (.lst [])) ∧
    (∀ i h, i < m → Pv i h → Turn1 g tt te vs σ L (.int (lo + i)) h (Pv (i + 1))) ∧ ∀ h, Pv m h → Q (.ref L) h) : LcB (Itr lo m) g tt te vs σ H Q := fun L hL => by
  obtain ⟨Pv, h0, hs, hd⟩ := f L hL
  exact lc_range (Qd := Q (.ref L)) Pv h0 hs hd
theorem turn1 {L : Addr} {x : V} {h : Hp} {Nx : Hp → Prop} (q : g x (wipe σ vs) h fun σ2 h2 => wipe σ2 vs = wipe σ vs ∧
    tt σ2 h2 fun k h3 => if k = true then (te σ2 h3 fun y h4 => ∃ out, h4 L = some (.lst out) ∧ out.length < sizeLine ∧ Nx (upd h4 L (.lst (out ++ [y])))) else Nx h3) : Turn1 g tt te vs σ L x h Nx := q
theorem andI {A B : Prop} (h1 : A) (h2 : B) : A ∧ B := ⟨h1, h2⟩
theorem yes {Q' : Bool → Hp → Prop} (h : Q' true H) : tYes σ H Q' := h
theorem irR {ta : TA} {R : It → Hp → Prop} (h : ta σ H fun vs H1 => ∃ j : Int, vs = [.int j] ∧ -(2 ^ 62) ≤ j ∧ j < 2 ^ 62 ∧ R (Itr 0 j.toNat) H1) : iRng1 ta σ H R := h
/-- an item of a list of ints -/
theorem int_at {ns : List Int} {i : Nat} {x : V} (h : (ns.map V.int)[i]? = some x) : ∃ z, ns[i]? = some z ∧ x = .int z := by
  rw [List.getElem?_map] at h
  cases e : ns[i]? with
  | none =>
    rw [e] at h
    cases h
  | some z =>
    rw [e] at h
    exact ⟨z, rfl, (Option.some.inj h).symm⟩
theorem same_upd {H : Hp} {p : Addr} {o : HO} (h : H p = none) : Same H (upd H p o) := fun b x e => by
  rw [upd_ne (ne_of_none e h)]
  exact e
/-- a new object stands beside what stood -/
theorem new_ne {H : Hp} {p q : Addr} {o : HO} (h : H p = some o) (h' : H q = none) : q ≠ p := fun e => by
  rw [e, h] at h'
  cases h'
theorem free_of {H H' : Hp} {p : Addr} (h : H' p = none) (k : ∀ b o, H b = some o → H' b = some o) : H p = none := by
  cases e : H p with
  | none => rfl
  | some o =>
    rw [k p o e] at h
    cases h
end
end Rd
namespace Rd
open PySem PySem.Spec PyProof.Rows L2
section
variable {K : PySem.W.Frag} {D : Ends} {σ : L2.St} {H : Hp} {te ta tb : TE} {Q : VK} {p : Addr} {xs : List V} {i j : Int}
theorem lstRev (h : te σ H fun v h => ∃ a zs, v = .ref a ∧ SqL K h a zs ∧ ∀ q, h q = none → Q (.ref q) (upd h q (.lst zs.reverse))) : tLstRev K te σ H Q := h
theorem exrev {P' : List V → Prop} (h : SqL K H p xs) (g : P' xs) : ∃ a zs, V.ref p = V.ref a ∧ SqL K H a zs ∧ P' zs := ⟨p, xs, rfl, h, g⟩
theorem lstRg {tr : L2.St → Hp → (Int → Int → Hp → Prop) → Prop} (h : tr σ H fun a b H1 => RgOk a b ∧ ∀ q, H1 q = none → Q (.ref q) (upd H1 q (.lst (rgV a b)))) : tLstRg tr σ H Q := h
theorem rg1 {P' : Int → Int → Hp → Prop} (h : ta σ H fun x H1 => ∃ m, x = .int m ∧ P' 0 m H1) : tRg1 ta σ H P' := h
theorem rg2 {P' : Int → Int → Hp → Prop} (h : ta σ H fun x H1 => tb σ H1 fun y H2 => ∃ a b, x = .int a ∧ y = .int b ∧ P' a b H2) : tRg2 ta tb σ H P' := h
theorem exint2 {P' : Int → Int → Prop} (h : P' i j) : ∃ a b, V.int i = V.int a ∧ V.int j = V.int b ∧ P' a b := ⟨i, j, rfl, rfl, h⟩
/-- an item at an open place -/
theorem ixN' {i : Int} {x : V} (h : SqL K H p xs) (h0 : 0 ≤ i) (h1 : xs[i.toNat]? = some x) (g : Q x H) : rIxL K (.ref p) (.int i) H Q := by
  have e : atI xs ((i.toNat : Nat) : Int) = some x := atI_nat h1
  rw [show ((i.toNat : Nat) : Int) = i by omega] at e
  exact ⟨p, xs, i, x, rfl, rfl, h, e, g⟩
theorem ixT' {i : Int} {x : V} (h : SqT K H p xs) (h0 : 0 ≤ i) (h1 : xs[i.toNat]? = some x) (g : Q x H) : rIxT K (.ref p) (.int i) H Q := by
  have e : atI xs ((i.toNat : Nat) : Int) = some x := atI_nat h1
  rw [show ((i.toNat : Nat) : Int) = i by omega] at e
  exact ⟨p, xs, i, x, rfl, rfl, h, e, g⟩
theorem setN' {P' : Hp → Prop} {k : Int} {v : V} (h : H p = some (.lst xs)) (h0 : 0 ≤ k) (h1 : k < (xs.length : Int)) (g : P' (upd H p (.lst (xs.set k.toNat v)))) : rSetL (.ref p) (.int k) v H P' := by
  refine ⟨p, xs, k, k.toNat, rfl, rfl, h, ?_, g⟩
  unfold ixN
  rw [if_pos h0, if_pos h1]
end
theorem swap_perm {α : Type} {l : List α} {i j : Nat} {x y : α} (hx : l[i]? = some x) (hy : l[j]? = some y) : ((l.set i y).set j x).Perm l := by
  obtain ⟨hi, e1⟩ := List.getElem?_eq_some_iff.mp hx
  obtain ⟨hj, e2⟩ := List.getElem?_eq_some_iff.mp hy
  rw [← e1, ← e2]
  exact List.set_set_perm hi hj
end Rd
/-! ### data, and what isinstance says of it -/
namespace Rd
open PySem PySem.Spec PyProof.Rows L2
def tys : List String := ["NoneType", "bool", "int", "str", "list", "tuple", "dict"]
def isT (t T : String) : Bool := t == T || (t == "bool" && T == "int")
theorem kit_all : ∀ t ∈ tys, ∀ T ∈ tys.tail, kitB t T = some (isT t T) := by decide +kernel
def tn : PyData → String
  | .none => "NoneType"
  | .bool _ => "bool"
  | .int _ => "int"
  | .str _ => "str"
  | .list _ => "list"
  | .tuple _ => "tuple"
  | .dict _ => "dict"
section
variable {K : PySem.W.Frag} {H : Hp} {x y : V} {d : PyData} {a : Addr} {xs : List V} {Q : VK}
theorem tyL' (h : SqL K H a xs) : TyX K H (.ref a) (.type "list") := by
  rcases h with (h | ⟨o, h⟩) | ⟨o, its, n, h, c, _⟩
  · exact .base (.lst h)
  · exact .base (.frz h)
  · exact .kList h c
theorem tyT' (h : SqT K H a xs) : TyX K H (.ref a) (.type "tuple") := by
  rcases h with (h | ⟨o, h⟩) | ⟨o, its, n, h, c, _⟩
  · exact .base (.tup h)
  · exact .fTuple h
  · exact .kTuple h c
theorem isi {t T : String} {b : Bool} (ty : TyX K H x (.type t)) (ht : t ∈ tys) (hT : T ∈ tys.tail) (e : isT t T = b) (q : Q (.bl b) H) : rIsi K [x, .ty T] H Q := by
  subst e
  exact ⟨x, .ty T, _, _, _, rfl, .ty T, ty, kit_ty (kit_all t ht T hT), q⟩
theorem isiT {t T : String} (ty : TyX K H x (.type t)) (e : (t ∈ tys ∧ T ∈ tys.tail) ∧ isT t T = true) (q : Q (.bl true) H) : rIsi K [x, .ty T] H Q := isi ty e.1.1 e.1.2 e.2 q
theorem isiF {t T : String} (ty : TyX K H x (.type t)) (e : (t ∈ tys ∧ T ∈ tys.tail) ∧ isT t T = false) (q : Q (.bl false) H) : rIsi K [x, .ty T] H Q := isi ty e.1.1 e.1.2 e.2 q
theorem dp_ty (h : Dp K H x d) : TyX K H x (.type (tn d)) := by
  cases h with
  | non => exact .base .non
  | bl b => exact .base (.bl b)
  | int i => exact .base (.int i)
  | str s => exact .base (.str s)
  | lst h _ => exact tyL' h
  | tup h _ => exact tyT' h
end
/-- data no deeper than n, with short lists -/
inductive Fit : Nat → PyData → Prop
  | non {n : Nat} : Fit n .none
  | bl {n : Nat} (b : Bool) : Fit n (.bool b)
  | int {n : Nat} (i : Int) : Fit n (.int i)
  | str {n : Nat} (s : Str) : Fit n (.str s)
  | lst {n : Nat} {ds : List PyData} : ds.length ≤ 100000 → (∀ d ∈ ds, Fit n d) → Fit (n + 1) (.list ds)
  | tup {n : Nat} {ds : List PyData} : ds.length ≤ 100000 → (∀ d ∈ ds, Fit n d) → Fit (n + 1) (.tuple ds)
theorem Fit.mono {n m : Nat} {d : PyData} (h : Fit n d) (k : n ≤ m) : Fit m d := by
  induction h generalizing m with
  | non => exact .non
  | bl b => exact .bl b
  | int i => exact .int i
  | str s => exact .str s
  | lst l _ ih =>
    cases m with
    | zero => omega
    | succ m => exact .lst l fun d hd => ih d hd (by omega)
  | tup l _ ih =>
    cases m with
    | zero => omega
    | succ m => exact .tup l fun d hd => ih d hd (by omega)
section
variable {K : PySem.W.Frag} {H H' : Hp}
theorem sqT_same {a : Addr} {xs : List V} (e : Same H H') (h : SqT K H a xs) : SqT K H' a xs := by
  rcases h with (h | ⟨o, h⟩) | h
  · exact .inl (.inl (e _ _ h))
  · exact .inl (.inr ⟨o, e _ _ h⟩)
  · exact .inr h
theorem all_len : ∀ {vs : List V} {ds : List PyData}, DpAll K H vs ds → vs.length = ds.length
  | _, _, .nil => rfl
  | _, _, .cons _ r => by rw [List.length_cons, List.length_cons, all_len r]
theorem all_at' : ∀ (vs : List V) (ds : List PyData) (i : Nat) (d : PyData), DpAll K H vs ds → ds[i]? = some d → ∃ v, vs[i]? = some v ∧ Dp K H v d
  | _, [], _, _, _, e => by simp at e
  | [], _ :: _, _, _, h, _ => by cases h
  | v :: _, _ :: _, 0, _, h, e => by
    cases h with
    | cons a _ =>
      cases e
      exact ⟨v, rfl, a⟩
  | _ :: vs, _ :: ds, i + 1, d, h, e => by
    cases h with
    | cons _ r =>
      obtain ⟨v, ev, dv⟩ := all_at' vs ds i d r (by simpa using e)
      exact ⟨v, by simpa using ev, dv⟩
theorem all_at {vs : List V} {ds : List PyData} {i : Nat} {d : PyData} (h : DpAll K H vs ds) (e : ds[i]? = some d) : ∃ v, vs[i]? = some v ∧ Dp K H v d := all_at' vs ds i d h e
theorem all_append' : ∀ (vs : List V) (ds : List PyData) {ws : List V} {es : List PyData}, DpAll K H vs ds → DpAll K H ws es → DpAll K H (vs ++ ws) (ds ++ es)
  | [], [], _, _, _, h => h
  | _ :: vs, _ :: ds, _, _, h, h' => by
    cases h with
    | cons a r => exact .cons a (all_append' vs ds r h')
  | [], _ :: _, _, _, h, _ => by cases h
  | _ :: _, [], _, _, h, _ => by cases h
theorem all_append {vs ws : List V} {ds es : List PyData} (h : DpAll K H vs ds) (h' : DpAll K H ws es) : DpAll K H (vs ++ ws) (ds ++ es) := all_append' vs ds h h'
theorem all_mid {vs ws : List V} {ds es : List PyData} {v : V} {d : PyData} (h : DpAll K H vs ds) (a : Dp K H v d) (h' : DpAll K H ws es) : DpAll K H (vs ++ [v] ++ ws) (ds ++ d :: es) := by
  rw [List.append_assoc]
  exact all_append h (.cons a h')
mutual
theorem dp_same (e : Same H H') : ∀ {v : V} {d : PyData}, Dp K H v d → Dp K H' v d
  | _, _, .non => .non
  | _, _, .bl b => .bl b
  | _, _, .int i => .int i
  | _, _, .str s => .str s
  | _, _, .lst h r => .lst (e.seq h) (all_same e r)
  | _, _, .tup h r => .tup (sqT_same e h) (all_same e r)
theorem all_same (e : Same H H') : ∀ {v : List V} {d : List PyData}, DpAll K H v d → DpAll K H' v d
  | _, _, .nil => .nil
  | _, _, .cons h r => .cons (dp_same e h) (all_same e r)
end
end
end Rd
/-! ### signs and names -/
namespace Rd
open PySem PySem.Spec PyProof.Rows L2
abbrev cl (z : Str) : List Nat := z.cps.toList
theorem cl_len (z : Str) : (cl z).length = z.length := by simp [cl, Str.length]
theorem cl_add (a b : Str) : cl (a ++ b) = cl a ++ cl b := by
  show (a.cps ++ b.cps).toList = _
  rw [Array.toList_append]
theorem add_len (a b : Str) : (a ++ b).length = a.length + b.length := by
  rw [← cl_len, cl_add, List.length_append, cl_len, cl_len]
theorem cl_one (c : Nat) : cl ⟨#[c]⟩ = [c] := rfl
theorem one_len (c : Nat) : (⟨#[c]⟩ : Str).length = 1 := rfl
theorem cl_inj {a b : Str} (h : cl a = cl b) : a = b := by
  obtain ⟨⟨a⟩⟩ := a
  obtain ⟨⟨b⟩⟩ := b
  have h : a = b := h
  rw [h]
def Low (c : Nat) : Prop := 97 ≤ c ∧ c ≤ 122
def Aln (c : Nat) : Prop := Low c ∨ (48 ≤ c ∧ c ≤ 57)
instance (c : Nat) : Decidable (Low c) := inferInstanceAs (Decidable (_ ∧ _))
instance (c : Nat) : Decidable (Aln c) := inferInstanceAs (Decidable (_ ∨ _))
/-- the signs of a name -/
def Nm (l : List Nat) : Prop := ∃ c r, l = c :: r ∧ Low c ∧ ∀ x ∈ r, Aln x
theorem Nm.all {l : List Nat} (h : Nm l) : ∀ x ∈ l, Aln x := by
  obtain ⟨c, r, rfl, hc, hr⟩ := h
  intro x hx
  rcases List.mem_cons.mp hx with rfl | hx
  · exact .inl hc
  · exact hr x hx
theorem Nm.snoc {l : List Nat} (h : Nm l) {x : Nat} (a : Aln x) : Nm (l ++ [x]) := by
  obtain ⟨c, r, rfl, hc, hr⟩ := h
  refine ⟨c, r ++ [x], rfl, hc, fun y hy => ?_⟩
  rcases List.mem_append.mp hy with hy | hy
  · exact hr y hy
  · rw [List.mem_singleton.mp hy]
    exact a
theorem Nm.head {l : List Nat} (h : Nm l) : ∃ c, l[0]? = some c ∧ Low c := by
  obtain ⟨c, r, rfl, hc, _⟩ := h
  exact ⟨c, rfl, hc⟩
theorem sz5 {n : Nat} (h : n ≤ 100000) : n ≤ sizeLine := Nat.le_trans h (by decide)
theorem sz5' {n : Nat} (h : n ≤ 100000) : n < sizeLine := Nat.lt_of_le_of_lt h (by decide)
section
variable {K : PySem.W.Frag} {H : Hp} {Q : VK} {i : Int} {z : Str}
/-- a sign of a text, at an open place -/
theorem sign (hl : z.length ≤ 100000) (h0 : 0 ≤ i) (h1 : i < (z.length : Int)) (g : ∀ c, (cl z)[i.toNat]? = some c → c ∈ cl z → Q (.str ⟨#[c]⟩) H) : rIxS (.str z) (.int i) H Q := by
  have hj : i.toNat < (cl z).length := by
    rw [cl_len]
    omega
  have e1 := List.getElem?_eq_getElem hj
  have e : atI (cl z) ((i.toNat : Nat) : Int) = some (cl z)[i.toNat] := atI_nat e1
  rw [show ((i.toNat : Nat) : Int) = i by omega] at e
  exact ⟨z, i, _, rfl, rfl, sz5 hl, e, g _ e1 (List.getElem_mem hj)⟩
end
end Rd
namespace Rd
open PySem PySem.Spec PyProof.Rows L2
section
variable {σ : L2.St} {H : Hp} {cc : TT} {tb : TS} {n b c : L2.St → Hp → Prop} {rr : VK}
/-- a while by an invariant with a number that falls -/
theorem whileX (W : Nat → L2.St → Hp → Prop) (m0 : Nat) (h0 : W m0 σ H)
    (hs : ∀ m σ H, W m σ H → cc σ H fun k H1 => if k = true then ∃ N : L2.St → Hp → Prop, (∀ σ' H', N σ' H' → ∃ j, j < m ∧ W j σ' H') ∧ tb ⟨N, rr, n, N⟩ σ H1 else n σ H1) : tWhile cc tb ⟨n, rr, b, c⟩ σ H :=
  ⟨W, ⟨m0, h0⟩, hs⟩
theorem exN {m : Nat} {W : Nat → L2.St → Hp → Prop} (h : tb ⟨fun σ' H' => ∃ j, j < m ∧ W j σ' H', rr, n, fun σ' H' => ∃ j, j < m ∧ W j σ' H'⟩ σ H) :
    ∃ N : L2.St → Hp → Prop, (∀ σ' H', N σ' H' → ∃ j, j < m ∧ W j σ' H') ∧ tb ⟨N, rr, n, N⟩ σ H := ⟨_, fun _ _ z => z, h⟩
theorem lc0 {x : V} {xs : List V} {A B : Prop} (h : B) : if decide (V.int (((x :: xs).length : Nat) : Int) = V.int 0) = true then A else B := by
  rw [if_neg]
  · exact h
  · intro e
    have e := V.int.inj (of_decide_eq_true e)
    rw [List.length_cons] at e
    omega
theorem ln0 {A B : Prop} (h : A) : if decide (V.int ((([] : List V).length : Nat) : Int) = V.int 0) = true then A else B := h
end
end Rd
namespace Rd
theorem log_small {n : Int} (h0 : 0 ≤ n) (h1 : n ≤ 1000000) : n.natAbs.log2 < 1920 :=
  Nat.lt_trans (PySem.Flt.log2_lt_of (k := 20) (by decide) (by omega)) (by decide)
end Rd
namespace Rd
open PySem PySem.Spec PyProof.Rows L2
/-- ways that meet -/
theorem cut {t u : TS} {n b c : L2.St → Hp → Prop} {rr : VK} {σ : L2.St} {H : Hp} (Mid : L2.St → Hp → Prop) (h : t ⟨Mid, rr, b, c⟩ σ H) (k : ∀ σ' H', Mid σ' H' → u ⟨n, rr, b, c⟩ σ' H') : C8.tCut t u ⟨n, rr, b, c⟩ σ H := ⟨Mid, h, k⟩
end Rd
/-! ### data without lists stays where only lists are written -/
namespace Rd
open PySem PySem.Spec PyProof.Rows L2
inductive Tp : PyData → Prop
  | non : Tp .none
  | bl (b : Bool) : Tp (.bool b)
  | int (i : Int) : Tp (.int i)
  | str (s : Str) : Tp (.str s)
  | tup {ds : List PyData} : (∀ d ∈ ds, Tp d) → Tp (.tuple ds)
def Tk (H H' : Hp) : Prop := ∀ b o, (∀ xs, o ≠ HO.lst xs) → H b = some o → H' b = some o
theorem Tk.trans {H H1 H2 : Hp} (a : Tk H H1) (b : Tk H1 H2) : Tk H H2 := fun c o n e => b c o n (a c o n e)
theorem Same.tk {H H' : Hp} (a : Same H H') : Tk H H' := fun c o _ e => a c o e
/-- two lists may be written -/
theorem tk_but {H H' : Hp} {p q : Addr} {xs ys : List V} (hp : H p = some (.lst xs)) (hq : H q = some (.lst ys)) (k : ∀ b o, b ≠ p → b ≠ q → H b = some o → H' b = some o) : Tk H H' := fun b o n e =>
  k b o (fun z => by rw [z, hp] at e; exact n xs (Option.some.inj e).symm) (fun z => by rw [z, hq] at e; exact n ys (Option.some.inj e).symm) e
section
variable {K : PySem.W.Frag} {H H' : Hp}
theorem sqT_tk {a : Addr} {xs : List V} (e : Tk H H') (h : SqT K H a xs) : SqT K H' a xs := by
  rcases h with (h | ⟨o, h⟩) | h
  · exact .inl (.inl (e _ _ (fun _ z => by cases z) h))
  · exact .inl (.inr ⟨o, e _ _ (fun _ z => by cases z) h⟩)
  · exact .inr h
mutual
theorem dp_tk (e : Tk H H') : ∀ {v : V} {d : PyData}, Dp K H v d → Tp d → Dp K H' v d
  | _, _, .non, _ => .non
  | _, _, .bl b, _ => .bl b
  | _, _, .int i, _ => .int i
  | _, _, .str s, _ => .str s
  | _, _, .lst _ _, t => nomatch t
  | _, _, .tup h r, .tup t => .tup (sqT_tk e h) (all_tk e r t)
theorem all_tk (e : Tk H H') : ∀ {v : List V} {d : List PyData}, DpAll K H v d → (∀ x ∈ d, Tp x) → DpAll K H' v d
  | _, _, .nil, _ => .nil
  | _, _, .cons h r, t => .cons (dp_tk e h (t _ List.mem_cons_self)) (all_tk e r fun x hx => t x (List.mem_cons_of_mem _ hx))
end
end
end Rd
namespace Rd
open PySem PySem.Spec PyProof.Rows L2
section
variable {K : PySem.W.Frag} {H : Hp} {Q : VK} {a b : Str} {A B : Prop} {p : Addr} {z x : V} {zs xs : List V}
theorem iteSt (e : a = b) (h : A) : if decide (V.str a = V.str b) = true then A else B := by
  subst e
  rw [if_pos (decide_eq_true rfl)]
  exact h
theorem iteSf (e : ¬ a = b) (h : B) : if decide (V.str a = V.str b) = true then A else B := by
  rw [if_neg]
  · exact h
  · intro z
    exact e (V.str.inj (of_decide_eq_true z))
theorem popR (h : H p = some (.lst (z :: zs).reverse)) (g : Q z (upd H p (.lst zs.reverse))) : rPop (.ref p) [] H Q := by
  rw [List.reverse_cons] at h
  refine ⟨p, _, z, rfl, rfl, h, ?_, ?_⟩
  · rw [List.length_append, List.length_singleton, Nat.add_sub_cancel, List.getElem?_append_right (Nat.le_refl _), Nat.sub_self]
    rfl
  · rw [List.dropLast_concat]
    exact g
theorem appR (h : H p = some (.lst zs.reverse)) (c : zs.length < 100000) (g : Q .non (upd H p (.lst (z :: zs).reverse))) : rAppend (.ref p) [z] H Q := by
  refine ⟨p, _, z, rfl, rfl, h, ?_, ?_⟩
  · rw [List.length_reverse]
    exact sz5' (by omega)
  · rw [← List.reverse_cons]
    exact g
theorem niQ (h : SqL K H p xs ∨ SqT K H p xs) (f : flatV x = true ∧ xs.all flatV = true) (e : inV x xs = true) (g : Q (.bl false) H) : rIn K true x (.ref p) H Q := by
  refine ⟨p, xs, rfl, h, f.1, f.2, ?_⟩
  rw [if_pos rfl, e]
  exact g
theorem inQ (h : SqL K H p xs ∨ SqT K H p xs) (f : flatV x = true ∧ xs.all flatV = true) (e : inV x xs = true) (g : Q (.bl true) H) : rIn K false x (.ref p) H Q := by
  refine ⟨p, xs, rfl, h, f.1, f.2, ?_⟩
  rw [if_neg Bool.false_ne_true, e]
  exact g
end
end Rd
namespace Rd
open PySem PySem.Spec PyProof.Rows L2
theorem same_put {H H' : Hp} {p : Addr} (s : Same H H') (f : H p = none) (o : HO) : Same H (upd H' p o) := fun b u e => (upd_ne (ne_of_none e f)).trans (s b u e)
theorem tk_put {H : Hp} {p : Addr} {xs : List V} (h : H p = some (.lst xs)) (o : HO) : Tk H (upd H p o) := fun b u n e => (upd_ne fun z => by
  rw [z, h] at e
  exact n xs (Option.some.inj e).symm).trans e
theorem tk_new {H : Hp} {p : Addr} (h : H p = none) (o : HO) : Tk H (upd H p o) := fun b u _ e => (upd_ne (ne_of_none e h)).trans e
theorem ne_tl {H : Hp} {p q : Addr} {xs ys : List V} (h : H p = some (.tup xs)) (h' : H q = some (.lst ys)) : p ≠ q := fun z => by
  rw [z, h'] at h
  cases h
end Rd
/-! ### texts whose signs are signs -/
namespace Rd
open PySem PySem.Spec PyProof.Rows L2
def TxOk (z : Str) : Prop := z.cps.all (fun c => decide (c < 0x110000)) = true
instance (z : Str) : Decidable (TxOk z) := inferInstanceAs (Decidable (_ = true))
theorem txOk_iff {z : Str} : TxOk z ↔ ∀ c ∈ cl z, c < 0x110000 := by
  unfold TxOk
  rw [← Array.all_toList, List.all_eq_true]
  exact ⟨fun h c hc => of_decide_eq_true (h c hc), fun h c hc => decide_eq_true (h c hc)⟩
theorem txOk_nm {z : Str} (h : Nm (cl z)) : TxOk z := txOk_iff.mpr fun c hc => by
  rcases h.all c hc with a | a
  · have := a.2
    omega
  · have := a.2
    omega
theorem txOk_num (n : Int) : TxOk (toString n) := txOk_iff.mpr fun c hc => by
  have e : cl (PySem.Str.ofString (toString n)) = (toString n).toList.map Char.toNat := signs_ofString _
  have hc : c ∈ cl (PySem.Str.ofString (toString n)) := hc
  rw [e] at hc
  obtain ⟨x, _, rfl⟩ := List.mem_map.mp hc
  have v := x.valid
  have : x.toNat < 0x110000 := by
    rcases v with v | v
    · have : x.toNat < 0xd800 := v
      omega
    · exact v.2
  exact this
theorem txOk_add {a b : Str} (h : TxOk a) (h' : TxOk b) : TxOk (a ++ b) := txOk_iff.mpr fun c hc => by
  rw [cl_add] at hc
  rcases List.mem_append.mp hc with hc | hc
  · exact txOk_iff.mp h c hc
  · exact txOk_iff.mp h' c hc
end Rd
/-! ### within a comprehension: the written part by its own name -/
namespace Rd
open PySem PySem.Spec PyProof.Rows L2
section
variable {X : Cx} {K : PySem.W.Frag}
theorem sl_listK (h : X.K = K) : SlR X (rSlL K) := h ▸ sl_list
theorem ix_listK (h : X.K = K) : IxR X (rIxL K) := h ▸ ix_list
theorem ix_tupK (h : X.K = K) : IxR X (rIxT K) := h ▸ ix_tup
theorem q_lenK (h : X.K = K) : CallR X (.builtin "len") (rLenQ K) := h ▸ q_len
theorem q_listK (h : X.K = K) : CallR X (.type "list") (rListQ K) := h ▸ q_list
theorem q_tupK (h : X.K = K) : CallR X (.type "tuple") (rTupQ K) := h ▸ q_tup
end
end Rd
namespace Kj
open PySem PySem.Spec PyProof.Rows L2 Rd
def topS (i : Nat) : Stmt := PySem.Challenge.pw_keptjoined_k16_shapes_judged.main.body.getD i (.Pass ⟨0, 0, 0, 0⟩)
abbrev s_is_balanced : Stmt := topS 1
abbrev N_is_balanced : List Str := ["shape"]
abbrev P_is_balanced : List Str := ["shape"]
theorem sc_is_balanced : FnScope N_is_balanced P_is_balanced (defScope s_is_balanced) := ⟨rfl, rfl, rfl, by decide +kernel, rfl, by decide +kernel, by decide +kernel⟩
abbrev s_shape_height : Stmt := topS 2
abbrev N_shape_height : List Str := ["shape"]
abbrev P_shape_height : List Str := ["shape"]
theorem sc_shape_height : FnScope N_shape_height P_shape_height (defScope s_shape_height) := ⟨rfl, rfl, rfl, by decide +kernel, rfl, by decide +kernel, by decide +kernel⟩
abbrev s_measure : Stmt := topS 3
abbrev N_measure : List Str := ["shape", "left", "_", "right", "left_height", "left_balanced", "right_height", "right_balanced", "level"]
abbrev P_measure : List Str := ["shape"]
theorem sc_measure : FnScope N_measure P_measure (defScope s_measure) := ⟨rfl, rfl, rfl, by decide +kernel, rfl, by decide +kernel, by decide +kernel⟩
abbrev s_shape_keys : Stmt := topS 4
abbrev N_shape_keys : List Str := ["shape", "left", "key", "right"]
abbrev P_shape_keys : List Str := ["shape"]
theorem sc_shape_keys : FnScope N_shape_keys P_shape_keys (defScope s_shape_keys) := ⟨rfl, rfl, rfl, by decide +kernel, rfl, by decide +kernel, by decide +kernel⟩
abbrev s__law_store : Stmt := topS 6
abbrev N__law_store : List Str := ["script", "cells", "state", "cell"]
abbrev P__law_store : List Str := ["script"]
theorem sc__law_store : FnScope N__law_store P__law_store (defScope s__law_store) := ⟨rfl, rfl, rfl, by decide +kernel, rfl, by decide +kernel, by decide +kernel⟩
abbrev s__law_take : Stmt := topS 7
abbrev N__law_take : List Str := ["store", "many", "digits", "tick", "cells", "place", "cell", "mixed"]
abbrev P__law_take : List Str := ["store", "many"]
theorem sc__law_take : FnScope N__law_take P__law_take (defScope s__law_take) := ⟨rfl, rfl, rfl, by decide +kernel, rfl, by decide +kernel, by decide +kernel⟩
abbrev s__law_between : Stmt := topS 8
abbrev N__law_between : List Str := ["store", "least", "most", "edge"]
abbrev P__law_between : List Str := ["store", "least", "most"]
theorem sc__law_between : FnScope N__law_between P__law_between (defScope s__law_between) := ⟨rfl, rfl, rfl, by decide +kernel, rfl, by decide +kernel, by decide +kernel⟩
abbrev s__law_is_integer : Stmt := topS 9
abbrev N__law_is_integer : List Str := ["value"]
abbrev P__law_is_integer : List Str := ["value"]
theorem sc__law_is_integer : FnScope N__law_is_integer P__law_is_integer (defScope s__law_is_integer) := ⟨rfl, rfl, rfl, by decide +kernel, rfl, by decide +kernel, by decide +kernel⟩
abbrev s__law_same : Stmt := topS 10
abbrev N__law_same : List Str := ["one", "two", "key", "lists", "k"]
abbrev P__law_same : List Str := ["one", "two"]
theorem sc__law_same : FnScope N__law_same P__law_same (defScope s__law_same) := ⟨rfl, rfl, rfl, by decide +kernel, rfl, by decide +kernel, by decide +kernel⟩
abbrev s__law_name : Stmt := topS 11
abbrev N__law_name : List Str := ["store", "size", "word", "alike", "k"]
abbrev P__law_name : List Str := ["store"]
theorem sc__law_name : FnScope N__law_name P__law_name (defScope s__law_name) := ⟨rfl, rfl, rfl, by decide +kernel, rfl, by decide +kernel, by decide +kernel⟩
abbrev s__law_key : Stmt := topS 12
abbrev N__law_key : List Str := ["store", "number", "size", "at", "key", "k", "word"]
abbrev P__law_key : List Str := ["store", "number"]
theorem sc__law_key : FnScope N__law_key P__law_key (defScope s__law_key) := ⟨rfl, rfl, rfl, by decide +kernel, rfl, by decide +kernel, by decide +kernel⟩
abbrev s__law_balanced : Stmt := topS 13
abbrev N__law_balanced : List Str := ["store", "height", "made", "lower", "flipped", "heights", "left", "key"]
abbrev P__law_balanced : List Str := ["store", "height", "made"]
theorem sc__law_balanced : FnScope N__law_balanced P__law_balanced (defScope s__law_balanced) := ⟨rfl, rfl, rfl, by decide +kernel, rfl, by decide +kernel, by decide +kernel⟩
abbrev s__law_least_shape : Stmt := topS 14
abbrev N__law_least_shape : List Str := ["height", "lean", "one", "two"]
abbrev P__law_least_shape : List Str := ["height", "lean"]
theorem sc__law_least_shape : FnScope N__law_least_shape P__law_least_shape (defScope s__law_least_shape) := ⟨rfl, rfl, rfl, by decide +kernel, rfl, by decide +kernel, by decide +kernel⟩
abbrev s__law_chain : Stmt := topS 15
abbrev N__law_chain : List Str := ["store", "height", "shape", "k", "key"]
abbrev P__law_chain : List Str := ["store", "height"]
theorem sc__law_chain : FnScope N__law_chain P__law_chain (defScope s__law_chain) := ⟨rfl, rfl, rfl, by decide +kernel, rfl, by decide +kernel, by decide +kernel⟩
abbrev s__law_shape : Stmt := topS 16
abbrev N__law_shape : List Str := ["store", "style", "one", "two"]
abbrev P__law_shape : List Str := ["store"]
theorem sc__law_shape : FnScope N__law_shape P__law_shape (defScope s__law_shape) := ⟨rfl, rfl, rfl, by decide +kernel, rfl, by decide +kernel, by decide +kernel⟩
abbrev s__law_bent_shape : Stmt := topS 17
abbrev N__law_bent_shape : List Str := ["store", "shape", "road", "part", "k", "side", "style", "above"]
abbrev P__law_bent_shape : List Str := ["store", "shape"]
theorem sc__law_bent_shape : FnScope N__law_bent_shape P__law_bent_shape (defScope s__law_bent_shape) := ⟨rfl, rfl, rfl, by decide +kernel, rfl, by decide +kernel, by decide +kernel⟩
abbrev s__law_measured : Stmt := topS 18
abbrev N__law_measured : List Str := ["shape", "left", "told", "keys", "balanced", "k", "step", "part", "high", "low"]
abbrev P__law_measured : List Str := ["shape"]
theorem sc__law_measured : FnScope N__law_measured P__law_measured (defScope s__law_measured) := ⟨rfl, rfl, rfl, by decide +kernel, rfl, by decide +kernel, by decide +kernel⟩
abbrev s__law_even : Stmt := topS 19
abbrev N__law_even : List Str := ["keys", "at"]
abbrev P__law_even : List Str := ["keys"]
theorem sc__law_even : FnScope N__law_even P__law_even (defScope s__law_even) := ⟨rfl, rfl, rfl, by decide +kernel, rfl, by decide +kernel, by decide +kernel⟩
abbrev s__law_plain_keys : Stmt := topS 20
abbrev N__law_plain_keys : List Str := ["store", "many", "repeated", "words", "k"]
abbrev P__law_plain_keys : List Str := ["store", "many"]
theorem sc__law_plain_keys : FnScope N__law_plain_keys P__law_plain_keys (defScope s__law_plain_keys) := ⟨rfl, rfl, rfl, by decide +kernel, rfl, by decide +kernel, by decide +kernel⟩
abbrev s__law_spine : Stmt := topS 21
abbrev N__law_spine : List Str := ["store", "shape", "small", "k", "key"]
abbrev P__law_spine : List Str := ["store"]
theorem sc__law_spine : FnScope N__law_spine P__law_spine (defScope s__law_spine) := ⟨rfl, rfl, rfl, by decide +kernel, rfl, by decide +kernel, by decide +kernel⟩
abbrev s__law_any_shape : Stmt := topS 22
abbrev N__law_any_shape : List Str := ["store", "style", "shape"]
abbrev P__law_any_shape : List Str := ["store"]
theorem sc__law_any_shape : FnScope N__law_any_shape P__law_any_shape (defScope s__law_any_shape) := ⟨rfl, rfl, rfl, by decide +kernel, rfl, by decide +kernel, by decide +kernel⟩
abbrev s__law_judged : Stmt := topS 23
abbrev N__law_judged : List Str := ["shape", "measured", "told", "keys"]
abbrev P__law_judged : List Str := ["shape"]
theorem sc__law_judged : FnScope N__law_judged P__law_judged (defScope s__law_judged) := ⟨rfl, rfl, rfl, by decide +kernel, rfl, by decide +kernel, by decide +kernel⟩
abbrev s_law : Stmt := topS 24
abbrev N_law : List Str := ["script", "store", "first", "second", "shapes", "shape"]
abbrev P_law : List Str := ["script"]
theorem sc_law : FnScope N_law P_law (defScope s_law) := ⟨rfl, rfl, rfl, by decide +kernel, rfl, by decide +kernel, by decide +kernel⟩
/-! ### the stepper -/
local macro_rules | `(tactic| walk_at "hp") => `(tactic| first
  | assumption
  | exact upd_same
  | (refine Eq.trans (upd_ne (by first | assumption | (apply Ne.symm; assumption))) ?_; walk_at "hp"))
local macro_rules | `(tactic| walk_at "sq") => `(tactic| first
  | assumption
  | (refine Or.inl (Or.inl ?_); walk_at "hp"))
local macro_rules | `(tactic| walk_at "st") => `(tactic| first
  | assumption
  | (refine Or.inl (Or.inl ?_); walk_at "hp"))
local macro_rules | `(tactic| walk_at "ar") => `(tactic| first
  | assumption
  | omega
  | decide)
local macro_rules | `(tactic| walk_at "ci") => `(tactic| first
  | (refine (show CMul _ _ from Or.inr ⟨?_, ?_⟩) <;> omega)
  | (refine (show CMul _ _ from Or.inl ⟨?_, ?_⟩) <;> omega)
  | (show CPow _ _; exact ⟨by decide, by decide, by decide⟩)
  | (refine wide_div (b := 63) ?_ ?_ (by decide) (by decide) <;> omega)
  | (show (0 : Int) < _; omega))
local macro_rules | `(tactic| walk_at "ty") => `(tactic| first
  | exact dp_ty (by assumption)
  | exact TyX.base (TyOf.int _)
  | exact TyX.base (TyOf.str _)
  | exact TyX.base (TyOf.bl _)
  | exact TyX.base TyOf.non
  | exact tyL' (by walk_at "sq")
  | exact tyT' (by walk_at "st"))
local macro_rules | `(tactic| walk_at "isi") => `(tactic| first
  | ((with_reducible apply Rd.isiF); (walk_at "ty"); (decide))
  | ((with_reducible apply Rd.isiT); (walk_at "ty"); (decide)))
local macro_rules | `(tactic| walk_at "rd") => `(tactic| first
  | with_reducible apply Rd.seq
  | ((with_reducible apply Rd.var); rfl)
  | with_reducible apply Rd.con
  | with_reducible apply Rd.op
  | with_reducible apply Rd.asg
  | ((with_reducible apply Rd.gname); ((dsimp only [List.set, L2.wipe, Int.reduceToNat]) <;> rfl))
  | with_reducible apply Rd.nxt
  | with_reducible apply Rd.ifs
  | with_reducible apply Rd.test
  | with_reducible apply Rd.testB
  | with_reducible apply Rd.exbl
  | with_reducible apply Rd.ret
  | with_reducible apply Rd.drop
  | with_reducible apply Rd.retN
  | with_reducible apply Rd.nil
  | with_reducible apply Rd.cons
  | with_reducible apply Rd.call
  | with_reducible apply Rd.cb
  | with_reducible apply Rd.and
  | with_reducible apply Rd.or
  | with_reducible apply Rd.not
  | with_reducible apply Rd.andV
  | with_reducible apply Rd.orV
  | with_reducible apply Rd.notV
  | with_reducible apply Rd.ife
  | with_reducible apply Rd.tup
  | with_reducible apply Rd.lst
  | with_reducible apply Rd.un
  | with_reducible apply Rd.chain
  | with_reducible apply Rd.brk
  | with_reducible apply Rd.cnt
  | with_reducible apply Rd.I0
  | with_reducible apply Rd.U1
  | ((with_reducible apply Rd.eq); rfl)
  | ((with_reducible apply Rd.ne); rfl)
  | ((with_reducible apply Rd.I1); (walk_at "ci"))
  | with_reducible apply Rd.lc0
  | with_reducible apply Rd.ln0
  | with_reducible apply Rd.exN
  | ((with_reducible apply Rd.iteSf); (decide +kernel))
  | ((with_reducible apply Rd.iteSt); (decide +kernel))
  | ((with_reducible apply Rd.niQ); (exact Or.inl (by walk_at "sq")); (exact ⟨rfl, rfl⟩); (rfl))
  | ((with_reducible apply Rd.inQ); (exact Or.inl (by walk_at "sq")); (exact ⟨rfl, rfl⟩); (rfl))
  | with_reducible apply Rd.rn1
  | with_reducible apply Rd.in1
  | with_reducible apply Rd.sn1
  | with_reducible apply Rd.bn1
  | with_reducible apply Rd.nn1
  | with_reducible apply Rd.rn2
  | with_reducible apply Rd.in2
  | with_reducible apply Rd.sn2
  | with_reducible apply Rd.bn2
  | with_reducible apply Rd.nn2
  | with_reducible apply Rd.nt1
  | with_reducible apply Rd.nf1
  | (with_reducible refine Rd.iteI (fun _ => ?_) (fun _ => ?_))
  | (with_reducible refine Rd.iteNI (fun _ => ?_) (fun _ => ?_))
  | (with_reducible refine iteT ?_)
  | (with_reducible refine iteF ?_)
  | (with_reducible refine Rd.iteD (fun _ => ?_) (fun _ => ?_))
  | (with_reducible refine Rd.iteN (fun _ => ?_) (fun _ => ?_))
  | with_reducible apply Rd.intI
  | with_reducible apply Rd.intB
  | with_reducible apply Rd.maxQ
  | with_reducible apply Rd.minQ
  | with_reducible apply Rd.absQ
  | with_reducible apply Rd.isN
  | with_reducible apply Rd.noN
  | with_reducible apply Rd.ltZ
  | with_reducible apply Rd.bm
  | with_reducible apply Rd.bm0
  | with_reducible apply Rd.par
  | with_reducible apply Rd.expar
  | with_reducible apply Rd.exint
  | with_reducible apply Rd.ipi
  | with_reducible apply Rd.slice
  | with_reducible apply Rd.noPart
  | with_reducible apply Rd.part
  | with_reducible apply Rd.gcons
  | with_reducible apply Rd.gnil
  | with_reducible apply Rd.iseq
  | with_reducible apply Rd.irng1
  | walk_at "isi"
  | with_reducible apply Rd.forX
  | with_reducible apply Rd.lstRev
  | with_reducible apply Rd.lstRg
  | with_reducible apply Rd.rg1
  | with_reducible apply Rd.rg2
  | with_reducible apply Rd.exint2
  | ((with_reducible apply Rd.exrev); (walk_at "sq"))
  | with_reducible apply Rd.lcX
  | with_reducible apply Rd.yes
  | ((with_reducible apply Rd.exrng1); (constructor <;> omega))
  | ((with_reducible apply Rd.exrng2); (refine ⟨?_, ?_, ?_, ?_⟩ <;> omega))
  | with_reducible apply Rd.irng2
  | ((with_reducible apply Rd.aug); rfl)
  | ((with_reducible apply Rd.exlst); (walk_at "sq"))
  | ((with_reducible apply Rd.gtup); (walk_at "st"); (rfl))
  | ((with_reducible apply Rd.tyL); (walk_at "hp"))
  | ((with_reducible apply Rd.ixL); (walk_at "sq"); (rfl))
  | ((with_reducible apply Rd.ixI); (walk_at "sq"); (omega); (first | assumption | (simp only [List.length_map]; omega)); (intro _ _))
  | (with_reducible refine Rd.gsub ?_)
  | ((with_reducible apply Rd.setL); (walk_at "hp"); (rfl); ((dsimp only [List.set, L2.wipe, Int.reduceToNat]) <;> rfl))
  | ((with_reducible apply Rd.lenQ); (first | exact Or.inl (by walk_at "sq") | exact Or.inr (by walk_at "st")))
  | ((with_reducible apply Rd.listQ); (first | exact Or.inl (by walk_at "sq") | exact Or.inr (by walk_at "st")))
  | ((with_reducible apply Rd.tupQ); (walk_at "sq"))
  | ((with_reducible apply Rd.slL); (walk_at "sq"))
  | ((with_reducible apply Rd.ixT); (walk_at "st"); (rfl))
  | (with_reducible refine Rd.iteB (fun _ => ?_) (fun _ => ?_))
  | (with_reducible refine Rd.iteNB (fun _ => ?_) (fun _ => ?_))
  | (refine Rd.andI (Nat.le_of_ble_eq_true rfl) ?_)
  | dsimp only [List.set])
/-! ### the law's store of draws -/
/-- at st a store, its cells at c: a place and digits that are no less than 0 -/
def StoreAt (H : Hp) (st c : Addr) : Prop := ∃ (ns : List Int) (p d s t : Int), H st = some (.lst [.ref c, .int p, .int d, .int s, .int t]) ∧ H c = some (.lst (ns.map V.int)) ∧ c ≠ st ∧ 0 ≤ p ∧ 0 ≤ d
theorem StoreAt.kept {H H' : Hp} {st c : Addr} (h : StoreAt H st c) (k : ∀ b o, (b = st ∨ b = c) → H b = some o → H' b = some o) : StoreAt H' st c := by
  obtain ⟨ns, p, d, s, t, h1, h2, r⟩ := h
  exact ⟨ns, p, d, s, t, k _ _ (.inl rfl) h1, k _ _ (.inr rfl) h2, r⟩
theorem StoreAt.same {H H' : Hp} {st c : Addr} (h : StoreAt H st c) (k : Same H H') : StoreAt H' st c := h.kept fun b o _ => k b o
theorem StoreAt.has {H : Hp} {st c : Addr} (h : StoreAt H st c) : (∃ o, H st = some o) ∧ ∃ o, H c = some o := by
  obtain ⟨ns, p, d, s, t, h1, h2, r⟩ := h
  exact ⟨⟨_, h1⟩, ⟨_, h2⟩⟩
/-- what is new is no part of the store -/
theorem StoreAt.off {H : Hp} {st c p : Addr} (h : StoreAt H st c) (n : H p = none) : p ≠ st ∧ p ≠ c := by
  obtain ⟨⟨o, e⟩, ⟨o', e'⟩⟩ := h.has
  exact ⟨(ne_of_none e n).symm, (ne_of_none e' n).symm⟩
theorem StoreAt.put {H : Hp} {st c p : Addr} (h : StoreAt H st c) (n : p ≠ st ∧ p ≠ c) (o : HO) : StoreAt (upd H p o) st c := h.kept fun b u e z => by
  rw [upd_ne]
  · exact z
  · rcases e with rfl | rfl
    · exact n.1.symm
    · exact n.2.symm
/-- draws were taken: all else stands -/
structure Go (st c : Addr) (H H' : Hp) : Prop where
  ok : StoreAt H' st c
  keep : ∀ b o, b ≠ st → H b = some o → H' b = some o
theorem Go.refl {st c : Addr} {H : Hp} (h : StoreAt H st c) : Go st c H H := ⟨h, fun _ _ _ e => e⟩
theorem Go.trans {st c : Addr} {H H1 H2 : Hp} (a : Go st c H H1) (b : Go st c H1 H2) : Go st c H H2 := ⟨b.ok, fun d o n e => b.keep d o n (a.keep d o n e)⟩
/-- what is new behind was new ahead -/
theorem Go.free {st c p : Addr} {H H' : Hp} (g : Go st c H H') (n : H' p = none) : H p = none := by
  cases e : H p with
  | none => rfl
  | some o =>
    rw [g.keep p o (g.ok.off n).1 e] at n
    cases n
/-- a new object beside -/
theorem Go.new {st c p : Addr} {H H' : Hp} (g : Go st c H H') (n : H' p = none) (o : HO) : Go st c H (upd H' p o) :=
  ⟨g.ok.put (g.ok.off n) o, fun b u hb e => (upd_ne (ne_of_none (g.keep b u hb e) n)).trans (g.keep b u hb e)⟩
/-- an object that is newer than H is written -/
theorem Go.write {st c p : Addr} {H H' : Hp} (g : Go st c H H') (n : H p = none) (h : p ≠ st ∧ p ≠ c) (o : HO) : Go st c H (upd H' p o) :=
  ⟨g.ok.put h o, fun b u hb e => (upd_ne (ne_of_none e n)).trans (g.keep b u hb e)⟩
theorem Go.same {st c : Addr} {H H1 H2 : Hp} (g : Go st c H H1) (k : Same H1 H2) : Go st c H H2 := ⟨g.ok.same k, fun b u hb e => k b u (g.keep b u hb e)⟩
theorem go_upd {st c : Addr} {H : Hp} {ns : List Int} {p d s t p' d' s' t' : Int} (h : H st = some (.lst [.ref c, .int p, .int d, .int s, .int t])) (hc : H c = some (.lst (ns.map V.int))) (n : c ≠ st) (hp : 0 ≤ p') (hd : 0 ≤ d') :
    Go st c H (upd H st (.lst [.ref c, .int p', .int d', .int s', .int t'])) :=
  ⟨⟨ns, p', d', s', t', upd_same, (upd_ne n).trans hc, n, hp, hd⟩, fun b o hb e => (upd_ne hb).trans e⟩
/-- _law_take(store, many): 0, or a number below many -/
def spTake : Sp := fun vs H Q _ => ∃ (st c : Addr) (many : Int), vs = [.ref st, .int many] ∧ StoreAt H st c ∧ many < 4611686018427387904 ∧ ∀ (r : Int) (H' : Hp), 0 ≤ r → (r < many ∨ r = 0) → Go st c H H' → Q (.int r) H'
section
variable {P : Program} {w : World} {K : PySem.W.Frag} {mg : Str → Option Value} {base : Heap}
theorem ok__law_take (F : Def K mg "_law_take" s__law_take P__law_take) (m_int : mg "int" = none) (m_len : mg "len" = none) : Cal P w K mg base 1 "_law_take" P__law_take spTake := by
  refine F.ok sc__law_take (fun vs H Q E h => ?_) (fun f cdv A outer s H vs Q E hr h => ?_)
  · obtain ⟨st, c, many, rfl, _⟩ := h
    rfl
  obtain ⟨st, c, many, rfl, ⟨ns, p, d, z, t, hst, hc, hne, hp, hd⟩, hm, q⟩ := h
  refine ⟨_, (pss_cons (ps_if (pt_cmpR op_lt (pv 1) pe_int (nomark _)) (pss_one (ps_ret pe_int)) pss_nil)
  (pss_cons (ps_set (i := 2) sc__law_take.nd rfl (Or.inl rfl) (pe_callTy q_intI (by rfl) m_int (by decide +kernel) (pa_cons (pe_ix ix_list (pv 0) pe_int (fun _ _ => rfl)) pa_nil)))
  (pss_cons (ps_if (pt_cmpR op_gt (pv 2) pe_int (nomark _)) (pss_cons (ps_asg (pe_op op_fdivW (pv 2) (pv 1)) (pg_sub (pv 0) pe_int set_list))
  (pss_one (ps_ret (pe_op op_mod (pv 2) (pv 1))))) pss_nil)
  (pss_cons (ps_asg (pe_op op_add (pe_callTy q_intI (by rfl) m_int (by decide +kernel) (pa_cons (pe_ix ix_list (pv 0) pe_int (fun _ _ => rfl)) pa_nil)) pe_int) (pg_sub (pv 0) pe_int set_list))
  (pss_cons (ps_set (i := 3) sc__law_take.nd rfl (Or.inl rfl) (pe_callTy q_intI (by rfl) m_int (by decide +kernel) (pa_cons (pe_ix ix_list (pv 0) pe_int (fun _ _ => rfl)) pa_nil)))
  (pss_cons (ps_set (i := 4) sc__law_take.nd rfl (Or.inl rfl) (pe_ix ix_list (pv 0) pe_int (fun _ _ => rfl)))
  (pss_cons (ps_set (i := 5) sc__law_take.nd rfl (Or.inl rfl) (pe_callTy q_intI (by rfl) m_int (by decide +kernel) (pa_cons (pe_ix ix_list (pv 0) pe_int (fun _ _ => rfl)) pa_nil)))
  (pss_cons (ps_if (pt_cmpR op_lt (pv 5) (pe_callB q_len (by rfl) m_len PySem.boot_len (pa_cons (pv 4) pa_nil)) (nomark _)) (pss_cons (ps_set (i := 6) sc__law_take.nd rfl (Or.inl rfl) (pe_callTy q_intI (by rfl) m_int (by decide +kernel) (pa_cons (pe_ix ix_list (pv 4) (pv 5) (fun _ _ => rfl)) pa_nil)))
  (pss_cons (ps_asg (pe_op op_add (pv 5) pe_int) (pg_sub (pv 0) pe_int set_list))
  (pss_cons (ps_if (pt_cmpR op_ge (pv 6) (pe_op op_pow pe_int pe_int) (nomark _)) (pss_cons (ps_asg (pe_op op_fdivW (pv 6) (pv 1)) (pg_sub (pv 0) pe_int set_list))
  (pss_one (ps_ret (pe_op op_mod (pv 6) (pv 1))))) pss_nil)
  (pss_one (ps_set (i := 7) sc__law_take.nd rfl (Or.inl rfl) (pe_op op_mod (pe_op op_add (pe_op op_add (pe_op op_mul (pv 6) pe_int) (pe_op op_mul (pv 3) pe_int)) pe_int) pe_int)))))) (pss_cons (ps_set (i := 7) sc__law_take.nd rfl (Or.inl rfl) (pe_op op_mod (pe_op op_add (pe_op op_add (pe_op op_mul (pe_callTy q_intI (by rfl) m_int (by decide +kernel) (pa_cons (pe_ix ix_list (pv 0) pe_int (fun _ _ => rfl)) pa_nil)) pe_int) (pe_op op_mul (pv 3) pe_int)) pe_int) pe_int))
  (pss_one (ps_asg (pv 7) (pg_sub (pv 0) pe_int set_list)))))
  (pss_one (ps_ret (pe_op op_mod (pe_op op_mod (pe_op op_add (pe_op op_mul (pv 7) (pv 7)) (pe_op op_fdivW (pv 7) pe_int)) pe_int) (pv 1)))))))))))), ?_⟩
  refine Rd.at0 (σ := [some (.ref st), some (.int many), none, none, none, none, none, none]) rfl ?_
  repeat' (walk_at "rd")
  · exact q 0 _ (Int.le_refl 0) (.inr rfl) (Go.refl ⟨ns, p, d, z, t, hst, hc, hne, hp, hd⟩)
  · exact q _ _ (Int.emod_nonneg _ (by omega)) (.inl (Int.emod_lt_of_pos _ (by omega))) (go_upd hst hc hne hp (Int.ediv_nonneg hd (by omega)))
  · rename_i v hv hv2
    have h0 : (0 : Int) ≤ v := Int.le_trans (by decide) hv2
    rw [upd_upd, upd_upd]
    exact q _ _ (Int.emod_nonneg _ (by omega)) (.inl (Int.emod_lt_of_pos _ (by omega))) (go_upd hst hc hne (by omega) (Int.ediv_nonneg h0 (by omega)))
  · rw [upd_upd]
    exact q _ _ (Int.emod_nonneg _ (by omega)) (.inl (Int.emod_lt_of_pos _ (by omega))) (go_upd hst hc hne (by omega) hd)
  · rw [upd_upd]
    exact q _ _ (Int.emod_nonneg _ (by omega)) (.inl (Int.emod_lt_of_pos _ (by omega))) (go_upd hst hc hne hp hd)
/-- _law_between(store, least, most): a number from least to most; least if most is less -/
def spBetween : Sp := fun vs H Q _ => ∃ (st c : Addr) (lo hi : Int), vs = [.ref st, .int lo, .int hi] ∧ StoreAt H st c ∧ hi - lo < 4611686018427387900 ∧ ∀ (r : Int) (H' : Hp), lo ≤ r → (r ≤ hi ∨ r = lo) → Go st c H H' → Q (.int r) H'
theorem ok__law_between (F : Def K mg "_law_between" s__law_between P__law_between) (C__law_take : Cal P w K mg base 1 "_law_take" P__law_take spTake) : Cal P w K mg base 2 "_law_between" P__law_between spBetween := by
  refine F.ok sc__law_between (fun vs H Q E h => ?_) (fun f cdv A outer s H vs Q E hr h => ?_)
  · obtain ⟨st, c, lo, hi, rfl, _⟩ := h
    rfl
  obtain ⟨st, c, lo, hi, rfl, hs, hm, q⟩ := h
  refine ⟨_, (pss_cons (ps_if (pt_cmpR op_le (pv 2) (pv 1) (nomark _)) (pss_one (ps_ret (pv 1))) pss_nil)
  (pss_cons (ps_set (i := 3) sc__law_between.nd rfl (Or.inl rfl) (pe_cal C__law_take hr (pa_cons (pv 0) (pa_cons pe_int pa_nil))))
  (pss_cons (ps_if (pt_cmpR op_eq (pv 3) pe_int (nomark _)) (pss_one (ps_ret (pv 1))) pss_nil)
  (pss_cons (ps_if (pt_cmpR op_eq (pv 3) pe_int (nomark _)) (pss_one (ps_ret (pv 2))) pss_nil)
  (pss_cons (ps_if (pt_cmpR op_eq (pv 3) pe_int (nomark _)) (pss_one (ps_ret (pe_op op_add (pv 1) pe_int))) pss_nil)
  (pss_one (ps_ret (pe_op op_add (pv 1) (pe_cal C__law_take hr (pa_cons (pv 0) (pa_cons (pe_op op_add (pe_op op_sub (pv 2) (pv 1)) pe_int) pa_nil))))))))))), ?_⟩
  refine Rd.at0 (σ := [some (.ref st), some (.int lo), some (.int hi), none]) rfl ?_
  repeat' (walk_at "rd")
  · exact q lo _ (Int.le_refl _) (.inr rfl) (Go.refl hs)
  refine ⟨st, c, 9, rfl, hs, by decide, fun e H1 h0 h9 g1 => ?_⟩
  repeat' (walk_at "rd")
  · exact q lo _ (Int.le_refl _) (.inr rfl) g1
  · exact q hi _ (by omega) (.inl (Int.le_refl _)) g1
  · exact q (lo + 1) _ (by omega) (.inl (by omega)) g1
  refine ⟨st, c, hi - lo + 1, rfl, g1.ok, by omega, fun r H2 k0 k1 g2 => ?_⟩
  repeat' (walk_at "rd")
  exact q (lo + r) _ (by omega) (.inl (by omega)) (g1.trans g2)
/-- _law_store(script): a new store -/
def spStore (K : PySem.W.Frag) : Sp := fun vs H Q _ => ∃ (a : Addr) (ns : List Int), vs = [.ref a] ∧ SqL K H a (ns.map V.int) ∧ ns.length ≤ 1000 ∧ ∀ (st c : Addr) (H' : Hp), Same H H' → H st = none → StoreAt H' st c → Q (.ref st) H'
theorem ok__law_store (F : Def K mg "_law_store" s__law_store P__law_store) (m_list : mg "list" = none) (m_len : mg "len" = none) (m_int : mg "int" = none) : Cal P w K mg base 1 "_law_store" P__law_store (spStore K) := by
  refine F.ok sc__law_store (fun vs H Q E h => ?_) (fun f cdv A outer s H vs Q E hr h => ?_)
  · obtain ⟨a, ns, rfl, _⟩ := h
    rfl
  obtain ⟨a, ns, rfl, hS, hl, q⟩ := h
  refine ⟨_, (pss_cons (ps_set (i := 1) sc__law_store.nd rfl (Or.inl rfl) (pe_callTy q_list (by rfl) m_list (by decide +kernel) (pa_cons (pv 0) pa_nil)))
  (pss_cons (ps_set (i := 2) sc__law_store.nd rfl (Or.inl rfl) (pe_op op_add pe_int (pe_callB q_len (by rfl) m_len PySem.boot_len (pa_cons (pv 1) pa_nil))))
  (pss_cons (ps_for PassesOwn.never rfl (pi_list (pv 1)) (pg_name (i := 3) sc__law_store.nd rfl (Or.inl rfl)) (pss_one (ps_set (i := 2) sc__law_store.nd rfl (Or.inl rfl) (pe_op op_mod (pe_op op_add (pe_op op_add (pe_op op_mul (pv 2) pe_int) (pe_op op_mod (pe_callTy q_intI (by rfl) m_int (by decide +kernel) (pa_cons (pv 3) pa_nil)) pe_int)) pe_int) pe_int))))
  (pss_one (ps_ret (pe_lst (pa_cons (pv 1) (pa_cons pe_int (pa_cons pe_int (pa_cons (pv 2) (pa_cons pe_int pa_nil))))))))))), ?_⟩
  refine Rd.at0 (σ := [some (.ref a), none, none, none]) rfl ?_
  repeat' (walk_at "rd")
  intro c hc
  repeat' (walk_at "rd")
  refine forL (ns.map V.int) (fun i σ H' => ∃ (s : Int) (v3 : Option V), σ = [some (.ref a), some (.ref c), some (.int s), v3] ∧ H' = upd H c (.lst (ns.map V.int))) ⟨_, none, rfl, rfl⟩ (fun i σ H' _ ⟨_, _, _, e⟩ => by rw [e]; exact .inl (.inl upd_same)) ?_ ?_
  · rintro i x σ H' hx ⟨z, v3, rfl, rfl⟩
    obtain ⟨y, hy, rfl⟩ := int_at hx
    repeat' (walk_at "rd")
    exact ⟨_, _, rfl, rfl⟩
  · rintro σ H' ⟨z, v3, rfl, rfl⟩
    repeat' (walk_at "rd")
    intro st hst
    have n1 : c ≠ st := (new_ne upd_same hst).symm
    exact q st c _ ((same_upd hc).trans (same_upd hst)) (free_of hst (same_upd hc)) ⟨ns, 0, 0, z, 0, upd_same, (upd_ne n1).trans upd_same, n1, Int.le_refl _, Int.le_refl _⟩
end
/-! ### the law's own sameness -/
section
variable {P : Program} {w : World} {K : PySem.W.Frag} {mg : Str → Option Value} {base : Heap}
/-- _law_same(one, two) of two values that hold the same data, no dict within: True -/
def spSame (K : PySem.W.Frag) (n : Nat) : Sp := fun vs H Q _ => ∃ (x y : V) (d : PyData) (m : Nat), n = m + 1 ∧ vs = [x, y] ∧ Dp K H x d ∧ Dp K H y d ∧ Fit m d ∧ Q (.bl true) H
theorem same_turn {K : PySem.W.Frag} {n : Nat} {H : Hp} {xs ys : List V} {ds : List PyData} {i : Nat} (h1 : DpAll K H xs ds) (h2 : DpAll K H ys ds) (hf : ∀ d ∈ ds, Fit n d) (hi : i < xs.length) :
    ∃ (x y : V) (d : PyData), xs[(0 + (i : Int)).toNat]? = some x ∧ ys[(0 + (i : Int)).toNat]? = some y ∧ Dp K H x d ∧ Dp K H y d ∧ Fit n d := by
  rw [show (0 + (i : Int)).toNat = i by omega]
  have hl : i < ds.length := by rw [← all_len h1]; exact hi
  have e := List.getElem?_eq_getElem hl
  obtain ⟨x, ex, dx⟩ := all_at h1 e
  obtain ⟨y, ey, dy⟩ := all_at h2 e
  exact ⟨x, y, _, ex, ey, dx, dy, hf _ (List.getElem_mem hl)⟩
set_option maxHeartbeats 4000000 in
theorem ok_same1 {n : Nat} (F : Def K mg "_law_same" s__law_same P__law_same) (m_isinstance : mg "isinstance" = none) (m_bool : mg "bool" = none) (m_int : mg "int" = none) (m_str : mg "str" = none) (m_dict : mg "dict" = none) (m_len : mg "len" = none) (m_list : mg "list" = none) (m_tuple : mg "tuple" = none) (m_range : mg "range" = none) (C__law_same : Cal P w K mg base n "_law_same" P__law_same (spSame K n)) : Cal P w K mg base (n + 1) "_law_same" P__law_same (spSame K (n + 1)) := by
  refine F.ok sc__law_same (fun vs H Q E h => ?_) (fun f cdv A outer s H vs Q E hr h => ?_)
  · obtain ⟨x, y, d, m, _, rfl, _⟩ := h
    rfl
  obtain ⟨x, y, d, m, hn, rfl, hx, hy, hf, q⟩ := h
  obtain rfl : n = m := by omega
  refine ⟨_, (pss_cons (ps_if (PW.pt (pw_or (pt_cmpR o_isN (pv 0) pe_non (nomark _)) (pw_or1 (pt_cmpR o_isN (pv 1) pe_non (nomark _))))) (pss_one (ps_ret (pe_and (pe_cmpR o_isN (pv 0) pe_non (nomark _)) (pe_one (pe_cmpR o_isN (pv 1) pe_non (nomark _)))))) pss_nil)
  (pss_cons (ps_if (PW.pt (pw_or (pt_val (pe_callB call_isi (by rfl) m_isinstance (by decide +kernel) (pa_cons (pv 0) (pa_cons (pe_bltn (v := .ty "bool") (u := .type "bool") (by rfl) m_bool (by decide +kernel) rfl) pa_nil)))) (pw_or1 (pt_val (pe_callB call_isi (by rfl) m_isinstance (by decide +kernel) (pa_cons (pv 1) (pa_cons (pe_bltn (v := .ty "bool") (u := .type "bool") (by rfl) m_bool (by decide +kernel) rfl) pa_nil))))))) (pss_one (ps_ret (pe_and (pe_callB call_isi (by rfl) m_isinstance (by decide +kernel) (pa_cons (pv 0) (pa_cons (pe_bltn (v := .ty "bool") (u := .type "bool") (by rfl) m_bool (by decide +kernel) rfl) pa_nil))) (pe_and (pe_callB call_isi (by rfl) m_isinstance (by decide +kernel) (pa_cons (pv 1) (pa_cons (pe_bltn (v := .ty "bool") (u := .type "bool") (by rfl) m_bool (by decide +kernel) rfl) pa_nil))) (pe_one (pe_cmpR op_eq (pv 0) (pv 1) (nomark _))))))) pss_nil)
  (pss_cons (ps_if (PW.pt (pw_or (pt_val (pe_callB call_isi (by rfl) m_isinstance (by decide +kernel) (pa_cons (pv 0) (pa_cons (pe_bltn (v := .ty "int") (u := .type "int") (by rfl) m_int (by decide +kernel) rfl) pa_nil)))) (pw_or1 (pt_val (pe_callB call_isi (by rfl) m_isinstance (by decide +kernel) (pa_cons (pv 1) (pa_cons (pe_bltn (v := .ty "int") (u := .type "int") (by rfl) m_int (by decide +kernel) rfl) pa_nil))))))) (pss_one (ps_ret (pe_and (pe_callB call_isi (by rfl) m_isinstance (by decide +kernel) (pa_cons (pv 0) (pa_cons (pe_bltn (v := .ty "int") (u := .type "int") (by rfl) m_int (by decide +kernel) rfl) pa_nil))) (pe_and (pe_callB call_isi (by rfl) m_isinstance (by decide +kernel) (pa_cons (pv 1) (pa_cons (pe_bltn (v := .ty "int") (u := .type "int") (by rfl) m_int (by decide +kernel) rfl) pa_nil))) (pe_one (pe_cmpR op_eq (pv 0) (pv 1) (nomark _))))))) pss_nil)
  (pss_cons (ps_if (PW.pt (pw_or (pt_val (pe_callB call_isi (by rfl) m_isinstance (by decide +kernel) (pa_cons (pv 0) (pa_cons (pe_bltn (v := .ty "str") (u := .type "str") (by rfl) m_str (by decide +kernel) rfl) pa_nil)))) (pw_or1 (pt_val (pe_callB call_isi (by rfl) m_isinstance (by decide +kernel) (pa_cons (pv 1) (pa_cons (pe_bltn (v := .ty "str") (u := .type "str") (by rfl) m_str (by decide +kernel) rfl) pa_nil))))))) (pss_one (ps_ret (pe_and (pe_callB call_isi (by rfl) m_isinstance (by decide +kernel) (pa_cons (pv 0) (pa_cons (pe_bltn (v := .ty "str") (u := .type "str") (by rfl) m_str (by decide +kernel) rfl) pa_nil))) (pe_and (pe_callB call_isi (by rfl) m_isinstance (by decide +kernel) (pa_cons (pv 1) (pa_cons (pe_bltn (v := .ty "str") (u := .type "str") (by rfl) m_str (by decide +kernel) rfl) pa_nil))) (pe_one (pe_cmpR op_eq (pv 0) (pv 1) (nomark _))))))) pss_nil)
  (pss_cons (ps_if (PW.pt (pw_or (pt_val (pe_callB call_isi (by rfl) m_isinstance (by decide +kernel) (pa_cons (pv 0) (pa_cons (pe_bltn (v := .ty "dict") (u := .type "dict") (by rfl) m_dict (by decide +kernel) rfl) pa_nil)))) (pw_or1 (pt_val (pe_callB call_isi (by rfl) m_isinstance (by decide +kernel) (pa_cons (pv 1) (pa_cons (pe_bltn (v := .ty "dict") (u := .type "dict") (by rfl) m_dict (by decide +kernel) rfl) pa_nil))))))) pss_never pss_nil)
  (pss_cons (ps_set (i := 3) sc__law_same.nd rfl (Or.inl rfl) (pe_and (pe_callB call_isi (by rfl) m_isinstance (by decide +kernel) (pa_cons (pv 0) (pa_cons (pe_bltn (v := .ty "list") (u := .type "list") (by rfl) m_list (by decide +kernel) rfl) pa_nil))) (pe_one (pe_callB call_isi (by rfl) m_isinstance (by decide +kernel) (pa_cons (pv 1) (pa_cons (pe_bltn (v := .ty "list") (u := .type "list") (by rfl) m_list (by decide +kernel) rfl) pa_nil))))))
  (pss_cons (ps_if (PW.pt (pw_and (pt_not (pt_val (pv 3))) (pw_and1 (pt_not (PW.pt (pw_and (pt_val (pe_callB call_isi (by rfl) m_isinstance (by decide +kernel) (pa_cons (pv 0) (pa_cons (pe_bltn (v := .ty "tuple") (u := .type "tuple") (by rfl) m_tuple (by decide +kernel) rfl) pa_nil)))) (pw_and1 (pt_val (pe_callB call_isi (by rfl) m_isinstance (by decide +kernel) (pa_cons (pv 1) (pa_cons (pe_bltn (v := .ty "tuple") (u := .type "tuple") (by rfl) m_tuple (by decide +kernel) rfl) pa_nil))))))))))) (pss_one (ps_ret pe_bl)) pss_nil)
  (pss_cons (ps_if (pt_cmpR op_ne (pe_callB q_len (by rfl) m_len PySem.boot_len (pa_cons (pv 0) pa_nil)) (pe_callB q_len (by rfl) m_len PySem.boot_len (pa_cons (pv 1) pa_nil)) (nomark _)) (pss_one (ps_ret pe_bl)) pss_nil)
  (pss_cons (ps_for PassesOwn.never rfl (pi_range1 (by rfl) m_range (pa_cons (pe_callB q_len (by rfl) m_len PySem.boot_len (pa_cons (pv 0) pa_nil)) pa_nil)) (pg_name (i := 4) sc__law_same.nd rfl (Or.inl rfl)) (pss_one (ps_if (pt_not (pt_val (pe_cal C__law_same hr (pa_cons (pe_ix ix_seq (pv 0) (pv 4) (fun _ _ => rfl)) (pa_cons (pe_ix ix_seq (pv 1) (pv 4) (fun _ _ => rfl)) pa_nil)) (Nat.le_refl _)))) (pss_one (ps_ret pe_bl)) pss_nil)))
  (pss_one (ps_ret pe_bl))))))))))), ?_⟩
  refine Rd.at0 (σ := [some x, some y, none, none, none]) rfl ?_
  have eqv : ∀ v : V, decide (v = v) = true := fun v => decide_eq_true rfl
  cases hx with
  | non =>
    cases hy
    repeat' (walk_at "rd")
    rw [eqv]
    exact q
  | bl b =>
    cases hy
    repeat' (walk_at "rd")
    rw [eqv]
    exact q
  | int i =>
    cases hy
    repeat' (walk_at "rd")
    rw [eqv]
    exact q
  | str z =>
    cases hy
    repeat' (walk_at "rd")
    rw [eqv]
    exact q
  | lst h1 r1 =>
    cases hy with
    | lst h2 r2 =>
      rename_i a xs ds b ys
      cases hf with
      | lst hd hf =>
        rename_i n
        have l1 := all_len r1
        have l2 := all_len r2
        repeat' (walk_at "rd")
        · omega
        refine forR (fun i σ H' => ∃ v4 : Option V, σ = [some (.ref a), some (.ref b), none, some (.bl true), v4] ∧ H' = H) ⟨none, rfl, rfl⟩ ?_ ?_
        · rintro i σ H' hi ⟨v4, rfl, rfl⟩
          obtain ⟨x, y, d, ex, ey, dx, dy, fd⟩ := same_turn r1 r2 hf (show i < xs.length by omega)
          repeat' (walk_at "rd")
          refine .inl (ixN' h1 (by omega) ex ?_)
          repeat' (walk_at "rd")
          refine .inl (ixN' h2 (by omega) ey ?_)
          repeat' (walk_at "rd")
          refine ⟨x, y, d, n, rfl, rfl, dx, dy, fd, ?_⟩
          repeat' (walk_at "rd")
          exact ⟨_, rfl, rfl⟩
        · rintro σ H' ⟨v4, rfl, rfl⟩
          repeat' (walk_at "rd")
          exact q
  | tup h1 r1 =>
    cases hy with
    | tup h2 r2 =>
      rename_i a xs ds b ys
      cases hf with
      | tup hd hf =>
        rename_i n
        have l1 := all_len r1
        have l2 := all_len r2
        repeat' (walk_at "rd")
        · omega
        refine forR (fun i σ H' => ∃ v4 : Option V, σ = [some (.ref a), some (.ref b), none, some (.bl false), v4] ∧ H' = H) ⟨none, rfl, rfl⟩ ?_ ?_
        · rintro i σ H' hi ⟨v4, rfl, rfl⟩
          obtain ⟨x, y, d, ex, ey, dx, dy, fd⟩ := same_turn r1 r2 hf (show i < xs.length by omega)
          repeat' (walk_at "rd")
          refine .inr (.inl (ixT' h1 (by omega) ex ?_))
          repeat' (walk_at "rd")
          refine .inr (.inl (ixT' h2 (by omega) ey ?_))
          repeat' (walk_at "rd")
          refine ⟨x, y, d, n, rfl, rfl, dx, dy, fd, ?_⟩
          repeat' (walk_at "rd")
          exact ⟨_, rfl, rfl⟩
        · rintro σ H' ⟨v4, rfl, rfl⟩
          repeat' (walk_at "rd")
          exact q
theorem ok__law_same (F : Def K mg "_law_same" s__law_same P__law_same) (m_isinstance : mg "isinstance" = none) (m_bool : mg "bool" = none) (m_int : mg "int" = none) (m_str : mg "str" = none) (m_dict : mg "dict" = none) (m_len : mg "len" = none) (m_list : mg "list" = none) (m_tuple : mg "tuple" = none) (m_range : mg "range" = none) : ∀ n : Nat, Cal P w K mg base n "_law_same" P__law_same (spSame K n)
  | 0 => (Def.none F).imp fun _ _ _ _ ⟨_, _, _, _, z, _⟩ => by omega
  | n + 1 => ok_same1 F m_isinstance m_bool m_int m_str m_dict m_len m_list m_tuple m_range (ok__law_same F m_isinstance m_bool m_int m_str m_dict m_len m_list m_tuple m_range n)
end
/-! ### shapes -/
inductive Sh where
  | nil
  | node (l : Sh) (k : PyData) (r : Sh)
def toD : Sh → PyData
  | .nil => .tuple []
  | .node l k r => .tuple [toD l, k, toD r]
def hgt : Sh → Nat
  | .nil => 0
  | .node l _ r => max (hgt l) (hgt r) + 1
def bal : Sh → Bool
  | .nil => true
  | .node l _ r => bal l && (bal r && decide (hgt l ≤ hgt r + 1 ∧ hgt r ≤ hgt l + 1))
def keys : Sh → List PyData
  | .nil => []
  | .node l k r => keys l ++ k :: keys r
theorem bal_node (l r : Sh) (k : PyData) : bal (.node l k r) = (bal l && (bal r && decide (hgt l ≤ hgt r + 1 ∧ hgt r ≤ hgt l + 1))) := rfl
theorem keys_node (l r : Sh) (k : PyData) : keys (.node l k r) = keys l ++ k :: keys r := rfl
theorem dp_nil {K : PySem.W.Frag} {H : Hp} {v : V} (h : Dp K H v (toD .nil)) : ∃ a, v = .ref a ∧ SqT K H a [] := by
  cases h with
  | tup h r =>
    cases r
    exact ⟨_, rfl, h⟩
theorem dp_node {K : PySem.W.Frag} {H : Hp} {v : V} {l r : Sh} {k : PyData} (h : Dp K H v (toD (.node l k r))) : ∃ a x y z, v = .ref a ∧ SqT K H a [x, y, z] ∧ Dp K H x (toD l) ∧ Dp K H y k ∧ Dp K H z (toD r) := by
  cases h with
  | tup h r =>
    cases r with
    | cons h1 r => cases r with
      | cons h2 r => cases r with
        | cons h3 r =>
          cases r
          exact ⟨_, _, _, _, rfl, h, h1, h2, h3⟩
section
variable {P : Program} {w : World} {K : PySem.W.Frag} {mg : Str → Option Value} {base : Heap}
/-- measure(shape): a new pair of the height and whether it is balanced -/
def spMeasure (K : PySem.W.Frag) (n : Nat) : Sp := fun vs H Q _ => ∃ (v : V) (t : Sh), vs = [v] ∧ Dp K H v (toD t) ∧ hgt t < n ∧
  ∀ (p : Addr) (H' : Hp), H p = none → Same H H' → H' p = some (.tup [.int (hgt t), .bl (bal t)]) → Q (.ref p) H'
theorem ok_measure1 {n : Nat} (F : Def K mg "measure" s_measure P_measure) (m_len : mg "len" = none) (m_max : mg "max" = none) (C_measure : Cal P w K mg base n "measure" P_measure (spMeasure K n)) : Cal P w K mg base (n + 1) "measure" P_measure (spMeasure K (n + 1)) := by
  refine F.ok sc_measure (fun vs H Q E h => ?_) (fun f cdv A outer s H vs Q E hr h => ?_)
  · obtain ⟨v, t, rfl, _⟩ := h
    rfl
  obtain ⟨v, t, rfl, hv, hn, q⟩ := h
  refine ⟨_, (pss_cons (ps_if (pt_cmpR op_eq (pe_callB q_len (by rfl) m_len PySem.boot_len (pa_cons (pv 0) pa_nil)) pe_int (nomark _)) (pss_one (ps_ret (pe_tup (pa_cons pe_int (pa_cons pe_bl pa_nil))))) pss_nil)
  (pss_cons (ps_asg (pv 0) (pg_tup (by rfl) (pgs_cons (pg_name (i := 1) sc_measure.nd rfl (Or.inl rfl)) (pgs_cons (pg_name (i := 2) sc_measure.nd rfl (Or.inl rfl)) (pgs_cons (pg_name (i := 3) sc_measure.nd rfl (Or.inl rfl)) pgs_nil)))))
  (pss_cons (ps_asg (pe_cal C_measure hr (pa_cons (pv 1) pa_nil) (Nat.le_refl _)) (pg_tup (by rfl) (pgs_cons (pg_name (i := 4) sc_measure.nd rfl (Or.inl rfl)) (pgs_cons (pg_name (i := 5) sc_measure.nd rfl (Or.inl rfl)) pgs_nil))))
  (pss_cons (ps_asg (pe_cal C_measure hr (pa_cons (pv 3) pa_nil) (Nat.le_refl _)) (pg_tup (by rfl) (pgs_cons (pg_name (i := 6) sc_measure.nd rfl (Or.inl rfl)) (pgs_cons (pg_name (i := 7) sc_measure.nd rfl (Or.inl rfl)) pgs_nil))))
  (pss_cons (ps_set (i := 8) sc_measure.nd rfl (Or.inl rfl) (pe_chain op_le op_le (pe_un un_neg pe_int) (pe_op op_sub (pv 4) (pv 6)) pe_int))
  (pss_one (ps_ret (pe_tup (pa_cons (pe_op op_add (pe_callB (q_max rfl) (by rfl) m_max (by decide +kernel) (pa_cons (pv 4) (pa_cons (pv 6) pa_nil))) pe_int) (pa_cons (pe_and (pv 5) (pe_and (pv 7) (pe_one (pv 8)))) pa_nil)))))))))), ?_⟩
  refine Rd.at0 (σ := [some v, none, none, none, none, none, none, none, none]) rfl ?_
  cases t with
  | nil =>
    obtain ⟨a, rfl, ha⟩ := dp_nil hv
    repeat' (walk_at "rd")
    intro p hp
    exact q p _ hp (same_upd hp) upd_same
  | node l k r =>
    obtain ⟨a, x, y, z, rfl, ha, hx, hy, hz⟩ := dp_node hv
    have hn1 : hgt l < n ∧ hgt r < n := by
      have z : max (hgt l) (hgt r) + 1 < n + 1 := hn
      omega
    repeat' (walk_at "rd")
    refine ⟨x, l, rfl, hx, hn1.1, fun p H1 np s1 e1 => ?_⟩
    repeat' (walk_at "rd")
    refine ⟨z, r, rfl, dp_same s1 hz, hn1.2, fun p' H2 np' s2 e2 => ?_⟩
    have s12 := s1.trans s2
    have e1' := s2 _ _ e1
    have fin : ∀ (i : Int) (u : Bool), i = (hgt (.node l k r) : Int) → u = bal (.node l k r) → ∀ p, H2 p = none → Q (.ref p) (upd H2 p (.tup [.int i, .bl u])) := by
      rintro i u rfl rfl p hp
      exact q p _ (s12.free hp) (s12.trans (same_upd hp)) upd_same
    repeat' (walk_at "rd")
    all_goals refine fin _ _ (by simp only [hgt]; split <;> omega) ?_
    all_goals rename_i c1 c2
    · rw [bal_node, c1, c2, Bool.true_and, Bool.true_and]
      exact decide_eq_decide.mpr (by omega)
    · rw [bal_node, c1, c2]
      rfl
    · rw [bal_node, c2]
      rfl
    · rw [bal_node, c1, c2, Bool.true_and, Bool.true_and]
      exact (decide_eq_false (by omega)).symm
    · rw [bal_node, c1, c2]
      rfl
    · rw [bal_node, c2]
      rfl
theorem ok_measure (F : Def K mg "measure" s_measure P_measure) (m_len : mg "len" = none) (m_max : mg "max" = none) : ∀ n : Nat, Cal P w K mg base n "measure" P_measure (spMeasure K n)
  | 0 => (Def.none F).imp fun _ _ _ _ ⟨_, _, _, _, z, _⟩ => by omega
  | n + 1 => ok_measure1 F m_len m_max (ok_measure F m_len m_max n)
/-- is_balanced(shape), shape_height(shape) -/
def spIsBal (K : PySem.W.Frag) (n : Nat) : Sp := fun vs H Q _ => ∃ (v : V) (t : Sh), vs = [v] ∧ Dp K H v (toD t) ∧ hgt t < n ∧ ∀ H', Same H H' → Q (.bl (bal t)) H'
def spHeight (K : PySem.W.Frag) (n : Nat) : Sp := fun vs H Q _ => ∃ (v : V) (t : Sh), vs = [v] ∧ Dp K H v (toD t) ∧ hgt t < n ∧ ∀ H', Same H H' → Q (.int (hgt t)) H'
theorem ok_is_balanced {n : Nat} (F : Def K mg "is_balanced" s_is_balanced P_is_balanced) (C_measure : Cal P w K mg base n "measure" P_measure (spMeasure K n)) : Cal P w K mg base (n + 1) "is_balanced" P_is_balanced (spIsBal K n) := by
  refine F.ok sc_is_balanced (fun vs H Q E h => ?_) (fun f cdv A outer s H vs Q E hr h => ?_)
  · obtain ⟨v, t, rfl, _⟩ := h
    rfl
  obtain ⟨v, t, rfl, hv, hn, q⟩ := h
  refine ⟨_, (pss_one (ps_ret (pe_ix ix_tup (pe_cal C_measure hr (pa_cons (pv 0) pa_nil) (Nat.le_refl _)) pe_int (fun _ _ => rfl)))), ?_⟩
  refine Rd.at0 (σ := [some v]) rfl ?_
  repeat' (walk_at "rd")
  refine ⟨v, t, rfl, hv, hn, fun p H1 np s1 e1 => ?_⟩
  repeat' (walk_at "rd")
  exact q _ s1
theorem ok_shape_height {n : Nat} (F : Def K mg "shape_height" s_shape_height P_shape_height) (C_measure : Cal P w K mg base n "measure" P_measure (spMeasure K n)) : Cal P w K mg base (n + 1) "shape_height" P_shape_height (spHeight K n) := by
  refine F.ok sc_shape_height (fun vs H Q E h => ?_) (fun f cdv A outer s H vs Q E hr h => ?_)
  · obtain ⟨v, t, rfl, _⟩ := h
    rfl
  obtain ⟨v, t, rfl, hv, hn, q⟩ := h
  refine ⟨_, (pss_one (ps_ret (pe_ix ix_tup (pe_cal C_measure hr (pa_cons (pv 0) pa_nil) (Nat.le_refl _)) pe_int (fun _ _ => rfl)))), ?_⟩
  refine Rd.at0 (σ := [some v]) rfl ?_
  repeat' (walk_at "rd")
  refine ⟨v, t, rfl, hv, hn, fun p H1 np s1 e1 => ?_⟩
  repeat' (walk_at "rd")
  exact q _ s1
/-- shape_keys(shape): a new list of the keys in order -/
def spKeys (K : PySem.W.Frag) (n : Nat) : Sp := fun vs H Q _ => ∃ (v : V) (t : Sh), vs = [v] ∧ Dp K H v (toD t) ∧ hgt t < n ∧ (keys t).length ≤ 100000 ∧
  ∀ (p : Addr) (xs : List V) (H' : Hp), H p = none → Same H H' → H' p = some (.lst xs) → DpAll K H' xs (keys t) → Q (.ref p) H'
theorem ok_shape_keys1 {n : Nat} (F : Def K mg "shape_keys" s_shape_keys P_shape_keys) (m_len : mg "len" = none) (C_shape_keys : Cal P w K mg base n "shape_keys" P_shape_keys (spKeys K n)) : Cal P w K mg base (n + 1) "shape_keys" P_shape_keys (spKeys K (n + 1)) := by
  refine F.ok sc_shape_keys (fun vs H Q E h => ?_) (fun f cdv A outer s H vs Q E hr h => ?_)
  · obtain ⟨v, t, rfl, _⟩ := h
    rfl
  obtain ⟨v, t, rfl, hv, hn, hl, q⟩ := h
  refine ⟨_, (pss_cons (ps_if (pt_cmpR op_eq (pe_callB q_len (by rfl) m_len PySem.boot_len (pa_cons (pv 0) pa_nil)) pe_int (nomark _)) (pss_one (ps_ret (pe_lst pa_nil))) pss_nil)
  (pss_cons (ps_asg (pv 0) (pg_tup (by rfl) (pgs_cons (pg_name (i := 1) sc_shape_keys.nd rfl (Or.inl rfl)) (pgs_cons (pg_name (i := 2) sc_shape_keys.nd rfl (Or.inl rfl)) (pgs_cons (pg_name (i := 3) sc_shape_keys.nd rfl (Or.inl rfl)) pgs_nil)))))
  (pss_one (ps_ret (pe_op op_cat (pe_op op_cat (pe_cal C_shape_keys hr (pa_cons (pv 1) pa_nil) (Nat.le_refl _)) (pe_lst (pa_cons (pv 2) pa_nil))) (pe_cal C_shape_keys hr (pa_cons (pv 3) pa_nil) (Nat.le_refl _))))))), ?_⟩
  refine Rd.at0 (σ := [some v, none, none, none]) rfl ?_
  cases t with
  | nil =>
    obtain ⟨a, rfl, ha⟩ := dp_nil hv
    repeat' (walk_at "rd")
    intro p hp
    exact q p _ _ hp (same_upd hp) upd_same .nil
  | node l k r =>
    obtain ⟨a, x, y, z, rfl, ha, hx, hy, hz⟩ := dp_node hv
    have hn1 : hgt l < n ∧ hgt r < n := by
      have z : max (hgt l) (hgt r) + 1 < n + 1 := hn
      omega
    have hl1 : (keys l).length + ((keys r).length + 1) ≤ 100000 := by
      rw [keys_node, List.length_append, List.length_cons] at hl
      exact hl
    repeat' (walk_at "rd")
    refine ⟨x, l, rfl, hx, hn1.1, by omega, fun p1 xs H1 np1 s1 e1 d1 => ?_⟩
    repeat' (walk_at "rd")
    intro p2 np2
    have s2 : Same H1 (upd H1 p2 (.lst [y])) := same_upd np2
    have l1 := all_len d1
    refine cat (s2 _ _ e1) upd_same (by rw [List.length_singleton]; exact sz5 (by omega)) fun p3 np3 => ?_
    have s3 := (s1.trans s2).trans (same_upd (o := .lst (xs ++ [y])) np3)
    repeat' (walk_at "rd")
    refine ⟨z, r, rfl, dp_same s3 hz, hn1.2, by omega, fun p4 ys H4 np4 s4 e4 d4 => ?_⟩
    have l4 := all_len d4
    refine cat (s4 _ _ upd_same) e4 (by rw [List.length_append, List.length_singleton]; exact sz5 (by omega)) fun p5 np5 => ?_
    have s5 : Same H4 (upd H4 p5 (.lst (xs ++ [y] ++ ys))) := same_upd np5
    have sAll := (s3.trans s4).trans s5
    refine q p5 _ _ ((s3.trans s4).free np5) sAll upd_same ?_
    exact all_mid (all_same (((s2.trans (same_upd np3)).trans s4).trans s5) d1) (dp_same sAll hy) (all_same s5 d4)
theorem ok_shape_keys (F : Def K mg "shape_keys" s_shape_keys P_shape_keys) (m_len : mg "len" = none) : ∀ n : Nat, Cal P w K mg base n "shape_keys" P_shape_keys (spKeys K n)
  | 0 => (Def.none F).imp fun _ _ _ _ ⟨_, _, _, _, z, _⟩ => by omega
  | n + 1 => ok_shape_keys1 F m_len (ok_shape_keys F m_len n)
end
/-! ### the least numbers of seats -/
def lsq : Nat → Int × Int
  | 0 => (0, 1)
  | n + 1 => ((lsq n).2, (lsq n).1 + (lsq n).2 + 1)
def ls (n : Nat) : Int := (lsq n).1
theorem ls_two (n : Nat) : ls (n + 2) = ls (n + 1) + ls n + 1 := by
  show (lsq (n + 1)).2 = _
  show (lsq n).1 + (lsq n).2 + 1 = (lsq n).2 + (lsq n).1 + 1
  omega
/-! ### drawn names -/
section
variable {P : Program} {w : World} {K : PySem.W.Frag} {mg : Str → Option Value} {base : Heap}
abbrev A26 : Str := "abcdefghijklmnopqrstuvwxyz"
abbrev A36 : Str := "0123456789abcdefghijklmnopqrstuvwxyz"
theorem a26 : A26.length = 26 ∧ ∀ c ∈ cl A26, Low c := by decide +kernel
theorem a36 : A36.length = 36 ∧ ∀ c ∈ cl A36, Aln c := by decide +kernel
/-- _law_name(store): a name of 1 to 12 signs -/
def spName : Sp := fun vs H Q _ => ∃ (st c : Addr), vs = [.ref st] ∧ StoreAt H st c ∧ ∀ (z : Str) (H' : Hp), Nm (cl z) → z.length ≤ 12 → Go st c H H' → Q (.str z) H'
theorem ok__law_name (F : Def K mg "_law_name" s__law_name P__law_name) (m_range : mg "range" = none) (C__law_take : Cal P w K mg base 1 "_law_take" P__law_take spTake) (C__law_between : Cal P w K mg base 2 "_law_between" P__law_between spBetween) : Cal P w K mg base 3 "_law_name" P__law_name spName := by
  refine F.ok sc__law_name (fun vs H Q E h => ?_) (fun f cdv A outer s H vs Q E hr h => ?_)
  · obtain ⟨st, c, rfl, _⟩ := h
    rfl
  obtain ⟨st, c, rfl, hs, q⟩ := h
  refine ⟨_, (pss_cons (ps_set (i := 1) sc__law_name.nd rfl (Or.inl rfl) (pe_cal C__law_between hr (pa_cons (pv 0) (pa_cons pe_int (pa_cons pe_int pa_nil)))))
  (pss_cons (ps_set (i := 2) sc__law_name.nd rfl (Or.inl rfl) (pe_ix ix_str pe_str (pe_cal C__law_take hr (pa_cons (pv 0) (pa_cons pe_int pa_nil))) (fun _ _ => rfl)))
  (pss_cons (ps_set (i := 3) sc__law_name.nd rfl (Or.inl rfl) (pe_cmpR op_eq (pe_cal C__law_take hr (pa_cons (pv 0) (pa_cons pe_int pa_nil))) pe_int (nomark _)))
  (pss_cons (ps_for PassesOwn.never rfl (pi_range1 (by rfl) m_range (pa_cons (pe_op op_sub (pv 1) pe_int) pa_nil)) (pg_name (i := 4) sc__law_name.nd rfl (Or.inl rfl)) (pss_one (ps_if (pt_val (pv 3)) (pss_one (ps_set (i := 2) sc__law_name.nd rfl (Or.inl rfl) (pe_op o_addZ (pv 2) (pe_ix ix_str (pv 2) pe_int (fun _ _ => rfl))))) (pss_one (ps_set (i := 2) sc__law_name.nd rfl (Or.inl rfl) (pe_op o_addZ (pv 2) (pe_ix ix_str pe_str (pe_cal C__law_take hr (pa_cons (pv 0) (pa_cons pe_int pa_nil))) (fun _ _ => rfl))))))))
  (pss_one (ps_ret (pv 2))))))), ?_⟩
  refine Rd.at0 (σ := [some (.ref st), none, none, none, none]) rfl ?_
  repeat' (walk_at "rd")
  refine ⟨st, c, 1, 12, rfl, hs, by decide, fun size H1 s1 s2 g1 => ?_⟩
  repeat' (walk_at "rd")
  refine ⟨st, c, 26, rfl, g1.ok, by decide, fun r H2 r0 r1 g2 => ?_⟩
  refine sign (z := A26) (by rw [a26.1]; decide) (by omega) (by rw [a26.1]; omega) fun x _ hx => ?_
  have hx := a26.2 x hx
  repeat' (walk_at "rd")
  refine ⟨st, c, 3, rfl, g2.ok, by decide, fun t H3 t0 t1 g3 => ?_⟩
  repeat' (walk_at "rd")
  generalize decide (V.int t = V.int 0) = al
  refine forR (fun i σ H' => ∃ (z : Str) (v4 : Option V), σ = [some (.ref st), some (.int size), some (.str z), some (.bl al), v4] ∧ Nm (cl z) ∧ z.length = i + 1 ∧ Go st c H H')
    ⟨⟨#[x]⟩, none, rfl, ⟨x, [], rfl, hx, fun _ h => by cases h⟩, rfl, (g1.trans g2).trans g3⟩ ?_ ?_
  · rintro i σ H' hi ⟨z, v4, rfl, nz, lz, g⟩
    repeat' (walk_at "rd")
    · obtain ⟨x, ex, lx⟩ := nz.head
      refine sign (z := z) (by omega) (by decide) (by omega) fun y ey _ => ?_
      obtain rfl : x = y := Option.some.inj (ex.symm.trans ey)
      repeat' (walk_at "rd")
      refine addZ (by rw [one_len]; exact sz5 (by omega)) ?_
      repeat' (walk_at "rd")
      refine ⟨_, _, rfl, ?_, ?_, g⟩
      · rw [cl_add, cl_one]
        exact nz.snoc (.inl lx)
      · rw [add_len, one_len, lz]
    · refine ⟨st, c, 36, rfl, g.ok, by decide, fun r H4 r0 r1 g4 => ?_⟩
      refine sign (z := A36) (by rw [a36.1]; decide) (by omega) (by rw [a36.1]; omega) fun x _ hx => ?_
      have hx := a36.2 x hx
      repeat' (walk_at "rd")
      refine addZ (by rw [one_len]; exact sz5 (by omega)) ?_
      repeat' (walk_at "rd")
      refine ⟨_, _, rfl, ?_, ?_, g.trans g4⟩
      · rw [cl_add, cl_one]
        exact nz.snoc hx
      · rw [add_len, one_len, lz]
  · rintro σ H' ⟨z, v4, rfl, nz, lz, g⟩
    repeat' (walk_at "rd")
    exact q z H' nz (by omega) g
end
/-! ### drawn keys -/
section
variable {P : Program} {w : World} {K : PySem.W.Frag} {mg : Str → Option Value} {base : Heap}
theorem strs_at {zs : List Str} {i : Int} (h0 : 0 ≤ i) (h1 : i < (zs.length : Int)) : ∃ z, (zs.map V.str)[i.toNat]? = some (.str z) ∧ z ∈ zs := by
  have hj : i.toNat < zs.length := by omega
  refine ⟨zs[i.toNat], ?_, List.getElem_mem hj⟩
  rw [List.getElem?_map, List.getElem?_eq_getElem hj]
  rfl
def keyD (zs : List Str) : PyData := .tuple (zs.map .str)
theorem dp_strs {H : Hp} : ∀ zs : List Str, DpAll K H (zs.map V.str) (zs.map PyData.str)
  | [] => .nil
  | z :: zs => .cons (.str z) (dp_strs zs)
theorem fit_key {zs : List Str} {n : Nat} (h : zs.length ≤ 100000) : Fit (n + 1) (keyD zs) := .tup (by rw [List.length_map]; exact h) fun d hd => by
  obtain ⟨z, _, rfl⟩ := List.mem_map.mp hd
  exact .str z
def ZOk (zs : List Str) : Prop := zs.length ≤ 4 ∧ ∀ z ∈ zs, TxOk z
instance (zs : List Str) : Decidable (ZOk zs) := inferInstanceAs (Decidable (_ ∧ _))
abbrev W8 : List Str := ["house", "arc", "", "a", "b", " ", "x y", "\n"]
theorem w8 : ∀ z ∈ W8, TxOk z := by decide +kernel
/-- _law_key(store, number): a new tuple of 1 to 4 texts -/
def spKey (K : PySem.W.Frag) : Sp := fun vs H Q _ => ∃ (st c : Addr) (n : Int), vs = [.ref st, .int n] ∧ StoreAt H st c ∧ 0 ≤ n ∧ n ≤ 1000000 ∧
  ∀ (p : Addr) (zs : List Str) (H' : Hp), H p = none → Go st c H H' → ZOk zs → H' p = some (.tup (zs.map V.str)) → Q (.ref p) H'
theorem ok__law_key (F : Def K mg "_law_key" s__law_key P__law_key) (m_range : mg "range" = none) (m_str : mg "str" = none) (m_tuple : mg "tuple" = none) (C__law_take : Cal P w K mg base 1 "_law_take" P__law_take spTake) (C__law_between : Cal P w K mg base 2 "_law_between" P__law_between spBetween) (C__law_name : Cal P w K mg base 3 "_law_name" P__law_name spName) : Cal P w K mg base 4 "_law_key" P__law_key (spKey K) := by
  refine F.ok sc__law_key (fun vs H Q E h => ?_) (fun f cdv A outer s H vs Q E hr h => ?_)
  · obtain ⟨st, c, n, rfl, _⟩ := h
    rfl
  obtain ⟨st, c, n, rfl, hs, n0, n1, q⟩ := h
  refine ⟨_, (pss_cons (ps_set (i := 2) sc__law_key.nd rfl (Or.inl rfl) (pe_cal C__law_between hr (pa_cons (pv 0) (pa_cons pe_int (pa_cons pe_int pa_nil)))))
  (pss_cons (ps_set (i := 3) sc__law_key.nd rfl (Or.inl rfl) (pe_cal C__law_take hr (pa_cons (pv 0) (pa_cons (pv 2) pa_nil))))
  (pss_cons (ps_set (i := 4) sc__law_key.nd rfl (Or.inl rfl) (pe_lst pa_nil))
  (pss_cons (ps_for PassesOwn.never rfl (pi_range1 (by rfl) m_range (pa_cons (pv 2) pa_nil)) (pg_name (i := 5) sc__law_key.nd rfl (Or.inl rfl)) (pss_cons (ps_set (i := 6) sc__law_key.nd rfl (Or.inl rfl) (pe_ix ix_list (pe_lst (pa_cons pe_str (pa_cons pe_str (pa_cons pe_str (pa_cons pe_str (pa_cons pe_str (pa_cons pe_str (pa_cons pe_str (pa_cons pe_str pa_nil))))))))) (pe_cal C__law_take hr (pa_cons (pv 0) (pa_cons pe_int pa_nil))) (fun _ _ => rfl)))
  (pss_cons (ps_if (pt_cmpR op_eq (pv 5) (pv 3) (nomark _)) (pss_one (ps_set (i := 6) sc__law_key.nd rfl (Or.inl rfl) (pe_callTy q_str (by rfl) m_str (by decide +kernel) (pa_cons (pv 1) pa_nil)))) (pss_one (ps_if (pt_cmpR op_eq (pe_cal C__law_take hr (pa_cons (pv 0) (pa_cons pe_int pa_nil))) pe_int (nomark _)) (pss_one (ps_set (i := 6) sc__law_key.nd rfl (Or.inl rfl) (pe_cal C__law_name hr (pa_cons (pv 0) pa_nil)))) pss_nil)))
  (pss_one (ps_expr (pe_bm PySem.F.plainAttrs_list PySem.F.slot_list_append PySem.F.type_list_append mt_append (pv 4) (pa_cons (pv 6) pa_nil)))))))
  (pss_one (ps_ret (pe_callTy q_tup (by rfl) m_tuple (by decide +kernel) (pa_cons (pv 4) pa_nil)))))))), ?_⟩
  refine Rd.at0 (σ := [some (.ref st), some (.int n), none, none, none, none, none]) rfl ?_
  repeat' (walk_at "rd")
  refine ⟨st, c, 1, 4, rfl, hs, by decide, fun size H1 s1 s2 g1 => ?_⟩
  repeat' (walk_at "rd")
  refine ⟨st, c, size, rfl, g1.ok, by omega, fun at0 H2 a0 a1 g2 => ?_⟩
  repeat' (walk_at "rd")
  intro p hp
  have g12 := g1.trans g2
  repeat' (walk_at "rd")
  refine forR (fun i σ H' => ∃ (zs : List Str) (v5 v6 : Option V), σ = [some (.ref st), some (.int n), some (.int size), some (.int at0), some (.ref p), v5, v6] ∧ (zs.length = i ∧ ∀ z ∈ zs, TxOk z) ∧ H' p = some (.lst (zs.map V.str)) ∧ Go st c H H' ∧ p ≠ st ∧ p ≠ c)
    ⟨[], none, none, rfl, ⟨rfl, fun _ hx => (List.not_mem_nil hx).elim⟩, upd_same, g12.new hp _, g12.ok.off hp⟩ ?_ ?_
  · rintro i σ H' hi ⟨zs, v5, v6, rfl, ⟨lz, tz⟩, ep, g, np⟩
    repeat' (walk_at "rd")
    intro l hl
    have g' := g.new (o := .lst (W8.map V.str)) hl
    have nl : l ≠ p := (ne_of_none ep hl).symm
    repeat' (walk_at "rd")
    refine ⟨st, c, 8, rfl, g'.ok, by decide, fun r H3 r0 r1 g3 => ?_⟩
    have hl3 : H3 l = some (.lst (W8.map V.str)) := g3.keep l _ (g.ok.off hl).1 upd_same
    have hp3 : H3 p = some (.lst (zs.map V.str)) := g3.keep p _ np.1 ((upd_ne nl.symm).trans ep)
    obtain ⟨z, ez, mz⟩ := strs_at (zs := W8) r0 (show r < ((W8.length : Nat) : Int) by show r < 8; omega)
    refine ixN' (.inl (.inl hl3)) r0 ez ?_
    have g03 := g'.trans g3
    have fin : ∀ (z : Str) (H4 : Hp), TxOk z → Go st c H3 H4 → ∃ (zs' : List Str) (v5 v6 : Option V), ([some (.ref st), some (.int n), some (.int size), some (.int at0), some (.ref p), some (.int (0 + (i : Int))), some (.str z)] : L2.St) = [some (.ref st), some (.int n), some (.int size), some (.int at0), some (.ref p), v5, v6] ∧ (zs'.length = i + 1 ∧ ∀ z ∈ zs', TxOk z) ∧
        (upd H4 p (.lst (zs.map V.str ++ [.str z]))) p = some (.lst (zs'.map V.str)) ∧ Go st c H (upd H4 p (.lst (zs.map V.str ++ [.str z]))) ∧ p ≠ st ∧ p ≠ c := fun z H4 oz g4 =>
      ⟨zs ++ [z], _, _, rfl, ⟨by rw [List.length_append, lz]; rfl, fun y hy => (List.mem_append.mp hy).elim (tz y) fun hy => List.mem_singleton.mp hy ▸ oz⟩, by rw [upd_same, List.map_append]; rfl, (g03.trans g4).write (g12.free hp) np _, np⟩
    have sz : (zs.map V.str).length < sizeLine := by
      rw [List.length_map]
      exact sz5' (by omega)
    repeat' (walk_at "rd")
    · refine strQ (log_small n0 n1) ?_
      repeat' (walk_at "rd")
      refine append hp3 sz ?_
      repeat' (walk_at "rd")
      exact fin _ _ (txOk_num n) (Go.refl g3.ok)
    · refine ⟨st, c, 4, rfl, g3.ok, by decide, fun r H4 r0 r1 g4 => ?_⟩
      have hp4 := g4.keep p _ np.1 hp3
      repeat' (walk_at "rd")
      · refine ⟨st, c, rfl, g4.ok, fun z' H5 nz lz' g5 => ?_⟩
        have hp5 := g5.keep p _ np.1 hp4
        repeat' (walk_at "rd")
        refine append hp5 sz ?_
        repeat' (walk_at "rd")
        exact fin _ _ (txOk_nm nz) (g4.trans g5)
      · refine append hp4 sz ?_
        repeat' (walk_at "rd")
        exact fin _ _ (w8 z mz) g4
  · rintro σ H' ⟨zs, v5, v6, rfl, ⟨lz, tz⟩, ep, g, np⟩
    repeat' (walk_at "rd")
    intro r hr
    have g' := g.new (o := .tup (zs.map V.str)) hr
    exact q r zs _ (g.free hr) g' ⟨by omega, tz⟩ upd_same
end
section
variable {P : Program} {w : World} {K : PySem.W.Frag} {mg : Str → Option Value} {base : Heap}
/-! ### drawn shapes -/
/-- what the law's shapes are: balanced, the keys texts -/
def KeysOk (t : Sh) : Prop := ∀ d ∈ keys t, ∃ zs : List Str, d = keyD zs ∧ ZOk zs
theorem keysOk_node {l r : Sh} {zs : List Str} (h1 : KeysOk l) (h2 : KeysOk r) (h : ZOk zs) : KeysOk (.node l (keyD zs) r) := fun d hd => by
  rw [keys_node] at hd
  rcases List.mem_append.mp hd with hd | hd
  · exact h1 d hd
  rcases List.mem_cons.mp hd with rfl | hd
  · exact ⟨zs, rfl, h⟩
  · exact h2 d hd
theorem tp_key (zs : List Str) : Tp (keyD zs) := .tup fun d hd => by
  obtain ⟨z, _, rfl⟩ := List.mem_map.mp hd
  exact .str z
theorem KeysOk.tp : ∀ t : Sh, KeysOk t → Tp (toD t)
  | .nil, _ => .tup fun _ h => by cases h
  | .node l k r, h => by
    have hl : KeysOk l := fun d hd => h d (by rw [keys_node]; exact List.mem_append_left _ hd)
    have hr : KeysOk r := fun d hd => h d (by rw [keys_node]; exact List.mem_append_right _ (List.mem_cons_of_mem _ hd))
    obtain ⟨zs, e, _⟩ := h k (by rw [keys_node]; exact List.mem_append_right _ List.mem_cons_self)
    subst e
    refine .tup fun d hd => ?_
    rcases List.mem_cons.mp hd with rfl | hd
    · exact KeysOk.tp l hl
    rcases List.mem_cons.mp hd with rfl | hd
    · exact tp_key zs
    rcases List.mem_cons.mp hd with rfl | hd
    · exact KeysOk.tp r hr
    · cases hd
/-- the knots -/
def cnt : Sh → Nat
  | .nil => 0
  | .node l _ r => cnt l + cnt r + 1
theorem cnt_keys : ∀ t : Sh, (keys t).length = cnt t
  | .nil => rfl
  | .node l k r => by
    rw [keys_node, List.length_append, List.length_cons, cnt_keys l, cnt_keys r]
    show _ = cnt l + cnt r + 1
    omega
/-- _law_balanced(store, height, made): a balanced shape of this height; made grows -/
def spBalanced (K : PySem.W.Frag) (n : Nat) : Sp := fun vs H Q _ => ∃ (st c m : Addr) (h : Int) (ks : List V), vs = [.ref st, .int h, .ref m] ∧ 0 ≤ h ∧ h < n ∧ StoreAt H st c ∧ (m ≠ st ∧ m ≠ c) ∧ H m = some (.lst ks) ∧ ks.length + 2 ^ h.toNat ≤ 50000 ∧
  ∀ (v : V) (t : Sh) (ks' : List V) (H' : Hp), (∀ b o, b ≠ st → b ≠ m → H b = some o → H' b = some o) → StoreAt H' st c → H' m = some (.lst ks') → ks'.length + 1 ≤ ks.length + 2 ^ h.toNat →
    Dp K H' v (toD t) → (hgt t : Int) = h → bal t = true → KeysOk t → cnt t + 1 ≤ 2 ^ h.toNat → Q v H'
theorem pow_le {x y : Int} (h : x ≤ y) : 2 ^ x.toNat ≤ 2 ^ y.toNat := Nat.pow_le_pow_right (by decide) (by omega)
theorem ok_balanced1 {n : Nat} (F : Def K mg "_law_balanced" s__law_balanced P__law_balanced) (m_int : mg "int" = none) (m_len : mg "len" = none) (C__law_take : Cal P w K mg base 1 "_law_take" P__law_take spTake) (C__law_key : Cal P w K mg base 4 "_law_key" P__law_key (spKey K)) (C__law_balanced : Cal P w K mg base (n + 4) "_law_balanced" P__law_balanced (spBalanced K n)) :
    Cal P w K mg base (n + 4 + 1) "_law_balanced" P__law_balanced (spBalanced K (n + 1)) := by
  refine F.ok sc__law_balanced (fun vs H Q E h => ?_) (fun f cdv A outer s H vs Q E hr h => ?_)
  · obtain ⟨st, c, m, h, ks, rfl, _⟩ := h
    rfl
  obtain ⟨st, c, m, h, ks, rfl, h0, hn, hs, nm, em, hl, q⟩ := h
  refine ⟨_, (pss_cons (ps_if (pt_cmpR op_le (pv 1) pe_int (nomark _)) (pss_one (ps_ret (pe_tup pa_nil))) pss_nil)
  (C8.pss_cut (ps_set (i := 3) sc__law_balanced.nd rfl (Or.inl rfl) (pe_op op_sub (pe_op op_sub (pv 1) pe_int) (pe_callTy q_intB (by rfl) m_int (by decide +kernel) (pa_cons (pe_and (pe_cmpR op_eq (pe_cal C__law_take hr (pa_cons (pv 0) (pa_cons pe_int pa_nil)) (by omega)) pe_int (nomark _)) (pe_one (pe_cmpR op_gt (pv 1) pe_int (nomark _)))) pa_nil))))
  (pss_cons (ps_set (i := 4) sc__law_balanced.nd rfl (Or.inl rfl) (pe_cmpR op_eq (pe_cal C__law_take hr (pa_cons (pv 0) (pa_cons pe_int pa_nil)) (by omega)) pe_int (nomark _)))
  (pss_cons (ps_set (i := 5) sc__law_balanced.nd rfl (Or.inl rfl) (pe_lst (pa_cons (pe_op op_sub (pv 1) pe_int) (pa_cons (pv 3) pa_nil))))
  (C8.pss_cut (ps_if (pt_val (pv 4)) (pss_one (ps_set (i := 5) sc__law_balanced.nd rfl (Or.inl rfl) (pe_lst (pa_cons (pv 3) (pa_cons (pe_op op_sub (pv 1) pe_int) pa_nil))))) pss_nil)
  (pss_cons (ps_set (i := 6) sc__law_balanced.nd rfl (Or.inl rfl) (pe_cal C__law_balanced hr (pa_cons (pv 0) (pa_cons (pe_ix ix_list (pv 5) pe_int (fun _ _ => rfl)) (pa_cons (pv 2) pa_nil))) (by omega)))
  (pss_cons (ps_set (i := 7) sc__law_balanced.nd rfl (Or.inl rfl) (pe_cal C__law_key hr (pa_cons (pv 0) (pa_cons (pe_callB q_len (by rfl) m_len PySem.boot_len (pa_cons (pv 2) pa_nil)) pa_nil)) (by omega)))
  (pss_cons (ps_expr (pe_bm PySem.F.plainAttrs_list PySem.F.slot_list_append PySem.F.type_list_append mt_append (pv 2) (pa_cons (pv 7) pa_nil)))
  (pss_one (ps_ret (pe_tup (pa_cons (pv 6) (pa_cons (pv 7) (pa_cons (pe_cal C__law_balanced hr (pa_cons (pv 0) (pa_cons (pe_ix ix_list (pv 5) pe_int (fun _ _ => rfl)) (pa_cons (pv 2) pa_nil))) (by omega)) pa_nil)))))))))))))), ?_⟩
  refine Rd.at0 (σ := [some (.ref st), some (.int h), some (.ref m), none, none, none, none, none]) rfl ?_
  repeat' (walk_at "rd")
  · intro p hp
    have z : h.toNat = 0 := by omega
    rw [z] at q hl
    refine q _ .nil ks _ (fun b o _ _ e => (upd_ne (ne_of_none e hp)).trans e) (hs.put (hs.off hp) _) ((upd_ne (ne_of_none em hp)).trans em) (Nat.le_refl _) (.tup (.inl (.inl upd_same)) .nil) (show ((0 : Nat) : Int) = h by omega) rfl (fun d hd => by cases hd) (by decide)
  rename_i hpos
  have hpos : 1 ≤ h := by omega
  obtain ⟨M, hM⟩ : ∃ M, 2 ^ (h - 1).toNat = M := ⟨_, rfl⟩
  have h2M : 2 ^ h.toNat = M + M := by
    rw [← hM, show h.toNat = (h - 1).toNat + 1 by omega, Nat.pow_succ]
    omega
  have pw : ∀ x : Int, x ≤ h - 1 → 2 ^ x.toNat ≤ M := fun x hx => by
    rw [← hM]
    exact pow_le hx
  rw [h2M] at q hl
  refine Rd.cut (fun σ' H' => ∃ lo : Int, σ' = [some (.ref st), some (.int h), some (.ref m), some (.int lo), none, none, none, none] ∧ 0 ≤ lo ∧ lo ≤ h - 1 ∧ h - 2 ≤ lo ∧ Go st c H H') ?_ ?_
  · repeat' (walk_at "rd")
    refine ⟨st, c, 2, rfl, hs, by decide, fun r1 H1 a0 a1 g1 => ?_⟩
    repeat' (walk_at "rd")
    · refine ⟨_, rfl, ?_, ?_, ?_, g1⟩ <;> (split <;> (try rename_i z; simp only [decide_eq_true_eq] at z) <;> omega)
    · exact ⟨_, rfl, by simp only [Bool.false_eq_true, if_false]; omega, by simp only [Bool.false_eq_true, if_false]; omega, by simp only [Bool.false_eq_true, if_false]; omega, g1⟩
  rintro σ' H1 ⟨lo, rfl, l0, l1, l2, g1⟩
  repeat' (walk_at "rd")
  refine ⟨st, c, 2, rfl, g1.ok, by decide, fun r2 H2 b0 b1 g2 => ?_⟩
  have g12 := g1.trans g2
  repeat' (walk_at "rd")
  intro L hL
  generalize decide (V.int r2 = V.int 1) = fl
  repeat' (walk_at "rd")
  refine Rd.cut (fun σ' H' => ∃ (L : Addr) (h1 h2 : Int), σ' = [some (.ref st), some (.int h), some (.ref m), some (.int lo), some (.bl fl), some (.ref L), none, none] ∧ 0 ≤ h1 ∧ 0 ≤ h2 ∧ h1 ≤ h - 1 ∧ h2 ≤ h - 1 ∧ h1 ≤ h2 + 1 ∧ h2 ≤ h1 + 1 ∧
    (h1 = h - 1 ∨ h2 = h - 1) ∧ H' L = some (.lst [.int h1, .int h2]) ∧ L ≠ st ∧ L ≠ c ∧ L ≠ m ∧ Go st c H H') ?_ ?_
  · have em2 := g12.keep m _ nm.1 em
    have g3 := g12.new (o := .lst [.int (h - 1), .int lo]) hL
    have nL := g12.ok.off hL
    have nLm : L ≠ m := (ne_of_none em2 hL).symm
    repeat' (walk_at "rd")
    · intro L2 hL2
      repeat' (walk_at "rd")
      have nLm2 : L2 ≠ m := (ne_of_none ((upd_ne nLm.symm).trans em2) hL2).symm
      exact ⟨L2, lo, h - 1, rfl, by omega, by omega, by omega, by omega, by omega, by omega, by omega, upd_same, (g3.ok.off hL2).1, (g3.ok.off hL2).2, nLm2, g3.new hL2 _⟩
    · exact ⟨L, h - 1, lo, rfl, by omega, by omega, by omega, by omega, by omega, by omega, by omega, upd_same, nL.1, nL.2, nLm, g3⟩
  rintro σ' H3 ⟨L, h1, h2, rfl, p1, p2, p3, p4, p5, p6, p7, eL, nL1, nL2, nL3, g3⟩
  have em3 := g3.keep m _ nm.1 em
  have q1 := pw h1 p3
  have q2 := pw h2 p4
  repeat' (walk_at "rd")
  refine ⟨st, c, m, h1, ks, rfl, p1, by omega, g3.ok, nm, em3, by omega, fun v1 t1 ks1 H4 k4 s4 em4 lk4 d4 ht4 bt4 ko4 ct4 => ?_⟩
  have eL4 := k4 L _ nL1 nL3 eL
  repeat' (walk_at "rd")
  refine ⟨st, c, _, rfl, s4, by omega, by omega, fun kp zs H5 nk g5 lz ek => ?_⟩
  have em5 := g5.keep m _ nm.1 em4
  have eL5 := g5.keep L _ nL1 eL4
  repeat' (walk_at "rd")
  refine append em5 (sz5' (by omega)) ?_
  repeat' (walk_at "rd")
  have nkm : kp ≠ m := fun e => by
    rw [e, em5] at ek
    cases ek
  refine ⟨st, c, m, h2, ks1 ++ [.ref kp], rfl, p2, by omega, g5.ok.put nm _, nm, upd_same, by rw [List.length_append, List.length_singleton]; omega, fun v2 t2 ks2 H6 k6 s6 em6 lk6 d6 ht6 bt6 ko6 ct6 => ?_⟩
  repeat' (walk_at "rd")
  intro p hp
  have nkst : kp ≠ st := (s4.off nk).1
  -- what stood, stands
  have t45 : Tk H4 H5 := fun b o n e => g5.keep b o (fun z => by
    obtain ⟨_, _, _, _, _, z1, _⟩ := s4
    rw [z, z1] at e
    exact n _ (Option.some.inj e).symm) e
  have t56 : Tk H5 (upd H5 m (.lst (ks1 ++ [.ref kp]))) := fun b o n e => by
    refine (upd_ne fun z => ?_).trans e
    rw [z, em5] at e
    exact n _ (Option.some.inj e).symm
  have t6 : Tk (upd H5 m (.lst (ks1 ++ [.ref kp]))) H6 := fun b o n e => k6 b o (fun z => by
    obtain ⟨_, _, _, _, _, z1, _⟩ := g5.ok
    rw [z, upd_ne (Ne.symm nm.1), z1] at e
    exact n _ (Option.some.inj e).symm) (fun z => by
    rw [z, upd_same] at e
    exact n _ (Option.some.inj e).symm) e
  have t67 : Tk H6 (upd H6 p (.tup [v1, .ref kp, v2])) := Rd.Same.tk (same_upd hp)
  have ek6 : H6 kp = some (.tup (zs.map V.str)) := k6 kp _ nkst nkm ((upd_ne nkm).trans ek)
  have dn : Dp K (upd H6 p (.tup [v1, .ref kp, v2])) (.ref p) (toD (.node t1 (keyD zs) t2)) :=
    .tup (.inl (.inl upd_same)) (.cons (dp_tk (((t45.trans t56).trans t6).trans t67) d4 (KeysOk.tp t1 ko4)) (.cons (.tup (.inl (.inl (same_upd hp _ _ ek6))) (dp_strs zs)) (.cons (dp_same (same_upd hp) d6) .nil)))
  refine q (.ref p) (.node t1 (keyD zs) t2) ks2 _ (fun b o n1 n2 e => ?_) (s6.put (s6.off hp) _) (same_upd hp _ _ em6) ?_ dn ?_ ?_ (keysOk_node ko4 ko6 lz) ?_
  · have e3 := g3.keep b o n1 e
    have e4 := k4 b o n1 n2 e3
    have e5 := g5.keep b o n1 e4
    have e6 := k6 b o n1 n2 ((upd_ne n2).trans e5)
    exact same_upd hp _ _ e6
  · rw [List.length_append, List.length_singleton] at lk6
    omega
  · show (((max (hgt t1) (hgt t2) + 1 : Nat)) : Int) = h
    omega
  · rw [bal_node, bt4, bt6, Bool.true_and, Bool.true_and]
    exact decide_eq_true (by omega)
  · show cnt t1 + cnt t2 + 1 + 1 ≤ _
    omega
theorem ok__law_balanced (F : Def K mg "_law_balanced" s__law_balanced P__law_balanced) (m_int : mg "int" = none) (m_len : mg "len" = none) (C__law_take : Cal P w K mg base 1 "_law_take" P__law_take spTake) (C__law_key : Cal P w K mg base 4 "_law_key" P__law_key (spKey K)) : ∀ n : Nat, Cal P w K mg base (n + 4) "_law_balanced" P__law_balanced (spBalanced K n)
  | 0 => ((Def.none F).mono (by omega)).imp fun _ _ _ _ ⟨_, _, _, _, _, _, _, z, _⟩ => by omega
  | n + 1 => (ok_balanced1 F m_int m_len C__law_take C__law_key (ok__law_balanced F m_int m_len C__law_take C__law_key n)).mono (by omega)
end
section
variable {P : Program} {w : World} {K : PySem.W.Frag} {mg : Str → Option Value} {base : Heap}
/-! ### the shape with the fewest knots -/
/-- _law_least_shape(height, lean) -/
def spLshape (K : PySem.W.Frag) (n : Nat) : Sp := fun vs H Q _ => ∃ (h : Int) (u : Bool), vs = [.int h, .bl u] ∧ (-1 ≤ h ∧ h ≤ (n : Int) - 2) ∧
  ∀ (v : V) (t : Sh) (H' : Hp), Same H H' → Dp K H' v (toD t) → hgt t = h.toNat → bal t = true → KeysOk t → (cnt t : Int) = ls h.toNat → Q v H'
theorem ok_lshape1 {n : Nat} (F : Def K mg "_law_least_shape" s__law_least_shape P__law_least_shape) (C__law_least_shape : Cal P w K mg base n "_law_least_shape" P__law_least_shape (spLshape K n)) : Cal P w K mg base (n + 1) "_law_least_shape" P__law_least_shape (spLshape K (n + 1)) := by
  refine F.ok sc__law_least_shape (fun vs H Q E h => ?_) (fun f cdv A outer s H vs Q E hr h => ?_)
  · obtain ⟨h, u, rfl, _⟩ := h
    rfl
  obtain ⟨h, u, rfl, hn, q⟩ := h
  refine ⟨_, (pss_cons (ps_if (pt_cmpR op_le (pv 0) pe_int (nomark _)) (pss_one (ps_ret (pe_tup pa_nil))) pss_nil)
  (pss_cons (ps_set (i := 2) sc__law_least_shape.nd rfl (Or.inl rfl) (pe_cal C__law_least_shape hr (pa_cons (pe_op op_sub (pv 0) pe_int) (pa_cons (pv 1) pa_nil)) (Nat.le_refl _)))
  (pss_cons (ps_set (i := 3) sc__law_least_shape.nd rfl (Or.inl rfl) (pe_cal C__law_least_shape hr (pa_cons (pe_op op_sub (pv 0) pe_int) (pa_cons (pv 1) pa_nil)) (Nat.le_refl _)))
  (pss_cons (ps_if (pt_val (pv 1)) (pss_one (ps_ret (pe_tup (pa_cons (pv 2) (pa_cons (pe_tup (pa_cons pe_str pa_nil)) (pa_cons (pv 3) pa_nil)))))) pss_nil)
  (pss_one (ps_ret (pe_tup (pa_cons (pv 3) (pa_cons (pe_tup (pa_cons pe_str pa_nil)) (pa_cons (pv 2) pa_nil)))))))))), ?_⟩
  refine Rd.at0 (σ := [some (.int h), some (.bl u), none, none]) rfl ?_
  repeat' (walk_at "rd")
  · intro p hp
    have z : h.toNat = 0 := by omega
    rw [z] at q
    exact q _ .nil _ (same_upd hp) (.tup (.inl (.inl upd_same)) .nil) rfl rfl (fun d hd => by cases hd) rfl
  refine ⟨_, u, rfl, by omega, fun v1 t1 H1 s1 d1 h1 b1 k1 c1 => ?_⟩
  repeat' (walk_at "rd")
  refine ⟨_, u, rfl, by omega, fun v2 t2 H2 s2 d2 h2 b2 k2 c2 => ?_⟩
  have hpos : 0 < h := by omega
  have lss : ls h.toNat = ls (h - 1).toNat + ls (h - 2).toNat + 1 := by
    by_cases z : h = 1
    · subst z
      decide
    · have e := ls_two (h - 2).toNat
      rw [show (h - 2).toNat + 2 = h.toNat by omega, show (h - 2).toNat + 1 = (h - 1).toNat by omega] at e
      exact e
  have e1 : ∀ p : Addr, H2 p = none → ∀ q' : Addr, (upd H2 p (.tup [.str "a"])) q' = none → True := fun _ _ _ _ => trivial
  repeat' (walk_at "rd")
  all_goals intro p hp
  all_goals repeat' (walk_at "rd")
  all_goals intro r hr
  all_goals have sp : Same H2 (upd H2 p (.tup [.str "a"])) := same_upd hp
  all_goals have dk : ∀ o, Dp K (upd (upd H2 p (.tup [.str "a"])) r o) (.ref p) (keyD ["a"]) := fun o => .tup (.inl (.inl (same_upd hr _ _ upd_same))) (dp_strs ["a"])
  · refine q (.ref r) (.node t1 (keyD ["a"]) t2) _ (((s1.trans s2).trans sp).trans (same_upd hr)) (.tup (.inl (.inl upd_same)) (.cons (dp_same ((s2.trans sp).trans (same_upd hr)) d1) (.cons (dk _) (.cons (dp_same (sp.trans (same_upd hr)) d2) .nil)))) ?_ ?_ (keysOk_node k1 k2 (by decide +kernel)) ?_
    · show max (hgt t1) (hgt t2) + 1 = h.toNat
      omega
    · rw [bal_node, b1, b2, Bool.true_and, Bool.true_and]
      exact decide_eq_true (by omega)
    · show (((cnt t1 + cnt t2 + 1 : Nat)) : Int) = _
      omega
  · refine q (.ref r) (.node t2 (keyD ["a"]) t1) _ (((s1.trans s2).trans sp).trans (same_upd hr)) (.tup (.inl (.inl upd_same)) (.cons (dp_same (sp.trans (same_upd hr)) d2) (.cons (dk _) (.cons (dp_same ((s2.trans sp).trans (same_upd hr)) d1) .nil)))) ?_ ?_ (keysOk_node k2 k1 (by decide +kernel)) ?_
    · show max (hgt t2) (hgt t1) + 1 = h.toNat
      omega
    · rw [bal_node, b1, b2, Bool.true_and, Bool.true_and]
      exact decide_eq_true (by omega)
    · show (((cnt t2 + cnt t1 + 1 : Nat)) : Int) = _
      omega
theorem ok__law_least_shape (F : Def K mg "_law_least_shape" s__law_least_shape P__law_least_shape) : ∀ n : Nat, Cal P w K mg base n "_law_least_shape" P__law_least_shape (spLshape K n)
  | 0 => (Def.none F).imp fun _ _ _ _ ⟨_, _, _, z, _⟩ => by omega
  | n + 1 => ok_lshape1 F  (ok__law_least_shape F  n)
end
/-! ### the walk with a stack -/
inductive Job where
  | part (t : Sh)
  | key (d : PyData)
  | up
def cost : Sh → Nat
  | .nil => 1
  | .node l _ r => cost l + cost r + 3
theorem cost_cnt : ∀ t : Sh, cost t = 4 * cnt t + 1
  | .nil => rfl
  | .node l k r => by
    show cost l + cost r + 3 = 4 * (cnt l + cnt r + 1) + 1
    rw [cost_cnt l, cost_cnt r]
    omega
def jcost : Job → Nat
  | .part t => cost t
  | .key _ => 1
  | .up => 1
theorem jcost_pos (j : Job) : 1 ≤ jcost j := by
  cases j with
  | part t =>
    show 1 ≤ cost t
    rw [cost_cnt]
    omega
  | key d => exact Nat.le_refl 1
  | up => exact Nat.le_refl 1
def costs : List Job → Nat
  | [] => 0
  | j :: r => jcost j + costs r
theorem len_costs : ∀ js : List Job, js.length ≤ costs js
  | [] => Nat.le_refl _
  | j :: r => by
    have := len_costs r
    have := jcost_pos j
    show r.length + 1 ≤ jcost j + costs r
    omega
/-- what doing the jobs comes to: the next job first, the newest height first -/
def fin4 : List Job → List Int → List PyData → Bool → Option (List Int × List PyData × Bool)
  | [], told, ks, b => some (told, ks, b)
  | .part t :: r, told, ks, b => fin4 r ((hgt t : Int) :: told) (ks ++ keys t) (b && bal t)
  | .key d :: r, told, ks, b => fin4 r told (ks ++ [d]) b
  | .up :: r, x :: y :: told, ks, b => fin4 r ((1 + if x > y then x else y) :: told) ks (b && decide (((if y - x < 0 then -(y - x) else y - x) : Int) ≤ 1))
  | .up :: _, _, _, _ => none
theorem fin4_part (l r : Sh) (k : PyData) (rest : List Job) (told : List Int) (ks : List PyData) (b : Bool) :
    fin4 (.part l :: .key k :: .part r :: .up :: rest) told ks b = fin4 (.part (.node l k r) :: rest) told ks b := by
  have e1 : (1 + if ((hgt r : Int)) > (hgt l : Int) then ((hgt r : Int)) else (hgt l : Int)) = ((hgt (.node l k r) : Nat) : Int) := by
    show _ = ((max (hgt l) (hgt r) + 1 : Nat) : Int)
    split <;> omega
  have e2 : (b && bal l && bal r && decide (((if (hgt l : Int) - hgt r < 0 then -((hgt l : Int) - hgt r) else (hgt l : Int) - hgt r) : Int) ≤ 1)) = (b && bal (.node l k r)) := by
    rw [bal_node]
    have z : decide (((if (hgt l : Int) - hgt r < 0 then -((hgt l : Int) - hgt r) else (hgt l : Int) - hgt r) : Int) ≤ 1) = decide (hgt l ≤ hgt r + 1 ∧ hgt r ≤ hgt l + 1) := decide_eq_decide.mpr (by split <;> omega)
    rw [z]
    cases b <;> cases bal l <;> cases bal r <;> rfl
  have e3 : ks ++ keys l ++ [k] ++ keys r = ks ++ keys (.node l k r) := by
    rw [keys_node]
    simp only [List.append_assoc, List.singleton_append]
  show fin4 rest ((1 + if ((hgt r : Int)) > (hgt l : Int) then ((hgt r : Int)) else (hgt l : Int)) :: told) (ks ++ keys l ++ [k] ++ keys r) _ = fin4 rest _ _ _
  rw [e1, e3, e2]
def JobAt (K : PySem.W.Frag) (H : Hp) (x : V) : Job → Prop
  | .part t => ∃ a y, x = .ref a ∧ H a = some (.tup [.str "part", y]) ∧ Dp K H y (toD t) ∧ Tp (toD t)
  | .key d => ∃ a y, x = .ref a ∧ H a = some (.tup [.str "key", y]) ∧ Dp K H y d ∧ Tp d
  | .up => ∃ a, x = .ref a ∧ H a = some (.tup [.str "up", .non])
theorem JobAt.tk {K : PySem.W.Frag} {H H' : Hp} {x : V} {j : Job} (e : Tk H H') (h : JobAt K H x j) : JobAt K H' x j := by
  cases j with
  | part t =>
    obtain ⟨a, y, rfl, h1, h2, h3⟩ := h
    exact ⟨a, y, rfl, e _ _ (fun _ z => by cases z) h1, dp_tk e h2 h3, h3⟩
  | key d =>
    obtain ⟨a, y, rfl, h1, h2, h3⟩ := h
    exact ⟨a, y, rfl, e _ _ (fun _ z => by cases z) h1, dp_tk e h2 h3, h3⟩
  | up =>
    obtain ⟨a, rfl, h1⟩ := h
    exact ⟨a, rfl, e _ _ (fun _ z => by cases z) h1⟩
def JobsAt (K : PySem.W.Frag) (H : Hp) : List V → List Job → Prop
  | [], [] => True
  | x :: xs, j :: js => JobAt K H x j ∧ JobsAt K H xs js
  | _, _ => False
theorem JobsAt.tk {K : PySem.W.Frag} {H H' : Hp} (e : Tk H H') : ∀ {xs : List V} {js : List Job}, JobsAt K H xs js → JobsAt K H' xs js
  | [], [], _ => trivial
  | _ :: _, _ :: _, h => ⟨h.1.tk e, JobsAt.tk e h.2⟩
  | [], _ :: _, h => h.elim
  | _ :: _, [], h => h.elim
theorem JobsAt.len {K : PySem.W.Frag} {H : Hp} : ∀ {xs : List V} {js : List Job}, JobsAt K H xs js → xs.length = js.length
  | [], [], _ => rfl
  | _ :: _, _ :: _, h => congrArg (· + 1) (JobsAt.len h.2)
  | [], _ :: _, h => h.elim
  | _ :: _, [], h => h.elim
section
variable {P : Program} {w : World} {K : PySem.W.Frag} {mg : Str → Option Value} {base : Heap}
/-- _law_measured(shape) -/
def spMeasured (K : PySem.W.Frag) : Sp := fun vs H Q _ => ∃ (v : V) (t : Sh), vs = [v] ∧ Dp K H v (toD t) ∧ Tp (toD t) ∧ cost t ≤ 1609 ∧
  ∀ (p kp : Addr) (kx : List V) (H' : Hp), Same H H' → H p = none → H' p = some (.lst [.int (hgt t), .int (cnt t), .bl (bal t), .ref kp]) → H' kp = some (.lst kx) → DpAll K H' kx (keys t) → Q (.ref p) H'
/-- the turns' invariant -/
structure Mid (K : PySem.W.Frag) (H : Hp) (t : Sh) (L T Y : Addr) (i : Nat) (b : Bool) (H' : Hp) (js : List Job) (told : List Int) (ks : List PyData) (zs kx : List V) : Prop where
  hL : H' L = some (.lst zs.reverse)
  hT : H' T = some (.lst (told.map V.int).reverse)
  hY : H' Y = some (.lst kx)
  jobs : JobsAt K H' zs js
  keys : DpAll K H' kx ks
  tps : ∀ d ∈ ks, Tp d
  fin : fin4 js told ks b = some ([(hgt t : Int)], Kj.keys t, bal t)
  cst : costs js + i ≤ 1609
  tl : told.length ≤ i
  kl : ks.length ≤ i
  same : Same H H'
  lt : L ≠ T
  ly : L ≠ Y
  ty : T ≠ Y
  fL : H L = none
  fT : H T = none
  fY : H Y = none
/-- the heap while a knot's four jobs are laid -/
structure Bun (K : PySem.W.Frag) (H H' : Hp) (L T Y ya : Addr) (ps tx kx : List V) (zs : List V) (G : Hp) : Prop where
  hL : G L = some (.lst zs.reverse)
  hT : G T = some (.lst tx)
  hY : G Y = some (.lst kx)
  tk : Tk H' G
  sm : Same H G
  sS : SqT K G ya ps
theorem Bun.new {H H' : Hp} {L T Y ya p : Addr} {ps tx kx zs : List V} {G : Hp} (b : Bun K H H' L T Y ya ps tx kx zs G) (n : G p = none) (o : HO) : Bun K H H' L T Y ya ps tx kx zs (upd G p o) :=
  ⟨same_upd n _ _ b.hL, same_upd n _ _ b.hT, same_upd n _ _ b.hY, b.tk.trans (tk_new n o), b.sm.trans (same_upd n), sqT_same (same_upd n) b.sS⟩
theorem Bun.app {H H' : Hp} {L T Y ya : Addr} {ps tx kx zs : List V} {z : V} {G : Hp} (b : Bun K H H' L T Y ya ps tx kx zs G) (lt : L ≠ T) (ly : L ≠ Y) (f : H L = none) : Bun K H H' L T Y ya ps tx kx (z :: zs) (upd G L (.lst (z :: zs).reverse)) :=
  ⟨upd_same, (upd_ne (Ne.symm lt)).trans b.hT, (upd_ne (Ne.symm ly)).trans b.hY, b.tk.trans (tk_put b.hL _), same_put b.sm f _, sqT_tk (tk_put b.hL _) b.sS⟩
theorem ok__law_measured (F : Def K mg "_law_measured" s__law_measured P__law_measured) (m_range : mg "range" = none) (m_len : mg "len" = none) (m_max : mg "max" = none) (m_abs : mg "abs" = none) (m_isinstance : mg "isinstance" = none) (m_tuple : mg "tuple" = none) : Cal P w K mg base 1 "_law_measured" P__law_measured (spMeasured K) := by
  refine F.ok sc__law_measured (fun vs H Q E h => ?_) (fun f cdv A outer s H vs Q E hr h => ?_)
  · obtain ⟨v, t, rfl, _⟩ := h
    rfl
  obtain ⟨v, t, rfl, hv, htp, hc, q⟩ := h
  refine ⟨_, (pss_cons (ps_set (i := 1) sc__law_measured.nd rfl (Or.inl rfl) (pe_lst (pa_cons (pe_tup (pa_cons pe_str (pa_cons (pv 0) pa_nil))) pa_nil)))
  (pss_cons (ps_set (i := 2) sc__law_measured.nd rfl (Or.inl rfl) (pe_lst pa_nil))
  (pss_cons (ps_set (i := 3) sc__law_measured.nd rfl (Or.inl rfl) (pe_lst pa_nil))
  (pss_cons (ps_set (i := 4) sc__law_measured.nd rfl (Or.inl rfl) pe_bl)
  (pss_cons (ps_for PassesOwn.never rfl (pi_range1 (by rfl) m_range (pa_cons pe_int pa_nil)) (pg_name (i := 5) sc__law_measured.nd rfl (Or.inl rfl)) (pss_cons (ps_if (pt_cmpR op_eq (pe_callB q_len (by rfl) m_len PySem.boot_len (pa_cons (pv 1) pa_nil)) pe_int (nomark _)) (pss_one (ps_ret (pe_lst (pa_cons (pe_ix ix_list (pv 2) pe_int (fun _ _ => rfl)) (pa_cons (pe_callB q_len (by rfl) m_len PySem.boot_len (pa_cons (pv 3) pa_nil)) (pa_cons (pv 4) (pa_cons (pv 3) pa_nil))))))) pss_nil)
  (pss_cons (ps_set (i := 6) sc__law_measured.nd rfl (Or.inl rfl) (pe_bm0 PySem.F.plainAttrs_list PySem.F.slot_list_pop PySem.F.type_list_pop mt_pop (pv 1)))
  (pss_cons (ps_set (i := 7) sc__law_measured.nd rfl (Or.inl rfl) (pe_ix ix_tup (pv 6) pe_int (fun _ _ => rfl)))
  (pss_one (ps_if (pt_cmpR op_eq (pe_ix ix_tup (pv 6) pe_int (fun _ _ => rfl)) pe_str (nomark _)) (pss_one (ps_expr (pe_bm PySem.F.plainAttrs_list PySem.F.slot_list_append PySem.F.type_list_append mt_append (pv 3) (pa_cons (pv 7) pa_nil)))) (pss_one (ps_if (pt_cmpR op_eq (pe_ix ix_tup (pv 6) pe_int (fun _ _ => rfl)) pe_str (nomark _)) (pss_cons (ps_set (i := 8) sc__law_measured.nd rfl (Or.inl rfl) (pe_bm0 PySem.F.plainAttrs_list PySem.F.slot_list_pop PySem.F.type_list_pop mt_pop (pv 2)))
  (pss_cons (ps_set (i := 9) sc__law_measured.nd rfl (Or.inl rfl) (pe_bm0 PySem.F.plainAttrs_list PySem.F.slot_list_pop PySem.F.type_list_pop mt_pop (pv 2)))
  (pss_cons (ps_expr (pe_bm PySem.F.plainAttrs_list PySem.F.slot_list_append PySem.F.type_list_append mt_append (pv 2) (pa_cons (pe_op op_add pe_int (pe_callB (q_max rfl) (by rfl) m_max (by decide +kernel) (pa_cons (pv 9) (pa_cons (pv 8) pa_nil)))) pa_nil)))
  (pss_one (ps_set (i := 4) sc__law_measured.nd rfl (Or.inl rfl) (pe_and (pv 4) (pe_one (pe_cmpR op_le (pe_callB q_abs (by rfl) m_abs (by decide +kernel) (pa_cons (pe_op op_sub (pv 9) (pv 8)) pa_nil)) pe_int (nomark _))))))))) (pss_one (ps_if (PW.pt (pw_or (pt_not (pt_val (pe_callB call_isi (by rfl) m_isinstance (by decide +kernel) (pa_cons (pv 7) (pa_cons (pe_bltn (v := .ty "tuple") (u := .type "tuple") (by rfl) m_tuple (by decide +kernel) rfl) pa_nil))))) (pw_or1 (pt_cmpR op_notIn_seq (pe_callB q_len (by rfl) m_len PySem.boot_len (pa_cons (pv 7) pa_nil)) (pe_lst (pa_cons pe_int (pa_cons pe_int pa_nil))) (by rfl))))) (pss_one (ps_ret pe_non)) (pss_one (ps_if (pt_cmpR op_eq (pe_callB q_len (by rfl) m_len PySem.boot_len (pa_cons (pv 7) pa_nil)) pe_int (nomark _)) (pss_one (ps_expr (pe_bm PySem.F.plainAttrs_list PySem.F.slot_list_append PySem.F.type_list_append mt_append (pv 2) (pa_cons pe_int pa_nil)))) (pss_cons (ps_expr (pe_bm PySem.F.plainAttrs_list PySem.F.slot_list_append PySem.F.type_list_append mt_append (pv 1) (pa_cons (pe_tup (pa_cons pe_str (pa_cons pe_non pa_nil))) pa_nil)))
  (pss_cons (ps_expr (pe_bm PySem.F.plainAttrs_list PySem.F.slot_list_append PySem.F.type_list_append mt_append (pv 1) (pa_cons (pe_tup (pa_cons pe_str (pa_cons (pe_ix ix_tup (pv 7) pe_int (fun _ _ => rfl)) pa_nil))) pa_nil)))
  (pss_cons (ps_expr (pe_bm PySem.F.plainAttrs_list PySem.F.slot_list_append PySem.F.type_list_append mt_append (pv 1) (pa_cons (pe_tup (pa_cons pe_str (pa_cons (pe_ix ix_tup (pv 7) pe_int (fun _ _ => rfl)) pa_nil))) pa_nil)))
  (pss_one (ps_expr (pe_bm PySem.F.plainAttrs_list PySem.F.slot_list_append PySem.F.type_list_append mt_append (pv 1) (pa_cons (pe_tup (pa_cons pe_str (pa_cons (pe_ix ix_tup (pv 7) pe_int (fun _ _ => rfl)) pa_nil))) pa_nil)))))))))))))))))))
  (pss_one (ps_ret pe_non))))))), ?_⟩
  refine Rd.at0 (σ := [some v, none, none, none, none, none, none, none, none, none]) rfl ?_
  repeat' (walk_at "rd")
  intro a0 n0
  repeat' (walk_at "rd")
  intro L nL
  repeat' (walk_at "rd")
  intro T nT
  repeat' (walk_at "rd")
  intro Y nY
  repeat' (walk_at "rd")
  have s1 : Same H (upd H a0 (.tup [.str "part", v])) := same_upd n0
  have s2 : Same (upd H a0 (.tup [.str "part", v])) (upd (upd H a0 (.tup [.str "part", v])) L (.lst [.ref a0])) := same_upd nL
  have fL := s1.free nL
  have fT := (s1.trans s2).free nT
  have lt : L ≠ T := ne_of_none upd_same nT
  have ly : L ≠ Y := ne_of_none ((upd_ne lt).trans upd_same) nY
  have ty : T ≠ Y := ne_of_none upd_same nY
  refine forR (fun i σ H' => ∃ (b : Bool) (js : List Job) (told : List Int) (ks : List PyData) (zs kx : List V) (v5 v6 v7 v8 v9 : Option V),
    σ = [some v, some (.ref L), some (.ref T), some (.ref Y), some (.bl b), v5, v6, v7, v8, v9] ∧ Mid K H t L T Y i b H' js told ks zs kx) ?_ ?_ ?_
  · have s3 := same_upd (o := .lst []) nT
    have s4 := same_upd (o := .lst []) nY
    have s14 := ((s1.trans s2).trans s3).trans s4
    exact ⟨true, [.part t], [], [], [.ref a0], [], none, none, none, none, none, rfl,
      { hL := (s3.trans s4) _ _ upd_same, hT := s4 _ _ upd_same, hY := upd_same, jobs := ⟨⟨a0, v, rfl, ((s2.trans s3).trans s4) _ _ upd_same, dp_same s14 hv, htp⟩, trivial⟩, keys := .nil, tps := fun _ h => (List.not_mem_nil h).elim,
        fin := (by simp only [fin4, List.nil_append, Bool.true_and]), cst := (show cost t + 0 + 0 ≤ 1609 by omega), tl := Nat.le_refl _, kl := Nat.le_refl _, same := s14, lt := lt, ly := ly, ty := ty, fL := fL, fT := fT, fY := ((s1.trans s2).trans s3).free nY }⟩
  · rintro i σ H' hi ⟨b, js, told, ks, zs, kx, v5, v6, v7, v8, v9, rfl, M⟩
    have hY := M.hY
    have l1 := M.jobs.len
    have l2 := len_costs js
    have l3 := M.cst
    have l4 := M.tl
    have l5 := M.kl
    have l6 := all_len M.keys
    match js, zs, M, l1, l2, l3 with
    | [], z :: zs, M, l1, _, _ => cases l1
    | _ :: _, [], M, l1, _, _ => cases l1
    | [], [], M, _, _, _ =>
      have e := Option.some.inj M.fin
      have e1 : told = [(hgt t : Int)] := congrArg Prod.fst e
      have e2 : ks = keys t := congrArg (fun x => x.2.1) e
      have e3 : b = bal t := congrArg (fun x => x.2.2) e
      subst e1 e2 e3
      have hL : H' L = some (.lst []) := M.hL
      have hT : H' T = some (.lst [.int (hgt t)]) := M.hT
      repeat' (walk_at "rd")
      intro p hp
      refine q p Y kx _ (M.same.trans (same_upd hp)) (M.same.free hp) ?_ (same_upd hp _ _ hY) (all_same (same_upd hp) M.keys)
      rw [upd_same, l6, cnt_keys]
    | .key d :: js, z :: zs, M, l1, l2, l3 =>
      obtain ⟨⟨a, y, rfl, ha, hy, tp⟩, hj⟩ := M.jobs
      have hL := M.hL
      have hT := M.hT
      have naL := ne_tl ha hL
      have t1 : Tk H' (upd H' L (.lst zs.reverse)) := tk_put hL _
      have hS : SqT K (upd H' L (.lst zs.reverse)) a [.str "key", y] := .inl (.inl ((upd_ne naL).trans ha))
      have len0 : ((V.ref a :: zs).reverse.length : Int) ≠ 0 := by
        rw [List.length_reverse, List.length_cons]
        omega
      repeat' (walk_at "rd")
      · contradiction
      refine popR hL ?_
      repeat' (walk_at "rd")
      have hY1 : (upd H' L (.lst zs.reverse)) Y = some (.lst kx) := (upd_ne (Ne.symm M.ly)).trans hY
      refine append hY1 (sz5' (by omega)) ?_
      repeat' (walk_at "rd")
      have t2 : Tk (upd H' L (.lst zs.reverse)) (upd (upd H' L (.lst zs.reverse)) Y (.lst (kx ++ [y]))) := tk_put hY1 _
      have l3' : 1 + costs js + i ≤ 1609 := l3
      exact ⟨b, js, told, ks ++ [d], zs, kx ++ [y], _, _, _, _, _, rfl,
        { hL := (upd_ne M.ly).trans upd_same, hT := (upd_ne M.ty).trans ((upd_ne (Ne.symm M.lt)).trans hT), hY := upd_same, jobs := hj.tk (t1.trans t2), keys := all_append (all_tk (t1.trans t2) M.keys M.tps) (.cons (dp_tk (t1.trans t2) hy tp) .nil),
          tps := (fun x hx => (List.mem_append.mp hx).elim (M.tps x) fun hx => List.mem_singleton.mp hx ▸ tp), fin := M.fin, cst := (by omega), tl := (by omega), kl := (by rw [List.length_append, List.length_singleton]; omega),
          same := same_put (same_put M.same M.fL _) M.fY _, lt := M.lt, ly := M.ly, ty := M.ty, fL := M.fL, fT := M.fT, fY := M.fY }⟩
    | .up :: js, z :: zs, M, l1, l2, l3 =>
      match told, M, l4 with
      | [], M, _ => exact absurd M.fin (fun h => by simp [fin4] at h)
      | [_], M, _ => exact absurd M.fin (fun h => by simp [fin4] at h)
      | x :: y :: told, M, l4 =>
        obtain ⟨⟨a, rfl, ha⟩, hj⟩ := M.jobs
        have hL := M.hL
        have hT := M.hT
        have naL := ne_tl ha hL
        have t1 : Tk H' (upd H' L (.lst zs.reverse)) := tk_put hL _
        have hS : SqT K (upd H' L (.lst zs.reverse)) a [.str "up", .non] := .inl (.inl ((upd_ne naL).trans ha))
        have len0 : ((V.ref a :: zs).reverse.length : Int) ≠ 0 := by
          rw [List.length_reverse, List.length_cons]
          omega
        have f : fin4 js ((1 + if x > y then x else y) :: told) ks (b && decide (((if y - x < 0 then -(y - x) else y - x) : Int) ≤ 1)) = some ([(hgt t : Int)], keys t, bal t) := M.fin
        repeat' (walk_at "rd")
        · contradiction
        refine popR hL ?_
        repeat' (walk_at "rd")
        have hT1 : (upd H' L (.lst zs.reverse)) T = some (.lst (V.int x :: V.int y :: told.map V.int).reverse) := (upd_ne (Ne.symm M.lt)).trans hT
        refine popR hT1 ?_
        repeat' (walk_at "rd")
        refine popR upd_same ?_
        repeat' (walk_at "rd")
        refine appR upd_same (by rw [List.length_map]; rw [List.length_cons, List.length_cons] at l4; omega) ?_
        have l3' : 1 + costs js + i ≤ 1609 := l3
        rw [List.length_cons, List.length_cons] at l4
        repeat' (walk_at "rd")
        all_goals rw [upd_upd, upd_upd]
        all_goals have t3 : Tk (upd H' L (.lst zs.reverse)) (upd (upd H' L (.lst zs.reverse)) T (.lst (V.int (1 + if x > y then x else y) :: told.map V.int).reverse)) := tk_put hT1 _
        all_goals have tt := t1.trans t3
        all_goals rename_i hb
        · rw [hb, Bool.true_and] at f
          exact ⟨_, js, _, ks, zs, kx, _, _, _, _, _, rfl,
            { hL := (upd_ne M.lt).trans upd_same, hT := upd_same, hY := ((upd_ne (Ne.symm M.ty)).trans ((upd_ne (Ne.symm M.ly)).trans hY)), jobs := hj.tk tt, keys := all_tk tt M.keys M.tps, tps := M.tps, fin := f,
              cst := (by omega), tl := (by rw [List.length_cons]; omega), kl := (by omega), same := same_put (same_put M.same M.fL _) M.fT _, lt := M.lt, ly := M.ly, ty := M.ty, fL := M.fL, fT := M.fT, fY := M.fY }⟩
        · rw [hb, Bool.false_and] at f
          exact ⟨_, js, _, ks, zs, kx, _, _, _, _, _, rfl,
            { hL := (upd_ne M.lt).trans upd_same, hT := upd_same, hY := ((upd_ne (Ne.symm M.ty)).trans ((upd_ne (Ne.symm M.ly)).trans hY)), jobs := hj.tk tt, keys := all_tk tt M.keys M.tps, tps := M.tps, fin := f,
              cst := (by omega), tl := (by rw [List.length_cons]; omega), kl := (by omega), same := same_put (same_put M.same M.fL _) M.fT _, lt := M.lt, ly := M.ly, ty := M.ty, fL := M.fL, fT := M.fT, fY := M.fY }⟩
    | .part .nil :: js, z :: zs, M, l1, l2, l3 =>
      obtain ⟨⟨a, y, rfl, ha, hy, tp⟩, hj⟩ := M.jobs
      obtain ⟨ya, rfl, hya⟩ := dp_nil hy
      have hL := M.hL
      have hT := M.hT
      have naL := ne_tl ha hL
      have t1 : Tk H' (upd H' L (.lst zs.reverse)) := tk_put hL _
      have hS : SqT K (upd H' L (.lst zs.reverse)) a [.str "part", .ref ya] := .inl (.inl ((upd_ne naL).trans ha))
      have hS2 : SqT K (upd H' L (.lst zs.reverse)) ya [] := sqT_tk t1 hya
      have len0 : ((V.ref a :: zs).reverse.length : Int) ≠ 0 := by
        rw [List.length_reverse, List.length_cons]
        omega
      repeat' (walk_at "rd")
      · contradiction
      refine popR hL ?_
      repeat' (walk_at "rd")
      intro lp hlp
      have hT1 : (upd H' L (.lst zs.reverse)) T = some (.lst (told.map V.int).reverse) := (upd_ne (Ne.symm M.lt)).trans hT
      have hT2 : (upd (upd H' L (.lst zs.reverse)) lp (.lst [.int 0, .int 3])) T = some (.lst (told.map V.int).reverse) := same_upd hlp _ _ hT1
      have hS3 : SqT K (upd (upd H' L (.lst zs.reverse)) lp (.lst [.int 0, .int 3])) ya [] := sqT_same (same_upd hlp) hS2
      have hS4 : SqT K (upd (upd H' L (.lst zs.reverse)) lp (.lst [.int 0, .int 3])) a [.str "part", .ref ya] := sqT_same (same_upd hlp) hS
      repeat' (walk_at "rd")
      refine appR hT2 (by rw [List.length_map]; omega) ?_
      repeat' (walk_at "rd")
      have t2 : Tk (upd H' L (.lst zs.reverse)) (upd (upd H' L (.lst zs.reverse)) lp (.lst [.int 0, .int 3])) := tk_new hlp _
      have t3 : Tk (upd (upd H' L (.lst zs.reverse)) lp (.lst [.int 0, .int 3])) (upd (upd (upd H' L (.lst zs.reverse)) lp (.lst [.int 0, .int 3])) T (.lst (V.int 0 :: told.map V.int).reverse)) := tk_put hT2 _
      have tt := (t1.trans t2).trans t3
      have l3' : 1 + costs js + i ≤ 1609 := l3
      have fin' : fin4 js (0 :: told) ks b = some ([(hgt t : Int)], keys t, bal t) := by
        have f := M.fin
        simp only [fin4, keys, bal, hgt, List.append_nil, Bool.and_true] at f
        exact f
      exact ⟨b, js, 0 :: told, ks, zs, kx, _, _, _, _, _, rfl,
        { hL := ((upd_ne M.lt).trans (same_upd hlp _ _ upd_same)), hT := upd_same, hY := ((upd_ne (Ne.symm M.ty)).trans (same_upd hlp _ _ ((upd_ne (Ne.symm M.ly)).trans hY))), jobs := hj.tk tt, keys := all_tk tt M.keys M.tps, tps := M.tps, fin := fin',
          cst := (by omega), tl := (by rw [List.length_cons]; omega), kl := (by omega),
          same := same_put ((same_put M.same M.fL _).trans (same_upd hlp)) M.fT _, lt := M.lt, ly := M.ly, ty := M.ty, fL := M.fL, fT := M.fT, fY := M.fY }⟩
    | .part (.node l k r) :: js, z :: zs, M, l1, l2, l3 =>
      obtain ⟨⟨a, y, rfl, ha, hy, tp⟩, hj⟩ := M.jobs
      obtain ⟨ya, px, py, pz, rfl, hya, hpx, hpy, hpz⟩ := dp_node hy
      have tps : Tp (toD l) ∧ Tp k ∧ Tp (toD r) := by
        cases tp with
        | tup h => exact ⟨h _ List.mem_cons_self, h _ (List.mem_cons_of_mem _ List.mem_cons_self), h _ (List.mem_cons_of_mem _ (List.mem_cons_of_mem _ List.mem_cons_self))⟩
      have hL := M.hL
      have hT := M.hT
      have naL := ne_tl ha hL
      have t1 : Tk H' (upd H' L (.lst zs.reverse)) := tk_put hL _
      have hS : SqT K (upd H' L (.lst zs.reverse)) a [.str "part", .ref ya] := .inl (.inl ((upd_ne naL).trans ha))
      have B1 : Bun K H H' L T Y ya [px, py, pz] (told.map V.int).reverse kx zs (upd H' L (.lst zs.reverse)) :=
        ⟨upd_same, (upd_ne (Ne.symm M.lt)).trans hT, (upd_ne (Ne.symm M.ly)).trans hY, t1, same_put M.same M.fL _, sqT_tk t1 hya⟩
      have hS2 := B1.sS
      have len0 : ((V.ref a :: zs).reverse.length : Int) ≠ 0 := by
        rw [List.length_reverse, List.length_cons]
        omega
      have l3' : cost l + cost r + 3 + costs js + i ≤ 1609 := l3
      have lz : zs.length ≤ 5000 := by
        rw [List.length_cons, List.length_cons] at l1
        rw [List.length_cons] at l2
        have : jcost (.part (.node l k r)) = cost l + cost r + 3 := rfl
        show zs.length ≤ 5000
        have l2' : js.length + 1 ≤ cost l + cost r + 3 + costs js := l2
        omega
      repeat' (walk_at "rd")
      · contradiction
      refine popR hL ?_
      generalize upd H' L (.lst zs.reverse) = G1 at *
      repeat' (walk_at "rd")
      intro lp hlp
      have B2 := B1.new (o := .lst [.int 0, .int 3]) hlp
      have hl2 : (upd G1 lp (.lst [.int 0, .int 3])) lp = some (.lst [.int 0, .int 3]) := upd_same
      generalize upd G1 lp (.lst [.int 0, .int 3]) = G2 at *
      have hS3 := B2.sS
      have hL2 := B2.hL
      repeat' (walk_at "rd")
      intro p1 hp1
      have B3 := B2.new (o := .tup [.str "up", .non]) hp1
      have j1 : JobAt K (upd G2 p1 (.tup [.str "up", .non])) (.ref p1) .up := ⟨p1, rfl, upd_same⟩
      generalize upd G2 p1 (.tup [.str "up", .non]) = G3 at *
      repeat' (walk_at "rd")
      refine appR B3.hL (by omega) ?_
      have B4 := B3.app (z := .ref p1) M.lt M.ly M.fL
      have k4 : Tk G3 (upd G3 L (.lst (V.ref p1 :: zs).reverse)) := tk_put B3.hL _
      generalize upd G3 L (.lst (V.ref p1 :: zs).reverse) = G4 at *
      have hS4 := B4.sS
      have hL4 := B4.hL
      repeat' (walk_at "rd")
      intro p2 hp2
      have B5 := B4.new (o := .tup [.str "part", pz]) hp2
      have k5 : Tk G4 (upd G4 p2 (.tup [.str "part", pz])) := tk_new hp2 _
      have j2 : JobAt K (upd G4 p2 (.tup [.str "part", pz])) (.ref p2) (.part r) := ⟨p2, pz, rfl, upd_same, dp_tk B5.tk hpz tps.2.2, tps.2.2⟩
      generalize upd G4 p2 (.tup [.str "part", pz]) = G5 at *
      repeat' (walk_at "rd")
      refine appR B5.hL (by rw [List.length_cons]; omega) ?_
      have B6 := B5.app (z := .ref p2) M.lt M.ly M.fL
      have k6 : Tk G5 (upd G5 L (.lst (V.ref p2 :: V.ref p1 :: zs).reverse)) := tk_put B5.hL _
      generalize upd G5 L (.lst (V.ref p2 :: V.ref p1 :: zs).reverse) = G6 at *
      have hS6 := B6.sS
      have hL6 := B6.hL
      repeat' (walk_at "rd")
      intro p3 hp3
      have B7 := B6.new (o := .tup [.str "key", py]) hp3
      have k7 : Tk G6 (upd G6 p3 (.tup [.str "key", py])) := tk_new hp3 _
      have j3 : JobAt K (upd G6 p3 (.tup [.str "key", py])) (.ref p3) (.key k) := ⟨p3, py, rfl, upd_same, dp_tk B7.tk hpy tps.2.1, tps.2.1⟩
      generalize upd G6 p3 (.tup [.str "key", py]) = G7 at *
      repeat' (walk_at "rd")
      refine appR B7.hL (by rw [List.length_cons, List.length_cons]; omega) ?_
      have B8 := B7.app (z := .ref p3) M.lt M.ly M.fL
      have k8 : Tk G7 (upd G7 L (.lst (V.ref p3 :: V.ref p2 :: V.ref p1 :: zs).reverse)) := tk_put B7.hL _
      generalize upd G7 L (.lst (V.ref p3 :: V.ref p2 :: V.ref p1 :: zs).reverse) = G8 at *
      have hS8 := B8.sS
      have hL8 := B8.hL
      repeat' (walk_at "rd")
      intro p4 hp4
      have B9 := B8.new (o := .tup [.str "part", px]) hp4
      have k9 : Tk G8 (upd G8 p4 (.tup [.str "part", px])) := tk_new hp4 _
      have j4 : JobAt K (upd G8 p4 (.tup [.str "part", px])) (.ref p4) (.part l) := ⟨p4, px, rfl, upd_same, dp_tk B9.tk hpx tps.1, tps.1⟩
      generalize upd G8 p4 (.tup [.str "part", px]) = G9 at *
      repeat' (walk_at "rd")
      refine appR B9.hL (by rw [List.length_cons, List.length_cons, List.length_cons]; omega) ?_
      have B10 := B9.app (z := .ref p4) M.lt M.ly M.fL
      have k10 : Tk G9 (upd G9 L (.lst (V.ref p4 :: V.ref p3 :: V.ref p2 :: V.ref p1 :: zs).reverse)) := tk_put B9.hL _
      generalize upd G9 L (.lst (V.ref p4 :: V.ref p3 :: V.ref p2 :: V.ref p1 :: zs).reverse) = G10 at *
      repeat' (walk_at "rd")
      have a9 := k10
      have a7 := (k8.trans k9).trans a9
      have a5 := (k6.trans k7).trans a7
      have a3 := (k4.trans k5).trans a5
      exact ⟨b, .part l :: .key k :: .part r :: .up :: js, told, ks, .ref p4 :: .ref p3 :: .ref p2 :: .ref p1 :: zs, kx, _, _, _, _, _, rfl,
        { hL := B10.hL, hT := B10.hT, hY := B10.hY, jobs := ⟨j4.tk a9, j3.tk a7, j2.tk a5, j1.tk a3, hj.tk B10.tk⟩, keys := all_tk B10.tk M.keys M.tps, tps := M.tps, fin := (fin4_part l r k js told ks b).trans M.fin,
          cst := (show cost l + (1 + (cost r + (1 + costs js))) + (i + 1) ≤ 1609 by omega), tl := (by omega), kl := (by omega), same := B10.sm, lt := M.lt, ly := M.ly, ty := M.ty, fL := M.fL, fT := M.fT, fY := M.fY }⟩
  · rintro σ H' ⟨b, js, told, ks, zs, kx, v5, v6, v7, v8, v9, rfl, M⟩
    have := M.cst
    omega
end
/-! ### drawn shapes of any form -/
theorem eqv_nil : PyData.eqv (toD .nil) (.tuple []) = true := by
  simp only [toD, PyData.eqv, PyData.eqvAll]
theorem eqv_node (l r : Sh) (k : PyData) : PyData.eqv (toD (.node l k r)) (.tuple []) = false := by
  simp only [toD, PyData.eqv, PyData.eqvAll]
theorem lay_strs : ∀ zs : List Str, (∀ z ∈ zs, TxOk z) → PyData.canLayAll0 (zs.map PyData.str) = true
  | [], _ => by simp only [List.map_nil, PyData.canLayAll0]
  | z :: zs, h => by
    have e : PyData.canLay0 (.str z) = true := by
      simp only [PyData.canLay0]
      exact h z List.mem_cons_self
    simp only [List.map_cons, PyData.canLayAll0, e, lay_strs zs fun y hy => h y (List.mem_cons_of_mem _ hy), Bool.and_self]
theorem depth_strs : ∀ zs : List Str, PyData.depthAll (zs.map PyData.str) = 0
  | [] => by simp only [List.map_nil, PyData.depthAll]
  | z :: zs => by simp only [List.map_cons, PyData.depthAll, PyData.depth, depth_strs zs, Nat.max_self]
theorem sh_lay : ∀ t : Sh, KeysOk t → PyData.canLay0 (toD t) = true ∧ PyData.depth (toD t) ≤ hgt t + 1
  | .nil, _ => by
    refine ⟨by simp only [toD, PyData.canLay0, PyData.canLayAll0], ?_⟩
    simp only [toD, PyData.depth, PyData.depthAll, hgt]
    exact Nat.le_refl _
  | .node l k r, h => by
    have hl : KeysOk l := fun d hd => h d (by rw [keys_node]; exact List.mem_append_left _ hd)
    have hr : KeysOk r := fun d hd => h d (by rw [keys_node]; exact List.mem_append_right _ (List.mem_cons_of_mem _ hd))
    obtain ⟨zs, e, oz⟩ := h k (by rw [keys_node]; exact List.mem_append_right _ List.mem_cons_self)
    subst e
    have il := sh_lay l hl
    have ir := sh_lay r hr
    have ek : PyData.canLay0 (keyD zs) = true := by
      simp only [keyD, PyData.canLay0]
      exact lay_strs zs oz.2
    have dk : PyData.depth (keyD zs) = 1 := by
      simp only [keyD, PyData.depth, depth_strs]
    constructor
    · simp only [toD, PyData.canLay0, PyData.canLayAll0, il.1, ir.1, ek, Bool.and_self]
    · simp only [toD, PyData.depth, PyData.depthAll, dk, hgt]
      have := il.2
      have := ir.2
      omega
theorem sh_shaped {t : Sh} (h : KeysOk t) (hh : hgt t ≤ 63) : SeqAt.shaped (toD t) = true := by
  have := sh_lay t h
  unfold SeqAt.shaped
  rw [this.1, Bool.true_and]
  exact decide_eq_true (by omega)
theorem nil_shaped : SeqAt.shaped (.tuple []) = true := by decide +kernel
/-- a shape comes back; the store has gone on -/
def RetSh (K : PySem.W.Frag) (st c : Addr) (H : Hp) (hm cm : Nat) (Q : VK) : Prop := ∀ (v : V) (t : Sh) (H' : Hp), Go st c H H' → Dp K H' v (toD t) → KeysOk t → hgt t ≤ hm → cnt t ≤ cm → Q v H'
theorem go_tk {st c : Addr} {H H' : Hp} (o : StoreAt H st c) (g : Go st c H H') : Tk H H' := fun b u n e => g.keep b u (fun z => by
  obtain ⟨_, _, _, _, _, z1, _⟩ := o
  rw [z, z1] at e
  exact n _ (Option.some.inj e).symm) e
theorem dp_new_nil {K : PySem.W.Frag} {H : Hp} {p : Addr} (h : H p = some (.tup [])) : Dp K H (.ref p) (toD .nil) := .tup (.inl (.inl h)) .nil
theorem dp_new_node {K : PySem.W.Frag} {H : Hp} {p kp : Addr} {x z : V} {l r : Sh} {zs : List Str} (h : H p = some (.tup [x, .ref kp, z])) (hk : H kp = some (.tup (zs.map V.str))) (d1 : Dp K H x (toD l)) (d2 : Dp K H z (toD r)) : Dp K H (.ref p) (toD (.node l (keyD zs) r)) :=
  .tup (.inl (.inl h)) (.cons d1 (.cons (.tup (.inl (.inl hk)) (dp_strs zs)) (.cons d2 .nil)))
section
variable {P : Program} {w : World} {K : PySem.W.Frag} {mg : Str → Option Value} {base : Heap}
/-- _law_chain(store, height) -/
def spChain (K : PySem.W.Frag) : Sp := fun vs H Q _ => ∃ (st c : Addr) (n : Nat), vs = [.ref st, .int n] ∧ StoreAt H st c ∧ n ≤ 60 ∧ RetSh K st c H n n Q
theorem ok__law_chain (F : Def K mg "_law_chain" s__law_chain P__law_chain) (m_range : mg "range" = none) (m_int : mg "int" = none) (C__law_take : Cal P w K mg base 1 "_law_take" P__law_take spTake) (C__law_key : Cal P w K mg base 4 "_law_key" P__law_key (spKey K)) : Cal P w K mg base 5 "_law_chain" P__law_chain (spChain K) := by
  refine F.ok sc__law_chain (fun vs H Q E h => ?_) (fun f cdv A outer s H vs Q E hr h => ?_)
  · obtain ⟨st, c, n, rfl, _⟩ := h
    rfl
  obtain ⟨st, c, n, rfl, hs, hn, q⟩ := h
  refine ⟨_, (pss_cons (ps_set (i := 2) sc__law_chain.nd rfl (Or.inl rfl) (pe_tup pa_nil))
  (pss_cons (ps_for PassesOwn.never rfl (pi_range1 (by rfl) m_range (pa_cons (pv 1) pa_nil)) (pg_name (i := 3) sc__law_chain.nd rfl (Or.inl rfl)) (pss_cons (ps_set (i := 4) sc__law_chain.nd rfl (Or.inl rfl) (pe_cal C__law_key hr (pa_cons (pv 0) (pa_cons (pe_op op_mod (pe_callTy q_intI (by rfl) m_int (by decide +kernel) (pa_cons (pv 3) pa_nil)) pe_int) pa_nil))))
  (pss_one (ps_if (pt_cmpR op_eq (pe_cal C__law_take hr (pa_cons (pv 0) (pa_cons pe_int pa_nil))) pe_int (nomark _)) (pss_one (ps_set (i := 2) sc__law_chain.nd rfl (Or.inl rfl) (pe_tup (pa_cons (pv 2) (pa_cons (pv 4) (pa_cons (pe_tup pa_nil) pa_nil)))))) (pss_one (ps_set (i := 2) sc__law_chain.nd rfl (Or.inl rfl) (pe_tup (pa_cons (pe_tup pa_nil) (pa_cons (pv 4) (pa_cons (pv 2) pa_nil))))))))))
  (pss_one (ps_ret (pv 2))))), ?_⟩
  refine Rd.at0 (σ := [some (.ref st), some (.int n), none, none, none]) rfl ?_
  repeat' (walk_at "rd")
  intro p0 hp0
  repeat' (walk_at "rd")
  refine forR (fun i σ H' => ∃ (v : V) (t : Sh) (v3 v4 : Option V), σ = [some (.ref st), some (.int n), some v, v3, v4] ∧ Go st c H H' ∧ Dp K H' v (toD t) ∧ KeysOk t ∧ hgt t ≤ i ∧ cnt t ≤ i)
    ⟨.ref p0, .nil, none, none, rfl, (Go.refl hs).new hp0 _, dp_new_nil upd_same, (fun _ h => (List.not_mem_nil h).elim), Nat.le_refl _, Nat.le_refl _⟩ ?_ ?_
  · rintro i σ H' hi ⟨v, t, v3, v4, rfl, g, dv, ko, hh, hc⟩
    repeat' (walk_at "rd")
    refine ⟨st, c, _, rfl, g.ok, by omega, by omega, fun kp zs H2 nk g2 oz ek => ?_⟩
    repeat' (walk_at "rd")
    have nkst := (g.ok.off nk).1
    refine ⟨st, c, 2, rfl, g2.ok, by decide, fun r H3 _ _ g3 => ?_⟩
    have gg := (g.trans g2).trans g3
    have d3 := dp_tk (go_tk g.ok (g2.trans g3)) dv (KeysOk.tp t ko)
    have ek3 := g3.keep kp _ nkst ek
    repeat' (walk_at "rd")
    · intro e he
      repeat' (walk_at "rd")
      intro p hp
      have s1 := same_upd (o := .tup []) he
      have s2 := same_upd (o := .tup [v, .ref kp, .ref e]) hp
      refine ⟨.ref p, .node t (keyD zs) .nil, _, _, rfl, (gg.new he _).new hp _, dp_new_node upd_same (s2 _ _ (s1 _ _ ek3)) (dp_same (s1.trans s2) d3) (dp_new_nil (s2 _ _ upd_same)), keysOk_node ko (fun _ h => (List.not_mem_nil h).elim) oz, ?_, ?_⟩
      · show max (hgt t) 0 + 1 ≤ i + 1
        omega
      · show cnt t + 0 + 1 ≤ i + 1
        omega
    · intro e he
      repeat' (walk_at "rd")
      intro p hp
      have s1 := same_upd (o := .tup []) he
      have s2 := same_upd (o := .tup [.ref e, .ref kp, v]) hp
      refine ⟨.ref p, .node .nil (keyD zs) t, _, _, rfl, (gg.new he _).new hp _, dp_new_node upd_same (s2 _ _ (s1 _ _ ek3)) (dp_new_nil (s2 _ _ upd_same)) (dp_same (s1.trans s2) d3), keysOk_node (fun _ h => (List.not_mem_nil h).elim) ko oz, ?_, ?_⟩
      · show max 0 (hgt t) + 1 ≤ i + 1
        omega
      · show 0 + cnt t + 1 ≤ i + 1
        omega
  · rintro σ H' ⟨v, t, v3, v4, rfl, g, dv, ko, hh, hc⟩
    repeat' (walk_at "rd")
    exact q v t H' g dv ko (by omega) (by omega)
end
section
variable {P : Program} {w : World} {K : PySem.W.Frag} {mg : Str → Option Value} {base : Heap}
/-- a list of keys -/
def KsOk (ks : List PyData) : Prop := ∀ d ∈ ks, ∃ zs : List Str, d = keyD zs ∧ ZOk zs
theorem KsOk.tp {ks : List PyData} (h : KsOk ks) : ∀ d ∈ ks, Tp d := fun d hd => by
  obtain ⟨zs, rfl, _⟩ := h d hd
  exact tp_key zs
/-- a knot from any value that holds a key -/
theorem dp_knot {K : PySem.W.Frag} {H : Hp} {p : Addr} {x y z : V} {l r : Sh} {k : PyData} (h : H p = some (.tup [x, y, z])) (d1 : Dp K H x (toD l)) (dk : Dp K H y k) (d2 : Dp K H z (toD r)) : Dp K H (.ref p) (toD (.node l k r)) :=
  .tup (.inl (.inl h)) (.cons d1 (.cons dk (.cons d2 .nil)))
theorem all_take {H : Hp} : ∀ (n : Nat) (vs : List V) (ds : List PyData), DpAll K H vs ds → DpAll K H (vs.take n) (ds.take n)
  | 0, _, _, _ => .nil
  | _ + 1, [], [], _ => .nil
  | n + 1, _ :: vs, _ :: ds, h => by
    cases h with
    | cons a r => exact .cons a (all_take n vs ds r)
  | _ + 1, [], _ :: _, h => by cases h
  | _ + 1, _ :: _, [], h => by cases h
theorem all_drop {H : Hp} : ∀ (n : Nat) (vs : List V) (ds : List PyData), DpAll K H vs ds → DpAll K H (vs.drop n) (ds.drop n)
  | 0, _, _, h => h
  | _ + 1, [], [], _ => .nil
  | n + 1, _ :: vs, _ :: ds, h => by
    cases h with
    | cons a r => exact all_drop n vs ds r
  | _ + 1, [], _ :: _, h => by cases h
  | _ + 1, _ :: _, [], h => by cases h
theorem cut_to (xs : List V) (n : Nat) (h : n ≤ xs.length) : cutV xs none (some (n : Int)) = xs.take n := by
  unfold cutV
  rw [HT.sIx_none, HT.sIx_nat, List.drop_zero, Nat.sub_zero, Nat.min_eq_left h]
theorem cut_from (xs : List V) (n : Nat) (h : n ≤ xs.length) : cutV xs (some (n : Int)) none = xs.drop n := by
  unfold cutV
  rw [HT.sIx_none, HT.sIx_nat, Nat.min_eq_left h]
  exact List.take_of_length_le (by rw [List.length_drop]; exact Nat.le_refl _)
/-- _law_even(keys): a shape of these many knots, no higher than n -/
def spEven (K : PySem.W.Frag) (n : Nat) : Sp := fun vs H Q _ => ∃ (a : Addr) (xs : List V) (ks : List PyData) (m : Nat), n = m + 1 ∧ vs = [.ref a] ∧ SqL K H a xs ∧ DpAll K H xs ks ∧ KsOk ks ∧ xs.length + 1 ≤ 2 ^ m ∧
  ∀ (v : V) (t : Sh) (H' : Hp), Same H H' → Dp K H' v (toD t) → KeysOk t → hgt t ≤ m → cnt t = xs.length → Q v H'
theorem ok_even1 {n : Nat} (F : Def K mg "_law_even" s__law_even P__law_even) (m_len : mg "len" = none) (C__law_even : Cal P w K mg base n "_law_even" P__law_even (spEven K n)) : Cal P w K mg base (n + 1) "_law_even" P__law_even (spEven K (n + 1)) := by
  refine F.ok sc__law_even (fun vs H Q E h => ?_) (fun f cdv A outer s H vs Q E hr h => ?_)
  · obtain ⟨a, xs, ks, m, _, rfl, _⟩ := h
    rfl
  obtain ⟨a, xs, ks, m0, e0, rfl, ha, dk, ko, hl, q⟩ := h
  obtain rfl : n = m0 := by omega
  have l1 := all_len dk
  refine ⟨_, (pss_cons (ps_if (pt_cmpR op_eq (pe_callB q_len (by rfl) m_len PySem.boot_len (pa_cons (pv 0) pa_nil)) pe_int (nomark _)) (pss_one (ps_ret (pe_tup pa_nil))) pss_nil)
  (pss_cons (ps_set (i := 1) sc__law_even.nd rfl (Or.inl rfl) (pe_op op_fdivW (pe_callB q_len (by rfl) m_len PySem.boot_len (pa_cons (pv 0) pa_nil)) pe_int))
  (pss_one (ps_ret (pe_tup (pa_cons (pe_cal C__law_even hr (pa_cons (pe_slice sl_list (pv 0) po_none (po_some (pv 1))) pa_nil) (Nat.le_refl _)) (pa_cons (pe_ix ix_list (pv 0) (pv 1) (fun _ _ => rfl)) (pa_cons (pe_cal C__law_even hr (pa_cons (pe_slice sl_list (pv 0) (po_some (pe_op op_add (pv 1) pe_int)) po_none) pa_nil) (Nat.le_refl _)) pa_nil)))))))), ?_⟩
  refine Rd.at0 (σ := [some (.ref a), none]) rfl ?_
  repeat' (walk_at "rd")
  · intro p hp
    rename_i z
    exact q _ .nil _ (same_upd hp) (dp_new_nil upd_same) (fun _ h => (List.not_mem_nil h).elim) (Nat.zero_le _) (by show 0 = xs.length; omega)
  rename_i z
  obtain ⟨n', rfl⟩ : ∃ k, n = k + 1 := by
    cases n with
    | zero =>
      have hl : xs.length + 1 ≤ 1 := hl
      omega
    | succ k => exact ⟨k, rfl⟩
  rw [Nat.pow_succ] at hl
  obtain ⟨m, hm⟩ : ∃ m : Nat, (xs.length : Int) / 2 = m := ⟨xs.length / 2, by omega⟩
  have hm1 : m < xs.length := by omega
  rw [hm]
  rw [cut_to xs m (by omega)]
  repeat' (walk_at "rd")
  intro b hb
  have s1 := same_upd (o := .lst (xs.take m)) hb
  repeat' (walk_at "rd")
  refine ⟨b, xs.take m, ks.take m, n', rfl, rfl, .inl (.inl upd_same), all_take m xs ks (all_same s1 dk), fun d hd => ko d (List.mem_of_mem_take hd), by rw [List.length_take]; omega, fun v1 t1 H1 s2 d1 k1 h1 c1 => ?_⟩
  have s12 := s1.trans s2
  have ha1 := s12.seq ha
  obtain ⟨y, ey, dy⟩ := all_at dk (List.getElem?_eq_getElem (show m < ks.length by omega))
  obtain ⟨zs, ek, oz⟩ := ko _ (List.getElem_mem (show m < ks.length by omega))
  rw [ek] at dy
  repeat' (walk_at "rd")
  refine ixN' ha1 (by omega) (by rw [show ((m : Int)).toNat = m by omega]; exact ey) ?_
  repeat' (walk_at "rd")
  rw [show ((m : Int) + 1) = ((m + 1 : Nat) : Int) by omega, cut_from xs (m + 1) (by omega)]
  intro b2 hb2
  have s3 := same_upd (o := .lst (xs.drop (m + 1))) hb2
  have s13 := s12.trans s3
  repeat' (walk_at "rd")
  refine ⟨b2, xs.drop (m + 1), ks.drop (m + 1), n', rfl, rfl, .inl (.inl upd_same), all_drop (m + 1) xs ks (all_same s13 dk), fun d hd => ko d (List.mem_of_mem_drop hd), by rw [List.length_drop]; omega, fun v2 t2 H2 s4 d2 k2 h2 c2 => ?_⟩
  repeat' (walk_at "rd")
  intro p hp
  have s5 := same_upd (o := .tup [v1, y, v2]) hp
  have s35 := (s3.trans s4).trans s5
  refine q (.ref p) (.node t1 (keyD zs) t2) _ ((s13.trans s4).trans s5) (dp_knot upd_same (dp_same s35 d1) (dp_same ((s13.trans s4).trans s5) dy) (dp_same s5 d2)) (keysOk_node k1 k2 oz) ?_ ?_
  · show max (hgt t1) (hgt t2) + 1 ≤ n' + 1
    omega
  · show cnt t1 + cnt t2 + 1 = _
    rw [c1, c2, List.length_take, List.length_drop]
    omega
theorem ok__law_even (F : Def K mg "_law_even" s__law_even P__law_even) (m_len : mg "len" = none) : ∀ n : Nat, Cal P w K mg base n "_law_even" P__law_even (spEven K n)
  | 0 => (Def.none F).imp fun _ _ _ _ ⟨_, _, _, _, z, _⟩ => by omega
  | n + 1 => ok_even1 F m_len (ok__law_even F m_len n)
theorem cut_to' (xs : List V) (n : Nat) : cutV xs none (some (n : Int)) = xs.take n := by
  rcases Nat.le_total n xs.length with h | h
  · exact cut_to xs n h
  · unfold cutV
    rw [HT.sIx_none, HT.sIx_nat, List.drop_zero, Nat.sub_zero, Nat.min_eq_right h, List.take_of_length_le h, List.take_of_length_le (Nat.le_refl _)]
/-- _law_plain_keys(store, many): a new list of this many keys -/
def spPlain (K : PySem.W.Frag) : Sp := fun vs H Q _ => ∃ (st c : Addr) (n : Nat), vs = [.ref st, .int n] ∧ StoreAt H st c ∧ n ≤ 1000 ∧
  ∀ (l : Addr) (xs : List V) (ks : List PyData) (H' : Hp), H l = none → Go st c H H' → H' l = some (.lst xs) → DpAll K H' xs ks → KsOk ks → xs.length = n → Q (.ref l) H'
theorem ok__law_plain_keys (F : Def K mg "_law_plain_keys" s__law_plain_keys P__law_plain_keys) (m_list : mg "list" = none) (m_range : mg "range" = none) (m_tuple : mg "tuple" = none) (m_str : mg "str" = none) (m_int : mg "int" = none) (C__law_take : Cal P w K mg base 1 "_law_take" P__law_take spTake) (C__law_key : Cal P w K mg base 4 "_law_key" P__law_key (spKey K)) : Cal P w K mg base 5 "_law_plain_keys" P__law_plain_keys (spPlain K) := by
  refine F.ok sc__law_plain_keys (fun vs H Q E h => ?_) (fun f cdv A outer s H vs Q E hr h => ?_)
  · obtain ⟨st, c, n, rfl, _⟩ := h
    rfl
  obtain ⟨st, c, n, rfl, hs, hn, q⟩ := h
  refine ⟨_, (pss_cons (ps_set (i := 2) sc__law_plain_keys.nd rfl (Or.inr rfl) (pe_op op_add pe_int (pe_cal C__law_take hr (pa_cons (pv 0) (pa_cons (pv 1) pa_nil)))))
  (pss_cons (ps_set (i := 3) sc__law_plain_keys.nd rfl (Or.inr rfl) (pe_callTy q_list (by rfl) m_list (by decide +kernel) (pa_cons (pe_cal C__law_key hr (pa_cons (pv 0) (pa_cons pe_int pa_nil))) pa_nil)))
  (C8.pss_cut (ps_if (pt_cmpR op_eq (pe_cal C__law_take hr (pa_cons (pv 0) (pa_cons pe_int pa_nil))) pe_int (nomark _)) (pss_one (ps_set (i := 2) sc__law_plain_keys.nd rfl (Or.inr rfl) (pe_op op_add (pv 1) pe_int))) pss_nil)
  (pss_one (ps_ret (pe_lc (own := [("k", 4)]) (by rfl) sc__law_plain_keys.nd (pi_range1 (by rfl) m_range (pa_cons (pv 1) pa_nil)) (blkOk_by (N := N__law_plain_keys) (sc := defScope s__law_plain_keys) (by decide +kernel)) (fun _ _ _ _ _ => (pg_name (i := 4) sc__law_plain_keys.nd rfl (Or.inl rfl))) (fun _ _ _ _ _ => pts_nil) (fun _ _ _ _ _ => (pe_callTy (q_tupK (K := K) rfl) (by rfl) m_tuple (by decide +kernel) (pa_cons (pe_op op_cat (pe_slice (sl_listK (K := K) rfl) (pv 3) po_none (po_some pe_int)) (pe_lst (pa_cons (pe_op o_addZ pe_str (pe_callTy q_str (by rfl) m_str (by decide +kernel) (pa_cons (pe_op op_mod (pe_callTy q_intI (by rfl) m_int (by decide +kernel) (pa_cons (pv 4) pa_nil)) (pv 2)) pa_nil))) pa_nil))) pa_nil))))))))), ?_⟩
  refine Rd.at0 (σ := [some (.ref st), some (.int n), none, none, none]) rfl ?_
  repeat' (walk_at "rd")
  refine ⟨st, c, n, rfl, hs, by omega, fun r H1 r0 r1 g1 => ?_⟩
  repeat' (walk_at "rd")
  refine ⟨st, c, 0, rfl, g1.ok, by decide, by decide, fun kp zs H2 nk g2 oz ek => ?_⟩
  repeat' (walk_at "rd")
  intro l hl
  have g12 := g1.trans g2
  have g3 := g12.new (o := .lst (zs.map V.str)) hl
  have nl := g12.ok.off hl
  repeat' (walk_at "rd")
  refine Rd.cut (fun σ' H' => ∃ rep : Int, σ' = [some (.ref st), some (.int n), some (.int rep), some (.ref l), none] ∧ 1 ≤ rep ∧ rep ≤ 100000 ∧ Go st c H H' ∧ H' l = some (.lst (zs.map V.str))) ?_ ?_
  · repeat' (walk_at "rd")
    refine ⟨st, c, 2, rfl, g3.ok, by decide, fun r2 H4 _ _ g4 => ?_⟩
    have e4 := g4.keep l _ nl.1 upd_same
    repeat' (walk_at "rd")
    · exact ⟨_, rfl, by omega, by omega, g3.trans g4, e4⟩
    · exact ⟨_, rfl, by omega, by omega, g3.trans g4, e4⟩
  rintro σ' H4 ⟨rep, rfl, p1, p2, g4, el⟩
  repeat' (walk_at "rd")
  refine lcR fun L hL => ⟨fun i h => ∃ (xs : List V) (ks : List PyData), h L = some (.lst xs) ∧ DpAll K h xs ks ∧ KsOk ks ∧ xs.length = i ∧ Go st c H h ∧ h l = some (.lst (zs.map V.str)) ∧ L ≠ l,
    ⟨[], [], upd_same, .nil, (fun _ h => (List.not_mem_nil h).elim), rfl, g4.new hL _, (same_upd hL _ _ el), (ne_of_none el hL).symm⟩, ?_, ?_⟩
  · rintro i h hi ⟨xs, ks, ex, dx, ko, lx, g, el, nLl⟩
    have hi : i < ((n : Int)).toNat := hi
    have em := Int.emod_nonneg (0 + (i : Int)) (show rep ≠ 0 by omega)
    have em2 := Int.emod_lt_of_pos (0 + (i : Int)) (show 0 < rep by omega)
    refine turn1 ?_
    repeat' (walk_at "rd")
    refine ⟨rfl, ?_⟩
    repeat' (walk_at "rd")
    rw [show cutV (zs.map V.str) none (some 3) = (zs.map V.str).take 3 from cut_to' _ 3]
    intro b1 h1
    have s1 := same_upd (o := .lst ((zs.map V.str).take 3)) h1
    repeat' (walk_at "rd")
    refine strQ (log_small em (by omega)) ?_
    generalize hw : ((toString ((0 + (i : Int)) % rep) : String) : Str) = tx
    have ot : TxOk tx := by
      rw [← hw]
      exact txOk_num _
    have ltx : tx.length ≤ 10 := by
      rw [← hw]
      exact _root_.PySem.W.KT.len_num em (by omega)
    repeat' (walk_at "rd")
    refine addZ (by show 1 + tx.length ≤ sizeLine; exact sz5 (by omega)) ?_
    repeat' (walk_at "rd")
    intro b2 h2
    have s2 := same_upd (o := .lst [.str (Str.ofString "k" ++ tx)]) h2
    refine cat (s2 _ _ upd_same) upd_same (by rw [List.length_take, List.length_map]; exact sz5 (by show min 3 zs.length + 1 ≤ 100000; omega)) fun b3 h3 => ?_
    have s3 := same_upd (o := .lst ((zs.map V.str).take 3 ++ [.str (Str.ofString "k" ++ tx)])) h3
    repeat' (walk_at "rd")
    intro p hp
    have s4 := same_upd (o := .tup ((zs.map V.str).take 3 ++ [.str (Str.ofString "k" ++ tx)])) hp
    have s14 := ((s1.trans s2).trans s3).trans s4
    have ex4 := s14 _ _ ex
    have zz : (zs.map V.str).take 3 ++ [V.str (Str.ofString "k" ++ tx)] = (zs.take 3 ++ [Str.ofString "k" ++ tx]).map V.str := by
      rw [List.map_append, List.map_take]
      rfl
    have oz' : ZOk (zs.take 3 ++ [Str.ofString "k" ++ tx]) := ⟨by rw [List.length_append, List.length_take]; show min 3 zs.length + 1 ≤ 4; omega, fun y hy => by
      rcases List.mem_append.mp hy with hy | hy
      · exact oz.2 y (List.mem_of_mem_take hy)
      · rw [List.mem_singleton.mp hy]
        exact txOk_add (by decide +kernel) ot⟩
    have gg := (((g.new h1 _).new h2 _).new h3 _).new hp (.tup ((zs.map V.str).take 3 ++ [.str (Str.ofString "k" ++ tx)]))
    have ep : (upd (upd (upd (upd h b1 (.lst ((zs.map V.str).take 3))) b2 (.lst [.str (Str.ofString "k" ++ tx)])) b3 (.lst ((zs.map V.str).take 3 ++ [.str (Str.ofString "k" ++ tx)]))) p (.tup ((zs.map V.str).take 3 ++ [.str (Str.ofString "k" ++ tx)]))) p = some (.tup ((zs.take 3 ++ [Str.ofString "k" ++ tx]).map V.str)) := by
      rw [upd_same, zz]
    have el4 := s14 _ _ el
    generalize upd (upd (upd (upd h b1 (.lst ((zs.map V.str).take 3))) b2 (.lst [.str (Str.ofString "k" ++ tx)])) b3 (.lst ((zs.map V.str).take 3 ++ [.str (Str.ofString "k" ++ tx)]))) p (.tup ((zs.map V.str).take 3 ++ [.str (Str.ofString "k" ++ tx)])) = G at *
    have tk := tk_put ex4 (.lst (xs ++ [.ref p]))
    have npL : p ≠ L := ne_tl ep ex4
    refine ⟨xs, ex4, sz5' (by omega), xs ++ [.ref p], ks ++ [keyD (zs.take 3 ++ [Str.ofString "k" ++ tx])], upd_same, ?_, ?_, by rw [List.length_append, lx]; rfl, gg.write (g4.free hL) (g4.ok.off hL) _, (upd_ne (Ne.symm nLl)).trans el4, nLl⟩
    · exact all_append (all_tk tk (all_same s14 dx) ko.tp) (.cons (.tup (.inl (.inl ((upd_ne npL).trans ep))) (dp_strs _)) .nil)
    · intro d hd
      rcases List.mem_append.mp hd with hd | hd
      · exact ko d hd
      · rw [List.mem_singleton.mp hd]
        exact ⟨_, rfl, oz'⟩
  · rintro h ⟨xs, ks, ex, dx, ko, lx, g, _, _⟩
    repeat' (walk_at "rd")
    exact q L xs ks h (g4.free hL) g ex dx ko (by omega)
end
section
variable {P : Program} {w : World} {K : PySem.W.Frag} {mg : Str → Option Value} {base : Heap}
theorem even_cal {K : PySem.W.Frag} : True := trivial
/-- _law_spine(store) -/
def spSpine (K : PySem.W.Frag) : Sp := fun vs H Q _ => ∃ (st c : Addr), vs = [.ref st] ∧ StoreAt H st c ∧ RetSh K st c H 60 400 Q
theorem ok__law_spine (F : Def K mg "_law_spine" s__law_spine P__law_spine) (m_range : mg "range" = none) (m_str : mg "str" = none) (C__law_take : Cal P w K mg base 1 "_law_take" P__law_take spTake) (C__law_between : Cal P w K mg base 2 "_law_between" P__law_between spBetween) (C__law_plain_keys : Cal P w K mg base 5 "_law_plain_keys" P__law_plain_keys (spPlain K)) (C__law_even : Cal P w K mg base 4 "_law_even" P__law_even (spEven K 4)) : Cal P w K mg base 6 "_law_spine" P__law_spine (spSpine K) := by
  refine F.ok sc__law_spine (fun vs H Q E h => ?_) (fun f cdv A outer s H vs Q E hr h => ?_)
  · obtain ⟨st, c, rfl, _⟩ := h
    rfl
  obtain ⟨st, c, rfl, hs, q⟩ := h
  refine ⟨_, (pss_cons (ps_set (i := 1) sc__law_spine.nd rfl (Or.inl rfl) (pe_tup pa_nil))
  (pss_cons (ps_set (i := 2) sc__law_spine.nd rfl (Or.inl rfl) (pe_cal C__law_even hr (pa_cons (pe_cal C__law_plain_keys hr (pa_cons (pv 0) (pa_cons (pe_cal C__law_take hr (pa_cons (pv 0) (pa_cons pe_int pa_nil))) pa_nil))) pa_nil)))
  (pss_cons (ps_for PassesOwn.never rfl (pi_range1 (by rfl) m_range (pa_cons (pe_cal C__law_between hr (pa_cons (pv 0) (pa_cons pe_int (pa_cons pe_int pa_nil)))) pa_nil)) (pg_name (i := 3) sc__law_spine.nd rfl (Or.inl rfl)) (pss_cons (ps_set (i := 4) sc__law_spine.nd rfl (Or.inl rfl) (pe_tup (pa_cons pe_str (pa_cons (pe_callTy q_str (by rfl) m_str (by decide +kernel) (pa_cons (pv 3) pa_nil)) pa_nil))))
  (pss_one (ps_if (pt_cmpR op_eq (pe_cal C__law_take hr (pa_cons (pv 0) (pa_cons pe_int pa_nil))) pe_int (nomark _)) (pss_one (ps_set (i := 1) sc__law_spine.nd rfl (Or.inl rfl) (pe_tup (pa_cons (pv 1) (pa_cons (pv 4) (pa_cons (pv 2) pa_nil)))))) (pss_one (ps_set (i := 1) sc__law_spine.nd rfl (Or.inl rfl) (pe_tup (pa_cons (pv 2) (pa_cons (pv 4) (pa_cons (pv 1) pa_nil))))))))))
  (pss_one (ps_ret (pv 1)))))), ?_⟩
  refine Rd.at0 (σ := [some (.ref st), none, none, none, none]) rfl ?_
  repeat' (walk_at "rd")
  intro p0 hp0
  have g0 : Go st c H (upd H p0 (.tup [])) := (Go.refl hs).new hp0 _
  have d0 : Dp K (upd H p0 (.tup [])) (.ref p0) (toD .nil) := dp_new_nil upd_same
  repeat' (walk_at "rd")
  refine ⟨st, c, 8, rfl, g0.ok, by decide, fun m H1 m0 m1 g1 => ?_⟩
  obtain ⟨m, rfl⟩ : ∃ k : Nat, m = k := ⟨m.toNat, by omega⟩
  repeat' (walk_at "rd")
  refine ⟨st, c, m, rfl, g1.ok, by omega, fun l xs ks H2 _ g2 el dx ko lx => ?_⟩
  repeat' (walk_at "rd")
  refine ⟨l, xs, ks, 3, rfl, rfl, .inl (.inl el), dx, ko, by omega, fun sv ts H3 s3 ds kos hs3 cs3 => ?_⟩
  have g12 := (g1.trans g2).same s3
  have g3 := g0.trans g12
  have d3 := dp_tk (go_tk g0.ok g12) d0 (KeysOk.tp .nil (fun _ h => (List.not_mem_nil h).elim))
  repeat' (walk_at "rd")
  refine ⟨st, c, 0, 50, rfl, g3.ok, by decide, fun n H4 n0 n1 g4 => ?_⟩
  repeat' (walk_at "rd")
  refine forR (fun i σ H' => ∃ (v : V) (t : Sh) (v3 v4 : Option V), σ = [some (.ref st), some v, some sv, v3, v4] ∧ Go st c H H' ∧ Dp K H' v (toD t) ∧ KeysOk t ∧ hgt t ≤ 4 + i ∧ cnt t ≤ 8 * i ∧ Dp K H' sv (toD ts))
    ⟨.ref p0, .nil, none, none, rfl, g3.trans g4, dp_tk (go_tk g3.ok g4) d3 (KeysOk.tp .nil (fun _ h => (List.not_mem_nil h).elim)), (fun _ h => (List.not_mem_nil h).elim), (by show 0 ≤ 4 + 0; omega), Nat.le_refl _, dp_tk (go_tk g3.ok g4) ds (KeysOk.tp ts kos)⟩ ?_ ?_
  · rintro i σ H' hi ⟨v, t, v3, v4, rfl, g, dv, ko', hh, hc, dsv⟩
    repeat' (walk_at "rd")
    refine strQ (log_small (by omega) (by omega)) ?_
    generalize hw : ((toString ((0 + (i : Int))) : String) : Str) = tx
    have ot : TxOk tx := by
      rw [← hw]
      exact txOk_num _
    have oz : ZOk ["s", tx] := ⟨by show 2 ≤ 4; decide, fun y hy => by
      rcases List.mem_cons.mp hy with rfl | hy
      · decide +kernel
      · rw [List.mem_singleton.mp hy]
        exact ot⟩
    repeat' (walk_at "rd")
    intro kp hkp
    have s1 := same_upd (o := .tup [V.str "s", .str tx]) hkp
    have g5 := g.new (o := .tup [V.str "s", .str tx]) hkp
    have ek : (upd H' kp (.tup [V.str "s", .str tx])) kp = some (.tup ((["s", tx] : List Str).map V.str)) := upd_same
    have dv5 := dp_same s1 dv
    have dsv5 := dp_same s1 dsv
    have nkst := (g.ok.off hkp).1
    generalize upd H' kp (.tup [V.str "s", .str tx]) = G at *
    repeat' (walk_at "rd")
    refine ⟨st, c, 2, rfl, g5.ok, by decide, fun r H6 _ _ g6 => ?_⟩
    have gg := g5.trans g6
    have t6 := go_tk g5.ok g6
    have dv6 := dp_tk t6 dv5 (KeysOk.tp t ko')
    have dsv6 := dp_tk t6 dsv5 (KeysOk.tp ts kos)
    have ek6 := g6.keep kp _ nkst ek
    repeat' (walk_at "rd")
    · intro p hp
      have s2 := same_upd (o := .tup [v, .ref kp, sv]) hp
      refine ⟨.ref p, .node t (keyD ["s", tx]) ts, _, _, rfl, gg.new hp _, dp_new_node upd_same (s2 _ _ ek6) (dp_same s2 dv6) (dp_same s2 dsv6), keysOk_node ko' kos oz, ?_, ?_, dp_same s2 dsv6⟩
      · show max (hgt t) (hgt ts) + 1 ≤ 4 + (i + 1)
        omega
      · show cnt t + cnt ts + 1 ≤ 8 * (i + 1)
        omega
    · intro p hp
      have s2 := same_upd (o := .tup [sv, .ref kp, v]) hp
      refine ⟨.ref p, .node ts (keyD ["s", tx]) t, _, _, rfl, gg.new hp _, dp_new_node upd_same (s2 _ _ ek6) (dp_same s2 dsv6) (dp_same s2 dv6), keysOk_node kos ko' oz, ?_, ?_, dp_same s2 dsv6⟩
      · show max (hgt ts) (hgt t) + 1 ≤ 4 + (i + 1)
        omega
      · show cnt ts + cnt t + 1 ≤ 8 * (i + 1)
        omega
  · rintro σ H' ⟨v, t, v3, v4, rfl, g, dv, ko', hh, hc, dsv⟩
    repeat' (walk_at "rd")
    exact q v t H' g dv ko' (by omega) (by omega)
/-- _law_bent_shape(store, shape) -/
def spBent (K : PySem.W.Frag) : Sp := fun vs H Q _ => ∃ (st c : Addr) (v : V) (t : Sh), vs = [.ref st, v] ∧ StoreAt H st c ∧ Dp K H v (toD t) ∧ KeysOk t ∧ hgt t ≤ 60 ∧ RetSh K st c H (hgt t + 2) (cnt t + 2) Q
/-- the road down: each step's shape and side, the last step first -/
inductive Road (K : PySem.W.Frag) (H : Hp) (t0 : Sh) : List V → Sh → Prop
  | nil : Road K H t0 [] t0
  | cons {x y z : V} {zs : List V} {l r : Sh} {k : PyData} {a b : Addr} {sd : Int} : Road K H t0 zs (.node l k r) → H a = some (.tup [.ref b, .int sd]) → SqT K H b [x, y, z] → Dp K H x (toD l) → Dp K H y k → Dp K H z (toD r) → KeysOk (.node l k r) → (sd = 0 ∨ sd = 2) →
      Road K H t0 (.ref a :: zs) (if sd = 0 then l else r)
theorem keysOk_inv {l r : Sh} {k : PyData} (h : KeysOk (.node l k r)) : KeysOk l ∧ (∃ zs : List Str, k = keyD zs ∧ ZOk zs) ∧ KeysOk r :=
  ⟨fun d hd => h d (by rw [keys_node]; exact List.mem_append_left _ hd), h k (by rw [keys_node]; exact List.mem_append_right _ List.mem_cons_self), fun d hd => h d (by rw [keys_node]; exact List.mem_append_right _ (List.mem_cons_of_mem _ hd))⟩
theorem Road.tk {K : PySem.W.Frag} {H H' : Hp} {t0 t : Sh} {zs : List V} (e : Tk H H') (h : Road K H t0 zs t) : Road K H' t0 zs t := by
  induction h with
  | nil => exact .nil
  | cons _ h1 h2 d1 d2 d3 ko sd ih =>
    obtain ⟨k1, ⟨ks, rfl, oz⟩, k2⟩ := keysOk_inv ko
    exact .cons ih (e _ _ (fun _ z => by cases z) h1) (sqT_tk e h2) (dp_tk e d1 (KeysOk.tp _ k1)) (dp_tk e d2 (tp_key _)) (dp_tk e d3 (KeysOk.tp _ k2)) ko sd
theorem hgt_node (l r : Sh) (k : PyData) : hgt (.node l k r) = max (hgt l) (hgt r) + 1 := rfl
theorem cnt_node (l r : Sh) (k : PyData) : cnt (.node l k r) = cnt l + cnt r + 1 := rfl
theorem ok__law_bent_shape (F : Def K mg "_law_bent_shape" s__law_bent_shape P__law_bent_shape) (m_range : mg "range" = none) (m_len : mg "len" = none) (C__law_take : Cal P w K mg base 1 "_law_take" P__law_take spTake) : Cal P w K mg base 2 "_law_bent_shape" P__law_bent_shape (spBent K) := by
  refine F.ok sc__law_bent_shape (fun vs H Q E h => ?_) (fun f cdv A outer s H vs Q E hr h => ?_)
  · obtain ⟨st, c, v, t, rfl, _⟩ := h
    rfl
  obtain ⟨st, c, v0, t0, rfl, hs, dv0, ko0, hh0, q⟩ := h
  refine ⟨_, (pss_cons (ps_set (i := 2) sc__law_bent_shape.nd rfl (Or.inl rfl) (pe_lst pa_nil))
  (pss_cons (ps_set (i := 3) sc__law_bent_shape.nd rfl (Or.inl rfl) (pv 1))
  (pss_cons (ps_for PassesOwn.never rfl (pi_range1 (by rfl) m_range (pa_cons (pe_cal C__law_take hr (pa_cons (pv 0) (pa_cons pe_int pa_nil))) pa_nil)) (pg_name (i := 4) sc__law_bent_shape.nd rfl (Or.inl rfl)) (pss_one (ps_if (pt_cmpR (op_neD hr.units) (pv 3) (pe_tup pa_nil) (nomark _)) (pss_cons (ps_set (i := 5) sc__law_bent_shape.nd rfl (Or.inl rfl) (pe_op op_mul pe_int (pe_cal C__law_take hr (pa_cons (pv 0) (pa_cons pe_int pa_nil)))))
  (pss_cons (ps_expr (pe_bm PySem.F.plainAttrs_list PySem.F.slot_list_append PySem.F.type_list_append mt_append (pv 2) (pa_cons (pe_tup (pa_cons (pv 3) (pa_cons (pv 5) pa_nil))) pa_nil)))
  (pss_one (ps_set (i := 3) sc__law_bent_shape.nd rfl (Or.inl rfl) (pe_ix ix_tup (pv 3) (pv 5) (fun _ _ => rfl)))))) pss_nil)))
  (pss_cons (ps_set (i := 6) sc__law_bent_shape.nd rfl (Or.inl rfl) (pe_cal C__law_take hr (pa_cons (pv 0) (pa_cons pe_int pa_nil))))
  (C8.pss_cut (ps_if (pt_cmpR op_eq (pv 6) pe_int (nomark _)) (pss_one (ps_set (i := 3) sc__law_bent_shape.nd rfl (Or.inl rfl) (pe_tup pa_nil))) pss_nil)
  (C8.pss_cut (ps_if (pt_cmpR op_gt (pv 6) pe_int (nomark _)) (pss_one (ps_set (i := 3) sc__law_bent_shape.nd rfl (Or.inl rfl) (pe_tup (pa_cons (pv 3) (pa_cons (pe_tup (pa_cons pe_str pa_nil)) (pa_cons (pe_tup pa_nil) pa_nil)))))) pss_nil)
  (C8.pss_cut (ps_if (pt_cmpR op_eq (pv 6) pe_int (nomark _)) (pss_one (ps_set (i := 3) sc__law_bent_shape.nd rfl (Or.inl rfl) (pe_tup (pa_cons (pe_tup pa_nil) (pa_cons (pe_tup (pa_cons pe_str (pa_cons pe_str pa_nil))) (pa_cons (pv 3) pa_nil)))))) pss_nil)
  (pss_cons (ps_for PassesOwn.never rfl (pi_range1 (by rfl) m_range (pa_cons (pe_callB q_len (by rfl) m_len PySem.boot_len (pa_cons (pv 2) pa_nil)) pa_nil)) (pg_name (i := 4) sc__law_bent_shape.nd rfl (Or.inl rfl)) (pss_cons (ps_set (i := 7) sc__law_bent_shape.nd rfl (Or.inl rfl) (pe_ix ix_list (pv 2) (pe_op op_sub (pe_op op_sub (pe_callB q_len (by rfl) m_len PySem.boot_len (pa_cons (pv 2) pa_nil)) pe_int) (pv 4)) (fun _ _ => rfl)))
  (pss_one (ps_if (pt_cmpR op_eq (pe_ix ix_tup (pv 7) pe_int (fun _ _ => rfl)) pe_int (nomark _)) (pss_one (ps_set (i := 3) sc__law_bent_shape.nd rfl (Or.inl rfl) (pe_tup (pa_cons (pv 3) (pa_cons (pe_ix ix_tup (pe_ix ix_tup (pv 7) pe_int (fun _ _ => rfl)) pe_int (fun _ _ => rfl)) (pa_cons (pe_ix ix_tup (pe_ix ix_tup (pv 7) pe_int (fun _ _ => rfl)) pe_int (fun _ _ => rfl)) pa_nil)))))) (pss_one (ps_set (i := 3) sc__law_bent_shape.nd rfl (Or.inl rfl) (pe_tup (pa_cons (pe_ix ix_tup (pe_ix ix_tup (pv 7) pe_int (fun _ _ => rfl)) pe_int (fun _ _ => rfl)) (pa_cons (pe_ix ix_tup (pe_ix ix_tup (pv 7) pe_int (fun _ _ => rfl)) pe_int (fun _ _ => rfl)) (pa_cons (pv 3) pa_nil))))))))))
  (pss_one (ps_ret (pv 3))))))))))), ?_⟩
  refine Rd.at0 (σ := [some (.ref st), some v0, none, none, none, none, none, none]) rfl ?_
  repeat' (walk_at "rd")
  intro R hR
  have g0 : Go st c H (upd H R (.lst [])) := (Go.refl hs).new hR _
  have nR := hs.off hR
  have d0 := dp_same (same_upd (o := .lst []) hR) dv0
  repeat' (walk_at "rd")
  refine ⟨st, c, 8, rfl, g0.ok, by decide, fun m H1 m0 m1 g1 => ?_⟩
  have eR1 := g1.keep R _ nR.1 upd_same
  have g01 := g0.trans g1
  repeat' (walk_at "rd")
  refine forR (fun i σ H' => ∃ (v : V) (t : Sh) (zs : List V) (v4 v5 : Option V), σ = [some (.ref st), some v0, some (.ref R), some v, v4, v5, none, none] ∧ Go st c H H' ∧ H' R = some (.lst zs.reverse) ∧ Road K H' t0 zs t ∧ Dp K H' v (toD t) ∧ KeysOk t ∧ hgt t ≤ 60 ∧ zs.length ≤ i)
    ⟨v0, t0, [], none, none, rfl, g01, eR1, .nil, dp_tk (go_tk g0.ok g1) d0 (KeysOk.tp t0 ko0), ko0, hh0, Nat.le_refl _⟩ ?_ ?_
  · rintro i σ H' hi ⟨v, t, zs, v4, v5, rfl, g, eR, rd, dv, ko, hh, lz⟩
    have hi : i < 8 := by omega
    cases t with
    | nil =>
      repeat' (walk_at "rd")
      intro e he
      have s1 := same_upd (o := .tup []) he
      refine ⟨_, _, dp_same s1 dv, .tup (.inl (.inl upd_same)) .nil, sh_shaped ko (by omega), nil_shaped, ?_⟩
      rw [eqv_nil]
      repeat' (walk_at "rd")
      exact ⟨v, .nil, zs, _, _, rfl, g.new he _, s1 _ _ eR, rd.tk (Rd.Same.tk s1), dp_same s1 dv, ko, hh, by omega⟩
    | node l k r =>
      obtain ⟨k1, ⟨ks, rfl, oz⟩, k2⟩ := keysOk_inv ko
      repeat' (walk_at "rd")
      intro e he
      have s1 := same_upd (o := .tup []) he
      refine ⟨_, _, dp_same s1 dv, .tup (.inl (.inl upd_same)) .nil, sh_shaped ko (by omega), nil_shaped, ?_⟩
      rw [eqv_node]
      have ge := g.new (o := .tup []) he
      have eRe := s1 _ _ eR
      have rde := rd.tk (Rd.Same.tk s1)
      have dve := dp_same s1 dv
      generalize upd H' e (.tup []) = G at *
      obtain ⟨b, x, y, z, rfl, hb, hx, hy, hz⟩ := dp_node dve
      repeat' (walk_at "rd")
      refine ⟨st, c, 2, rfl, ge.ok, by decide, fun rr H3 r0 r1 g3 => ?_⟩
      have t3 := go_tk ge.ok g3
      have gg := ge.trans g3
      have eR3 := g3.keep R _ nR.1 eRe
      have hb3 := sqT_tk t3 hb
      have hx3 := dp_tk t3 hx (KeysOk.tp _ k1)
      have hy3 := dp_tk t3 hy (tp_key _)
      have hz3 := dp_tk t3 hz (KeysOk.tp _ k2)
      have rd3 := rde.tk t3
      repeat' (walk_at "rd")
      intro a ha
      have s4 := same_upd (o := .tup [.ref b, .int (2 * rr)]) ha
      repeat' (walk_at "rd")
      refine appR (s4 _ _ eR3) (by omega) ?_
      have t5 := tk_put (s4 _ _ eR3) (.lst (V.ref a :: zs).reverse)
      have t4 := (Rd.Same.tk s4).trans t5
      have naR : a ≠ R := (ne_of_none eR3 ha).symm
      have ea5 : (upd (upd H3 a (.tup [.ref b, .int (2 * rr)])) R (.lst (V.ref a :: zs).reverse)) a = some (.tup [.ref b, .int (2 * rr)]) := (upd_ne naR).trans upd_same
      have gf := (gg.new ha (.tup [.ref b, .int (2 * rr)])).write hR nR (.lst (V.ref a :: zs).reverse)
      have hb5 := sqT_tk t4 hb3
      have hx5 := dp_tk t4 hx3 (KeysOk.tp _ k1)
      have hy5 := dp_tk t4 hy3 (tp_key _)
      have hz5 := dp_tk t4 hz3 (KeysOk.tp _ k2)
      have rd5 := rd3.tk t4
      have eR5 : (upd (upd H3 a (.tup [.ref b, .int (2 * rr)])) R (.lst (V.ref a :: zs).reverse)) R = some (.lst (V.ref a :: zs).reverse) := upd_same
      generalize upd (upd H3 a (.tup [.ref b, .int (2 * rr)])) R (.lst (V.ref a :: zs).reverse) = G5 at *
      have hn := hgt_node l r (keyD ks)
      repeat' (walk_at "rd")
      have two : rr = 0 ∨ rr = 1 := by omega
      rcases two with rfl | rfl
      · refine ixT' hb5 (by decide) (x := x) rfl ?_
        repeat' (walk_at "rd")
        exact ⟨x, l, .ref a :: zs, _, _, rfl, gf, eR5, .cons (sd := 0) rd5 ea5 hb5 hx5 hy5 hz5 ko (.inl rfl), hx5, k1, by omega, by rw [List.length_cons]; omega⟩
      · refine ixT' hb5 (by decide) (x := z) rfl ?_
        repeat' (walk_at "rd")
        exact ⟨z, r, .ref a :: zs, _, _, rfl, gf, eR5, .cons (sd := 2) rd5 ea5 hb5 hx5 hy5 hz5 ko (.inr rfl), hz5, k2, by omega, by rw [List.length_cons]; omega⟩
  rintro σ H' ⟨v, t, zs, v4, v5, rfl, g, eR, rd, dv, ko, hh, lz⟩
  repeat' (walk_at "rd")
  refine ⟨st, c, 3, rfl, g.ok, by decide, fun sy H2 y0 y1 g2 => ?_⟩
  have t2 := go_tk g.ok g2
  have g02 := g.trans g2
  have eR2 := g2.keep R _ nR.1 eR
  have rd2 := rd.tk t2
  have dv2 := dp_tk t2 dv (KeysOk.tp t ko)
  repeat' (walk_at "rd")
  have kn : KeysOk .nil := fun _ h => (List.not_mem_nil h).elim
  refine Rd.cut (fun σ' H' => ∃ (v' : V) (t' : Sh), σ' = [some (.ref st), some v0, some (.ref R), some v', v4, v5, some (.int sy), none] ∧ Go st c H H' ∧ H' R = some (.lst zs.reverse) ∧ Road K H' t0 zs t ∧ Dp K H' v' (toD t') ∧ KeysOk t' ∧ hgt t' ≤ hgt t + 0 ∧ cnt t' ≤ cnt t + 0) ?_ ?_
  · repeat' (walk_at "rd")
    · intro e he
      have s1 := same_upd (o := .tup []) he
      repeat' (walk_at "rd")
      exact ⟨.ref e, .nil, rfl, g02.new he _, s1 _ _ eR2, rd2.tk (Rd.Same.tk s1), dp_new_nil upd_same, kn, Nat.zero_le _, Nat.zero_le _⟩
    · exact ⟨v, t, rfl, g02, eR2, rd2, dv2, ko, Nat.le_refl _, Nat.le_refl _⟩
  rintro σ' H3 ⟨v1, t1, rfl, g3, eR3, rd3, dv3, ko3, hh3, hc3⟩
  refine Rd.cut (fun σ' H' => ∃ (v' : V) (t' : Sh), σ' = [some (.ref st), some v0, some (.ref R), some v', v4, v5, some (.int sy), none] ∧ Go st c H H' ∧ H' R = some (.lst zs.reverse) ∧ Road K H' t0 zs t ∧ Dp K H' v' (toD t') ∧ KeysOk t' ∧ hgt t' ≤ hgt t + 1 ∧ cnt t' ≤ cnt t + 1) ?_ ?_
  · repeat' (walk_at "rd")
    · intro kp hkp
      repeat' (walk_at "rd")
      intro e he
      repeat' (walk_at "rd")
      intro p hp
      have s1 := same_upd (o := .tup [V.str "z"]) hkp
      have s2 := same_upd (o := .tup []) he
      have s3 := same_upd (o := .tup [v1, .ref kp, .ref e]) hp
      have s13 := (s1.trans s2).trans s3
      repeat' (walk_at "rd")
      refine ⟨.ref p, .node t1 (keyD ["z"]) .nil, rfl, ((g3.new hkp _).new he _).new hp _, s13 _ _ eR3, rd3.tk (Rd.Same.tk s13), dp_new_node upd_same ((s2.trans s3) _ _ upd_same) (dp_same s13 dv3) (dp_new_nil (s3 _ _ upd_same)), keysOk_node ko3 kn (by decide +kernel), ?_, ?_⟩
      · rw [hgt_node]
        show max (hgt t1) 0 + 1 ≤ _
        omega
      · rw [cnt_node]
        show cnt t1 + 0 + 1 ≤ _
        omega
    · exact ⟨v1, t1, rfl, g3, eR3, rd3, dv3, ko3, by omega, by omega⟩
  rintro σ' H4 ⟨v2, t2', rfl, g4, eR4, rd4, dv4, ko4, hh4, hc4⟩
  refine Rd.cut (fun σ' H' => ∃ (v' : V) (t' : Sh), σ' = [some (.ref st), some v0, some (.ref R), some v', v4, v5, some (.int sy), none] ∧ Go st c H H' ∧ H' R = some (.lst zs.reverse) ∧ Road K H' t0 zs t ∧ Dp K H' v' (toD t') ∧ KeysOk t' ∧ hgt t' ≤ hgt t + 2 ∧ cnt t' ≤ cnt t + 2) ?_ ?_
  · repeat' (walk_at "rd")
    · intro e he
      repeat' (walk_at "rd")
      intro kp hkp
      repeat' (walk_at "rd")
      intro p hp
      have s1 := same_upd (o := .tup []) he
      have s2 := same_upd (o := .tup [V.str "y", V.str "z"]) hkp
      have s3 := same_upd (o := .tup [.ref e, .ref kp, v2]) hp
      have s13 := (s1.trans s2).trans s3
      repeat' (walk_at "rd")
      refine ⟨.ref p, .node .nil (keyD ["y", "z"]) t2', rfl, ((g4.new he _).new hkp _).new hp _, s13 _ _ eR4, rd4.tk (Rd.Same.tk s13), dp_new_node upd_same (s3 _ _ upd_same) (dp_new_nil ((s2.trans s3) _ _ upd_same)) (dp_same s13 dv4), keysOk_node kn ko4 (by decide +kernel), ?_, ?_⟩
      · rw [hgt_node]
        show max 0 (hgt t2') + 1 ≤ _
        omega
      · rw [cnt_node]
        show 0 + cnt t2' + 1 ≤ _
        omega
    · exact ⟨v2, t2', rfl, g4, eR4, rd4, dv4, ko4, by omega, by omega⟩
  rintro σ' H5 ⟨v3, t3, rfl, g5, eR5, rd5, dv5, ko5, hh5, hc5⟩
  have lzr : (zs.reverse.length : Int) = zs.length := by rw [List.length_reverse]
  repeat' (walk_at "rd")
  refine forR (fun i σ H' => ∃ (v' : V) (t' tk : Sh) (v4 v7 : Option V), σ = [some (.ref st), some v0, some (.ref R), some v', v4, v5, some (.int sy), v7] ∧ Go st c H H' ∧ H' R = some (.lst zs.reverse) ∧ Road K H' t0 (zs.drop i) tk ∧ Dp K H' v' (toD t') ∧ KeysOk t' ∧ hgt t' ≤ hgt tk + 2 ∧ cnt t' ≤ cnt tk + 2)
    ⟨v3, t3, t, v4, none, rfl, g5, eR5, rd5, dv5, ko5, hh5, hc5⟩ ?_ ?_
  · rintro i σ H' hi ⟨v', t', tk, v4, v7, rfl, g, eR, rd, dv, ko', hh', hc'⟩
    have hi : i < zs.length := by omega
    have e0 : zs.drop i = zs[i] :: zs.drop (i + 1) := List.drop_eq_getElem_cons hi
    rw [e0] at rd
    generalize hu : zs[i] = u at *
    generalize hz : zs.drop (i + 1) = zd at *
    cases rd with
    | cons rd0 ea hb hx hy hz' kon sd =>
      rename_i x y z l r k a b sd'
      obtain ⟨k1, ⟨ks, rfl, oz⟩, k2⟩ := keysOk_inv kon
      have hn := hgt_node l r (keyD ks)
      have cn := cnt_node l r (keyD ks)
      have at1 : zs.reverse[((zs.reverse.length : Int) - 1 - (0 + (i : Int))).toNat]? = some (.ref a) := by
        rw [show ((zs.reverse.length : Int) - 1 - (0 + (i : Int))).toNat = zs.length - 1 - i by rw [lzr]; omega, List.getElem?_reverse (by omega), show zs.length - 1 - (zs.length - 1 - i) = i by omega, List.getElem?_eq_getElem hi, hu]
      have haS : SqT K H' a [.ref b, .int sd'] := .inl (.inl ea)
      repeat' (walk_at "rd")
      refine ixN' (.inl (.inl eR)) (by rw [lzr]; omega) at1 ?_
      repeat' (walk_at "rd")
      · rename_i z0
        subst z0
        repeat' (walk_at "rd")
        intro p hp
        have s1 := same_upd (o := .tup [v', y, z]) hp
        refine ⟨.ref p, .node t' (keyD ks) r, .node l (keyD ks) r, _, _, rfl, g.new hp _, s1 _ _ eR, rd0.tk (Rd.Same.tk s1), dp_knot upd_same (dp_same s1 dv) (dp_same s1 hy) (dp_same s1 hz'), keysOk_node ko' k2 oz, ?_, ?_⟩
        · rw [if_pos rfl] at hh'
          rw [hn, hgt_node]
          omega
        · rw [if_pos rfl] at hc'
          rw [cn, cnt_node]
          omega
      · rename_i z0
        repeat' (walk_at "rd")
        intro p hp
        have s1 := same_upd (o := .tup [x, y, v']) hp
        refine ⟨.ref p, .node l (keyD ks) t', .node l (keyD ks) r, _, _, rfl, g.new hp _, s1 _ _ eR, rd0.tk (Rd.Same.tk s1), dp_knot upd_same (dp_same s1 hx) (dp_same s1 hy) (dp_same s1 dv), keysOk_node k1 ko' oz, ?_, ?_⟩
        · rw [if_neg z0] at hh'
          rw [hn, hgt_node]
          omega
        · rw [if_neg z0] at hc'
          rw [cn, cnt_node]
          omega
  · rintro σ H' ⟨v', t', tk, v4, v7, rfl, g, eR, rd, dv, ko', hh', hc'⟩
    rw [show ((zs.reverse.length : Nat) : Int).toNat = zs.length by omega, List.drop_length] at rd
    cases rd
    repeat' (walk_at "rd")
    exact q v' t' H' g dv ko' hh' hc'
end
theorem ls_nn : ∀ n : Nat, 0 ≤ (lsq n).1 ∧ (lsq n).1 < (lsq n).2
  | 0 => by decide
  | n + 1 => by
    have := ls_nn n
    show 0 ≤ (lsq n).2 ∧ (lsq n).2 < (lsq n).1 + (lsq n).2 + 1
    omega
theorem ls_step (n : Nat) : ls n < ls (n + 1) := (ls_nn n).2
theorem ls_mono : ∀ {n m : Nat}, n ≤ m → ls n ≤ ls m
  | n, 0, h => by
    obtain rfl : n = 0 := by omega
    exact Int.le_refl _
  | n, m + 1, h => by
    rcases Nat.lt_or_ge n (m + 1) with z | z
    · have := ls_mono (n := n) (m := m) (by omega)
      have := ls_step m
      omega
    · obtain rfl : n = m + 1 := by omega
      exact Int.le_refl _
section
variable {P : Program} {w : World} {K : PySem.W.Frag} {mg : Str → Option Value} {base : Heap}
/-- behind a balanced shape, its list of keys new -/
theorem go_made {st c m : Addr} {H H1 H2 : Hp} (g : Go st c H H1) (n : H1 m = none) (k : ∀ b o, b ≠ st → b ≠ m → (upd H1 m (.lst [])) b = some o → H2 b = some o) (o : StoreAt H2 st c) : Go st c H H2 :=
  ⟨o, fun b u hb e => by
    have e1 := g.keep b u hb e
    have nb : b ≠ m := ne_of_none e1 n
    exact k b u hb nb ((upd_ne nb).trans e1)⟩
/-- _law_shape(store), _law_any_shape(store) -/
def spShape (K : PySem.W.Frag) : Sp := fun vs H Q _ => ∃ (st c : Addr), vs = [.ref st] ∧ StoreAt H st c ∧ RetSh K st c H 62 400 Q
theorem ok__law_shape (F : Def K mg "_law_shape" s__law_shape P__law_shape) (C__law_take : Cal P w K mg base 1 "_law_take" P__law_take spTake) (C__law_between : Cal P w K mg base 2 "_law_between" P__law_between spBetween) (C__law_key : Cal P w K mg base 4 "_law_key" P__law_key (spKey K)) (C__law_chain : Cal P w K mg base 5 "_law_chain" P__law_chain (spChain K)) (C__law_bent_shape : Cal P w K mg base 2 "_law_bent_shape" P__law_bent_shape (spBent K)) (C__law_balanced : Cal P w K mg base 11 "_law_balanced" P__law_balanced (spBalanced K 7)) (C__law_least_shape : Cal P w K mg base 10 "_law_least_shape" P__law_least_shape (spLshape K 10)) : Cal P w K mg base 12 "_law_shape" P__law_shape (spShape K) := by
  refine F.ok sc__law_shape (fun vs H Q E h => ?_) (fun f cdv A outer s H vs Q E hr h => ?_)
  · obtain ⟨st, c, rfl, _⟩ := h
    rfl
  obtain ⟨st, c, rfl, hs, q⟩ := h
  refine ⟨_, (pss_cons (ps_set (i := 1) sc__law_shape.nd rfl (Or.inl rfl) (pe_cal C__law_take hr (pa_cons (pv 0) (pa_cons pe_int pa_nil))))
  (pss_cons (ps_if (pt_cmpR op_eq (pv 1) pe_int (nomark _)) (pss_one (ps_ret (pe_cal C__law_chain hr (pa_cons (pv 0) (pa_cons (pe_cal C__law_between hr (pa_cons (pv 0) (pa_cons pe_int (pa_cons pe_int pa_nil)))) pa_nil))))) pss_nil)
  (pss_cons (ps_if (pt_cmpR op_eq (pv 1) pe_int (nomark _)) (pss_one (ps_ret (pe_cal C__law_least_shape hr (pa_cons (pe_cal C__law_take hr (pa_cons (pv 0) (pa_cons pe_int pa_nil))) (pa_cons (pe_cmpR op_eq (pe_cal C__law_take hr (pa_cons (pv 0) (pa_cons pe_int pa_nil))) pe_int (nomark _)) pa_nil))))) pss_nil)
  (pss_cons (ps_set (i := 2) sc__law_shape.nd rfl (Or.inl rfl) (pe_cal C__law_balanced hr (pa_cons (pv 0) (pa_cons (pe_cal C__law_take hr (pa_cons (pv 0) (pa_cons pe_int pa_nil))) (pa_cons (pe_lst pa_nil) pa_nil)))))
  (pss_cons (ps_if (pt_cmpR op_lt (pv 1) pe_int (nomark _)) (pss_one (ps_ret (pv 2))) pss_nil)
  (pss_cons (ps_if (pt_cmpR op_eq (pv 1) pe_int (nomark _)) (pss_cons (ps_set (i := 3) sc__law_shape.nd rfl (Or.inl rfl) (pe_cal C__law_balanced hr (pa_cons (pv 0) (pa_cons (pe_cal C__law_take hr (pa_cons (pv 0) (pa_cons pe_int pa_nil))) (pa_cons (pe_lst pa_nil) pa_nil)))))
  (pss_one (ps_ret (pe_tup (pa_cons (pv 2) (pa_cons (pe_cal C__law_key hr (pa_cons (pv 0) (pa_cons pe_int pa_nil))) (pa_cons (pv 3) pa_nil))))))) pss_nil)
  (pss_cons (ps_if (pt_cmpR op_eq (pv 1) pe_int (nomark _)) (pss_one (ps_ret (pe_tup (pa_cons (pv 2) (pa_cons (pe_cal C__law_key hr (pa_cons (pv 0) (pa_cons pe_int pa_nil))) (pa_cons (pe_cal C__law_chain hr (pa_cons (pv 0) (pa_cons (pe_cal C__law_take hr (pa_cons (pv 0) (pa_cons pe_int pa_nil))) pa_nil))) pa_nil)))))) pss_nil)
  (pss_one (ps_ret (pe_cal C__law_bent_shape hr (pa_cons (pv 0) (pa_cons (pv 2) pa_nil)))))))))))), ?_⟩
  refine Rd.at0 (σ := [some (.ref st), none, none, none]) rfl ?_
  repeat' (walk_at "rd")
  refine ⟨st, c, 8, rfl, hs, by decide, fun sy H1 y0 y1 g1 => ?_⟩
  repeat' (walk_at "rd")
  · refine ⟨st, c, 0, 60, rfl, g1.ok, by decide, fun n H2 n0 n1 g2 => ?_⟩
    obtain ⟨n, rfl⟩ : ∃ k : Nat, n = k := ⟨n.toNat, by omega⟩
    repeat' (walk_at "rd")
    refine ⟨st, c, n, rfl, g2.ok, by omega, fun v t H3 g3 d ko hh hc => ?_⟩
    exact q v t H3 ((g1.trans g2).trans g3) d ko (by omega) (by omega)
  · refine ⟨st, c, 9, rfl, g1.ok, by decide, fun n H2 n0 n1 g2 => ?_⟩
    repeat' (walk_at "rd")
    refine ⟨st, c, 2, rfl, g2.ok, by decide, fun r H3 _ _ g3 => ?_⟩
    repeat' (walk_at "rd")
    refine ⟨n, _, rfl, ⟨by omega, by omega⟩, fun v t H4 s4 d hh _ ko hc => ?_⟩
    have l8 : ls n.toNat ≤ ls 8 := ls_mono (by omega)
    have e8 : ls 8 = 54 := by decide
    exact q v t H4 (((g1.trans g2).trans g3).same s4) d ko (by omega) (by omega)
  refine ⟨st, c, 7, rfl, g1.ok, by decide, fun r7 H2 p0 p1 g2 => ?_⟩
  have g12 := g1.trans g2
  repeat' (walk_at "rd")
  intro m hm
  have pw6 : 2 ^ r7.toNat ≤ 64 := pow_le (x := r7) (y := 6) (by omega)
  have nm := g2.ok.off hm
  repeat' (walk_at "rd")
  refine ⟨st, c, m, r7, [], rfl, by omega, by omega, g2.ok.put nm _, nm, upd_same, by show 0 + 2 ^ r7.toNat ≤ 50000; omega, fun v1 t1 _ H3 k3 o3 _ _ d1 ht1 _ ko1 ct1 => ?_⟩
  have g3 := go_made g12 hm k3 o3
  have t1k := KeysOk.tp t1 ko1
  repeat' (walk_at "rd")
  · exact q v1 t1 H3 g3 d1 ko1 (by omega) (by omega)
  · refine ⟨st, c, 7, rfl, g3.ok, by decide, fun r8 H4 p2 p3 g4 => ?_⟩
    repeat' (walk_at "rd")
    intro m2 hm2
    have pw7 : 2 ^ r8.toNat ≤ 64 := pow_le (x := r8) (y := 6) (by omega)
    have nm2 := g4.ok.off hm2
    repeat' (walk_at "rd")
    refine ⟨st, c, m2, r8, [], rfl, by omega, by omega, g4.ok.put nm2 _, nm2, upd_same, by show 0 + 2 ^ r8.toNat ≤ 50000; omega, fun v2 t2 _ H5 k5 o5 _ _ d2 ht2 _ ko2 ct2 => ?_⟩
    have g35 := go_made g4 hm2 k5 o5
    have g5 := g3.trans g35
    have d1' := dp_tk (go_tk g3.ok g35) d1 t1k
    repeat' (walk_at "rd")
    refine ⟨st, c, 0, rfl, o5, by decide, by decide, fun kp zs H6 nk g6 oz ek => ?_⟩
    have t6 := go_tk o5 g6
    have d1'' := dp_tk t6 d1' t1k
    have d2'' := dp_tk t6 d2 (KeysOk.tp t2 ko2)
    repeat' (walk_at "rd")
    intro p hp
    have s7 := same_upd (o := .tup [v1, .ref kp, v2]) hp
    exact q (.ref p) (.node t1 (keyD zs) t2) _ ((g5.trans g6).new hp _) (dp_new_node upd_same (s7 _ _ ek) (dp_same s7 d1'') (dp_same s7 d2'')) (keysOk_node ko1 ko2 oz) (by rw [hgt_node]; omega) (by rw [cnt_node]; omega)
  · refine ⟨st, c, 1, rfl, g3.ok, by decide, by decide, fun kp zs H6 nk g6 oz ek => ?_⟩
    have d1' := dp_tk (go_tk g3.ok g6) d1 t1k
    have nkst := (g3.ok.off nk).1
    repeat' (walk_at "rd")
    refine ⟨st, c, 9, rfl, g6.ok, by decide, fun n H7 n0 n1 g7 => ?_⟩
    obtain ⟨n, rfl⟩ : ∃ k : Nat, n = k := ⟨n.toNat, by omega⟩
    repeat' (walk_at "rd")
    refine ⟨st, c, n, rfl, g7.ok, by omega, fun v2 t2 H8 g8 d2 ko2 hh2 hc2 => ?_⟩
    have g78 := g7.trans g8
    have d1'' := dp_tk (go_tk g6.ok g78) d1' t1k
    have ek8 := g78.keep kp _ nkst ek
    repeat' (walk_at "rd")
    intro p hp
    have s7 := same_upd (o := .tup [v1, .ref kp, v2]) hp
    exact q (.ref p) (.node t1 (keyD zs) t2) _ (((g3.trans g6).trans g78).new hp _) (dp_new_node upd_same (s7 _ _ ek8) (dp_same s7 d1'') (dp_same s7 d2)) (keysOk_node ko1 ko2 oz) (by rw [hgt_node]; omega) (by rw [cnt_node]; omega)
  · refine ⟨st, c, v1, t1, rfl, g3.ok, d1, ko1, by omega, fun v t H4 g4 d ko hh hc => ?_⟩
    exact q v t H4 (g3.trans g4) d ko (by omega) (by omega)
theorem ok__law_any_shape (F : Def K mg "_law_any_shape" s__law_any_shape P__law_any_shape) (C__law_take : Cal P w K mg base 1 "_law_take" P__law_take spTake) (C__law_between : Cal P w K mg base 2 "_law_between" P__law_between spBetween) (C__law_shape : Cal P w K mg base 12 "_law_shape" P__law_shape (spShape K)) (C__law_bent_shape : Cal P w K mg base 2 "_law_bent_shape" P__law_bent_shape (spBent K)) (C__law_plain_keys : Cal P w K mg base 5 "_law_plain_keys" P__law_plain_keys (spPlain K)) (C__law_spine : Cal P w K mg base 6 "_law_spine" P__law_spine (spSpine K)) (C__law_even : Cal P w K mg base 10 "_law_even" P__law_even (spEven K 10)) : Cal P w K mg base 13 "_law_any_shape" P__law_any_shape (spShape K) := by
  refine F.ok sc__law_any_shape (fun vs H Q E h => ?_) (fun f cdv A outer s H vs Q E hr h => ?_)
  · obtain ⟨st, c, rfl, _⟩ := h
    rfl
  obtain ⟨st, c, rfl, hs, q⟩ := h
  refine ⟨_, (pss_cons (ps_set (i := 1) sc__law_any_shape.nd rfl (Or.inl rfl) (pe_cal C__law_take hr (pa_cons (pv 0) (pa_cons pe_int pa_nil))))
  (pss_cons (ps_if (pt_cmpR op_lt (pv 1) pe_int (nomark _)) (pss_one (ps_ret (pe_cal C__law_shape hr (pa_cons (pv 0) pa_nil)))) pss_nil)
  (pss_cons (ps_if (pt_cmpR op_eq (pv 1) pe_int (nomark _)) (pss_one (ps_ret (pe_cal C__law_spine hr (pa_cons (pv 0) pa_nil)))) pss_nil)
  (pss_cons (ps_set (i := 2) sc__law_any_shape.nd rfl (Or.inl rfl) (pe_cal C__law_even hr (pa_cons (pe_cal C__law_plain_keys hr (pa_cons (pv 0) (pa_cons (pe_cal C__law_between hr (pa_cons (pv 0) (pa_cons pe_int (pa_cons pe_int pa_nil)))) pa_nil))) pa_nil)))
  (C8.pss_cut (ps_if (pt_cmpR op_eq (pv 1) pe_int (nomark _)) (pss_one (ps_set (i := 2) sc__law_any_shape.nd rfl (Or.inl rfl) (pe_cal C__law_even hr (pa_cons (pe_cal C__law_plain_keys hr (pa_cons (pv 0) (pa_cons (pe_cal C__law_between hr (pa_cons (pv 0) (pa_cons pe_int (pa_cons pe_int pa_nil)))) pa_nil))) pa_nil)))) pss_nil)
  (pss_cons (ps_if (pt_cmpR op_lt (pv 1) pe_int (nomark _)) (pss_one (ps_ret (pe_cal C__law_bent_shape hr (pa_cons (pv 0) (pa_cons (pv 2) pa_nil))))) pss_nil)
  (pss_one (ps_ret (pv 2))))))))), ?_⟩
  refine Rd.at0 (σ := [some (.ref st), none, none]) rfl ?_
  repeat' (walk_at "rd")
  refine ⟨st, c, 10, rfl, hs, by decide, fun sy H1 y0 y1 g1 => ?_⟩
  repeat' (walk_at "rd")
  · refine ⟨st, c, rfl, g1.ok, fun v t H3 g3 d ko hh hc => ?_⟩
    exact q v t H3 (g1.trans g3) d ko hh hc
  · refine ⟨st, c, rfl, g1.ok, fun v t H3 g3 d ko hh hc => ?_⟩
    exact q v t H3 (g1.trans g3) d ko (by omega) hc
  refine ⟨st, c, 0, 40, rfl, g1.ok, by decide, fun n H2 n0 n1 g2 => ?_⟩
  obtain ⟨n, rfl⟩ : ∃ k : Nat, n = k := ⟨n.toNat, by omega⟩
  repeat' (walk_at "rd")
  refine ⟨st, c, n, rfl, g2.ok, by omega, fun l xs ks H3 _ g3 el dx ko lx => ?_⟩
  repeat' (walk_at "rd")
  refine ⟨l, xs, ks, 9, rfl, rfl, .inl (.inl el), dx, ko, by omega, fun v1 t1 H4 s4 d1 ko1 h1 c1 => ?_⟩
  have g4 := ((g1.trans g2).trans g3).same s4
  repeat' (walk_at "rd")
  refine Rd.cut (fun σ' H' => ∃ (v : V) (t : Sh), σ' = [some (.ref st), some (.int sy), some v] ∧ Go st c H H' ∧ Dp K H' v (toD t) ∧ KeysOk t ∧ hgt t ≤ 9 ∧ cnt t ≤ 396) ?_ ?_
  · repeat' (walk_at "rd")
    · refine ⟨st, c, 0, 396, rfl, g4.ok, by decide, fun n2 H5 n20 n21 g5 => ?_⟩
      obtain ⟨n2, rfl⟩ : ∃ k : Nat, n2 = k := ⟨n2.toNat, by omega⟩
      repeat' (walk_at "rd")
      refine ⟨st, c, n2, rfl, g5.ok, by omega, fun l2 xs2 ks2 H6 _ g6 el2 dx2 ko2 lx2 => ?_⟩
      repeat' (walk_at "rd")
      refine ⟨l2, xs2, ks2, 9, rfl, rfl, .inl (.inl el2), dx2, ko2, by omega, fun v2 t2 H7 s7 d2 kk2 h2 c2 => ?_⟩
      repeat' (walk_at "rd")
      exact ⟨v2, t2, rfl, ((g4.trans g5).trans g6).same s7, d2, kk2, h2, by omega⟩
    · exact ⟨v1, t1, rfl, g4, d1, ko1, h1, by omega⟩
  rintro σ' H5 ⟨v, t, rfl, g5, d, ko5, hh, hc⟩
  repeat' (walk_at "rd")
  · refine ⟨st, c, v, t, rfl, g5.ok, d, ko5, by omega, fun v' t' H6 g6 d' ko' hh' hc' => ?_⟩
    exact q v' t' H6 (g5.trans g6) d' ko' (by omega) (by omega)
  · exact q v t H5 g5 d ko5 (by omega) (by omega)
end
section
variable {P : Program} {w : World} {K : PySem.W.Frag} {mg : Str → Option Value} {base : Heap}
theorem revQ {H : Hp} {Q : VK} {p : Addr} {xs : List V} (h : H p = some (.lst xs)) (g : Q .non (upd H p (.lst xs.reverse))) : rReverse (.ref p) [] H Q := ⟨p, xs, rfl, rfl, h, g⟩
/-- _law_judged(shape): True -/
def spJudged (K : PySem.W.Frag) : Sp := fun vs H Q _ => ∃ (v : V) (t : Sh), vs = [v] ∧ Dp K H v (toD t) ∧ KeysOk t ∧ hgt t ≤ 62 ∧ cnt t ≤ 400 ∧ ∀ H', Same H H' → Q (.bl true) H'
theorem ok__law_judged (F : Def K mg "_law_judged" s__law_judged P__law_judged) (C__law_measured : Cal P w K mg base 1 "_law_measured" P__law_measured (spMeasured K)) (C__law_same : Cal P w K mg base 4 "_law_same" P__law_same (spSame K 4)) (C_shape_height : Cal P w K mg base 64 "shape_height" P_shape_height (spHeight K 63))
    (C_is_balanced : Cal P w K mg base 64 "is_balanced" P_is_balanced (spIsBal K 63)) (C_shape_keys : Cal P w K mg base 63 "shape_keys" P_shape_keys (spKeys K 63)) : Cal P w K mg base 65 "_law_judged" P__law_judged (spJudged K) := by
  refine F.ok sc__law_judged (fun vs H Q E h => ?_) (fun f cdv A outer s H vs Q E hr h => ?_)
  · obtain ⟨v, t, rfl, _⟩ := h
    rfl
  obtain ⟨v, t, rfl, hv, ko, hh, hc, q⟩ := h
  have tpt := KeysOk.tp t ko
  have tpk : ∀ d ∈ keys t, Tp d := fun d hd => by
    obtain ⟨zs, rfl, _⟩ := ko d hd
    exact tp_key zs
  have ff : Fit 3 (.list [.bool (bal t), .int (hgt t), .list (keys t)]) := .lst (by show 3 ≤ 100000; decide) fun d hd => by
    rcases List.mem_cons.mp hd with rfl | hd
    · exact .bl _
    rcases List.mem_cons.mp hd with rfl | hd
    · exact .int _
    rcases List.mem_cons.mp hd with rfl | hd
    · refine .lst (by rw [cnt_keys]; omega) fun d hd => ?_
      obtain ⟨zs, rfl, lz⟩ := ko d hd
      exact fit_key (by have := lz.1; omega)
    · cases hd
  have dd : ∀ (G : Hp) (a ka : Addr) (kl : List V), G a = some (.lst [.bl (bal t), V.int (hgt t), .ref ka]) → G ka = some (.lst kl) → DpAll K G kl (keys t) → Dp K G (.ref a) (.list [.bool (bal t), .int (hgt t), .list (keys t)]) := fun G a ka kl e1 e2 e3 =>
    .lst (.inl (.inl e1)) (.cons (.bl _) (.cons (.int _) (.cons (.lst (.inl (.inl e2)) e3) .nil)))
  refine ⟨_, (pss_cons (ps_set (i := 1) sc__law_judged.nd rfl (Or.inl rfl) (pe_cal C__law_measured hr (pa_cons (pv 0) pa_nil)))
  (pss_cons (ps_set (i := 2) sc__law_judged.nd rfl (Or.inl rfl) (pe_lst (pa_cons (pe_cal C_is_balanced hr (pa_cons (pv 0) pa_nil)) (pa_cons (pe_cal C_shape_height hr (pa_cons (pv 0) pa_nil)) (pa_cons (pe_cal C_shape_keys hr (pa_cons (pv 0) pa_nil)) pa_nil)))))
  (pss_cons (ps_if (pt_not (pt_val (pe_cal C__law_same hr (pa_cons (pv 2) (pa_cons (pe_lst (pa_cons (pe_ix ix_list (pv 1) pe_int (fun _ _ => rfl)) (pa_cons (pe_ix ix_list (pv 1) pe_int (fun _ _ => rfl)) (pa_cons (pe_ix ix_list (pv 1) pe_int (fun _ _ => rfl)) pa_nil)))) pa_nil))))) (pss_one (ps_ret pe_bl)) pss_nil)
  (pss_cons (ps_set (i := 3) sc__law_judged.nd rfl (Or.inl rfl) (pe_ix ix_list (pv 2) pe_int (fun _ _ => rfl)))
  (pss_cons (ps_expr (pe_bm PySem.F.plainAttrs_list PySem.F.slot_list_append PySem.F.type_list_append mt_append (pv 3) (pa_cons (pe_tup (pa_cons pe_str pa_nil)) pa_nil)))
  (pss_cons (ps_expr (pe_bm0 PySem.F.plainAttrs_list PySem.F.slot_list_reverse PySem.F.type_list_reverse mt_reverse (pv 3)))
  (pss_cons (ps_set (i := 2) sc__law_judged.nd rfl (Or.inl rfl) (pe_lst (pa_cons (pe_cal C_is_balanced hr (pa_cons (pv 0) pa_nil)) (pa_cons (pe_cal C_shape_height hr (pa_cons (pv 0) pa_nil)) (pa_cons (pe_cal C_shape_keys hr (pa_cons (pv 0) pa_nil)) pa_nil)))))
  (pss_one (ps_ret (pe_cal C__law_same hr (pa_cons (pv 2) (pa_cons (pe_lst (pa_cons (pe_ix ix_list (pv 1) pe_int (fun _ _ => rfl)) (pa_cons (pe_ix ix_list (pv 1) pe_int (fun _ _ => rfl)) (pa_cons (pe_ix ix_list (pv 1) pe_int (fun _ _ => rfl)) pa_nil)))) pa_nil)))))))))))), ?_⟩
  refine Rd.at0 (σ := [some v, none, none, none]) rfl ?_
  repeat' (walk_at "rd")
  refine ⟨v, t, rfl, hv, tpt, by rw [cost_cnt]; omega, fun p kp kx H1 s1 np ep ekp dk => ?_⟩
  have hv1 := dp_same s1 hv
  repeat' (walk_at "rd")
  refine ⟨v, t, rfl, hv1, by omega, fun H2 s2 => ?_⟩
  have hv2 := dp_same s2 hv1
  repeat' (walk_at "rd")
  refine ⟨v, t, rfl, hv2, by omega, fun H3 s3 => ?_⟩
  have hv3 := dp_same s3 hv2
  repeat' (walk_at "rd")
  refine ⟨v, t, rfl, hv3, by omega, by rw [cnt_keys]; omega, fun kq ky H4 nq s4 ekq dq => ?_⟩
  have hv4 := dp_same s4 hv3
  repeat' (walk_at "rd")
  intro told n5
  have s24 := (s2.trans s3).trans s4
  have s5 := same_upd (o := .lst [V.bl (bal t), .int (hgt t), .ref kq]) n5
  have s25 := s24.trans s5
  have ep5 := s25 _ _ ep
  have ekp5 := s25 _ _ ekp
  have dk5 := all_same s25 dk
  have ekq5 := s5 _ _ ekq
  have dq5 := all_same s5 dq
  have hv5 := dp_same s5 hv4
  have et5 : (upd H4 told (.lst [V.bl (bal t), .int (hgt t), .ref kq])) told = some (.lst [V.bl (bal t), .int (hgt t), .ref kq]) := upd_same
  have sH5 := s1.trans s25
  have fkq : H1 kq = none := (s2.trans s3).free nq
  generalize upd H4 told (.lst [V.bl (bal t), .int (hgt t), .ref kq]) = G5 at *
  repeat' (walk_at "rd")
  intro m1 n6
  have s6 := same_upd (o := .lst [V.bl (bal t), .int (hgt t), .ref kp]) n6
  refine ⟨.ref told, .ref m1, _, 3, rfl, rfl, dd _ told kq ky (s6 _ _ et5) (s6 _ _ ekq5) (all_same s6 dq5), dd _ m1 kp kx upd_same (s6 _ _ ekp5) (all_same s6 dk5), ff, ?_⟩
  have ep6 := s6 _ _ ep5
  have ekp6 := s6 _ _ ekp5
  have dk6 := all_same s6 dk5
  have ekq6 := s6 _ _ ekq5
  have hv6 := dp_same s6 hv5
  have et6 := s6 _ _ et5
  have sH6 := sH5.trans s6
  have nqp : kq ≠ kp := (ne_of_none ekp fkq).symm
  have nqm : kq ≠ p := (ne_of_none ep fkq).symm
  have fq : H kq = none := s1.free fkq
  generalize upd G5 m1 (.lst [V.bl (bal t), .int (hgt t), .ref kp]) = G6 at *
  repeat' (walk_at "rd")
  intro zt n7
  have s7 := same_upd (o := .tup [V.str "z"]) n7
  have ekq7 := s7 _ _ ekq6
  have lq := all_len dq
  repeat' (walk_at "rd")
  refine append ekq7 (sz5' (by rw [lq, cnt_keys]; omega)) ?_
  repeat' (walk_at "rd")
  refine revQ upd_same ?_
  rw [upd_upd]
  have t8 : Tk G6 (upd (upd G6 zt (.tup [V.str "z"])) kq (.lst (ky ++ [V.ref zt]).reverse)) := (Rd.Same.tk s7).trans (tk_put ekq7 _)
  have hv8 := dp_tk t8 hv6 tpt
  have ep8 : (upd (upd G6 zt (.tup [V.str "z"])) kq (.lst (ky ++ [V.ref zt]).reverse)) p = some (.lst [.int (hgt t), .int (cnt t), .bl (bal t), .ref kp]) := (upd_ne (Ne.symm nqm)).trans (s7 _ _ ep6)
  have ekp8 : (upd (upd G6 zt (.tup [V.str "z"])) kq (.lst (ky ++ [V.ref zt]).reverse)) kp = some (.lst kx) := (upd_ne (Ne.symm nqp)).trans (s7 _ _ ekp6)
  have dk8 := all_tk t8 dk6 tpk
  have sH8 : Same H (upd (upd G6 zt (.tup [V.str "z"])) kq (.lst (ky ++ [V.ref zt]).reverse)) := same_put (sH6.trans s7) fq _
  generalize upd (upd G6 zt (.tup [V.str "z"])) kq (.lst (ky ++ [V.ref zt]).reverse) = G8 at *
  repeat' (walk_at "rd")
  refine ⟨v, t, rfl, hv8, by omega, fun H9 s9 => ?_⟩
  have hv9 := dp_same s9 hv8
  repeat' (walk_at "rd")
  refine ⟨v, t, rfl, hv9, by omega, fun H10 s10 => ?_⟩
  have hv10 := dp_same s10 hv9
  repeat' (walk_at "rd")
  refine ⟨v, t, rfl, hv10, by omega, by rw [cnt_keys]; omega, fun kr kz H11 nr s11 ekr dr => ?_⟩
  repeat' (walk_at "rd")
  intro told2 n12
  have s12 := same_upd (o := .lst [V.bl (bal t), .int (hgt t), .ref kr]) n12
  have s812 := ((s9.trans s10).trans s11).trans s12
  have ep12 := s812 _ _ ep8
  have ekp12 := s812 _ _ ekp8
  have dk12 := all_same s812 dk8
  have ekr12 := s12 _ _ ekr
  have dr12 := all_same s12 dr
  have et12 : (upd H11 told2 (.lst [V.bl (bal t), .int (hgt t), .ref kr])) told2 = some (.lst [V.bl (bal t), .int (hgt t), .ref kr]) := upd_same
  have sH12 := sH8.trans s812
  generalize upd H11 told2 (.lst [V.bl (bal t), .int (hgt t), .ref kr]) = G12 at *
  repeat' (walk_at "rd")
  intro m2 n13
  have s13 := same_upd (o := .lst [V.bl (bal t), .int (hgt t), .ref kp]) n13
  repeat' (walk_at "rd")
  exact ⟨.ref told2, .ref m2, _, 3, rfl, rfl, dd _ told2 kr kz (s13 _ _ et12) (s13 _ _ ekr12) (all_same s13 dr12), dd _ m2 kp kx upd_same (s13 _ _ ekp12) (all_same s13 dk12), ff, q _ (sH12.trans s13)⟩
end
section
variable {P : Program} {w : World} {K : PySem.W.Frag} {mg : Str → Option Value} {base : Heap}
def spLaw (K : PySem.W.Frag) : Sp := fun vs H Q _ => ∃ (a : Addr) (ns : List Int), vs = [.ref a] ∧ SqL K H a (ns.map V.int) ∧ ns.length ≤ 63 ∧ ∀ H', Q (.bl true) H'
/-- a value that is a shape -/
def IsSh (K : PySem.W.Frag) (H : Hp) (x : V) : Prop := ∃ t : Sh, Dp K H x (toD t) ∧ KeysOk t ∧ hgt t ≤ 62 ∧ cnt t ≤ 400
theorem IsSh.same {H H' : Hp} {x : V} (s : Same H H') (h : IsSh K H x) : IsSh K H' x := by
  obtain ⟨t, d, r⟩ := h
  exact ⟨t, dp_same s d, r⟩
theorem IsSh.tk {H H' : Hp} {x : V} (s : Tk H H') (h : IsSh K H x) : IsSh K H' x := by
  obtain ⟨t, d, ko, r⟩ := h
  exact ⟨t, dp_tk s d (KeysOk.tp t ko), ko, r⟩
theorem ok_law {f0 : Addr} {fd0 : FuncData} (F : Fun K "law" "law" s_law f0 fd0) 
     (C__law_store : Cal P w K mg base 1 "_law_store" P__law_store (spStore K)) (C__law_any_shape : Cal P w K mg base 13 "_law_any_shape" P__law_any_shape (spShape K)) (C__law_judged : Cal P w K mg base 65 "_law_judged" P__law_judged (spJudged K)) : FnOk P w K mg base CX0 66 f0 fd0 ["script"] (spLaw K) := by
  refine F.ok sc_law (fun vs H Q E h => ?_) (fun cdv A outer s H vs Q E hr h => ?_)
  · obtain ⟨a, ns, rfl, _⟩ := h
    rfl
  obtain ⟨a, ns, rfl, hS, hlen, q⟩ := h
  refine ⟨_, (pss_cons (ps_set (i := 1) sc_law.nd rfl (Or.inl rfl) (pe_cal C__law_store hr (pa_cons (pv 0) pa_nil)))
  (pss_cons (ps_set (i := 2) sc_law.nd rfl (Or.inl rfl) (pe_cal C__law_any_shape hr (pa_cons (pv 1) pa_nil)))
  (pss_cons (ps_set (i := 3) sc_law.nd rfl (Or.inl rfl) (pe_cal C__law_any_shape hr (pa_cons (pv 1) pa_nil)))
  (pss_cons (ps_set (i := 4) sc_law.nd rfl (Or.inl rfl) (pe_lst (pa_cons (pv 2) (pa_cons (pv 3) (pa_cons (pv 2) pa_nil)))))
  (pss_cons (ps_for PassesOwn.never rfl (pi_list (pe_lst (pa_cons (pv 2) (pa_cons (pv 3) pa_nil)))) (pg_name (i := 5) sc_law.nd rfl (Or.inl rfl)) (pss_one (ps_if (pt_cmpR (op_neD hr.units) (pv 5) (pe_tup pa_nil) (nomark _)) (pss_one (ps_set (i := 4) sc_law.nd rfl (Or.inl rfl) (pe_op op_cat (pv 4) (pe_lst (pa_cons (pe_ix ix_tup (pv 5) pe_int (fun _ _ => rfl)) (pa_cons (pe_ix ix_tup (pv 5) pe_int (fun _ _ => rfl)) pa_nil)))))) pss_nil)))
  (pss_cons (ps_for PassesOwn.never rfl (pi_list (pe_op op_cat (pv 4) (pe_lst (pa_cons (pv 3) pa_nil)))) (pg_name (i := 5) sc_law.nd rfl (Or.inl rfl)) (pss_one (ps_if (pt_not (pt_val (pe_cal C__law_judged hr (pa_cons (pv 5) pa_nil)))) (pss_one (ps_ret pe_bl)) pss_nil)))
  (pss_one (ps_ret pe_bl)))))))), ?_⟩
  refine Rd.at0 (σ := [some (.ref a), none, none, none, none, none]) rfl ?_
  repeat' (walk_at "rd")
  refine ⟨a, ns, rfl, hS, by omega, fun st c H1 s1 f1 o1 => ?_⟩
  repeat' (walk_at "rd")
  refine ⟨st, c, rfl, o1, fun v1 t1 H2 g2 d1 ko1 hh1 hc1 => ?_⟩
  repeat' (walk_at "rd")
  refine ⟨st, c, rfl, g2.ok, fun v2 t2 H3 g3 d2 ko2 hh2 hc2 => ?_⟩
  have i1 : IsSh K H3 v1 := ⟨t1, dp_tk (go_tk g2.ok g3) d1 (KeysOk.tp t1 ko1), ko1, hh1, hc1⟩
  have i2 : IsSh K H3 v2 := ⟨t2, d2, ko2, hh2, hc2⟩
  repeat' (walk_at "rd")
  intro L hL
  have sL := same_upd (o := .lst [v1, v2, v1]) hL
  have eL : (upd H3 L (.lst [v1, v2, v1])) L = some (.lst [v1, v2, v1]) := upd_same
  have i1' := i1.same sL
  have i2' := i2.same sL
  generalize upd H3 L (.lst [v1, v2, v1]) = G at *
  repeat' (walk_at "rd")
  intro M hM
  have sM := same_upd (o := .lst [v1, v2]) hM
  have eM : (upd G M (.lst [v1, v2])) M = some (.lst [v1, v2]) := upd_same
  have eL' := sM _ _ eL
  have i1'' := i1'.same sM
  have i2'' := i2'.same sM
  generalize upd G M (.lst [v1, v2]) = G2 at *
  repeat' (walk_at "rd")
  refine forL [v1, v2] (fun i σ H' => ∃ (A : Addr) (xs : List V) (v5 : Option V), σ = [some (.ref a), some (.ref st), some v1, some v2, some (.ref A), v5] ∧ Same G2 H' ∧ H' A = some (.lst xs) ∧ (∀ x ∈ xs, IsSh K H' x) ∧ xs.length ≤ 3 + 2 * i)
    ⟨L, [v1, v2, v1], none, rfl, .refl _, eL', (fun x hx => ?_), Nat.le_refl _⟩ (fun _ _ _ _ ⟨_, _, _, _, z, _⟩ => z.seq (.inl (.inl eM))) ?_ ?_
  · rcases List.mem_cons.mp hx with rfl | hx
    · exact i1''
    rcases List.mem_cons.mp hx with rfl | hx
    · exact i2''
    rw [List.mem_singleton.mp hx]
    exact i1''
  · rintro i x σ H' hx ⟨A, xs, v5, rfl, sg, eA, hxs, lx⟩
    have hi : i < 2 := (List.getElem?_eq_some_iff.mp hx).1
    have ix : IsSh K H' x := by
      match i, hx with
      | 0, hx =>
        obtain rfl : v1 = x := Option.some.inj hx
        exact i1''.same sg
      | 1, hx =>
        obtain rfl : v2 = x := Option.some.inj hx
        exact i2''.same sg
    obtain ⟨t, dt, kt, ht, ct⟩ := ix
    cases t with
    | nil =>
      repeat' (walk_at "rd")
      intro e he
      have s1 := same_upd (o := .tup []) he
      refine ⟨_, _, dp_same s1 dt, .tup (.inl (.inl upd_same)) .nil, sh_shaped kt (by omega), nil_shaped, ?_⟩
      rw [eqv_nil]
      repeat' (walk_at "rd")
      exact ⟨A, xs, _, rfl, sg.trans s1, s1 _ _ eA, fun y hy => (hxs y hy).same s1, by omega⟩
    | node l k r =>
      obtain ⟨k1, ⟨ks, rfl, oz⟩, k2⟩ := keysOk_inv kt
      rw [hgt_node] at ht
      rw [cnt_node] at ct
      repeat' (walk_at "rd")
      intro e he
      have s1 := same_upd (o := .tup []) he
      refine ⟨_, _, dp_same s1 dt, .tup (.inl (.inl upd_same)) .nil, sh_shaped kt (by rw [hgt_node]; omega), nil_shaped, ?_⟩
      rw [eqv_node]
      have dte := dp_same s1 dt
      have eAe := s1 _ _ eA
      have hxe : ∀ y ∈ xs, IsSh K (upd H' e (.tup [])) y := fun y hy => (hxs y hy).same s1
      have sge := sg.trans s1
      generalize upd H' e (.tup []) = G3 at *
      obtain ⟨b, x1, y1, z1, rfl, hb, dx, dy, dz⟩ := dp_node dte
      repeat' (walk_at "rd")
      intro B hB
      have s2 := same_upd (o := .lst [x1, z1]) hB
      refine cat (s2 _ _ eAe) upd_same (sz5 (by show xs.length + 2 ≤ 100000; omega)) fun C hC => ?_
      have s3 := same_upd (o := .lst (xs ++ [x1, z1])) hC
      have s23 := s2.trans s3
      repeat' (walk_at "rd")
      refine ⟨C, xs ++ [x1, z1], _, rfl, sge.trans s23, upd_same, fun y hy => ?_, by rw [List.length_append]; show xs.length + 2 ≤ _; omega⟩
      rcases List.mem_append.mp hy with hy | hy
      · exact (hxe y hy).same s23
      rcases List.mem_cons.mp hy with rfl | hy
      · exact ⟨l, dp_same s23 dx, k1, by omega, by omega⟩
      rw [List.mem_singleton.mp hy]
      exact ⟨r, dp_same s23 dz, k2, by omega, by omega⟩
  rintro σ H' ⟨A, xs, v5, rfl, sg, eA, hxs, lx⟩
  have lx : xs.length ≤ 7 := lx
  repeat' (walk_at "rd")
  intro B hB
  have s2 := same_upd (o := .lst [v2]) hB
  refine cat (s2 _ _ eA) upd_same (sz5 (by show xs.length + 1 ≤ 100000; omega)) fun C hC => ?_
  have s3 := same_upd (o := .lst (xs ++ [v2])) hC
  have s23 := s2.trans s3
  have eC : (upd (upd H' B (.lst [v2])) C (.lst (xs ++ [v2]))) C = some (.lst (xs ++ [v2])) := upd_same
  have hxc : ∀ y ∈ xs ++ [v2], IsSh K (upd (upd H' B (.lst [v2])) C (.lst (xs ++ [v2]))) y := fun y hy => by
    rcases List.mem_append.mp hy with hy | hy
    · exact (hxs y hy).same s23
    rw [List.mem_singleton.mp hy]
    exact i2''.same (sg.trans s23)
  generalize upd (upd H' B (.lst [v2])) C (.lst (xs ++ [v2])) = G4 at *
  repeat' (walk_at "rd")
  refine forL (xs ++ [v2]) (fun i σ H1 => ∃ v5 : Option V, σ = [some (.ref a), some (.ref st), some v1, some v2, some (.ref A), v5] ∧ Same G4 H1) ⟨v5, rfl, .refl _⟩ (fun _ _ _ _ ⟨_, _, z⟩ => z.seq (.inl (.inl eC))) ?_ ?_
  · rintro i x σ H1 hx ⟨v5, rfl, s4⟩
    obtain ⟨t, dt, kt, ht, ct⟩ := (hxc x (List.mem_of_getElem? hx)).same s4
    repeat' (walk_at "rd")
    refine ⟨x, t, rfl, dt, kt, ht, ct, fun H2 s5 => ?_⟩
    repeat' (walk_at "rd")
    exact ⟨_, rfl, s4.trans s5⟩
  · rintro σ H1 ⟨v5, rfl, s4⟩
    repeat' (walk_at "rd")
    exact q H1
end
/-! ### the top -/
theorem bd_is_balanced : ∀ (kV doc pm : Value) (an : Option Addr) (cdv ct : Value) (us : List Value), us.length = P_is_balanced.length → bindArgs (PySem.W.fnOf "is_balanced" "is_balanced" (defArgs s_is_balanced) (defBody s_is_balanced) (defScope s_is_balanced) .none kV doc pm an cdv ct) ⟨us, []⟩ = pure (P_is_balanced.zip us) := fun _ _ _ _ _ _ us hl => match us, hl with | [_], _ => rfl
theorem bd_shape_height : ∀ (kV doc pm : Value) (an : Option Addr) (cdv ct : Value) (us : List Value), us.length = P_shape_height.length → bindArgs (PySem.W.fnOf "shape_height" "shape_height" (defArgs s_shape_height) (defBody s_shape_height) (defScope s_shape_height) .none kV doc pm an cdv ct) ⟨us, []⟩ = pure (P_shape_height.zip us) := fun _ _ _ _ _ _ us hl => match us, hl with | [_], _ => rfl
theorem bd_measure : ∀ (kV doc pm : Value) (an : Option Addr) (cdv ct : Value) (us : List Value), us.length = P_measure.length → bindArgs (PySem.W.fnOf "measure" "measure" (defArgs s_measure) (defBody s_measure) (defScope s_measure) .none kV doc pm an cdv ct) ⟨us, []⟩ = pure (P_measure.zip us) := fun _ _ _ _ _ _ us hl => match us, hl with | [_], _ => rfl
theorem bd_shape_keys : ∀ (kV doc pm : Value) (an : Option Addr) (cdv ct : Value) (us : List Value), us.length = P_shape_keys.length → bindArgs (PySem.W.fnOf "shape_keys" "shape_keys" (defArgs s_shape_keys) (defBody s_shape_keys) (defScope s_shape_keys) .none kV doc pm an cdv ct) ⟨us, []⟩ = pure (P_shape_keys.zip us) := fun _ _ _ _ _ _ us hl => match us, hl with | [_], _ => rfl
theorem bd__law_store : ∀ (kV doc pm : Value) (an : Option Addr) (cdv ct : Value) (us : List Value), us.length = P__law_store.length → bindArgs (PySem.W.fnOf "_law_store" "_law_store" (defArgs s__law_store) (defBody s__law_store) (defScope s__law_store) .none kV doc pm an cdv ct) ⟨us, []⟩ = pure (P__law_store.zip us) := fun _ _ _ _ _ _ us hl => match us, hl with | [_], _ => rfl
theorem bd__law_take : ∀ (kV doc pm : Value) (an : Option Addr) (cdv ct : Value) (us : List Value), us.length = P__law_take.length → bindArgs (PySem.W.fnOf "_law_take" "_law_take" (defArgs s__law_take) (defBody s__law_take) (defScope s__law_take) .none kV doc pm an cdv ct) ⟨us, []⟩ = pure (P__law_take.zip us) := fun _ _ _ _ _ _ us hl => match us, hl with | [_, _], _ => rfl
theorem bd__law_between : ∀ (kV doc pm : Value) (an : Option Addr) (cdv ct : Value) (us : List Value), us.length = P__law_between.length → bindArgs (PySem.W.fnOf "_law_between" "_law_between" (defArgs s__law_between) (defBody s__law_between) (defScope s__law_between) .none kV doc pm an cdv ct) ⟨us, []⟩ = pure (P__law_between.zip us) := fun _ _ _ _ _ _ us hl => match us, hl with | [_, _, _], _ => rfl
theorem bd__law_is_integer : ∀ (kV doc pm : Value) (an : Option Addr) (cdv ct : Value) (us : List Value), us.length = P__law_is_integer.length → bindArgs (PySem.W.fnOf "_law_is_integer" "_law_is_integer" (defArgs s__law_is_integer) (defBody s__law_is_integer) (defScope s__law_is_integer) .none kV doc pm an cdv ct) ⟨us, []⟩ = pure (P__law_is_integer.zip us) := fun _ _ _ _ _ _ us hl => match us, hl with | [_], _ => rfl
theorem bd__law_same : ∀ (kV doc pm : Value) (an : Option Addr) (cdv ct : Value) (us : List Value), us.length = P__law_same.length → bindArgs (PySem.W.fnOf "_law_same" "_law_same" (defArgs s__law_same) (defBody s__law_same) (defScope s__law_same) .none kV doc pm an cdv ct) ⟨us, []⟩ = pure (P__law_same.zip us) := fun _ _ _ _ _ _ us hl => match us, hl with | [_, _], _ => rfl
theorem bd__law_name : ∀ (kV doc pm : Value) (an : Option Addr) (cdv ct : Value) (us : List Value), us.length = P__law_name.length → bindArgs (PySem.W.fnOf "_law_name" "_law_name" (defArgs s__law_name) (defBody s__law_name) (defScope s__law_name) .none kV doc pm an cdv ct) ⟨us, []⟩ = pure (P__law_name.zip us) := fun _ _ _ _ _ _ us hl => match us, hl with | [_], _ => rfl
theorem bd__law_key : ∀ (kV doc pm : Value) (an : Option Addr) (cdv ct : Value) (us : List Value), us.length = P__law_key.length → bindArgs (PySem.W.fnOf "_law_key" "_law_key" (defArgs s__law_key) (defBody s__law_key) (defScope s__law_key) .none kV doc pm an cdv ct) ⟨us, []⟩ = pure (P__law_key.zip us) := fun _ _ _ _ _ _ us hl => match us, hl with | [_, _], _ => rfl
theorem bd__law_balanced : ∀ (kV doc pm : Value) (an : Option Addr) (cdv ct : Value) (us : List Value), us.length = P__law_balanced.length → bindArgs (PySem.W.fnOf "_law_balanced" "_law_balanced" (defArgs s__law_balanced) (defBody s__law_balanced) (defScope s__law_balanced) .none kV doc pm an cdv ct) ⟨us, []⟩ = pure (P__law_balanced.zip us) := fun _ _ _ _ _ _ us hl => match us, hl with | [_, _, _], _ => rfl
theorem bd__law_least_shape : ∀ (kV doc pm : Value) (an : Option Addr) (cdv ct : Value) (us : List Value), us.length = P__law_least_shape.length → bindArgs (PySem.W.fnOf "_law_least_shape" "_law_least_shape" (defArgs s__law_least_shape) (defBody s__law_least_shape) (defScope s__law_least_shape) .none kV doc pm an cdv ct) ⟨us, []⟩ = pure (P__law_least_shape.zip us) := fun _ _ _ _ _ _ us hl => match us, hl with | [_, _], _ => rfl
theorem bd__law_chain : ∀ (kV doc pm : Value) (an : Option Addr) (cdv ct : Value) (us : List Value), us.length = P__law_chain.length → bindArgs (PySem.W.fnOf "_law_chain" "_law_chain" (defArgs s__law_chain) (defBody s__law_chain) (defScope s__law_chain) .none kV doc pm an cdv ct) ⟨us, []⟩ = pure (P__law_chain.zip us) := fun _ _ _ _ _ _ us hl => match us, hl with | [_, _], _ => rfl
theorem bd__law_shape : ∀ (kV doc pm : Value) (an : Option Addr) (cdv ct : Value) (us : List Value), us.length = P__law_shape.length → bindArgs (PySem.W.fnOf "_law_shape" "_law_shape" (defArgs s__law_shape) (defBody s__law_shape) (defScope s__law_shape) .none kV doc pm an cdv ct) ⟨us, []⟩ = pure (P__law_shape.zip us) := fun _ _ _ _ _ _ us hl => match us, hl with | [_], _ => rfl
theorem bd__law_bent_shape : ∀ (kV doc pm : Value) (an : Option Addr) (cdv ct : Value) (us : List Value), us.length = P__law_bent_shape.length → bindArgs (PySem.W.fnOf "_law_bent_shape" "_law_bent_shape" (defArgs s__law_bent_shape) (defBody s__law_bent_shape) (defScope s__law_bent_shape) .none kV doc pm an cdv ct) ⟨us, []⟩ = pure (P__law_bent_shape.zip us) := fun _ _ _ _ _ _ us hl => match us, hl with | [_, _], _ => rfl
theorem bd__law_measured : ∀ (kV doc pm : Value) (an : Option Addr) (cdv ct : Value) (us : List Value), us.length = P__law_measured.length → bindArgs (PySem.W.fnOf "_law_measured" "_law_measured" (defArgs s__law_measured) (defBody s__law_measured) (defScope s__law_measured) .none kV doc pm an cdv ct) ⟨us, []⟩ = pure (P__law_measured.zip us) := fun _ _ _ _ _ _ us hl => match us, hl with | [_], _ => rfl
theorem bd__law_even : ∀ (kV doc pm : Value) (an : Option Addr) (cdv ct : Value) (us : List Value), us.length = P__law_even.length → bindArgs (PySem.W.fnOf "_law_even" "_law_even" (defArgs s__law_even) (defBody s__law_even) (defScope s__law_even) .none kV doc pm an cdv ct) ⟨us, []⟩ = pure (P__law_even.zip us) := fun _ _ _ _ _ _ us hl => match us, hl with | [_], _ => rfl
theorem bd__law_plain_keys : ∀ (kV doc pm : Value) (an : Option Addr) (cdv ct : Value) (us : List Value), us.length = P__law_plain_keys.length → bindArgs (PySem.W.fnOf "_law_plain_keys" "_law_plain_keys" (defArgs s__law_plain_keys) (defBody s__law_plain_keys) (defScope s__law_plain_keys) .none kV doc pm an cdv ct) ⟨us, []⟩ = pure (P__law_plain_keys.zip us) := fun _ _ _ _ _ _ us hl => match us, hl with | [_, _], _ => rfl
theorem bd__law_spine : ∀ (kV doc pm : Value) (an : Option Addr) (cdv ct : Value) (us : List Value), us.length = P__law_spine.length → bindArgs (PySem.W.fnOf "_law_spine" "_law_spine" (defArgs s__law_spine) (defBody s__law_spine) (defScope s__law_spine) .none kV doc pm an cdv ct) ⟨us, []⟩ = pure (P__law_spine.zip us) := fun _ _ _ _ _ _ us hl => match us, hl with | [_], _ => rfl
theorem bd__law_any_shape : ∀ (kV doc pm : Value) (an : Option Addr) (cdv ct : Value) (us : List Value), us.length = P__law_any_shape.length → bindArgs (PySem.W.fnOf "_law_any_shape" "_law_any_shape" (defArgs s__law_any_shape) (defBody s__law_any_shape) (defScope s__law_any_shape) .none kV doc pm an cdv ct) ⟨us, []⟩ = pure (P__law_any_shape.zip us) := fun _ _ _ _ _ _ us hl => match us, hl with | [_], _ => rfl
theorem bd__law_judged : ∀ (kV doc pm : Value) (an : Option Addr) (cdv ct : Value) (us : List Value), us.length = P__law_judged.length → bindArgs (PySem.W.fnOf "_law_judged" "_law_judged" (defArgs s__law_judged) (defBody s__law_judged) (defScope s__law_judged) .none kV doc pm an cdv ct) ⟨us, []⟩ = pure (P__law_judged.zip us) := fun _ _ _ _ _ _ us hl => match us, hl with | [_], _ => rfl
theorem bd_law : ∀ (kV doc pm : Value) (an : Option Addr) (cdv ct : Value) (us : List Value), us.length = P_law.length → bindArgs (PySem.W.fnOf "law" "law" (defArgs s_law) (defBody s_law) (defScope s_law) .none kV doc pm an cdv ct) ⟨us, []⟩ = pure (P_law.zip us) := fun _ _ _ _ _ _ us hl => match us, hl with | [_], _ => rfl
theorem all_mk {l : PySem.W.OpenLaw} {w : World} {K : PySem.W.Frag} {h : Heap} {mg : Str → Option Value} {fa f0 : Addr} (X : K.In h) (G : h.Ns mainGlobals mg) (hfa : mg "law" = some (.ref fa))
    (D_is_balanced : Def K mg "is_balanced" s_is_balanced P_is_balanced) (D_shape_height : Def K mg "shape_height" s_shape_height P_shape_height) (D_measure : Def K mg "measure" s_measure P_measure) (D_shape_keys : Def K mg "shape_keys" s_shape_keys P_shape_keys) (D__law_store : Def K mg "_law_store" s__law_store P__law_store) (D__law_take : Def K mg "_law_take" s__law_take P__law_take) (D__law_between : Def K mg "_law_between" s__law_between P__law_between) (D__law_is_integer : Def K mg "_law_is_integer" s__law_is_integer P__law_is_integer) (D__law_same : Def K mg "_law_same" s__law_same P__law_same) (D__law_name : Def K mg "_law_name" s__law_name P__law_name) (D__law_key : Def K mg "_law_key" s__law_key P__law_key) (D__law_balanced : Def K mg "_law_balanced" s__law_balanced P__law_balanced) (D__law_least_shape : Def K mg "_law_least_shape" s__law_least_shape P__law_least_shape) (D__law_chain : Def K mg "_law_chain" s__law_chain P__law_chain) (D__law_shape : Def K mg "_law_shape" s__law_shape P__law_shape) (D__law_bent_shape : Def K mg "_law_bent_shape" s__law_bent_shape P__law_bent_shape) (D__law_measured : Def K mg "_law_measured" s__law_measured P__law_measured) (D__law_even : Def K mg "_law_even" s__law_even P__law_even) (D__law_plain_keys : Def K mg "_law_plain_keys" s__law_plain_keys P__law_plain_keys) (D__law_spine : Def K mg "_law_spine" s__law_spine P__law_spine) (D__law_any_shape : Def K mg "_law_any_shape" s__law_any_shape P__law_any_shape) (D__law_judged : Def K mg "_law_judged" s__law_judged P__law_judged)
    {od an : Option Addr} {sl : Array (Option Value)} {oc kV dc pm cd ct : Value} (aL : PySem.W.nsIn K mainGlobals "law" = some (some (.ref f0)))
    (lL : K.lookup f0 = some ⟨oc, od, .func (PySem.W.fnOf "law" "law" (defArgs s_law) (defBody s_law) (defScope s_law) .none kV dc pm an cd ct), sl⟩) (cL : PySem.W.codeIn K cd "law" = true) (kL : PySem.W.keepIn K (.ref f0) = true)
    (m_len : mg "len" = none) (m_max : mg "max" = none) (m_list : mg "list" = none) (m_int : mg "int" = none) (m_isinstance : mg "isinstance" = none) (m_bool : mg "bool" = none) (m_str : mg "str" = none) (m_dict : mg "dict" = none) (m_tuple : mg "tuple" = none) (m_range : mg "range" = none) (m_abs : mg "abs" = none) :
    ∃ fd : FuncData, (∀ (s : Shared) (v : Value), BindsTo s fd ⟨[v], []⟩ [("script", v)]) ∧ ∀ base : Heap, K.In base → base.Ns mainGlobals mg → FnOk l.prog w K mg base CX0 66 fa fd ["script"] (spLaw K) := by
  have e := hfa.symm.trans (PySem.W.mg_of X G aL)
  cases e
  have FL := fun_mk (st := s_law) lL cL kL
  refine ⟨PySem.W.fnOf "law" "law" (defArgs s_law) (defBody s_law) (defScope s_law) .none kV dc pm an cd ct, fun s v => .of_eq rfl, fun base _ _ => ?_⟩
  have C__law_take := ok__law_take (P := l.prog) (w := w) (base := base) D__law_take m_int m_len
  have C__law_between := ok__law_between (P := l.prog) (w := w) (base := base) D__law_between C__law_take
  have C__law_store := ok__law_store (P := l.prog) (w := w) (base := base) D__law_store m_list m_len m_int
  have C__law_name := ok__law_name (P := l.prog) (w := w) (base := base) D__law_name m_range C__law_take C__law_between
  have C__law_key := ok__law_key (P := l.prog) (w := w) (base := base) D__law_key m_range m_str m_tuple C__law_take C__law_between C__law_name
  have C__law_same := ok__law_same (P := l.prog) (w := w) (base := base) D__law_same m_isinstance m_bool m_int m_str m_dict m_len m_list m_tuple m_range
  have C_measure := ok_measure (P := l.prog) (w := w) (base := base) D_measure m_len m_max 63
  have C_is_balanced := ok_is_balanced D_is_balanced  C_measure
  have C_shape_height := ok_shape_height D_shape_height  C_measure
  have C_shape_keys := ok_shape_keys (P := l.prog) (w := w) (base := base) D_shape_keys m_len 63
  have C__law_balanced := ok__law_balanced (P := l.prog) (w := w) (base := base) D__law_balanced m_int m_len C__law_take C__law_key 7
  have C__law_least_shape := ok__law_least_shape (P := l.prog) (w := w) (base := base) D__law_least_shape  10
  have C__law_measured := ok__law_measured (P := l.prog) (w := w) (base := base) D__law_measured m_range m_len m_max m_abs m_isinstance m_tuple
  have C__law_chain := ok__law_chain (P := l.prog) (w := w) (base := base) D__law_chain m_range m_int C__law_take C__law_key
  have C__law_even := ok__law_even (P := l.prog) (w := w) (base := base) D__law_even m_len
  have C__law_plain_keys := ok__law_plain_keys (P := l.prog) (w := w) (base := base) D__law_plain_keys m_list m_range m_tuple m_str m_int C__law_take C__law_key
  have C__law_spine := ok__law_spine (P := l.prog) (w := w) (base := base) D__law_spine m_range m_str C__law_take C__law_between C__law_plain_keys (C__law_even 4)
  have C__law_bent_shape := ok__law_bent_shape (P := l.prog) (w := w) (base := base) D__law_bent_shape m_range m_len C__law_take
  have C__law_shape := ok__law_shape (P := l.prog) (w := w) (base := base) D__law_shape C__law_take C__law_between C__law_key C__law_chain C__law_bent_shape C__law_balanced C__law_least_shape
  have C__law_any_shape := ok__law_any_shape (P := l.prog) (w := w) (base := base) D__law_any_shape C__law_take C__law_between C__law_shape C__law_bent_shape C__law_plain_keys C__law_spine (C__law_even 10)
  have C__law_judged := ok__law_judged (P := l.prog) (w := w) (base := base) D__law_judged C__law_measured (C__law_same 4) C_shape_height C_is_balanced C_shape_keys
  exact ok_law FL  C__law_store C__law_any_shape C__law_judged
end Kj
open PySem PySem.W PyProof.Rows
set_option maxHeartbeats 0 in
theorem PySem.Challenge.cw_keptjoined_k16_shapes_judged_holds : PySem.Challenge.rw_keptjoined_k16_shapes_judged.Holds := by
  w_on; o_law; k_head; (case hw => w_witness2)
  k_fill
  refine L2.walk_of (l := PySem.Challenge.rw_keptjoined_k16_shapes_judged) (n := 63) (k := 66) (x := "script") (CX := fun _ => L2.CX0) (sp := fun w => Kj.spLaw _) rfl (by decide) rfl ⟨rfl, by decide, by decide⟩ (fun w h Y => PySem.W.kIn_of Y) ?F (fun _ _ a ns hl _ hS => ⟨a, ns, rfl, hS, hl, fun _ => rfl⟩) (fun _ _ _ _ _ h => h)
  case F =>
    intro w mg fa h KX G hmg
    refine' Kj.all_mk KX G hmg (Rd.def_mk KX G ?a0 ?l0 ?c0 ?k0 Kj.bd_is_balanced) (Rd.def_mk KX G ?a1 ?l1 ?c1 ?k1 Kj.bd_shape_height) (Rd.def_mk KX G ?a2 ?l2 ?c2 ?k2 Kj.bd_measure) (Rd.def_mk KX G ?a3 ?l3 ?c3 ?k3 Kj.bd_shape_keys) (Rd.def_mk KX G ?a4 ?l4 ?c4 ?k4 Kj.bd__law_store) (Rd.def_mk KX G ?a5 ?l5 ?c5 ?k5 Kj.bd__law_take) (Rd.def_mk KX G ?a6 ?l6 ?c6 ?k6 Kj.bd__law_between) (Rd.def_mk KX G ?a7 ?l7 ?c7 ?k7 Kj.bd__law_is_integer) (Rd.def_mk KX G ?a8 ?l8 ?c8 ?k8 Kj.bd__law_same) (Rd.def_mk KX G ?a9 ?l9 ?c9 ?k9 Kj.bd__law_name) (Rd.def_mk KX G ?a10 ?l10 ?c10 ?k10 Kj.bd__law_key) (Rd.def_mk KX G ?a11 ?l11 ?c11 ?k11 Kj.bd__law_balanced) (Rd.def_mk KX G ?a12 ?l12 ?c12 ?k12 Kj.bd__law_least_shape) (Rd.def_mk KX G ?a13 ?l13 ?c13 ?k13 Kj.bd__law_chain) (Rd.def_mk KX G ?a14 ?l14 ?c14 ?k14 Kj.bd__law_shape) (Rd.def_mk KX G ?a15 ?l15 ?c15 ?k15 Kj.bd__law_bent_shape) (Rd.def_mk KX G ?a16 ?l16 ?c16 ?k16 Kj.bd__law_measured) (Rd.def_mk KX G ?a17 ?l17 ?c17 ?k17 Kj.bd__law_even) (Rd.def_mk KX G ?a18 ?l18 ?c18 ?k18 Kj.bd__law_plain_keys) (Rd.def_mk KX G ?a19 ?l19 ?c19 ?k19 Kj.bd__law_spine) (Rd.def_mk KX G ?a20 ?l20 ?c20 ?k20 Kj.bd__law_any_shape) (Rd.def_mk KX G ?a21 ?l21 ?c21 ?k21 Kj.bd__law_judged) ?aL ?lL ?cL ?kL (PySem.W.mg_none_of KX G ?z0) (PySem.W.mg_none_of KX G ?z1) (PySem.W.mg_none_of KX G ?z2) (PySem.W.mg_none_of KX G ?z3) (PySem.W.mg_none_of KX G ?z4) (PySem.W.mg_none_of KX G ?z5) (PySem.W.mg_none_of KX G ?z6) (PySem.W.mg_none_of KX G ?z7) (PySem.W.mg_none_of KX G ?z8) (PySem.W.mg_none_of KX G ?z9) (PySem.W.mg_none_of KX G ?z10)
    (case a0 => k_is); (case l0 => k_is); (case c0 => k_is); (case k0 => k_is); (case a1 => k_is); (case l1 => k_is); (case c1 => k_is); (case k1 => k_is); (case a2 => k_is); (case l2 => k_is); (case c2 => k_is); (case k2 => k_is); (case a3 => k_is); (case l3 => k_is); (case c3 => k_is); (case k3 => k_is); (case a4 => k_is); (case l4 => k_is); (case c4 => k_is); (case k4 => k_is); (case a5 => k_is); (case l5 => k_is); (case c5 => k_is); (case k5 => k_is); (case a6 => k_is); (case l6 => k_is); (case c6 => k_is); (case k6 => k_is); (case a7 => k_is); (case l7 => k_is); (case c7 => k_is); (case k7 => k_is); (case a8 => k_is); (case l8 => k_is); (case c8 => k_is); (case k8 => k_is); (case a9 => k_is); (case l9 => k_is); (case c9 => k_is); (case k9 => k_is); (case a10 => k_is); (case l10 => k_is); (case c10 => k_is); (case k10 => k_is); (case a11 => k_is); (case l11 => k_is); (case c11 => k_is); (case k11 => k_is); (case a12 => k_is); (case l12 => k_is); (case c12 => k_is); (case k12 => k_is); (case a13 => k_is); (case l13 => k_is); (case c13 => k_is); (case k13 => k_is); (case a14 => k_is); (case l14 => k_is); (case c14 => k_is); (case k14 => k_is); (case a15 => k_is); (case l15 => k_is); (case c15 => k_is); (case k15 => k_is); (case a16 => k_is); (case l16 => k_is); (case c16 => k_is); (case k16 => k_is); (case a17 => k_is); (case l17 => k_is); (case c17 => k_is); (case k17 => k_is); (case a18 => k_is); (case l18 => k_is); (case c18 => k_is); (case k18 => k_is); (case a19 => k_is); (case l19 => k_is); (case c19 => k_is); (case k19 => k_is); (case a20 => k_is); (case l20 => k_is); (case c20 => k_is); (case k20 => k_is); (case a21 => k_is); (case l21 => k_is); (case c21 => k_is); (case k21 => k_is); (case aL => k_is); (case lL => k_is); (case cL => k_is); (case kL => k_is); (case z0 => k_is); (case z1 => k_is); (case z2 => k_is); (case z3 => k_is); (case z4 => k_is); (case z5 => k_is); (case z6 => k_is); (case z7 => k_is); (case z8 => k_is); (case z9 => k_is); (case z10 => k_is)
