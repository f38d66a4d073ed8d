import PyProof.Rows.All
import Wide.All
import OpenK.AllK
import Wide.FinOn
import HandS.ForExc
import HandS.Comp
import HandS.Evl
import HandS.Wide
import HandS.WideBits
import HandS.Gcd
import HandS.IsInst
import HandS.RevRange
import HandS.Conv
import HandS.TupAny
import HandS.SetFor
import HandS.Flow
import KE.DataCmp
import KE.SortData
import HandS.ExcInit
import HandS.ExcValue
import HandS.ExcIs
import HandS.ExcField
import KE.KExcIs
import HandS.WordsExc
import HandS.ExcCtx
import HandS.SuiteRaise
import KE.KDictKeyed
import KE.KeyNested
import HandS.TupSets
import HandS.Deep
import KE.KDictSum
import PyProof.Transfer
import KE.KDictCopyH
import HandS.Style
import HandS.TupMul
import HandS.Iter
import HandS.SetKeys
import HandS.SetBool
import HandS.Strs
import PyProof.ReprRoads
import PyProof.ReprLen
import HandS.Zip
import HandS.NoneIn
import HandS.Text
import HandS.FStr
import HandS.StrMore
import HandS.CallLocal
import PyProof.TupleIter
import HandS.Hot
import HandS.More
import HandS.EndBits
import PySem.Challenge.RW_selfkits_k53_whole_lines_bent
set_option Elab.async false
set_option linter.all false
set_option maxRecDepth 100000
set_option maxHeartbeats 2000000
namespace Sk
open PySem PySem.Spec PyProof.Rows L2
abbrev St := L2.St
open Evl (Ex ex_l ex_t)

/-! ### data in a heap that grows -/
mutual
theorem dp_ex {K : PySem.W.Frag} {H H' : Hp} (e : Ex H H') : ∀ (d : PyData) (v : V), Dp K H v d → Dp K H' v d
  | .none, _, h => by cases h; exact .non
  | .bool b, _, h => by cases h; exact .bl b
  | .int i, _, h => by cases h; exact .int i
  | .str x, _, h => by cases h; exact .str x
  | .list ds, _, h => by
    cases h with
    | lst hs ha => exact .lst (ex_l e hs) (dpa_ex e ds _ ha)
  | .tuple ds, _, h => by
    cases h with
    | tup hs ha => exact .tup (ex_t e hs) (dpa_ex e ds _ ha)
  | .dict _, _, h => by cases h
theorem dpa_ex {K : PySem.W.Frag} {H H' : Hp} (e : Ex H H') : ∀ (ds : List PyData) (vs : List V), DpAll K H vs ds → DpAll K H' vs ds
  | [], _, h => by cases h; exact .nil
  | d :: ds, _, h => by
    cases h with
    | cons h1 h2 => exact .cons (dp_ex e d _ h1) (dpa_ex e ds _ h2)
end
section
variable {K : PySem.W.Frag} {H H' : Hp} {v : V} {d : PyData} {ds : List PyData} {vs : List V} {p : Addr} {o : HO}
theorem Dp.up (e : Ex H H') (h : Dp K H v d) : Dp K H' v d := dp_ex e d v h
theorem DpAll.up (e : Ex H H') (h : DpAll K H vs ds) : DpAll K H' vs ds := dpa_ex e ds vs h
theorem dpa_len : ∀ {vs : List V} {ds : List PyData}, DpAll K H vs ds → vs.length = ds.length
  | _, _, .nil => rfl
  | _, _, .cons _ t => by rw [List.length_cons, List.length_cons, dpa_len t]
end
/-- a tuple without a dict of its own -/
def Pl (K : PySem.W.Frag) (H : Hp) (a : Addr) : Prop := (∃ o u, H a = some (.frz o u) ∧ o.dict = none) ∨ (∃ o, K.lookup a = some o ∧ o.dict = none)
def TupAt (K : PySem.W.Frag) (H : Hp) (a : Addr) (xs : List V) : Prop := SqT K H a xs ∧ Pl K H a
theorem TupAt.up {K : PySem.W.Frag} {H H' : Hp} {a : Addr} {xs : List V} (e : Ex H H') (h : TupAt K H a xs) : TupAt K H' a xs := by
  obtain ⟨h1, h2⟩ := h
  refine ⟨ex_t e h1, ?_⟩
  rcases h2 with ⟨o, u, q, r⟩ | q
  · exact .inl ⟨o, u, e _ _ q, r⟩
  · exact .inr q
mutual
inductive Dq (K : PySem.W.Frag) (H : Hp) : V → PyData → Prop
  | non : Dq K H .non .none
  | bl (b : Bool) : Dq K H (.bl b) (.bool b)
  | int (i : Int) : Dq K H (.int i) (.int i)
  | str (x : Str) : Dq K H (.str x) (.str x)
  | lst {a : Addr} {xs : List V} {ds : List PyData} : SqL K H a xs → DqAll K H xs ds → Dq K H (.ref a) (.list ds)
  | tup {a : Addr} {xs : List V} {ds : List PyData} : TupAt K H a xs → DqAll K H xs ds → Dq K H (.ref a) (.tuple ds)
inductive DqAll (K : PySem.W.Frag) (H : Hp) : List V → List PyData → Prop
  | nil : DqAll K H [] []
  | cons {v : V} {vs : List V} {d : PyData} {ds : List PyData} : Dq K H v d → DqAll K H vs ds → DqAll K H (v :: vs) (d :: ds)
end
mutual
theorem dq_ex {K : PySem.W.Frag} {H H' : Hp} (e : Ex H H') : ∀ (d : PyData) (v : V), Dq K H v d → Dq K H' v d
  | .none, _, h => by cases h; exact .non
  | .bool b, _, h => by cases h; exact .bl b
  | .int i, _, h => by cases h; exact .int i
  | .str x, _, h => by cases h; exact .str x
  | .list ds, _, h => by
    cases h with
    | lst hs ha => exact .lst (ex_l e hs) (dqa_ex e ds _ ha)
  | .tuple ds, _, h => by
    cases h with
    | tup hs ha => exact .tup (hs.up e) (dqa_ex e ds _ ha)
  | .dict _, _, h => by cases h
theorem dqa_ex {K : PySem.W.Frag} {H H' : Hp} (e : Ex H H') : ∀ (ds : List PyData) (vs : List V), DqAll K H vs ds → DqAll K H' vs ds
  | [], _, h => by cases h; exact .nil
  | d :: ds, _, h => by
    cases h with
    | cons h1 h2 => exact .cons (dq_ex e d _ h1) (dqa_ex e ds _ h2)
end
mutual
theorem dq_dp {K : PySem.W.Frag} {H : Hp} : ∀ (d : PyData) (v : V), Dq K H v d → Dp K H v d
  | .none, _, h => by cases h; exact .non
  | .bool b, _, h => by cases h; exact .bl b
  | .int i, _, h => by cases h; exact .int i
  | .str x, _, h => by cases h; exact .str x
  | .list ds, _, h => by
    cases h with
    | lst hs ha => exact .lst hs (dqa_dpa ds _ ha)
  | .tuple ds, _, h => by
    cases h with
    | tup hs ha => exact .tup hs.1 (dqa_dpa ds _ ha)
  | .dict _, _, h => by cases h
theorem dqa_dpa {K : PySem.W.Frag} {H : Hp} : ∀ (ds : List PyData) (vs : List V), DqAll K H vs ds → DpAll K H vs ds
  | [], _, h => by cases h; exact .nil
  | d :: ds, _, h => by
    cases h with
    | cons h1 h2 => exact .cons (dq_dp d _ h1) (dqa_dpa ds _ h2)
end
section
variable {K : PySem.W.Frag} {H H' : Hp} {v : V} {d : PyData} {ds : List PyData} {vs : List V} {p : Addr} {o : HO}
theorem Dq.up (e : Ex H H') (h : Dq K H v d) : Dq K H' v d := dq_ex e d v h
theorem DqAll.up (e : Ex H H') (h : DqAll K H vs ds) : DqAll K H' vs ds := dqa_ex e ds vs h
theorem Dq.dp (h : Dq K H v d) : Dp K H v d := dq_dp d v h
theorem DqAll.dp (h : DqAll K H vs ds) : DpAll K H vs ds := dqa_dpa ds vs h
end
def pr (a b : Int) : PyData := .tuple [.int a, .int b]
def tb (a b c d : Int) : PyData := .tuple [.tuple [.int a, .int b], .tuple [.int c, .int d]]

/-! ### the deck: a list of two ints that draws change -/
def DeckH (a : Addr) (h : Heap) : Prop := ∃ (x s : Int) (t u : Tok) (n : Nat), h.get? a = some { cls := .type "list", data := .seq #[.int x t, .int s u] n } ∧ 0 ≤ s ∧ s < 2 ^ 64
def DeckO (a : Addr) : HO := .ext (DeckH a)
def DeckAt (H : Hp) (a : Addr) : Prop := H a = some (DeckO a)
section
variable {P : Program} {w : World} {K : PySem.W.Frag} {mg : Str → Option Value} {base : Heap} {k : Nat} {f : Addr} {fd : FuncData} {ps : List Str}
end

/-! ### rules that the layer lacks -/
section
variable {X : Cx}
theorem OpR.or {f : Value → Value → Sem Value} {r r' : R2} (h : OpR X f r) (h' : OpR X f r') : OpR X f (fun x y H Q => r x y H Q ∨ r' x y H Q) := fun pins s σ H x y v u Q I rx ry q => by
  rcases q with q | q
  · exact h pins s σ H x y v u Q I rx ry q
  · exact h' pins s σ H x y v u Q I rx ry q
/-- + of ints, lists, tuples -/
def rAddU (K : PySem.W.Frag) : R2 := fun x y H Q => rI0 (fun i j => .int (i + j)) x y H Q ∨ (rCat x y H Q ∨ rCatA K x y H Q)
def rMulU : R2 := fun x y H Q => rI CMulX (fun i j => .int (i * j)) x y H Q ∨ rRep x y H Q
def CDivZ (_ j : Int) : Prop := j ≠ 0 ∧ j.natAbs.log2 < 9000
theorem op_fdivZ : OpR X (binaryOp .FloorDiv) (rI CDivZ fun i j => .int (i.fdiv j)) := opI fun i j _ _ _ _ _ hc q => floordiv_int hc.1 q (.inl (PyProof.noPylong_of_log2 hc.2))
def rEqU (K : PySem.W.Frag) : R2 := fun x y H Q => rEq x y H Q ∨ rEqD K x y H Q
def rNeU (K : PySem.W.Frag) : R2 := fun x y H Q => rNe x y H Q ∨ rNeD K x y H Q
/-- int(n) of an int -/
def rInt : List V → Hp → VK → Prop := fun xs H Q => ∃ i, xs = [.int i] ∧ Q (.int i) H
theorem call_intU : CallR X (.type "int") rInt := by
  intro pins s σ H vs us Q I r h
  obtain ⟨i, rfl, q⟩ := h
  obtain ⟨u, rfl, rx⟩ := vals1 r
  obtain ⟨t, rfl⟩ := rx
  exact call_int_int ⟨.int i, H, I, ⟨t, rfl⟩, q⟩
/-- slices of tuples, of lists -/
def rSlU (K : PySem.W.Frag) : V → Option Int → Option Int → Hp → VK → Prop := fun x lo hi H Q => rSlA K x lo hi H Q ∨ rSlL K x lo hi H Q
/-- a display: the tuple's object is known to have no dict -/
def tTupF (_ : PySem.W.Frag) (t : TA) : TE := fun σ H Q => t σ H fun xs H1 => xs.length ≤ sizeLine ∧ ∀ (p : Addr) (o : Obj), H1 p = none → o.dict = none → Q (.ref p) (upd H1 p (.frz o (.tup xs)))
theorem pe_tupF {es : List Expr} {t : TA} {x1} {pos : Pos} (h : PA X es t) : PE X (.Tuple es x1 pos) (tTupF X.K t) := by
  refine ⟨fun pins s σ H Q I hq => ?_⟩
  refine wpAny_Tuple_spliced (thn (h.run pos pins s σ H _ I hq) fun us s1 ⟨xs, H1, I1, r, z, q⟩ => ⟨by rw [← r.length]; exact z, ?_⟩)
  have hf : H1 s1.heap.objs.size = none := I1.hok.fresh (Nat.le_refl _)
  refine ⟨.ref s1.heap.objs.size, upd H1 s1.heap.objs.size (.frz { cls := .type "tuple", data := .seq us.toArray } (.tup xs)), I1.laid (t' := s1.toks) (fun b u e => Heap.get?_push_of_some _ e) (Nat.le_refl _) ?_, rfl, q _ _ hf rfl⟩
  exact ⟨Heap.get?_push_size _ rfl, z, us, r, ⟨_, Heap.get?_push_size _ rfl, rfl, _, rfl⟩⟩
def tLstU (_ : PySem.W.Frag) (t : TA) : TE := tLst t
/-- tuple(x) of a list -/
def kTupF (K : PySem.W.Frag) (x : V) (H : Hp) (Q : VK) : Prop := ∃ p xs, x = .ref p ∧ SqL K H p xs ∧ ∀ (q : Addr) (o : Obj), H q = none → o.dict = none → Q (.ref q) (upd H q (.frz o (.tup xs)))
theorem pe_tupleF {a : Expr} {ta : TE} {p pos : Pos} (hg : Gl X "tuple") (hm : X.mg "tuple" = none) (ha : PE X a ta) (na : starEach [a] X.env = (false, eval a X.env) :: starEach [] X.env := by rfl) :
    PE X (.Call (.Name "tuple" p) [a] [] pos) (tThen ta (kTupF X.K)) := by
  refine ⟨fun pins s σ H Q I h => ?_⟩
  refine Call_ (ld_blt I hg hm boot_tuple (PyProof.Rows.callWith_type1 (one_arg ha I h (fun v s2 x H2 I2 r q => ?_) na) na))
  obtain ⟨p, xs, rfl, hs, q⟩ := q
  obtain rfl : v = .ref p := r
  obtain ⟨its, rv, pl, hz⟩ := I2.list hs
  refine call_tuple_list pl.isList (fun h' hk => ?_) (by rw [List.size_toArray, ← rv.length]; exact hz)
  have I3 : Inv X pins σ H2 { s2 with heap := h' } := I2.kept (t' := s2.toks) hk
  have I4 : Inv X pins σ (upd H2 h'.objs.size (.frz { cls := .type "tuple", data := .seq its.toArray } (.tup xs))) { s2 with heap := h'.push { cls := .type "tuple", data := .seq its.toArray } } :=
    I3.laid (t' := s2.toks) (fun b o e => Heap.get?_push_of_some _ e) (Nat.le_refl _) ⟨Heap.get?_push_size _ rfl, hz, its, rv, IsTup.new _ _⟩
  exact ⟨.ref h'.objs.size, _, I4, rfl, q _ _ (I3.hok.fresh (Nat.le_refl _)) rfl⟩
/-- t.count(k), t a tuple of ints -/
def tCnt (K : PySem.W.Frag) (to : TE) (t : TA) : TE := fun σ H Q => to σ H fun x H1 => ∃ (p : Addr) (ns : List Int), x = .ref p ∧ TupAt K H1 p (ns.map V.int) ∧ t σ H1 fun xs H2 => ∃ k, xs = [.int k] ∧ TupAt K H2 p (ns.map V.int) ∧ Q (.int (ns.count k : Nat)) H2
def rLenU (K : PySem.W.Frag) : List V → Hp → VK → Prop := fun xs H Q => ∃ p ys, xs = [.ref p] ∧ (SqL K H p ys ∨ SqT K H p ys) ∧ Q (.int ys.length) H
theorem call_lenU : CallR X (.builtin "len") (rLenU X.K) := call_len_seq
def rAbsU : List V → Hp → VK → Prop := fun xs H Q => ∃ i, xs = [.int i] ∧ Q (.int (if i < 0 then -i else i)) H
theorem call_absU : CallR X (.builtin "abs") rAbsU := call_abs
def rMaxU : List V → Hp → VK → Prop := fun xs H Q => ∃ i j, xs = [.int i, .int j] ∧ Q (.int (if j > i then j else i)) H
theorem call_maxU (hc : X.calm = true) : CallR X (.builtin "max") rMaxU := call_max2 hc
def rMinU : List V → Hp → VK → Prop := fun xs H Q => ∃ i j, xs = [.int i, .int j] ∧ Q (.int (if j < i then j else i)) H
theorem call_minU (hc : X.calm = true) : CallR X (.builtin "min") rMinU := call_min2 hc
def rIsNU : R2 := fun x y H Q => y = .non ∧ Q (.bl (decide (x = .non))) H
def rNotNU : R2 := fun x y H Q => y = .non ∧ Q (.bl (!decide (x = .non))) H
def rShrU : R2 := fun x y H Q => ∃ (i : Int) (k : Nat), x = .int i ∧ y = .int (k : Int) ∧ Q (.int (i / 2 ^ k)) H
def rOddU : R2 := fun x y H Q => ∃ n : Nat, x = .int (n : Int) ∧ y = .int 1 ∧ Q (.int ((n % 2 : Nat) : Int)) H
/-! the same, the written part told -/
end
end Sk

set_option maxHeartbeats 2000000
namespace Sk
open PySem PySem.Spec PyProof.Rows L2
open Evl (Ex ex_l ex_t)

/-! ### calls of the text's own defs -/
/-- the def x is there and keeps its promise -/
structure Cal (P : Program) (w : World) (K : PySem.W.Frag) (mg : Str → Option Value) (base : Heap) (k : Nat) (x : Str) (ps : List Str) (sp : Sp) : Prop where
  ex : ∃ (f : Addr) (fd : FuncData), FnOk P w K mg base CX0 k f fd ps sp ∧ mg x = some (.ref f) ∧ PySem.W.keepIn K (.ref f) = true ∧ Binds K fd ps []
/-- .. with the keywords ks, which g puts into the parameters' order -/
structure CalK (P : Program) (w : World) (K : PySem.W.Frag) (mg : Str → Option Value) (base : Heap) (k : Nat) (x : Str) (ps ks : List Str) (gV : List V → List V) (sp : Sp) : Prop where
  ex : ∃ (f : Addr) (fd : FuncData) (g : List Value → List Value), FnOk P w K mg base CX0 k f fd ps sp ∧ mg x = some (.ref f) ∧ PySem.W.keepIn K (.ref f) = true ∧
    (∀ (s : Shared) (ws : List Value), ws.length = ks.length → BindsTo s fd ⟨[], ks.zip ws⟩ (ps.zip (g ws))) ∧ (∀ (zs : List V) (ws : List Value), zs.length = ks.length → Vals zs ws → Vals (gV zs) (g ws))
def noX : XK := fun _ _ _ => False
def tCallD (sp : Sp) (t : TA) : TE := fun σ H Q => t σ H fun vs H1 => sp vs H1 Q noX
def tCallW (sp : Sp) (n : Nat) (gV : List V → List V) (t : TA) : TE := fun σ H Q => t σ H fun zs H1 => zs.length = n ∧ sp (gV zs) H1 Q noX
section
variable {X : Cx} {k j : Nat} {x : Str} {ps ks : List Str} {gV : List V → List V} {sp : Sp} {p pos : Pos} {e : Expr} {es : List Expr} {kws : List Keyword} {t tk : TA}
theorem pe_callD (C : Cal X.prog X.w X.K X.mg X.base j x ps sp) (hr : Room k X.A) (hjk : j ≤ k) (ha : PA X (e :: es) t) (hg : Gl X x := by rfl)
    (hdb : (x == ("__debug__" : Str)) = false := by decide) (he : starEach (e :: es) X.env = (false, eval e X.env) :: starEach es X.env := by rfl) (hpl : (backTo pos (starEach es X.env)).any (·.1) = false := by rfl) :
    PE X (.Call (.Name x p) (e :: es) [] pos) (tCallD sp t) := by
  obtain ⟨f, fd, F, hm, hk, hb⟩ := C.ex
  have h := pe_call (p := p) (E := noX) F (hr.mono hjk) hg hm hk hb .nil L2.pass0 ha hdb he hpl
  refine ⟨fun pins s σ H Q I q => h.run pins s σ H Q I ?_⟩
  have e2 : (fun (vs : List V) (H1 : Hp) => sp (vs ++ []) H1 Q noX) = fun vs H1 => sp vs H1 Q noX := by funext vs H1; rw [List.append_nil]
  show t σ H fun vs H1 => sp (vs ++ []) H1 Q noX
  rw [e2]
  exact q
theorem pe_callW (C : CalK X.prog X.w X.K X.mg X.base j x ps ks gV sp) (hr : Room k X.A) (hjk : j ≤ k) (hkw : PK X kws tk) (hg : Gl X x := by rfl)
    (hall : (backToKw pos (keywordEach kws X.env)).all (·.1.isSome) = true := by rfl) (hks : (backToKw pos (keywordEach kws X.env)).filterMap (·.1) = ks := by rfl)
    (hdb : (x == ("__debug__" : Str)) = false := by decide)
    (hpl : ((backTo pos (starEach [] X.env)).any (·.1) || (backToKw pos (keywordEach kws X.env)).any (·.1.isNone)) = false := by rfl) :
    PE X (.Call (.Name x p) [] kws pos) (tCallW sp ks.length gV tk) := by
  obtain ⟨f, fd, g, F, hm, hk, hb, hv⟩ := C.ex
  refine ⟨fun pins s σ H Q I h => ?_⟩
  refine wpAny_Call_Name_kw (ld_glob I hg hm ?_ hdb)
  refine PySem.W.callWith_KW0 (h₀ := X.base) I.ok.mod.kin hk hall (thn (hkw.run pos pins s σ H _ I h) fun ws s2 ⟨zs, H2, I2, rz, hn, q2⟩ => ⟨I2.kIn, ?_⟩) hpl
  rw [hks]
  have r2 := hv zs ws hn rz
  have hl : ws.length = ks.length := by rw [← rz.length]; exact hn
  refine wpAny_call (codeAny_mono (F.run X.A X.stack s2 H2 ⟨[], ks.zip ws⟩ (g ws) (gV zs) Q noX (hr.mono hjk) I2.env0 (hb s2 ws hl) r2 q2) fun r s' hq => ?_)
  cases r with
  | error e => exact hq.elim
  | ok fl =>
    cases fl with
    | ret u => exact I2.after hq
    | next => exact False.elim hq
    | brk => exact False.elim hq
    | cont => exact False.elim hq
end

/-! ### promises -/
section
variable {ι : Type} {K : PySem.W.Frag}
/-- data in, data out -/
def spF (K : PySem.W.Frag) (args : ι → List PyData) (cond : ι → Prop) (res : ι → PyData) : Sp := fun vs H Q _ => ∃ i, DqAll K H vs (args i) ∧ cond i ∧ ∀ v H', Ex H H' → Dq K H' v (res i) → Q v H'
/-- the same; of the data in it is not known that tuples have no dict -/
def spP (K : PySem.W.Frag) (args : ι → List PyData) (cond : ι → Prop) (res : ι → PyData) : Sp := fun vs H Q _ => ∃ i, DpAll K H vs (args i) ∧ cond i ∧ ∀ v H', Ex H H' → Dq K H' v (res i) → Q v H'
/-- a deck first; what comes is one of the good -/
def spK (K : PySem.W.Frag) (args : ι → List PyData) (cond : ι → Prop) (good : ι → PyData → Prop) : Sp := fun vs H Q _ => ∃ i a vs', vs = .ref a :: vs' ∧ DeckAt H a ∧ DqAll K H vs' (args i) ∧ cond i ∧ ∀ d v H', Ex H H' → good i d → Dq K H' v d → Q v H'
def spKp (K : PySem.W.Frag) (args : ι → List PyData) (cond : ι → Prop) (good : ι → PyData → Prop) : Sp := fun vs H Q _ => ∃ i a vs', vs = .ref a :: vs' ∧ DeckAt H a ∧ DqAll K H vs' (args i) ∧ cond i ∧ ∀ d v H', Ex H H' → good i d → Dp K H' v d → Q v H'
variable {args : ι → List PyData} {cond : ι → Prop} {res : ι → PyData} {good : ι → PyData → Prop} {vs : List V} {H : Hp} {Q : VK} {E : XK} {a : Addr}
end

/-! ### steps -/
section
variable {K : PySem.W.Frag} {σ : St} {H : Hp} {D : Ends} {t u : TS} {te ta tb tc : TE} {g : TG} {gs : TGs} {c c' : TT} {Q : VK} {QB : Bool → Hp → Prop} {v w : V} {b : Bool} {i j : Nat} {QA : List V → Hp → Prop} {tr : TA} {r r' : R2}
def ParG (i j : Nat) (D : Ends) (σ : St) (vs : List V) (H : Hp) : Prop := ∃ v w, vs = [v, w] ∧ D.nx ((σ.set i (some v)).set j (some w)) H
def NewT (_ : PySem.W.Frag) (xs : List V) (Q : VK) (H1 : Hp) : Prop := xs.length ≤ sizeLine ∧ ∀ (p : Addr) (o : Obj), H1 p = none → o.dict = none → Q (.ref p) (upd H1 p (.frz o (.tup xs)))
def NewL (_ : PySem.W.Frag) (xs : List V) (Q : VK) (H1 : Hp) : Prop := xs.length ≤ sizeLine ∧ ∀ p, H1 p = none → Q (.ref p) (upd H1 p (.lst xs))
/-! operators -/
theorem w_abs {n : Int} (q : Q (.int ((n.natAbs : Nat) : Int)) H) : rAbsU [.int n] H Q := by
  refine ⟨n, rfl, ?_⟩
  have e : (if n < 0 then -n else n) = ((n.natAbs : Nat) : Int) := by split <;> omega
  rw [e]
  exact q
end

/-! ### loops, comprehensions, count -/
section
variable {K : PySem.W.Frag} {σ : St} {H : Hp} {D : Ends} {tb : TS} {te ta to : TE} {g : TG} {Q : VK} {v : V} {tr : TA} {tt : TT} {vs : List Nat}
def CntG (K : PySem.W.Frag) (x : V) (k : Int) (Q : VK) (H : Hp) : Prop := ∃ (p : Addr) (ns : List Int), x = .ref p ∧ TupAt K H p (ns.map V.int) ∧ ∃ k', [V.int k] = [.int k'] ∧ TupAt K H p (ns.map V.int) ∧ Q (.int (ns.count k' : Nat)) H
/-- a for over lo, lo + 1, .. (n of them) -/
def ForG (lo : Int) (n : Nat) (g : TG) (tb : TS) (D : Ends) (σ : St) (H : Hp) : Prop := ∃ W : Nat → Nat → St → Hp → Prop, (∃ m, W 0 m σ H) ∧ ∀ i m σ H, W i m σ H →
  ((Itr lo n).stop i H ∧ D.nx σ H) ∨ ((Itr lo n).go i H ∧ ∃ N : St → Hp → Prop, (∀ σ' H', N σ' H' → ∃ m', m' < m ∧ W (i + 1) m' σ' H') ∧ ∀ x H', (Itr lo n).yld i H x H' → g x σ H' fun σ2 H2 => tb { D with nx := N, ct := N, bk := D.nx } σ2 H2)
/-- a for over lo, lo + c, .. (n of them) -/
def ForC (lo c : Int) (n : Nat) (g : TG) (tb : TS) (D : Ends) (σ : St) (H : Hp) : Prop := ∃ W : Nat → Nat → St → Hp → Prop, (∃ m, W 0 m σ H) ∧ ∀ i m σ H, W i m σ H →
  ((Itc lo c n).stop i H ∧ D.nx σ H) ∨ ((Itc lo c n).go i H ∧ ∃ N : St → Hp → Prop, (∀ σ' H', N σ' H' → ∃ m', m' < m ∧ W (i + 1) m' σ' H') ∧ ∀ x H', (Itc lo c n).yld i H x H' → g x σ H' fun σ2 H2 => tb { D with nx := N, ct := N, bk := D.nx } σ2 H2)
def RevG (x : V) (g : TG) (tb : TS) (D : Ends) (σ : St) (H : Hp) : Prop := ∃ n, x = .int n ∧ -(2 ^ 62) ≤ (0 : Int) ∧ (0 : Int) < 2 ^ 62 ∧ -(2 ^ 62) ≤ n ∧ n < 2 ^ 62 ∧ ForC (0 + (((n - 0).toNat : Nat) : Int) - 1) (-1) (n - 0).toNat g tb D σ H
/-- [te for x in range ..] -/
def LcG (lo : Int) (n : Nat) (g : TG) (tt : TT) (te : TE) (vs : List Nat) (σ : St) (H1 : Hp) (Q : VK) : Prop := ∀ D, H1 D = none → ∃ W : Nat → Nat → Hp → Prop, (∃ m, W 0 m (upd H1 D (.lst []))) ∧ ∀ i m H, W i m H →
  ((Itr lo n).stop i H ∧ Q (.ref D) H) ∨ ((Itr lo n).go i H ∧ ∃ Nx : Hp → Prop, (∀ H', Nx H' → ∃ m', m' < m ∧ W (i + 1) m' H') ∧ ∀ x H', (Itr lo n).yld i H x H' → g x (wipe σ vs) H' fun σ2 H2 => wipe σ2 vs = wipe σ vs ∧ tt σ2 H2 fun b H3 =>
    if b = true then te σ2 H3 fun y H4 => ∃ acc, H4 D = some (.lst acc) ∧ acc.length < sizeLine ∧ Nx (upd H4 D (.lst (acc ++ [y]))) else Nx H3)
/-- behind a turn: y is put to the list -/
def LcW (P : Nat → List V → Hp → Prop) (H : Hp) (Dl : Addr) (i : Nat) (H' : Hp) : Prop := ∃ acc, H' Dl = some (.lst acc) ∧ Ex H H' ∧ P i acc H'
end

/-! ### conditions on numbers -/
/-- below 2 ^ n -/
def Bd (n : Nat) (x : Int) : Prop := x.natAbs < 2 ^ n
theorem Bd.mono {m n : Nat} {x : Int} (h : Bd m x) (l : m ≤ n) : Bd n x := Nat.lt_of_lt_of_le h (Nat.pow_le_pow_right (by decide) l)
theorem Bd.mul {m n : Nat} {x y : Int} (h : Bd m x) (h' : Bd n y) : Bd (m + n) (x * y) := wide_lt h h'
theorem Bd.neg {m : Nat} {x : Int} (h : Bd m x) : Bd m (-x) := by unfold Bd at *; rw [Int.natAbs_neg]; exact h
theorem Bd.add {m : Nat} {x y : Int} (h : Bd m x) (h' : Bd m y) : Bd (m + 1) (x + y) := by
  unfold Bd at *
  have := Int.natAbs_add_le x y
  rw [Nat.pow_succ]
  omega
theorem Bd.sub {m : Nat} {x y : Int} (h : Bd m x) (h' : Bd m y) : Bd (m + 1) (x - y) := by
  rw [Int.sub_eq_add_neg]
  exact h.add h'.neg
end Sk

set_option maxHeartbeats 2000000
namespace Sk
open PySem PySem.Spec PyProof.Rows L2
open Evl (Ex ex_l ex_t)

/-! ### isinstance of data -/
def tyN : PyData → String
  | .none => "NoneType" | .bool _ => "bool" | .int _ => "int" | .str _ => "str" | .list _ => "list" | .tuple _ => "tuple" | .dict _ => "dict"
def isiS (a n : String) : Bool := a == n || (a == "bool" && n == "int")
def isi (d : PyData) (n : String) : Bool := isiS (tyN d) n
theorem kit_tab : ∀ a ∈ ["NoneType", "bool", "int", "str", "list", "tuple"], ∀ n ∈ ["int", "bool", "tuple", "list", "str"], kitB a n = some (isiS a n) := by decide +kernel
section
variable {K : PySem.W.Frag} {H : Hp} {v : V} {d : PyData} {Q : VK} {n : String}
theorem ty_dp (h : Dp K H v d) : TyX K H v (.type (tyN d)) := by
  cases h with
  | non => exact .base .non
  | bl b => exact .base (.bl b)
  | int i => exact .base (.int i)
  | str x => exact .base (.str x)
  | lst hs ha =>
    rcases hs with (hs | ⟨o, hs⟩) | ⟨o, _, _, hk, hc, _⟩
    · exact .base (.lst hs)
    · exact .base (.frz hs)
    · exact .kList hk hc
  | tup hs ha =>
    rcases hs with (hs | ⟨o, hs⟩) | ⟨o, _, _, hk, hc, _⟩
    · exact .base (.tup hs)
    · exact .fTuple hs
    · exact .kTuple hk hc
theorem kit_isi (hn : n ∈ ["int", "bool", "tuple", "list", "str"]) (h : Dp K H v d) : kitB (tyN d) n = some (isi d n) := by
  refine kit_tab _ ?_ n hn
  cases h <;> simp [tyN]
theorem w_isi (h : Dp K H v d) (q : Q (.bl (isi d n)) H) (hn : n ∈ ["int", "bool", "tuple", "list", "str"] := by decide) : rIsi K [v, .ty n] H Q :=
  ⟨v, .ty n, _, _, _, rfl, .ty n, ty_dp h, kit_ty (kit_isi hn h), q⟩
def NewP (xs : List V) (Q : VK) (H1 : Hp) : Prop := xs.length ≤ sizeLine ∧ ∀ p, H1 p = none → Q (.ref p) (upd H1 p (.tup xs))
/-- len of data -/
def dlen : PyData → Nat
  | .list xs => xs.length
  | .tuple xs => xs.length
  | _ => 0
theorem w_max2 {i j : Int} (q : Q (.int (max i j)) H) : rMaxU [.int i, .int j] H Q := by
  refine ⟨i, j, rfl, ?_⟩
  have e : (if j > i then j else i) = max i j := by split <;> omega
  rw [e]
  exact q
theorem w_min2 {i j : Int} (q : Q (.int (min i j)) H) : rMinU [.int i, .int j] H Q := by
  refine ⟨i, j, rfl, ?_⟩
  have e : (if j < i then j else i) = min i j := by split <;> omega
  rw [e]
  exact q
end
section
variable {K : PySem.W.Frag} {H H1 : Hp} {Q : VK} {v : V} {d d' : PyData}
end
section
variable {K : PySem.W.Frag} {H : Hp} {Q : VK} {v o i : V} {σ : St} {to ti : TE} {QS : St → Hp → Prop}
def SetG (o i v : V) (QS : St → Hp → Prop) (σ : St) (H : Hp) : Prop := rSetL o i v H fun H3 => QS σ H3
end
/-- builtins that no name of the text hides -/
structure Bu (mg : Str → Option Value) : Prop where
  z_len : mg "len" = none
  z_isinstance : mg "isinstance" = none
  z_abs : mg "abs" = none
  z_max : mg "max" = none
  z_min : mg "min" = none
  z_int : mg "int" = none
  z_bool : mg "bool" = none
  z_str : mg "str" = none
  z_tuple : mg "tuple" = none
  z_list : mg "list" = none
  z_range : mg "range" = none
  z_reversed : mg "reversed" = none
  z_gcd : mg "gcd" = some (.builtin "math.gcd")
def swap2 (zs : List V) : List V := match zs with | [a, b] => [b, a] | _ => zs
theorem len2 {ι : Type} {K : PySem.W.Frag} {args : ι → List PyData} {cond : ι → Prop} {res : ι → PyData} {n : Nat} (e : ∀ i, (args i).length = n) {vs : List V} {H : Hp} {Q : VK} {E : XK} (h : spP K args cond res vs H Q E) : vs.length = n := by
  obtain ⟨i, ha, _⟩ := h
  rw [dpa_len ha, e]
section
variable {K : PySem.W.Frag} {H : Hp} {vs : List V} {d1 d2 d3 : PyData}
end
end Sk

set_option maxHeartbeats 2000000
namespace Sk
open PySem PySem.Spec PyProof.Rows L2
open Evl (Ex ex_l ex_t)
section
variable {K : PySem.W.Frag} {H : Hp} {Q : VK} {v w : V} {σ : St} {te : TE} {tl th : TO} {D : Ends}
/-- t[lo:hi] -/
def cutD (ds : List PyData) (lo hi : Option Int) : List PyData := (ds.drop (HT.sIx ds.length 0 lo)).take (HT.sIx ds.length ds.length hi - HT.sIx ds.length 0 lo)
def OptG (R : V → Hp → (Option Int → Hp → Prop) → Prop) := R
def PartG (QO : Option Int → Hp → Prop) (x : V) (H1 : Hp) : Prop := ∃ i, x = .int i ∧ QO (some i) H1
end
end Sk

namespace Sk
open PySem PySem.Spec PyProof.Rows L2
section
variable {P : Program} {w : World} {K : PySem.W.Frag} {mg : Str → Option Value} {base : Heap} {x : Str} {st : Stmt} {f : Addr} {fd : FuncData} {k : Nat} {ps : List Str} {sp : Sp} {p q : Str}
theorem cal_mk (F : Fun K x x st f fd) (G : FnOk P w K mg base CX0 k f fd ps sp) (m : mg x = some (.ref f)) (b : Binds K fd ps []) : Cal P w K mg base k x ps sp :=
  ⟨f, fd, G, m, F.kp, b⟩
end
end Sk

set_option maxHeartbeats 2000000
/-! order of nested data: <, sorted (for k02, k03) -/
namespace Sk
open PySem PySem.Spec PyProof.Rows L2
open Evl (Ex ex_l ex_t)
section
variable {X : Cx}
/-- d < e of data that can be compared -/
def rLtD (K : PySem.W.Frag) : R2 := fun x y H Q => ∃ d e, Dp K H x d ∧ Dp K H y e ∧ PySem.W.alike d e = true ∧ d ≠ .none ∧ min d.depth e.depth ≤ 32 ∧ Q (.bl (PySem.W.dataLt d e)) H
theorem op_ltD (hu : X.A.units + 64 < cLine) : OpR X (compareOp .Lt) (rLtD X.K) := by
  intro pins s σ H x y v u Q I rx ry h
  obtain ⟨d, e, h1, h2, hal, hn, hd, q⟩ := h
  obtain ⟨as, r1⟩ := Dp.reads I d x v h1 rx
  obtain ⟨bs, r2⟩ := Dp.reads I e y u h2 ry
  exact PySem.W.lt_data r1 r2 hal hn (by omega) ⟨.bl _, H, I, rfl, q⟩
/-- a value that stands for the datum d -/
def Stands (K : PySem.W.Frag) (H : Hp) (u : Value) (d : PyData) : Prop := ∃ x : V, RelV x u ∧ Dp K H x d
/-- sorted(xs) of a list of data that can be compared -/
def rSortD (K : PySem.W.Frag) : List V → Hp → VK → Prop := fun xs H Q => ∃ (l : Addr) (vs : List V) (ds : List PyData), xs = [.ref l] ∧ SqL K H l vs ∧ DpAll K H vs ds ∧ PySem.W.AllAlike ds ∧ PySem.W.Sortable ds ∧ ds.length ≤ 1000 ∧ (∀ d ∈ ds, d.depth ≤ 32) ∧
  ∀ p out, H p = none → out.length = ds.length → DpAll K H out (ds.mergeSort (PySem.W.dataLe false id)) → Q (.ref p) (upd H p (.lst out))
end
end Sk

set_option maxHeartbeats 4000000
/-! an own exception class, made with one keyword and nothing else -/
namespace Sk
open PySem PySem.W PySem.Calls PyProof.Rows PySem.HandSPX
/-- a class of the text that descends from ValueError and is made by ValueError.__new__, as it lies in the heap h -/
structure Lies (h : Heap) (C : Addr) : Prop where
  obj : ∃ nm q N bs bm hd sn sub ab col dd k0 k1 k2 k3 k5, h.get? C = some (excClassObj nm q C N bs bm hd sn sub ab col dd k0 k1 k2 k3 k5 "ValueError.__new__") ∧ ∀ T : String, (Value.ref C :: bm).contains (.type T) = veTail.contains (.type T)
/-- the exception that is new in h, and its empty args -/
def fresh (h : Heap) (C : Addr) : Heap := (h.push (kdv_tup [])).push (excO C h.objs.size)
section
variable {prog : Program} {w : World} {A : Around} {E : Value → Shared → Prop} {R : Result → Shared → Prop} {h : Heap} {g : Array GenState} {d : Drawn} {t : Nat} {os : OsState} {C : Addr} {x : Str} {v : Value}
end
end Sk

set_option maxHeartbeats 2000000
namespace Sk
open PySem PySem.Spec PyProof.Rows L2
open Evl (Ex ex_l ex_t)

/-! ### an exception that is held as a value -/
/-- at a: an exception of the class cls, its dict at d -/
def ExHv (cls : Value) (d : Option Addr) (a : Addr) : HO := .ext fun h => ∃ (oe : Obj) (vs : Array Value), h.get? a = some oe ∧ Zc cls d oe ∧ oe.data = .fields vs
section
variable {X : Cx} {pins : List (Addr × Obj)} {σ : St} {H : Hp} {s : Shared}
end

/-- nothing but a plain end -/
def justNx (D : Ends) : Ends := { nx := D.nx, rt := fun _ _ => False, bk := fun _ _ => False, ct := fun _ _ => False }
/-- 'except x as n' that catches, and whose suite ends behind itself: the exception is held from there on -/
def wHold (K : PySem.W.Frag) (c : Value) (i : Nat) (ts : Addr → Value → Option Addr → TS) (D : Ends) : WX := fun cls d σ H =>
  PySem.W.exmOne K cls c = some true ∧ ∀ a, H a = none → ts a cls d (justNx { nx := fun σ' H' => H' a = none → D.nx (σ'.set i none) (upd H' a (ExHv cls d a)), rt := fun _ _ => False }) (σ.set i (some (.ref a))) H
/-- an exception in the air is none of the frames -/
theorem apart {B h : Heap} {l : List Env} {a : Addr} {cls : Value} {d : Option Addr} (f : HandSPX.FlyingZ B l a (Zc cls d) h) : a ∉ frs l := by
  intro m
  obtain ⟨oe, vs, he, -, hd⟩ := f.there
  obtain ⟨-, o, ho, no⟩ := f.2.2.1.mem m
  cases he.symm.trans ho
  exact no vs hd
/-- it is new since the entry, and none of what is held fast -/
structure Newly (X : Cx) (pins : List (Addr × Obj)) (a : Addr) : Prop where
  since : X.s_0.heap.get? a = none
  pin : ∀ p ∈ X.pn ++ pins, p.1 ≠ a
  loc : a ≠ X.env.locals
  fr : a ∉ X.fs
theorem newly {X : Cx} {pins : List (Addr × Obj)} {σ : St} {H : Hp} {sI : Shared} {B h : Heap} {a : Addr} {cls : Value} {d : Option Addr} (I : Inv X pins σ H sI) (hs : X.stack = X.env :: X.outer) (hf : X.env.frame = some X.env.locals) (hex : X.ex = [])
    (kept : ∀ b o, sI.heap.get? b = some o → b ∉ frs X.stack → B.get? b = some o) (f : HandSPX.FlyingZ B (X.env :: X.outer) a (Zc cls d) h) : Newly X pins a := by
  have ap := apart f
  have gone : sI.heap.get? a = none := Option.eq_none_iff_forall_ne_some.mpr fun o e => by
    have := kept a o e (hs ▸ ap)
    rw [f.2.1] at this
    exact nomatch this
  refine ⟨Option.eq_none_iff_forall_ne_some.mpr fun o e => ?_, fun p hp e => ?_, fun e => ap ?_, fun m => ap ?_⟩
  · obtain ⟨o', e'⟩ := I.base.there a o e (hex ▸ List.not_mem_nil)
    exact nomatch gone.symm.trans e'
  · have := (I.pin p hp).1
    rw [e, gone] at this
    exact nomatch this
  · exact List.mem_filterMap.mpr ⟨X.env, .head _, e ▸ hf⟩
  · obtain ⟨v, hv, q⟩ := List.mem_filterMap.mp m
    exact List.mem_filterMap.mpr ⟨v, .tail _ hv, q⟩
/-- the class that the clause names is read -/
theorem named {X : Cx} {pins : List (Addr × Obj)} {σ : St} {H : Hp} {s : Shared} {x : Str} {c : Value} {p : Pos} {Q : Value → Shared → Prop} {E : Value → Shared → Prop} (I : Inv X pins σ H s) (hc : Names X x c) (q : Q c s) : wpAny (model X.prog X.w) X.A (eval (.Name x p) X.env) Q E s := by
  obtain ⟨g, nd, own | ⟨no, blt, nn⟩⟩ := hc
  · exact ld_glob I g own q nd
  · exact ld_blt I g no blt q nn nd
section
variable {X : Cx} {x n : Str} {c : Value} {i : Nat} {body suite : List Stmt} {b₀ : Stmt} {np pos pos' : Pos} {tb : WX → TS} {ts : Addr → Value → Option Addr → TS}
end
end Sk

set_option maxHeartbeats 2000000
namespace Sk
open PySem PySem.Spec PyProof.Rows L2
open Evl (Ex ex_l ex_t)

/-- an own exception class whose __init__ (at fI) keeps its one argument as value -/
structure ExK (K : PySem.W.Frag) (fI C : Addr) : Prop where
  o : OexC K C
  it : PySem.W.findIn K (.ref C) "__init__" = some (some (.ref fI))
  no : PySem.W.findIn K (.ref C) "value" = some none
  xf : XfC K C
  xc : ExcC K C
/-- an exception of the class C at a, its value g -/
structure ExAt (H : Hp) (a C : Addr) (g : V) : Prop where
  ex : ∃ d, H a = some (ExHv (.ref C) (some d) a) ∧ H d = some (.xd [("value", g)])
theorem ExAt.up {H H' : Hp} {a C : Addr} {g : V} (h : ExAt H a C g) (e : Ex H H') : ExAt H' a C g := by
  obtain ⟨d, h1, h2⟩ := h.ex
  exact ⟨d, e _ _ h1, e _ _ h2⟩
/-- KitError.__init__ -/
def spIni (K : PySem.W.Frag) : Sp := fun vs H Q _ => ∃ (a C : Addr) (g : V), vs = [.ref a, g] ∧ OexC K C ∧ PySem.W.findIn K (.ref C) "value" = some none ∧ H a = some (exo a C none) ∧ ∀ dx, H dx = none → dx ≠ a → Q .non (upd (upd H dx (exd dx [("value", g)])) a (exo a C (some dx)))
/-- X(..) with the value g, raised: its class C -/
def MkE (H : Hp) (C : Addr) (g : V) (Q : XK) : Prop := ∀ d H', Ex H H' → H' d = some (.xd [("value", g)]) → Q (.ref C) (some d) H'
section
variable {X : Cx} {K : PySem.W.Frag} {pos p : Pos} {e : Expr} {te : TE} {x : Str} {C fI : Addr}
/-- e.value, e an exception that is held -/
def tXv (K : PySem.W.Frag) (fI : Addr) (te : TE) : TE := fun σ H Q => te σ H fun x H1 => ∃ a C g, x = .ref a ∧ ExAt H1 a C g ∧ ExK K fI C ∧ Q g H1
/-- isinstance(e, c), e an exception that is held -/
def rIsX (K : PySem.W.Frag) (fI : Addr) : List V → Hp → VK → Prop := fun xs H Q => ∃ (a C : Addr) (g c : V) (cv : Value) (b : Bool), xs = [.ref a, c] ∧ ExAt H a C g ∧ ExK K fI C ∧ (∀ u, RelV c u → u = cv) ∧ PySem.W.kitOne K (.ref C) cv = some b ∧ Q (.bl b) H
end
/-- C(e), C(value=e): the class's __init__ runs -/
def MkG (K : PySem.W.Frag) (C : Addr) (g : V) (Q : XK) (H1 : Hp) : Prop := [g].length ≤ 1000 ∧ ∀ a, H1 a = none → spIni K (.ref a :: ([g] ++ [])) (upd H1 a (exo a C none))
  (fun v H2 => v = .non ∧ ∃ (d : Addr) (fs : List (Str × V)), H2 a = some (exo a C (some d)) ∧ H2 d = some (exd d fs) ∧ H1 d = none ∧ Q (.ref C) (some d) (upd (del H2 a) d (.xd fs))) (fun _ _ _ => False)
def tMkV (K : PySem.W.Frag) (C : Addr) (te : TE) : St → Hp → XK → Prop := fun σ H Q => te σ H fun g H1 => MkG K C g Q H1
theorem mk_ini {H1 H2 : Hp} {a C dx : Addr} {g : V} (hn : H1 a = none) (hd : H1 dx = none) (hda : dx ≠ a) (e : H2 = upd (upd (upd H1 a (exo a C none)) dx (exd dx [("value", g)])) a (exo a C (some dx))) :
    H2 a = some (exo a C (some dx)) ∧ H2 dx = some (exd dx [("value", g)]) ∧ Ex H1 (upd (del H2 a) dx (.xd [("value", g)])) := by
  subst e
  refine ⟨upd_same, by rw [upd_ne hda, upd_same], fun b o hb => ?_⟩
  have h1 : b ≠ a := fun z => by rw [z, hn] at hb; cases hb
  have h2 : b ≠ dx := fun z => by rw [z, hd] at hb; cases hb
  rw [upd_ne h2, del_ne h1, upd_ne h1, upd_ne h2, upd_ne h1]
  exact hb
section
variable {X : Cx} {CX : CXT} {x : Str} {p pos kp : Pos} {e : Expr} {te : TE} {C fI : Addr} {k j : Nat} {fd : FuncData}
/-- the text's KitError.__init__ is there -/
structure Ini (P : Program) (w : World) (K : PySem.W.Frag) (mg : Str → Option Value) (base : Heap) (j : Nat) (fI : Addr) : Prop where
  ex : ∃ fd, FnOk P w K mg base CX0 j fI fd ["self", "value"] (spIni K) ∧ Binds K fd ["self", "value"] [] ∧ ∀ (s : Shared) (a v : Value), BindsTo s fd ⟨[a], [("value", v)]⟩ [("self", a), ("value", v)]
  ty : PySem.W.typeIn K (.ref fI) = some (.type "function")
end
end Sk

set_option maxHeartbeats 2000000
/-! an exception that is held, its context None; try with several clauses -/
namespace Sk
open PySem PySem.Spec PyProof.Rows L2
open Evl (Ex ex_l ex_t)
/-- at a: an exception of the class cls, its dict at d, its context None -/
def ExHn (cls : Value) (d : Option Addr) (a : Addr) : HO := .ext fun h => ∃ (oe : Obj) (vs : Array Value), h.get? a = some oe ∧ L2N.Zn cls d oe ∧ oe.data = .fields vs
theorem exHn_ok {P : Program} {w : World} {H : Hp} {h : Heap} {a : Addr} {cls : Value} {d : Option Addr} {oe : Obj} {vs : Array Value} (e : h.get? a = some oe) (z : L2N.Zn cls d oe) (hd : oe.data = .fields vs) : ObjOk P w H h a (ExHn cls d a) :=
  ⟨⟨oe, vs, e, z, hd⟩, ⟨oe, e⟩, fun _ _ ⟨o, v, q, r⟩ k => ⟨o, v, k o q, r⟩⟩
section
variable {X : Cx} {pins : List (Addr × Obj)} {σ : St} {H : Hp} {s : Shared}
theorem trackN {a : Addr} {cls : Value} {d : Option Addr} {oe : Obj} {vs : Array Value} (I : Inv X pins σ H s) (ha : s.heap.get? a = some oe) (hz : L2N.Zn cls d oe) (hd : oe.data = .fields vs) (na : H a = none) (nw : Newly X pins a) : Inv X pins σ (upd H a (ExHn cls d a)) s := by
  have ne0 : ∀ b o, X.s_0.heap.get? b = some o → b ≠ a := fun b o e z => by
    rw [z, nw.since] at e
    cases e
  refine ⟨I.ok, I.os, I.bare, ⟨I.base.keep, I.base.slot, fun b o e n hq => ?_, I.base.there, fun b xs e => ?_, fun b o u e => ?_, fun b ps e => ?_⟩, I.loc, I.cell, ?_, fun x c e => ?_, fun p hp => ?_, ?_, I.len⟩
  · rw [upd_ne (ne0 b o e)]
    exact I.base.free b o e n hq
  · have q := I.base.tups b xs e
    rw [upd_ne (ne_of_none q na)]
    exact q
  · have q := I.base.frzs b o u e
    rw [upd_ne (ne_of_none q na)]
    exact q
  · obtain ⟨m, q⟩ := I.base.tbls b ps e
    exact ⟨m, by rw [upd_ne (ne_of_none q na)]; exact q⟩
  · rw [upd_ne (Ne.symm nw.loc)]
    exact I.free
  · obtain ⟨v, o, ho, hdc⟩ := I.cell x c e
    have hc : c ≠ a := fun z => by
      rw [z, ha] at ho
      cases ho
      rw [hd] at hdc
      cases hdc
    rw [upd_ne hc]
    exact I.freeC x c e
  · obtain ⟨e, n, ne, nf, dd⟩ := I.pin p hp
    exact ⟨e, by rw [upd_ne (nw.pin p hp)]; exact n, ne, nf, dd⟩
  · exact I.hok.laidN (fun _ _ e => e) na (exHn_ok ha hz hd)
/-- into a suite and out of it, nothing but the pins that there were -/
theorem suite0 (I : Inv X pins σ H s) (a : Addr) : Inv (X.suite a (X.pn ++ pins)) [] σ H s :=
  ⟨I.ok.suite _ _, I.os, I.bare, I.base, I.loc, I.cell, I.free, I.freeC, fun p hp => I.pin p (by
    rw [List.append_nil] at hp
    exact hp), I.hok, I.len⟩
theorem unsuite0 {a : Addr} {pn' : List (Addr × Obj)} (I : Inv (X.suite a (X.pn ++ pins)) pn' σ H s) (ok : X.Ok) : Inv X pins σ H s :=
  ⟨ok, I.os, I.bare, I.base, I.loc, I.cell, I.free, I.freeC, fun p hp => I.pin p (List.mem_append_left _ hp), I.hok, I.len⟩
end
/-- an exception of the class C at a, its value g -/
structure ExAtN (H : Hp) (a C : Addr) (g : V) : Prop where
  ex : ∃ d, H a = some (ExHn (.ref C) (some d) a) ∧ H d = some (.xd [("value", g)])
theorem ex_instN {X : Cx} {pins : List (Addr × Obj)} {σ : St} {H : Hp} {s : Shared} {a C : Addr} {g : V} (I : Inv X pins σ H s) (h : ExAtN H a C g) :
    ∃ oe od u, PySem.W.InstAt s.heap a oe C (some od) ∧ PySem.W.lookIn "value" od = some u ∧ RelO (some g) u := by
  obtain ⟨d, h1, h2⟩ := h.ex
  obtain ⟨⟨oe, vs, e, z, hd⟩, _⟩ := I.hok a _ h1
  have hx : ObjOk X.prog X.w H s.heap d (.xd [("value", g)]) := I.hok d _ h2
  obtain ⟨mA, hns, hr⟩ := hx
  obtain ⟨od, ho, hl⟩ := lookIn_ns hns
  have q := hr "value"
  exact ⟨oe, od, mA "value", ⟨e, z.1, by unfold PySem.W.notCls; rw [hd] <;> rfl, by rw [z.2.1]; exact ho⟩, hl _, q⟩
section
variable {X : Cx} {pos : Pos} {e : Expr} {te : TE}
def tXvN (K : PySem.W.Frag) (te : TE) : TE := fun σ H Q => te σ H fun x H1 => ∃ a C g fI, x = .ref a ∧ ExAtN H1 a C g ∧ ExK K fI C ∧ Q g H1
theorem pe_xvN (he : PE X e te) (hb : attributeBase e "value" X.env (eval e X.env) = eval e X.env := by rfl) : PE X (.Attribute e "value" pos) (tXvN X.K te) := by
  refine ⟨fun pins s σ H Q I h => ?_⟩
  refine attr_of hb (thn (he.run pins s σ H _ I h) fun u s1 hh => ?_)
  obtain ⟨x, H1, I1, rx, a, C, g, fI, ex, hx, T, q⟩ := hh
  subst ex
  obtain rfl : u = Value.ref a := rx
  obtain ⟨oe, od, uu, J, hl, hr⟩ := ex_instN I1 hx
  cases uu with
  | none => exact hr.elim
  | some w =>
    exact HandSPX.exc_get I1.kIn J T.xf.ga T.xf.gg T.xf.exC (PySem.W.findObj_own T.xf.hdC T.no rfl hl) (handed_of hr) ⟨g, H1, I1.tok _, hr, q⟩
end
/-! ### try -/
def setO (σ : St) (o : Option Nat) (v : Option V) : St := match o with
  | some i => σ.set i v
  | none => σ
def endO (o : Option Nat) (D : Ends) : Ends := { nx := fun σ H => D.nx (setO σ o none) H, rt := D.rt, bk := fun _ _ => False, ct := fun _ _ => False }
/-- the clauses, one after the other: the first one that names the class takes it -/
def wCl (K : PySem.W.Frag) (D : Ends) : List (Value × Option Nat × (Addr → TS)) → WX
  | [] => fun _ _ _ _ => False
  | (c, o, ts) :: l => fun cls d σ H => ∃ b, PySem.W.exmOne K cls c = some b ∧ (b = true → ∀ a, H a = none → ts a (endO o D) (setO σ o (some (.ref a))) (upd H a (ExHn cls d a))) ∧ (b = false → wCl K D l cls d σ H)
inductive ClOk (X : Cx) : List ExceptHandler → List (Value × Option Nat × (Addr → TS)) → Prop
  | nil : ClOk X [] []
  | plain {x : Str} {c : Value} {ts : Addr → TS} {b₀ : Stmt} {suite : List Stmt} {np pos' : Pos} {hds : List ExceptHandler} {l : List (Value × Option Nat × (Addr → TS))} (hc : Names X x c)
      (hsu : ∀ (a : Addr) (pn : List (Addr × Obj)), PSs (X.suite a pn) (b₀ :: suite) (ts a)) (r : ClOk X hds l) : ClOk X (.ExceptHandler (some (.Name x np)) none (b₀ :: suite) pos' :: hds) ((c, none, ts) :: l)
  | named {x n : Str} {i : Nat} {c : Value} {ts : Addr → TS} {b₀ : Stmt} {suite : List Stmt} {np pos' : Pos} {hds : List ExceptHandler} {l : List (Value × Option Nat × (Addr → TS))} (hc : Names X x c) (hi : X.N[i]? = some n) (hln : X.env.kindOf n = some .local)
      (hsu : ∀ (a : Addr) (pn : List (Addr × Obj)), PSs (X.suite a pn) (b₀ :: suite) (ts a)) (r : ClOk X hds l) : ClOk X (.ExceptHandler (some (.Name x np)) (some n) (b₀ :: suite) pos' :: hds) ((c, some i, ts) :: l)
section
variable {X : Cx} {body : List Stmt} {h₀ : ExceptHandler} {hds : List ExceptHandler} {l : List (Value × Option Nat × (Addr → TS))} {pos : Pos} {tb : WX → TS}
theorem ps_try_cl (hs : X.stack = X.env :: X.outer) (hf : X.env.frame = some X.env.locals) (hex : X.ex = []) (hN : X.N.Nodup)
    (hb : ∀ (W : WX) (pn : List (Addr × Obj)) (xe : Value → Shared → Prop), L2N.Takes (X.tr pn xe) W → PassesOwn (model X.prog X.w) X.A X.env xe → PSs (X.tr pn xe) body (tb W))
    (hh : ClOk X (h₀ :: hds) l) : PS X (.Try body (h₀ :: hds) [] [] pos) (fun D σ H => tb (wCl X.K D l) { D with bk := fun _ _ => False, ct := fun _ _ => False } σ H) := by
  refine ⟨fun pins s σ H D I h => wpAny_Try_except ?_⟩
  have ok := I.ok
  have frames : X.A.frames = some (X.env :: X.outer) := ok.frames.trans (congrArg some hs)
  refine wpAny_mono ((hb (wCl X.K D l) (X.pn ++ pins) _ ?air PassesOwn.looking).run [] s σ H { D with bk := fun _ _ => False, ct := fun _ _ => False } (I.toTry _) h) (fun f s1 z => ?ends) fun _ _ z => z
  case ends =>
    match f, z with
    | .next, ⟨σ1, H1, I1, q⟩ => exact wpAny_execs_nil ⟨σ1, H1, I1.ofTry ok, q⟩
    | .brk, ⟨_, _, _, q⟩ => exact q.elim
    | .cont, ⟨_, _, _, q⟩ => exact q.elim
    | .ret u, ⟨v1, σ1, H1, I1, r1, q⟩ => exact ⟨v1, σ1, H1, I1.ofTry ok, r1, q⟩
  case air =>
    rintro _ s' ⟨a, B, sI, _, σ1, H1, cls, d, rfl, J', kept, up, sky, na, os, bare, go⟩
    have J := J'.ofTry ok
    rw [show (X.tr (X.pn ++ pins) _).stack = X.env :: X.outer from hs] at sky
    refine L2N.Sky.land L2N.Zn.steady frames hf sky fun h3 f3 u3 => ?_
    have nw := newly J hs hf hex kept (L2H.flyingZ_imp (fun o z => z.zc) f3)
    have up3 := up.trans u3
    have J3 : Inv X pins σ1 H1 { s' with heap := h3 } := J.landed kept f3.1 up3 os bare
    obtain ⟨o3, v3, e3, z3, d3⟩ := f3.there
    have type : PySem.W.Looks (model X.prog X.w) h3 (typeOf (.ref a)) cls := fun _ _ _ _ k q => wpAny_typeOf_ref (k _ _ e3) (z3.1 ▸ q)
    have land : ∀ {h4 : Heap}, HandSPX.FlyingZ B (X.env :: X.outer) a (L2N.Zn cls d) h4 → h3.UpToSlots h4 → Inv X pins σ1 (upd H1 a (ExHn cls d a)) { s' with heap := h4 } := fun {h4} f4 u4 => by
      obtain ⟨o4, v4, e4, z4, d4⟩ := f4.there
      exact trackN (J.landed kept f4.1 (up3.trans u4) os bare) e4 z4 d4 na nw
    have all : ∀ {hds' : List ExceptHandler} {l' : List (Value × Option Nat × (Addr → TS))}, ClOk X hds' l' → wCl X.K D l' cls d σ1 H1 → wpAny (model X.prog X.w) X.A (handleBy (.ref a) X.env hds') (SP X pins D) X.xe { s' with heap := h3 } := by
      intro hds' l' hk
      induction hk with
      | nil => exact fun w => w.elim
      | @plain x c ts b₀ suite np pos' hds2 l2 hc hsu r ih =>
        rintro ⟨b, hm, hyes, hno⟩
        refine wpAny_handleBy_cons (codeAny_handlers_test ?_) nofun
        refine named (X := X.suite a ((a, o3) :: (X.pn ++ pins))) (J3.suite e3 d3 na nw.loc nw.fr) hc ((PySem.W.exm_one J3.kIn type hm).here ?_)
        cases b with
        | false => exact ih (hno rfl)
        | true =>
          refine codeAny_handlers_suite (HandSPX.lands_againZ f3 fun h4 f4 u4 => ?_)
          refine wpAny_mono ((hsu a (X.pn ++ pins)).run [] _ _ _ (endO none D) (suite0 (land f4 u4) a) (hyes rfl a na)) (fun f s6 z => ?_) fun _ _ z => z.elim
          match f, z with
          | .next, ⟨σ6, H6, S6, q⟩ => exact ⟨_, _, unsuite0 S6 ok, q⟩
          | .brk, ⟨_, _, _, q⟩ => exact q.elim
          | .cont, ⟨_, _, _, q⟩ => exact q.elim
          | .ret _, ⟨v6, σ6, H6, S6, r6, q⟩ => exact ⟨_, _, _, unsuite0 S6 ok, r6, q⟩
      | @named x n i c ts b₀ suite np pos' hds2 l2 hc hi hln hsu r ih =>
        rintro ⟨b, hm, hyes, hno⟩
        refine wpAny_handleBy_cons (codeAny_handlers_test ?_) nofun
        refine Sk.named (X := X.suite a ((a, o3) :: (X.pn ++ pins))) (J3.suite e3 d3 na nw.loc nw.fr) hc ((PySem.W.exm_one J3.kIn type hm).here ?_)
        cases b with
        | false => exact ih (hno rfl)
        | true =>
          refine codeAny_handlers_suite_as (HandSPX.lands_againZ f3 fun h4 f4 u4 => ?_)
          refine store_ok (X := X.suite a (X.pn ++ pins)) (v := .ref a) (suite0 (land f4 u4) a) hN hi (.inl hln) rfl (fun s5 S5 => ?_) (.inr hln)
          refine wpAny_mono ((hsu a (X.pn ++ pins)).run [] s5 _ _ (endO (some i) D) S5 (hyes rfl a na)) (fun f s6 z => ?_) fun _ _ z => z.elim
          match f, z with
          | .next, ⟨σ6, H6, S6, q⟩ => exact gone_ok (unsuite0 S6 ok) hN hi hln fun _ J7 => ⟨_, _, J7, q⟩
          | .brk, ⟨_, _, _, q⟩ => exact q.elim
          | .cont, ⟨_, _, _, q⟩ => exact q.elim
          | .ret _, ⟨v6, σ6, H6, S6, r6, q⟩ => exact gone_ok (unsuite0 S6 ok) hN hi hln fun _ J7 => ⟨_, _, _, J7, r6, q⟩
    exact all hh go
end
end Sk

set_option maxHeartbeats 2000000
/-! Mr: sets of tuples of any depth: the table -/
namespace NS
open PySem PySem.Spec PyProof.Rows L2
/-! ### x -> 5 x + 1, modulo powers of two -/
def it (x : Nat) : Nat → Nat
  | 0 => x
  | k + 1 => it x k * 5 + 1
theorem it_add (x a : Nat) : ∀ k, it (it x a) k = it x (a + k)
  | 0 => rfl
  | k + 1 => by
    show it (it x a) k * 5 + 1 = it x (a + k) * 5 + 1
    rw [it_add x a k]
theorem it_pow : ∀ n, ∃ u, u % 2 = 1 ∧ ∀ x, it x (2 ^ n) = x + 2 ^ n * ((4 * x + 1) * u)
  | 0 => ⟨1, rfl, fun x => by
    show x * 5 + 1 = x + 1 * ((4 * x + 1) * 1)
    omega⟩
  | n + 1 => by
    obtain ⟨u, hu, h⟩ := it_pow n
    refine ⟨u * (1 + 2 * (2 ^ n * u)), by rw [Nat.mul_mod, hu, Nat.add_mul_mod_self_left], fun x => ?_⟩
    rw [Nat.pow_succ, Nat.mul_two, ← it_add, h x, h]
    generalize 2 ^ n = p
    grind
/-- all remainders are met -/
theorem it_full : ∀ (n x j : Nat), j < 2 ^ n → ∃ k, k < 2 ^ n ∧ it x k % 2 ^ n = j
  | 0, x, j, hj => ⟨0, Nat.one_pos, by
    have : j = 0 := by rw [Nat.pow_zero] at hj; omega
    rw [this, Nat.pow_zero, Nat.mod_one]⟩
  | n + 1, x, j, hj => by
    have hP : 0 < 2 ^ n := Nat.pow_pos (by decide)
    obtain ⟨k, hk, e⟩ := it_full n x (j % 2 ^ n) (Nat.mod_lt _ hP)
    obtain ⟨u, hu, h⟩ := it_pow n
    rw [Nat.pow_succ, Nat.mul_two] at hj ⊢
    have hd : 2 ^ n ∣ 2 ^ n + 2 ^ n := ⟨2, by omega⟩
    have hz : it x k % (2 ^ n + 2 ^ n) % 2 ^ n = j % 2 ^ n := by rw [Nat.mod_mod_of_dvd _ hd, e]
    have hlt : it x k % (2 ^ n + 2 ^ n) < 2 ^ n + 2 ^ n := Nat.mod_lt _ (by omega)
    by_cases c : it x k % (2 ^ n + 2 ^ n) = j
    · exact ⟨k, by omega, c⟩
    · refine ⟨k + 2 ^ n, by omega, ?_⟩
      rw [← it_add, h]
      have hw : ∃ v, (4 * it x k + 1) * u = 2 * v + 1 := by
        refine ⟨(4 * it x k + 1) * u / 2, ?_⟩
        have : (4 * it x k + 1) * u % 2 = 1 := by
          rw [Nat.mul_mod, hu, show (4 * it x k + 1) % 2 = 1 by omega]
        omega
      obtain ⟨v, hv⟩ := hw
      rw [hv]
      have e2 : it x k + 2 ^ n * (2 * v + 1) = it x k + 2 ^ n + (2 ^ n + 2 ^ n) * v := by
        generalize 2 ^ n = p
        grind
      rw [e2, Nat.add_mul_mod_self_left, Nat.add_mod]
      generalize it x k % (2 ^ n + 2 ^ n) = r at *
      rw [Nat.mod_eq_of_lt (show 2 ^ n < 2 ^ n + 2 ^ n by omega)]
      rcases Nat.lt_or_ge r (2 ^ n) with a | a
      · rw [Nat.mod_eq_of_lt a] at hz
        have hj2 : ¬ j < 2 ^ n := fun z => c (by rw [Nat.mod_eq_of_lt z] at hz; exact hz)
        rw [Nat.mod_eq_sub_mod (by omega), Nat.mod_eq_of_lt (by omega)] at hz
        rw [Nat.mod_eq_of_lt (by omega)]
        omega
      · rw [Nat.mod_eq_sub_mod a, Nat.mod_eq_of_lt (by omega)] at hz
        have hj2 : j < 2 ^ n := by
          rcases Nat.lt_or_ge j (2 ^ n) with z | z
          · exact z
          · rw [Nat.mod_eq_sub_mod z, Nat.mod_eq_of_lt (by omega)] at hz
            exact absurd (by omega) c
        rw [Nat.mod_eq_of_lt hj2] at hz
        rw [Nat.mod_eq_sub_mod (by omega), Nat.mod_eq_of_lt (by omega)]
        omega
theorem it_mod {m i : Nat} (hi : i ≤ m) : ∀ k, lcgI m i k = it i k % (m + 1)
  | 0 => (Nat.mod_eq_of_lt (Nat.lt_succ_of_le hi)).symm
  | k + 1 => by
    show (lcgI m i k * 5 + 1) % (m + 1) = (it i k * 5 + 1) % (m + 1)
    rw [it_mod hi k, Nat.add_mod, Nat.mod_mul_mod, ← Nat.add_mod]
/-- the masks of tables with fewer than 4,000 rows -/
def Mk (m : Nat) : Prop := m = 7 ∨ m = 31 ∨ m = 127 ∨ m = 511 ∨ m = 2047 ∨ m = 8191
theorem Mk.two {m : Nat} (h : Mk m) : ∃ n, m + 1 = 2 ^ n := by
  rcases h with h | h | h | h | h | h <;> subst h
  · exact ⟨3, rfl⟩
  · exact ⟨5, rfl⟩
  · exact ⟨7, rfl⟩
  · exact ⟨9, rfl⟩
  · exact ⟨11, rfl⟩
  · exact ⟨13, rfl⟩
theorem runs_all {m : Nat} (hm : Mk m) (h : Int) {j : Nat} (hj : j ≤ m) : ∃ n, n ≤ m + 12 ∧ runI m (SetTable.bits h) n = j := by
  obtain ⟨n, e⟩ := hm.two
  obtain ⟨k, hk, hkj⟩ := it_full n (runI m (SetTable.bits h) 12) j (by omega)
  refine ⟨12 + k, by omega, ?_⟩
  rw [runI_tail (bits_lt h), it_mod (runI_le _ _ _), e]
  exact hkj
theorem way_all {m : Nat} (hm : Mk m) (h : Int) {j : Nat} (hj : j ≤ m) : ∃ k, k ≤ 10 * (m + 12) ∧ way m h k = j := by
  obtain ⟨n, hn, e⟩ := runs_all hm h hj
  obtain ⟨k, hk, hr⟩ := run_nth m (SetTable.bits h) n
  exact ⟨k, by omega, (congrArg SetTable.Probe.j hr).trans e⟩
theorem way_in {m : Nat} (h : Int) (k : Nat) : way m h k ≤ m := by
  have hlt : SetTable.bits h % (m + 1) < m + 1 := Nat.mod_lt _ (Nat.succ_pos m)
  have hr := runEnd_bd (m := m) (i := SetTable.bits h % (m + 1)) (by omega)
  have := nth_in (m := m) k (runAt m (SetTable.bits h % (m + 1)) (SetTable.bits h)) (show SetTable.bits h % (m + 1) + (SetTable.runEnd m (SetTable.bits h % (m + 1)) - SetTable.bits h % (m + 1)) ≤ m by omega)
  show (nth m _ k).j ≤ m
  omega
/-! ### tables -/
/-- each row's slot is met on the way of its hash, behind taken slots alone -/
structure Tb (t : SetTable) (hs : List Int) : Prop where
  up : Ris t.place.toList
  nod : t.dummies = #[]
  len : t.place.size = hs.length
  msk : Mk t.mask
  inn : ∀ x ∈ t.place.toList, x ≤ t.mask
  met : ∀ (i j : Nat) (h : Int), t.place.toList[i]? = some j → hs[i]? = some h → ∃ k, way t.mask h k = j ∧ ∀ q, q < k → way t.mask h q ∈ t.place.toList
/-- the first free slot on a way -/
theorem Tb.free {t : SetTable} {hs : List Int} (T : Tb t hs) (hl : hs.length ≤ t.mask) (h : Int) : ∃ K, K ≤ 10 * (t.mask + 12) ∧ way t.mask h K ∉ t.place.toList ∧ ∀ q, q < K → way t.mask h q ∈ t.place.toList := by
  obtain ⟨j, hj, hnot⟩ := st_missing t.place.toList (t.mask + 1) (by have := T.len; rw [Array.length_toList]; omega)
  obtain ⟨k, hk, e⟩ := way_all T.msk h (j := j) (by omega)
  obtain ⟨K, a, b, c⟩ := st_least (p := fun q => way t.mask h q ∉ t.place.toList) k (by rw [e]; exact hnot)
  exact ⟨K, by omega, b, fun q hq => Classical.byContradiction (c q hq)⟩
/-! ### laid anew -/
theorem find_free {m : Nat} (hm : Mk m) (owner : Array (Option Nat)) (h : Int) {j : Nat} (hj : j ≤ m) (hf : oAt owner j = none) :
    ∃ K, SetTable.layClean.free m owner (SetTable.turns m) (SetTable.bits h % (m + 1)) (SetTable.bits h) = some (way m h K) ∧ oAt owner (way m h K) = none ∧ ∀ q, q < K → oAt owner (way m h q) ≠ none := by
  obtain ⟨n, hn, e⟩ := runs_all hm h hj
  have hw : way m h (off m (SetTable.bits h % (m + 1)) (SetTable.bits h) n) = j := by
    unfold way
    rw [nth_off, itL_run]
    exact e
  obtain ⟨K, a, b, c⟩ := st_least (p := fun q => oAt owner (way m h q) = none) _ (show oAt owner (way m h (off m (SetTable.bits h % (m + 1)) (SetTable.bits h) n)) = none by rw [hw]; exact hf)
  refine ⟨K, free_spec m owner (SetTable.turns m) n _ _ K (show n < m + 15 by omega) a (fun q hq => ?_) (by rw [show oAt owner (nth m _ K).j = none from b]; rfl), b, c⟩
  have := c q hq
  cases hq2 : oAt owner (nth m (runAt m (SetTable.bits h % (m + 1)) (SetTable.bits h)) q).j with
  | none => exact absurd hq2 this
  | some _ => rfl
/-- some rows laid into an empty table -/
structure Lay (m : Nat) (done : List Int) (owner : Array (Option Nat)) : Prop where
  size : owner.size = m + 1
  has : ∀ j k, j ≤ m → oAt owner j = some k → ∃ h K, done[k]? = some h ∧ way m h K = j ∧ ∀ q, q < K → oAt owner (way m h q) ≠ none
  got : ∀ k, k < done.length → ∃ j, j ≤ m ∧ oAt owner j = some k
  few : ∃ used : List Nat, used.length = done.length ∧ ∀ j, j ≤ m → oAt owner j ≠ none → j ∈ used
theorem Lay.more {m : Nat} (hm : Mk m) {done : List Int} {owner : Array (Option Nat)} (L : Lay m done owner) (hl : done.length ≤ m) (h : Int) :
    ∃ j, SetTable.layClean.free m owner (SetTable.turns m) (SetTable.bits h % (m + 1)) (SetTable.bits h) = some j ∧ Lay m (done ++ [h]) (owner.setIfInBounds j (some done.length)) := by
  obtain ⟨used, hu, hin⟩ := L.few
  obtain ⟨j0, hj0, hn0⟩ := st_missing used (m + 1) (by omega)
  have hfree : oAt owner j0 = none := Classical.byContradiction fun z => hn0 (hin j0 (by omega) z)
  obtain ⟨K, e, hno, hyes⟩ := find_free hm owner h (j := j0) (by omega) hfree
  have hw := way_in (m := m) h K
  have hself : oAt (owner.setIfInBounds (way m h K) (some done.length)) (way m h K) = some done.length := oAt_set_self _ (by rw [L.size]; omega)
  have keep : ∀ {i : Nat} {k : Nat}, oAt owner i = some k → i ≠ way m h K := fun hk z => by rw [z, hno] at hk; cases hk
  have stay : ∀ {i : Nat}, oAt owner i ≠ none → oAt (owner.setIfInBounds (way m h K) (some done.length)) i ≠ none := fun {i} hi => by
    rcases Nat.lt_trichotomy i (way m h K) with z | z | z
    · rw [oAt_set_ne _ (Nat.ne_of_lt z)]; exact hi
    · rw [z, hself]; exact fun z => by cases z
    · rw [oAt_set_ne _ (Nat.ne_of_gt z)]; exact hi
  refine ⟨_, e, ⟨by rw [Array.size_setIfInBounds]; exact L.size, fun j k hj hk => ?_, fun k hk => ?_, way m h K :: used, by rw [List.length_cons, hu, List.length_append]; rfl, fun j hj hne => ?_⟩⟩
  · by_cases c : j = way m h K
    · subst c
      rw [hself] at hk
      cases hk
      exact ⟨h, K, by rw [List.getElem?_append_right (Nat.le_refl _), Nat.sub_self]; rfl, rfl, fun q hq => stay (hyes q hq)⟩
    · rw [oAt_set_ne _ c] at hk
      obtain ⟨h', K', a1, a2, a3⟩ := L.has j k hj hk
      have := (List.getElem?_eq_some_iff.mp a1).1
      exact ⟨h', K', by rw [List.getElem?_append_left this]; exact a1, a2, fun q hq => stay (a3 q hq)⟩
  · rw [List.length_append, List.length_singleton] at hk
    rcases Nat.lt_or_ge k done.length with c | c
    · obtain ⟨j, a1, a2⟩ := L.got k c
      exact ⟨j, a1, by rw [oAt_set_ne _ (keep a2)]; exact a2⟩
    · have : k = done.length := by omega
      subst this
      exact ⟨_, hw, hself⟩
  · by_cases c : j = way m h K
    · rw [c]; exact List.mem_cons_self
    · rw [oAt_set_ne _ c] at hne
      exact List.mem_cons_of_mem _ (hin j hj hne)
end NS

set_option maxHeartbeats 4000000
/-! Mr: sets of tuples of any depth: looked up, added to -/
namespace NS
open PySem PySem.Spec PyProof.Rows L2
section
variable {P : Program} {w : World} {A : Around} {E : Value → Shared → Prop} {s : Shared}
/-! ### what is asked of a key on the way -/
abbrev IsN (P : Program) (w : World) (h : Heap) (k : NestedKey) (a : Addr) : Prop := NestedIs h k (.ref a) ∧ k.depth ≤ 8
end
end NS

set_option maxHeartbeats 4000000
namespace NS
open PySem PySem.Spec PyProof.Rows L2
/-- rows of keys: where each key's tuple stands -/
abbrev Ks := List (Addr × NestedKey)
def rws (w : World) (L : Ks) : List (Int × Value) := L.map fun p => (p.2.hash w, Value.ref p.1)
def hss (w : World) (L : Ks) : List Int := L.map fun p => p.2.hash w
structure SetN (P : Program) (w : World) (h : Heap) (a : Addr) (L : Ks) (es : Array (Int × Value)) (ep : Nat) (t : SetTable) : Prop where
  obj : ∃ o, h.get? a = some o ∧ o.ExactSet ∧ o.data = .set es ep t
  row : es.toList = rws w L
  tab : Tb t (hss w L)
  nd : (L.map (·.2)).Nodup
  key : ∀ p ∈ L, IsN P w h p.2 p.1
  led : w.params.followText "set-order" = true ∨ t.led = true
  room : L.length * 5 < t.mask * 3
  few : L.length < 4000
section
variable {P : Program} {w : World} {A : Around} {E : Value → Shared → Prop} {s : Shared} {a : Addr} {L : Ks} {es : Array (Int × Value)} {ep : Nat} {t : SetTable} {h : Heap}
theorem stands {m : Nat} (hm : Mk m) : m % 2 = 1 := by rcases hm with e | e | e | e | e | e <;> subst e <;> rfl
end
end NS

set_option maxHeartbeats 4000000
namespace NS
open PySem PySem.Spec PyProof.Rows L2
section
variable {P : Program} {w : World} {A : Around} {E : Value → Shared → Prop} {s : Shared} {a : Addr} {L : Ks} {es : Array (Int × Value)} {ep : Nat} {t : SetTable} {h : Heap}
theorem sizes : SetTable.sizeAbove (SetTable.grown 5) = 31 + 1 ∧ SetTable.sizeAbove (SetTable.grown 19) = 127 + 1 ∧ SetTable.sizeAbove (SetTable.grown 77) = 511 + 1 ∧ SetTable.sizeAbove (SetTable.grown 307) = 2047 + 1 ∧ SetTable.sizeAbove (SetTable.grown 1229) = 8191 + 1 := by decide +kernel
end
end NS

set_option maxHeartbeats 2000000
/-! Mr: a def's mirror over data: what it gives as a function of data and of a store of the objects that change -/
namespace Mr
open PySem PySem.Spec PyProof.Rows L2
open Evl (Ex ex_l ex_t)

/-! ### data that stands for good -/
mutual
inductive Dz (K : PySem.W.Frag) (F : Hp) : V → PyData → Prop
  | non : Dz K F .non .none
  | bl (b : Bool) : Dz K F (.bl b) (.bool b)
  | int (i : Int) : Dz K F (.int i) (.int i)
  | str (x : Str) : Dz K F (.str x) (.str x)
  | lst {a : Addr} {xs : List V} {ds : List PyData} : F a = some (.lst xs) → DzAll K F xs ds → Dz K F (.ref a) (.list ds)
  | tup {a : Addr} {xs : List V} {ds : List PyData} : Sk.TupAt K F a xs → DzAll K F xs ds → Dz K F (.ref a) (.tuple ds)
inductive DzAll (K : PySem.W.Frag) (F : Hp) : List V → List PyData → Prop
  | nil : DzAll K F [] []
  | cons {v : V} {vs : List V} {d : PyData} {ds : List PyData} : Dz K F v d → DzAll K F vs ds → DzAll K F (v :: vs) (d :: ds)
end
mutual
theorem dz_ex {K : PySem.W.Frag} {F F' : Hp} (e : Ex F F') : ∀ (d : PyData) (v : V), Dz K F v d → Dz K F' v d
  | .none, _, h => by cases h; exact .non
  | .bool b, _, h => by cases h; exact .bl b
  | .int i, _, h => by cases h; exact .int i
  | .str x, _, h => by cases h; exact .str x
  | .list ds, _, h => by
    cases h with
    | lst hs ha => exact .lst (e _ _ hs) (dza_ex e ds _ ha)
  | .tuple ds, _, h => by
    cases h with
    | tup hs ha => exact .tup (hs.up e) (dza_ex e ds _ ha)
  | .dict _, _, h => by cases h
theorem dza_ex {K : PySem.W.Frag} {F F' : Hp} (e : Ex F F') : ∀ (ds : List PyData) (vs : List V), DzAll K F vs ds → DzAll K F' vs ds
  | [], _, h => by cases h; exact .nil
  | d :: ds, _, h => by
    cases h with
    | cons h1 h2 => exact .cons (dz_ex e d _ h1) (dza_ex e ds _ h2)
end
mutual
theorem dz_dp {K : PySem.W.Frag} {F : Hp} : ∀ (d : PyData) (v : V), Dz K F v d → Dp K F v d
  | .none, _, h => by cases h; exact .non
  | .bool b, _, h => by cases h; exact .bl b
  | .int i, _, h => by cases h; exact .int i
  | .str x, _, h => by cases h; exact .str x
  | .list ds, _, h => by
    cases h with
    | lst hs ha => exact .lst (.inl (.inl hs)) (dza_dpa ds _ ha)
  | .tuple ds, _, h => by
    cases h with
    | tup hs ha => exact .tup hs.1 (dza_dpa ds _ ha)
  | .dict _, _, h => by cases h
theorem dza_dpa {K : PySem.W.Frag} {F : Hp} : ∀ (ds : List PyData) (vs : List V), DzAll K F vs ds → DpAll K F vs ds
  | [], _, h => by cases h; exact .nil
  | d :: ds, _, h => by
    cases h with
    | cons h1 h2 => exact .cons (dz_dp d _ h1) (dza_dpa ds _ h2)
end
section
variable {K : PySem.W.Frag} {F F' H : Hp} {v : V} {d : PyData} {ds es : List PyData} {vs ws : List V}
theorem Dz.up (e : Ex F F') (h : Dz K F v d) : Dz K F' v d := dz_ex e d v h
theorem DzAll.up (e : Ex F F') (h : DzAll K F vs ds) : DzAll K F' vs ds := dza_ex e ds vs h
theorem Dz.dp (e : Ex F H) (h : Dz K F v d) : Dp K H v d := dz_dp d v (h.up e)
theorem DzAll.dp (e : Ex F H) (h : DzAll K F vs ds) : DpAll K H vs ds := dza_dpa ds vs (h.up e)
theorem DzAll.len : ∀ {vs : List V} {ds : List PyData}, DzAll K F vs ds → vs.length = ds.length
  | _, _, .nil => rfl
  | _, _, .cons _ t => by rw [List.length_cons, List.length_cons, DzAll.len t]
theorem DzAll.app : ∀ {vs ws : List V} {ds es : List PyData}, DzAll K F vs ds → DzAll K F ws es → DzAll K F (vs ++ ws) (ds ++ es)
  | _, _, _, _, .nil, s => s
  | _, _, _, _, .cons r t, s => .cons r (DzAll.app t s)
theorem DzAll.get : ∀ {vs : List V} {ds : List PyData} {i : Nat} {d : PyData}, DzAll K F vs ds → ds[i]? = some d → ∃ v, vs[i]? = some v ∧ Dz K F v d
  | _, _, _, _, .nil, h => by simp at h
  | _, _, 0, _, .cons r _, h => by simp at h; subst h; exact ⟨_, rfl, r⟩
  | _, _, i + 1, d, .cons _ t, h => by
    obtain ⟨v, h1, h2⟩ := DzAll.get (i := i) (d := d) t (by simpa using h)
    exact ⟨v, by simpa using h1, h2⟩
theorem DzAll.at : ∀ {vs : List V} {ds : List PyData} {i : Nat} {v : V}, DzAll K F vs ds → vs[i]? = some v → ∃ d, ds[i]? = some d ∧ Dz K F v d
  | _, _, _, _, .nil, h => by simp at h
  | _, _, 0, _, .cons r _, h => by simp at h; subst h; exact ⟨_, rfl, r⟩
  | _, _, i + 1, v, .cons _ t, h => by
    obtain ⟨d, h1, h2⟩ := DzAll.at (i := i) (v := v) t (by simpa using h)
    exact ⟨d, by simpa using h1, h2⟩
theorem DzAll.set {v : V} {d : PyData} (r : Dz K F v d) : ∀ {vs : List V} {ds : List PyData} (i : Nat), DzAll K F vs ds → DzAll K F (vs.set i v) (ds.set i d)
  | _, _, _, .nil => .nil
  | _, _, 0, .cons _ t => .cons r t
  | _, _, i + 1, .cons q t => .cons q (DzAll.set r i t)
theorem DzAll.take : ∀ {xs : List V} {ds : List PyData} (n : Nat), DzAll K F xs ds → DzAll K F (xs.take n) (ds.take n)
  | _, _, 0, _ => .nil
  | _, _, _ + 1, .nil => .nil
  | _, _, n + 1, .cons r t => .cons r (DzAll.take n t)
theorem DzAll.drop : ∀ {xs : List V} {ds : List PyData} (n : Nat), DzAll K F xs ds → DzAll K F (xs.drop n) (ds.drop n)
  | _, _, 0, r => r
  | _, _, _ + 1, .nil => .nil
  | _, _, n + 1, .cons _ t => DzAll.drop n t
theorem DzAll.rev {xs : List V} {ds : List PyData} (h : DzAll K F xs ds) : DzAll K F xs.reverse ds.reverse := by
  induction xs generalizing ds with
  | nil => cases h; exact .nil
  | cons x xs ih =>
    cases h with
    | cons h1 h2 =>
      rw [List.reverse_cons, List.reverse_cons]
      exact (ih h2).app (.cons h1 .nil)
theorem dz_int {i : Int} (h : Dz K F v (.int i)) : v = .int i := by cases h; rfl
theorem dz_bl {b : Bool} (h : Dz K F v (.bool b)) : v = .bl b := by cases h; rfl
theorem dz_non (h : Dz K F v .none) : v = .non := by cases h; rfl
theorem dz_str {x : Str} (h : Dz K F v (.str x)) : v = .str x := by cases h; rfl
theorem dz_tup (h : Dz K F v (.tuple ds)) : ∃ p xs, v = .ref p ∧ Sk.TupAt K F p xs ∧ DzAll K F xs ds := by
  cases h with
  | tup hs ha => exact ⟨_, _, rfl, hs, ha⟩
theorem dz_lst (h : Dz K F v (.list ds)) : ∃ p xs, v = .ref p ∧ F p = some (.lst xs) ∧ DzAll K F xs ds := by
  cases h with
  | lst hs ha => exact ⟨_, _, rfl, hs, ha⟩
theorem dza_bools : ∀ {vs : List V} {bs : List Bool}, DzAll K F vs (bs.map PyData.bool) → vs = bs.map V.bl
  | _, [], h => by cases h; rfl
  | _, n :: ns, h => by
    cases h with
    | cons h1 h2 => rw [dz_bl h1, dza_bools h2]; rfl
end

/-! ### the store: objects that change -/
/-- what stands in a cell of the store -/
inductive O where
  | dead
  | lst (ds : List PyData)
  | dct (kvs : List (PyData × PyData))
  | dki (kvs : List (Int × PyData))
  | st (ds : List PyData)
/-- what an expression gives: data, an object of the store, the script -/
inductive W where
  | d (x : PyData)
  | ref (n : Nat)
  | scr (ns : List Int)
  | kd (kvs : List (Int × PyData))
  | fn (x : Str)
  | ex (c : Str) (x : PyData)
abbrev Env := List (Option W)
abbrev Sto := List O
abbrev M := Env → Sto → Option (W × Sto)
abbrev MT := Env → Sto → Option (Bool × Sto)
abbrev MA := Env → Sto → Option (List W × Sto)
inductive R where
  | nx (e : Env) (s : Sto)
  | bk (e : Env) (s : Sto)
  | ct (e : Env) (s : Sto)
  | rt (w : W) (s : Sto)
abbrev MS := Env → Sto → Option R

/-- keys of dicts: tuples of data that hash -/
def keyOf : PyData → Option NestedKey
  | PyData.none => some NestedKey.none
  | .int i => some (NestedKey.num i)
  | .str x => some (NestedKey.text x)
  | .tuple ds => (keysOf ds).map NestedKey.tup
  | _ => none
where keysOf : List PyData → Option (List NestedKey)
  | [] => some []
  | d :: ds => match keyOf d, keysOf ds with
    | some k, some ks => some (k :: ks)
    | _, _ => none

section
variable (P : Program) (w : World) (K : PySem.W.Frag)
/-- the dict's own object, whatever its keys' tuples are -/
def RawD (a : Addr) (xs : List (NestedKey × Addr × Value)) (h : Heap) : Prop :=
  ∃ o es ep, h.get? a = some o ∧ o.ExactDict ∧ o.data = .dict es ep ∧ es.toList = xs.map (entryOfKey (nestedKind P w)) ∧ (xs.map (·.1)).Nodup
/-- a pair of a dict: its key's tuple is data of the frozen part -/
def PairOk (F : Hp) (p : PyData × PyData) (x : NestedKey × Addr × Value) : Prop :=
  keyOf p.1 = some x.1 ∧ x.1.depth ≤ 8 ∧ (∃ ds, p.1 = .tuple ds) ∧ Dz K F (.ref x.2.1) p.1 ∧ ∃ v, RelV v x.2.2 ∧ Dz K F v p.2
/-- a pair of a dict whose keys are ints -/
def PairI (F : Hp) (p : Int × PyData) (x : L2.Key × V) : Prop := x.1 = .inl p.1 ∧ Dz K F x.2 p.2
/-- a key of a set: its tuple is data of the frozen part -/
def KeyAt (F : Hp) (d : PyData) (p : Addr × NestedKey) : Prop := keyOf d = some p.2 ∧ p.2.depth ≤ 8 ∧ (∃ ds, d = .tuple ds) ∧ Dz K F (.ref p.1) d
/-- a set's own object, whatever its keys' tuples are -/
def RawS (a : Addr) (L : NS.Ks) (h : Heap) : Prop :=
  ∃ es ep t, (∃ o, h.get? a = some o ∧ o.ExactSet ∧ o.data = .set es ep t) ∧ es.toList = NS.rws w L ∧ NS.Tb t (NS.hss w L) ∧ (L.map (·.2)).Nodup ∧ (w.params.followText "set-order" = true ∨ t.led = true) ∧ L.length * 5 < t.mask * 3 ∧ L.length < 4000
def Cell (F H : Hp) (a : Addr) : O → Prop
  | .dead => (F a).isSome = true
  | .lst ds => F a = none ∧ ∃ vs, H a = some (.lst vs) ∧ DzAll K F vs ds
  | .dct kvs => F a = none ∧ (a == sysModules) = false ∧ ∃ xs, H a = some (.ext (RawD P w a xs)) ∧ Paired (PairOk K F) kvs xs
  | .dki kvs => F a = none ∧ ∃ xs, H a = some (.dK xs) ∧ Paired (PairI K F) kvs xs
  | .st ds => F a = none ∧ ∃ L L2, H a = some (.ext (RawS w a L)) ∧ L2.Perm L ∧ Paired (KeyAt K F) ds L2
structure Wd (F : Hp) (μ : List Addr) (S : Sto) (H : Hp) : Prop where
  ex : Ex F H
  len : μ.length = S.length
  nd : μ.Nodup
  cell : ∀ (n : Nat) (a : Addr) (o : O), μ[n]? = some a → S[n]? = some o → Cell P w K F H a o
end
def WRel (K : PySem.W.Frag) (F : Hp) (μ : List Addr) : W → V → Prop
  | .d x, v => Dz K F v x
  | .ref n, v => ∃ a, μ[n]? = some a ∧ v = .ref a
  | .scr ns, v => ∃ a, v = .ref a ∧ SqL K F a (ns.map V.int)
  | .kd kvs, v => ∃ a o xs, v = .ref a ∧ F a = some (.frz o (.dK xs)) ∧ Paired (PairI K F) kvs xs
  | .fn x, v => ∃ a, v = .ref a ∧ PySem.W.nsIn K mainGlobals x = some (some (.ref a))
  | .ex c x, v => ∃ (a C d : Addr) (u : V) (fI : Addr), v = .ref a ∧ PySem.W.nsIn K mainGlobals c = some (some (.ref C)) ∧ F a = some (Sk.ExHn (.ref C) (some d) a) ∧ F d = some (.xd [("value", u)]) ∧ Dz K F u x ∧ Sk.ExK K fI C
structure RelE (K : PySem.W.Frag) (F : Hp) (μ : List Addr) (σ : L2.St) (env : Env) : Prop where
  len : σ.length = env.length
  get : ∀ (i : Nat) (w : W), env[i]? = some (some w) → ∃ v : V, σ[i]? = some (some v) ∧ WRel K F μ w v
inductive WAll (K : PySem.W.Frag) (F : Hp) (μ : List Addr) : List W → List V → Prop
  | nil : WAll K F μ [] []
  | cons {w : W} {v : V} {ws : List W} {vs : List V} : WRel K F μ w v → WAll K F μ ws vs → WAll K F μ (w :: ws) (v :: vs)
/-- what may become of the world: what is frozen stays, objects of the store keep their places, all else stays as it is -/
structure Gr (F : Hp) (μ : List Addr) (H : Hp) (F' : Hp) (μ' : List Addr) (H' : Hp) : Prop where
  ex : Ex F F'
  pre : μ <+: μ'
  fr : ∀ b o, H b = some o → F b = none → b ∉ μ → H' b = some o ∧ F' b = none ∧ b ∉ μ'
section
variable {P : Program} {w : World} {K : PySem.W.Frag} {F F' F1 F2 H H' H1 H2 : Hp} {μ μ' μ1 μ2 : List Addr} {S S' : Sto} {σ : L2.St} {env : Env} {v : V} {x : W} {a p : Addr}
theorem Gr.refl : Gr F μ H F μ H := ⟨Evl.Ex.refl F, List.prefix_refl μ, fun _ _ h f m => ⟨h, f, m⟩⟩
theorem Gr.trans (g : Gr F μ H F1 μ1 H1) (h : Gr F1 μ1 H1 F2 μ2 H2) : Gr F μ H F2 μ2 H2 :=
  ⟨g.ex.trans h.ex, g.pre.trans h.pre, fun b o e f m => by
    obtain ⟨e1, f1, m1⟩ := g.fr b o e f m
    exact h.fr b o e1 f1 m1⟩
theorem pre_get (h : μ <+: μ') {n : Nat} (e : μ[n]? = some a) : μ'[n]? = some a := by
  obtain ⟨r, rfl⟩ := h
  rw [List.getElem?_append_left (by
    rcases Nat.lt_or_ge n μ.length with z | z
    · exact z
    · rw [List.getElem?_eq_none_iff.mpr z] at e; cases e)]
  exact e
theorem WRel.up (e : Ex F F') (m : μ <+: μ') (h : WRel K F μ x v) : WRel K F' μ' x v := by
  cases x with
  | d y => exact Dz.up e h
  | ref n =>
    obtain ⟨a, h1, h2⟩ := h
    exact ⟨a, pre_get m h1, h2⟩
  | scr ns =>
    obtain ⟨a, h1, h2⟩ := h
    exact ⟨a, h1, ex_l e h2⟩
  | kd kvs =>
    obtain ⟨a, o, xs, h1, h2, h3⟩ := h
    exact ⟨a, o, xs, h1, e _ _ h2, Paired.mapP h3 fun _ _ h => ⟨h.1, h.2.up e⟩⟩
  | fn x => exact h
  | ex c x =>
    obtain ⟨a, C, d, u, fI, h1, h2, h3, h4, h5, h6⟩ := h
    exact ⟨a, C, d, u, fI, h1, h2, e _ _ h3, e _ _ h4, h5.up e, h6⟩
theorem WRel.gr (g : Gr F μ H F' μ' H') (h : WRel K F μ x v) : WRel K F' μ' x v := h.up g.ex g.pre
theorem RelE.gr (g : Gr F μ H F' μ' H') (h : RelE K F μ σ env) : RelE K F' μ' σ env := ⟨h.len, fun i w e => by
  obtain ⟨v, h1, h2⟩ := h.get i w e
  exact ⟨v, h1, h2.gr g⟩⟩
theorem WAll.gr (g : Gr F μ H F' μ' H') : ∀ {ws : List W} {vs : List V}, WAll K F μ ws vs → WAll K F' μ' ws vs
  | _, _, .nil => .nil
  | _, _, .cons h t => .cons (h.gr g) (WAll.gr g t)
theorem WAll.len : ∀ {ws : List W} {vs : List V}, WAll K F μ ws vs → ws.length = vs.length
  | _, _, .nil => rfl
  | _, _, .cons _ t => by rw [List.length_cons, List.length_cons, WAll.len t]
theorem RelE.set (h : RelE K F μ σ env) {i : Nat} (r : WRel K F μ x v) : RelE K F μ (σ.set i (some v)) (env.set i (some x)) :=
  ⟨by rw [List.length_set, List.length_set]; exact h.len, fun j y e => by
    by_cases hj : i = j
    · subst hj
      have hi : i < env.length := by
        rcases Nat.lt_or_ge i env.length with z | z
        · exact z
        · rw [List.getElem?_eq_none_iff.mpr (by rw [List.length_set]; exact z)] at e; cases e
      rw [List.getElem?_set_self hi] at e
      cases e
      exact ⟨v, List.getElem?_set_self (by rw [h.len]; exact hi), r⟩
    · rw [List.getElem?_set_ne hj] at e
      obtain ⟨u, h1, h2⟩ := h.get j y e
      exact ⟨u, by rw [List.getElem?_set_ne hj]; exact h1, h2⟩⟩

/-! a new object is frozen -/
theorem Wd.fresh (d : Wd P w K F μ S H) (h : H p = none) : F p = none ∧ p ∉ μ := by
  have hF : F p = none := by
    cases q : F p with
    | none => rfl
    | some o => rw [d.ex p o q] at h; cases h
  refine ⟨hF, fun hm => ?_⟩
  obtain ⟨n, hn, e⟩ := List.getElem_of_mem hm
  have hS : n < S.length := by rw [← d.len]; exact hn
  have c := d.cell n p S[n] (by rw [List.getElem?_eq_getElem hn, e]) (List.getElem?_eq_getElem hS)
  cases q : S[n] with
  | dead => rw [q] at c; have c' : (F p).isSome = true := c; rw [hF] at c'; cases c'
  | lst ds => rw [q] at c; obtain ⟨_, vs, e, _⟩ := c; rw [h] at e; cases e
  | dct kvs => rw [q] at c; obtain ⟨_, _, xs, e, _⟩ := c; rw [h] at e; cases e
  | dki kvs => rw [q] at c; obtain ⟨_, xs, e, _⟩ := c; rw [h] at e; cases e
  | st ds => rw [q] at c; obtain ⟨_, L, L2, e, _⟩ := c; rw [h] at e; cases e
theorem pairOk_up (e : Ex F F') {p : PyData × PyData} {y : NestedKey × Addr × Value} (h : PairOk K F p y) : PairOk K F' p y := by
  obtain ⟨h1, h2, h3, h4, u, h5, h6⟩ := h
  exact ⟨h1, h2, h3, h4.up e, u, h5, h6.up e⟩
/-- a cell stays: its address is not frozen meanwhile, its object is as it was -/
theorem Cell.stay {o : O} (c : Cell P w K F H a o) (e : Ex F F') (h1 : F a = none → F' a = none) (h2 : F a = none → ∀ u, H a = some u → H' a = some u) : Cell P w K F' H' a o := by
  cases o with
  | dead =>
    have c' : (F a).isSome = true := c
    cases q : F a with
    | none => rw [q] at c'; cases c'
    | some u => show (F' a).isSome = true; rw [e a u q]; rfl
  | lst ds =>
    obtain ⟨z, vs, q, r⟩ := c
    exact ⟨h1 z, vs, h2 z _ q, r.up e⟩
  | dct kvs =>
    obtain ⟨z, y, xs, q, r⟩ := c
    exact ⟨h1 z, y, xs, h2 z _ q, Paired.mapP r fun _ _ => pairOk_up e⟩
  | dki kvs =>
    obtain ⟨z, xs, q, r⟩ := c
    exact ⟨h1 z, xs, h2 z _ q, Paired.mapP r fun _ _ h => ⟨h.1, h.2.up e⟩⟩
  | st ds =>
    obtain ⟨z, L, L2, q, pm, r⟩ := c
    exact ⟨h1 z, L, L2, h2 z _ q, pm, Paired.mapP r fun _ _ h => ⟨h.1, h.2.1, h.2.2.1, h.2.2.2.up e⟩⟩
theorem Wd.new (d : Wd P w K F μ S H) (h : H p = none) (o : HO) : Wd P w K (upd F p o) μ S (upd H p o) ∧ Gr F μ H (upd F p o) μ (upd H p o) := by
  obtain ⟨hF, hm⟩ := d.fresh h
  have e : Ex F (upd F p o) := Evl.Ex.new hF
  refine ⟨⟨fun b u q => ?_, d.len, d.nd, fun n a u h1 h2 => ?_⟩, e, List.prefix_refl _, fun b u q f m => ?_⟩
  · by_cases hb : b = p
    · subst hb; rw [upd_same] at q ⊢; exact q
    · rw [upd_ne hb] at q ⊢; exact d.ex b u q
  · have ne : a ≠ p := fun z => hm (by rw [← z]; exact List.mem_of_getElem? h1)
    exact (d.cell n a u h1 h2).stay e (fun z => by rw [upd_ne ne]; exact z) (fun _ u q => by rw [upd_ne ne]; exact q)
  · have ne : b ≠ p := fun z => by subst z; rw [h] at q; cases q
    exact ⟨by rw [upd_ne ne]; exact q, by rw [upd_ne ne]; exact f, m⟩
/-- a new object becomes a cell -/
theorem Wd.cellNew (d : Wd P w K F μ S H) (h : H p = none) {o : HO} {c : O} (hc : Cell P w K F (upd H p o) p c) : Wd P w K F (μ ++ [p]) (S ++ [c]) (upd H p o) ∧ Gr F μ H F (μ ++ [p]) (upd H p o) := by
  obtain ⟨hF, hm⟩ := d.fresh h
  refine ⟨⟨fun b u q => ?_, by rw [List.length_append, List.length_append, d.len]; rfl, ?_, fun n a u h1 h2 => ?_⟩, Evl.Ex.refl F, ⟨[p], rfl⟩, fun b u q f m => ?_⟩
  · have ne : b ≠ p := fun z => by subst z; rw [hF] at q; cases q
    rw [upd_ne ne]; exact d.ex b u q
  · rw [List.nodup_append]
    refine ⟨d.nd, by simp, fun b hb c hc z => ?_⟩
    rw [List.mem_singleton] at hc
    subst hc
    exact hm (z ▸ hb)
  · by_cases hn : n < μ.length
    · rw [List.getElem?_append_left hn] at h1
      rw [List.getElem?_append_left (by rw [← d.len]; exact hn)] at h2
      have ne : a ≠ p := fun z => hm (by rw [← z]; exact List.mem_of_getElem? h1)
      exact (d.cell n a u h1 h2).stay (Evl.Ex.refl F) (fun z => z) (fun _ u q => by rw [upd_ne ne]; exact q)
    · have e1 : n = μ.length := by
        have := (List.getElem?_eq_some_iff.mp h1).1
        rw [List.length_append] at this
        simp at this
        omega
      subst e1
      rw [List.getElem?_append_right (Nat.le_refl _), Nat.sub_self] at h1
      rw [d.len, List.getElem?_append_right (Nat.le_refl _), Nat.sub_self] at h2
      simp at h1 h2
      subst h1 h2
      exact hc
  · have ne : b ≠ p := fun z => by subst z; rw [h] at q; cases q
    refine ⟨by rw [upd_ne ne]; exact q, f, fun z => ?_⟩
    rcases List.mem_append.mp z with z | z
    · exact m z
    · exact ne (List.mem_singleton.mp z)
/-- a cell is written -/
theorem Wd.put (d : Wd P w K F μ S H) {n : Nat} (hn : μ[n]? = some a) (hF : F a = none) {o : HO} {c : O} (hc : Cell P w K F (upd H a o) a c) : Wd P w K F μ (S.set n c) (upd H a o) ∧ Gr F μ H F μ (upd H a o) := by
  refine ⟨⟨fun b u q => ?_, by rw [List.length_set]; exact d.len, d.nd, fun m b u h1 h2 => ?_⟩, Evl.Ex.refl F, List.prefix_refl _, fun b u q f m => ?_⟩
  · have ne : b ≠ a := fun z => by subst z; rw [hF] at q; cases q
    rw [upd_ne ne]; exact d.ex b u q
  · by_cases hm : m = n
    · subst hm
      rw [hn] at h1; cases h1
      have hl : m < S.length := by rw [← d.len]; exact (List.getElem?_eq_some_iff.mp hn).1
      rw [List.getElem?_set_self hl] at h2
      cases h2
      exact hc
    · rw [List.getElem?_set_ne (Ne.symm hm)] at h2
      have ne : b ≠ a := fun z => by
        subst z
        obtain ⟨l1, e1⟩ := List.getElem?_eq_some_iff.mp h1
        obtain ⟨l2, e2⟩ := List.getElem?_eq_some_iff.mp hn
        exact hm ((List.getElem_inj d.nd).mp (e1.trans e2.symm))
      exact (d.cell m b u h1 h2).stay (Evl.Ex.refl F) (fun z => z) (fun _ u q => by rw [upd_ne ne]; exact q)
  · have ne : b ≠ a := fun z => m (z ▸ List.mem_of_getElem? hn)
    exact ⟨by rw [upd_ne ne]; exact q, f, m⟩
end
end Mr

set_option maxHeartbeats 2000000
namespace Mr
open PySem PySem.Spec PyProof.Rows L2
open Evl (Ex ex_l ex_t)

/-! ### readings by mirrors -/
section
variable (P : Program) (w : World) (K : PySem.W.Frag)
def tM (m : M) : TE := fun σ H Q => ∃ F μ S env r S', Wd P w K F μ S H ∧ RelE K F μ σ env ∧ m env S = some (r, S') ∧ ∀ F' μ' H' v, Gr F μ H F' μ' H' → Wd P w K F' μ' S' H' → WRel K F' μ' r v → Q v H'
def tMT (m : MT) : TT := fun σ H Q => ∃ F μ S env r S', Wd P w K F μ S H ∧ RelE K F μ σ env ∧ m env S = some (r, S') ∧ ∀ F' μ' H', Gr F μ H F' μ' H' → Wd P w K F' μ' S' H' → Q r H'
def tMA (m : MA) : TA := fun σ H Q => ∃ F μ S env r S', Wd P w K F μ S H ∧ RelE K F μ σ env ∧ m env S = some (r, S') ∧ ∀ F' μ' H' vs, Gr F μ H F' μ' H' → Wd P w K F' μ' S' H' → WAll K F' μ' r vs → Q vs H'
/-- what a statement's end wants -/
def Aft (F : Hp) (μ : List Addr) (H : Hp) (D : Ends) : R → Prop
  | .nx e s => ∀ F' μ' H' σ', Gr F μ H F' μ' H' → Wd P w K F' μ' s H' → RelE K F' μ' σ' e → D.nx σ' H'
  | .bk e s => ∀ F' μ' H' σ', Gr F μ H F' μ' H' → Wd P w K F' μ' s H' → RelE K F' μ' σ' e → D.bk σ' H'
  | .ct e s => ∀ F' μ' H' σ', Gr F μ H F' μ' H' → Wd P w K F' μ' s H' → RelE K F' μ' σ' e → D.ct σ' H'
  | .rt x s => ∀ F' μ' H' v, Gr F μ H F' μ' H' → Wd P w K F' μ' s H' → WRel K F' μ' x v → D.rt v H'
def tMS (m : MS) : TS := fun D σ H => ∃ F μ S env r, Wd P w K F μ S H ∧ RelE K F μ σ env ∧ m env S = some r ∧ Aft P w K F μ H D r
end
section
variable {P : Program} {w : World} {K : PySem.W.Frag} {F F' H H' : Hp} {μ μ' : List Addr} {S S' : Sto} {σ : L2.St} {env : Env} {D D' : Ends} {r : R}
theorem Aft.gr (g : Gr F μ H F' μ' H') (h : Aft P w K F μ H D r) : Aft P w K F' μ' H' D r := by
  cases r with
  | nx e s => exact fun F2 μ2 H2 σ2 g2 d2 r2 => h F2 μ2 H2 σ2 (g.trans g2) d2 r2
  | bk e s => exact fun F2 μ2 H2 σ2 g2 d2 r2 => h F2 μ2 H2 σ2 (g.trans g2) d2 r2
  | ct e s => exact fun F2 μ2 H2 σ2 g2 d2 r2 => h F2 μ2 H2 σ2 (g.trans g2) d2 r2
  | rt x s => exact fun F2 μ2 H2 v g2 d2 r2 => h F2 μ2 H2 v (g.trans g2) d2 r2
theorem useM {m : M} {x : W} {Q : VK} (e : m env S = some (x, S')) (d : Wd P w K F μ S H) (re : RelE K F μ σ env)
    (q : ∀ F' μ' H' v, Gr F μ H F' μ' H' → Wd P w K F' μ' S' H' → RelE K F' μ' σ env → WRel K F' μ' x v → Q v H') : tM P w K m σ H Q :=
  ⟨F, μ, S, env, x, S', d, re, e, fun F' μ' H' v g d' r' => q F' μ' H' v g d' (re.gr g) r'⟩
theorem useT {m : MT} {b : Bool} {Q : Bool → Hp → Prop} (e : m env S = some (b, S')) (d : Wd P w K F μ S H) (re : RelE K F μ σ env)
    (q : ∀ F' μ' H', Gr F μ H F' μ' H' → Wd P w K F' μ' S' H' → RelE K F' μ' σ env → Q b H') : tMT P w K m σ H Q :=
  ⟨F, μ, S, env, b, S', d, re, e, fun F' μ' H' g d' => q F' μ' H' g d' (re.gr g)⟩
theorem useA {m : MA} {xs : List W} {Q : List V → Hp → Prop} (e : m env S = some (xs, S')) (d : Wd P w K F μ S H) (re : RelE K F μ σ env)
    (q : ∀ F' μ' H' vs, Gr F μ H F' μ' H' → Wd P w K F' μ' S' H' → RelE K F' μ' σ env → WAll K F' μ' xs vs → Q vs H') : tMA P w K m σ H Q :=
  ⟨F, μ, S, env, xs, S', d, re, e, fun F' μ' H' v g d' r' => q F' μ' H' v g d' (re.gr g) r'⟩
theorem useS {m : MS} (e : m env S = some r) (d : Wd P w K F μ S H) (re : RelE K F μ σ env) (q : Aft P w K F μ H D r) : tMS P w K m D σ H := ⟨F, μ, S, env, r, d, re, e, q⟩
end
theorem bindS {α β : Type} {o : Option α} {f : α → Option β} {b : β} (h : o.bind f = some b) : ∃ a, o = some a ∧ f a = some b := by
  cases o with
  | none => cases h
  | some a => exact ⟨a, rfl, h⟩

abbrev Cx.tE (X : Cx) (m : M) : TE := tM X.prog X.w X.K m
abbrev Cx.tT (X : Cx) (m : MT) : TT := tMT X.prog X.w X.K m
abbrev Cx.tA (X : Cx) (m : MA) : TA := tMA X.prog X.w X.K m
abbrev Cx.tS (X : Cx) (m : MS) : TS := tMS X.prog X.w X.K m
section
variable {X : Cx} {e : Expr} {t t' : TE}
theorem peI (h : PE X e t) (i : ∀ σ H Q, t' σ H Q → t σ H Q) : PE X e t' := ⟨fun pins s σ H Q I q => h.run pins s σ H Q I (i σ H Q q)⟩
theorem ptI {t t' : TT} (h : PT X e t) (i : ∀ σ H Q, t' σ H Q → t σ H Q) : PT X e t' := ⟨fun pins s σ H Q I q => h.run pins s σ H Q I (i σ H Q q)⟩
theorem pwI {t t' : TT} (h : PW X e t) (i : ∀ σ H Q, t' σ H Q → t σ H Q) : PW X e t' := ⟨fun wh pins s σ H Q I q => h.run wh pins s σ H Q I (i σ H Q q)⟩
theorem paI {es : List Expr} {t t' : TA} (h : PA X es t) (i : ∀ σ H Q, t' σ H Q → t σ H Q) : PA X es t' := ⟨fun pos pins s σ H Q I q => h.run pos pins s σ H Q I (i σ H Q q)⟩
theorem psI {st : Stmt} {t t' : TS} (h : PS X st t) (i : ∀ D σ H, t' D σ H → t D σ H) : PS X st t' := ⟨fun pins s σ H D I q => h.run pins s σ H D I (i D σ H q)⟩
theorem pssI {st : List Stmt} {t t' : TS} (h : PSs X st t) (i : ∀ D σ H, t' D σ H → t D σ H) : PSs X st t' := ⟨fun pins s σ H D I q => h.run pins s σ H D I (i D σ H q)⟩
end

/-! ### the mirrors -/
def mVar (i : Nat) : M := fun e S => match e[i]? with
  | some (some x) => some (x, S)
  | _ => none
def mC (x : PyData) : M := fun _ S => some (.d x, S)
abbrev O2 := W → W → Sto → Option (W × Sto)
abbrev O1 := W → Sto → Option (W × Sto)
abbrev On := List W → Sto → Option (W × Sto)
def mOp (o : O2) (a b : M) : M := fun e S => (a e S).bind fun p => (b e p.2).bind fun q => o p.1 q.1 q.2
def mUn (o : O1) (a : M) : M := fun e S => (a e S).bind fun p => o p.1 p.2
def mNil : MA := fun _ S => some ([], S)
def mCons (a : M) (t : MA) : MA := fun e S => (a e S).bind fun p => (t e p.2).bind fun q => some (p.1 :: q.1, q.2)
def mCall (f : On) (t : MA) : M := fun e S => (t e S).bind fun p => f p.1 p.2
def isB : W → Option Bool
  | .d (.bool b) => some b
  | _ => none
def mAnd (a b : M) : M := fun e S => (a e S).bind fun p => (isB p.1).bind fun c => if c = true then b e p.2 else some (.d (.bool false), p.2)
def mOr (a b : M) : M := fun e S => (a e S).bind fun p => (isB p.1).bind fun c => if c = true then some (.d (.bool true), p.2) else b e p.2
def mNot (a : M) : M := fun e S => (a e S).bind fun p => (isB p.1).bind fun c => some (.d (.bool (!c)), p.2)
def mIf (c : MT) (a b : M) : M := fun e S => (c e S).bind fun p => if p.1 = true then a e p.2 else b e p.2
def mChain (o o' : O2) (a b c : M) : M := fun e S => (a e S).bind fun p => (b e p.2).bind fun q => (o p.1 q.1 q.2).bind fun r => (isB r.1).bind fun k =>
  if k = true then (c e r.2).bind fun s => o' q.1 s.1 s.2 else some (.d (.bool false), r.2)
def cB (a : M) : MT := fun e S => (a e S).bind fun p => (isB p.1).bind fun c => some (c, p.2)
def cNot (a : MT) : MT := fun e S => (a e S).bind fun p => some (!p.1, p.2)
def cAnd (a b : MT) : MT := fun e S => (a e S).bind fun p => if p.1 = true then b e p.2 else some (false, p.2)
def cOr (a b : MT) : MT := fun e S => (a e S).bind fun p => if p.1 = true then some (true, p.2) else b e p.2
def cYes : MT := fun _ S => some (true, S)
/-- data alone -/
def datas : List W → Option (List PyData)
  | [] => some []
  | .d x :: ws => (datas ws).bind fun xs => some (x :: xs)
  | _ :: _ => none
def lim : Nat := 1000000
def mTup (t : MA) : M := fun e S => (t e S).bind fun p => (datas p.1).bind fun ds => if ds.length ≤ lim then some (.d (.tuple ds), p.2) else none
def mLst (t : MA) : M := fun e S => (t e S).bind fun p => (datas p.1).bind fun ds => if ds.length ≤ lim then some (.d (.list ds), p.2) else none
/-- a list that changes later -/
def mLstC (t : MA) : M := fun e S => (t e S).bind fun p => (datas p.1).bind fun ds => if ds.length ≤ lim then some (.ref p.2.length, p.2 ++ [.lst ds]) else none
/-- statements -/
def sNext : MS := fun e S => some (.nx e S)
def sBreak : MS := fun e S => some (.bk e S)
def sCont : MS := fun e S => some (.ct e S)
def sNever : MS := fun _ _ => none
def sSeq (a b : MS) : MS := fun e S => (a e S).bind fun r => match r with
  | .nx e1 S1 => b e1 S1
  | r => some r
def sRet (m : M) : MS := fun e S => (m e S).bind fun p => some (.rt p.1 p.2)
def sRetN : MS := fun _ S => some (.rt (.d .none) S)
def sDrop (m : M) : MS := fun e S => (m e S).bind fun p => some (.nx e p.2)
def sSet (i : Nat) (m : M) : MS := fun e S => (m e S).bind fun p => if i < e.length then some (.nx (e.set i (some p.1)) p.2) else none
def sPar (i j : Nat) (t : MA) : MS := fun e S => (t e S).bind fun p => match p.1 with
  | [x, y] => some (.nx ((e.set i (some x)).set j (some y)) p.2)
  | _ => none
def sIf (c : MT) (a b : MS) : MS := fun e S => (c e S).bind fun p => if p.1 = true then a e p.2 else b e p.2
def sWhile (c : MT) (b : MS) : Nat → MS
  | 0 => fun _ _ => none
  | n + 1 => fun e S => (c e S).bind fun p => if p.1 = true then (b e p.2).bind fun r => match r with
      | .nx e1 S1 => sWhile c b n e1 S1
      | .ct e1 S1 => sWhile c b n e1 S1
      | .bk e1 S1 => some (.nx e1 S1)
      | .rt x S1 => some (.rt x S1)
    else some (.nx e p.2)
/-- targets -/
inductive Tg where
  | nm (i : Nat)
  | tp (ts : List Tg)
mutual
def Tg.set : Tg → W → Env → Option Env
  | .nm i, x, e => some (e.set i (some x))
  | .tp ts, .d (.tuple ds), e => if ds.length = ts.length then Tg.sets ts ds e else none
  | .tp _, _, _ => none
def Tg.sets : List Tg → List PyData → Env → Option Env
  | [], [], e => some e
  | t :: ts, d :: ds, e => (Tg.set t (.d d) e).bind fun e1 => Tg.sets ts ds e1
  | _, _, _ => none
end
mutual
def Tg.tg (K : PySem.W.Frag) : Tg → TG
  | .nm i => gName i
  | .tp ts => gTup K ts.length (Tg.tgs K ts)
def Tg.tgs (K : PySem.W.Frag) : List Tg → TGs
  | [] => gNil
  | t :: ts => gCons (Tg.tg K t) (Tg.tgs K ts)
end
mutual
def Tg.names : Tg → List Nat
  | .nm i => [i]
  | .tp ts => Tg.namess ts
def Tg.namess : List Tg → List Nat
  | [] => []
  | t :: ts => Tg.names t ++ Tg.namess ts
end
def sAsg (t : Tg) (m : M) : MS := fun e S => (m e S).bind fun p => (t.set p.1 e).bind fun e1 => some (.nx e1 p.2)
/-- what a for walks: the items -/
abbrev MI := Env → Sto → Option (List W × Sto)
def forL (t : Tg) (b : MS) : List W → MS
  | [] => fun e S => some (.nx e S)
  | x :: xs => fun e S => (t.set x e).bind fun e1 => (b e1 S).bind fun r => match r with
      | .nx e2 S2 => forL t b xs e2 S2
      | .ct e2 S2 => forL t b xs e2 S2
      | .bk e2 S2 => some (.nx e2 S2)
      | .rt x S2 => some (.rt x S2)
def sFor (mi : MI) (t : Tg) (b : MS) : MS := fun e S => (mi e S).bind fun p => forL t b p.1 e p.2
/-- comprehensions: the items' values -/
def compL (t : Tg) (c : MT) (m : M) (e : Env) : List W → Sto → Option (List PyData × Sto)
  | [], S => some ([], S)
  | x :: xs, S => (t.set x e).bind fun e1 => (c e1 S).bind fun p => if p.1 = true then (m e1 p.2).bind fun q => (datas [q.1]).bind fun ds => (compL t c m e xs q.2).bind fun r => some (ds ++ r.1, r.2)
      else compL t c m e xs p.2
def wipeE (e : Env) : List Nat → Env
  | [] => e
  | i :: is => (wipeE e is).set i none
def mLc (mi : MI) (t : Tg) (c : MT) (m : M) : M := fun e S => (mi e S).bind fun p => if p.1.length ≤ lim then (compL t c m (wipeE e t.names) p.1 p.2).bind fun r => some (.d (.list r.1), r.2) else none
def mLcC (mi : MI) (t : Tg) (c : MT) (m : M) : M := fun e S => (mi e S).bind fun p => if p.1.length ≤ lim then (compL t c m (wipeE e t.names) p.1 p.2).bind fun r => some (.ref r.2.length, r.2 ++ [.lst r.1]) else none
/-- a def's own: the parameters, then names without a value; what it made and does not hand back is forgotten -/
def fnM (n many : Nat) (b : MS) : On := fun ws S => if ws.length = n then (b (ws.map some ++ List.replicate (many - n) none) S).bind fun r => match r with
    | .nx _ S1 => some (.d .none, S1.take S.length)
    | .rt (.ref k) S1 => if k < S.length then some (.ref k, S1.take S.length) else (S1[k]?).bind fun o => some (.ref S.length, S1.take S.length ++ [o])
    | .rt x S1 => some (x, S1.take S.length)
    | _ => none
  else none
end Mr

set_option maxHeartbeats 2000000
namespace Mr
open PySem PySem.Spec PyProof.Rows L2
open Evl (Ex ex_l ex_t)
section
variable {X : Cx} {a b c e : Expr} {es : List Expr} {ma mb mc m : M} {pos : Pos}

/-! ### names, constants -/
theorem me_of {t : TE} (h : PE X e t) (i : ∀ σ H Q F μ S env x S', Wd X.prog X.w X.K F μ S H → RelE X.K F μ σ env → m env S = some (x, S') → (∀ F' μ' H' v, Gr F μ H F' μ' H' → Wd X.prog X.w X.K F' μ' S' H' → WRel X.K F' μ' x v → Q v H') → t σ H Q) : PE X e (Cx.tE X m) :=
  peI h fun σ H Q ⟨F, μ, S, env, x, S', d, re, e, q⟩ => i σ H Q F μ S env x S' d re e q
theorem me_var {i : Nat} {x : Str} (h : PE X (.Name x pos) (tVar i)) : PE X (.Name x pos) (Cx.tE X (mVar i)) :=
  me_of h fun σ H Q F μ S env y S' d re e q => by
    unfold mVar at e
    split at e
    · rename_i w hw
      obtain ⟨v, h1, h2⟩ := re.get i w hw
      cases e
      exact ⟨v, h1, q F μ H v .refl d h2⟩
    · cases e
theorem me_c {v : V} {x : PyData} (h : PE X e (tC v)) (r : ∀ F, Dz X.K F v x) : PE X e (Cx.tE X (mC x)) :=
  me_of h fun σ H Q F μ S env y S' d re e q => by
    cases e
    exact q F μ H v .refl d (r F)
theorem me_int {i : Int} {j pos} : PE X (.Constant (.int i) j pos) (Cx.tE X (mC (.int i))) := me_c pe_int fun _ => .int i
theorem me_bl {i : Bool} {j pos} : PE X (.Constant (.bool i) j pos) (Cx.tE X (mC (.bool i))) := me_c pe_bl fun _ => .bl i
theorem me_non {j pos} : PE X (.Constant .none j pos) (Cx.tE X (mC .none)) := me_c pe_non fun _ => .non
theorem me_str {x : Str} {j pos} : PE X (.Constant (.str x) j pos) (Cx.tE X (mC (.str x))) := me_c pe_str fun _ => .str x

/-! ### operators by values -/
def OpD (P : Program) (w : World) (K : PySem.W.Frag) (o : O2) (r : R2) : Prop := ∀ F μ S H x y a b c S' Q, Wd P w K F μ S H → WRel K F μ a x → WRel K F μ b y → o a b S = some (c, S') →
  (∀ F' μ' H' v, Gr F μ H F' μ' H' → Wd P w K F' μ' S' H' → WRel K F' μ' c v → Q v H') → r x y H Q
/-- f by values is o -/
def BOp (X : Cx) (f : Value → Value → Sem Value) (o : O2) : Prop := ∃ r, OpR X f r ∧ OpD X.prog X.w X.K o r
def U1D (P : Program) (w : World) (K : PySem.W.Frag) (o : O1) (r : V → Hp → VK → Prop) : Prop := ∀ F μ S H x a c S' Q, Wd P w K F μ S H → WRel K F μ a x → o a S = some (c, S') →
  (∀ F' μ' H' v, Gr F μ H F' μ' H' → Wd P w K F' μ' S' H' → WRel K F' μ' c v → Q v H') → r x H Q
def UOp (X : Cx) (f : Value → Sem Value) (o : O1) : Prop := ∃ r, UnR X f r ∧ U1D X.prog X.w X.K o r
def CnD (P : Program) (w : World) (K : PySem.W.Frag) (o : On) (r : List V → Hp → VK → Prop) : Prop := ∀ F μ S H xs as c S' Q, Wd P w K F μ S H → WAll K F μ as xs → o as S = some (c, S') →
  (∀ F' μ' H' v, Gr F μ H F' μ' H' → Wd P w K F' μ' S' H' → WRel K F' μ' c v → Q v H') → r xs H Q
def COp (X : Cx) (f : Value) (o : On) : Prop := ∃ r, CallR X f r ∧ CnD X.prog X.w X.K o r
def orO (o o' : O2) : O2 := fun a b S => match o a b S with
  | some r => some r
  | none => o' a b S
theorem BOp.or {f : Value → Value → Sem Value} {o o' : O2} (h : BOp X f o) (h' : BOp X f o') : BOp X f (orO o o') := by
  obtain ⟨r, h1, h2⟩ := h
  obtain ⟨r', h3, h4⟩ := h'
  refine ⟨_, Sk.OpR.or h1 h3, fun F μ S H x y a b c S' Q d ra rb e q => ?_⟩
  unfold orO at e
  split at e
  · rename_i z hz
    cases e
    exact .inl (h2 F μ S H x y a b c S' Q d ra rb hz q)
  · exact .inr (h4 F μ S H x y a b c S' Q d ra rb e q)
theorem tOp_of {r : R2} {o : O2} (ho : OpD X.prog X.w X.K o r) {σ : L2.St} {H : Hp} {Q : VK} {F : Hp} {μ : List Addr} {S S' : Sto} {env : Env} {x : W} (d : Wd X.prog X.w X.K F μ S H) (re : RelE X.K F μ σ env) (e : mOp o ma mb env S = some (x, S'))
    (q : ∀ F' μ' H' v, Gr F μ H F' μ' H' → Wd X.prog X.w X.K F' μ' S' H' → WRel X.K F' μ' x v → Q v H') : tOp r (Cx.tE X ma) (Cx.tE X mb) σ H Q := by
  obtain ⟨⟨x1, S1⟩, e1, e⟩ := bindS e
  obtain ⟨⟨x2, S2⟩, e2, e⟩ := bindS e
  refine useM e1 d re fun F1 μ1 H1 v1 g1 d1 re1 r1 => useM e2 d1 re1 fun F2 μ2 H2 v2 g2 d2 re2 r2 => ?_
  exact ho F2 μ2 S2 H2 v1 v2 x1 x2 x S' Q d2 (r1.gr g2) r2 e fun F3 μ3 H3 v3 g3 d3 r3 => q F3 μ3 H3 v3 ((g1.trans g2).trans g3) d3 r3
theorem me_op {op : Operator} {o : O2} (ho : BOp X (binaryOp op) o) (ha : PE X a (Cx.tE X ma)) (hb : PE X b (Cx.tE X mb)) : PE X (.BinOp a op b pos) (Cx.tE X (mOp o ma mb)) := by
  obtain ⟨r, h1, h2⟩ := ho
  exact me_of (pe_op h1 ha hb) fun σ H Q F μ S env x S' d re e q => tOp_of h2 d re e q
theorem me_cmp {op : CmpOp} {o : O2} (ho : BOp X (compareOp op) o) (ha : PE X a (Cx.tE X ma)) (hb : PE X b (Cx.tE X mb)) (hm : behindInMarks op b = false) : PE X (.Compare a [op] [b] pos) (Cx.tE X (mOp o ma mb)) := by
  obtain ⟨r, h1, h2⟩ := ho
  exact me_of (pe_cmpR h1 ha hb hm) fun σ H Q F μ S env x S' d re e q => tOp_of h2 d re e q
theorem me_un {op : UnaryOp} {o : O1} (ho : UOp X (unaryOp op) o) (ha : PE X a (Cx.tE X ma)) : PE X (.UnaryOp op a pos) (Cx.tE X (mUn o ma)) := by
  obtain ⟨r, h1, h2⟩ := ho
  refine me_of (pe_un h1 ha) fun σ H Q F μ S env x S' d re e q => ?_
  obtain ⟨⟨x1, S1⟩, e1, e⟩ := bindS e
  exact useM e1 d re fun F1 μ1 H1 v1 g1 d1 re1 r1 => h2 F1 μ1 S1 H1 v1 x1 x S' Q d1 r1 e fun F2 μ2 H2 v2 g2 d2 r2 => q F2 μ2 H2 v2 (g1.trans g2) d2 r2
theorem isB_rel {x : W} {k : Bool} (h : isB x = some k) : x = .d (.bool k) := by
  unfold isB at h
  split at h
  · cases h; rfl
  · cases h
theorem rel_bl {F : Hp} {μ : List Addr} {x : W} {v : V} {k : Bool} (r : WRel X.K F μ x v) (h : isB x = some k) : v = .bl k := by
  rw [isB_rel h] at r
  exact dz_bl r
/-! ### and, or, not, if -/
theorem me_one {op} (h : PE X a (Cx.tE X ma)) : PE X (.BoolOp op [a] pos) (Cx.tE X ma) := pe_one h
theorem me_and {rest : List Expr} (ha : PE X a (Cx.tE X ma)) (hb : PE X (.BoolOp .And (b :: rest) pos) (Cx.tE X mb)) : PE X (.BoolOp .And (a :: b :: rest) pos) (Cx.tE X (mAnd ma mb)) := by
  refine me_of (pe_and ha hb) fun σ H Q F μ S env x S' d re e q => ?_
  obtain ⟨⟨x1, S1⟩, e1, e⟩ := bindS e
  obtain ⟨k, e2, e⟩ := bindS e
  refine useM e1 d re fun F1 μ1 H1 v1 g1 d1 re1 r1 => ⟨k, rel_bl r1 e2, ?_⟩
  cases k with
  | true => exact useM e d1 re1 fun F2 μ2 H2 v2 g2 d2 re2 r2 => q F2 μ2 H2 v2 (g1.trans g2) d2 r2
  | false => cases e; exact q F1 μ1 H1 _ g1 d1 (.bl false)
theorem me_not (ha : PE X a (Cx.tE X ma)) : PE X (.UnaryOp .Not a pos) (Cx.tE X (mNot ma)) := by
  refine me_of (pe_not ha) fun σ H Q F μ S env x S' d re e q => ?_
  obtain ⟨⟨x1, S1⟩, e1, e⟩ := bindS e
  obtain ⟨k, e2, e⟩ := bindS e
  cases e
  exact useM e1 d re fun F1 μ1 H1 v1 g1 d1 re1 r1 => ⟨k, rel_bl r1 e2, q F1 μ1 H1 _ g1 d1 (.bl _)⟩
theorem mt_of {t : TT} {mt : MT} (h : PT X e t) (i : ∀ σ H Q F μ S env k S', Wd X.prog X.w X.K F μ S H → RelE X.K F μ σ env → mt env S = some (k, S') → (∀ F' μ' H', Gr F μ H F' μ' H' → Wd X.prog X.w X.K F' μ' S' H' → Q k H') → t σ H Q) : PT X e (Cx.tT X mt) :=
  ptI h fun σ H Q ⟨F, μ, S, env, x, S', d, re, e, q⟩ => i σ H Q F μ S env x S' d re e q
theorem mw_of {t : TT} {mt : MT} (h : PW X e t) (i : ∀ σ H Q F μ S env k S', Wd X.prog X.w X.K F μ S H → RelE X.K F μ σ env → mt env S = some (k, S') → (∀ F' μ' H', Gr F μ H F' μ' H' → Wd X.prog X.w X.K F' μ' S' H' → Q k H') → t σ H Q) : PW X e (Cx.tT X mt) :=
  pwI h fun σ H Q ⟨F, μ, S, env, x, S', d, re, e, q⟩ => i σ H Q F μ S env x S' d re e q
theorem tB_of {σ : L2.St} {H : Hp} {Q : Bool → Hp → Prop} {F : Hp} {μ : List Addr} {S S' : Sto} {env : Env} {k : Bool} (d : Wd X.prog X.w X.K F μ S H) (re : RelE X.K F μ σ env) (e : cB ma env S = some (k, S'))
    (q : ∀ F' μ' H', Gr F μ H F' μ' H' → Wd X.prog X.w X.K F' μ' S' H' → Q k H') : (Cx.tE X ma) σ H fun x H1 => ∃ c, x = .bl c ∧ Q c H1 := by
  obtain ⟨⟨x1, S1⟩, e1, e⟩ := bindS e
  obtain ⟨c, e2, e⟩ := bindS e
  cases e
  exact useM e1 d re fun F1 μ1 H1 v1 g1 d1 re1 r1 => ⟨k, rel_bl r1 e2, q F1 μ1 H1 g1 d1⟩
theorem mt_val (h : PE X e (Cx.tE X ma)) (he : ∀ whole, isTrue e X.env whole = (do let v ← whole; standAt e.pos; holding [v] (truthy v)) := by intro _; rfl) : PT X e (Cx.tT X (cB ma)) :=
  mt_of (pt_val h he) fun σ H Q F μ S env k S' d re e q => tB_of d re e q
theorem mt_cmp {op : CmpOp} {o : O2} (ho : BOp X (compareOp op) o) (ha : PE X a (Cx.tE X ma)) (hb : PE X b (Cx.tE X mb)) (hm : behindInMarks op b = false) : PT X (.Compare a [op] [b] pos) (Cx.tT X (cB (mOp o ma mb))) := by
  obtain ⟨r, h1, h2⟩ := ho
  refine mt_of (pt_cmpR h1 ha hb hm) fun σ H Q F μ S env k S' d re e q => ?_
  obtain ⟨⟨x1, S1⟩, e1, e⟩ := bindS e
  obtain ⟨c, e2, e⟩ := bindS e
  cases e
  exact tOp_of h2 d re e1 fun F1 μ1 H1 v1 g1 d1 r1 => ⟨k, rel_bl r1 e2, q F1 μ1 H1 g1 d1⟩
variable {ta tb : MT} {rest : List Expr}
theorem mw_and1 (ha : PT X a (Cx.tT X ta)) : PW X (.BoolOp .And [a] pos) (Cx.tT X ta) := pw_and1 ha
theorem mw_or1 (ha : PT X a (Cx.tT X ta)) : PW X (.BoolOp .Or [a] pos) (Cx.tT X ta) := pw_or1 ha
theorem mw_and (ha : PT X a (Cx.tT X ta)) (hb : PW X (.BoolOp .And (b :: rest) pos) (Cx.tT X tb)) : PW X (.BoolOp .And (a :: b :: rest) pos) (Cx.tT X (cAnd ta tb)) := by
  refine mw_of (pw_and ha hb) fun σ H Q F μ S env k S' d re e q => ?_
  obtain ⟨⟨k1, S1⟩, e1, e⟩ := bindS e
  refine useT e1 d re fun F1 μ1 H1 g1 d1 re1 => ?_
  cases k1 with
  | true => exact useT e d1 re1 fun F2 μ2 H2 g2 d2 re2 => q F2 μ2 H2 (g1.trans g2) d2
  | false => cases e; exact q F1 μ1 H1 g1 d1
theorem mw_or (ha : PT X a (Cx.tT X ta)) (hb : PW X (.BoolOp .Or (b :: rest) pos) (Cx.tT X tb)) : PW X (.BoolOp .Or (a :: b :: rest) pos) (Cx.tT X (cOr ta tb)) := by
  refine mw_of (pw_or ha hb) fun σ H Q F μ S env k S' d re e q => ?_
  obtain ⟨⟨k1, S1⟩, e1, e⟩ := bindS e
  refine useT e1 d re fun F1 μ1 H1 g1 d1 re1 => ?_
  cases k1 with
  | false => exact useT e d1 re1 fun F2 μ2 H2 g2 d2 re2 => q F2 μ2 H2 (g1.trans g2) d2
  | true => cases e; exact q F1 μ1 H1 g1 d1
theorem mt_not (ha : PT X a (Cx.tT X ta)) : PT X (.UnaryOp .Not a pos) (Cx.tT X (cNot ta)) := by
  refine mt_of (pt_not ha) fun σ H Q F μ S env k S' d re e q => ?_
  obtain ⟨⟨k1, S1⟩, e1, e⟩ := bindS e
  cases e
  exact useT e1 d re fun F1 μ1 H1 g1 d1 re1 => q F1 μ1 H1 g1 d1
theorem me_ifExp (hc : PT X c (Cx.tT X ta)) (ha : PE X a (Cx.tE X ma)) (hb : PE X b (Cx.tE X mb)) : PE X (.IfExp c a b pos) (Cx.tE X (mIf ta ma mb)) := by
  refine me_of (pe_ifExp hc ha hb) fun σ H Q F μ S env x S' d re e q => ?_
  obtain ⟨⟨k1, S1⟩, e1, e⟩ := bindS e
  refine useT e1 d re fun F1 μ1 H1 g1 d1 re1 => ?_
  cases k1 with
  | true => exact useM e d1 re1 fun F2 μ2 H2 v2 g2 d2 re2 r2 => q F2 μ2 H2 v2 (g1.trans g2) d2 r2
  | false => exact useM e d1 re1 fun F2 μ2 H2 v2 g2 d2 re2 r2 => q F2 μ2 H2 v2 (g1.trans g2) d2 r2

/-! ### arguments, displays, calls -/
variable {mr : MA}
theorem ma_nil : PA X [] (Cx.tA X mNil) := paI pa_nil fun σ H Q ⟨F, μ, S, env, x, S', d, re, e, q⟩ => by
  cases e
  exact q F μ H [] .refl d .nil
theorem tCons_of {σ : L2.St} {H : Hp} {Q : List V → Hp → Prop} {F : Hp} {μ : List Addr} {S S' : Sto} {env : Env} {xs : List W} (d : Wd X.prog X.w X.K F μ S H) (re : RelE X.K F μ σ env) (e : mCons ma mr env S = some (xs, S'))
    (q : ∀ F' μ' H' vs, Gr F μ H F' μ' H' → Wd X.prog X.w X.K F' μ' S' H' → WAll X.K F' μ' xs vs → Q vs H') : tCons (Cx.tE X ma) (Cx.tA X mr) σ H Q := by
  obtain ⟨⟨x1, S1⟩, e1, e⟩ := bindS e
  obtain ⟨⟨x2, S2⟩, e2, e⟩ := bindS e
  cases e
  exact useM e1 d re fun F1 μ1 H1 v1 g1 d1 re1 r1 => useA e2 d1 re1 fun F2 μ2 H2 vs g2 d2 re2 r2 => q F2 μ2 H2 (v1 :: vs) (g1.trans g2) d2 (.cons (r1.gr g2) r2)
theorem ma_cons (ha : PE X e (Cx.tE X ma)) (hr : PA X es (Cx.tA X mr)) (hs : starEach (e :: es) X.env = (false, eval e X.env) :: starEach es X.env := by rfl) : PA X (e :: es) (Cx.tA X (mCons ma mr)) :=
  paI (pa_cons ha hr hs) fun σ H Q ⟨F, μ, S, env, x, S', d, re, e, q⟩ => tCons_of d re e q
theorem datas_rel {F : Hp} {μ : List Addr} : ∀ {ws : List W} {vs : List V} {ds : List PyData}, WAll X.K F μ ws vs → datas ws = some ds → DzAll X.K F vs ds
  | _, _, _, .nil, h => by cases h; exact .nil
  | .d x :: ws, _, _, .cons r t, h => by
    obtain ⟨xs, e1, e2⟩ := bindS h
    cases e2
    exact .cons r (datas_rel t e1)
  | .ref _ :: _, _, _, .cons _ _, h => by cases h
  | .scr _ :: _, _, _, .cons _ _, h => by cases h
  | .kd _ :: _, _, _, .cons _ _, h => by cases h
  | .fn _ :: _, _, _, .cons _ _, h => by cases h
  | .ex _ _ :: _, _, _, .cons _ _, h => by cases h
theorem lim_ok {n : Nat} (h : n ≤ lim) : n ≤ sizeLine := Nat.le_trans h (by decide)
theorem me_tup {x1} (h : PA X es (Cx.tA X mr)) : PE X (.Tuple es x1 pos) (Cx.tE X (mTup mr)) := by
  refine me_of (Sk.pe_tupF h) fun σ H Q F μ S env x S' d re e q => ?_
  obtain ⟨⟨xs, S1⟩, e1, e⟩ := bindS e
  obtain ⟨ds, e2, e⟩ := bindS e
  have hl : ds.length ≤ lim := by
    by_cases z : ds.length ≤ lim
    · exact z
    · dsimp only at e; rw [if_neg z] at e; cases e
  dsimp only at e
  rw [if_pos hl] at e
  cases e
  refine useA e1 d re fun F1 μ1 H1 vs g1 d1 re1 r1 => ?_
  have da := datas_rel r1 e2
  refine ⟨lim_ok (by rw [da.len]; exact hl), fun p o hp ho => ?_⟩
  obtain ⟨d2, g2⟩ := d1.new hp (.frz o (.tup vs))
  exact q _ _ _ _ (g1.trans g2) d2 (.tup (xs := vs) ⟨.inl (.inr ⟨o, upd_same⟩), .inl ⟨o, _, upd_same, ho⟩⟩ (da.up g2.ex))
theorem me_lst (h : PA X es (Cx.tA X mr)) : PE X (.List es pos) (Cx.tE X (mLst mr)) := by
  refine me_of (pe_lst h) fun σ H Q F μ S env x S' d re e q => ?_
  obtain ⟨⟨xs, S1⟩, e1, e⟩ := bindS e
  obtain ⟨ds, e2, e⟩ := bindS e
  have hl : ds.length ≤ lim := by
    by_cases z : ds.length ≤ lim
    · exact z
    · dsimp only at e; rw [if_neg z] at e; cases e
  dsimp only at e
  rw [if_pos hl] at e
  cases e
  refine useA e1 d re fun F1 μ1 H1 vs g1 d1 re1 r1 => ?_
  have da := datas_rel r1 e2
  refine ⟨lim_ok (by rw [da.len]; exact hl), fun p hp => ?_⟩
  obtain ⟨d2, g2⟩ := d1.new hp (.lst vs)
  exact q _ _ _ _ (g1.trans g2) d2 (.lst upd_same (da.up g2.ex))
theorem me_lstC (h : PA X es (Cx.tA X mr)) : PE X (.List es pos) (Cx.tE X (mLstC mr)) := by
  refine me_of (pe_lst h) fun σ H Q F μ S env x S' d re e q => ?_
  obtain ⟨⟨xs, S1⟩, e1, e⟩ := bindS e
  obtain ⟨ds, e2, e⟩ := bindS e
  have hl : ds.length ≤ lim := by
    by_cases z : ds.length ≤ lim
    · exact z
    · dsimp only at e; rw [if_neg z] at e; cases e
  dsimp only at e
  rw [if_pos hl] at e
  cases e
  refine useA e1 d re fun F1 μ1 H1 vs g1 d1 re1 r1 => ?_
  have da := datas_rel r1 e2
  refine ⟨lim_ok (by rw [da.len]; exact hl), fun p hp => ?_⟩
  obtain ⟨d2, g2⟩ := d1.cellNew hp (o := .lst vs) (c := .lst ds) ⟨(d1.fresh hp).1, vs, upd_same, da⟩
  refine q _ _ _ _ (g1.trans g2) d2 ⟨p, ?_, rfl⟩
  rw [← d1.len, List.getElem?_append_right (Nat.le_refl _), Nat.sub_self]
  rfl
/-- a builtin's call -/
theorem tCB_of {r : List V → Hp → VK → Prop} {o : On} (ho : CnD X.prog X.w X.K o r) {σ : L2.St} {H : Hp} {Q : VK} {F : Hp} {μ : List Addr} {S S' : Sto} {env : Env} {x : W} (d : Wd X.prog X.w X.K F μ S H) (re : RelE X.K F μ σ env) (e : mCall o mr env S = some (x, S'))
    (q : ∀ F' μ' H' v, Gr F μ H F' μ' H' → Wd X.prog X.w X.K F' μ' S' H' → WRel X.K F' μ' x v → Q v H') : tCB r (Cx.tA X mr) σ H Q := by
  obtain ⟨⟨xs, S1⟩, e1, e⟩ := bindS e
  exact useA e1 d re fun F1 μ1 H1 vs g1 d1 re1 r1 => ho F1 μ1 S1 H1 vs xs x S' Q d1 r1 e fun F2 μ2 H2 v2 g2 d2 r2 => q F2 μ2 H2 v2 (g1.trans g2) d2 r2
theorem me_callB {x : Str} {id : String} {p : Pos} {o : On} (hc : COp X (.builtin id) o) (hg : Gl X x) (hm : X.mg x = none) (hv : bootBuiltins x = some (.builtin id)) (ha : PA X (e :: es) (Cx.tA X mr)) (hn : x ≠ "__name__" := by decide) (hdb : (x == ("__debug__" : Str)) = false := by decide)
    (he : starEach (e :: es) X.env = (false, eval e X.env) :: starEach es X.env := by rfl) (hpl : (backTo pos (starEach es X.env)).any (·.1) = false := by rfl) : PE X (.Call (.Name x p) (e :: es) [] pos) (Cx.tE X (mCall o mr)) := by
  obtain ⟨r, h1, h2⟩ := hc
  exact me_of (pe_callB h1 hg hm hv ha hn hdb he hpl) fun σ H Q F μ S env y S' d re e q => tCB_of h2 d re e q
end
end Mr

set_option maxHeartbeats 2000000
namespace Mr
open PySem PySem.Spec PyProof.Rows L2
open Evl (Ex ex_l ex_t)

/-! ### slots forgotten -/
theorem wipe_set {σ : L2.St} {i : Nat} {x : Option V} : ∀ {vs : List Nat}, wipe (σ.set i x) vs = if i ∈ vs then wipe σ vs else (wipe σ vs).set i x
  | [] => by simp [wipe]
  | v :: vs => by
    unfold wipe
    rw [wipe_set (vs := vs)]
    by_cases h1 : i = v
    · subst h1
      by_cases h2 : i ∈ vs
      · simp [h2]
      · simp [h2]
    · by_cases h2 : i ∈ vs
      · simp [h2]
      · rw [if_neg h2, if_neg (by simp [h1, h2])]
        rw [List.set_comm _ _ h1]
section
variable {P : Program} {w : World} {K : PySem.W.Frag} {F F' H H' : Hp} {μ μ' : List Addr} {S S' : Sto} {σ : L2.St} {env : Env} {D : Ends} {v : V} {x : W}
theorem RelE.none (h : RelE K F μ σ env) (i : Nat) : RelE K F μ (σ.set i none) (env.set i none) :=
  ⟨by rw [List.length_set, List.length_set]; exact h.len, fun j y e => by
    by_cases hj : i = j
    · subst hj
      have hi : i < env.length := by
        rcases Nat.lt_or_ge i env.length with z | z
        · exact z
        · rw [List.getElem?_eq_none_iff.mpr (by rw [List.length_set]; exact z)] at e; cases e
      rw [List.getElem?_set_self hi] at e
      cases e
    · rw [List.getElem?_set_ne hj] at e
      obtain ⟨u, h1, h2⟩ := h.get j y e
      exact ⟨u, by rw [List.getElem?_set_ne hj]; exact h1, h2⟩⟩
theorem RelE.wipe (h : RelE K F μ σ env) : ∀ vs : List Nat, RelE K F μ (L2.wipe σ vs) (wipeE env vs)
  | [] => h
  | i :: is => (RelE.wipe h is).none i
mutual
theorem tg_ok {vs : List Nat} : ∀ (t : Tg) (x : W) (e e' : Env) (v : V) (σ σ0 : L2.St) (H : Hp) (Q : L2.St → Hp → Prop), t.set x e = some e' → Ex F H → RelE K F μ σ e → WRel K F μ x v → (∀ i ∈ t.names, i ∈ vs) →
    (∀ σ', RelE K F μ σ' e' → L2.wipe σ' vs = L2.wipe σ vs → Q σ' H) → t.tg K v σ H Q
  | .nm i, x, e, e', v, σ, σ0, H, Q, h, hx, re, r, hv, q => by
    unfold Tg.set at h
    cases h
    unfold Tg.tg
    exact q _ (re.set r) (by rw [wipe_set, if_pos (hv i (by simp [Tg.names]))])
  | .tp ts, x, e, e', v, σ, σ0, H, Q, h, hx, re, r, hv, q => by
    cases x with
    | ref n => unfold Tg.set at h; cases h
    | scr n => unfold Tg.set at h; cases h
    | kd n => unfold Tg.set at h; cases h
    | fn n => unfold Tg.set at h; cases h
    | ex c n => unfold Tg.set at h; cases h
    | d y =>
      cases y with
      | tuple ds =>
        unfold Tg.set at h
        by_cases hl : ds.length = ts.length
        · rw [if_pos hl] at h
          obtain ⟨p, xs, rfl, hp, ha⟩ := dz_tup r
          unfold Tg.tg
          refine ⟨p, xs, rfl, ex_t hx hp.1, by rw [ha.len]; exact hl, ?_⟩
          exact tgs_ok ts ds e e' xs σ σ0 H Q h hx re ha hv q
        · rw [if_neg hl] at h; cases h
      | none => unfold Tg.set at h; cases h
      | bool b => unfold Tg.set at h; cases h
      | int b => unfold Tg.set at h; cases h
      | str b => unfold Tg.set at h; cases h
      | list b => unfold Tg.set at h; cases h
      | dict b => unfold Tg.set at h; cases h
theorem tgs_ok {vs : List Nat} : ∀ (ts : List Tg) (ds : List PyData) (e e' : Env) (xs : List V) (σ σ0 : L2.St) (H : Hp) (Q : L2.St → Hp → Prop), Tg.sets ts ds e = some e' → Ex F H → RelE K F μ σ e → DzAll K F xs ds → (∀ i ∈ Tg.namess ts, i ∈ vs) →
    (∀ σ', RelE K F μ σ' e' → L2.wipe σ' vs = L2.wipe σ vs → Q σ' H) → Tg.tgs K ts xs σ H Q
  | [], ds, e, e', xs, σ, σ0, H, Q, h, hx, re, r, hv, q => by
    cases ds with
    | nil =>
      unfold Tg.sets at h
      cases h
      cases r
      unfold Tg.tgs
      exact ⟨rfl, q σ re rfl⟩
    | cons d ds => unfold Tg.sets at h; cases h
  | t :: ts, ds, e, e', xs, σ, σ0, H, Q, h, hx, re, r, hv, q => by
    cases ds with
    | nil => unfold Tg.sets at h; cases h
    | cons d ds =>
      unfold Tg.sets at h
      obtain ⟨e1, h1, h2⟩ := bindS h
      cases r with
      | cons r1 r2 =>
        unfold Tg.tgs
        refine ⟨_, _, rfl, ?_⟩
        refine tg_ok t (.d d) e e1 _ σ σ0 H _ h1 hx re r1 (fun i hi => hv i (by unfold Tg.namess; exact List.mem_append_left _ hi)) fun σ1 re1 w1 => ?_
        exact tgs_ok ts ds e1 e' _ σ1 σ0 H Q h2 hx re1 r2 (fun i hi => hv i (by unfold Tg.namess; exact List.mem_append_right _ hi)) fun σ2 re2 w2 => q σ2 re2 (w2.trans w1)
end
/-! ### an object beside -/
theorem Wd.side (d : Wd P w K F μ S H) {p : Addr} (hF : F p = Option.none) (hm : p ∉ μ) (o : HO) : Wd P w K F μ S (upd H p o) :=
  ⟨fun b u q => by rw [upd_ne (fun z => by subst z; rw [hF] at q; cases q)]; exact d.ex b u q, d.len, d.nd, fun n a u h1 h2 =>
    (d.cell n a u h1 h2).stay (Evl.Ex.refl F) (fun z => z) fun _ u q => by rw [upd_ne (fun z => hm (by rw [← z]; exact List.mem_of_getElem? h1))]; exact q⟩
/-- .. is frozen -/
theorem Wd.freeze (d : Wd P w K F μ S H) {p : Addr} (hF : F p = Option.none) (hm : p ∉ μ) {o : HO} (h : H p = some o) : Wd P w K (upd F p o) μ S H :=
  ⟨fun b u q => by
    by_cases hb : b = p
    · subst hb; rw [upd_same] at q; cases q; exact h
    · rw [upd_ne hb] at q; exact d.ex b u q, d.len, d.nd, fun n a u h1 h2 =>
    (d.cell n a u h1 h2).stay (Evl.Ex.new hF) (fun z => by rw [upd_ne (fun z => hm (by rw [← z]; exact List.mem_of_getElem? h1))]; exact z) fun _ u q => q⟩
/-- .. becomes a cell -/
theorem Wd.adopt (d : Wd P w K F μ S H) {p : Addr} (hm : p ∉ μ) {c : O} (hc : Cell P w K F H p c) : Wd P w K F (μ ++ [p]) (S ++ [c]) H := by
  refine ⟨d.ex, by rw [List.length_append, List.length_append, d.len]; rfl, ?_, fun n a u h1 h2 => ?_⟩
  · rw [List.nodup_append]
    refine ⟨d.nd, by simp, fun b hb c hc z => ?_⟩
    rw [List.mem_singleton] at hc
    subst hc
    exact hm (z ▸ hb)
  · by_cases hn : n < μ.length
    · rw [List.getElem?_append_left hn] at h1
      rw [List.getElem?_append_left (by rw [← d.len]; exact hn)] at h2
      exact d.cell n a u h1 h2
    · have e1 : n = μ.length := by
        have := (List.getElem?_eq_some_iff.mp h1).1
        rw [List.length_append] at this
        simp at this
        omega
      subst e1
      rw [List.getElem?_append_right (Nat.le_refl _), Nat.sub_self] at h1
      rw [d.len, List.getElem?_append_right (Nat.le_refl _), Nat.sub_self] at h2
      simp at h1 h2
      subst h1 h2
      exact hc
/-- .. was not there before -/
theorem Gr.beside {F0 H0 : Hp} {μ0 : List Addr} (g : Gr F0 μ0 H0 F μ H) {p : Addr} (h0 : H0 p = Option.none) {o : HO} : Gr F0 μ0 H0 F μ (upd H p o) := ⟨g.ex, g.pre, fun b u e f m => by
  obtain ⟨h1, h2, h3⟩ := g.fr b u e f m
  exact ⟨by rw [upd_ne (fun z => by subst z; rw [h0] at e; cases e)]; exact h1, h2, h3⟩⟩
theorem Gr.frozen {F0 H0 : Hp} {μ0 : List Addr} (g : Gr F0 μ0 H0 F μ H) {p : Addr} (h0 : H0 p = Option.none) (hF : F p = Option.none) {o : HO} : Gr F0 μ0 H0 (upd F p o) μ H := ⟨g.ex.trans (Evl.Ex.new hF), g.pre, fun b u e f m => by
  obtain ⟨h1, h2, h3⟩ := g.fr b u e f m
  exact ⟨h1, by rw [upd_ne (fun z => by subst z; rw [h0] at e; cases e)]; exact h2, h3⟩⟩
/-! ### what is walked -/
structure Walk (P : Program) (w : World) (K : PySem.W.Frag) (J : It) (F : Hp) (μ : List Addr) (ws : List W) : Prop where
  go : ∀ i H, Ex F H → i < ws.length → J.go i H
  stop : ∀ i H, Ex F H → ws.length ≤ i → J.stop i H
  yld : ∀ i x, ws[i]? = some x → ∀ F2 μ2 S2 H2 v H3, Ex F F2 → μ <+: μ2 → Wd P w K F2 μ2 S2 H2 → J.yld i H2 v H3 → ∃ F3, Wd P w K F3 μ2 S2 H3 ∧ Gr F2 μ2 H2 F3 μ2 H3 ∧ WRel K F3 μ2 x v
end
def tMI (P : Program) (w : World) (K : PySem.W.Frag) (mi : MI) : TI := fun σ H R => ∃ F μ S env ws S', Wd P w K F μ S H ∧ RelE K F μ σ env ∧ mi env S = some (ws, S') ∧ ∀ F' μ' H' J, Gr F μ H F' μ' H' → Wd P w K F' μ' S' H' → Walk P w K J F' μ' ws → R J H'
abbrev Cx.tI (X : Cx) (m : MI) : TI := tMI X.prog X.w X.K m
section
variable {X : Cx} {a b c e : Expr} {es : List Expr} {st : Stmt} {body rest : List Stmt} {ma mb m : M} {mt : MT} {ms ms' : MS} {mr : MA} {pos : Pos}
theorem ms_of {t : TS} (h : PS X st t) (i : ∀ D σ H F μ S env r, Wd X.prog X.w X.K F μ S H → RelE X.K F μ σ env → ms env S = some r → Aft X.prog X.w X.K F μ H D r → t D σ H) : PS X st (Cx.tS X ms) :=
  psI h fun D σ H ⟨F, μ, S, env, r, d, re, e, q⟩ => i D σ H F μ S env r d re e q
theorem mss_of {t : TS} (h : PSs X body t) (i : ∀ D σ H F μ S env r, Wd X.prog X.w X.K F μ S H → RelE X.K F μ σ env → ms env S = some r → Aft X.prog X.w X.K F μ H D r → t D σ H) : PSs X body (Cx.tS X ms) :=
  pssI h fun D σ H ⟨F, μ, S, env, r, d, re, e, q⟩ => i D σ H F μ S env r d re e q
theorem mss_nil : PSs X [] (Cx.tS X sNext) := mss_of pss_nil fun D σ H F μ S env r d re e q => by
  cases e
  exact q F μ H σ .refl d re
theorem mss_cons (h1 : PS X st (Cx.tS X ms)) (h2 : PSs X rest (Cx.tS X ms')) : PSs X (st :: rest) (Cx.tS X (sSeq ms ms')) := mss_of (pss_cons h1 h2) fun D σ H F μ S env r d re e q => by
  obtain ⟨r1, e1, e2⟩ := bindS e
  refine useS e1 d re ?_
  cases r1 with
  | nx e3 S3 => exact fun F' μ' H' σ' g d' re' => useS e2 d' re' (q.gr g)
  | bk e3 S3 => cases e2; exact q
  | ct e3 S3 => cases e2; exact q
  | rt x S3 => cases e2; exact q
theorem mss_one (h1 : PS X st (Cx.tS X ms)) : PSs X [st] (Cx.tS X ms) := pss_one h1
theorem ms_never : PS X st (Cx.tS X sNever) := ms_of (t := tNever) ps_never fun D σ H F μ S env r d re e q => by cases e
theorem ms_expr (he : PE X e (Cx.tE X m)) (hs : swapsWith e none pos.line X.env = pure false := by rfl) : PS X (.Expr e pos) (Cx.tS X (sDrop m)) := ms_of (ps_expr he hs) fun D σ H F μ S env r d re e q => by
  obtain ⟨⟨x, S1⟩, e1, e2⟩ := bindS e
  cases e2
  exact useM e1 d re fun F1 μ1 H1 v1 g1 d1 re1 r1 => q F1 μ1 H1 σ g1 d1 re1
theorem ms_ret (he : PE X e (Cx.tE X m)) : PS X (.Return (some e) pos) (Cx.tS X (sRet m)) := ms_of (ps_ret he) fun D σ H F μ S env r d re e q => by
  obtain ⟨⟨x, S1⟩, e1, e2⟩ := bindS e
  cases e2
  exact useM e1 d re fun F1 μ1 H1 v1 g1 d1 re1 r1 => q F1 μ1 H1 v1 g1 d1 r1
theorem ms_if (hc : PT X c (Cx.tT X mt)) (ha : PSs X body (Cx.tS X ms)) (hb : PSs X rest (Cx.tS X ms')) : PS X (.If c body rest pos) (Cx.tS X (sIf mt ms ms')) := ms_of (ps_if hc ha hb) fun D σ H F μ S env r d re e q => by
  obtain ⟨⟨k, S1⟩, e1, e2⟩ := bindS e
  refine useT e1 d re fun F1 μ1 H1 g1 d1 re1 => ?_
  cases k with
  | true => exact useS e2 d1 re1 (q.gr g1)
  | false => exact useS e2 d1 re1 (q.gr g1)
theorem tSet_of {i : Nat} {te : TE} (hte : ∀ σ H Q, (Cx.tE X m) σ H Q → te σ H Q) : ∀ D σ H F μ S env r, Wd X.prog X.w X.K F μ S H → RelE X.K F μ σ env → sSet i m env S = some r → Aft X.prog X.w X.K F μ H D r → tAsg te (gName i) D σ H := fun D σ H F μ S env r d re e q => by
  obtain ⟨⟨x, S1⟩, e1, e2⟩ := bindS e
  by_cases hi : i < env.length
  · dsimp only at e2
    rw [if_pos hi] at e2
    cases e2
    exact hte _ _ _ (useM e1 d re fun F1 μ1 H1 v1 g1 d1 re1 r1 => q F1 μ1 H1 _ g1 d1 (re1.set r1))
  · dsimp only at e2
    rw [if_neg hi] at e2
    cases e2
theorem ms_set {i : Nat} {x : Str} {pos' : Pos} (hN : X.N.Nodup) (hi : X.N[i]? = some x) (hx : Loc X.env.scope x) (he : PE X e (Cx.tE X m)) (hs : swapsWith e (some (.Name x pos')) pos.line X.env = pure false := by rfl) (hf : X.fn x = true ∨ X.env.scope.names.lookup x = some .local := by first | exact .inl rfl | exact .inr rfl | assumption) :
    PS X (.Assign [.Name x pos'] e pos) (Cx.tS X (sSet i m)) := ms_of (ps_set hN hi hx he hs hf) (tSet_of fun _ _ _ h => h)
/-- a, b = x, y of plain names -/
theorem tPar_of {i j : Nat} : ∀ D σ H F μ S env r, Wd X.prog X.w X.K F μ S H → RelE X.K F μ σ env → sPar i j mr env S = some r → Aft X.prog X.w X.K F μ H D r → tPar i j (Cx.tA X mr) D σ H := fun D σ H F μ S env r d re e q => by
  obtain ⟨⟨xs, S1⟩, e1, e2⟩ := bindS e
  dsimp only at e2
  split at e2
  · rename_i x y
    cases e2
    refine useA e1 d re fun F1 μ1 H1 vs g1 d1 re1 r1 => ?_
    cases r1 with
    | cons r2 r3 => cases r3 with
      | cons r4 r5 =>
        cases r5
        exact ⟨_, _, rfl, q F1 μ1 H1 _ g1 d1 ((re1.set r2).set r4)⟩
  · cases e2
theorem ms_par {i j : Nat} {x y : Str} {px py pt : Pos} {kt k2 pt2} (hc : X.calm = true) (hN : X.N.Nodup) (hi : X.N[i]? = some x) (hj : X.N[j]? = some y) (hij : i ≠ j)
    (hx : X.env.scope.names.lookup x = some .local) (hy : X.env.scope.names.lookup y = some .local) (ha : PA X [a, b] (Cx.tA X mr))
    (hw : swappedStores [.Tuple [.Name x px, .Name y py] kt pt] (.Tuple [a, b] k2 pt2) X.env = pure (some [x, y]))
    (hs : swapsWithSole [.Tuple [.Name x px, .Name y py] kt pt] (.Tuple [a, b] k2 pt2) pos.line X.env = pure false := by rfl) :
    PS X (.Assign [.Tuple [.Name x px, .Name y py] kt pt] (.Tuple [a, b] k2 pt2) pos) (Cx.tS X (sPar i j mr)) := ms_of (ps_par hc hN hi hj hij hx hy ha hw hs) tPar_of
/-- target = value -/
theorem ms_asg {tg : Expr} {t : Tg} (he : PE X e (Cx.tE X m)) (hg : PG X tg (t.tg X.K)) (hs : swapsWithSole [tg] e pos.line X.env = pure false := by rfl) (hw : swappedStores [tg] e X.env = pure none := by rfl)
    (h1 : (assignEach [tg] X.env).map (·.2) = [assign tg X.env] := by rfl) : PS X (.Assign [tg] e pos) (Cx.tS X (sAsg t m)) := ms_of (ps_asg he hg hs hw h1) fun D σ H F μ S env r d re e q => by
  obtain ⟨⟨x, S1⟩, e1, e2⟩ := bindS e
  obtain ⟨en, e3, e4⟩ := bindS e2
  cases e4
  refine useM e1 d re fun F1 μ1 H1 v1 g1 d1 re1 r1 => ?_
  exact tg_ok (vs := t.names) t x env en v1 σ σ H1 _ e3 d1.ex re1 r1 (fun _ h => h) fun σ' re' _ => q F1 μ1 H1 σ' g1 d1 re'
theorem mg_name {i : Nat} {x : Str} {p : Pos} (h : PG X (.Name x p) (gName i)) : PG X (.Name x p) ((Tg.nm i).tg X.K) := by
  unfold Tg.tg; exact h
theorem mgs_nil : PGs X [] (Tg.tgs X.K []) := by unfold Tg.tgs; exact pgs_nil
theorem mgs_cons {t : Tg} {ts : List Tg} (h1 : PG X e (t.tg X.K)) (h2 : PGs X es (Tg.tgs X.K ts))
    (hs : (assignEach (e :: es) X.env).map (·.2) = assign e X.env :: (assignEach es X.env).map (·.2) := by rfl) : PGs X (e :: es) (Tg.tgs X.K (t :: ts)) := by
  unfold Tg.tgs; exact pgs_cons h1 h2 hs
theorem mg_tup {ts : List Tg} {k : Nat} (hc : X.calm = true) (h : PGs X es (Tg.tgs X.K ts))
    (hn : (assignEach es X.env).length = ts.length := by rfl) (hst : (assignEach es X.env).findIdx? (·.1) = none := by rfl) : PG X (.Tuple es k pos) ((Tg.tp ts).tg X.K) := by
  unfold Tg.tg; exact pg_tup hc h hn hst
/-! ### while, for -/
theorem ms_while (N : Nat) (hp : PassesOwn (model X.prog X.w) X.A X.env X.xe) (hc : PT X c (Cx.tT X mt)) (hb : PSs X body (Cx.tS X ms)) : PS X (.While c body [] pos) (Cx.tS X (sWhile mt ms N)) := ms_of (ps_while hp hc hb) fun D σ H F μ S env r d re e q => by
  refine ⟨fun n σ H => ∃ F μ S env r, Wd X.prog X.w X.K F μ S H ∧ RelE X.K F μ σ env ∧ sWhile mt ms n env S = some r ∧ Aft X.prog X.w X.K F μ H D r, ⟨N, F, μ, S, env, r, d, re, e, q⟩, ?_⟩
  rintro n σ H ⟨F, μ, S, env, r, d, re, e, q⟩
  cases n with
  | zero => cases e
  | succ n =>
    unfold sWhile at e
    obtain ⟨⟨k, S1⟩, e1, e2⟩ := bindS e
    refine useT e1 d re fun F1 μ1 H1 g1 d1 re1 => ?_
    cases k with
    | false =>
      cases e2
      exact q F1 μ1 H1 σ g1 d1 re1
    | true =>
      show ∃ N, _
      rw [if_pos rfl] at e2
      obtain ⟨r1, e3, e4⟩ := bindS e2
      refine ⟨fun σ' H' => ∃ m', m' < n + 1 ∧ ∃ F μ S env r, Wd X.prog X.w X.K F μ S H' ∧ RelE X.K F μ σ' env ∧ sWhile mt ms m' env S = some r ∧ Aft X.prog X.w X.K F μ H' D r, fun σ' H' h => h, ?_⟩
      refine useS e3 d1 re1 ?_
      cases r1 with
      | nx e5 S5 => exact fun F2 μ2 H2 σ2 g2 d2 re2 => ⟨n, Nat.lt_succ_self n, F2, μ2, S5, e5, r, d2, re2, e4, (q.gr g1).gr g2⟩
      | ct e5 S5 => exact fun F2 μ2 H2 σ2 g2 d2 re2 => ⟨n, Nat.lt_succ_self n, F2, μ2, S5, e5, r, d2, re2, e4, (q.gr g1).gr g2⟩
      | bk e5 S5 =>
        cases e4
        exact fun F2 μ2 H2 σ2 g2 d2 re2 => q F2 μ2 H2 σ2 (g1.trans g2) d2 re2
      | rt x S5 =>
        cases e4
        exact fun F2 μ2 H2 v2 g2 d2 r2 => q F2 μ2 H2 v2 (g1.trans g2) d2 r2
theorem ms_for {tg iter : Expr} {mi : MI} {t : Tg} (hp : PassesOwn (model X.prog X.w) X.A X.env X.xe) (hc : X.calm = true) (hi : PI X tg iter (Cx.tI X mi)) (hg : PG X tg (t.tg X.K)) (hb : PSs X body (Cx.tS X ms))
    (hs : ∀ x, foldedSetIterable iter X.env x = pure x := by intro _; rfl) : PS X (.For tg iter body [] pos) (Cx.tS X (sFor mi t ms)) := ms_of (ps_for hp hc hi hg hb hs) fun D σ H F μ S env r d re e q => by
  obtain ⟨⟨ws, S1⟩, e1, e2⟩ := bindS e
  refine ⟨F, μ, S, env, ws, S1, d, re, e1, fun F1 μ1 H1 J g1 d1 wk => ?_⟩
  have hlen : ∀ {i : Nat} {l : List W}, ws.drop i = l → l = [] → ws.length ≤ i := fun h z => by
    subst z
    exact List.drop_eq_nil_iff.mp h
  refine ⟨fun i m σ H => m + i = ws.length + 1 ∧ i ≤ ws.length ∧ ∃ F μ S env r, Ex F1 F ∧ μ1 <+: μ ∧ Wd X.prog X.w X.K F μ S H ∧ RelE X.K F μ σ env ∧ forL t ms (ws.drop i) env S = some r ∧ Aft X.prog X.w X.K F μ H D r,
    ⟨ws.length + 1, rfl, Nat.zero_le _, F1, μ1, S1, env, r, Evl.Ex.refl _, List.prefix_refl _, d1, re.gr g1, e2, q.gr g1⟩, ?_⟩
  rintro i m σ H ⟨hm, hi, F, μ, S, env, r, x1, p1, d, re, e, q⟩
  cases hd : ws.drop i with
  | nil =>
    rw [hd] at e
    unfold forL at e
    cases e
    exact .inl ⟨wk.stop i H (x1.trans d.ex) (hlen hd rfl), q F μ H σ .refl d re⟩
  | cons x xs =>
    have hlt : i < ws.length := by
      rcases Nat.lt_or_ge i ws.length with z | z
      · exact z
      · rw [List.drop_eq_nil_iff.mpr z] at hd; cases hd
    have hx : ws[i]? = some x := by
      rw [List.drop_eq_getElem_cons hlt] at hd
      injection hd with h1 _
      rw [← h1]; exact List.getElem?_eq_getElem hlt
    have hxs : ws.drop (i + 1) = xs := by
      rw [List.drop_eq_getElem_cons hlt] at hd
      injection hd
    rw [hd] at e
    unfold forL at e
    obtain ⟨en, e3, e4⟩ := bindS e
    obtain ⟨r1, e5, e6⟩ := bindS e4
    refine .inr ⟨wk.go i H (x1.trans d.ex) hlt, fun σ' H' => ∃ m', m' < m ∧ (m' + (i + 1) = ws.length + 1 ∧ i + 1 ≤ ws.length ∧ ∃ F μ S env r, Ex F1 F ∧ μ1 <+: μ ∧ Wd X.prog X.w X.K F μ S H' ∧ RelE X.K F μ σ' env ∧ forL t ms (ws.drop (i + 1)) env S = some r ∧ Aft X.prog X.w X.K F μ H' D r), fun _ _ h => h, fun v H2 hy => ?_⟩
    obtain ⟨F3, d3, g3, r3⟩ := wk.yld i x hx F μ S H v H2 x1 p1 d hy
    refine tg_ok (vs := t.names) t x env en v σ σ H2 _ e3 d3.ex (re.gr g3) r3 (fun _ h => h) fun σ2 re2 _ => ?_
    refine useS e5 d3 re2 ?_
    cases r1 with
    | nx e7 S7 => exact fun F4 μ4 H4 σ4 g4 d4 re4 => ⟨m - 1, by omega, by omega, by omega, F4, μ4, S7, e7, r, (x1.trans g3.ex).trans g4.ex, (p1.trans g3.pre).trans g4.pre, d4, re4, by rw [hxs]; exact e6, (q.gr g3).gr g4⟩
    | ct e7 S7 => exact fun F4 μ4 H4 σ4 g4 d4 re4 => ⟨m - 1, by omega, by omega, by omega, F4, μ4, S7, e7, r, (x1.trans g3.ex).trans g4.ex, (p1.trans g3.pre).trans g4.pre, d4, re4, by rw [hxs]; exact e6, (q.gr g3).gr g4⟩
    | bk e7 S7 =>
      cases e6
      exact fun F4 μ4 H4 σ4 g4 d4 re4 => q F4 μ4 H4 σ4 (g3.trans g4) d4 re4
    | rt y S7 =>
      cases e6
      exact fun F4 μ4 H4 v4 g4 d4 r4 => q F4 μ4 H4 v4 (g3.trans g4) d4 r4
end
end Mr

set_option maxHeartbeats 2000000
namespace Mr
open PySem PySem.Spec PyProof.Rows L2
open Evl (Ex ex_l ex_t)

/-! ### comprehensions -/
section
variable {X : Cx} {e : Expr} {mt : MT} {m : M} {mi : MI} {t : Tg}
theorem mts_nil : PTs X [] (Cx.tT X cYes) := ⟨fun pins s σ H Q I ⟨F, μ, S, env, x, S', d, re, e, q⟩ => by
  cases e
  exact pts_nil.run pins s σ H Q I (q F μ H .refl d)⟩
theorem mts_one {c : Expr} (h : PT X c (Cx.tT X mt)) : PTs X [c] (Cx.tT X mt) := pts_one h
theorem lc_all {σ : L2.St} {F1 H1 : Hp} {μ1 : List Addr} {S1 : Sto} {env : Env} {J : It} {ws : List W} {R : List PyData × Sto} {Dl : Addr} {Q : VK} {vs : List Nat} (hvs : ∀ i ∈ t.names, i ∈ vs)
    (d1 : Wd X.prog X.w X.K F1 μ1 S1 H1) (re1 : RelE X.K F1 μ1 σ env) (wk : Walk X.prog X.w X.K J F1 μ1 ws) (hl : ws.length ≤ lim) (e1 : compL t mt m (wipeE env vs) ws S1 = some R) (hD : H1 Dl = none)
    (fin : ∀ F μ H acc, Gr F1 μ1 H1 F μ H → Wd X.prog X.w X.K F μ R.2 H → H Dl = some (.lst acc) → F Dl = none → Dl ∉ μ → DzAll X.K F acc R.1 → Q (.ref Dl) H) :
    ∃ W : Nat → Nat → Hp → Prop, (∃ m, W 0 m (upd H1 Dl (.lst []))) ∧ ∀ i n H, W i n H →
      (J.stop i H ∧ Q (.ref Dl) H) ∨ (J.go i H ∧ ∃ Nx : Hp → Prop, (∀ H', Nx H' → ∃ m', m' < n ∧ W (i + 1) m' H') ∧ ∀ x H', J.yld i H x H' → t.tg X.K x (L2.wipe σ vs) H' fun σ2 H2 => L2.wipe σ2 vs = L2.wipe σ vs ∧ (Cx.tT X mt) σ2 H2 fun b H3 =>
        if b = true then (Cx.tE X m) σ2 H3 fun y H4 => ∃ acc, H4 Dl = some (.lst acc) ∧ acc.length < sizeLine ∧ Nx (upd H4 Dl (.lst (acc ++ [y]))) else Nx H3) := by
  obtain ⟨hF1, hm1⟩ := d1.fresh hD
  refine ⟨fun i n H => n + i = ws.length + 1 ∧ i ≤ ws.length ∧ ∃ F μ S acc ds r, Gr F1 μ1 H1 F μ H ∧ Wd X.prog X.w X.K F μ S H ∧ H Dl = some (.lst acc) ∧ F Dl = none ∧ Dl ∉ μ ∧ DzAll X.K F acc ds ∧ ds.length ≤ i ∧
      RelE X.K F μ (L2.wipe σ vs) (wipeE env vs) ∧ compL t mt m (wipeE env vs) (ws.drop i) S = some r ∧ ds ++ r.1 = R.1 ∧ r.2 = R.2,
    ⟨ws.length + 1, rfl, Nat.zero_le _, F1, μ1, S1, [], [], R, Gr.refl.beside hD, d1.side hF1 hm1 _, upd_same, hF1, hm1, .nil, Nat.le_refl _, re1.wipe vs, e1, rfl, rfl⟩, ?_⟩
  rintro i n H ⟨hn, hi, F, μ, S, acc, ds, r, g, d, hA, hF, hM, da, dl, re, e, er1, er2⟩
  cases hd : ws.drop i with
  | nil =>
    rw [hd] at e
    unfold compL at e
    cases e
    refine .inl ⟨wk.stop i H (g.ex.trans d.ex) (List.drop_eq_nil_iff.mp hd), ?_⟩
    have er2' : S = R.2 := er2
    subst er2'
    have er1' : ds = R.1 := by rw [← er1]; exact (List.append_nil ds).symm
    subst er1'
    exact fin F μ H acc g d hA hF hM da
  | cons x xs =>
    have hlt : i < ws.length := by
      rcases Nat.lt_or_ge i ws.length with z | z
      · exact z
      · rw [List.drop_eq_nil_iff.mpr z] at hd; cases hd
    have hx : ws[i]? = some x := by
      rw [List.drop_eq_getElem_cons hlt] at hd
      injection hd with h1 _
      rw [← h1]; exact List.getElem?_eq_getElem hlt
    have hxs : ws.drop (i + 1) = xs := by
      rw [List.drop_eq_getElem_cons hlt] at hd
      injection hd
    rw [hd] at e
    unfold compL at e
    obtain ⟨en, e3, e⟩ := bindS e
    obtain ⟨⟨k, S2⟩, e4, e⟩ := bindS e
    refine .inr ⟨wk.go i H (g.ex.trans d.ex) hlt, fun H' => ∃ m', m' < n ∧ (m' + (i + 1) = ws.length + 1 ∧ i + 1 ≤ ws.length ∧ ∃ F μ S acc ds r, Gr F1 μ1 H1 F μ H' ∧ Wd X.prog X.w X.K F μ S H' ∧ H' Dl = some (.lst acc) ∧ F Dl = none ∧ Dl ∉ μ ∧ DzAll X.K F acc ds ∧ ds.length ≤ i + 1 ∧
      RelE X.K F μ (L2.wipe σ vs) (wipeE env vs) ∧ compL t mt m (wipeE env vs) (ws.drop (i + 1)) S = some r ∧ ds ++ r.1 = R.1 ∧ r.2 = R.2), fun _ h => h, fun v H2 hy => ?_⟩
    obtain ⟨F3, d3, g3, r3⟩ := wk.yld i x hx F μ S H v H2 g.ex g.pre d hy
    have re3 := re.gr g3
    refine tg_ok (vs := vs) t x _ en v (L2.wipe σ vs) σ H2 _ e3 d3.ex re3 r3 hvs fun σ2 re2 w2 => ?_
    have ww : L2.wipe (L2.wipe σ vs) vs = L2.wipe σ vs := by
      have aux : ∀ (us : List Nat) (σ : L2.St), (∀ i ∈ us, i < σ.length → σ[i]? = some none) → L2.wipe σ us = σ := by
        intro us
        induction us with
        | nil => intro σ _; rfl
        | cons u us ih =>
          intro σ h
          unfold L2.wipe
          rw [ih σ fun i hi => h i (List.mem_cons_of_mem _ hi)]
          apply List.ext_getElem?
          intro j
          by_cases hj : u = j
          · subst hj
            by_cases hl : u < σ.length
            · rw [List.getElem?_set_self hl, h u List.mem_cons_self hl]
            · rw [List.getElem?_eq_none (by simpa using hl), List.getElem?_eq_none (by simpa using hl)]
          · rw [List.getElem?_set_ne hj]
      have no : ∀ (us : List Nat) (σ : L2.St) (i : Nat), i ∈ us → i < (L2.wipe σ us).length → (L2.wipe σ us)[i]? = some none := by
        intro us
        induction us with
        | nil => intro σ i hi; cases hi
        | cons u us ih =>
          intro σ i hi hl
          unfold L2.wipe at hl ⊢
          rw [List.length_set] at hl
          by_cases hj : u = i
          · subst hj
            rw [List.getElem?_set_self hl]
          · rw [List.getElem?_set_ne hj]
            rcases List.mem_cons.mp hi with z | z
            · exact absurd z.symm hj
            · exact ih σ i z hl
      exact aux vs _ fun i hi hl => no vs σ i hi hl
    refine ⟨by rw [w2, ww], useT e4 d3 re2 fun F4 μ4 H4 g4 d4 re4 => ?_⟩
    have gg := (g3.trans g4)
    have fD := gg.fr Dl _ hA hF hM
    cases k with
    | false =>
      refine ⟨n - 1, by omega, by omega, by omega, F4, μ4, S2, acc, ds, r, g.trans gg, d4, fD.1, fD.2.1, fD.2.2, da.up gg.ex, by omega, re.gr gg, ?_, er1, er2⟩
      rw [hxs]
      exact e
    | true =>
      obtain ⟨⟨y, S3⟩, e5, e⟩ := bindS e
      obtain ⟨dy, e6, e⟩ := bindS e
      obtain ⟨r', e7, e⟩ := bindS e
      cases e
      refine useM e5 d4 re4 fun F5 μ5 H5 v5 g5 d5 re5 r5 => ?_
      have gg2 := gg.trans g5
      have fD2 := gg2.fr Dl _ hA hF hM
      refine ⟨acc, fD2.1, ?_, n - 1, by omega, by omega, by omega, F5, μ5, S3, acc ++ [v5], ds ++ dy, r', (g.trans gg2).beside hD, d5.side fD2.2.1 fD2.2.2 _, upd_same, fD2.2.1, fD2.2.2, ?_, ?_, re.gr gg2, by rw [hxs]; exact e7, ?_, er2⟩
      · rw [da.len]
        have : ds.length < lim := by omega
        exact Nat.lt_of_lt_of_le this (by decide)
      · exact (da.up gg2.ex).app (datas_rel (X := X) (.cons r5 .nil) e6)
      · have : dy.length = 1 := by
          have h := (datas_rel (X := X) (.cons r5 .nil) e6).len
          exact h.symm
        rw [List.length_append, this]; omega
      · rw [List.append_assoc]
        exact er1
theorem me_lc {elt tg iter : Expr} {ifs : List Expr} {scope : Scope} {own : List (Str × Nat)} {pos : Pos} (hc : X.calm = true) (hN : X.N.Nodup) (hi : PI X tg iter (Cx.tI X mi)) (ok : BlkOk X.N X.env.scope scope own)
    (hv : t.names = own.map (·.2))
    (hg : ∀ (s : Shared) (H : Hp) (C : Addr) (cl : List (Str × Addr)) (fp : List Addr), PG (X.blk s H scope (compEnvC scope cl C X.env) fp) tg (t.tg X.K)) (ht : ∀ (s : Shared) (H : Hp) (C : Addr) (cl : List (Str × Addr)) (fp : List Addr), PTs (X.blk s H scope (compEnvC scope cl C X.env) fp) ifs (Cx.tT X mt))
    (he : ∀ (s : Shared) (H : Hp) (C : Addr) (cl : List (Str × Addr)) (fp : List Addr), PE (X.blk s H scope (compEnvC scope cl C X.env) fp) elt (Cx.tE X m)) (hs : ∀ x, foldedSetIterable iter X.env x = pure x := by intro _; rfl) :
    PE X (.ListComp elt [⟨tg, iter, ifs, 0⟩] scope pos) (Cx.tE X (mLc mi t mt m)) := me_of (pe_lc hc hN hi ok hg ht he hs) fun σ H Q F μ S env x S' d re e q => by
  obtain ⟨⟨ws, S1⟩, e1, e⟩ := bindS e
  by_cases hl : ws.length ≤ lim
  · dsimp only at e
    rw [if_pos hl] at e
    obtain ⟨R, e2, e⟩ := bindS e
    cases e
    refine ⟨F, μ, S, env, ws, S1, d, re, e1, fun F1 μ1 H1 J g1 d1 wk Dl hD => ?_⟩
    rw [← hv]
    refine lc_all (fun _ h => h) d1 (re.gr g1) wk hl e2 hD fun F2 μ2 H2 acc g2 d2 hA hF hM da => ?_
    exact q (upd F2 Dl (.lst acc)) μ2 H2 _ (g1.trans (g2.frozen hD hF)) (d2.freeze hF hM hA) (.lst upd_same (da.up (Evl.Ex.new hF)))
  · dsimp only at e
    rw [if_neg hl] at e
    cases e
/-- name = [..], told apart by the machine -/
theorem ms_setLc {i : Nat} {y : Str} {py : Pos} {elt tg iter : Expr} {ifs : List Expr} {scope : Scope} {own : List (Str × Nat)} {pos spos : Pos} (hc : X.calm = true) (hN : X.N.Nodup) (hy : X.N[i]? = some y) (hyl : X.env.scope.names.lookup y = some .local)
    (hsw : swapsWith (.ListComp elt [⟨tg, iter, ifs, 0⟩] scope pos) (some (.Name y py)) spos.line X.env = pure true) (hi : PI X tg iter (Cx.tI X mi)) (ok : BlkOk X.N X.env.scope scope own) (hv : t.names = own.map (·.2))
    (hg : ∀ (s : Shared) (H : Hp) (C : Addr) (cl : List (Str × Addr)) (fp : List Addr), PG (X.blk s H scope (compEnvC scope cl C X.env) fp) tg (t.tg X.K)) (ht : ∀ (s : Shared) (H : Hp) (C : Addr) (cl : List (Str × Addr)) (fp : List Addr), PTs (X.blk s H scope (compEnvC scope cl C X.env) fp) ifs (Cx.tT X mt))
    (he : ∀ (s : Shared) (H : Hp) (C : Addr) (cl : List (Str × Addr)) (fp : List Addr), PE (X.blk s H scope (compEnvC scope cl C X.env) fp) elt (Cx.tE X m)) (hs : ∀ x, foldedSetIterable iter X.env x = pure x := by intro _; rfl) :
    PS X (.Assign [.Name y py] (.ListComp elt [⟨tg, iter, ifs, 0⟩] scope pos) spos) (Cx.tS X (sSet i (mLc mi t mt m))) := ms_of (ps_setLc hc hN hy hyl hsw hi ok hg ht he hs) fun D σ H F μ S env r d re e q => by
  refine tSet_of (X := X) (m := mLc mi t mt m) (fun σ H Q ⟨F, μ, S, env, x, S', d, re, e, q⟩ => ?_) D σ H F μ S env r d re e q
  obtain ⟨⟨ws, S1⟩, e1, e⟩ := bindS e
  by_cases hl : ws.length ≤ lim
  · dsimp only at e
    rw [if_pos hl] at e
    obtain ⟨R, e2, e⟩ := bindS e
    cases e
    refine ⟨F, μ, S, env, ws, S1, d, re, e1, fun F1 μ1 H1 J g1 d1 wk Dl hD => ?_⟩
    rw [← hv]
    refine lc_all (fun _ h => h) d1 (re.gr g1) wk hl e2 hD fun F2 μ2 H2 acc g2 d2 hA hF hM da => ?_
    exact q (upd F2 Dl (.lst acc)) μ2 H2 _ (g1.trans (g2.frozen hD hF)) (d2.freeze hF hM hA) (.lst upd_same (da.up (Evl.Ex.new hF)))
  · dsimp only at e
    rw [if_neg hl] at e
    cases e
end

/-! ### what is walked: lists, tuples, ranges -/
def itemsOf : W → Option (List W)
  | .d (.list ds) => some (ds.map W.d)
  | .d (.tuple ds) => some (ds.map W.d)
  | .scr ns => some (ns.map fun n => .d (.int n))
  | .kd kvs => some (kvs.map fun p => .d (.int p.1))
  | _ => none
def miSeq (m : M) : MI := fun e S => (m e S).bind fun p => (itemsOf p.1).bind fun ws => some (ws, p.2)
def rng (lo : Int) : Nat → List W
  | 0 => []
  | n + 1 => rng lo n ++ [.d (.int (lo + (n : Nat)))]
theorem rng_len {lo : Int} : ∀ n, (rng lo n).length = n
  | 0 => rfl
  | n + 1 => by unfold rng; rw [List.length_append, rng_len n]; rfl
theorem rng_get {lo : Int} : ∀ {n i : Nat}, i < n → (rng lo n)[i]? = some (.d (.int (lo + (i : Nat))))
  | n + 1, i, h => by
    unfold rng
    rcases Nat.lt_or_ge i n with z | z
    · rw [List.getElem?_append_left (by rw [rng_len]; exact z)]
      exact rng_get z
    · have : i = n := by omega
      subst this
      rw [List.getElem?_append_right (by rw [rng_len]; exact Nat.le_refl _), rng_len, Nat.sub_self]
      rfl
def miRng1 (t : MA) : MI := fun e S => (t e S).bind fun p => match p.1 with
  | [.d (.int j)] => if -(2 ^ 62) ≤ j ∧ j < 2 ^ 62 then some (rng 0 j.toNat, p.2) else none
  | _ => none
def miRng2 (t : MA) : MI := fun e S => (t e S).bind fun p => match p.1 with
  | [.d (.int i), .d (.int j)] => if -(2 ^ 62) ≤ i ∧ i < 2 ^ 62 ∧ -(2 ^ 62) ≤ j ∧ j < 2 ^ 62 then some (rng i (j - i).toNat, p.2) else none
  | _ => none
section
variable {P : Program} {w : World} {K : PySem.W.Frag} {F H : Hp} {μ : List Addr} {S : Sto}
theorem walk_rng {lo : Int} {n : Nat} : Walk P w K (Itr lo n) F μ (rng lo n) :=
  ⟨fun i H _ h => by rw [rng_len] at h; exact h, fun i H _ h => by rw [rng_len] at h; exact h, fun i x hx F2 μ2 S2 H2 v H3 _ _ d hy => by
    have hi : i < n := by
      rcases Nat.lt_or_ge i n with z | z
      · exact z
      · rw [List.getElem?_eq_none (by rw [rng_len]; exact z)] at hx; cases hx
    rw [rng_get hi] at hx
    cases hx
    obtain ⟨rfl, rfl⟩ := hy
    exact ⟨F2, d, .refl, .int _⟩⟩
theorem walk_lst {a : Addr} {xs : List V} {ds : List PyData} (h : SqL K F a xs) (ha : DzAll K F xs ds) : Walk P w K (Itl K a) F μ (ds.map W.d) :=
  ⟨fun i H e hi => by
    rw [List.length_map, ← ha.len] at hi
    exact ⟨xs, xs[i], ex_l e h, List.getElem?_eq_getElem hi⟩, fun i H e hi => by
    rw [List.length_map, ← ha.len] at hi
    exact ⟨xs, ex_l e h, hi⟩, fun i x hx F2 μ2 S2 H2 v H3 e _ d hy => by
    obtain ⟨rfl, hz⟩ := hy
    rw [List.getElem?_map] at hx
    obtain ⟨dd, h1, h2⟩ := Option.map_eq_some_iff.mp hx
    subst h2
    obtain ⟨u, h3, h4⟩ := ha.get h1
    have := hz xs (ex_l (e.trans d.ex) h)
    rw [h3] at this
    cases this
    exact ⟨F2, d, .refl, h4.up e⟩⟩
theorem pairI_get : ∀ {kvs : List (Int × PyData)} {xs : List (L2.Key × V)} {i : Nat} {p : Int × PyData}, Paired (PairI K F) kvs xs → kvs[i]? = some p → ∃ v, xs[i]? = some (.inl p.1, v)
  | _, _, _, _, .nil, h => by simp at h
  | _, _, 0, _, .cons (b := x) r _, h => by
    simp at h; subst h
    obtain ⟨k, v⟩ := x
    obtain ⟨e, _⟩ := r
    have e' : k = .inl _ := e
    subst e'
    exact ⟨v, rfl⟩
  | _, _, i + 1, p, .cons _ t, h => by
    obtain ⟨v, h1⟩ := pairI_get (i := i) (p := p) t (by simpa using h)
    exact ⟨v, by simpa using h1⟩
theorem walk_kd {a : Addr} {o : Obj} {xs : List (L2.Key × V)} {kvs : List (Int × PyData)} (h : F a = some (.frz o (.dK xs))) (hp : Paired (PairI K F) kvs xs) : Walk P w K (Itk a o xs) F μ (kvs.map fun p => W.d (.int p.1)) :=
  ⟨fun i H e hi => by
    rw [List.length_map, Paired.length hp] at hi
    exact ⟨e _ _ h, hi⟩, fun i H e hi => by
    rw [List.length_map, Paired.length hp] at hi
    exact ⟨e _ _ h, hi⟩, fun i x hx F2 μ2 S2 H2 v H3 e _ d hy => by
    obtain ⟨rfl, k, u, h1, rfl⟩ := hy
    rw [List.getElem?_map] at hx
    obtain ⟨p, h2, h3⟩ := Option.map_eq_some_iff.mp hx
    subst h3
    obtain ⟨u', h4⟩ := pairI_get hp h2
    rw [h4] at h1
    cases h1
    exact ⟨F2, d, .refl, .int _⟩⟩
theorem walk_tup {a : Addr} {xs : List V} {ds : List PyData} (h : SqT K F a xs) (ha : DzAll K F xs ds) : Walk P w K (Itt K a) F μ (ds.map W.d) :=
  ⟨fun i H e hi => by
    rw [List.length_map, ← ha.len] at hi
    exact ⟨xs, xs[i], ex_t e h, List.getElem?_eq_getElem hi⟩, fun i H e hi => by
    rw [List.length_map, ← ha.len] at hi
    exact ⟨xs, ex_t e h, hi⟩, fun i x hx F2 μ2 S2 H2 v H3 e _ d hy => by
    obtain ⟨rfl, hz⟩ := hy
    rw [List.getElem?_map] at hx
    obtain ⟨dd, h1, h2⟩ := Option.map_eq_some_iff.mp hx
    subst h2
    obtain ⟨u, h3, h4⟩ := ha.get h1
    have := hz xs (ex_t (e.trans d.ex) h)
    rw [h3] at this
    cases this
    exact ⟨F2, d, .refl, h4.up e⟩⟩
theorem dza_mapInt : ∀ (ns : List Int), DzAll K F (ns.map V.int) (ns.map PyData.int)
  | [] => .nil
  | n :: ns => .cons (.int n) (dza_mapInt ns)
end
section
variable {X : Cx} {tg l : Expr} {m : M} {mr : MA}
theorem mi_seq (h : PE X l (Cx.tE X m)) : PI X tg l (Cx.tI X (miSeq m)) := ⟨fun pins s σ H R I ⟨F, μ, S, env, ws, S', d, re, e, q⟩ => by
  obtain ⟨⟨x, S1⟩, e1, e⟩ := bindS e
  obtain ⟨ws', e2, e⟩ := bindS e
  cases e
  cases x with
  | d y =>
    cases y with
    | list ds =>
      cases e2
      refine (pi_list h).run pins s σ H R I (useM e1 d re fun F1 μ1 H1 v g1 d1 re1 r1 => ?_)
      obtain ⟨p, xs, rfl, hp, ha⟩ := dz_lst r1
      exact ⟨p, rfl, ⟨xs, .inl (.inl (d1.ex _ _ hp))⟩, q F1 μ1 H1 _ g1 d1 (walk_lst (.inl (.inl hp)) ha)⟩
    | tuple ds =>
      cases e2
      refine (pi_tup h).run pins s σ H R I (useM e1 d re fun F1 μ1 H1 v g1 d1 re1 r1 => ?_)
      obtain ⟨p, xs, rfl, hp, ha⟩ := dz_tup r1
      exact ⟨p, rfl, ⟨xs, ex_t d1.ex hp.1⟩, q F1 μ1 H1 _ g1 d1 (walk_tup hp.1 ha)⟩
    | none => cases e2
    | bool b => cases e2
    | int b => cases e2
    | str b => cases e2
    | dict b => cases e2
  | ref n => cases e2
  | scr ns =>
    cases e2
    refine (pi_list h).run pins s σ H R I (useM e1 d re fun F1 μ1 H1 v g1 d1 re1 r1 => ?_)
    obtain ⟨p, rfl, hp⟩ := r1
    refine ⟨p, rfl, ⟨_, ex_l d1.ex hp⟩, q F1 μ1 H1 _ g1 d1 ?_⟩
    have := walk_lst (P := X.prog) (w := X.w) (μ := μ1) hp (dza_mapInt ns)
    rw [List.map_map] at this
    exact this
  | fn x => cases e2
  | ex c x => cases e2
  | kd kvs =>
    cases e2
    refine (pi_keys h).run pins s σ H R I (useM e1 d re fun F1 μ1 H1 v g1 d1 re1 r1 => ?_)
    obtain ⟨a, o, xs, rfl, hF, hp⟩ := r1
    exact ⟨a, o, rfl, .inl ⟨xs, d1.ex _ _ hF, q F1 μ1 H1 _ g1 d1 (walk_kd hF hp)⟩⟩⟩
theorem mi_rng1 {p pos : Pos} (hg : Gl X "range") (hm : X.mg "range" = none) (ha : PA X [l] (Cx.tA X mr)) (hs : starEach [l] X.env = [(false, eval l X.env)] := by rfl) : PI X tg (.Call (.Name "range" p) [l] [] pos) (Cx.tI X (miRng1 mr)) := ⟨fun pins s σ H R I ⟨F, μ, S, env, ws, S', d, re, e, q⟩ => by
  obtain ⟨⟨xs, S1⟩, e1, e⟩ := bindS e
  dsimp only at e
  split at e
  · rename_i j
    by_cases hj : -(2 ^ 62) ≤ j ∧ j < 2 ^ 62
    · rw [if_pos hj] at e
      cases e
      refine (pi_range1 hg hm ha hs).run pins s σ H R I (useA e1 d re fun F1 μ1 H1 vs g1 d1 re1 r1 => ?_)
      cases r1 with
      | cons r2 r3 =>
        cases r3
        have := dz_int r2
        subst this
        exact ⟨j, rfl, hj.1, hj.2, q F1 μ1 H1 _ g1 d1 walk_rng⟩
    · rw [if_neg hj] at e; cases e
  · cases e⟩
end

/-! ### defs and their calls -/
def spM (P : Program) (w : World) (K : PySem.W.Frag) (f : On) : Sp := fun vs H Q _ => ∃ F μ S ws x S', Wd P w K F μ S H ∧ WAll K F μ ws vs ∧ f ws S = some (x, S') ∧ ∀ F' μ' H' v, Gr F μ H F' μ' H' → Wd P w K F' μ' S' H' → WRel K F' μ' x v → Q v H'
section
variable {P : Program} {w : World} {K : PySem.W.Frag} {mg : Str → Option Value} {base : Heap} {f : Addr} {fd : FuncData}
theorem spM_len {n many : Nat} {b : MS} {vs : List V} {H : Hp} {Q : VK} {E : XK} (h : spM P w K (fnM n many b) vs H Q E) : vs.length = n := by
  obtain ⟨F, μ, S, ws, x, S', d, r, e, _⟩ := h
  unfold fnM at e
  by_cases hn : ws.length = n
  · rw [← r.len]; exact hn
  · rw [if_neg hn] at e; cases e
theorem wall_get {F : Hp} {μ : List Addr} : ∀ {ws : List W} {vs : List V} {i : Nat} {x : W}, WAll K F μ ws vs → ws[i]? = some x → ∃ v, vs[i]? = some v ∧ WRel K F μ x v
  | _, _, _, _, .nil, h => by simp at h
  | _, _, 0, _, .cons r _, h => by simp at h; subst h; exact ⟨_, rfl, r⟩
  | _, _, i + 1, x, .cons _ t, h => by
    obtain ⟨v, h1, h2⟩ := wall_get (i := i) (x := x) t (by simpa using h)
    exact ⟨v, by simpa using h1, h2⟩
/-- what a def leaves: its own cells are forgotten -/
theorem Wd.cut {F H F' H' : Hp} {μ μ' : List Addr} {S S1 : Sto} (d0 : Wd P w K F μ S H) (g : Gr F μ H F' μ' H') (d : Wd P w K F' μ' S1 H') : Wd P w K F' (μ'.take S.length) (S1.take S.length) H' ∧ Gr F μ H F' (μ'.take S.length) H' := by
  refine ⟨⟨d.ex, by rw [List.length_take, List.length_take, d.len], d.nd.sublist (List.take_sublist _ _), fun n a o h1 h2 => ?_⟩, g.ex, ?_, fun b o e f m => ?_⟩
  · rw [List.getElem?_take] at h1 h2
    by_cases hn : n < S.length
    · rw [if_pos hn] at h1 h2
      exact d.cell n a o h1 h2
    · rw [if_neg hn] at h1; cases h1
  · obtain ⟨r, hr⟩ := g.pre
    rw [← hr, ← d0.len, List.take_left']
    · exact List.prefix_refl _
    · rfl
  · obtain ⟨h1, h2, h3⟩ := g.fr b o e f m
    exact ⟨h1, h2, fun z => h3 (List.mem_of_mem_take z)⟩
theorem fn_read {n : Nat} {N : List Str} {b : MS} {vs : List V} {H : Hp} {Q : VK} {E : XK} (h : spM P w K (fnM n N.length b) vs H Q E) :
    tMS P w K b { nx := fun _ H' => Q .non H', rt := Q } (L2.start N vs) H := by
  obtain ⟨F, μ, S, ws, x, S', d, r, e, q⟩ := h
  unfold fnM at e
  by_cases hn : ws.length = n
  · rw [if_pos hn] at e
    obtain ⟨r1, e1, e2⟩ := bindS e
    have re : RelE K F μ (L2.start N vs) (ws.map some ++ List.replicate (N.length - n) none) := by
      refine ⟨?_, fun i y h => ?_⟩
      · unfold L2.start
        rw [List.length_append, List.length_append, List.length_map, List.length_map, List.length_replicate, List.length_replicate, ← r.len, hn]
      · rcases Nat.lt_or_ge i ws.length with z | z
        · rw [List.getElem?_append_left (by rw [List.length_map]; exact z), List.getElem?_map] at h
          obtain ⟨y', h1, h2⟩ := Option.map_eq_some_iff.mp h
          cases h2
          obtain ⟨v, h3, h4⟩ := wall_get r h1
          refine ⟨v, ?_, h4⟩
          unfold L2.start
          rw [List.getElem?_append_left (by rw [List.length_map, ← r.len]; exact z), List.getElem?_map, h3]
          rfl
        · rw [List.getElem?_append_right (by rw [List.length_map]; exact z), List.getElem?_replicate] at h
          split at h <;> cases h
    refine useS e1 d re ?_
    cases r1 with
    | nx en S1 =>
      cases e2
      intro F' μ' H' σ' g d' re'
      obtain ⟨d2, g2⟩ := d.cut g d'
      exact q F' _ H' .non g2 d2 .non
    | bk en S1 => cases e2
    | ct en S1 => cases e2
    | rt y S1 =>
      cases y with
      | d z =>
        cases e2
        intro F' μ' H' v g d' r'
        obtain ⟨d2, g2⟩ := d.cut g d'
        exact q F' _ H' v g2 d2 r'
      | scr z =>
        cases e2
        intro F' μ' H' v g d' r'
        obtain ⟨d2, g2⟩ := d.cut g d'
        exact q F' _ H' v g2 d2 r'
      | kd z =>
        cases e2
        intro F' μ' H' v g d' r'
        obtain ⟨d2, g2⟩ := d.cut g d'
        exact q F' _ H' v g2 d2 r'
      | fn z =>
        cases e2
        intro F' μ' H' v g d' r'
        obtain ⟨d2, g2⟩ := d.cut g d'
        exact q F' _ H' v g2 d2 r'
      | ex c z =>
        cases e2
        intro F' μ' H' v g d' r'
        obtain ⟨d2, g2⟩ := d.cut g d'
        exact q F' _ H' v g2 d2 r'
      | ref k =>
        dsimp only at e2
        by_cases hk : k < S.length
        · rw [if_pos hk] at e2
          cases e2
          intro F' μ' H' v g d' r'
          obtain ⟨d2, g2⟩ := d.cut g d'
          obtain ⟨a, h1, h2⟩ := r'
          exact q F' _ H' v g2 d2 ⟨a, by rw [List.getElem?_take, if_pos hk]; exact h1, h2⟩
        · rw [if_neg hk] at e2
          obtain ⟨o, e3, e4⟩ := bindS e2
          cases e4
          intro F' μ' H' v g d' r'
          obtain ⟨d2, g2⟩ := d.cut g d'
          obtain ⟨a, h1, h2⟩ := r'
          have hna : a ∉ μ'.take S.length := fun z => by
            obtain ⟨j, hj, e5⟩ := List.getElem_of_mem z
            rw [List.length_take] at hj
            have e6 : μ'[j]? = some a := by
              rw [List.getElem_take] at e5
              rw [List.getElem?_eq_getElem (by omega), e5]
            obtain ⟨l1, e7⟩ := List.getElem?_eq_some_iff.mp e6
            obtain ⟨l2, e8⟩ := List.getElem?_eq_some_iff.mp h1
            have := (List.getElem_inj d'.nd).mp (e7.trans e8.symm)
            omega
          have d3 := d2.adopt hna (d'.cell k a o h1 e3)
          have hlen : (μ'.take S.length).length = S.length := by
            rw [List.length_take]
            have := g.pre.length_le
            have := d.len
            omega
          have g3 : Gr F μ H F' (μ'.take S.length ++ [a]) H' := ⟨g2.ex, g2.pre.trans ⟨[a], rfl⟩, fun b o e f m => by
            obtain ⟨p1, p2, p3⟩ := g.fr b o e f m
            refine ⟨p1, p2, fun z => ?_⟩
            rcases List.mem_append.mp z with z | z
            · exact p3 (List.mem_of_mem_take z)
            · rw [List.mem_singleton.mp z] at p3
              exact p3 (List.mem_of_getElem? h1)⟩
          refine q F' _ H' v g3 d3 ⟨a, ?_, h2⟩
          rw [List.getElem?_append_right (by rw [hlen]; exact Nat.le_refl _), hlen, Nat.sub_self]
          rfl
  · rw [if_neg hn] at e; cases e
theorem fn_ok {x : Str} {st : Stmt} {N ps : List Str} {k : Nat} {b : MS} (F : Fun K x x st f fd) (sc : FnScope N ps (defScope st))
    (hb : ∀ (cdv : Value) (A : Around) (outer : List PySem.Env) (s : Shared) (H : Hp) (E : XK), Room k (A.deeper (envOfC x (defScope st) s.heap.objs.size f cdv)) → PSs (cxOf CX0 P w K mg base N x (defScope st) f cdv A outer s H E).nox (defBody st) (tMS P w K b)) :
    FnOk P w K mg base CX0 (k + 1) f fd ps (spM P w K (fnM ps.length N.length b)) := by
  refine F.ok sc (fun vs H Q E h => spM_len h) (fun cdv A outer s H vs Q E hr h => ⟨_, hb cdv A outer s H E hr, fn_read h⟩)
end
end Mr

set_option maxHeartbeats 2000000
namespace Mr
open PySem PySem.Spec PyProof.Rows L2
open Evl (Ex ex_l ex_t)

/-! ### reading values as data -/
def pyOf : W → Sto → Option PyData
  | .d x, _ => some x
  | .ref n, S => match S[n]? with
    | some (.lst ds) => some (.list ds)
    | _ => none
  | .scr ns, _ => some (.list (ns.map .int))
  | .kd _, _ => none
  | .fn _, _ => none
  | .ex _ _, _ => none
def lsOf : W → Sto → Option (List PyData)
  | .d (.list ds), _ => some ds
  | .ref n, S => match S[n]? with
    | some (.lst ds) => some ds
    | _ => none
  | .scr ns, _ => some (ns.map .int)
  | _, _ => none
/-- a list that is not the script -/
def lwOf : W → Sto → Option (List PyData)
  | .d (.list ds), _ => some ds
  | .ref n, S => match S[n]? with
    | some (.lst ds) => some ds
    | _ => none
  | _, _ => none
def tpOf : W → Option (List PyData)
  | .d (.tuple ds) => some ds
  | _ => none
def dOf : W → Option PyData
  | .d x => some x
  | _ => none
def inOf : W → Option Int
  | .d (.int i) => some i
  | _ => none
section
variable {P : Program} {w : World} {K : PySem.W.Frag} {F H : Hp} {μ : List Addr} {S : Sto} {a : W} {x : V} {ds : List PyData} {d : PyData}
theorem cell_of (dd : Wd P w K F μ S H) {n : Nat} {p : Addr} {o : O} (h : μ[n]? = some p) (e : S[n]? = some o) : Cell P w K F H p o := dd.cell n p o h e
theorem lw_rel (dd : Wd P w K F μ S H) (r : WRel K F μ a x) (e : lwOf a S = some ds) : ∃ p xs, x = .ref p ∧ H p = some (.lst xs) ∧ DzAll K F xs ds := by
  cases a with
  | d y =>
    cases y with
    | list es =>
      cases e
      obtain ⟨p, xs, rfl, hp, ha⟩ := dz_lst r
      exact ⟨p, xs, rfl, dd.ex _ _ hp, ha⟩
    | none => cases e
    | bool b => cases e
    | int b => cases e
    | str b => cases e
    | tuple b => cases e
    | dict b => cases e
  | scr ns => cases e
  | kd ns => cases e
  | fn ns => cases e
  | ex c ns => cases e
  | ref n =>
    obtain ⟨p, h1, rfl⟩ := r
    unfold lwOf at e
    dsimp only at e
    split at e
    · rename_i es hs
      cases e
      obtain ⟨_, xs, h2, h3⟩ := cell_of dd h1 hs
      exact ⟨p, xs, rfl, h2, h3⟩
    · cases e
theorem ls_rel (dd : Wd P w K F μ S H) (r : WRel K F μ a x) (e : lsOf a S = some ds) : ∃ p xs, x = .ref p ∧ SqL K H p xs ∧ DzAll K F xs ds := by
  cases a with
  | d y =>
    cases y with
    | list es =>
      cases e
      obtain ⟨p, xs, rfl, hp, ha⟩ := dz_lst r
      exact ⟨p, xs, rfl, .inl (.inl (dd.ex _ _ hp)), ha⟩
    | none => cases e
    | bool b => cases e
    | int b => cases e
    | str b => cases e
    | tuple b => cases e
    | dict b => cases e
  | kd ns => cases e
  | fn ns => cases e
  | ex c ns => cases e
  | scr ns =>
    cases e
    obtain ⟨p, rfl, hp⟩ := r
    exact ⟨p, _, rfl, ex_l dd.ex hp, dza_mapInt ns⟩
  | ref n =>
    obtain ⟨p, h1, rfl⟩ := r
    unfold lsOf at e
    dsimp only at e
    split at e
    · rename_i es hs
      cases e
      obtain ⟨_, xs, h2, h3⟩ := cell_of dd h1 hs
      exact ⟨p, xs, rfl, .inl (.inl h2), h3⟩
    · cases e
theorem tp_rel (r : WRel K F μ a x) (e : tpOf a = some ds) : ∃ p xs, x = .ref p ∧ Sk.TupAt K F p xs ∧ DzAll K F xs ds := by
  unfold tpOf at e
  split at e
  · cases e
    exact dz_tup r
  · cases e
theorem py_rel (dd : Wd P w K F μ S H) (r : WRel K F μ a x) (e : pyOf a S = some d) : Dp K H x d := by
  cases a with
  | d y => cases e; exact Dz.dp dd.ex r
  | kd ns => cases e
  | fn ns => cases e
  | ex c ns => cases e
  | scr ns =>
    cases e
    obtain ⟨p, rfl, hp⟩ := r
    exact .lst (ex_l dd.ex hp) ((dza_mapInt ns).dp dd.ex)
  | ref n =>
    obtain ⟨p, h1, rfl⟩ := r
    unfold pyOf at e
    dsimp only at e
    split at e
    · rename_i es hs
      cases e
      obtain ⟨_, xs, h2, h3⟩ := cell_of dd h1 hs
      exact .lst (.inl (.inl h2)) (h3.dp dd.ex)
    · cases e
theorem in_rel {i : Int} (r : WRel K F μ a x) (e : inOf a = some i) : x = .int i := by
  unfold inOf at e
  split at e
  · cases e; exact dz_int r
  · cases e
theorem d_rel (r : WRel K F μ a x) (e : dOf a = some d) : Dz K F x d := by
  unfold dOf at e
  split at e
  · cases e; exact r
  · cases e
end

/-! ### operators on ints -/
def oI (C : Int → Int → Prop) [∀ i j, Decidable (C i j)] (h : Int → Int → PyData) : O2 := fun a b S => (inOf a).bind fun i => (inOf b).bind fun j => if C i j then some (.d (h i j), S) else none
def oI0 (h : Int → Int → PyData) : O2 := fun a b S => (inOf a).bind fun i => (inOf b).bind fun j => some (.d (h i j), S)
section
variable {X : Cx} {f : Value → Value → Sem Value}
theorem bop_I {C : Int → Int → Prop} [∀ i j, Decidable (C i j)] {g : Int → Int → V} {h : Int → Int → PyData} (ho : OpR X f (rI C g)) (hg : ∀ F i j, Dz X.K F (g i j) (h i j)) : BOp X f (oI C h) :=
  ⟨_, ho, fun F μ S H x y a b c S' Q d ra rb e q => by
    obtain ⟨i, e1, e⟩ := bindS e
    obtain ⟨j, e2, e⟩ := bindS e
    by_cases hc : C i j
    · rw [if_pos hc] at e
      cases e
      exact ⟨i, j, in_rel ra e1, in_rel rb e2, hc, q F μ H _ .refl d (hg F i j)⟩
    · rw [if_neg hc] at e; cases e⟩
theorem bop_I0 {g : Int → Int → V} {h : Int → Int → PyData} (ho : OpR X f (rI0 g)) (hg : ∀ F i j, Dz X.K F (g i j) (h i j)) : BOp X f (oI0 h) :=
  ⟨_, ho, fun F μ S H x y a b c S' Q d ra rb e q => by
    obtain ⟨i, e1, e⟩ := bindS e
    obtain ⟨j, e2, e⟩ := bindS e
    cases e
    exact ⟨i, j, in_rel ra e1, in_rel rb e2, q F μ H _ .refl d (hg F i j)⟩⟩
end
instance : ∀ i j, Decidable (CMulX i j) := fun i j => inferInstanceAs (Decidable ((Builtin.Int.intBits i : Int) + (Builtin.Int.intBits j : Int) ≤ 134217728))
instance : ∀ i j, Decidable (Sk.CDivZ i j) := fun i j => inferInstanceAs (Decidable (j ≠ 0 ∧ j.natAbs.log2 < 9000))
instance : ∀ i j, Decidable (CPow i j) := fun i j => inferInstanceAs (Decidable (0 ≤ j ∧ j ≤ 1000000 ∧ i.natAbs < 2 ^ 64))
/-! ### sequences -/
def oCatT : O2 := fun a b S => (tpOf a).bind fun xs => (tpOf b).bind fun ys => if xs.length + ys.length ≤ lim then some (.d (.tuple (xs ++ ys)), S) else none
def oCatL : O2 := fun a b S => (lwOf a S).bind fun xs => (lwOf b S).bind fun ys => if xs.length + ys.length ≤ lim then some (.d (.list (xs ++ ys)), S) else none
def oRepL : O2 := fun a b S => (lwOf a S).bind fun xs => (inOf b).bind fun k => if -1000000 ≤ k ∧ k ≤ 1000000 ∧ xs.length * k.toNat ≤ lim then some (.d (.list (List.replicate k.toNat xs).flatten), S) else none
def oAdd : O2 := orO (oI0 fun i j => .int (i + j)) (orO oCatT oCatL)
def oSub : O2 := oI0 fun i j => .int (i - j)
def oMul : O2 := orO (oI CMulX fun i j => .int (i * j)) oRepL
def oDiv : O2 := oI Sk.CDivZ fun i j => .int (i.fdiv j)
def oMod : O2 := oI (fun _ j => 0 < j) fun i j => .int (i % j)
def oPow : O2 := oI CPow fun i j => .int (i ^ j.toNat)
def oShr : O2 := oI (fun _ j => 0 ≤ j) fun i j => .int (i / 2 ^ j.toNat)
def oAnd : O2 := oI0 fun i j => .int (Builtin.bitAnd i j)
/-- + of tuples: what is new has no dict -/
def rCatF (K : PySem.W.Frag) : R2 := fun x y H Q => ∃ a b xs ys, x = .ref a ∧ y = .ref b ∧ SqT K H a xs ∧ SqT K H b ys ∧ xs.length + ys.length ≤ sizeLine ∧
  (xs = [] → Q (.ref b) H) ∧ (xs ≠ [] → ys = [] → Q (.ref a) H) ∧ (xs ≠ [] → ys ≠ [] → ∀ (p : Addr) (o : Obj), H p = none → o.dict = none → Q (.ref p) (upd H p (.frz o (.tup (xs ++ ys)))))
/-- a slice of a tuple: what is new has no dict -/
def rSlF (K : PySem.W.Frag) : V → Option Int → Option Int → Hp → VK → Prop := fun x lo hi H Q => ∃ a xs, x = .ref a ∧ SqT K H a xs ∧
  (HT.sIx xs.length 0 lo = 0 ∧ HT.sIx xs.length xs.length hi = xs.length → Q (.ref a) H) ∧ (¬ (HT.sIx xs.length 0 lo = 0 ∧ HT.sIx xs.length xs.length hi = xs.length) → ∀ (p : Addr) (o : Obj), H p = none → o.dict = none → Q (.ref p) (upd H p (.frz o (.tup (cutV xs lo hi)))))
section
variable {X : Cx}
theorem op_catF : OpR X (binaryOp .Add) (rCatF X.K) := by
  intro pins s σ H x y v u Q I rx ry h
  obtain ⟨a, b, xs, ys, rfl, rfl, ha, hb, hz, q0, q1, q2⟩ := h
  by_cases hx : xs = []
  · exact op_catA pins s σ H _ _ v u Q I rx ry ⟨a, b, xs, ys, rfl, rfl, ha, hb, hz, q0, fun h => absurd hx h, fun h => absurd hx h⟩
  · cases rx
    cases ry
    obtain ⟨its, r1, p1, _⟩ := I.tuple ha
    obtain ⟨its2, r2, p2, _⟩ := I.tuple hb
    refine HT.cat_tup p1 p2 (fun z => hx (r1.nil_iff.mp z)) (fun z => ⟨.ref a, H, I, rfl, q1 hx (r2.nil_iff.mp z)⟩) (fun z => ?_) (by rw [← r1.length, ← r2.length]; exact hz)
    refine ⟨.ref s.heap.objs.size, _, I.laid (t' := s.toks) (o := .frz { cls := .type "tuple", data := .seq (its ++ its2).toArray } (.tup (xs ++ ys))) (fun b ob q => Heap.get?_push_of_some _ q) (Nat.le_refl _) ?_, rfl, q2 hx (fun w => z (r2.nil_iff.mpr w)) _ _ (I.hok.fresh (Nat.le_refl _)) rfl⟩
    exact ⟨Heap.get?_push_size _ rfl, by rw [List.length_append]; exact hz, _, r1.append r2, IsTup.new _ _⟩
theorem sl_tupF : SlR X (rSlF X.K) := by
  intro pins s σ H x v vl vu lo hi sl Q I rx hs pl pu h
  obtain ⟨a, xs, rfl, hx, q1, q2⟩ := h
  by_cases hw : HT.sIx xs.length 0 lo = 0 ∧ HT.sIx xs.length xs.length hi = xs.length
  · exact sl_tupA pins s σ H _ v vl vu lo hi sl Q I rx hs pl pu ⟨a, xs, rfl, hx, q1, fun h => absurd hw h⟩
  · cases rx
    obtain ⟨its, r, ht, hz⟩ := I.tuple hx
    have hlen : its.toArray.size = xs.length := by rw [List.size_toArray]; exact r.length.symm
    refine ⟨"tuple", _, PyProof.Rows.slot_tuple_getitem.lookup, ht.typeIs, ?_⟩
    refine HT.getItem_tuple_cut ht hs pl pu (by rw [hlen]; exact hw) ?_ (by rw [hlen]; exact hz)
    rw [hlen]
    refine ⟨.ref s.heap.objs.size, _, I.laid (t' := s.toks) (o := .frz { cls := .type "tuple", data := .seq ((its.drop (HT.sIx xs.length 0 lo)).take (HT.sIx xs.length xs.length hi - HT.sIx xs.length 0 lo)).toArray } (.tup (cutV xs lo hi))) (fun b ob q => Heap.get?_push_of_some _ q) (Nat.le_refl _) ?_, rfl, q2 hw _ _ (I.hok.fresh (Nat.le_refl _)) rfl⟩
    exact ⟨Heap.get?_push_size _ rfl, Nat.le_trans (cutV_length xs lo hi) hz, _, (r.drop (HT.sIx xs.length 0 lo)).take (HT.sIx xs.length xs.length hi - HT.sIx xs.length 0 lo), IsTup.new _ _⟩
theorem dz_new {F : Hp} {p : Addr} {o : Obj} {xs : List V} {ds : List PyData} (hF : F p = none) (ho : o.dict = none) (h : DzAll X.K F xs ds) : Dz X.K (upd F p (.frz o (.tup xs))) (.ref p) (.tuple ds) :=
  .tup ⟨.inl (.inr ⟨o, upd_same⟩), .inl ⟨o, _, upd_same, ho⟩⟩ (h.up (Evl.Ex.new hF))
theorem bop_catT : BOp X (binaryOp .Add) oCatT := ⟨_, op_catF, fun F μ S H x y a b c S' Q d ra rb e q => by
  obtain ⟨xs, e1, e⟩ := bindS e
  obtain ⟨ys, e2, e⟩ := bindS e
  by_cases hc : xs.length + ys.length ≤ lim
  · rw [if_pos hc] at e
    cases e
    obtain ⟨p, us, rfl, hp, hu⟩ := tp_rel ra e1
    obtain ⟨p', vs, rfl, hp', hv⟩ := tp_rel rb e2
    refine ⟨p, p', us, vs, rfl, rfl, ex_t d.ex hp.1, ex_t d.ex hp'.1, by rw [hu.len, hv.len]; exact lim_ok hc, fun z => ?_, fun _ z => ?_, fun _ _ r o hr ho => ?_⟩
    · subst z
      cases hu
      exact q F μ H _ .refl d (.tup hp' hv)
    · subst z
      cases hv
      rw [List.append_nil] at q
      exact q F μ H _ .refl d (.tup hp hu)
    · obtain ⟨d2, g2⟩ := d.new hr (.frz o (.tup (us ++ vs)))
      exact q _ _ _ _ g2 d2 (dz_new (d.fresh hr).1 ho (hu.app hv))
  · rw [if_neg hc] at e; cases e⟩
theorem bop_catL : BOp X (binaryOp .Add) oCatL := ⟨_, op_cat, fun F μ S H x y a b c S' Q d ra rb e q => by
  obtain ⟨xs, e1, e⟩ := bindS e
  obtain ⟨ys, e2, e⟩ := bindS e
  by_cases hc : xs.length + ys.length ≤ lim
  · rw [if_pos hc] at e
    cases e
    obtain ⟨p, us, rfl, hp, hu⟩ := lw_rel d ra e1
    obtain ⟨p', vs, rfl, hp', hv⟩ := lw_rel d rb e2
    refine ⟨p, p', us, vs, rfl, rfl, hp, hp', by rw [hu.len, hv.len]; exact lim_ok hc, fun r hr => ?_⟩
    obtain ⟨d2, g2⟩ := d.new hr (.lst (us ++ vs))
    exact q _ _ _ _ g2 d2 (.lst upd_same ((hu.app hv).up g2.ex))
  · rw [if_neg hc] at e; cases e⟩
theorem dza_rep {F : Hp} {xs : List V} {ds : List PyData} (h : DzAll X.K F xs ds) : ∀ k : Nat, DzAll X.K F (List.flatten (List.replicate k xs)) (List.flatten (List.replicate k ds))
  | 0 => .nil
  | k + 1 => by
    rw [List.replicate_succ, List.replicate_succ, List.flatten_cons, List.flatten_cons]
    exact h.app (dza_rep h k)
theorem bop_repL : BOp X (binaryOp .Mult) oRepL := ⟨_, op_rep, fun F μ S H x y a b c S' Q d ra rb e q => by
  obtain ⟨xs, e1, e⟩ := bindS e
  obtain ⟨k, e2, e⟩ := bindS e
  by_cases hc : -1000000 ≤ k ∧ k ≤ 1000000 ∧ xs.length * k.toNat ≤ lim
  · rw [if_pos hc] at e
    cases e
    obtain ⟨p, us, rfl, hp, hu⟩ := lw_rel d ra e1
    refine ⟨p, k, us, rfl, in_rel rb e2, hp, by omega, by omega, by rw [hu.len]; exact lim_ok hc.2.2, fun r hr => ?_⟩
    obtain ⟨d2, g2⟩ := d.new hr (.lst (List.replicate k.toNat us).flatten)
    exact q _ _ _ _ g2 d2 (.lst upd_same ((dza_rep hu k.toNat).up g2.ex))
  · rw [if_neg hc] at e; cases e⟩
theorem bo_add : BOp X (binaryOp .Add) oAdd := (bop_I0 op_add fun _ _ _ => .int _).or (bop_catT.or bop_catL)
theorem bo_sub : BOp X (binaryOp .Sub) oSub := bop_I0 op_sub fun _ _ _ => .int _
theorem bo_mul : BOp X (binaryOp .Mult) oMul := (bop_I op_mulX fun _ _ _ => .int _).or bop_repL
theorem bo_div : BOp X (binaryOp .FloorDiv) oDiv := bop_I Sk.op_fdivZ fun _ _ _ => .int _
theorem bo_mod : BOp X (binaryOp .Mod) oMod := bop_I op_mod fun _ _ _ => .int _
end
/-! ### comparisons -/
def oEq : O2 := fun a b S => (pyOf a S).bind fun x => (pyOf b S).bind fun y => if SeqAt.shaped x = true ∧ SeqAt.shaped y = true then some (.d (.bool (PyData.eqv x y)), S) else none
def oNe : O2 := fun a b S => (pyOf a S).bind fun x => (pyOf b S).bind fun y => if SeqAt.shaped x = true ∧ SeqAt.shaped y = true then some (.d (.bool (!PyData.eqv x y)), S) else none
def notNone : PyData → Bool
  | .none => false
  | _ => true
def oLtD : O2 := fun a b S => (pyOf a S).bind fun x => (pyOf b S).bind fun y => if PySem.W.alike x y = true ∧ notNone x = true ∧ min x.depth y.depth ≤ 32 then some (.d (.bool (PySem.W.dataLt x y)), S) else none
def oLt : O2 := orO (oI0 fun i j => .bool (decide (i < j))) oLtD
def oLe : O2 := oI0 fun i j => .bool (decide (i ≤ j))
def oGt : O2 := oI0 fun i j => .bool (decide (j < i))
def oGe : O2 := oI0 fun i j => .bool (decide (j ≤ i))
def isN : W → Bool
  | .d .none => true
  | _ => false
def oIs : O2 := fun a b S => if isN b = true then some (.d (.bool (isN a)), S) else none
def oIsNot : O2 := fun a b S => if isN b = true then some (.d (.bool (!isN a)), S) else none
def oInL : O2 := fun a b S => (pyOf a S).bind fun x => (lsOf b S).bind fun ds => if SeqAt.shaped x = true ∧ SeqAt.shaped (.list ds) = true then some (.d (.bool (ds.any fun z => PyData.eqv z x)), S) else none
def oNotInL : O2 := fun a b S => (pyOf a S).bind fun x => (lsOf b S).bind fun ds => if SeqAt.shaped x = true ∧ SeqAt.shaped (.list ds) = true then some (.d (.bool (!ds.any fun z => PyData.eqv z x)), S) else none
section
variable {X : Cx}
theorem bo_eq (hu : X.A.units + 64 < cLine) : BOp X (compareOp .Eq) oEq := ⟨_, op_eqD hu, fun F μ S H x y a b c S' Q d ra rb e q => by
  obtain ⟨xs, e1, e⟩ := bindS e
  obtain ⟨ys, e2, e⟩ := bindS e
  by_cases hc : SeqAt.shaped xs = true ∧ SeqAt.shaped ys = true
  · rw [if_pos hc] at e
    cases e
    exact ⟨xs, ys, py_rel d ra e1, py_rel d rb e2, hc.1, hc.2, q F μ H _ .refl d (.bl _)⟩
  · rw [if_neg hc] at e; cases e⟩
theorem bo_ne (hu : X.A.units + 64 < cLine) : BOp X (compareOp .NotEq) oNe := ⟨_, op_neD hu, fun F μ S H x y a b c S' Q d ra rb e q => by
  obtain ⟨xs, e1, e⟩ := bindS e
  obtain ⟨ys, e2, e⟩ := bindS e
  by_cases hc : SeqAt.shaped xs = true ∧ SeqAt.shaped ys = true
  · rw [if_pos hc] at e
    cases e
    exact ⟨xs, ys, py_rel d ra e1, py_rel d rb e2, hc.1, hc.2, q F μ H _ .refl d (.bl _)⟩
  · rw [if_neg hc] at e; cases e⟩
theorem bop_ltD (hu : X.A.units + 64 < cLine) : BOp X (compareOp .Lt) oLtD := ⟨_, Sk.op_ltD hu, fun F μ S H x y a b c S' Q d ra rb e q => by
  obtain ⟨xs, e1, e⟩ := bindS e
  obtain ⟨ys, e2, e⟩ := bindS e
  by_cases hc : PySem.W.alike xs ys = true ∧ notNone xs = true ∧ min xs.depth ys.depth ≤ 32
  · rw [if_pos hc] at e
    cases e
    exact ⟨xs, ys, py_rel d ra e1, py_rel d rb e2, hc.1, fun z => by rw [z] at hc; exact Bool.false_ne_true hc.2.1, hc.2.2, q F μ H _ .refl d (.bl _)⟩
  · rw [if_neg hc] at e; cases e⟩
theorem bo_lt (hu : X.A.units + 64 < cLine) : BOp X (compareOp .Lt) oLt := (bop_I0 op_lt fun _ _ _ => .bl _).or (bop_ltD hu)
theorem bo_gt : BOp X (compareOp .Gt) oGt := bop_I0 op_gt fun _ _ _ => .bl _
theorem bo_ge : BOp X (compareOp .GtE) oGe := bop_I0 op_ge fun _ _ _ => .bl _
theorem isN_rel {F : Hp} {μ : List Addr} {a : W} {x : V} (r : WRel X.K F μ a x) : decide (x = .non) = isN a := by
  cases a with
  | d y =>
    cases y with
    | none => rw [dz_non r]; rfl
    | bool b => rw [dz_bl r]; rfl
    | int b => rw [dz_int r]; rfl
    | str b => rw [dz_str r]; rfl
    | tuple b => obtain ⟨p, xs, rfl, _⟩ := dz_tup r; rfl
    | list b => obtain ⟨p, xs, rfl, _⟩ := dz_lst r; rfl
    | dict b => cases r
  | ref n => obtain ⟨p, _, rfl⟩ := r; rfl
  | scr n => obtain ⟨p, rfl, _⟩ := r; rfl
  | kd n => obtain ⟨p, _, _, rfl, _⟩ := r; rfl
  | fn n => obtain ⟨p, rfl, _⟩ := r; rfl
  | ex c n => obtain ⟨p, _, _, _, _, rfl, _⟩ := r; rfl
theorem isN_non {F : Hp} {μ : List Addr} {a : W} {x : V} (r : WRel X.K F μ a x) (h : isN a = true) : x = .non := by
  rw [← isN_rel r] at h
  exact of_decide_eq_true h
theorem bo_is : BOp X (compareOp .Is) oIs := ⟨_, op_isN, fun F μ S H x y a b c S' Q d ra rb e q => by
  unfold oIs at e
  by_cases hc : isN b = true
  · rw [if_pos hc] at e
    cases e
    refine ⟨isN_non rb hc, ?_⟩
    rw [isN_rel ra]
    exact q F μ H _ .refl d (.bl _)
  · rw [if_neg hc] at e; cases e⟩
theorem bo_isNot : BOp X (compareOp .IsNot) oIsNot := ⟨_, op_notN, fun F μ S H x y a b c S' Q d ra rb e q => by
  unfold oIsNot at e
  by_cases hc : isN b = true
  · rw [if_pos hc] at e
    cases e
    refine ⟨isN_non rb hc, ?_⟩
    rw [isN_rel ra]
    exact q F μ H _ .refl d (.bl _)
  · rw [if_neg hc] at e; cases e⟩
theorem ls_dp {F H : Hp} {μ : List Addr} {S : Sto} {a : W} {x : V} {ds : List PyData} (dd : Wd X.prog X.w X.K F μ S H) (r : WRel X.K F μ a x) (e : lsOf a S = some ds) : Dp X.K H x (.list ds) := by
  obtain ⟨p, xs, rfl, h1, h2⟩ := ls_rel dd r e
  exact .lst h1 (h2.dp dd.ex)
theorem bop_inL (hu : X.A.units + 65 < cLine) : BOp X (compareOp .In) oInL := ⟨_, op_inD hu, fun F μ S H x y a b c S' Q d ra rb e q => by
  obtain ⟨z, e1, e⟩ := bindS e
  obtain ⟨ds, e2, e⟩ := bindS e
  by_cases hc : SeqAt.shaped z = true ∧ SeqAt.shaped (.list ds) = true
  · rw [if_pos hc] at e
    cases e
    exact ⟨z, ds, py_rel d ra e1, ls_dp d rb e2, hc.1, hc.2, q F μ H _ .refl d (.bl _)⟩
  · rw [if_neg hc] at e; cases e⟩
theorem bop_notInL (hu : X.A.units + 65 < cLine) : BOp X (compareOp .NotIn) oNotInL := ⟨_, op_notInD hu, fun F μ S H x y a b c S' Q d ra rb e q => by
  obtain ⟨z, e1, e⟩ := bindS e
  obtain ⟨ds, e2, e⟩ := bindS e
  by_cases hc : SeqAt.shaped z = true ∧ SeqAt.shaped (.list ds) = true
  · rw [if_pos hc] at e
    cases e
    exact ⟨z, ds, py_rel d ra e1, ls_dp d rb e2, hc.1, hc.2, q F μ H _ .refl d (.bl _)⟩
  · rw [if_neg hc] at e; cases e⟩
end
end Mr

set_option maxHeartbeats 2000000
namespace Mr
open PySem PySem.Spec PyProof.Rows L2
open Evl (Ex ex_l ex_t)

/-! ### subscripts, slices -/
def sqOf : W → Sto → Option (List PyData)
  | .d (.tuple ds), _ => some ds
  | a, S => lsOf a S
def oIx : O2 := fun a b S => (sqOf a S).bind fun ds => (inOf b).bind fun i => (atI ds i).bind fun d => some (.d d, S)
def cutD (ds : List PyData) (lo hi : Option Int) : List PyData := (ds.drop (HT.sIx ds.length 0 lo)).take (HT.sIx ds.length ds.length hi - HT.sIx ds.length 0 lo)
def partOf (m : Option M) : Env → Sto → Option (Option Int × Sto) := fun e S => match m with
  | none => some (none, S)
  | some m => (m e S).bind fun p => (inOf p.1).bind fun i => some (some i, p.2)
def oSl (a : W) (lo hi : Option Int) (S : Sto) : Option (W × Sto) := match a with
  | .d (.tuple ds) => some (.d (.tuple (cutD ds lo hi)), S)
  | a => (lsOf a S).bind fun ds => some (.d (.list (cutD ds lo hi)), S)
def mSl (a : M) (lo hi : Option M) : M := fun e S => (a e S).bind fun p => (partOf lo e p.2).bind fun l => (partOf hi e l.2).bind fun h => oSl p.1 l.1 h.1 h.2
section
variable {X : Cx} {a b e : Expr} {es : List Expr} {ma mb m : M} {mr : MA} {pos : Pos}
theorem sq_rel {P : Program} {w : World} {K : PySem.W.Frag} {F H : Hp} {μ : List Addr} {S : Sto} {a : W} {x : V} {ds : List PyData} (dd : Wd P w K F μ S H) (r : WRel K F μ a x) (e : sqOf a S = some ds) :
    ∃ p xs, x = .ref p ∧ (SqL K H p xs ∨ SqT K H p xs) ∧ DzAll K F xs ds := by
  unfold sqOf at e
  split at e
  · cases e
    obtain ⟨p, xs, rfl, h1, h2⟩ := dz_tup r
    exact ⟨p, xs, rfl, .inr (ex_t dd.ex h1.1), h2⟩
  · obtain ⟨p, xs, rfl, h1, h2⟩ := ls_rel dd r e
    exact ⟨p, xs, rfl, .inl h1, h2⟩
theorem dza_atI {K : PySem.W.Frag} {F : Hp} {xs : List V} {ds : List PyData} {i : Int} {d : PyData} (h : DzAll K F xs ds) (e : atI ds i = some d) : ∃ v, atI xs i = some v ∧ Dz K F v d := by
  unfold atI at e ⊢
  rw [h.len]
  cases q : ixN ds.length i with
  | none => rw [q] at e; cases e
  | some j =>
    rw [q] at e
    exact h.get (show ds[j]? = some d from e)
theorem opd_ix : OpD X.prog X.w X.K oIx (rIx X.K) := fun F μ S H x y a b c S' Q d ra rb e q => by
  obtain ⟨ds, e1, e⟩ := bindS e
  obtain ⟨i, e2, e⟩ := bindS e
  obtain ⟨dd, e3, e⟩ := bindS e
  cases e
  obtain ⟨p, xs, rfl, h1, h2⟩ := sq_rel d ra e1
  obtain ⟨v, h3, h4⟩ := dza_atI h2 e3
  have h5 := q F μ H v .refl d h4
  rcases h1 with h1 | h1
  · exact .inl ⟨p, xs, i, v, rfl, in_rel rb e2, h1, h3, h5⟩
  · exact .inr (.inl ⟨p, xs, i, v, rfl, in_rel rb e2, h1, h3, h5⟩)
/-- what a subscript by values is -/
def IOp (X : Cx) (o : O2) : Prop := ∃ r, IxR X r ∧ OpD X.prog X.w X.K o r
theorem io_seq : IOp X oIx := ⟨_, ix_seq, opd_ix⟩
theorem IOp.or {o o' : O2} (h : IOp X o) (h' : IOp X o') : IOp X (orO o o') := by
  obtain ⟨r, h1, h2⟩ := h
  obtain ⟨r', h3, h4⟩ := h'
  refine ⟨fun x y H Q => r x y H Q ∨ r' x y H Q, fun value slice pins s σ H x y v u Q I rx ry q hp => ?_, fun F μ S H x y a b c S' Q d ra rb e q => ?_⟩
  · rcases q with q | q
    · exact h1 value slice pins s σ H x y v u Q I rx ry q hp
    · exact h3 value slice pins s σ H x y v u Q I rx ry q hp
  · unfold orO at e
    split at e
    · rename_i z hz
      cases e
      exact .inl (h2 F μ S H x y a b c S' Q d ra rb hz q)
    · exact .inr (h4 F μ S H x y a b c S' Q d ra rb e q)
theorem me_ix {o : O2} (hr : IOp X o) (ha : PE X a (Cx.tE X ma)) (hb : PE X b (Cx.tE X mb)) (hs : PlainIx b) : PE X (.Subscript a b pos) (Cx.tE X (mOp o ma mb)) := by
  obtain ⟨r, h1, h2⟩ := hr
  exact me_of (pe_ix h1 ha hb hs) fun σ H Q F μ S env x S' d re e q => tOp_of h2 d re e q
def tO (P : Program) (w : World) (K : PySem.W.Frag) : Option M → TO
  | none => tNoPart
  | some m => tPart (tM P w K m)
theorem mo_none : PO X none (tO X.prog X.w X.K none) := po_none
theorem mo_some (h : PE X e (Cx.tE X m)) : PO X (some e) (tO X.prog X.w X.K (some m)) := po_some h
theorem useO {mo : Option M} {F H : Hp} {μ : List Addr} {S S' : Sto} {env : Env} {σ : L2.St} {o : Option Int} {Q : Option Int → Hp → Prop} (e : partOf mo env S = some (o, S')) (d : Wd X.prog X.w X.K F μ S H) (re : RelE X.K F μ σ env)
    (q : ∀ F' μ' H', Gr F μ H F' μ' H' → Wd X.prog X.w X.K F' μ' S' H' → RelE X.K F' μ' σ env → Q o H') : tO X.prog X.w X.K mo σ H Q := by
  cases mo with
  | none =>
    cases e
    exact q F μ H .refl d re
  | some m =>
    obtain ⟨⟨x, S1⟩, e1, e⟩ := bindS e
    obtain ⟨i, e2, e⟩ := bindS e
    cases e
    exact useM e1 d re fun F1 μ1 H1 v1 g1 d1 re1 r1 => ⟨i, in_rel r1 e2, q F1 μ1 H1 g1 d1 re1⟩
theorem cut_whole {xs : List V} {ds : List PyData} {F : Hp} {lo hi : Option Int} (h : DzAll X.K F xs ds) (hw : HT.sIx xs.length 0 lo = 0 ∧ HT.sIx xs.length xs.length hi = xs.length) : cutD ds lo hi = ds := by
  unfold cutD
  rw [← h.len, hw.1, hw.2, List.drop_zero, Nat.sub_zero, h.len, List.take_length]
theorem me_sl {lo hi : Option Expr} {ml mh : Option M} {p2 : Pos} (he : PE X e (Cx.tE X m)) (hl : PO X lo (tO X.prog X.w X.K ml)) (hu : PO X hi (tO X.prog X.w X.K mh)) : PE X (.Subscript e (.Slice lo hi none p2) pos) (Cx.tE X (mSl m ml mh)) :=
  me_of (pe_slice (sl_tupF.or sl_list) he hl hu) fun σ H Q F μ S env x S' d re e q => by
  obtain ⟨⟨a, S1⟩, e1, e⟩ := bindS e
  obtain ⟨⟨l, S2⟩, e2, e⟩ := bindS e
  obtain ⟨⟨h, S3⟩, e3, e⟩ := bindS e
  refine useM e1 d re fun F1 μ1 H1 v1 g1 d1 re1 r1 => useO (X := X) e2 d1 re1 fun F2 μ2 H2 g2 d2 re2 => useO (X := X) e3 d2 re2 fun F3 μ3 H3 g3 d3 re3 => ?_
  have r3 := (r1.gr g2).gr g3
  have gg := (g1.trans g2).trans g3
  have e0 : oSl a l h S3 = some (x, S') := e
  clear e
  by_cases ht : ∃ ds, a = .d (.tuple ds)
  · obtain ⟨ds, rfl⟩ := ht
    cases e0
    obtain ⟨p, xs, rfl, hp, hx⟩ := dz_tup r3
    refine .inl ⟨p, xs, rfl, ex_t d3.ex hp.1, fun hw => ?_, fun hw r o hr ho => ?_⟩
    · rw [cut_whole hx hw] at q
      exact q F3 μ3 H3 _ gg d3 (.tup hp hx)
    · obtain ⟨d4, g4⟩ := d3.new hr (.frz o (.tup (cutV xs l h)))
      refine q _ _ _ _ (gg.trans g4) d4 (dz_new (d3.fresh hr).1 ho ?_)
      unfold cutV cutD
      rw [hx.len]
      exact (hx.drop _).take _
  · have e' : (lsOf a S3).bind (fun ds => some (W.d (.list (cutD ds l h)), S3)) = some (x, S') := by
      unfold oSl at e0
      split at e0
      · exact absurd ⟨_, rfl⟩ ht
      · exact e0
    obtain ⟨ds, e4, e5⟩ := bindS e'
    cases e5
    obtain ⟨p, xs, rfl, hp, hx⟩ := ls_rel d3 r3 e4
    refine .inr ⟨p, xs, rfl, hp, fun r hr => ?_⟩
    obtain ⟨d4, g4⟩ := d3.new hr (.lst (cutV xs l h))
    refine q _ _ _ _ (gg.trans g4) d4 (.lst upd_same (DzAll.up g4.ex ?_))
    unfold cutV cutD
    rw [hx.len]
    exact (hx.drop _).take _

/-! ### builtins by values -/
def on1 (o : W → Sto → Option (W × Sto)) : On := fun ws S => match ws with
  | [a] => o a S
  | _ => none
def on2 (o : O2) : On := fun ws S => match ws with
  | [a, b] => o a b S
  | _ => none
def oLen : On := on1 fun a S => (sqOf a S).bind fun ds => some (.d (.int (ds.length : Nat)), S)
def oAbs : On := on1 fun a S => (inOf a).bind fun i => some (.d (.int ((i.natAbs : Nat) : Int)), S)
def oInt : On := on1 fun a S => (inOf a).bind fun i => some (.d (.int i), S)
def oMax2 : On := on2 fun a b S => (inOf a).bind fun i => (inOf b).bind fun j => some (.d (.int (max i j)), S)
def oMin2 : On := on2 fun a b S => (inOf a).bind fun i => (inOf b).bind fun j => some (.d (.int (min i j)), S)
def oGcd : On := on2 fun a b S => (inOf a).bind fun i => (inOf b).bind fun j => some (.d (.int ((Nat.gcd i.natAbs j.natAbs : Nat) : Int)), S)
def boolsOf : List PyData → Option (List Bool)
  | [] => some []
  | .bool b :: ds => (boolsOf ds).bind fun bs => some (b :: bs)
  | _ :: _ => none
def intsOf : List PyData → Option (List Int)
  | [] => some []
  | .int i :: ds => (intsOf ds).bind fun is => some (i :: is)
  | _ :: _ => none
def oAll : On := on1 fun a S => (lsOf a S).bind fun ds => (boolsOf ds).bind fun bs => some (.d (.bool (bs.all id)), S)
def oAny : On := on1 fun a S => (lsOf a S).bind fun ds => (boolsOf ds).bind fun bs => some (.d (.bool (bs.any id)), S)
def oSum : On := on1 fun a S => (lsOf a S).bind fun ds => (intsOf ds).bind fun is => some (.d (.int is.sum), S)
def oMaxL : On := on1 fun a S => (lsOf a S).bind fun ds => (intsOf ds).bind fun is => match is with
  | [] => none
  | i :: is => some (.d (.int (is.foldl max i)), S)
def oList : On := on1 fun a S => (sqOf a S).bind fun ds => some (.d (.list ds), S)
def oListC : On := on1 fun a S => (sqOf a S).bind fun ds => some (.ref S.length, S ++ [.lst ds])
def oTuple : O1 := fun a S => (lsOf a S).bind fun ds => some (.d (.tuple ds), S)
def alikeAllB (ds : List PyData) : Bool := ds.all fun d => ds.all fun d' => PySem.W.alike d d'
def sortableB (ds : List PyData) : Bool := (ds.all fun d => match d with | .tuple (_ :: _) => true | _ => false) || (ds.all fun d => match d with | .none => false | .tuple _ => false | _ => true)
def oSorted : On := on1 fun a S => (lsOf a S).bind fun ds => if alikeAllB ds = true ∧ sortableB ds = true ∧ ds.length ≤ 1000 ∧ (ds.all fun d => decide (d.depth ≤ 32)) = true then some (.d (.list (ds.mergeSort (PySem.W.dataLe false id))), S) else none
theorem bools_of : ∀ {ds : List PyData} {bs : List Bool}, boolsOf ds = some bs → ds = bs.map PyData.bool
  | [], _, h => by cases h; rfl
  | .bool b :: ds, _, h => by
    obtain ⟨bs', e1, e2⟩ := bindS h
    cases e2
    rw [bools_of e1]; rfl
  | .none :: _, _, h => by cases h
  | .int _ :: _, _, h => by cases h
  | .str _ :: _, _, h => by cases h
  | .list _ :: _, _, h => by cases h
  | .tuple _ :: _, _, h => by cases h
  | .dict _ :: _, _, h => by cases h
theorem boolsOf_map (bs : List Bool) : boolsOf (bs.map PyData.bool) = some bs := by
  induction bs with
  | nil => rfl
  | cons b bs ih => rw [List.map_cons, boolsOf, ih]; rfl
theorem co1 {f : Value} {o : W → Sto → Option (W × Sto)} {r : List V → Hp → VK → Prop} (h : CallR X f r) (k : ∀ F μ S H x a c S' Q, Wd X.prog X.w X.K F μ S H → WRel X.K F μ a x → o a S = some (c, S') →
    (∀ F' μ' H' v, Gr F μ H F' μ' H' → Wd X.prog X.w X.K F' μ' S' H' → WRel X.K F' μ' c v → Q v H') → r [x] H Q) : COp X f (on1 o) := ⟨r, h, fun F μ S H xs as c S' Q d ra e q => by
  unfold on1 at e
  split at e
  · cases ra with
    | cons r1 r2 => cases r2; exact k F μ S H _ _ c S' Q d r1 e q
  · cases e⟩
theorem co2 {f : Value} {o : O2} {r : List V → Hp → VK → Prop} (h : CallR X f r) (k : ∀ F μ S H x y a b c S' Q, Wd X.prog X.w X.K F μ S H → WRel X.K F μ a x → WRel X.K F μ b y → o a b S = some (c, S') →
    (∀ F' μ' H' v, Gr F μ H F' μ' H' → Wd X.prog X.w X.K F' μ' S' H' → WRel X.K F' μ' c v → Q v H') → r [x, y] H Q) : COp X f (on2 o) := ⟨r, h, fun F μ S H xs as c S' Q d ra e q => by
  unfold on2 at e
  split at e
  · cases ra with
    | cons r1 r2 => cases r2 with
      | cons r3 r4 => cases r4; exact k F μ S H _ _ _ _ c S' Q d r1 r3 e q
  · cases e⟩
theorem co_len : COp X (.builtin "len") oLen := co1 Sk.call_lenU fun F μ S H x a c S' Q d ra e q => by
  obtain ⟨ds, e1, e⟩ := bindS e
  cases e
  obtain ⟨p, xs, rfl, h1, h2⟩ := sq_rel d ra e1
  have := q F μ H (.int (ds.length : Nat)) .refl d (.int _)
  rw [← h2.len] at this
  exact ⟨p, xs, rfl, h1, this⟩
theorem co_abs : COp X (.builtin "abs") oAbs := co1 Sk.call_absU fun F μ S H x a c S' Q d ra e q => by
  obtain ⟨i, e1, e⟩ := bindS e
  cases e
  rw [in_rel ra e1]
  exact Sk.w_abs (q F μ H _ .refl d (.int _))
theorem co_int : COp X (.type "int") oInt := co1 Sk.call_intU fun F μ S H x a c S' Q d ra e q => by
  obtain ⟨i, e1, e⟩ := bindS e
  cases e
  rw [in_rel ra e1]
  exact ⟨i, rfl, q F μ H _ .refl d (.int _)⟩
theorem co_max2 (hc : X.calm = true) : COp X (.builtin "max") oMax2 := co2 (Sk.call_maxU hc) fun F μ S H x y a b c S' Q d ra rb e q => by
  obtain ⟨i, e1, e⟩ := bindS e
  obtain ⟨j, e2, e⟩ := bindS e
  cases e
  rw [in_rel ra e1, in_rel rb e2]
  exact Sk.w_max2 (q F μ H _ .refl d (.int _))
theorem co_min2 (hc : X.calm = true) : COp X (.builtin "min") oMin2 := co2 (Sk.call_minU hc) fun F μ S H x y a b c S' Q d ra rb e q => by
  obtain ⟨i, e1, e⟩ := bindS e
  obtain ⟨j, e2, e⟩ := bindS e
  cases e
  rw [in_rel ra e1, in_rel rb e2]
  exact Sk.w_min2 (q F μ H _ .refl d (.int _))
theorem co_gcd : COp X (.builtin "math.gcd") oGcd := co2 cr_gcd fun F μ S H x y a b c S' Q d ra rb e q => by
  obtain ⟨i, e1, e⟩ := bindS e
  obtain ⟨j, e2, e⟩ := bindS e
  cases e
  rw [in_rel ra e1, in_rel rb e2]
  exact ⟨i, j, rfl, q F μ H _ .refl d (.int _)⟩
theorem co_all (hc : X.calm = true) : COp X (.builtin "all") oAll := co1 (cr_all hc) fun F μ S H x a c S' Q d ra e q => by
  obtain ⟨ds, e1, e⟩ := bindS e
  obtain ⟨bs, e2, e⟩ := bindS e
  cases e
  obtain ⟨p, xs, rfl, h1, h2⟩ := ls_rel d ra e1
  rw [bools_of e2] at h2
  rw [dza_bools h2] at h1
  exact ⟨p, bs, rfl, h1, q F μ H _ .refl d (.bl _)⟩
/-- sorted of data -/
def rSortZ (K : PySem.W.Frag) : List V → Hp → VK → Prop := fun xs H Q => ∃ (F : Hp) (l : Addr) (vs : List V) (ds : List PyData), xs = [.ref l] ∧ Ex F H ∧ SqL K H l vs ∧ DzAll K F vs ds ∧ PySem.W.AllAlike ds ∧ PySem.W.Sortable ds ∧ ds.length ≤ 1000 ∧ (∀ d ∈ ds, d.depth ≤ 32) ∧
  ∀ p out, H p = none → out.length = ds.length → DzAll K F out (ds.mergeSort (PySem.W.dataLe false id)) → Q (.ref p) (upd H p (.lst out))
def StandsZ (K : PySem.W.Frag) (F : Hp) (u : Value) (d : PyData) : Prop := ∃ x : V, RelV x u ∧ Dz K F x d
theorem me_tuple {p : Pos} (hg : Gl X "tuple") (hm : X.mg "tuple" = none) (ha : PE X a (Cx.tE X m)) (na : starEach [a] X.env = (false, eval a X.env) :: starEach [] X.env := by rfl) :
    PE X (.Call (.Name "tuple" p) [a] [] pos) (Cx.tE X (mUn oTuple m)) := me_of (Sk.pe_tupleF hg hm ha na) fun σ H Q F μ S env x S' d re e q => by
  obtain ⟨⟨a, S1⟩, e1, e⟩ := bindS e
  obtain ⟨ds, e2, e⟩ := bindS e
  cases e
  refine useM e1 d re fun F1 μ1 H1 v1 g1 d1 re1 r1 => ?_
  obtain ⟨p, xs, rfl, hp, hx⟩ := ls_rel d1 r1 e2
  refine ⟨p, xs, rfl, hp, fun r o hr ho => ?_⟩
  obtain ⟨d4, g4⟩ := d1.new hr (.frz o (.tup xs))
  exact q _ _ _ _ (g1.trans g4) d4 (dz_new (d1.fresh hr).1 ho hx)
/-! isinstance -/
inductive Ty where
  | int | bool | tuple | list | str
def Ty.nm : Ty → String
  | .int => "int" | .bool => "bool" | .tuple => "tuple" | .list => "list" | .str => "str"
def isT : PyData → Ty → Bool
  | .int _, .int => true
  | .bool _, .int => true
  | .bool _, .bool => true
  | .tuple _, .tuple => true
  | .list _, .list => true
  | .str _, .str => true
  | _, _ => false
theorem isT_eq (d : PyData) (t : Ty) : Sk.isi d t.nm = isT d t := by
  cases d <;> cases t <;> (unfold Sk.isi Sk.tyN Ty.nm isT; dsimp only; decide)
theorem ty_mem (t : Ty) : t.nm ∈ ["int", "bool", "tuple", "list", "str"] := by cases t <;> decide
def oIsi (n : Ty) : O1 := fun a S => (pyOf a S).bind fun x => some (.d (.bool (isT x n)), S)
def oIsi2 (n k : Ty) : O1 := fun a S => (pyOf a S).bind fun x => some (.d (.bool (isT x n || isT x k)), S)
theorem me_isi (n : Ty) (h : PE X e (tCB (rIsi X.K) (tCons (Cx.tE X m) (tCons (tC (.ty n.nm)) tNil)))) : PE X e (Cx.tE X (mUn (oIsi n) m)) := me_of h fun σ H Q F μ S env x S' d re e q => by
  obtain ⟨⟨a, S1⟩, e1, e⟩ := bindS e
  obtain ⟨y, e2, e⟩ := bindS e
  cases e
  refine useM e1 d re fun F1 μ1 H1 v1 g1 d1 re1 r1 => ?_
  exact Sk.w_isi (py_rel d1 r1 e2) (q F1 μ1 H1 _ g1 d1 (by rw [isT_eq]; exact .bl _)) (ty_mem n)
theorem me_callTy {x T : String} {p : Pos} {o : On} (hc : COp X (.type T) o) (hg : Gl X x) (hm : X.mg x = none) (hv : bootBuiltins x = some (.type T)) (ha : PA X (e :: es) (Cx.tA X mr)) (hn : (x : Str) ≠ "__name__" := by decide) (hdb : ((x : Str) == ("__debug__" : Str)) = false := by decide)
    (he : starEach (e :: es) X.env = (false, eval e X.env) :: starEach es X.env := by rfl) (hpl : (backTo pos (starEach es X.env)).any (·.1) = false := by rfl) : PE X (.Call (.Name x p) (e :: es) [] pos) (Cx.tE X (mCall o mr)) := by
  obtain ⟨r, h1, h2⟩ := hc
  exact me_of (pe_callTy h1 hg hm hv ha hn hdb he hpl) fun σ H Q F μ S env y S' d re e q => tCB_of h2 d re e q
theorem me_callBf {x : Str} {id : String} {p : Pos} {o : On} (hc : COp X (.builtin id) o) (hg : Gl X x) (hm : X.mg x = some (.builtin id)) (ha : PA X (e :: es) (Cx.tA X mr)) (h : ∀ r t, CallR X (.builtin id) r → PA X (e :: es) t → PE X (.Call (.Name x p) (e :: es) [] pos) (tCB r t)) :
    PE X (.Call (.Name x p) (e :: es) [] pos) (Cx.tE X (mCall o mr)) := by
  obtain ⟨r, h1, h2⟩ := hc
  exact me_of (h r _ h1 ha) fun σ H Q F μ S env y S' d re e q => tCB_of h2 d re e q
theorem uo_neg : UOp X (unaryOp .USub) (fun a S => (inOf a).bind fun i => some (.d (.int (-i)), S)) := ⟨_, un_neg, fun F μ S H x a c S' Q d ra e q => by
  obtain ⟨i, e1, e⟩ := bindS e
  cases e
  exact ⟨i, in_rel ra e1, q F μ H _ .refl d (.int _)⟩⟩
end
def oNeg : O1 := fun a S => (inOf a).bind fun i => some (.d (.int (-i)), S)
end Mr

set_option maxHeartbeats 2000000
namespace Mr
open PySem PySem.Spec PyProof.Rows L2
open Evl (Ex ex_l ex_t)

/-! ### calls of the text's own defs -/
/-- the arguments in another sequence -/
def permL {α : Type} (is : List Nat) (xs : List α) : List α := is.filterMap fun i => xs[i]?
def mCallK (f : On) (is : List Nat) (t : MA) : M := fun e S => (t e S).bind fun p => f (permL is p.1) p.2
section
variable {X : Cx} {e : Expr} {es : List Expr} {kws : List Keyword} {mr : MA} {f : On} {x : Str} {ps ks : List Str} {j k : Nat} {p pos : Pos}
theorem me_call (C : Sk.Cal X.prog X.w X.K X.mg X.base j x ps (spM X.prog X.w X.K f)) (hr : Room k X.A) (hjk : j ≤ k) (ha : PA X (e :: es) (Cx.tA X mr)) (hg : Gl X x := by rfl)
    (hdb : (x == ("__debug__" : Str)) = false := by decide) (he : starEach (e :: es) X.env = (false, eval e X.env) :: starEach es X.env := by rfl) (hpl : (backTo pos (starEach es X.env)).any (·.1) = false := by rfl) :
    PE X (.Call (.Name x p) (e :: es) [] pos) (Cx.tE X (mCall f mr)) := me_of (Sk.pe_callD C hr hjk ha hg hdb he hpl) fun σ H Q F μ S env y S' d re e q => by
  obtain ⟨⟨xs, S1⟩, e1, e⟩ := bindS e
  exact useA e1 d re fun F1 μ1 H1 vs g1 d1 re1 r1 => ⟨F1, μ1, S1, xs, y, S', d1, r1, e, fun F2 μ2 H2 v2 g2 d2 r2 => q F2 μ2 H2 v2 (g1.trans g2) d2 r2⟩
theorem wall_perm {K : PySem.W.Frag} {F : Hp} {μ : List Addr} {ws : List W} {vs : List V} (h : WAll K F μ ws vs) : ∀ is : List Nat, WAll K F μ (permL is ws) (permL is vs)
  | [] => .nil
  | i :: is => by
    unfold permL
    rw [List.filterMap_cons, List.filterMap_cons]
    cases hw : ws[i]? with
    | none =>
      have : vs[i]? = none := by
        rw [List.getElem?_eq_none_iff] at hw ⊢
        rw [← h.len]; exact hw
      rw [this]
      exact wall_perm h is
    | some w =>
      obtain ⟨v, h1, h2⟩ := wall_get h hw
      rw [h1]
      exact .cons h2 (wall_perm h is)
theorem me_callK {is : List Nat} (C : Sk.CalK X.prog X.w X.K X.mg X.base j x ps ks (permL is) (spM X.prog X.w X.K f)) (hl : ∀ e S p, mr e S = some p → p.1.length = ks.length) (hr : Room k X.A) (hjk : j ≤ k) (hkw : PK X kws (Cx.tA X mr)) (hg : Gl X x := by rfl)
    (hall : (backToKw pos (keywordEach kws X.env)).all (·.1.isSome) = true := by rfl) (hks : (backToKw pos (keywordEach kws X.env)).filterMap (·.1) = ks := by rfl)
    (hdb : (x == ("__debug__" : Str)) = false := by decide)
    (hpl : ((backTo pos (starEach [] X.env)).any (·.1) || (backToKw pos (keywordEach kws X.env)).any (·.1.isNone)) = false := by rfl) :
    PE X (.Call (.Name x p) [] kws pos) (Cx.tE X (mCallK f is mr)) := me_of (Sk.pe_callW C hr hjk hkw hg hall hks hdb hpl) fun σ H Q F μ S env y S' d re e q => by
  obtain ⟨⟨xs, S1⟩, e1, e⟩ := bindS e
  refine useA e1 d re fun F1 μ1 H1 vs g1 d1 re1 r1 => ⟨?_, F1, μ1, S1, permL is xs, y, S', d1, wall_perm r1 is, e, fun F2 μ2 H2 v2 g2 d2 r2 => q F2 μ2 H2 v2 (g1.trans g2) d2 r2⟩
  rw [← r1.len]
  exact hl _ _ _ e1
theorem mk_nil : PK X [] (Cx.tA X mNil) := ⟨fun pos pins s σ H Q I ⟨F, μ, S, env, x, S', d, re, e, q⟩ => by
  cases e
  exact pk_nil.run pos pins s σ H Q I (q F μ H [] .refl d .nil)⟩
end
theorem len_nil : ∀ (e : Env) (S : Sto) (p : List W × Sto), mNil e S = some p → p.1.length = 0 := fun e S p h => by cases h; rfl
theorem len_cons {m : M} {t : MA} {n : Nat} (h : ∀ (e : Env) (S : Sto) (p : List W × Sto), t e S = some p → p.1.length = n) : ∀ (e : Env) (S : Sto) (p : List W × Sto), mCons m t e S = some p → p.1.length = n + 1 := fun e S p q => by
  obtain ⟨x, e1, q⟩ := bindS q
  obtain ⟨y, e2, q⟩ := bindS q
  cases q
  rw [List.length_cons, h _ _ _ e2]

/-! ### lists that change -/
def cellL (a : W) (S : Sto) : Option (Nat × List PyData) := match a with
  | .ref n => match S[n]? with
    | some (.lst ds) => some (n, ds)
    | _ => none
  | _ => none
/-- o[i] = v of a list -/
def putL (o i v : W) (S : Sto) : Option Sto := (cellL o S).bind fun c => (inOf i).bind fun k => (dOf v).bind fun d => (ixN c.2.length k).bind fun j => some (S.set c.1 (.lst (c.2.set j d)))
abbrev P3 := W → W → W → Sto → Option Sto
def orP (p p' : P3) : P3 := fun o i v S => match p o i v S with
  | some S' => some S'
  | none => p' o i v S
def sPut (pt : P3) (mo mi m : M) : MS := fun e S => (m e S).bind fun v => (mo e v.2).bind fun o => (mi e o.2).bind fun i => (pt o.1 i.1 v.1 i.2).bind fun S' => some (.nx e S')
def PtD (P : Program) (w : World) (K : PySem.W.Frag) (pt : P3) (t : TSet) : Prop := ∀ F μ S H xo xi xv o i v S' Q, Wd P w K F μ S H → WRel K F μ o xo → WRel K F μ i xi → WRel K F μ v xv → pt o i v S = some S' →
  (∀ F' μ' H', Gr F μ H F' μ' H' → Wd P w K F' μ' S' H' → Q H') → t xo xi xv H Q
def POp (X : Cx) (pt : P3) : Prop := ∃ t, PSet X t ∧ PtD X.prog X.w X.K pt t
section
variable {X : Cx} {o i e : Expr} {es : List Expr} {mo mi m : M} {mr : MA} {pos : Pos}
theorem cell_rel {F H : Hp} {μ : List Addr} {S : Sto} {a : W} {x : V} {n : Nat} {ds : List PyData} (d : Wd X.prog X.w X.K F μ S H) (r : WRel X.K F μ a x) (e : cellL a S = some (n, ds)) :
    ∃ p xs, x = .ref p ∧ μ[n]? = some p ∧ F p = none ∧ H p = some (.lst xs) ∧ DzAll X.K F xs ds := by
  unfold cellL at e
  split at e
  · rename_i k
    split at e
    · rename_i es hs
      cases e
      obtain ⟨p, h1, rfl⟩ := r
      obtain ⟨h2, xs, h3, h4⟩ := cell_of d h1 hs
      exact ⟨p, xs, rfl, h1, h2, h3, h4⟩
    · cases e
  · cases e
theorem po_list : POp X putL := ⟨_, set_list, fun F μ S H xo xi xv o i v S' Q d ro ri rv e q => by
  obtain ⟨⟨n, ds⟩, e1, e⟩ := bindS e
  obtain ⟨k, e2, e⟩ := bindS e
  obtain ⟨dv, e3, e⟩ := bindS e
  obtain ⟨j, e4, e⟩ := bindS e
  cases e
  obtain ⟨p, xs, rfl, h1, h2, h3, h4⟩ := cell_rel d ro e1
  have hv := d_rel rv e3
  refine ⟨p, xs, k, j, rfl, in_rel ri e2, h3, by rw [h4.len]; exact e4, ?_⟩
  obtain ⟨d2, g2⟩ := d.put (o := .lst (xs.set j xv)) (c := .lst (ds.set j dv)) h1 h2 ⟨h2, _, upd_same, h4.set hv j⟩
  exact q _ _ _ g2 d2⟩
theorem POp.or {p p' : P3} (h : POp X p) (h' : POp X p') : POp X (orP p p') := by
  obtain ⟨r, h1, h2⟩ := h
  obtain ⟨r', h3, h4⟩ := h'
  refine ⟨fun o i v H Q => r o i v H Q ∨ r' o i v H Q, fun pins s σ H o i v ov iv u Q I ro ri rv q => ?_, fun F μ S H xo xi xv o i v S' Q d ro ri rv e q => ?_⟩
  · rcases q with q | q
    · exact h1 pins s σ H o i v ov iv u Q I ro ri rv q
    · exact h3 pins s σ H o i v ov iv u Q I ro ri rv q
  · unfold orP at e
    split at e
    · rename_i z hz
      cases e
      exact .inl (h2 F μ S H xo xi xv o i v S' Q d ro ri rv hz q)
    · exact .inr (h4 F μ S H xo xi xv o i v S' Q d ro ri rv e q)
theorem ms_put {pt : P3} {p' : Pos} (hp : POp X pt) (he : PE X e (Cx.tE X m)) (ho : PE X o (Cx.tE X mo)) (hi : PE X i (Cx.tE X mi))
    (h : ∀ t te to ti, PSet X t → PE X e te → PE X o to → PE X i ti → PS X (.Assign [.Subscript o i p'] e pos) (tAsg te (gSub to ti t))) : PS X (.Assign [.Subscript o i p'] e pos) (Cx.tS X (sPut pt mo mi m)) := by
  obtain ⟨t, h1, h2⟩ := hp
  refine ms_of (h t _ _ _ h1 he ho hi) fun D σ H F μ S env r d re e q => ?_
  obtain ⟨⟨v, S1⟩, e1, e⟩ := bindS e
  obtain ⟨⟨ov, S2⟩, e2, e⟩ := bindS e
  obtain ⟨⟨iv, S3⟩, e3, e⟩ := bindS e
  obtain ⟨S4, e4, e⟩ := bindS e
  cases e
  refine useM e1 d re fun F1 μ1 H1 v1 g1 d1 re1 r1 => useM e2 d1 re1 fun F2 μ2 H2 v2 g2 d2 re2 r2 => useM e3 d2 re2 fun F3 μ3 H3 v3 g3 d3 re3 r3 => ?_
  exact h2 F3 μ3 S3 H3 v2 v3 v1 ov iv v S4 _ d3 (r2.gr g3) r3 ((r1.gr g2).gr g3) e4 fun F4 μ4 H4 g4 d4 => q F4 μ4 H4 σ (((g1.trans g2).trans g3).trans g4) d4 (re3.gr g4)
/-! methods of lists -/
abbrev Om := W → List W → Sto → Option (W × Sto)
def mMeth (f : Om) (o : M) (t : MA) : M := fun e S => (o e S).bind fun p => (t e p.2).bind fun q => f p.1 q.1 q.2
def omAppend : Om := fun a ws S => match ws with
  | [v] => (cellL a S).bind fun c => (dOf v).bind fun d => if c.2.length < lim then some (.d .none, S.set c.1 (.lst (c.2 ++ [d]))) else none
  | _ => none
def omExtend : Om := fun a ws S => match ws with
  | [v] => (cellL a S).bind fun c => (lwOf v S).bind fun ds => if c.2.length + ds.length ≤ lim then some (.d .none, S.set c.1 (.lst (c.2 ++ ds))) else none
  | _ => none
def omReverse : Om := fun a ws S => match ws with
  | [] => (cellL a S).bind fun c => some (.d .none, S.set c.1 (.lst c.2.reverse))
  | _ => none
/-- the first place at which it stands -/
def idxOf (d : PyData) : List PyData → Option Nat
  | [] => none
  | x :: xs => if PyData.eqv x d = true then some 0 else (idxOf d xs).map (· + 1)
def omIndex : Om := fun a ws S => match ws with
  | [v] => (lsOf a S).bind fun ds => (pyOf v S).bind fun d => if SeqAt.shaped (.list ds) = true ∧ SeqAt.shaped d = true then (idxOf d ds).bind fun j => some (.d (.int (j : Nat)), S) else none
  | _ => none
def MtD (P : Program) (w : World) (K : PySem.W.Frag) (f : Om) (T : String) (r : V → List V → Hp → VK → Prop) : Prop := ∀ F μ S H x xs a as c S' Q, Wd P w K F μ S H → WRel K F μ a x → WAll K F μ as xs → f a as S = some (c, S') →
  (∀ F' μ' H' v, Gr F μ H F' μ' H' → Wd P w K F' μ' S' H' → WRel K F' μ' c v → Q v H') → r x xs H Q
theorem ty_gr {K : PySem.W.Frag} {P : Program} {w : World} {F H : Hp} {μ : List Addr} {S : Sto} {a : W} {x : V} (d : Wd P w K F μ S H) (r : WRel K F μ a x) (h : (lsOf a S).isSome = true) : tyV K "list" x H := by
  cases q : lsOf a S with
  | none => rw [q] at h; cases h
  | some ds =>
    obtain ⟨p, xs, rfl, h1, _⟩ := ls_rel d r q
    exact .inl ⟨rfl, xs, h1⟩
def mMethL (f : Om) (o : M) (t : MA) : M := fun e S => (o e S).bind fun p => if (lsOf p.1 p.2).isSome = true then (t e p.2).bind fun q => f p.1 q.1 q.2 else none
theorem me_methL {f : Om} {id : String} {r : V → List V → Hp → VK → Prop} (hm : MtR X id r) (hf : MtD X.prog X.w X.K f "list" r) (ho : PE X o (Cx.tE X mo)) (ha : PA X es (Cx.tA X mr))
    (h : ∀ to t, MtR X id r → PE X o to → PA X es t → PE X e (tBM X.K "list" r to t)) : PE X e (Cx.tE X (mMethL f mo mr)) := me_of (h _ _ hm ho ha) fun σ H Q F μ S env x S' d re e q => by
  obtain ⟨⟨a, S1⟩, e1, e⟩ := bindS e
  by_cases hl : (lsOf a S1).isSome = true
  · dsimp only at e
    rw [if_pos hl] at e
    obtain ⟨⟨ws, S2⟩, e2, e⟩ := bindS e
    refine useM e1 d re fun F1 μ1 H1 v1 g1 d1 re1 r1 => ⟨ty_gr d1 r1 hl, useA e2 d1 re1 fun F2 μ2 H2 vs g2 d2 re2 r2 => ?_⟩
    exact hf F2 μ2 S2 H2 v1 vs a ws x S' Q d2 (r1.gr g2) r2 e fun F3 μ3 H3 v3 g3 d3 r3 => q F3 μ3 H3 v3 ((g1.trans g2).trans g3) d3 r3
  · dsimp only at e
    rw [if_neg hl] at e; cases e
theorem md_append : MtD X.prog X.w X.K omAppend "list" rAppend := fun F μ S H x xs a as c S' Q d ra rs e q => by
  unfold omAppend at e
  split at e
  · rename_i v
    obtain ⟨⟨n, ds⟩, e1, e⟩ := bindS e
    obtain ⟨dv, e2, e⟩ := bindS e
    cases rs with
    | cons r1 r2 =>
      cases r2
      by_cases hc : ds.length < lim
      · dsimp only at e
        rw [if_pos hc] at e
        cases e
        obtain ⟨p, ys, rfl, h1, h2, h3, h4⟩ := cell_rel d ra e1
        have hv := d_rel r1 e2
        obtain ⟨d2, g2⟩ := d.put (o := .lst (ys ++ [_])) (c := .lst (ds ++ [dv])) h1 h2 ⟨h2, _, upd_same, h4.app (.cons hv .nil)⟩
        exact ⟨p, ys, _, rfl, rfl, h3, by rw [h4.len]; exact Nat.lt_of_lt_of_le hc (by decide), q _ _ _ _ g2 d2 .non⟩
      · dsimp only at e
        rw [if_neg hc] at e; cases e
  · cases e
theorem md_index (hu : X.A.units + 65 < cLine) : MtD X.prog X.w X.K omIndex "list" (rIndexD X.K) := fun F μ S H x xs a as c S' Q d ra rs e q => by
  unfold omIndex at e
  split at e
  · rename_i v
    obtain ⟨ds, e1, e⟩ := bindS e
    obtain ⟨dv, e2, e⟩ := bindS e
    cases rs with
    | cons r1 r2 =>
      cases r2
      by_cases hc : SeqAt.shaped (.list ds) = true ∧ SeqAt.shaped dv = true
      · rw [if_pos hc] at e
        obtain ⟨j, e3, e⟩ := bindS e
        cases e
        have hd := ls_dp d ra e1
        obtain ⟨p, ys, rfl, _, _⟩ := ls_rel d ra e1
        have aux : ∀ (ds : List PyData) (j : Nat), idxOf dv ds = some j → ∃ z, ds[j]? = some z ∧ PyData.eqv z dv = true ∧ ∀ (m : Nat) (z' : PyData), m < j → ds[m]? = some z' → PyData.eqv z' dv = false := by
          intro ds
          induction ds with
          | nil => intro j h; cases h
          | cons y ds ih =>
            intro j h
            unfold idxOf at h
            by_cases hy : PyData.eqv y dv = true
            · rw [if_pos hy] at h
              cases h
              exact ⟨y, rfl, hy, fun m _ hm => absurd hm (Nat.not_lt_zero m)⟩
            · rw [if_neg hy] at h
              obtain ⟨k, h1, h2⟩ := Option.map_eq_some_iff.mp h
              subst h2
              obtain ⟨z, i1, i2, i3⟩ := ih k h1
              refine ⟨z, by rw [List.getElem?_cons_succ]; exact i1, i2, fun m z' hm hz => ?_⟩
              cases m with
              | zero => rw [List.getElem?_cons_zero] at hz; cases hz; exact Bool.eq_false_iff.mpr hy
              | succ m => rw [List.getElem?_cons_succ] at hz; exact i3 m z' (by omega) hz
        obtain ⟨z, h1, h2, h3⟩ := aux ds j e3
        exact ⟨p, _, dv, ds, j, z, rfl, rfl, hd, py_rel d r1 e2, hc.1, hc.2, h1, h2, h3, q F μ H _ .refl d (.int _)⟩
      · rw [if_neg hc] at e; cases e
  · cases e
end
end Mr

set_option maxHeartbeats 2000000
/-! Mr: dicts whose keys are tuples of any depth -/
namespace Mr
open PySem PySem.Spec PyProof.Rows L2
open Evl (Ex ex_l ex_t)

/-! ### keys -/
mutual
theorem dz_nested {X : Cx} {pins : List (Addr × Obj)} {σ : L2.St} {F H : Hp} {s : Shared} (I : L2.Inv X pins σ H s) (hx : Ex F H) : ∀ (d : PyData) (k : NestedKey) (v : V) (u : Value), keyOf d = some k → Dz X.K F v d → RelV v u → NestedIs s.heap k u
  | .none, k, v, u, e, h, r => by
    cases h
    cases r
    unfold keyOf at e
    cases e
    exact .none
  | .int i, k, v, u, e, h, r => by
    cases h
    obtain ⟨t, rfl⟩ := r
    unfold keyOf at e
    cases e
    exact .int i t
  | .str x, k, v, u, e, h, r => by
    cases h
    obtain ⟨t, rfl⟩ := r
    unfold keyOf at e
    cases e
    exact .text x t
  | .tuple ds, k, v, u, e, h, r => by
    unfold keyOf at e
    obtain ⟨ks, e1, e2⟩ := Option.map_eq_some_iff.mp e
    subst e2
    cases h with
    | tup hs ha =>
      obtain rfl : u = .ref _ := r
      obtain ⟨its, rv, ⟨o, ho, hc, n, hd⟩, _⟩ := I.tuple (ex_t hx hs.1)
      exact .tup ho hc hd (dza_nested I hx ds ks _ its e1 ha rv)
  | .bool _, _, _, _, e, _, _ => by unfold keyOf at e; cases e
  | .list _, _, _, _, e, _, _ => by unfold keyOf at e; cases e
  | .dict _, _, _, _, e, _, _ => by unfold keyOf at e; cases e
theorem dza_nested {X : Cx} {pins : List (Addr × Obj)} {σ : L2.St} {F H : Hp} {s : Shared} (I : L2.Inv X pins σ H s) (hx : Ex F H) : ∀ (ds : List PyData) (ks : List NestedKey) (vs : List V) (us : List Value), keyOf.keysOf ds = some ks → DzAll X.K F vs ds → Vals vs us → NestedAll s.heap ks us
  | [], ks, vs, us, e, h, r => by
    unfold keyOf.keysOf at e
    cases e
    cases h
    cases r
    exact .nil
  | d :: ds, ks, vs, us, e, h, r => by
    unfold keyOf.keysOf at e
    split at e
    · rename_i k' ks' h1 h2
      cases e
      cases h with
      | cons a b => cases r with
        | cons r1 r2 => exact .cons (dz_nested I hx d _ _ _ h1 a r1) (dza_nested I hx ds _ _ _ h2 b r2)
    · cases e
end
def isTup : PyData → Bool
  | .tuple _ => true
  | _ => false
/-- a key that a dict of this kind takes -/
def okKey (d : PyData) : Option NestedKey := if isTup d = true then (keyOf d).bind fun k => if k.depth ≤ 8 then some k else none else none
def keyEq (a b : PyData) : Bool := decide (keyOf a = keyOf b)
def dput (kvs : List (PyData × PyData)) (k v : PyData) : List (PyData × PyData) := if (kvs.any fun p => keyEq p.1 k) = true then kvs.map fun p => if keyEq p.1 k = true then (p.1, v) else p else kvs ++ [(k, v)]
def dfind : List (PyData × PyData) → PyData → Option PyData
  | [], _ => none
  | p :: kvs, k => if keyEq p.1 k = true then some p.2 else dfind kvs k
def cellD (a : W) (S : Sto) : Option (Nat × List (PyData × PyData)) := match a with
  | .ref n => match S[n]? with
    | some (.dct kvs) => some (n, kvs)
    | _ => none
  | _ => none
def mDctC : M := fun _ S => some (.ref S.length, S ++ [.dct []])
def putD : P3 := fun o i v S => (cellD o S).bind fun c => (dOf i).bind fun k => (dOf v).bind fun d => (okKey k).bind fun _ => if c.2.length < lim then some (S.set c.1 (.dct (dput c.2 k d))) else none
def oInD : O2 := fun a b S => (cellD b S).bind fun c => (dOf a).bind fun k => (okKey k).bind fun _ => some (.d (.bool (c.2.any fun p => keyEq p.1 k)), S)
def oNotInD : O2 := fun a b S => (cellD b S).bind fun c => (dOf a).bind fun k => (okKey k).bind fun _ => some (.d (.bool (!c.2.any fun p => keyEq p.1 k)), S)
def oIxD : O2 := fun a b S => (cellD a S).bind fun c => (dOf b).bind fun k => (okKey k).bind fun _ => (dfind c.2 k).bind fun d => some (.d d, S)
def oSortedD : On := on1 fun a S => (cellD a S).bind fun c => if alikeAllB (c.2.map (·.1)) = true ∧ sortableB (c.2.map (·.1)) = true ∧ c.2.length ≤ 1000 ∧ ((c.2.map (·.1)).all fun d => decide (d.depth ≤ 32)) = true then some (.d (.list ((c.2.map (·.1)).mergeSort (PySem.W.dataLe false id))), S) else none
section
variable {X : Cx} {pos : Pos}
theorem okKey_some {d : PyData} {k : NestedKey} (h : okKey d = some k) : keyOf d = some k ∧ k.depth ≤ 8 ∧ ∃ ds, d = .tuple ds := by
  unfold okKey at h
  by_cases h1 : isTup d = true
  · rw [if_pos h1] at h
    obtain ⟨k', e1, e2⟩ := bindS h
    by_cases h2 : k'.depth ≤ 8
    · rw [if_pos h2] at e2
      cases e2
      refine ⟨e1, h2, ?_⟩
      cases d <;> first | exact ⟨_, rfl⟩ | cases h1
    · rw [if_neg h2] at e2; cases e2
  · rw [if_neg h1] at h; cases h
theorem cellD_rel {F H : Hp} {μ : List Addr} {S : Sto} {a : W} {x : V} {n : Nat} {kvs : List (PyData × PyData)} (d : Wd X.prog X.w X.K F μ S H) (r : WRel X.K F μ a x) (e : cellD a S = some (n, kvs)) :
    ∃ p xs, x = .ref p ∧ μ[n]? = some p ∧ F p = none ∧ (p == sysModules) = false ∧ H p = some (.ext (RawD X.prog X.w p xs)) ∧ Paired (PairOk X.K F) kvs xs := by
  unfold cellD at e
  split at e
  · split at e
    · rename_i es hs
      cases e
      obtain ⟨p, h1, rfl⟩ := r
      obtain ⟨h2, h3, xs, h4, h5⟩ := cell_of d h1 hs
      exact ⟨p, xs, rfl, h1, h2, h3, h4, h5⟩
    · cases e
  · cases e
/-- the dict by the heap, its keys' tuples in it -/
theorem dict_at {pins : List (Addr × Obj)} {σ : L2.St} {F H : Hp} {s : Shared} {p : Addr} {xs : List (NestedKey × Addr × Value)} {kvs : List (PyData × PyData)} (I : L2.Inv X pins σ H s) (hx : Ex F H) (h : H p = some (.ext (RawD X.prog X.w p xs)))
    (hp : Paired (PairOk X.K F) kvs xs) : s.heap.DictOfH (nestedKind X.prog X.w) p xs := by
  obtain ⟨⟨o, es, ep, ho, hc, hd, he, hn⟩, _, _⟩ := I.hok p _ h
  refine ⟨o, es, ep, ho, hc, hd, he, ?_, hn⟩
  intro x hxm
  have : ∀ {kvs : List (PyData × PyData)} {xs : List (NestedKey × Addr × Value)}, Paired (PairOk X.K F) kvs xs → x ∈ xs → ∃ q, PairOk X.K F q x := by
    intro kvs xs hp
    induction hp with
    | nil => intro h; cases h
    | cons r t ih =>
      intro h
      rcases List.mem_cons.mp h with z | z
      · subst z; exact ⟨_, r⟩
      · exact ih z
  obtain ⟨q, q1, q2, q3, q4, _⟩ := this hp hxm
  exact ⟨dz_nested I hx _ _ _ _ q1 q4 rfl, q2⟩
theorem raw_stay {p : Addr} {xs : List (NestedKey × Addr × Value)} : ∀ h1 h2 : Heap, RawD X.prog X.w p xs h1 → (∀ o, h1.get? p = some o → h2.get? p = some o) → RawD X.prog X.w p xs h2 := fun h1 h2 ⟨o, es, ep, ho, r⟩ k => ⟨o, es, ep, k _ ho, r⟩
theorem raw_ok {H : Hp} {h : Heap} {p : Addr} {xs : List (NestedKey × Addr × Value)} (hm : h.DictOfH (nestedKind X.prog X.w) p xs) : ObjOk X.prog X.w H h p (.ext (RawD X.prog X.w p xs)) := by
  obtain ⟨o, es, ep, ho, hc, hd, he, _, hn⟩ := hm
  exact ⟨⟨o, es, ep, ho, hc, hd, he, hn⟩, ⟨o, ho⟩, raw_stay⟩
theorem paired_len {α β : Type} {R : α → β → Prop} : ∀ {xs : List α} {ys : List β}, Paired R xs ys → xs.length = ys.length
  | _, _, .nil => rfl
  | _, _, .cons _ t => by rw [List.length_cons, List.length_cons, paired_len t]
theorem any_at {F : Hp} {k : PyData} {kk : NestedKey} (hk : keyOf k = some kk) : ∀ {kvs : List (PyData × PyData)} {xs : List (NestedKey × Addr × Value)}, Paired (PairOk X.K F) kvs xs → (kvs.any fun p => keyEq p.1 k) = (atKey xs kk).isSome
  | _, _, .nil => rfl
  | _, _, .cons (a := p) (b := x) r t => by
    have ih := any_at (F := F) (k := k) (kk := kk) hk t
    rw [List.any_cons, ih]
    unfold atKey
    rw [List.find?_cons]
    by_cases h : x.1 = kk
    · simp [keyEq, r.1, hk, h]
    · simp [keyEq, r.1, hk, h]
theorem map_at {F : Hp} {k d : PyData} {kk : NestedKey} {u : Value} (hk : keyOf k = some kk) (hv : ∃ v, RelV v u ∧ Dz X.K F v d) : ∀ {kvs : List (PyData × PyData)} {xs : List (NestedKey × Addr × Value)}, Paired (PairOk X.K F) kvs xs →
    Paired (PairOk X.K F) (kvs.map fun p => if keyEq p.1 k = true then (p.1, d) else p) (xs.map (putAt kk u))
  | _, _, .nil => .nil
  | _, _, .cons (a := p) (b := x) r t => by
    rw [List.map_cons, List.map_cons]
    refine .cons ?_ (map_at hk hv t)
    unfold putAt
    by_cases hx : x.1 = kk
    · have : keyEq p.1 k = true := by simp [keyEq, r.1, hk, hx]
      rw [if_pos this, if_pos hx]
      exact ⟨r.1, r.2.1, r.2.2.1, r.2.2.2.1, hv⟩
    · have : ¬ keyEq p.1 k = true := by simp [keyEq, r.1, hk, hx]
      rw [if_neg this, if_neg hx]
      exact r
theorem paired_app {α β : Type} {R : α → β → Prop} : ∀ {xs : List α} {ys : List β}, Paired R xs ys → ∀ {p : α} {x : β}, R p x → Paired R (xs ++ [p]) (ys ++ [x])
  | _, _, .nil, _, _, r => .cons r .nil
  | _, _, .cons r' t, _, _, r => .cons r' (paired_app t r)
theorem put_at {F : Hp} {k d : PyData} {kk : NestedKey} {b : Addr} {u : Value} (hk : keyOf k = some kk) (hd8 : kk.depth ≤ 8) (ht : ∃ ds, k = .tuple ds) (hb : Dz X.K F (.ref b) k) (hv : ∃ v, RelV v u ∧ Dz X.K F v d) {kvs : List (PyData × PyData)} {xs : List (NestedKey × Addr × Value)} (h : Paired (PairOk X.K F) kvs xs) :
    Paired (PairOk X.K F) (dput kvs k d) (storedH xs kk b u) := by
  unfold dput storedH
  rw [any_at hk h]
  split
  · exact map_at hk hv h
  · exact paired_app h ⟨hk, hd8, ht, hb, hv⟩
theorem room_n {A : Around} (hu : A.units + 64 < cLine) {prog : Program} {w : World} : (nestedKind prog w).room A.in1 := by
  show A.units + 1 + 8 < cLine
  omega
/-- d[k] = v -/
def rPutD (P : Program) (w : World) (K : PySem.W.Frag) : TSet := fun o i v H Q => ∃ (F : Hp) (p b : Addr) (xs : List (NestedKey × Addr × Value)) (kvs : List (PyData × PyData)) (k : PyData) (kk : NestedKey), o = .ref p ∧ i = .ref b ∧ Ex F H ∧ H p = some (.ext (RawD P w p xs)) ∧ Paired (PairOk K F) kvs xs ∧ keyOf k = some kk ∧ kk.depth ≤ 8 ∧ Dz K F (.ref b) k ∧
  xs.length ≤ sizeLine ∧ ∀ u, RelV v u → Q (upd H p (.ext (RawD P w p (storedH xs kk b u))))
theorem set_dct (hu : X.A.units + 64 < cLine) : PSet X (rPutD X.prog X.w X.K) := by
  intro pins s σ H o i v ov iv u Q I ro ri rv h
  obtain ⟨F, p, b, xs, kvs, k, kk, rfl, rfl, hx, hp, hpr, hk, h8, hb, hz, q⟩ := h
  cases ro
  cases ri
  have hm := dict_at I hx hp hpr
  refine wpAny_setItem_heap (hsz := hz) (room_n hu) ⟨dz_nested I hx k kk _ _ hk hb rfl, h8⟩ hm fun h' hm' hs => ?_
  exact ⟨_, I.write (t' := _) (by rw [hp]; exact trivial) (.inl rfl) (fun c w hc e => (hs.2 c hc).trans e) (let ⟨o, _, _, ho, _⟩ := hm'; ⟨o, ho⟩) (raw_ok hm'), q u rv⟩
theorem po_dct (hu : X.A.units + 64 < cLine) : POp X putD := ⟨_, set_dct hu, fun F μ S H xo xi xv o i v S' Q d ro ri rv e q => by
  obtain ⟨⟨n, kvs⟩, e1, e⟩ := bindS e
  obtain ⟨k, e2, e⟩ := bindS e
  obtain ⟨dv, e3, e⟩ := bindS e
  obtain ⟨kk, e4, e⟩ := bindS e
  by_cases hc : kvs.length < lim
  · dsimp only at e
    rw [if_pos hc] at e
    cases e
    obtain ⟨p, xs, rfl, h1, h2, h3, h4, h5⟩ := cellD_rel d ro e1
    obtain ⟨k1, k2, k3⟩ := okKey_some e4
    have hi := d_rel ri e2
    have hv := d_rel rv e3
    obtain ⟨ds, rfl⟩ := k3
    obtain ⟨b, ys, rfl, hb1, hb2⟩ := dz_tup hi
    refine ⟨F, p, b, xs, kvs, _, kk, rfl, rfl, d.ex, h4, h5, k1, k2, hi, by rw [← paired_len h5]; exact lim_ok (Nat.le_of_lt hc), fun u ru => ?_⟩
    obtain ⟨d2, g2⟩ := d.put (o := .ext (RawD X.prog X.w p (storedH xs kk b u))) (c := .dct (dput kvs (.tuple ds) dv)) h1 h2 ⟨h2, h3, _, upd_same, put_at k1 k2 ⟨ds, rfl⟩ hi ⟨_, ru, hv⟩ h5⟩
    exact q _ _ _ g2 d2
  · dsimp only at e
    rw [if_neg hc] at e; cases e⟩
/-- k in d -/
def rInK (P : Program) (w : World) (K : PySem.W.Frag) (neg : Bool) : R2 := fun x y H Q => ∃ (F : Hp) (p b : Addr) (xs : List (NestedKey × Addr × Value)) (kvs : List (PyData × PyData)) (k : PyData) (kk : NestedKey), y = .ref p ∧ x = .ref b ∧ Ex F H ∧ (p == sysModules) = false ∧ H p = some (.ext (RawD P w p xs)) ∧ Paired (PairOk K F) kvs xs ∧ keyOf k = some kk ∧ kk.depth ≤ 8 ∧ Dz K F (.ref b) k ∧
  Q (.bl (if neg = true then !(kvs.any fun p => keyEq p.1 k) else kvs.any fun p => keyEq p.1 k)) H
theorem op_inK (hu : X.A.units + 64 < cLine) : OpR X (compareOp .In) (rInK X.prog X.w X.K false) := by
  intro pins s σ H x y v u Q I rx ry h
  obtain ⟨F, p, b, xs, kvs, k, kk, rfl, rfl, hx, hs, hp, hpr, hk, h8, hb, q⟩ := h
  cases rx
  cases ry
  have hm := dict_at I hx hp hpr
  refine wpAny_in_heap (room_n hu) ⟨dz_nested I hx k kk _ _ hk hb rfl, h8⟩ hs hm ?_
  rw [← any_at hk hpr]
  exact ⟨.bl _, H, I.tok _, rfl, q⟩
theorem op_notInK (hu : X.A.units + 64 < cLine) : OpR X (compareOp .NotIn) (rInK X.prog X.w X.K true) := by
  intro pins s σ H x y v u Q I rx ry h
  obtain ⟨F, p, b, xs, kvs, k, kk, rfl, rfl, hx, hs, hp, hpr, hk, h8, hb, q⟩ := h
  cases rx
  cases ry
  have hm := dict_at I hx hp hpr
  refine notIn_keyed (kvs := pairsH xs) (room_n hu) ⟨dz_nested I hx k kk _ _ hk hb rfl, h8⟩ hs ⟨xs, hm, rfl⟩ ?_
  rw [valueAt_pairsH, Option.isSome_map, ← any_at hk hpr]
  exact ⟨.bl _, H, I.tok _, rfl, q⟩
theorem opd_inK {neg : Bool} {o : O2} (ho : o = fun a b S => (cellD b S).bind fun c => (dOf a).bind fun k => (okKey k).bind fun _ => some (.d (.bool (if neg = true then !(c.2.any fun p => keyEq p.1 k) else c.2.any fun p => keyEq p.1 k)), S)) : OpD X.prog X.w X.K o (rInK X.prog X.w X.K neg) := fun F μ S H x y a b c S' Q d ra rb e q => by
  subst ho
  obtain ⟨⟨n, kvs⟩, e1, e⟩ := bindS e
  obtain ⟨k, e2, e⟩ := bindS e
  obtain ⟨kk, e4, e⟩ := bindS e
  cases e
  obtain ⟨p, xs, rfl, h1, h2, h3, h4, h5⟩ := cellD_rel d rb e1
  obtain ⟨k1, k2, k3⟩ := okKey_some e4
  have hi := d_rel ra e2
  obtain ⟨ds, rfl⟩ := k3
  obtain ⟨b, ys, rfl, hb1, hb2⟩ := dz_tup hi
  exact ⟨F, p, b, xs, kvs, _, kk, rfl, rfl, d.ex, h3, h4, h5, k1, k2, hi, q F μ H _ .refl d (.bl _)⟩
theorem bop_inD (hu : X.A.units + 64 < cLine) : BOp X (compareOp .In) oInD := ⟨_, op_inK hu, opd_inK (neg := false) rfl⟩
theorem bop_notInD (hu : X.A.units + 64 < cLine) : BOp X (compareOp .NotIn) oNotInD := ⟨_, op_notInK hu, opd_inK (neg := true) rfl⟩
/-- {} -/
def tDNewX (P : Program) (w : World) : TE := fun _ H Q => ∀ p, (p == sysModules) = false → H p = none → Q (.ref p) (upd H p (.ext (RawD P w p [])))
/-- sorted(d) -/
def rSortK (P : Program) (w : World) (K : PySem.W.Frag) : List V → Hp → VK → Prop := fun xs H Q => ∃ (F : Hp) (p : Addr) (rs : List (NestedKey × Addr × Value)) (kvs : List (PyData × PyData)), xs = [.ref p] ∧ Ex F H ∧ (p == sysModules) = false ∧ H p = some (.ext (RawD P w p rs)) ∧ Paired (PairOk K F) kvs rs ∧
  PySem.W.AllAlike (kvs.map (·.1)) ∧ PySem.W.Sortable (kvs.map (·.1)) ∧ kvs.length ≤ 1000 ∧ (∀ d ∈ kvs.map (·.1), d.depth ≤ 32) ∧
  ∀ q out, H q = none → DzAll K F out ((kvs.map (·.1)).mergeSort (PySem.W.dataLe false id)) → Q (.ref q) (upd H q (.lst out))
theorem COp.or {f : Value} {o o' : On} (h : COp X f o) (h' : COp X f o') : COp X f (fun ws S => match o ws S with | some r => some r | none => o' ws S) := by
  obtain ⟨r, h1, h2⟩ := h
  obtain ⟨r', h3, h4⟩ := h'
  refine ⟨fun xs H Q => r xs H Q ∨ r' xs H Q, fun pins s σ H xs us Q I rx q => ?_, fun F μ S H xs as c S' Q d ra e q => ?_⟩
  · rcases q with q | q
    · exact h1 pins s σ H xs us Q I rx q
    · exact h3 pins s σ H xs us Q I rx q
  · dsimp only at e
    split at e
    · rename_i z hz
      cases e
      exact .inl (h2 F μ S H xs as c S' Q d ra hz q)
    · exact .inr (h4 F μ S H xs as c S' Q d ra e q)
/-- d[k] -/
def rIxK (P : Program) (w : World) (K : PySem.W.Frag) : R2 := fun x y H Q => ∃ (F : Hp) (p b : Addr) (xs : List (NestedKey × Addr × Value)) (kvs : List (PyData × PyData)) (k d : PyData) (kk : NestedKey), x = .ref p ∧ y = .ref b ∧ Ex F H ∧ H p = some (.ext (RawD P w p xs)) ∧ Paired (PairOk K F) kvs xs ∧ keyOf k = some kk ∧ kk.depth ≤ 8 ∧ Dz K F (.ref b) k ∧
  dfind kvs k = some d ∧ ∀ v, Dz K F v d → Q v H
end
end Mr

set_option maxHeartbeats 2000000
namespace Mr
open PySem PySem.Spec PyProof.Rows L2
open Evl (Ex ex_l ex_t)
section
variable {X : Cx} {e : Expr} {kws : List Keyword} {m : M} {mr : MA}
theorem uo_neg' : UOp X (unaryOp .USub) oNeg := uo_neg
def oIn : O2 := orO oInL oInD
def oNotIn : O2 := orO oNotInL oNotInD
theorem bo_in {k : Nat} (hr : Room k X.A) : BOp X (compareOp .In) oIn := (bop_inL (by have := hr.un; omega)).or (bop_inD hr.units)
theorem bo_notIn {k : Nat} (hr : Room k X.A) : BOp X (compareOp .NotIn) oNotIn := (bop_notInL (by have := hr.un; omega)).or (bop_notInD hr.units)
def oSortedU : On := fun ws S => match oSorted ws S with | some r => some r | none => oSortedD ws S
def putU : P3 := orP putL putD
theorem po_any {k : Nat} (hr : Room k X.A) : POp X putU := po_list.or (po_dct hr.units)
theorem mk_cons {nm : Option Str} {kpos : Pos} (h : ∀ {te : TE} {t : TA}, PE X e te → PK X kws t → PK X (⟨nm, e, kpos⟩ :: kws) (tCons te t)) (ha : PE X e (Cx.tE X m)) (hr : PK X kws (Cx.tA X mr)) : PK X (⟨nm, e, kpos⟩ :: kws) (Cx.tA X (mCons m mr)) :=
  ⟨fun pos pins s σ H Q I ⟨F, μ, S, env, x, S', d, re, e, q⟩ => (h ha hr).run pos pins s σ H Q I (tCons_of d re e q)⟩
end
section
variable {P : Program} {w : World} {K : PySem.W.Frag} {mg : Str → Option Value} {base : Heap} {x : Str} {st : Stmt} {f : Addr} {fd : FuncData} {k : Nat} {ps ks : List Str} {sp : Sp}
theorem vals_perm {zs : List V} {ws : List Value} (h : Vals zs ws) : ∀ is : List Nat, Vals (permL is zs) (permL is ws)
  | [] => .nil
  | i :: is => by
    unfold permL
    rw [List.filterMap_cons, List.filterMap_cons]
    cases hw : zs[i]? with
    | none =>
      rw [h.none_of hw]
      exact vals_perm h is
    | some w =>
      obtain ⟨v, h1, h2⟩ := h.get hw
      rw [h1]
      exact .cons h2 (vals_perm h is)
theorem calkP {is : List Nat} (F : Fun K x x st f fd) (G : FnOk P w K mg base CX0 k f fd ps sp) (m : mg x = some (.ref f))
    (h : ∀ (kV doc pm : Value) (an : Option Addr) (cdv ct : Value) (ws : List Value), ws.length = ks.length → bindArgs (PySem.W.fnOf x x (defArgs st) (defBody st) (defScope st) .none kV doc pm an cdv ct) ⟨[], ks.zip ws⟩ = pure (ps.zip (permL is ws))) : Sk.CalK P w K mg base k x ps ks (permL is) sp := by
  obtain ⟨oc, od, kV, doc, pm, an, cdv, ct, osl, e, lk, hcd⟩ := F.ex
  refine ⟨f, fd, permL is, G, m, F.kp, fun s ws hl => ?_, fun zs ws _ r => vals_perm r is⟩
  subst e
  exact .of_eq (h kV doc pm an cdv ct ws hl)
/-- what a law is asked: the script, and True -/
def spLaw (K : PySem.W.Frag) : Sp := fun vs H Q _ => ∃ (a : Addr) (ns : List Int), vs = [.ref a] ∧ SqL K H a (ns.map V.int) ∧ ns.length ≤ 63 ∧ ∀ H', Q (.bl true) H'
end
end Mr

set_option maxHeartbeats 2000000
/-! Mr: xs[::-1] -/
namespace HT
open PySem PySem.Spec PyProof.Rows
section
variable {prog : Program} {w : World} {A : Around} {E : Value → Shared → Prop} {s : Shared}
theorem slicePlaces_rev (n : Nat) : Builtin.Slice.slicePlaces ((n : Int) - 1) (-1) (-1) = n := by
  unfold Builtin.Slice.slicePlaces
  rw [if_neg (by decide)]
  by_cases h : (n : Int) - 1 > -1
  · rw [if_pos h]
    have : ((n : Int) - 1 - -1 - 1) / (- -1) + 1 = (n : Int) := by
      rw [show (- -1 : Int) = 1 by decide, Int.ediv_one]
      omega
    rw [this]
    omega
  · rw [if_neg h]
    omega
theorem sliceApplied_rev {sl : Addr} {vl vu vs : Value} {n : Nat} {Q : Int × Int × Nat → Shared → Prop} (hs : s.heap.IsSliceOf sl vl vu vs) (pl : IsPart vl none) (pu : IsPart vu none) (ps : IsPart vs (some (-1)))
    (h : Q ((n : Int) - 1, -1, n) s) : wpAny (model prog w) A (Builtin.Slice.sliceApplied (.ref sl) (pure (n : Int))) Q E s := by
  obtain ⟨os, hos, hcs, hds⟩ := id hs
  unfold Builtin.Slice.sliceApplied Builtin.Slice.sliceFields
  refine wpAny_bind (wpAny_bind (wpAny_field hos hds (x := vl) rfl (wpAny_bind (wpAny_field hos hds (x := vu) rfl (wpAny_bind (wpAny_field hos hds (x := vs) rfl (wpAny_pure ?_)))))))
  refine wpAny_bind (slicePart_ ps ?_)
  show wpAny _ _ (if ((-1 : Int) == 0) = true then _ else _) _ _ s
  rw [if_neg (by decide)]
  refine wpAny_bind (slicePart_ pl (wpAny_bind (slicePart_ pu (wpAny_bind (wpAny_pure ?_)))))
  show wpAny _ _ (match Builtin.Slice.sliceAdjust none none (-1) (n : Int) with | (lo, hi) => pure (lo, (-1 : Int), Builtin.Slice.slicePlaces lo hi (-1))) _ _ s
  show wpAny _ _ (pure ((n : Int) - 1, (-1 : Int), Builtin.Slice.slicePlaces ((n : Int) - 1) (-1) (-1))) _ _ s
  rw [slicePlaces_rev]
  exact wpAny_pure h
theorem fm_congr {α β : Type} {f g : α → Option β} : ∀ {l : List α}, (∀ a ∈ l, f a = g a) → l.filterMap f = l.filterMap g
  | [], _ => rfl
  | a :: l, h => by
    rw [List.filterMap_cons, List.filterMap_cons, h a List.mem_cons_self, fm_congr fun b hb => h b (List.mem_cons_of_mem _ hb)]
theorem pick_rev (xs : Array Value) : ((List.range xs.size).filterMap fun (m : Nat) => xs[(((xs.size : Int) - 1) + (m : Int) * (-1)).toNat]?).toArray = xs.toList.reverse.toArray := by
  have e : (List.range xs.size).filterMap (fun (m : Nat) => xs[(((xs.size : Int) - 1) + (m : Int) * (-1)).toNat]?) = (List.range xs.size).reverse.filterMap (fun m => xs[m]?) := by
    rw [← PySem.W.krv_range, List.filterMap_map]
    apply fm_congr
    intro m hm
    have := List.mem_range.mp hm
    show xs[(((xs.size : Int) - 1) + (m : Int) * (-1)).toNat]? = xs[xs.size - 1 - m]?
    have e2 : (((xs.size : Int) - 1) + (m : Int) * (-1)).toNat = xs.size - 1 - m := by omega
    rw [e2]
  rw [e, List.filterMap_reverse, PySem.W.krv_all]
theorem getItem_tuple_rev {t sl : Addr} {items : Array Value} {vl vu vs : Value} {Q : Value → Shared → Prop} (ht : IsTup s.heap t items) (hs : s.heap.IsSliceOf sl vl vu vs) (pl : IsPart vl none) (pu : IsPart vu none) (ps : IsPart vs (some (-1)))
    (h : Q (.ref s.heap.objs.size) { s with heap := s.heap.push { cls := .type "tuple", data := .seq items.toList.reverse.toArray } })
    (hsz : items.size ≤ sizeLine) : wpAny (model prog w) A (getItem (.ref t) (.ref sl)) Q E s := by
  have htake : sizeOk (.seq items.toList.reverse.toArray) := by
    show items.toList.reverse.toArray.size ≤ sizeLine
    rw [List.size_toArray, List.length_reverse, Array.length_toList]
    exact hsz
  obtain ⟨os, hos, hcs, hds⟩ := id hs
  have hTs : s.TypeIs (.ref sl) "slice" := ⟨os, hos, hcs⟩
  unfold getItem
  try with_reducible refine wpAny_holding ?_
  first | refine wpAny_bind (wpAny_pure ?_) | skip
  refine wpAny_bind (wpAny_sequenceKey ht.typeIs (by decide) ?_)
  refine wpAny_bind (wpAny_callSpecial?_slot (name := Str.ofString "__getitem__") ht.typeIs PyProof.Rows.slot_tuple_getitem
    (wpAny_call_entry PyProof.Rows.slot_tuple_getitem ht.typeIs entry_tuple_getitem ?_ (args_tuple_getitem _ _)))
  show wpAny _ _ (Builtin.Tuple.tupleItemsOf (.ref t) >>= _) _ _ s
  refine wpAny_bind (tupleItemsOf_ ht ?_)
  refine wpAny_bind (wpAny_typeOf hTs ?_)
  rw [if_pos (by decide)]
  refine wpAny_bind (sliceApplied_rev hs pl pu ps ?_)
  have hno : ¬ ((((items.size : Int) - 1) == 0 && (-1 : Int) == 1 && items.size == items.size) = true) := by
    intro q
    rw [Bool.and_eq_true, Bool.and_eq_true] at q
    exact absurd q.1.2 (by decide)
  show wpAny _ _ (if (((items.size : Int) - 1) == 0 && (-1 : Int) == 1 && items.size == items.size) = true then _ else _) _ _ s
  rw [if_neg hno, pick_rev]
  first
    | exact wpAny_bind (m := Builtin.Tuple.tupleExact _) (wpAny_newObj_type (wpAny_pure ⟨_, rfl, wpAny_pure h⟩) htake)
    | exact wpAny_bind (wpAny_rule (wpAny_bind (wpAny_newObj_type (wpAny_pure ⟨_, rfl, wpAny_pure h⟩) htake)))
end
end HT
namespace Mr
open PySem PySem.Spec PyProof.Rows L2
open Evl (Ex ex_l ex_t)
def oRev : O1 := fun a S => match a with
  | .d (.tuple ds) => some (.d (.tuple ds.reverse), S)
  | a => (lsOf a S).bind fun ds => some (.d (.list ds.reverse), S)
/-- t[::-1] of a tuple, of a list -/
def tRevU (K : PySem.W.Frag) (te : TE) : TE := fun σ H Q => te σ H fun x H1 => ∃ a xs, x = .ref a ∧ ((SqL K H1 a xs ∧ ∀ p, H1 p = none → Q (.ref p) (upd H1 p (.lst xs.reverse))) ∨
  (SqT K H1 a xs ∧ ∀ (p : Addr) (o : Obj), H1 p = none → o.dict = none → Q (.ref p) (upd H1 p (.frz o (.tup xs.reverse)))))
theorem pe_revU {X : Cx} {e : Expr} {te : TE} {k : Nat} {p1 p2 p3 pos : Pos} (he : PE X e te) : PE X (.Subscript e (.Slice none none (some (.UnaryOp .USub (.Constant (.int 1) k p1) p2)) p3) pos) (tRevU X.K te) := by
  refine ⟨fun pins s σ H Q I h => ?_⟩
  refine Subscript_ (thn (he.run pins s σ H _ I h) fun v s1 ⟨x, H1, I1, r1, q1⟩ => ?_)
  obtain ⟨a, xs, ex, q⟩ := q1
  subst ex
  cases r1
  have hst : PO X (some (.UnaryOp .USub (.Constant (.int 1) k p1) p2)) (tPart (tUn (rU fun i => .int (-i)) (tC (.int 1)))) := po_some (pe_un un_neg pe_int)
  refine wpAny_Slice (thn (po_none.run pins s1 σ H1 (fun o H2 => o = none ∧ H2 = H1) I1 ⟨rfl, rfl⟩) fun vl s2 ⟨l, H2, I2, pl, el, e2⟩ => ?_)
  subst el e2
  refine thn (po_none.run pins s2 σ H2 (fun o H3 => o = none ∧ H3 = H2) I2 ⟨rfl, rfl⟩) fun vu s3 ⟨u, H3, I3, pu, eu, e3⟩ => ?_
  subst eu e3
  refine thn (hst.run pins s3 σ H3 (fun o H4 => o = some (-1) ∧ H4 = H3) I3 ⟨1, rfl, -1, rfl, rfl, rfl⟩) fun vs s4 ⟨o, H4, I4, ps, eo, e4⟩ => ?_
  subst eo e4
  have I5 : L2.Inv X pins σ H4 { s4 with heap := s4.heap.push { cls := .type "slice", data := .fields #[vl, vu, vs] } } := I4.kept (t' := s4.toks) fun b ob q => Heap.get?_push_of_some _ q
  show wpAny (model X.prog X.w) X.A (subscriptTail e (.Slice none none (some (.UnaryOp .USub (.Constant (.int 1) k p1) p2)) p3) (.ref a) (.ref s4.heap.objs.size)) (EP X pins σ Q) X.xe { s4 with heap := s4.heap.push { cls := .type "slice", data := .fields #[vl, vu, vs] } }
  rcases q with ⟨hx, q⟩ | ⟨hx, q⟩
  · obtain ⟨its, r, ht, hz⟩ := I5.list hx
    have hlen := r.length
    refine tail_any (ops := [.ref a, .ref s4.heap.objs.size]) ht.isList.typeIs (PySem.slot_list_getitem.lookup) ?_ (by with_unfolding_all rfl)
    refine wpAny_getItem_list_slice ht.isList (Heap.IsSliceOf.new _ vl vu vs) pl pu ps (by decide) ?_ (by rw [List.size_toArray]; omega)
    rw [PySem.W.krv_pick]
    refine ⟨.ref _, _, I5.laid (t' := s4.toks) (o := .lst xs.reverse) (fun b ob q => Heap.get?_push_of_some _ q) (Nat.le_refl _) ?_, rfl, q _ (I5.hok.fresh (Nat.le_refl _))⟩
    exact ⟨by rw [List.length_reverse]; exact hz, _, 0, r.reverse, Heap.get?_push_size _ rfl⟩
  · obtain ⟨its, r, ht, hz⟩ := I5.tuple hx
    have hlen := r.length
    refine tail_any (ops := [.ref a, .ref s4.heap.objs.size]) ht.typeIs (PyProof.Rows.slot_tuple_getitem.lookup) ?_ (by with_unfolding_all rfl)
    refine HT.getItem_tuple_rev ht (Heap.IsSliceOf.new _ vl vu vs) pl pu ps ?_ (by rw [List.size_toArray]; omega)
    refine ⟨.ref _, _, I5.laid (t' := s4.toks) (o := .frz { cls := .type "tuple", data := .seq its.toArray.toList.reverse.toArray } (.tup xs.reverse)) (fun b ob q => Heap.get?_push_of_some _ q) (Nat.le_refl _) ?_, rfl, q _ _ (I5.hok.fresh (Nat.le_refl _)) rfl⟩
    exact ⟨Heap.get?_push_size _ rfl, by rw [List.length_reverse]; exact hz, its.reverse, r.reverse, IsTup.new _ _⟩
theorem me_rev {X : Cx} {e : Expr} {m : M} {k : Nat} {p1 p2 p3 pos : Pos} (he : PE X e (Cx.tE X m)) : PE X (.Subscript e (.Slice none none (some (.UnaryOp .USub (.Constant (.int 1) k p1) p2)) p3) pos) (Cx.tE X (mUn oRev m)) := me_of (pe_revU he) fun σ H Q F μ S env x S' d re e q => by
  obtain ⟨⟨a, S1⟩, e1, e⟩ := bindS e
  have e0 : oRev a S1 = some (x, S') := e
  clear e
  refine useM e1 d re fun F1 μ1 H1 v1 g1 d1 re1 r1 => ?_
  by_cases ht : ∃ ds, a = .d (.tuple ds)
  · obtain ⟨ds, rfl⟩ := ht
    cases e0
    obtain ⟨p, xs, rfl, hp, hx⟩ := dz_tup r1
    refine ⟨p, xs, rfl, .inr ⟨ex_t d1.ex hp.1, fun r o hr ho => ?_⟩⟩
    obtain ⟨d4, g4⟩ := d1.new hr (.frz o (.tup xs.reverse))
    exact q _ _ _ _ (g1.trans g4) d4 (dz_new (d1.fresh hr).1 ho hx.rev)
  · have e' : (lsOf a S1).bind (fun ds => some (W.d (.list ds.reverse), S1)) = some (x, S') := by
      unfold oRev at e0
      split at e0
      · exact absurd ⟨_, rfl⟩ ht
      · exact e0
    obtain ⟨ds, e4, e5⟩ := bindS e'
    cases e5
    obtain ⟨p, xs, rfl, hp, hx⟩ := ls_rel d1 r1 e4
    refine ⟨p, xs, rfl, .inl ⟨hp, fun r hr => ?_⟩⟩
    obtain ⟨d4, g4⟩ := d1.new hr (.lst xs.reverse)
    exact q _ _ _ _ (g1.trans g4) d4 (.lst upd_same (hx.rev.up g4.ex))
end Mr

set_option maxHeartbeats 2000000
/-! Mr: what mirrors give, in plain Lean -/
namespace Mr
open PySem PySem.Spec PyProof.Rows L2

/-- a mirror gives something of which Q holds -/
def Gives (o : Option (W × Sto)) (Q : W → Sto → Prop) : Prop := ∃ x S, o = some (x, S) ∧ Q x S
def GivesR (o : Option R) (Q : R → Prop) : Prop := ∃ r, o = some r ∧ Q r
theorem Gives.mono {o : Option (W × Sto)} {Q Q' : W → Sto → Prop} (h : Gives o Q) (k : ∀ x S, Q x S → Q' x S) : Gives o Q' := let ⟨x, S, e, q⟩ := h; ⟨x, S, e, k x S q⟩

/-! ### comprehensions and loops -/
/-! ### data that is plain: no texts that break, no dicts, not too deep -/
/-- ints below 2 ^ b, truths, None, tuples and lists of at most l of such, at most n deep -/
def pl (b l : Nat) : Nat → PyData → Bool
  | _, .int i => decide (i.natAbs < 2 ^ b)
  | _, .bool _ => true
  | _, .none => true
  | n + 1, .tuple ds => decide (ds.length ≤ l) && ds.all (pl b l n)
  | n + 1, .list ds => decide (ds.length ≤ l) && ds.all (pl b l n)
  | _, _ => false
theorem canLayAll0_of {ds : List PyData} (h : ∀ d ∈ ds, d.canLay0 = true) : PyData.canLayAll0 ds = true := by
  induction ds with
  | nil => simp [PyData.canLayAll0]
  | cons d ds ih =>
    simp only [PyData.canLayAll0, Bool.and_eq_true]
    exact ⟨h d List.mem_cons_self, ih fun x hx => h x (List.mem_cons_of_mem _ hx)⟩
theorem depthAll_le {ds : List PyData} {n : Nat} (h : ∀ d ∈ ds, d.depth ≤ n) : PyData.depthAll ds ≤ n := by
  induction ds with
  | nil => simp [PyData.depthAll]
  | cons d ds ih =>
    simp only [PyData.depthAll]
    have := h d List.mem_cons_self
    have := ih fun x hx => h x (List.mem_cons_of_mem _ hx)
    omega
end Mr
namespace Mr
open PySem PySem.Spec PyProof.Rows L2
section
variable {n many : Nat} {b : MS} {ws : List W} {S S' : Sto} {x : PyData} {e : Env}
theorem fn_d (hn : ws.length = n) (h : b (ws.map some ++ List.replicate (many - n) none) S = some (.rt (.d x) S)) : fnM n many b ws S = some (.d x, S) := by
  unfold fnM
  rw [if_pos hn, h, Option.bind_some]
  show some (W.d x, S.take S.length) = _
  rw [List.take_length]
end
end Mr
namespace Mr
open PySem PySem.Spec PyProof.Rows L2
section
variable {a b c m : M} {ta tb : MT} {e : Mr.Env} {S S1 S2 S3 : Sto} {x y z : W} {p q : Bool} {o : O2} {o1 : O1} {f : On} {t : MA}
theorem and_e (h1 : a e S = some (.d (.bool p), S1)) (h2 : p = true → b e S1 = some (.d (.bool q), S2)) (h3 : p = false → S1 = S2) : mAnd a b e S = some (.d (.bool (p && q)), S2) := by
  unfold mAnd
  rw [h1, Option.bind_some]
  show (some p).bind _ = _
  rw [Option.bind_some]
  cases p with
  | true => exact h2 rfl
  | false => rw [← h3 rfl]; rfl
theorem and_s (h1 : a e S = some (.d (.bool p), S)) (h2 : p = true → b e S = some (.d (.bool q), S)) : mAnd a b e S = some (.d (.bool (p && q)), S) := and_e h1 h2 fun _ => rfl
theorem not_s (h1 : a e S = some (.d (.bool p), S1)) : mNot a e S = some (.d (.bool (!p)), S1) := by
  unfold mNot
  rw [h1]; rfl
theorem ret_e (h : m e S = some (x, S1)) : sRet m e S = some (.rt x S1) := by
  unfold sRet
  rw [h]; rfl
theorem drop_e (h : m e S = some (x, S1)) : sDrop m e S = some (.nx e S1) := by
  unfold sDrop
  rw [h]; rfl
theorem set_e {i : Nat} (h : m e S = some (x, S1)) (hi : i < e.length) : sSet i m e S = some (.nx (e.set i (some x)) S1) := by
  unfold sSet
  rw [h, Option.bind_some, if_pos hi]
theorem call1 (h : a e S = some (x, S1)) : mCall f (mCons a mNil) e S = f [x] S1 := by
  unfold mCall mCons mNil
  rw [h]; rfl
theorem op_e (h : a e S = some (x, S1)) (h2 : b e S1 = some (y, S2)) : mOp o a b e S = o x y S2 := by
  unfold mOp
  rw [h, Option.bind_some]
  dsimp only
  rw [h2]; rfl
theorem un_e (h : a e S = some (x, S1)) : mUn o1 a e S = o1 x S1 := by
  unfold mUn
  rw [h]; rfl
theorem cB_e (h : a e S = some (.d (.bool p), S1)) : cB a e S = some (p, S1) := by
  unfold cB
  rw [h]; rfl
theorem cNot_e (h : ta e S = some (p, S1)) : cNot ta e S = some (!p, S1) := by
  unfold cNot
  rw [h]; rfl
theorem tup_e {ws : List W} {ds : List PyData} (h : t e S = some (ws, S1)) (hd : datas ws = some ds) (hl : ds.length ≤ lim) : mTup t e S = some (.d (.tuple ds), S1) := by
  unfold mTup
  rw [h, Option.bind_some]
  dsimp only
  rw [hd, Option.bind_some, if_pos hl]
theorem lst_e {ws : List W} {ds : List PyData} (h : t e S = some (ws, S1)) (hd : datas ws = some ds) (hl : ds.length ≤ lim) : mLst t e S = some (.d (.list ds), S1) := by
  unfold mLst
  rw [h, Option.bind_some]
  dsimp only
  rw [hd, Option.bind_some, if_pos hl]
theorem cons_e {ws : List W} (h : a e S = some (x, S1)) (h2 : t e S1 = some (ws, S2)) : mCons a t e S = some (x :: ws, S2) := by
  unfold mCons
  rw [h, Option.bind_some]
  dsimp only
  rw [h2]; rfl
/-! operators, where they are at home -/
theorem o_eq {d d' : PyData} (h1 : SeqAt.shaped d = true) (h2 : SeqAt.shaped d' = true) : oEq (.d d) (.d d') S = some (.d (.bool (PyData.eqv d d')), S) := by
  show (if SeqAt.shaped d = true ∧ SeqAt.shaped d' = true then _ else _) = _
  rw [if_pos ⟨h1, h2⟩]
theorem o_ne {d d' : PyData} (h1 : SeqAt.shaped d = true) (h2 : SeqAt.shaped d' = true) : oNe (.d d) (.d d') S = some (.d (.bool (!PyData.eqv d d')), S) := by
  show (if SeqAt.shaped d = true ∧ SeqAt.shaped d' = true then _ else _) = _
  rw [if_pos ⟨h1, h2⟩]
theorem o_eqI {i j : Int} : oEq (.d (.int i)) (.d (.int j)) S = some (.d (.bool (decide (i = j))), S) := by
  have : PyData.eqv (.int i) (.int j) = decide (i = j) := by
    rw [show PyData.eqv (.int i) (.int j) = (i == j) by simp [PyData.eqv], Bool.beq_eq_decide_eq]
  rw [← this]
  exact o_eq rfl rfl
theorem o_neI {i j : Int} : oNe (.d (.int i)) (.d (.int j)) S = some (.d (.bool (!decide (i = j))), S) := by
  have : PyData.eqv (.int i) (.int j) = decide (i = j) := by
    rw [show PyData.eqv (.int i) (.int j) = (i == j) by simp [PyData.eqv], Bool.beq_eq_decide_eq]
  rw [← this]
  exact o_ne rfl rfl
theorem o_neB {i j : Bool} : oNe (.d (.bool i)) (.d (.bool j)) S = some (.d (.bool (!decide (i = j))), S) := by
  cases i <;> cases j <;> rfl
theorem o_mul {i j : Int} (h : CMulX i j) : oMul (.d (.int i)) (.d (.int j)) S = some (.d (.int (i * j)), S) := by
  have : oI CMulX (fun i j => .int (i * j)) (.d (.int i)) (.d (.int j)) S = some (.d (.int (i * j)), S) := by
    show (if CMulX i j then _ else _) = _
    rw [if_pos h]
  show orO (oI CMulX fun i j => .int (i * j)) oRepL _ _ _ = _
  unfold orO
  rw [this]
theorem o_mod {i j : Int} (h : 0 < j) : oMod (.d (.int i)) (.d (.int j)) S = some (.d (.int (i % j)), S) := by
  show (if 0 < j then _ else _) = _
  rw [if_pos h]
theorem o_div {i j : Int} (h : Sk.CDivZ i j) : oDiv (.d (.int i)) (.d (.int j)) S = some (.d (.int (i.fdiv j)), S) := by
  show (if Sk.CDivZ i j then _ else _) = _
  rw [if_pos h]
theorem o_ix {ds : List PyData} {i : Int} {d : PyData} (h : atI ds i = some d) : oIx (.d (.tuple ds)) (.d (.int i)) S = some (.d d, S) := by
  show (atI ds i).bind _ = _
  rw [h]; rfl
theorem o_ixL {w : W} {ds : List PyData} {i : Int} {d : PyData} (hw : lsOf w S = some ds) (h : atI ds i = some d) : oIx w (.d (.int i)) S = some (.d d, S) := by
  have : sqOf w S = some ds := by
    unfold sqOf
    split
    · cases hw
    · exact hw
  show (sqOf w S).bind _ = _
  rw [this, Option.bind_some]
  show (atI ds i).bind _ = _
  rw [h]; rfl
theorem o_catL {xs ys : List PyData} (h : xs.length + ys.length ≤ lim) : oAdd (.d (.list xs)) (.d (.list ys)) S = some (.d (.list (xs ++ ys)), S) := by
  have : oCatL (.d (.list xs)) (.d (.list ys)) S = some (.d (.list (xs ++ ys)), S) := by
    show (if xs.length + ys.length ≤ lim then _ else _) = _
    rw [if_pos h]
  have e1 : oI0 (fun i j => PyData.int (i + j)) (.d (.list xs)) (.d (.list ys)) S = none := rfl
  have e2 : oCatT (.d (.list xs)) (.d (.list ys)) S = none := rfl
  unfold oAdd orO
  rw [e1, e2]
  exact this
theorem o_all {bs : List Bool} : oAll [.d (.list (bs.map PyData.bool))] S = some (.d (.bool (bs.all id)), S) := by
  show (boolsOf (bs.map PyData.bool)).bind _ = _
  rw [boolsOf_map]; rfl
end
end Mr
namespace Mr
open PySem PySem.Spec PyProof.Rows L2
section
variable {t : Tg} {c : MT} {m : M} {mi : MI} {e env : Mr.Env} {S S' : Sto} {x : W}
theorem rng_map (lo : Int) : ∀ n : Nat, rng lo n = (List.range n).map fun i => W.d (.int (lo + (i : Nat)))
  | 0 => rfl
  | n + 1 => by
    unfold rng
    rw [rng_map lo n, List.range_succ, List.map_append]
    rfl
theorem lc_e {ws : List W} {ds : List PyData} {S1 : Sto} (h1 : mi e S = some (ws, S1)) (hl : ws.length ≤ lim) (h2 : compL t c m (wipeE e t.names) ws S1 = some (ds, S')) : mLc mi t c m e S = some (.d (.list ds), S') := by
  unfold mLc
  rw [h1, Option.bind_some, if_pos hl, h2]
  rfl
end
theorem atI_of {ds : List PyData} {i : Nat} (h : i < ds.length) : atI ds ((i : Nat) : Int) = some ds[i] := by
  unfold atI ixN
  rw [if_pos (by omega), if_pos (by omega)]
  show ds[((i : Nat) : Int).toNat]? = _
  rw [Int.toNat_natCast]
  exact List.getElem?_eq_getElem h
end Mr

set_option maxHeartbeats 2000000
/-! a, b, c = x, y, z of plain names -/
namespace Mr
open PySem PySem.Spec PyProof.Rows L2
open Evl (Ex ex_l ex_t)
def sPar3 (i j l : Nat) (t : MA) : MS := fun e S => (t e S).bind fun p => match p.1 with
  | [x, y, z] => some (.nx (((e.set i (some x)).set j (some y)).set l (some z)) p.2)
  | _ => none
/-- cells that go into a tuple: they change no more -/
def gives : List W → Sto → Option (List W × Sto)
  | [], S => some ([], S)
  | .ref n :: ws, S => match S[n]? with
    | some (.lst ds) => (gives ws (S.set n .dead)).bind fun p => some (.d (.list ds) :: p.1, p.2)
    | _ => none
  | .d x :: ws, S => (gives ws S).bind fun p => some (.d x :: p.1, p.2)
  | .scr _ :: _, _ => none
  | .kd _ :: _, _ => none
  | .fn _ :: _, _ => none
  | .ex _ _ :: _, _ => none
def mTupG (t : MA) : M := fun e S => (t e S).bind fun p => (gives p.1 p.2).bind fun g => (datas g.1).bind fun ds => if ds.length ≤ lim then some (.d (.tuple ds), g.2) else none
section
variable {P : Program} {w : World} {K : PySem.W.Frag} {F H : Hp} {μ : List Addr} {S : Sto}
end
section
variable {X : Cx} {es : List Expr} {mr : MA} {pos : Pos}
end
/-- + of lists, into one that changes later -/
def oAddC : O2 := fun a b S => (lwOf a S).bind fun xs => (lwOf b S).bind fun ys => if xs.length + ys.length ≤ lim then some (.ref S.length, S ++ [.lst (xs ++ ys)]) else none
section
variable {X : Cx}
end
/-- int() of a truth -/
def oIntB : On := on1 fun a S => match a with
  | .d (.bool b) => some (.d (.int (if b = true then 1 else 0)), S)
  | _ => none
section
variable {X : Cx}
end
/-- ** where the power has not too many bits -/
def CPowW (i j : Int) : Prop := 0 ≤ j ∧ (Builtin.Int.intBits i : Int) * j ≤ 2 ^ 27
instance (i j : Int) : Decidable (CPowW i j) := inferInstanceAs (Decidable (_ ∧ _))
def oPowW : O2 := oI CPowW fun i j => .int (i ^ j.toNat)
section
variable {X : Cx}
theorem op_powW : OpR X (binaryOp .Pow) (rI CPowW fun i j => .int (i ^ j.toNat)) := opI fun _ _ _ _ _ _ _ hc q => pow_int hc.1 hc.2 q
theorem bo_powW : BOp X (binaryOp .Pow) oPowW := bop_I op_powW fun _ _ _ => .int _
end
theorem o_powW {i j : Int} {S : Sto} (h : CPowW i j) : oPowW (.d (.int i)) (.d (.int j)) S = some (.d (.int (i ^ j.toNat)), S) := by
  show (if CPowW i j then _ else _) = _
  rw [if_pos h]
theorem powW_ok {i : Int} {n k : Nat} (h : i.natAbs < 2 ^ n) (l : n * k ≤ 134217728) : CPowW i (k : Nat) := by
  refine ⟨by omega, ?_⟩
  have h1 := intBits_le h
  have h2 : Builtin.Int.intBits i * k ≤ n * k := Nat.mul_le_mul_right k h1
  have h3 : ((Builtin.Int.intBits i : Nat) : Int) * (k : Nat) = ((Builtin.Int.intBits i * k : Nat) : Int) := by rw [Int.natCast_mul]
  rw [h3]
  have : (2 : Int) ^ 27 = 134217728 := by decide
  omega
section
variable {X : Cx} {a b c : Expr} {mr : MA} {pos : Pos}
theorem ms_par3 {i j l : Nat} {x y z : Str} {px py pz pt : Pos} {kt k2 pt2} (hc : X.calm = true) (hN : X.N.Nodup) (hi : X.N[i]? = some x) (hj : X.N[j]? = some y) (hl : X.N[l]? = some z) (hij : i ≠ j) (hil : i ≠ l) (hjl : j ≠ l)
    (hx : X.env.scope.names.lookup x = some .local) (hy : X.env.scope.names.lookup y = some .local) (hz : X.env.scope.names.lookup z = some .local) (ha : PA X [a, b, c] (Cx.tA X mr))
    (hw : swappedStores [.Tuple [.Name x px, .Name y py, .Name z pz] kt pt] (.Tuple [a, b, c] k2 pt2) X.env = pure (some [x, y, z]))
    (hs : swapsWithSole [.Tuple [.Name x px, .Name y py, .Name z pz] kt pt] (.Tuple [a, b, c] k2 pt2) pos.line X.env = pure false := by rfl) :
    PS X (.Assign [.Tuple [.Name x px, .Name y py, .Name z pz] kt pt] (.Tuple [a, b, c] k2 pt2) pos) (Cx.tS X (sPar3 i j l mr)) := ms_of (ps_par3 hc hN hi hj hl hij hil hjl hx hy hz ha hw hs) fun D σ H F μ S env r d re e q => by
  obtain ⟨⟨xs, S1⟩, e1, e2⟩ := bindS e
  dsimp only at e2
  split at e2
  · rename_i x y z
    cases e2
    refine useA e1 d re fun F1 μ1 H1 vs g1 d1 re1 r1 => ?_
    cases r1 with
    | cons r2 r3 => cases r3 with
      | cons r4 r5 => cases r5 with
        | cons r6 r7 =>
          cases r7
          exact ⟨_, _, _, rfl, q F1 μ1 H1 _ g1 d1 (((re1.set r2).set r4).set r6)⟩
  · cases e2
end
end Mr

set_option maxHeartbeats 2000000
/-! Mr: reversed(range(n)), n.bit_length() -/
namespace Mr
open PySem PySem.Spec PyProof.Rows L2
open Evl (Ex ex_l ex_t)
def miRevR1 (m : M) : MI := fun e S => (m e S).bind fun p => match p.1 with
  | .d (.int j) => if -(2 ^ 62) ≤ j ∧ j < 2 ^ 62 then some ((rng 0 j.toNat).reverse, p.2) else none
  | _ => none
def oBits : O1 := fun a S => match a with
  | .d (.int i) => some (.d (.int (Builtin.Int.intBits i : Nat)), S)
  | _ => none
section
variable {P : Program} {w : World} {K : PySem.W.Frag} {F H : Hp} {μ : List Addr} {S : Sto}
end
/-! tuples of the written part -/
section
variable {X : Cx} {tg l o : Expr} {m : M}
theorem mt_indexR {k : Nat} (hr : Room k X.A) : MtR X "list.index" (rIndexD X.K) := mt_indexD (by have := hr.un; omega)
theorem md_indexR {k : Nat} (hr : Room k X.A) : MtD X.prog X.w X.K omIndex "list" (rIndexD X.K) := md_index (by have := hr.un; omega)
end
end Mr

set_option maxHeartbeats 2000000
/-! Mr: a tuple times an int -/
namespace HT
open PySem PySem.Builtin PyProof.Rows
variable {prog : Program} {w : World} {A : Around} {E : Value → Shared → Prop} {s : Shared} {l : Addr} {items : Array Value} {n : Nat} {dd : Option Addr} {sl : Array (Option Value)} {u : Tok} {Q : Value → Shared → Prop}
end HT
namespace Mr
open PySem PySem.Builtin PySem.Spec PyProof.Rows L2
open Evl (Ex ex_l ex_t)
def rRepF (K : PySem.W.Frag) : R2 := fun x y H Q => ∃ a k xs, x = .ref a ∧ y = .int k ∧ SqT K H a xs ∧ xs ≠ [] ∧ 1 ≤ k ∧ k ≤ 1000 ∧ xs.length ≤ 1000 ∧ (k = 1 → Q (.ref a) H) ∧
  (2 ≤ k → ∀ (p : Addr) (o : Obj), H p = none → o.dict = none → Q (.ref p) (upd H p (.frz o (.tup (List.replicate k.toNat xs).flatten))))
def oRepT : O2 := fun a b S => match a with
  | .d (.tuple ds) => (inOf b).bind fun k => if ds ≠ [] ∧ 1 ≤ k ∧ k ≤ 1000 ∧ ds.length ≤ 1000 then some (.d (.tuple (List.replicate k.toNat ds).flatten), S) else none
  | _ => none
/-- times, of tuples too -/
def oMulT : O2 := orO oMul oRepT
end Mr

set_option maxHeartbeats 2000000
/-! Mr: x -= e, x += e of ints -/
namespace Mr
open PySem PySem.Spec PyProof.Rows L2
open Evl (Ex ex_l ex_t)
def sAugI (i : Nat) (g : Int → Int → Int) (m : M) : MS := fun e S => match e[i]? with
  | some (some (.d (.int x))) => (m e S).bind fun p => match p.1 with
    | .d (.int y) => some (.nx (e.set i (some (.d (.int (g x y))))) p.2)
    | _ => none
  | _ => none
/-- a list that a call handed back and nobody changes: from now on data -/
def mFrz (m : M) : M := fun e S => (m e S).bind fun p => match p.1 with
  | .ref n => match p.2[n]? with
    | some (.lst ds) => some (.d (.list ds), p.2.set n .dead)
    | _ => none
  | _ => some p
end Mr

set_option maxHeartbeats 2000000
/-! Mr: enumerate of a tuple -/
namespace HT
open PySem PySem.Builtin PyProof.Rows
variable {prog : Program} {w : World} {A : Around} {E : Value → Shared → Prop} {s : Shared} {it t : Addr} {i : Nat} {items : Array Value} {x : Value} {Q : Value → Shared → Prop}
end HT
namespace Mr
open PySem PySem.Spec PyProof.Rows L2
open Evl (Ex ex_l ex_t)
/-- the turns of enumerate over a tuple: pairs that have no dict -/
def Itf (K : PySem.W.Frag) (a : Addr) : It where
  go := fun i H => ∃ xs x, SqT K H a xs ∧ xs[i]? = some x
  yld := fun i H v H' => ∃ (T : Addr) (x : V) (o : Obj), v = .ref T ∧ H T = none ∧ o.dict = none ∧ H' = upd H T (.frz o (.tup [.int (i : Nat), x])) ∧ ∀ xs, SqT K H a xs → xs[i]? = some x
  stop := fun i H => ∃ xs, SqT K H a xs ∧ xs.length ≤ i
def iEnumT (K : PySem.W.Frag) (ta : TA) : TI := fun σ H R => ta σ H fun vs H1 => ∃ a xs, vs = [.ref a] ∧ SqT K H1 a xs ∧ R (Itf K a) H1
/-- enumerate(t), t a tuple -/
def miEnumT (m : M) : MI := fun e S => (m e S).bind fun p => match p.1 with
  | .d (.tuple ds) => some ((List.range ds.length).map fun i => .d (.tuple [.int (i : Nat), (ds[i]?).getD .none]), p.2)
  | _ => none
end Mr

set_option maxHeartbeats 2000000
/-! Mr: comprehensions with two for -/
namespace Mr
open PySem PySem.Spec PyProof.Rows L2
open Evl (Ex ex_l ex_t)
def compL2 (t : Tg) (c : MT) (mi1 : MI) (t1 : Tg) (c1 : MT) (m : M) (e : Env) : List W → Sto → Option (List PyData × Sto)
  | [], S => some ([], S)
  | x :: xs, S => (t.set x e).bind fun e1 => (c e1 S).bind fun p => if p.1 = true then (mi1 e1 p.2).bind fun q => (compL t1 c1 m (wipeE e1 t1.names) q.1 q.2).bind fun r => (compL2 t c mi1 t1 c1 m e xs r.2).bind fun z => some (r.1 ++ z.1, z.2)
      else compL2 t c mi1 t1 c1 m e xs p.2
def mLc2 (mi : MI) (t : Tg) (c : MT) (mi1 : MI) (t1 : Tg) (c1 : MT) (m : M) : M := fun e S => (mi e S).bind fun p => (compL2 t c mi1 t1 c1 m (wipeE e (t.names ++ t1.names)) p.1 p.2).bind fun r => if r.1.length ≤ lim then some (.d (.list r.1), r.2) else none
section
variable {X : Cx} {mt : MT} {m : M} {t : Tg}
end
section
variable {X : Cx} {mt mt1 : MT} {m : M} {mi mi1 : MI} {t t1 : Tg}
end
end Mr

set_option maxHeartbeats 2000000
/-! Mr: xs.reverse() of a cell -/
namespace Mr
open PySem PySem.Spec PyProof.Rows L2
open Evl (Ex ex_l ex_t)
def mMeth0 (f : Om) (o : M) : M := fun e S => (o e S).bind fun p => if (lsOf p.1 p.2).isSome = true then f p.1 [] p.2 else none
section
variable {X : Cx} {e o : Expr} {mo : M}
end
end Mr

set_option maxHeartbeats 4000000
/-! Mr: sorted(set(xs)) of ints; dicts whose keys are ints -/
namespace HT
open PySem PySem.Builtin PyProof.Rows
end HT
namespace Mr
open PySem PySem.Spec PyProof.Rows L2
open Evl (Ex ex_l ex_t)
/-! ### ascending rows of ints -/
def insU (x : Int) : List Int → List Int
  | [] => [x]
  | y :: ys => if x < y then x :: y :: ys else if x = y then y :: ys else y :: insU x ys
def sortU : List Int → List Int
  | [] => []
  | x :: xs => insU x (sortU xs)
/-! ### sorted(set(xs)) -/
section
variable {X : Cx} {e : Expr} {m : M}
def SetO (w : World) (a : Addr) (S : Int → Bool) (n : Nat) : HO := .ext fun h => L2.SetR w h a S n
def rSetI (w : World) (K : PySem.W.Frag) : List V → Hp → VK → Prop := fun xs H Q => ∃ (p : Addr) (is : List Int), xs = [.ref p] ∧ SqL K H p (is.map V.int) ∧ is.length < 64 ∧ ∀ q c, H q = none → c ≤ is.length → Q (.ref q) (upd H q (SetO w q (fun j => decide (j ∈ is)) c))
def rSortedO (w : World) : List V → Hp → VK → Prop := fun xs H Q => ∃ q S c, xs = [.ref q] ∧ H q = some (SetO w q S c) ∧ c < 64 ∧ ∀ (out : List Int) (p : Addr), out.Pairwise (· < ·) → (∀ k : Int, k ∈ out ↔ S k = true) → H p = none → Q (.ref p) (upd H p (.lst (out.map V.int)))
def oSortSet : O1 := fun a S => (lsOf a S).bind fun ds => (intsOf ds).bind fun is => if is.length < 64 then some (.d (.list ((sortU is).map .int)), S) else none
end
end Mr

set_option maxHeartbeats 2000000
/-! Mr: dicts whose keys are ints -/
namespace Mr
open PySem PySem.Spec PyProof.Rows L2
open Evl (Ex ex_l ex_t)
def cellI (a : W) (S : Sto) : Option (Nat × List (Int × PyData)) := match a with
  | .ref n => match S[n]? with
    | some (.dki kvs) => some (n, kvs)
    | _ => none
  | _ => none
def hasI (kvs : List (Int × PyData)) (k : Int) : Bool := kvs.any fun p => decide (p.1 = k)
def dputI (kvs : List (Int × PyData)) (k : Int) (d : PyData) : List (Int × PyData) := if hasI kvs k = true then kvs.map fun p => if p.1 = k then (p.1, d) else p else kvs ++ [(k, d)]
def putDI : P3 := fun o i v S => (cellI o S).bind fun c => (inOf i).bind fun k => (dOf v).bind fun d => if c.2.length < lim then some (S.set c.1 (.dki (dputI c.2 k d))) else none
def oInI : O2 := fun a b S => (cellI b S).bind fun c => (inOf a).bind fun k => some (.d (.bool (hasI c.2 k)), S)
def oNotInI : O2 := fun a b S => (cellI b S).bind fun c => (inOf a).bind fun k => some (.d (.bool (!hasI c.2 k)), S)
def oSortedI : On := on1 fun a S => (cellI a S).bind fun c => if c.2.length < 64 ∧ (c.2.map (·.1)).Nodup then some (.d (.list ((sortU (c.2.map (·.1))).map .int)), S) else none
def mDctI (mk mv : M) : M := fun e S => (mk e S).bind fun k => (inOf k.1).bind fun i => (mv e k.2).bind fun v => (dOf v.1).bind fun d => some (.ref v.2.length, v.2 ++ [.dki [(i, d)]])
section
variable {X : Cx} {pos : Pos} {F H : Hp} {μ : List Addr} {S : Sto}
/-- d[k] = v -/
def rPutI : TSet := fun o i v H Q => ∃ p xs k, o = .ref p ∧ i = .int k ∧ H p = some (.dK xs) ∧ xs.length < sizeLine ∧ Q (upd H p (.dK (putK xs (.inl k : L2.Key) v)))
/-- k in d -/
def rInI (neg : Bool) : R2 := fun x y H Q => ∃ p xs k, y = .ref p ∧ x = .int k ∧ H p = some (.dK xs) ∧ Q (.bl (if neg = true then !(valV xs (.inl k : L2.Key)).isSome else (valV xs (.inl k : L2.Key)).isSome)) H
end
end Mr

set_option maxHeartbeats 4000000
/-! Mr: sets of tuples of any depth -/
namespace Mr
open PySem PySem.Spec PyProof.Rows L2
open Evl (Ex ex_l ex_t)
def cellS (a : W) (S : Sto) : Option (Nat × List PyData) := match a with
  | .ref n => match S[n]? with
    | some (.st ds) => some (n, ds)
    | _ => none
  | _ => none
def mSetC : M := fun _ S => some (.ref S.length, S ++ [.st []])
def sput (ds : List PyData) (d : PyData) : List PyData := if (ds.any fun x => keyEq x d) = true then ds else ds ++ [d]
def omAddS : Om := fun a ws S => match ws with
  | [v] => (cellS a S).bind fun c => (dOf v).bind fun d => (okKey d).bind fun _ => if c.2.length + 1 < 4000 then some (.d .none, S.set c.1 (.st (sput c.2 d))) else none
  | _ => none
def oSortS (ds : List PyData) (S : Sto) : Option (W × Sto) := if alikeAllB ds = true ∧ sortableB ds = true ∧ ds.length ≤ 1000 ∧ (ds.all fun d => decide (d.depth ≤ 32)) = true then some (.d (.list (ds.mergeSort (PySem.W.dataLe false id))), S) else none
def oSortedS : On := on1 fun a S => (cellS a S).bind fun c => oSortS c.2 S
def mMethS (f : Om) (o : M) (t : MA) : M := fun e S => (o e S).bind fun p => if (cellS p.1 p.2).isSome = true then (t e p.2).bind fun q => f p.1 q.1 q.2 else none
section
variable {X : Cx} {pos : Pos}
/-- set() -/
def rSet0S (w : World) : List V → Hp → VK → Prop := fun xs H Q => xs = [] ∧ ∀ p, H p = none → Q (.ref p) (upd H p (.ext (RawS w p [])))
/-- found.add(d) -/
def rAddS (w : World) (K : PySem.W.Frag) : V → List V → Hp → VK → Prop := fun x xs H Q => ∃ (F : Hp) (a b : Addr) (L L2 : NS.Ks) (ds : List PyData) (d : PyData) (k : NestedKey), x = V.ref a ∧ xs = [.ref b] ∧ Ex F H ∧ H a = some (.ext (RawS w a L)) ∧ L2.Perm L ∧ Paired (KeyAt K F) ds L2 ∧ KeyAt K F d (b, k) ∧ L.length + 1 < 4000 ∧
  ∀ L', (k ∈ L.map (·.2) → L' = L) → (k ∉ L.map (·.2) → L'.Perm ((b, k) :: L)) → Q .non (upd H a (.ext (RawS w a L')))
def tAddS (w : World) (K : PySem.W.Frag) (to : TE) (t : TA) : TE := fun σ H Q => to σ H fun x H1 => (∃ a L, x = V.ref a ∧ H1 a = some (.ext (RawS w a L))) ∧ t σ H1 fun xs H2 => rAddS w K x xs H2 Q
end
end Mr

set_option maxHeartbeats 4000000
/-! Mr: sorted(set); set(xs) -/
namespace Mr
open PySem PySem.Spec PyProof.Rows L2
open Evl (Ex ex_l ex_t)
/-! ### one sequence alone -/
section
variable {X : Cx} {pos : Pos}
/-- sorted(found) -/
def rSortS (w : World) (K : PySem.W.Frag) : List V → Hp → VK → Prop := fun xs H Q => ∃ (F : Hp) (p : Addr) (L Lb : NS.Ks) (ds : List PyData), xs = [.ref p] ∧ Ex F H ∧ H p = some (.ext (RawS w p L)) ∧ Lb.Perm L ∧ Paired (KeyAt K F) ds Lb ∧
  PySem.W.AllAlike ds ∧ PySem.W.Sortable ds ∧ ds.length ≤ 1000 ∧ (∀ d ∈ ds, d.depth ≤ 32) ∧ ∀ q out, H q = none → DzAll K F out (ds.mergeSort (PySem.W.dataLe false id)) → Q (.ref q) (upd H q (.lst out))
end
end Mr

set_option maxHeartbeats 4000000
/-! set(xs) of tuples of any depth -/
namespace NS
open PySem PySem.Builtin PySem.Spec PyProof.Rows L2
/-- what a set holds of the first i keys -/
structure Of (ks : Ks) (i : Nat) (L : Ks) : Prop where
  sub : ∀ p ∈ L, p ∈ ks.take i
  all : ∀ p ∈ ks.take i, p.2 ∈ L.map (·.2)
  le : L.length ≤ i
theorem Of.next {ks L L2 : Ks} {i : Nat} {p : Addr × NestedKey} (g : Of ks i L) (e : ks[i]? = some p) (c1 : p.2 ∈ L.map (·.2) → L2 = L) (c2 : p.2 ∉ L.map (·.2) → L2.Perm ((p.1, p.2) :: L)) : Of ks (i + 1) L2 := by
  have tk : ks.take (i + 1) = ks.take i ++ [p] := by rw [List.take_succ, e]; rfl
  by_cases h : p.2 ∈ L.map (·.2)
  · rw [c1 h]
    refine ⟨fun q hq => by rw [tk]; exact List.mem_append_left _ (g.sub q hq), fun q hq => ?_, Nat.le_succ_of_le g.le⟩
    rw [tk] at hq
    rcases List.mem_append.mp hq with z | z
    · exact g.all q z
    · rw [List.mem_singleton.mp z]; exact h
  · have pm := c2 h
    refine ⟨fun q hq => ?_, fun q hq => ?_, by rw [pm.length_eq, List.length_cons]; exact Nat.succ_le_succ g.le⟩
    · rw [tk]
      rcases List.mem_cons.mp (pm.mem_iff.mp hq) with z | z
      · exact List.mem_append_right _ (List.mem_singleton.mpr z)
      · exact List.mem_append_left _ (g.sub q z)
    · rw [(pm.map (·.2)).mem_iff, List.map_cons]
      rw [tk] at hq
      rcases List.mem_append.mp hq with z | z
      · exact List.mem_cons_of_mem _ (g.all q z)
      · rw [List.mem_singleton.mp z]; exact List.mem_cons_self
section
variable {P : Program} {w : World} {A : Around} {E : Value → Shared → Prop} {s : Shared}
theorem SetN.keep {h h2 : Heap} {a : Addr} {L : Ks} {es : Array (Int × Value)} {ep : Nat} {t : SetTable} (R : SetN P w h a L es ep t) (ha : ∀ o, h.get? a = some o → h2.get? a = some o) (hk : ∀ p ∈ L, IsN P w h2 p.2 p.1) : SetN P w h2 a L es ep t := by
  obtain ⟨o, ho, r⟩ := R.obj
  exact ⟨⟨o, ha o ho, r⟩, R.row, R.tab, R.nd, hk, R.led, R.room, R.few⟩
end
end NS

set_option maxHeartbeats 4000000
/-! Mr: set(xs), sorted(set(xs)) of tuples of any depth -/
namespace Mr
open PySem PySem.Spec PyProof.Rows L2
open Evl (Ex ex_l ex_t)
/-- each key once, in the sequence in which they come first -/
def sputs (ds : List PyData) : List PyData := ds.foldl sput []
def okKeys (ds : List PyData) : Bool := ds.all fun d => (okKey d).isSome
def oSetS (a : W) (S : Sto) : Option (List PyData) := (lsOf a S).bind fun ds => if okKeys ds = true ∧ ds.length < 4000 then some (sputs ds) else none
def mSetOf (m : M) : M := fun e S => (m e S).bind fun p => (oSetS p.1 p.2).bind fun ds => some (.ref p.2.length, p.2 ++ [.st ds])
def oSortSetS : O1 := fun a S => (oSetS a S).bind fun ds => oSortS ds S
def oSortSet2 : O1 := fun a S => match oSortSet a S with
  | some r => some r
  | none => oSortSetS a S
section
variable {X : Cx} {e : Expr} {m : M}
def rSetLS (w : World) (K : PySem.W.Frag) : List V → Hp → VK → Prop := fun xs H Q => ∃ (F : Hp) (p : Addr) (ks : NS.Ks) (ds : List PyData), xs = [.ref p] ∧ Ex F H ∧ SqL K H p (ks.map fun p => V.ref p.1) ∧ Paired (KeyAt K F) ds ks ∧ ds.length < 4000 ∧
  ∀ q L, H q = none → NS.Of ks ks.length L → (L.map (·.2)).Nodup → Q (.ref q) (upd H q (.ext (RawS w q L)))
theorem CallR.or {f : Value} {r r' : List V → Hp → VK → Prop} (h : CallR X f r) (h' : CallR X f r') : CallR X f (fun xs H Q => r xs H Q ∨ r' xs H Q) := by
  intro pins s σ H xs us Q I rx q
  rcases q with q | q
  · exact h pins s σ H xs us Q I rx q
  · exact h' pins s σ H xs us Q I rx q
end
end Mr

set_option maxHeartbeats 4000000
/-! Mr: set comprehensions of key tuples -/
namespace Mr
open PySem PySem.Spec PyProof.Rows L2
open Evl (Ex ex_l ex_t)
/-- what adding y to the set at D owes, and leaves -/
def addSD (w : World) (K : PySem.W.Frag) (D : Addr) (y : V) (H : Hp) (N : Hp → Prop) : Prop := ∃ (F : Hp) (b : Addr) (L Lb : NS.Ks) (ds : List PyData) (d : PyData) (k : NestedKey), y = V.ref b ∧ Ex F H ∧ H D = some (.ext (RawS w D L)) ∧ Lb.Perm L ∧ Paired (KeyAt K F) ds Lb ∧ KeyAt K F d (b, k) ∧ L.length + 1 < 4000 ∧
  ∀ L', (k ∈ L.map (·.2) → L' = L) → (k ∉ L.map (·.2) → L'.Perm ((b, k) :: L)) → N (upd H D (.ext (RawS w D L')))
/-- {elt for target in iter if ..} of key tuples -/
def tScS (w : World) (K : PySem.W.Frag) (wi : TI) (g : TG) (tt : TT) (te : TE) (vs : List Nat) : TE := fun σ H Q => wi σ H fun J H1 => ∀ D, H1 D = none → ∃ W : Nat → Nat → Hp → Prop, (∃ m, W 0 m (upd H1 D (.ext (RawS w D [])))) ∧ ∀ i m H, W i m H →
  (J.stop i H ∧ Q (.ref D) H) ∨ (J.go i H ∧ ∃ Nx : Hp → Prop, (∀ H', Nx H' → ∃ m', m' < m ∧ W (i + 1) m' H') ∧ ∀ x H', J.yld i H x H' → g x (L2.wipe σ vs) H' fun σ2 H2 => L2.wipe σ2 vs = L2.wipe σ vs ∧ tt σ2 H2 fun b H3 =>
    if b = true then te σ2 H3 fun y H4 => addSD w K D y H4 Nx else Nx H3)
section
variable {X : Cx} {elt tg iter : Expr} {ifs : List Expr} {scope : Scope} {own : List (Str × Nat)}
end
/-- the loop's mirror: the keys that are there already, and more -/
def compS (t : Tg) (c : MT) (m : M) (e : Env) : List W → List PyData → Sto → Option (List PyData × Sto)
  | [], acc, S => some (acc, S)
  | x :: xs, acc, S => (t.set x e).bind fun e1 => (c e1 S).bind fun p => if p.1 = true then (m e1 p.2).bind fun q => (dOf q.1).bind fun d => (okKey d).bind fun _ => if acc.length + 1 < 4000 then compS t c m e xs (sput acc d) q.2 else none
      else compS t c m e xs acc p.2
def mSc (mi : MI) (t : Tg) (c : MT) (m : M) : M := fun e S => (mi e S).bind fun p => (compS t c m (wipeE e t.names) p.1 [] p.2).bind fun r => some (.ref r.2.length, r.2 ++ [.st r.1])
section
variable {X : Cx} {mt : MT} {m : M} {mi : MI} {t : Tg}
end
end Mr

set_option maxHeartbeats 2000000
/-! Mr: t.index(x) of a tuple of data -/
namespace Mr
open PySem PySem.Spec PyProof.Rows L2
open Evl (Ex ex_l ex_t)
/-- j is the first place of d -/
def FirstAt (d : PyData) (ds : List PyData) (j : Nat) : Prop := (∃ z, ds[j]? = some z ∧ PyData.eqv z d = true) ∧ ∀ (m : Nat) (z : PyData), m < j → ds[m]? = some z → PyData.eqv z d = false
def tIdxT (K : PySem.W.Frag) (to : TE) (t : TA) : TE := fun σ H Q => to σ H fun x H1 => ∃ (p : Addr) (ys : List V), x = .ref p ∧ Sk.TupAt K H1 p ys ∧ t σ H1 fun xs H2 => ∃ y d ds j, xs = [y] ∧ Sk.TupAt K H2 p ys ∧ DpAll K H2 ys ds ∧ Dp K H2 y d ∧
  SeqAt.shaped (.list ds) = true ∧ SeqAt.shaped d = true ∧ FirstAt d ds j ∧ Q (.int (j : Nat)) H2
section
variable {X : Cx}
end
/-- t.index(x), t a tuple -/
def mIdxT (o x : M) : M := fun e S => (o e S).bind fun p => match p.1 with
  | .d (.tuple ds) => (x e p.2).bind fun q => (pyOf q.1 q.2).bind fun d => if SeqAt.shaped (.list ds) = true ∧ SeqAt.shaped d = true then (idxOf d ds).bind fun j => some (.d (.int (j : Nat)), q.2) else none
  | _ => none
section
variable {X : Cx}
end
end Mr
set_option maxHeartbeats 2000000
/-! Mr: repr of a tuple of data, == of two texts -/
namespace Mr
open PySem PySem.Spec PyProof.Rows L2
open Evl (Ex ex_l ex_t)
/-- data whose repr is at hand: what it holds can be shown and is not too long -/
def reprOk (d : PyData) : Bool := d.showable && !d.hasDict && decide (d.depth ≤ 32) && d.leavesShort 13 && decide (d.weight ≤ 1000000)
structure ReprOk (d : PyData) : Prop where
  sh : d.showable = true
  nd : d.hasDict = false
  dp : d.depth ≤ 32
  ls : d.leavesShort 13 = true
  wt : d.weight ≤ 1000000
theorem ReprOk.few {d : PyData} (h : ReprOk d) : d.shown.length ≤ sizeLine := by
  have h1 := PyData.shown_le 13 (by decide) d h.ls
  have h2 := h.wt
  have h3 : 15000013 ≤ sizeLine := by decide
  omega
def rRepr (K : PySem.W.Frag) : List V → Hp → VK → Prop := fun xs H Q => ∃ a d, xs = [.ref a] ∧ Dp K H (.ref a) d ∧ ReprOk d ∧ Q (.str d.shown) H
section
variable {X : Cx}
def oRepr : On := on1 fun a S => match a with
  | .d (.tuple ds) => if reprOk (.tuple ds) = true then some (.d (.str (PyData.shown (.tuple ds))), S) else none
  | _ => none
def oEqS : O2 := fun a b S => match a, b with
  | .d (.str x), .d (.str y) => some (.d (.bool (decide (x = y))), S)
  | _, _ => none
end
end Mr

set_option maxHeartbeats 2000000
/-! Mr: defs that are run where no repr is under way -/
namespace Mr
open PySem PySem.Spec PyProof.Rows L2
open Evl (Ex ex_l ex_t)
/-- a def's promise, where no repr is under way -/
structure FnG (P : Program) (w : World) (K : PySem.W.Frag) (mg : Str → Option Value) (base : Heap) (k : Nat) (f : Addr) (fd : FuncData) (ps : List Str) (sp : Sp) : Prop where
  len : ∀ vs H Q E, sp vs H Q E → vs.length = ps.length
  run : ∀ (A : Around) (outer : List PySem.Env) (s : Shared) (H : Hp) (args : Args) (us : List Value) (vs : List V) (Q : VK) (E : XK), Room k A → A.guards = some [] → Env0 P w K mg base A outer s H → BindsTo s fd args (ps.zip us) → Vals vs us → sp vs H Q E →
    codeAny (model P w) A (.call (.ref f) args) (CR CX0 outer P w H s Q E) s
structure CalG (P : Program) (w : World) (K : PySem.W.Frag) (mg : Str → Option Value) (base : Heap) (k : Nat) (x : Str) (ps : List Str) (sp : Sp) : Prop where
  ex : ∃ (f : Addr) (fd : FuncData), FnG P w K mg base k f fd ps sp ∧ mg x = some (.ref f) ∧ PySem.W.keepIn K (.ref f) = true ∧ Binds K fd ps []
theorem FnG.imp {P : Program} {w : World} {K : PySem.W.Frag} {mg : Str → Option Value} {base : Heap} {k : Nat} {f : Addr} {fd : FuncData} {ps : List Str} {sp sp' : Sp} (F : FnG P w K mg base k f fd ps sp)
    (h : ∀ vs H Q E, sp' vs H Q E → sp vs H Q E) : FnG P w K mg base k f fd ps sp' :=
  ⟨fun vs H Q E q => F.len vs H Q E (h _ _ _ _ q), fun A outer s H args us vs Q E hr hg he hb hv hs => F.run A outer s H args us vs Q E hr hg he hb hv (h _ _ _ _ hs)⟩
section
variable {P : Program} {w : World} {K : PySem.W.Frag} {mg : Str → Option Value} {base : Heap} {f : Addr} {fd : FuncData}
end
section
variable {X : Cx} {j k : Nat} {x : Str} {ps : List Str} {f : On} {p pos : Pos} {e : Expr} {es : List Expr} {mr : MA} {sp : Sp} {t : TA}
end
section
variable {P : Program} {w : World} {K : PySem.W.Frag} {mg : Str → Option Value} {base : Heap} {x : Str} {st : Stmt} {f : Addr} {fd : FuncData} {k : Nat} {ps : List Str} {sp : Sp}
end
end Mr

set_option maxHeartbeats 2000000
/-! Mr: the law's call, for a law that shows things by repr -/
namespace Mr
open PySem PySem.Spec PyProof.Rows L2
open Evl (Ex ex_l ex_t)
section
variable {P : Program} {w : World} {K : PySem.W.Frag} {mg mb : Str → Option Value} {s₁ : Shared} {H : Hp} {a : Addr} {vs : List Value}
/-- what is tracked at the law's call: nothing, or the script -/
structure Scr (K : PySem.W.Frag) (H : Hp) (a : Addr) : Prop where
  one : ∀ b, b ≠ a → H b = none
  here : H a = none ∨ (∃ o xs, H a = some (.frz o (.lst xs))) ∧ K.lookup a = none
theorem Scr.free {b : Addr} {o : Obj} (c : Scr K H a) (ha : s₁.heap.get? a = some { cls := .type "list", data := .seq vs.toArray }) (e : s₁.heap.get? b = some o) (h : (∃ es ep, o.data = .dict es ep) ∨ K.lookup b = some o) : H b = none := by
  by_cases hb : b = a
  · subst hb
    rcases c.here with z | ⟨_, z⟩
    · exact z
    · exfalso
      rcases h with ⟨es, ep, d⟩ | h
      · rw [ha] at e
        cases e
        have d' : Data.seq vs.toArray _ = Data.dict es ep := d
        cases d'
      · rw [z] at h; cases h
  · exact c.one b hb
theorem Scr.env (c : Scr K H a) (KX : K.In s₁.heap) (hns : s₁.heap.Ns mainGlobals mg) (hb : s₁.heap.Ns builtinsNs mb) (hbb : ∀ x : Str, x ≠ "__name__" → mb x = bootBuiltins x) (hlim : s₁.heap.NoLimit) (hg : s₁.gens = #[])
    (ha : s₁.heap.get? a = some { cls := .type "list", data := .seq vs.toArray }) (hok : HOk P w H s₁.heap) :
    K.In (hidT s₁.heap H) ∧ (hidT s₁.heap H).Ns mainGlobals mg ∧ Env0 P w K mg (hidT s₁.heap H) callerA [] s₁ H := by
  have ns : ∀ {b : Addr} {m : Str → Option Value}, s₁.heap.Ns b m → (hidT s₁.heap H).Ns b m := fun ⟨o, es, ep, e, d, r⟩ => ⟨o, es, ep, hidT_get e (c.free ha e (.inl ⟨es, ep, d⟩)), d, r⟩
  have kin : K.In (hidT s₁.heap H) := fun b o e => hidT_get (KX b o e) (c.free ha (KX b o e) (.inr e))
  obtain ⟨mc, l1, l2⟩ := hlim
  refine ⟨kin, ns hns, ?_⟩
  constructor
  · rfl
  · exact ⟨kin, ns hns, ⟨mb, ns hb, hbb⟩, ⟨mc, ns l1, l2⟩⟩
  · exact fun b o e => of_hidT e
  · rw [hidT_size]; exact Nat.le_refl _
  · trivial
  · intro b hb
    exact absurd (show b ∈ ([] : List Addr) from hb) (by simp)
  · exact hok
  · exact .of_eq hg
/-- the law's end: True, and the heap of before stands -/
theorem Scr.fin {r : Result} {s' : Shared} (c : Scr K H a) (hok : HOk P w H s₁.heap) (h : CR CX0 [] P w H s₁ (fun v _ => v = .bl true) (fun _ _ _ => False) r s') : r = .ok (.ret (.bool true)) ∧ OldK s₁.heap s'.heap ∧ s'.os = s₁.os ∧ AllBare s'.gens := by
  match r, h with
  | .ok (.ret u), h =>
    obtain ⟨v, H', os, bare, un, hok', rv, q⟩ := h
    have q' : v = .bl true := q
    subst q'
    obtain rfl : u = Value.bool true := rv
    refine ⟨rfl, OldK.of_keep (fun b o e => ?_), os, bare⟩
    have cases_ : H b = none ∨ ∃ o' xs, H b = some (.frz o' (.lst xs)) := by
      by_cases hb : b = a
      · subst hb
        exact c.here.imp id And.left
      · exact .inl (c.one b hb)
    rcases cases_ with z | ⟨o', xs, z⟩
    · exact un.keep b o e z (fun z => absurd (show b ∈ ([] : List Addr) from z) (by simp)) (by simp)
    · have e2 := (hok' b _ (un.frzs b o' _ z)).1
      have e3 := (hok b _ z).1
      rw [e] at e3
      cases e3
      exact e2
  | .ok .next, h => exact False.elim h
  | .ok .brk, h => exact False.elim h
  | .ok .cont, h => exact False.elim h
  | .error e, h => exact False.elim h
end
end Mr

set_option maxHeartbeats 2000000
/-! Mr: zip of two lists or of two tuples -/
namespace Mr
open PySem PySem.Spec PyProof.Rows L2
open Evl (Ex ex_l ex_t)
/-- lists (false), tuples (true) -/
def SqB (b : Bool) (K : PySem.W.Frag) (H : Hp) (a : Addr) (xs : List V) : Prop := match b with
  | true => SqT K H a xs
  | false => SqL K H a xs
def IterB (b : Bool) (h : Heap) (it a : Addr) (i : Nat) : Prop := match b with
  | true => h.IsTupleIter it a i
  | false => h.IsListIter it a i
def IsB (b : Bool) (h : Heap) (a : Addr) (items : Array Value) : Prop := match b with
  | true => h.IsTuple a items
  | false => h.IsList a items
section
variable {P : Program} {w : World} {A : Around} {E : Value → Shared → Prop} {s : Shared} {b : Bool} {h h' : Heap} {it a : Addr} {i : Nat}
end
/-- the pairs of zip, that have no dict -/
def Itzf (b : Bool) (K : PySem.W.Frag) (l1 l2 : Addr) : It where
  go := fun i H => ∃ xs ys x y, SqB b K H l1 xs ∧ SqB b K H l2 ys ∧ xs[i]? = some x ∧ ys[i]? = some y
  yld := fun i H v H' => ∃ (T : Addr) (x y : V) (o : Obj), v = .ref T ∧ H T = none ∧ o.dict = none ∧ H' = upd H T (.frz o (.tup [x, y])) ∧ (∀ xs, SqB b K H l1 xs → xs[i]? = some x) ∧ ∀ ys, SqB b K H l2 ys → ys[i]? = some y
  stop := fun i H => ∃ xs ys, SqB b K H l1 xs ∧ SqB b K H l2 ys ∧ (xs.length ≤ i ∨ ys.length ≤ i)
/-- what the iterator's own objects are at its turn i -/
structure ZAt (b : Bool) (z TI TO i1 i2 l1 l2 : Addr) (i : Nat) (h : Heap) : Prop where
  z : IsZip h z TI TO .none
  ti : IsPair h TI (.ref i1) (.ref i2)
  to : ∃ x y, IsPair h TO x y
  i1 : IterB b h i1 l1 i
  i2 : IterB b h i2 l2 i
def iZipF (K : PySem.W.Frag) (ta : TA) : TI := fun σ H R => ta σ H fun vs H1 => ∃ bb a b xs ys, vs = [.ref a, .ref b] ∧ SqB bb K H1 a xs ∧ SqB bb K H1 b ys ∧ R (Itzf bb K a b) H1
def prs (xs ys : List PyData) : List W := (xs.zip ys).map fun q => .d (.tuple [q.1, q.2])
/-- zip of two tuples, of two lists -/
def miZip (m : MA) : MI := fun e S => (m e S).bind fun p => match p.1 with
  | [.d (.tuple xs), .d (.tuple ys)] => some (prs xs ys, p.2)
  | [.d (.list xs), .d (.list ys)] => some (prs xs ys, p.2)
  | _ => none
end Mr

set_option maxHeartbeats 2000000
/-! Mr: dicts by ints that change no more; x in a tuple; a list unpacked; tuples of the written part -/
namespace Mr
open PySem PySem.Spec PyProof.Rows L2
open Evl (Ex ex_l ex_t)
/-- the pairs of a dict by ints -/
def kvsOf (a : W) (S : Sto) : Option (List (Int × PyData)) := match a with
  | .kd kvs => some kvs
  | .ref n => match S[n]? with
    | some (.dki kvs) => some kvs
    | _ => none
  | _ => none
def findI (kvs : List (Int × PyData)) (k : Int) : Option PyData := (kvs.find? fun p => decide (p.1 = k)).map (·.2)
def mGetI (mo mi : M) : M := fun e S => (mo e S).bind fun p => (mi e p.2).bind fun q => (kvsOf p.1 q.2).bind fun kvs => (inOf q.1).bind fun k => (findI kvs k).bind fun d => some (.d d, q.2)
def oLenI : On := on1 fun a S => (kvsOf a S).bind fun kvs => some (.d (.int (kvs.length : Nat)), S)
section
variable {X : Cx} {F H : Hp} {μ : List Addr} {S : Sto}
/-- x in t, x not in t: t a tuple of data -/
def oInT : O2 := fun a b S => (pyOf a S).bind fun x => (tpOf b).bind fun ds => if SeqAt.shaped x = true ∧ SeqAt.shaped (.tuple ds) = true then some (.d (.bool (ds.any fun z => PyData.eqv z x)), S) else none
def oIn2 : O2 := orO oIn oInT
/-- a, b = [..] -/
def sAsgL (ts : List Tg) (m : M) : MS := fun e S => (m e S).bind fun p => match p.1 with
  | .d (.list ds) => if ds.length = ts.length then (Tg.sets ts ds e).bind fun e1 => some (.nx e1 p.2) else none
  | _ => none
/-! a dict that changes no more -/
def lockE (i : Nat) (e : Env) (S : Sto) : Option (Env × Sto) := match e[i]? with
  | some (some (.ref n)) => match S[n]? with
    | some (.dki kvs) => some (e.set i (some (.kd kvs)), S.set n .dead)
    | _ => none
  | _ => none
/-- from here on the dict at the name changes no more -/
def sLockI (i : Nat) (s : MS) : MS := fun e S => (lockE i e S).bind fun p => s p.1 p.2
end
end Mr
namespace Mr
open PySem PySem.Spec PyProof.Rows L2
section
variable {X : Cx} {j k : Nat} {x : Str} {ps : List Str} {f : On} {p pos : Pos}
end
end Mr

set_option maxHeartbeats 2000000
/-! Mr: texts: +, str, join, signs, parts, f-strings, len -/
namespace Mr
open PySem PySem.Spec PyProof.Rows L2
open Evl (Ex ex_l ex_t)
/-- how long texts may be -/
def slim : Nat := 4000000
theorem slim_ok {n : Nat} (h : n ≤ slim) : n ≤ sizeLine := Nat.le_trans h (by decide)
def stOf : W → Option Str
  | .d (.str x) => some x
  | _ => none
def strsOf : List PyData → Option (List Str)
  | [] => some []
  | .str x :: ds => (strsOf ds).bind fun xs => some (x :: xs)
  | _ :: _ => none
def oAddS : O2 := fun a b S => (stOf a).bind fun x => (stOf b).bind fun y => if x.length + y.length ≤ slim then some (.d (.str (x ++ y)), S) else none
def oStr : On := on1 fun a S => (inOf a).bind fun i => if i.natAbs.log2 < 1920 then some (.d (.str (toString i)), S) else none
def joinFit (x : Str) (ys : List Str) : Bool := decide ((ys.map (·.length)).sum + ys.length * x.length ≤ slim)
def oJoin : O2 := fun a b S => (stOf a).bind fun x => (sqOf b S).bind fun ds => (strsOf ds).bind fun ys => if joinFit x ys = true then some (.d (.str (Str.join x ys)), S) else none
def oIxS : O2 := fun a b S => (stOf a).bind fun x => (inOf b).bind fun i => if x.length ≤ slim then (atI x.cps.toList i).bind fun c => some (.d (.str ⟨#[c]⟩), S) else none
def oLenS : On := on1 fun a S => (stOf a).bind fun x => if x.length ≤ slim then some (.d (.int (x.length : Nat)), S) else none
def mSlS (a : M) (lo hi : Option M) : M := fun e S => (a e S).bind fun p => (partOf lo e p.2).bind fun l => (partOf hi e l.2).bind fun h => (stOf p.1).bind fun z => if z.length ≤ slim then some (.d (.str (cutS z l.1 h.1)), h.2) else none
def mFmt (m : M) : M := fun e S => (m e S).bind fun p => match p.1 with
  | .d (.str y) => if y.length ≤ slim then some (.d (.str y), p.2) else none
  | .d (.int i) => if i.natAbs.log2 < 1920 then some (.d (.str (toString i)), p.2) else none
  | _ => none
def mJs : List M → Str → M
  | [], acc => fun _ S => some (.d (.str acc), S)
  | m :: ms, acc => fun e S => (m e S).bind fun p => (stOf p.1).bind fun y => if (acc ++ y).length ≤ slim then mJs ms (acc ++ y) e p.2 else none
section
variable {X : Cx} {F H : Hp} {μ : List Addr} {S : Sto}
theorem st_rel {a : W} {x : V} {z : Str} (r : WRel X.K F μ a x) (e : stOf a = some z) : x = .str z := by
  unfold stOf at e
  split at e
  · cases e; exact dz_str r
  · cases e
theorem strs_of : ∀ {ds : List PyData} {ys : List Str}, strsOf ds = some ys → ds = ys.map PyData.str
  | [], _, h => by cases h; rfl
  | .str x :: ds, _, h => by
    obtain ⟨xs, e1, e2⟩ := bindS h
    cases e2
    rw [strs_of e1]; rfl
  | .none :: _, _, h => by cases h
  | .int _ :: _, _, h => by cases h
  | .bool _ :: _, _, h => by cases h
  | .list _ :: _, _, h => by cases h
  | .tuple _ :: _, _, h => by cases h
  | .dict _ :: _, _, h => by cases h
theorem strsOf_map (ys : List Str) : strsOf (ys.map PyData.str) = some ys := by
  induction ys with
  | nil => rfl
  | cons y ys ih => rw [List.map_cons, strsOf, ih]; rfl
theorem dza_strs {K : PySem.W.Frag} {F : Hp} : ∀ {vs : List V} {ys : List Str}, DzAll K F vs (ys.map PyData.str) → vs = ys.map V.str
  | _, [], h => by cases h; rfl
  | _, y :: ys, h => by
    cases h with
    | cons h1 h2 => rw [dz_str h1, dza_strs h2]; rfl
theorem bo_addS : BOp X (binaryOp .Add) oAddS := ⟨_, op_add_str, fun F μ S H x y a b c S' Q d ra rb e q => by
  obtain ⟨i, e1, e⟩ := bindS e
  obtain ⟨j, e2, e⟩ := bindS e
  by_cases hc : i.length + j.length ≤ slim
  · rw [if_pos hc] at e
    cases e
    exact ⟨i, j, st_rel ra e1, st_rel rb e2, slim_ok hc, q F μ H _ .refl d (.str _)⟩
  · rw [if_neg hc] at e; cases e⟩
theorem co_str : COp X (.type "str") oStr := co1 call_str_int fun F μ S H x a c S' Q d ra e q => by
  obtain ⟨i, e1, e⟩ := bindS e
  by_cases hc : i.natAbs.log2 < 1920
  · rw [if_pos hc] at e
    cases e
    rw [in_rel ra e1]
    exact ⟨i, rfl, hc, q F μ H _ .refl d (.str _)⟩
  · rw [if_neg hc] at e; cases e
theorem io_str : IOp X oIxS := ⟨_, ix_str, fun F μ S H x y a b c S' Q d ra rb e q => by
  obtain ⟨z, e1, e⟩ := bindS e
  obtain ⟨i, e2, e⟩ := bindS e
  by_cases hc : z.length ≤ slim
  · rw [if_pos hc] at e
    obtain ⟨k, e3, e⟩ := bindS e
    cases e
    exact ⟨z, i, k, st_rel ra e1, in_rel rb e2, slim_ok hc, e3, q F μ H _ .refl d (.str _)⟩
  · rw [if_neg hc] at e; cases e⟩
theorem co_lenS : COp X (.builtin "len") oLenS := co1 call_len fun F μ S H x a c S' Q d ra e q => by
  obtain ⟨z, e1, e⟩ := bindS e
  by_cases hc : z.length ≤ slim
  · rw [if_pos hc] at e
    cases e
    rw [st_rel ra e1]
    exact ⟨_, z.length, rfl, (show z.length ≤ sizeLine ∧ z.length = z.length from ⟨slim_ok hc, rfl⟩), q F μ H _ .refl d (.int _)⟩
  · rw [if_neg hc] at e; cases e
end
section
variable {X : Cx} {a b o e : Expr} {es : List Expr} {ma mb mo m : M} {mr : MA} {pos apos : Pos}
/-- a text's method of one argument -/
theorem me_m1 {id : String} {name : Str} {r : V → List V → Hp → VK → Prop} {op : O2} (slot : Slot "str" name id) (ty : typeOf (.builtin id) = pure (.type "method_descriptor")) (rule : MtR X id r)
    (hst : ∀ a b S c, op a b S = some c → ∃ z, stOf a = some z) (hD : OpD X.prog X.w X.K op (fun x y H Q => r x [y] H Q))
    (ho : PE X o (Cx.tE X mo)) (he : PE X e (Cx.tE X m))
    (hs : starEach [e] X.env = [(false, eval e X.env)] := by rfl) (hbase : attributeBase o name X.env (eval o X.env) = eval o X.env := by rfl) (hline : (apos.endLine == pos.line) = true := by rfl) :
    PE X (.Call (.Attribute o name apos) [e] [] pos) (Cx.tE X (mOp op mo m)) := by
  refine me_of (pe_m1 slot ty rule ho he hs hbase hline) fun σ H Q F μ S env x S' d re e q => ?_
  obtain ⟨⟨x1, S1⟩, e1, e⟩ := bindS e
  obtain ⟨⟨x2, S2⟩, e2, e⟩ := bindS e
  obtain ⟨z, hz⟩ := hst _ _ _ _ e
  refine useM e1 d re fun F1 μ1 H1 v1 g1 d1 re1 r1 => ⟨⟨z, st_rel r1 hz⟩, useM e2 d1 re1 fun F2 μ2 H2 v2 g2 d2 re2 r2 => ?_⟩
  exact hD F2 μ2 S2 H2 v1 v2 x1 x2 x S' Q d2 (r1.gr g2) r2 e fun F3 μ3 H3 v3 g3 d3 r3 => q F3 μ3 H3 v3 ((g1.trans g2).trans g3) d3 r3
theorem opd_join : OpD X.prog X.w X.K oJoin (fun x y H Q => ∃ a p, ∃ ys : List Str, x = .str a ∧ [y] = [V.ref p] ∧ (SqL X.K H p (ys.map V.str) ∨ SqT X.K H p (ys.map V.str)) ∧
    (ys.map (·.length)).sum + ys.length * a.length ≤ 16777216 ∧ Q (.str (Txt.join a ys)) H) := fun F μ S H x y a b c S' Q d ra rb e q => by
  obtain ⟨z, e1, e⟩ := bindS e
  obtain ⟨ds, e2, e⟩ := bindS e
  obtain ⟨ys, e3, e⟩ := bindS e
  by_cases hc : joinFit z ys = true
  · rw [if_pos hc] at e
    cases e
    obtain ⟨p, xs, rfl, h1, h2⟩ := sq_rel d rb e2
    rw [strs_of e3] at h2
    rw [dza_strs h2] at h1
    refine ⟨z, p, ys, st_rel ra e1, rfl, h1, Nat.le_trans (of_decide_eq_true hc) (by decide), ?_⟩
    rw [TL.join_eq]
    exact q F μ H _ .refl d (.str _)
  · rw [if_neg hc] at e; cases e
theorem me_join (ho : PE X o (Cx.tE X mo)) (he : PE X e (Cx.tE X m))
    (hs : starEach [e] X.env = [(false, eval e X.env)] := by rfl) (hbase : attributeBase o "join" X.env (eval o X.env) = eval o X.env := by rfl) (hline : (apos.endLine == pos.line) = true := by rfl) :
    PE X (.Call (.Attribute o "join" apos) [e] [] pos) (Cx.tE X (mOp oJoin mo m)) :=
  me_m1 PySem.F.slot_str_join PySem.F.type_str_join mt_join (fun a b S c h => by obtain ⟨z, e1, _⟩ := bindS h; exact ⟨z, e1⟩) opd_join ho he hs hbase hline
theorem me_slS {lo hi : Option Expr} {ml mh : Option M} {p2 : Pos} (he : PE X e (Cx.tE X m)) (hl : PO X lo (tO X.prog X.w X.K ml)) (hu : PO X hi (tO X.prog X.w X.K mh)) : PE X (.Subscript e (.Slice lo hi none p2) pos) (Cx.tE X (mSlS m ml mh)) :=
  me_of (pe_slice sl_str he hl hu) fun σ H Q F μ S env x S' d re e q => by
  obtain ⟨⟨a, S1⟩, e1, e⟩ := bindS e
  obtain ⟨⟨l, S2⟩, e2, e⟩ := bindS e
  obtain ⟨⟨h, S3⟩, e3, e⟩ := bindS e
  obtain ⟨z, e4, e⟩ := bindS e
  refine useM e1 d re fun F1 μ1 H1 v1 g1 d1 re1 r1 => useO (X := X) e2 d1 re1 fun F2 μ2 H2 g2 d2 re2 => useO (X := X) e3 d2 re2 fun F3 μ3 H3 g3 d3 re3 => ?_
  by_cases hc : z.length ≤ slim
  · rw [if_pos hc] at e
    cases e
    exact ⟨z, st_rel r1 e4, slim_ok hc, q F3 μ3 H3 _ ((g1.trans g2).trans g3) d3 (.str _)⟩
  · rw [if_neg hc] at e; cases e
end
end Mr

set_option maxHeartbeats 2000000
/-! Mr: texts split, cut, read as ints; list.count; defs as values -/
namespace Mr
open PySem PySem.Spec PyProof.Rows L2
open Evl (Ex ex_l ex_t)
/-! list.count of data -/
def rCountD (K : PySem.W.Frag) : V → List V → Hp → VK → Prop := fun x xs H Q => ∃ (a : Addr) (y : V) (d : PyData) (ds : List PyData), x = V.ref a ∧ xs = [y] ∧ Dp K H (V.ref a) (.list ds) ∧ Dp K H y d ∧
  SeqAt.shaped (.list ds) = true ∧ SeqAt.shaped d = true ∧ Q (.int ((ds.countP fun z => PyData.eqv z d) : Nat)) H
section
variable {X : Cx}
theorem mt_countD (hu : X.A.units + 65 < cLine) : MtR X "list.count" (rCountD X.K) := by
  intro pins s σ H x xs v us Q I rx rxs h
  obtain ⟨a, y, d, ds, rfl, rfl, hl, hy, sl, sd, q⟩ := h
  cases rx
  cases rxs with
  | cons ry rt =>
    rename_i uy ut
    cases rt
    obtain ⟨bs, r1⟩ := Dp.reads I d y uy hy ry
    have hxs : PyData.canLayAll0 ds = true := SeqAt.canLay_of_shaped sl
    have hroom : X.A.units + 1 + min (PyData.depthAll ds) d.depth < cLine := room_in_shaped sd hu
    cases hl with
    | lst hs ha =>
      obtain ⟨its, rv, ⟨⟨cls, dd, data, sls⟩, n, ho, hc, hdn, hdt⟩, hlen⟩ := I.list hs
      simp only at hc hdt
      subst hc hdt
      obtain ⟨as, h4⟩ := Dp.readsAll I ds _ its ha rv
      have hmap : its.map (SeqAt.readOf s.heap) = ds := SeqAt.readsAll_map ds its as hxs h4
      refine call_meets PySem.F.slot_list_count ⟨_, ho, rfl⟩ PySem.F.entry_list_count (PySem.F.args_list_count_2 _ _)
        (SeqAt.list_countAt a its.toArray n dd sls uy (fun u => PyData.eqv (SeqAt.readOf s.heap u) d)) ⟨ho, SeqAt.items_eqAt (vs := its.toArray) (show ReadsAll s.heap its.toArray.toList ds as from h4) r1 hxs (SeqAt.canLay_of_shaped sd) hroom, ?_⟩
      have ec : its.toArray.toList.countP (fun u => PyData.eqv (SeqAt.readOf s.heap u) d) = ds.countP fun z => PyData.eqv z d := by
        rw [← hmap, List.countP_map, List.toList_toArray]
        rfl
      refine ⟨.int ((ds.countP fun z => PyData.eqv z d) : Nat), H, I.tok _, ⟨s.toks, ?_⟩, q⟩
      show Value.int ((its.toArray.toList.countP (fun u => PyData.eqv (SeqAt.readOf s.heap u) d) : Nat) : Int) s.toks = Value.int ((ds.countP fun z => PyData.eqv z d : Nat) : Int) s.toks
      rw [ec]
def omCount : Om := fun a ws S => match ws with
  | [v] => (lsOf a S).bind fun ds => (pyOf v S).bind fun d => if SeqAt.shaped (.list ds) = true ∧ SeqAt.shaped d = true then some (.d (.int ((ds.countP fun z => PyData.eqv z d : Nat) : Int)), S) else none
  | _ => none
theorem mt_countR {k : Nat} (hr : Room k X.A) : MtR X "list.count" (rCountD X.K) := mt_countD (by have := hr.un; omega)
theorem md_countR {k : Nat} (hr : Room k X.A) : MtD X.prog X.w X.K omCount "list" (rCountD X.K) := fun F μ S H x xs a as c S' Q d ra rs e q => by
  unfold omCount at e
  split at e
  · rename_i v
    obtain ⟨ds, e1, e⟩ := bindS e
    obtain ⟨dv, e2, e⟩ := bindS e
    cases rs with
    | cons r1 r2 =>
      cases r2
      by_cases hc : SeqAt.shaped (.list ds) = true ∧ SeqAt.shaped dv = true
      · rw [if_pos hc] at e
        cases e
        obtain ⟨p, ys, rfl, h1, h2⟩ := ls_rel d ra e1
        exact ⟨p, _, dv, ds, rfl, rfl, .lst h1 (h2.dp d.ex), py_rel d r1 e2, hc.1, hc.2, q F μ H _ .refl d (.int _)⟩
      · rw [if_neg hc] at e; cases e
  · cases e
/-! texts' methods -/
theorem laid_partsF {pins : List (Addr × Obj)} {σ : L2.St} {H : Hp} {s : Shared} {Q : VK} {x y z : Str} {t u v : Tok} {k : Nat} (I : L2.Inv X pins σ H s) (h : ∀ (p : Addr) (o : Obj), H p = none → o.dict = none → Q (.ref p) (upd H p (.frz o (.tup [.str x, .str y, .str z])))) :
    EP X pins σ Q (.ref s.heap.objs.size) { s with toks := k, heap := s.heap.push { cls := .type "tuple", data := .seq [Value.str x t, .str y u, .str z v].toArray } } := by
  have hp := I.hok.fresh (Nat.le_refl _)
  refine ⟨.ref s.heap.objs.size, _, I.laid (t' := k) (o := .frz { cls := .type "tuple", data := .seq [Value.str x t, .str y u, .str z v].toArray } (.tup [.str x, .str y, .str z])) (fun b u q => Heap.get?_push_of_some _ q) (Nat.le_refl _) ?_, rfl, h _ _ hp rfl⟩
  exact ⟨Heap.get?_push_size _ rfl, by show 3 ≤ sizeLine; decide, [Value.str x t, .str y u, .str z v], .cons ⟨t, rfl⟩ (.cons ⟨u, rfl⟩ (.cons ⟨v, rfl⟩ .nil)), IsTup.new _ _⟩
theorem mt_partitionF : MtR X "str.partition" (fun x xs H Q => ∃ a b, x = .str a ∧ xs = [.str b] ∧ (b.length == 0) = false ∧ a.length ≤ sizeLine ∧
    ∀ (p : Addr) (o : Obj), H p = none → o.dict = none → Q (.ref p) (upd H p (.frz o (.tup [.str (Txt.partition a b).1, .str (Txt.partition a b).2.1, .str (Txt.partition a b).2.2])))) := by
  intro pins s σ H x xs v us Q I rx rs h
  obtain ⟨a, b, rfl, rfl, hb, hz, h⟩ := h
  obtain ⟨t, rfl⟩ := rx
  cases rs with
  | cons r1 rs =>
    cases rs
    obtain ⟨u, rfl⟩ := r1
    refine call_meets PySem.F.slot_str_partition (typeIs_str _ _ _) PySem.F.entry_str_partition (PySem.F.args_str_partition_2 _ _) (meets_str_partition a b t u hb hz) ?_
    unfold Txt.partition at h
    revert h
    cases Builtin.Str.occurrences a b 0 a.length 1 with
    | nil => intro h; exact laid_partsF I h
    | cons i r => intro h; exact laid_partsF I h
end
def oPartition : O2 := fun a b S => (stOf a).bind fun x => (stOf b).bind fun y => if (y.length == 0) = false ∧ x.length ≤ slim then some (.d (.tuple [.str (Txt.partition x y).1, .str (Txt.partition x y).2.1, .str (Txt.partition x y).2.2]), S) else none
def oSplit : O2 := fun a b S => (stOf a).bind fun x => (stOf b).bind fun y => if (y.length == 0) = false ∧ x.length ≤ slim then some (.d (.list ((Txt.split x y).map PyData.str)), S) else none
def oStarts : O2 := fun a b S => (stOf a).bind fun x => (stOf b).bind fun y => some (.d (.bool (Txt.startswith x y)), S)
def oIsDec : O1 := fun a S => (stOf a).bind fun x => some (.d (.bool (Txt.isdecimal x)), S)
def oIntS : On := on1 fun a S => (stOf a).bind fun x => if x.length ≤ 640 then (PySem.intText? x).bind fun n => some (.d (.int n), S) else none
section
variable {X : Cx} {a b o e : Expr} {es : List Expr} {ma mb mo m : M} {mr : MA} {pos apos : Pos}
theorem st_some {a b : W} {S : Sto} {c : W × Sto} {f : Str → Option (W × Sto)} (h : (stOf a).bind f = some c) : ∃ z, stOf a = some z := by
  obtain ⟨z, e, _⟩ := bindS h
  exact ⟨z, e⟩
theorem me_partition (ho : PE X o (Cx.tE X mo)) (he : PE X e (Cx.tE X m))
    (hs : starEach [e] X.env = [(false, eval e X.env)] := by rfl) (hbase : attributeBase o "partition" X.env (eval o X.env) = eval o X.env := by rfl) (hline : (apos.endLine == pos.line) = true := by rfl) :
    PE X (.Call (.Attribute o "partition" apos) [e] [] pos) (Cx.tE X (mOp oPartition mo m)) :=
  me_m1 PySem.F.slot_str_partition PySem.F.type_str_partition mt_partitionF (fun a b S c h => st_some (b := b) (S := S) h) (fun F μ S H x y a b c S' Q d ra rb e q => by
    obtain ⟨z, e1, e⟩ := bindS e
    obtain ⟨z', e2, e⟩ := bindS e
    by_cases hc : (z'.length == 0) = false ∧ z.length ≤ slim
    · rw [if_pos hc] at e
      cases e
      refine ⟨z, z', st_rel ra e1, by rw [st_rel rb e2], hc.1, slim_ok hc.2, fun p o hp ho => ?_⟩
      obtain ⟨d2, g2⟩ := d.new hp (.frz o (.tup [.str (Txt.partition z z').1, .str (Txt.partition z z').2.1, .str (Txt.partition z z').2.2]))
      exact q _ _ _ _ g2 d2 (dz_new (d.fresh hp).1 ho (.cons (.str _) (.cons (.str _) (.cons (.str _) .nil))))
    · rw [if_neg hc] at e; cases e) ho he hs hbase hline
theorem dza_ofStrs {K : PySem.W.Frag} {F : Hp} : ∀ ys : List Str, DzAll K F (ys.map V.str) (ys.map PyData.str)
  | [] => .nil
  | y :: ys => .cons (.str y) (dza_ofStrs ys)
theorem me_split (ho : PE X o (Cx.tE X mo)) (he : PE X e (Cx.tE X m))
    (hs : starEach [e] X.env = [(false, eval e X.env)] := by rfl) (hbase : attributeBase o "split" X.env (eval o X.env) = eval o X.env := by rfl) (hline : (apos.endLine == pos.line) = true := by rfl) :
    PE X (.Call (.Attribute o "split" apos) [e] [] pos) (Cx.tE X (mOp oSplit mo m)) :=
  me_m1 PySem.F.slot_str_split PySem.F.type_str_split mt_split (fun a b S c h => st_some (b := b) (S := S) h) (fun F μ S H x y a b c S' Q d ra rb e q => by
    obtain ⟨z, e1, e⟩ := bindS e
    obtain ⟨z', e2, e⟩ := bindS e
    by_cases hc : (z'.length == 0) = false ∧ z.length ≤ slim
    · rw [if_pos hc] at e
      cases e
      refine ⟨z, z', st_rel ra e1, by rw [st_rel rb e2], hc.1, Nat.le_trans (Nat.add_le_add_right hc.2 2) (by decide), fun p hp => ?_⟩
      obtain ⟨d2, g2⟩ := d.new hp (.lst ((Txt.split z z').map V.str))
      exact q _ _ _ _ g2 d2 (.lst upd_same (dza_ofStrs _))
    · rw [if_neg hc] at e; cases e) ho he hs hbase hline
theorem me_starts (ho : PE X o (Cx.tE X mo)) (he : PE X e (Cx.tE X m))
    (hs : starEach [e] X.env = [(false, eval e X.env)] := by rfl) (hbase : attributeBase o "startswith" X.env (eval o X.env) = eval o X.env := by rfl) (hline : (apos.endLine == pos.line) = true := by rfl) :
    PE X (.Call (.Attribute o "startswith" apos) [e] [] pos) (Cx.tE X (mOp oStarts mo m)) :=
  me_m1 PySem.F.slot_str_startswith PySem.F.type_str_startswith mt_startswith (fun a b S c h => st_some (b := b) (S := S) h) (fun F μ S H x y a b c S' Q d ra rb e q => by
    obtain ⟨z, e1, e⟩ := bindS e
    obtain ⟨z', e2, e⟩ := bindS e
    cases e
    exact ⟨z, z', st_rel ra e1, by rw [st_rel rb e2], q F μ H _ .refl d (.bl _)⟩) ho he hs hbase hline
theorem me_isDec (ho : PE X o (Cx.tE X mo)) (hbase : attributeBase o "isdecimal" X.env (eval o X.env) = eval o X.env := by rfl) (hline : (apos.endLine == pos.line) = true := by rfl) :
    PE X (.Call (.Attribute o "isdecimal" apos) [] [] pos) (Cx.tE X (mUn oIsDec mo)) := by
  refine me_of (pe_m0 PySem.F.slot_str_isdecimal PySem.F.type_str_isdecimal mt_isdecimal ho hbase hline) fun σ H Q F μ S env x S' d re e q => ?_
  obtain ⟨⟨x1, S1⟩, e1, e⟩ := bindS e
  obtain ⟨z, e2, e⟩ := bindS e
  cases e
  refine useM e1 d re fun F1 μ1 H1 v1 g1 d1 re1 r1 => ?_
  have := st_rel r1 e2
  subst this
  exact ⟨⟨z, rfl⟩, z, rfl, rfl, trivial, q F1 μ1 H1 _ g1 d1 (.bl _)⟩
theorem co_intS : COp X (.type "int") oIntS := co1 call_int_str fun F μ S H x a c S' Q d ra e q => by
  obtain ⟨z, e1, e⟩ := bindS e
  by_cases hc : z.length ≤ 640
  · rw [if_pos hc] at e
    obtain ⟨n, e2, e⟩ := bindS e
    cases e
    rw [st_rel ra e1]
    exact ⟨z, n, rfl, e2, hc, q F μ H _ .refl d (.int _)⟩
  · rw [if_neg hc] at e; cases e
/-- x not in t -/
def oNotInT : O2 := fun a b S => (pyOf a S).bind fun x => (tpOf b).bind fun ds => if SeqAt.shaped x = true ∧ SeqAt.shaped (.tuple ds) = true then some (.d (.bool (!ds.any fun z => PyData.eqv z x)), S) else none
theorem bop_notInT {k : Nat} (hr : Room k X.A) : BOp X (compareOp .NotIn) oNotInT := ⟨fun x y H Q => ∃ d ds, Dp X.K H x d ∧ Dp X.K H y (.tuple ds) ∧ SeqAt.shaped d = true ∧ SeqAt.shaped (.tuple ds) = true ∧ Q (.bl (!ds.any fun z => PyData.eqv z d)) H, fun pins s σ H x y v u Q I rx ry ⟨d, ds, hd, he, sd, se, q⟩ => by
    obtain ⟨as, r1⟩ := Dp.reads I d x v hd rx
    obtain ⟨bs, r2⟩ := Dp.reads I (.tuple ds) y u he ry
    exact SeqAt.notIn_tuple_reads r2 r1 (SeqAt.canLay_of_shaped se) (SeqAt.canLay_of_shaped sd) (room_in_shaped sd (by have := hr.un; omega)) ⟨.bl _, H, I, rfl, q⟩, fun F μ S H x y a b c S' Q d ra rb e q => by
    obtain ⟨xs, e1, e⟩ := bindS e
    obtain ⟨ds, e2, e⟩ := bindS e
    by_cases hc : SeqAt.shaped xs = true ∧ SeqAt.shaped (.tuple ds) = true
    · rw [if_pos hc] at e
      cases e
      obtain ⟨p, ys, rfl, t1, t2⟩ := tp_rel rb e2
      exact ⟨xs, ds, py_rel d ra e1, .tup (ex_t d.ex t1.1) (t2.dp d.ex), hc.1, hc.2, q F μ H _ .refl d (.bl _)⟩
    · rw [if_neg hc] at e; cases e⟩
def oNotIn2 : O2 := orO oNotIn oNotInT
theorem bo_notIn2 {k : Nat} (hr : Room k X.A) : BOp X (compareOp .NotIn) oNotIn2 := (bo_notIn hr).or (bop_notInT hr)
/-! defs as values -/
def mFn (x : Str) : M := fun _ S => some (.fn x, S)
theorem me_fn {x : Str} {f : Addr} (hg : Gl X x) (hm : X.mg x = some (.ref f)) (hn : PySem.W.nsIn X.K mainGlobals x = some (some (.ref f))) (hd : (x == ("__debug__" : Str)) = false := by decide) : PE X (.Name x pos) (Cx.tE X (mFn x)) :=
  me_of (pe_glob (v := .ref f) hg hm rfl hd) fun σ H Q F μ S env y S' d re e q => by
    cases e
    exact q F μ H _ .refl d ⟨f, rfl, hn⟩
/-- a call of what a slot holds: one of these -/
def mCallV (tb : List (Str × On)) (i : Nat) (t : MA) : M := fun e S => match e[i]? with
  | some (some (.fn x)) => (t e S).bind fun p => (tb.lookup x).bind fun f => f p.1 p.2
  | _ => none
/-- the slots' defs keep their promises -/
inductive TabOk (X : Cx) (k : Nat) : List (Str × On) → Prop
  | nil : TabOk X k []
  | cons {x : Str} {f : On} {a : Addr} {ps : List Str} {j : Nat} {tb : List (Str × On)} (C : Sk.Cal X.prog X.w X.K X.mg X.base j x ps (spM X.prog X.w X.K f)) (hj : j ≤ k) (hm : X.mg x = some (.ref a)) (hn : PySem.W.nsIn X.K mainGlobals x = some (some (.ref a))) (t : TabOk X k tb) : TabOk X k ((x, f) :: tb)
theorem tab_get {k : Nat} {tb : List (Str × On)} (T : TabOk X k tb) {x : Str} {g : On} (hl : tb.lookup x = some g) : ∃ (a : Addr) (ps : List Str) (j : Nat), Sk.Cal X.prog X.w X.K X.mg X.base j x ps (spM X.prog X.w X.K g) ∧ j ≤ k ∧ X.mg x = some (.ref a) ∧ PySem.W.nsIn X.K mainGlobals x = some (some (.ref a)) := by
  induction T with
  | nil => cases hl
  | @cons y h a ps j tb C hj hm hn t ih =>
    by_cases hy : x = y
    · subst hy
      rw [List.lookup_cons, beq_self_eq_true] at hl
      cases hl
      exact ⟨a, ps, j, C, hj, hm, hn⟩
    · rw [List.lookup_cons, beq_eq_false_iff_ne.mpr hy] at hl
      exact ih hl
theorem me_callV {k : Nat} {tb : List (Str × On)} {x : Str} {i : Nat} {p : Pos} (T : TabOk X k tb) (hr : Room k X.A) (hN : X.N[i]? = some x) (hv : Vis X.env.scope x) (ha : PA X (e :: es) (Cx.tA X mr))
    (hdb : (x == ("__debug__" : Str)) = false := by decide) (hcd : (x == ("__classdict__" : Str)) = false := by decide)
    (he : starEach (e :: es) X.env = (false, eval e X.env) :: starEach es X.env := by rfl) (hpl : (backTo pos (starEach es X.env)).any (·.1) = false := by rfl) : PE X (.Call (.Name x p) (e :: es) [] pos) (Cx.tE X (mCallV tb i mr)) := by
  have H0 : PE X (.Call (.Name x p) (e :: es) [] pos) (fun σ H Q => ∃ (y : Str) (g : On) (f : Addr), tb.lookup y = some g ∧ PySem.W.nsIn X.K mainGlobals y = some (some (.ref f)) ∧ tCallL i f (spM X.prog X.w X.K g) [] (fun _ _ _ => False) (Cx.tA X mr) σ H Q) := by
    constructor
    intro pins s σ H Q I ⟨y, g, f, hl, hn, h⟩
    obtain ⟨a, ps, j, C, hj, hm, hn'⟩ := tab_get T hl
    rw [hn] at hn'
    cases hn'
    obtain ⟨f', fd, F, hm', hk, hb⟩ := C.ex
    rw [hm] at hm'
    cases hm'
    exact (pe_callL (CX := CX0) (dvs := []) (ds := []) (E := fun _ _ _ => False) F (hr.mono hj) hN hv hk hb .nil pass0 ha hdb hcd he hpl).run pins s σ H Q I h
  refine me_of H0 fun σ H Q F μ S env r S' d re e q => ?_
  unfold mCallV at e
  split at e
  · rename_i y hy
    obtain ⟨⟨ws, S1⟩, e1, e⟩ := bindS e
    obtain ⟨g, e2, e⟩ := bindS e
    obtain ⟨v, h1, f, rfl, h2⟩ := re.get i _ hy
    refine ⟨y, g, f, e2, h2, h1, useA e1 d re fun F1 μ1 H1 vs g1 d1 re1 r1 => ?_⟩
    rw [List.append_nil]
    exact ⟨F1, μ1, S1, ws, r, S', d1, r1, e, fun F2 μ2 H2 v2 g2 d2 r2 => q F2 μ2 H2 v2 (g1.trans g2) d2 r2⟩
  · cases e
end
end Mr

set_option maxHeartbeats 1000000
namespace Pg
open PySem PySem.Spec PyProof.Rows L2 Mr
def m_is_integer (N : Nat) : On := fnM 1 1 (sRet (mAnd (mUn (oIsi .int) (mVar 0)) (mNot (mUn (oIsi .bool) (mVar 0)))))
def m_is_pair (N : Nat) : On := fnM 1 1 (sRet (mAnd (mUn (oIsi .tuple) (mVar 0)) (mOp oEq (mCall oLen (mCons (mVar 0) mNil)) (mC (.int 2)))))
def m_is_offset (N : Nat) : On := fnM 1 1 (sRet (mAnd (mCall (m_is_pair N) (mCons (mVar 0) mNil)) (mAnd (mCall (m_is_integer N) (mCons (mOp oIx (mVar 0) (mC (.int 0))) mNil)) (mCall (m_is_integer N) (mCons (mOp oIx (mVar 0) (mC (.int 1))) mNil)))))
def m_is_place (N : Nat) : On := fnM 2 2 (sRet (mAnd (mCall (m_is_integer N) (mCons (mVar 0) mNil)) (mChain oLe oLt (mC (.int 0)) (mVar 0) (mVar 1))))
def m_is_ascending (N : Nat) : On := fnM 1 2 (sRet (mCall oAll (mCons (mLc (miRng1 (mCons (mOp oSub (mCall oLen (mCons (mVar 0) mNil)) (mC (.int 1))) mNil)) (.nm 1) cYes (mOp oLt (mOp oIx (mVar 0) (mVar 1)) (mOp oIx (mVar 0) (mOp oAdd (mVar 1) (mC (.int 1)))))) mNil)))
def m_is_table (N : Nat) : On := fnM 1 1 (sRet (mAnd (mCall (m_is_pair N) (mCons (mVar 0) mNil)) (mAnd (mCall (m_is_offset N) (mCons (mOp oIx (mVar 0) (mC (.int 0))) mNil)) (mCall (m_is_offset N) (mCons (mOp oIx (mVar 0) (mC (.int 1))) mNil)))))
def m_check_table (N : Nat) : On := fnM 1 1 (sIf (cNot (cB (mCall (m_is_table N) (mCons (mVar 0) mNil)))) sNever sNext)
def m_determinant (N : Nat) : On := fnM 1 5 (sSeq (sDrop (mCall (m_check_table N) (mCons (mVar 0) mNil)))
    (sSeq (sAsg (.tp [(.tp [(.nm 1), (.nm 2)]), (.tp [(.nm 3), (.nm 4)])]) (mVar 0))
    (sRet (mOp oSub (mOp oMul (mVar 1) (mVar 4)) (mOp oMul (mVar 2) (mVar 3))))))
def m_trace (N : Nat) : On := fnM 1 1 (sSeq (sDrop (mCall (m_check_table N) (mCons (mVar 0) mNil)))
    (sRet (mOp oAdd (mOp oIx (mOp oIx (mVar 0) (mC (.int 0))) (mC (.int 0))) (mOp oIx (mOp oIx (mVar 0) (mC (.int 1))) (mC (.int 1))))))
def m_is_growing (N : Nat) : On := fnM 1 2 (sSeq (sIf (cNot (cB (mCall (m_is_table N) (mCons (mVar 0) mNil)))) (sRet (mC (.bool false))) sNext)
    (sSeq (sSet 1 (mCall (m_determinant N) (mCons (mVar 0) mNil)))
    (sSeq (sIf (cB (mOp oGt (mVar 1) (mC (.int 0)))) (sRet (mAnd (mOp oGe (mVar 1) (mC (.int 2))) (mChain oLe oLe (mUn oNeg (mVar 1)) (mCall (m_trace N) (mCons (mVar 0) mNil)) (mVar 1)))) sNext)
    (sRet (mAnd (mOp oLe (mVar 1) (mUn oNeg (mC (.int 2)))) (mChain oLe oLe (mOp oAdd (mVar 1) (mC (.int 2))) (mCall (m_trace N) (mCons (mVar 0) mNil)) (mOp oSub (mUn oNeg (mVar 1)) (mC (.int 2)))))))))
def m_is_copy (N : Nat) : On := fnM 2 2 (sRet (mAnd (mCall (m_is_pair N) (mCons (mVar 0) mNil)) (mAnd (mCall (m_is_offset N) (mCons (mOp oIx (mVar 0) (mC (.int 0))) mNil)) (mCall (m_is_place N) (mCons (mOp oIx (mVar 0) (mC (.int 1))) (mCons (mVar 1) mNil))))))
def m_is_state (N : Nat) : On := fnM 2 3 (sSeq (sIf (cOr (cNot (cB (mUn (oIsi .tuple) (mVar 0)))) (cB (mOp oEq (mCall oLen (mCons (mVar 0) mNil)) (mC (.int 0))))) (sRet (mC (.bool false))) sNext)
    (sRet (mAnd (mCall oAll (mCons (mLc (miSeq (mVar 0)) (.nm 2) cYes (mCall (m_is_copy N) (mCons (mVar 2) (mCons (mVar 1) mNil)))) mNil)) (mCall (m_is_ascending N) (mCons (mVar 0) mNil)))))
def m_is_kit (N : Nat) : On := fnM 1 3 (sSeq (sIf (cOr (cNot (cB (mCall (m_is_pair N) (mCons (mVar 0) mNil)))) (cNot (cB (mCall (m_is_growing N) (mCons (mOp oIx (mVar 0) (mC (.int 0))) mNil))))) (sRet (mC (.bool false))) sNext)
    (sSeq (sSet 1 (mOp oIx (mVar 0) (mC (.int 1))))
    (sSeq (sIf (cOr (cNot (cB (mUn (oIsi .tuple) (mVar 1)))) (cB (mOp oEq (mCall oLen (mCons (mVar 1) mNil)) (mC (.int 0))))) (sRet (mC (.bool false))) sNext)
    (sRet (mCall oAll (mCons (mLc (miSeq (mVar 1)) (.nm 2) cYes (mCall (m_is_state N) (mCons (mVar 2) (mCons (mCall oLen (mCons (mVar 1) mNil)) mNil)))) mNil))))))
def m_law_deck (N : Nat) : On := fnM 2 4 (sSeq (sSet 2 (mC (.int 0)))
    (sSeq (sIf (cB (mOp oLt (mVar 1) (mCall oLen (mCons (mVar 0) mNil)))) (sSet 2 (mOp oIx (mVar 0) (mVar 1))) sNext)
    (sSeq (sSet 3 (mOp oMod (mCall oInt (mCons (mOp oAdd (mOp oAdd (mVar 2) (mOp oMul (mC (.int 7919)) (mVar 1))) (mC (.int 104729))) mNil)) (mC (.int 2305843009213693951))))
    (sSeq (sSet 3 (mOp oMod (mCall oInt (mCons (mOp oAdd (mOp oAdd (mOp oMul (mOp oMul (mVar 3) (mVar 3)) (mVar 3)) (mOp oMul (mC (.int 31)) (mVar 1))) (mC (.int 7))) mNil)) (mC (.int 2305843009213693951))))
    (sSeq (sIf (cB (mOp oLt (mVar 2) (mOp oPow (mC (.int 10)) (mC (.int 18))))) (sRet (mLstC (mCons (mC (.int 0)) (mCons (mVar 3) mNil)))) sNext)
    (sRet (mLstC (mCons (mOp oSub (mVar 2) (mOp oPow (mC (.int 10)) (mC (.int 18)))) (mCons (mVar 3) mNil)))))))))
def m_law_take (N : Nat) : On := fnM 2 3 (sSeq (sIf (cB (mOp oGt (mOp oIx (mVar 0) (mC (.int 0))) (mC (.int 0)))) (sSeq (sSet 2 (mOp oMod (mCall oInt (mCons (mOp oIx (mVar 0) (mC (.int 0))) mNil)) (mVar 1)))
    (sSeq (sPut putU (mVar 0) (mC (.int 0)) (mOp oDiv (mOp oIx (mVar 0) (mC (.int 0))) (mVar 1)))
    (sRet (mVar 2)))) sNext)
    (sSeq (sPut putU (mVar 0) (mC (.int 1)) (mOp oMod (mCall oInt (mCons (mOp oAdd (mOp oMul (mOp oIx (mVar 0) (mC (.int 1))) (mC (.int 6364136223846793005))) (mC (.int 1442695040888963407))) mNil)) (mOp oPow (mC (.int 2)) (mC (.int 64)))))
    (sRet (mOp oMod (mOp oDiv (mOp oIx (mVar 0) (mC (.int 1))) (mOp oPow (mC (.int 2)) (mC (.int 33)))) (mVar 1)))))
def m_law_same (N : Nat) : Nat → On
  | 0 => fun _ _ => none
  | n + 1 => fnM 2 3 (sSeq (sIf (cB (mUn (oIsi2 .tuple .list) (mVar 1))) (sSeq (sIf (cOr (cB (mOp oNe (mUn (oIsi .tuple) (mVar 0)) (mUn (oIsi .tuple) (mVar 1)))) (cB (mOp oNe (mUn (oIsi .list) (mVar 0)) (mUn (oIsi .list) (mVar 1))))) (sRet (mC (.bool false))) sNext)
    (sSeq (sIf (cB (mOp oNe (mCall oLen (mCons (mVar 0) mNil)) (mCall oLen (mCons (mVar 1) mNil)))) (sRet (mC (.bool false))) sNext)
    (sRet (mOp oEq (mLc (miRng1 (mCons (mCall oLen (mCons (mVar 1) mNil)) mNil)) (.nm 2) (cNot (cB (mCall (m_law_same N n) (mCons (mOp oIx (mVar 0) (mVar 2)) (mCons (mOp oIx (mVar 1) (mVar 2)) mNil))))) (mVar 2)) (mLst mNil))))) sNext)
    (sSeq (sIf (cB (mOp oIs (mVar 1) (mC .none))) (sRet (mOp oIs (mVar 0) (mC .none))) sNext)
    (sSeq (sIf (cB (mUn (oIsi .str) (mVar 1))) (sRet (mAnd (mUn (oIsi .str) (mVar 0)) (mOp oEq (mVar 0) (mVar 1)))) sNext)
    (sSeq (sIf (cOr (cB (mUn (oIsi .bool) (mVar 1))) (cB (mUn (oIsi .bool) (mVar 0)))) (sRet (mAnd (mUn (oIsi .bool) (mVar 1)) (mAnd (mUn (oIsi .bool) (mVar 0)) (mOp oEq (mVar 0) (mVar 1))))) sNext)
    (sRet (mAnd (mUn (oIsi .int) (mVar 0)) (mOp oEq (mVar 0) (mVar 1))))))))
def m_law_det (N : Nat) : On := fnM 1 1 (sRet (mOp oSub (mOp oMul (mOp oIx (mOp oIx (mVar 0) (mC (.int 0))) (mC (.int 0))) (mOp oIx (mOp oIx (mVar 0) (mC (.int 1))) (mC (.int 1)))) (mOp oMul (mOp oIx (mOp oIx (mVar 0) (mC (.int 0))) (mC (.int 1))) (mOp oIx (mOp oIx (mVar 0) (mC (.int 1))) (mC (.int 0))))))
def m_law_growing (N : Nat) : On := fnM 1 3 (sSeq (sPar 1 2 (mCons (mCall (m_law_det N) (mCons (mVar 0) mNil)) (mCons (mOp oAdd (mOp oIx (mOp oIx (mVar 0) (mC (.int 0))) (mC (.int 0))) (mOp oIx (mOp oIx (mVar 0) (mC (.int 1))) (mC (.int 1)))) mNil)))
    (sSeq (sIf (cB (mOp oGt (mVar 1) (mC (.int 0)))) (sRet (mAnd (mOp oGt (mVar 1) (mC (.int 1))) (mOp oLe (mCall oAbs (mCons (mVar 2) mNil)) (mVar 1)))) sNext)
    (sRet (mAnd (mOp oLt (mVar 1) (mUn oNeg (mC (.int 1)))) (mOp oLe (mCall oAbs (mCons (mVar 2) mNil)) (mOp oSub (mUn oNeg (mVar 1)) (mC (.int 2))))))))
def m_law_grid (N : Nat) : On := fnM 1 6 (sSeq (sSet 1 (mLst (mCons (mTup (mCons (mTup (mCons (mC (.int 2)) (mCons (mC (.int 0)) mNil))) (mCons (mTup (mCons (mC (.int 0)) (mCons (mC (.int 2)) mNil))) mNil))) (mCons (mTup (mCons (mTup (mCons (mC (.int 3)) (mCons (mC (.int 0)) mNil))) (mCons (mTup (mCons (mC (.int 0)) (mCons (mC (.int 3)) mNil))) mNil))) (mCons (mTup (mCons (mTup (mCons (mC (.int 1)) (mCons (mUn oNeg (mC (.int 1))) mNil))) (mCons (mTup (mCons (mC (.int 1)) (mCons (mC (.int 1)) mNil))) mNil))) (mCons (mTup (mCons (mTup (mCons (mC (.int 0)) (mCons (mC (.int 2)) mNil))) (mCons (mTup (mCons (mC (.int 1)) (mCons (mC (.int 0)) mNil))) mNil))) (mCons (mTup (mCons (mTup (mCons (mC (.int 0)) (mCons (mUn oNeg (mC (.int 2))) mNil))) (mCons (mTup (mCons (mC (.int 1)) (mCons (mC (.int 1)) mNil))) mNil))) (mCons (mTup (mCons (mTup (mCons (mC (.int 2)) (mCons (mC (.int 0)) mNil))) (mCons (mTup (mCons (mC (.int 0)) (mCons (mUn oNeg (mC (.int 3))) mNil))) mNil))) mNil))))))))
    (sSeq (sSet 1 (mOp oAdd (mVar 1) (mLst (mCons (mTup (mCons (mTup (mCons (mC (.int 0)) (mCons (mUn oNeg (mC (.int 3))) mNil))) (mCons (mTup (mCons (mC (.int 2)) (mCons (mC (.int 0)) mNil))) mNil))) (mCons (mTup (mCons (mTup (mCons (mC (.int 1)) (mCons (mC (.int 1)) mNil))) (mCons (mTup (mCons (mUn oNeg (mC (.int 1))) (mCons (mC (.int 2)) mNil))) mNil))) (mCons (mTup (mCons (mTup (mCons (mC (.int 2)) (mCons (mC (.int 1)) mNil))) (mCons (mTup (mCons (mC (.int 0)) (mCons (mC (.int 2)) mNil))) mNil))) (mCons (mTup (mCons (mTup (mCons (mUn oNeg (mC (.int 1))) (mCons (mUn oNeg (mC (.int 2))) mNil))) (mCons (mTup (mCons (mC (.int 1)) (mCons (mUn oNeg (mC (.int 1))) mNil))) mNil))) (mCons (mTup (mCons (mTup (mCons (mC (.int 0)) (mCons (mC (.int 3)) mNil))) (mCons (mTup (mCons (mC (.int 1)) (mCons (mUn oNeg (mC (.int 1))) mNil))) mNil))) mNil))))))))
    (sSeq (sSet 2 (mOp oIx (mVar 1) (mCall (m_law_take N) (mCons (mVar 0) (mCons (mC (.int 11)) mNil)))))
    (sSeq (sIf (cB (mOp oEq (mCall (m_law_take N) (mCons (mVar 0) (mCons (mC (.int 2)) mNil))) (mC (.int 1)))) (sSeq (sSet 3 (mLc (miRng1 (mCons (mC (.int 4)) mNil)) (.nm 5) cYes (mOp oSub (mCall (m_law_take N) (mCons (mVar 0) (mCons (mC (.int 7)) mNil))) (mC (.int 3)))))
    (sSeq (sSet 4 (mTup (mCons (mTup (mCons (mOp oIx (mVar 3) (mC (.int 0))) (mCons (mOp oIx (mVar 3) (mC (.int 1))) mNil))) (mCons (mTup (mCons (mOp oIx (mVar 3) (mC (.int 2))) (mCons (mOp oIx (mVar 3) (mC (.int 3))) mNil))) mNil))))
    (sIf (cAnd (cB (mCall (m_law_growing N) (mCons (mVar 4) mNil))) (cB (mOp oLt (mCall oAbs (mCons (mCall (m_law_det N) (mCons (mVar 4) mNil)) mNil)) (mC (.int 10))))) (sSet 2 (mVar 4)) sNext))) sNext)
    (sRet (mVar 2))))))
def m_law_ahead (N : Nat) : On := fnM 2 2 (sRet (mTup (mCons (mOp oAdd (mOp oMul (mOp oIx (mOp oIx (mVar 0) (mC (.int 0))) (mC (.int 0))) (mOp oIx (mVar 1) (mC (.int 0)))) (mOp oMul (mOp oIx (mOp oIx (mVar 0) (mC (.int 0))) (mC (.int 1))) (mOp oIx (mVar 1) (mC (.int 1))))) (mCons (mOp oAdd (mOp oMul (mOp oIx (mOp oIx (mVar 0) (mC (.int 1))) (mC (.int 0))) (mOp oIx (mVar 1) (mC (.int 0)))) (mOp oMul (mOp oIx (mOp oIx (mVar 0) (mC (.int 1))) (mC (.int 1))) (mOp oIx (mVar 1) (mC (.int 1))))) mNil))))
def m_law_add (N : Nat) : On := fnM 2 2 (sRet (mTup (mCons (mOp oAdd (mOp oIx (mVar 0) (mC (.int 0))) (mOp oIx (mVar 1) (mC (.int 0)))) (mCons (mOp oAdd (mOp oIx (mVar 0) (mC (.int 1))) (mOp oIx (mVar 1) (mC (.int 1)))) mNil))))
def m_law_gear (N : Nat) : On := fnM 5 11 (sSeq (sPar 6 7 (mCons (mOp oAdd (mC (.int 1)) (mCall (m_law_take N) (mCons (mVar 0) (mCons (mVar 2) mNil)))) (mCons (mLstC mNil) mNil)))
    (sSeq (sFor (miRng1 (mCons (mVar 6) mNil)) (.nm 5) (sSeq (sSet 8 mDctC)
    (sSeq (sFor (miRng1 (mCons (mOp oAdd (mC (.int 1)) (mCall (m_law_take N) (mCons (mVar 0) (mCons (mVar 3) mNil)))) mNil)) (.nm 9) (sSeq (sSet 10 (mTup (mCons (mOp oSub (mCall (m_law_take N) (mCons (mVar 0) (mCons (mOp oAdd (mOp oMul (mC (.int 2)) (mVar 4)) (mC (.int 1))) mNil))) (mVar 4)) (mCons (mOp oSub (mCall (m_law_take N) (mCons (mVar 0) (mCons (mOp oAdd (mOp oMul (mC (.int 2)) (mVar 4)) (mC (.int 1))) mNil))) (mVar 4)) mNil))))
    (sPut putU (mVar 8) (mTup (mCons (mVar 10) (mCons (mCall (m_law_take N) (mCons (mVar 0) (mCons (mVar 6) mNil))) mNil))) (mC (.bool true)))))
    (sDrop (mMethL omAppend (mVar 7) (mCons (mUn oTuple (mCall oSortedU (mCons (mVar 8) mNil))) mNil))))))
    (sRet (mTup (mCons (mVar 1) (mCons (mUn oTuple (mVar 7)) mNil))))))
def m_lowest (N : Nat) : On := fnM 2 3 (sSeq (sSet 2 (mCall oGcd (mCons (mVar 0) (mCons (mVar 1) mNil))))
    (sSeq (sIf (cB (mOp oLt (mVar 1) (mC (.int 0)))) (sSet 2 (mUn oNeg (mVar 2))) sNext)
    (sRet (mTup (mCons (mOp oDiv (mVar 0) (mVar 2)) (mCons (mOp oDiv (mVar 1) (mVar 2)) mNil))))))
def m_inverse (N : Nat) : On := fnM 1 6 (sSeq (sAsg (.tp [(.tp [(.nm 2), (.nm 3)]), (.tp [(.nm 4), (.nm 5)])]) (mVar 0))
    (sSeq (sSet 1 (mCall (m_determinant N) (mCons (mVar 0) mNil)))
    (sSeq (sIf (cB (mOp oLt (mVar 1) (mC (.int 0)))) (sRet (mTup (mCons (mTup (mCons (mTup (mCons (mUn oNeg (mVar 5)) (mCons (mVar 3) mNil))) (mCons (mTup (mCons (mVar 4) (mCons (mUn oNeg (mVar 2)) mNil))) mNil))) (mCons (mUn oNeg (mVar 1)) mNil)))) sNext)
    (sRet (mTup (mCons (mTup (mCons (mTup (mCons (mVar 5) (mCons (mUn oNeg (mVar 3)) mNil))) (mCons (mTup (mCons (mUn oNeg (mVar 4)) (mCons (mVar 2) mNil))) mNil))) (mCons (mVar 1) mNil)))))))
def m_check_growing (N : Nat) : On := fnM 1 1 (sIf (cNot (cB (mCall (m_is_growing N) (mCons (mVar 0) mNil)))) sNever sNext)
def m_check_way (N : Nat) : On := fnM 1 1 (sIf (cOr (cNot (cB (mCall (m_is_offset N) (mCons (mVar 0) mNil)))) (cB (mOp oEq (mVar 0) (mTup (mCons (mC (.int 0)) (mCons (mC (.int 0)) mNil)))))) sNever sNext)
def m_course (N : Nat) : On := fnM 2 14 (sSeq (sAsg (.tp [(.tp [(.tp [(.nm 10), (.nm 11)]), (.tp [(.nm 12), (.nm 13)])]), (.nm 5)]) (mCall (m_inverse N) (mCons (mVar 0) mNil)))
    (sSeq (sAsg (.tp [(.nm 6), (.nm 7)]) (mVar 1))
    (sSeq (sAsg (.tp [(.nm 8), (.nm 9)]) (mVar 1))
    (sSeq (sSet 2 (mC (.int 1)))
    (sSeq (sSet 3 (mLstC mNil))
    (sSeq (sFor (miRng1 (mCons (mC (.int 12)) mNil)) (.nm 4) (sSeq (sPar 8 9 (mCons (mOp oAdd (mOp oMul (mVar 8) (mVar 10)) (mOp oMul (mVar 9) (mVar 12))) (mCons (mOp oAdd (mOp oMul (mVar 8) (mVar 11)) (mOp oMul (mVar 9) (mVar 13))) mNil)))
    (sSeq (sSet 2 (mOp oMul (mVar 2) (mVar 5)))
    (sSeq (sDrop (mMethL omAppend (mVar 3) (mCons (mTup (mCons (mTup (mCons (mVar 8) (mCons (mVar 9) mNil))) (mCons (mVar 2) mNil))) mNil)))
    (sIf (cAnd (cB (mOp oEq (mOp oMul (mVar 8) (mVar 7)) (mOp oMul (mVar 9) (mVar 6)))) (cB (mOp oGt (mOp oAdd (mOp oMul (mVar 8) (mVar 6)) (mOp oMul (mVar 9) (mVar 7))) (mC (.int 0))))) (sRet (mTupG (mCons (mVar 3) (mCons (mCall (m_lowest N) (mCons (mOp oAdd (mOp oMul (mVar 8) (mVar 6)) (mOp oMul (mVar 9) (mVar 7))) (mCons (mOp oMul (mVar 2) (mOp oAdd (mOp oMul (mVar 6) (mVar 6)) (mOp oMul (mVar 7) (mVar 7)))) mNil))) mNil)))) sNext)))))
    (sRet (mC .none))))))))
def m_returns (N : Nat) : On := fnM 2 3 (sSeq (sDrop (mCall (m_check_growing N) (mCons (mVar 0) mNil)))
    (sSeq (sDrop (mCall (m_check_way N) (mCons (mVar 1) mNil)))
    (sSeq (sSet 2 (mCall (m_course N) (mCons (mVar 0) (mCons (mVar 1) mNil))))
    (sRet (mIf (cB (mOp oIs (mVar 2) (mC .none))) (mC .none) (mTup (mCons (mCall oLen (mCons (mOp oIx (mVar 2) (mC (.int 0))) mNil)) (mCons (mOp oIx (mVar 2) (mC (.int 1))) mNil))))))))
def m_is_row (N : Nat) : On := fnM 1 2 (sRet (mAnd (mUn (oIsi .tuple) (mVar 0)) (mCall oAll (mCons (mLc (miSeq (mVar 0)) (.nm 1) cYes (mCall (m_is_integer N) (mCons (mVar 1) mNil))) mNil))))
def m_is_two_rows (N : Nat) : On := fnM 1 1 (sRet (mAnd (mCall (m_is_pair N) (mCons (mVar 0) mNil)) (mAnd (mCall (m_is_row N) (mCons (mOp oIx (mVar 0) (mC (.int 0))) mNil)) (mCall (m_is_row N) (mCons (mOp oIx (mVar 0) (mC (.int 1))) mNil)))))
def m_product (N : Nat) : On := fnM 2 10 (sSeq (sDrop (mCall (m_check_table N) (mCons (mVar 0) mNil)))
    (sSeq (sDrop (mCall (m_check_table N) (mCons (mVar 1) mNil)))
    (sSeq (sAsg (.tp [(.tp [(.nm 2), (.nm 3)]), (.tp [(.nm 4), (.nm 5)])]) (mVar 0))
    (sSeq (sAsg (.tp [(.tp [(.nm 6), (.nm 7)]), (.tp [(.nm 8), (.nm 9)])]) (mVar 1))
    (sRet (mTup (mCons (mTup (mCons (mOp oAdd (mOp oMul (mVar 2) (mVar 6)) (mOp oMul (mVar 3) (mVar 8))) (mCons (mOp oAdd (mOp oMul (mVar 2) (mVar 7)) (mOp oMul (mVar 3) (mVar 9))) mNil))) (mCons (mTup (mCons (mOp oAdd (mOp oMul (mVar 4) (mVar 6)) (mOp oMul (mVar 5) (mVar 8))) (mCons (mOp oAdd (mOp oMul (mVar 4) (mVar 7)) (mOp oMul (mVar 5) (mVar 9))) mNil))) mNil))))))))
def m_power (N : Nat) : On := fnM 2 4 (sSeq (sDrop (mCall (m_check_table N) (mCons (mVar 0) mNil)))
    (sSeq (sIf (cOr (cNot (cB (mCall (m_is_integer N) (mCons (mVar 1) mNil)))) (cB (mOp oLt (mVar 1) (mC (.int 0))))) sNever sNext)
    (sSeq (sSet 2 (mC (.tuple [.tuple [.int 1, .int 0], .tuple [.int 0, .int 1]])))
    (sSeq (sFor (miRevR1 (mUn oBits (mVar 1))) (.nm 3) (sSeq (sSet 2 (mCall (m_product N) (mCons (mVar 2) (mCons (mVar 2) mNil))))
    (sIf (cB (mOp oEq (mOp oAnd (mOp oShr (mVar 1) (mVar 3)) (mC (.int 1))) (mC (.int 1)))) (sSet 2 (mCall (m_product N) (mCons (mVar 2) (mCons (mVar 0) mNil)))) sNext)))
    (sRet (mVar 2))))))
def m_check_offset (N : Nat) : On := fnM 1 1 (sIf (cNot (cB (mCall (m_is_offset N) (mCons (mVar 0) mNil)))) sNever sNext)
def m_times (N : Nat) : On := fnM 2 8 (sSeq (sDrop (mCall (m_check_table N) (mCons (mVar 0) mNil)))
    (sSeq (sDrop (mCall (m_check_offset N) (mCons (mVar 1) mNil)))
    (sSeq (sAsg (.tp [(.tp [(.nm 4), (.nm 5)]), (.tp [(.nm 6), (.nm 7)])]) (mVar 0))
    (sSeq (sAsg (.tp [(.nm 2), (.nm 3)]) (mVar 1))
    (sRet (mTup (mCons (mOp oAdd (mOp oMul (mVar 4) (mVar 2)) (mOp oMul (mVar 5) (mVar 3))) (mCons (mOp oAdd (mOp oMul (mVar 6) (mVar 2)) (mOp oMul (mVar 7) (mVar 3))) mNil))))))))
def m_check_state (N : Nat) : On := fnM 2 2 (sIf (cNot (cB (mCall (m_is_place N) (mCons (mVar 1) (mCons (mCall oLen (mCons (mOp oIx (mVar 0) (mC (.int 1))) mNil)) mNil))))) sNever sNext)
def m_check_kit (N : Nat) : On := fnM 1 1 (sIf (cNot (cB (mCall (m_is_kit N) (mCons (mVar 0) mNil)))) sNever sNext)
def m_states_of (N : Nat) : On := fnM 3 6 (sSeq (sSet 3 (mLstC (mCons (mVar 1) mNil)))
    (sSeq (sFor (miSeq (mVar 2)) (.nm 4) (sSeq (sSet 5 (mOp oIx (mOp oIx (mVar 0) (mC (.int 1))) (mOp oIx (mVar 3) (mUn oNeg (mC (.int 1))))))
    (sSeq (sIf (cNot (cB (mCall (m_is_place N) (mCons (mVar 4) (mCons (mCall oLen (mCons (mVar 5) mNil)) mNil))))) (sRet (mC .none)) sNext)
    (sDrop (mMethL omAppend (mVar 3) (mCons (mOp oIx (mOp oIx (mVar 5) (mVar 4)) (mC (.int 1))) mNil))))))
    (sRet (mVar 3))))
def m_is_walk (N : Nat) : On := fnM 3 3 (sSeq (sDrop (mCall (m_check_kit N) (mCons (mVar 0) mNil)))
    (sSeq (sDrop (mCall (m_check_state N) (mCons (mVar 0) (mCons (mVar 1) mNil))))
    (sRet (mAnd (mCall (m_is_row N) (mCons (mVar 2) mNil)) (mOp oIsNot (mCall (m_states_of N) (mCons (mVar 0) (mCons (mVar 1) (mCons (mVar 2) mNil)))) (mC .none))))))
def m_is_address (N : Nat) : On := fnM 3 4 (sSeq (sDrop (mCall (m_check_kit N) (mCons (mVar 0) mNil)))
    (sSeq (sDrop (mCall (m_check_state N) (mCons (mVar 0) (mCons (mVar 1) mNil))))
    (sSeq (sIf (cOr (cNot (cB (mCall (m_is_two_rows N) (mCons (mVar 2) mNil)))) (cB (mOp oEq (mCall oLen (mCons (mOp oIx (mVar 2) (mC (.int 1))) mNil)) (mC (.int 0))))) (sRet (mC (.bool false))) sNext)
    (sSeq (sSet 3 (mCall (m_states_of N) (mCons (mVar 0) (mCons (mVar 1) (mCons (mOp oAdd (mOp oIx (mVar 2) (mC (.int 0))) (mOp oIx (mVar 2) (mC (.int 1)))) mNil)))))
    (sRet (mAnd (mOp oIsNot (mVar 3) (mC .none)) (mOp oEq (mOp oIx (mVar 3) (mUn oNeg (mC (.int 1)))) (mOp oIx (mVar 3) (mCall oLen (mCons (mOp oIx (mVar 2) (mC (.int 0))) mNil))))))))))
def m_check_address (N : Nat) : On := fnM 3 3 (sSeq (sDrop (mCall (m_check_kit N) (mCons (mVar 0) mNil)))
    (sSeq (sDrop (mCall (m_check_state N) (mCons (mVar 0) (mCons (mVar 1) mNil))))
    (sIf (cNot (cB (mCall (m_is_address N) (mCons (mVar 0) (mCons (mVar 1) (mCons (mVar 2) mNil)))))) sNever sNext)))
def m_u_ends (N : Nat) : On := fnM 3 10 (sSeq (sSet 3 (mTup (mCons (mC (.int 0)) (mCons (mC (.int 0)) mNil))))
    (sSeq (sFor (miSeq (mVar 2)) (.nm 4) (sSeq (sAsg (.tp [(.tp [(.nm 8), (.nm 9)]), (.nm 5)]) (mOp oIx (mOp oIx (mOp oIx (mVar 0) (mC (.int 1))) (mVar 1)) (mVar 4)))
    (sSeq (sAsg (.tp [(.nm 6), (.nm 7)]) (mCall (m_times N) (mCons (mOp oIx (mVar 0) (mC (.int 0))) (mCons (mVar 3) mNil))))
    (sPar 1 3 (mCons (mVar 5) (mCons (mTup (mCons (mOp oAdd (mVar 6) (mVar 8)) (mCons (mOp oAdd (mVar 7) (mVar 9)) mNil))) mNil))))))
    (sRet (mTup (mCons (mVar 1) (mCons (mVar 3) mNil))))))
def m_ends (N : Nat) : On := fnM 3 3 (sSeq (sDrop (mCall (m_check_kit N) (mCons (mVar 0) mNil)))
    (sSeq (sDrop (mCall (m_check_state N) (mCons (mVar 0) (mCons (mVar 1) mNil))))
    (sSeq (sIf (cNot (cB (mCall (m_is_walk N) (mCons (mVar 0) (mCons (mVar 1) (mCons (mVar 2) mNil)))))) sNever sNext)
    (sRet (mCall (m_u_ends N) (mCons (mVar 0) (mCons (mVar 1) (mCons (mVar 2) mNil))))))))
def m_turned_back (N : Nat) : On := fnM 2 8 (sSeq (sAsg (.tp [(.tp [(.nm 4), (.nm 5)]), (.tp [(.nm 6), (.nm 7)])]) (mVar 0))
    (sSeq (sAsg (.tp [(.nm 2), (.nm 3)]) (mVar 1))
    (sRet (mTup (mCons (mOp oSub (mOp oMul (mVar 7) (mVar 2)) (mOp oMul (mVar 5) (mVar 3))) (mCons (mOp oSub (mOp oMul (mVar 4) (mVar 3)) (mOp oMul (mVar 6) (mVar 2))) mNil))))))
def m_point_of (N : Nat) : On := fnM 3 18 (sSeq (sDrop (mCall (m_check_address N) (mCons (mVar 0) (mCons (mVar 1) (mCons (mVar 2) mNil)))))
    (sSeq (sAsg (.tp [(.nm 6), (.nm 7)]) (mVar 2))
    (sSeq (sAsg (.tp [(.nm 8), (.tp [(.nm 12), (.nm 13)])]) (mCall (m_u_ends N) (mCons (mVar 0) (mCons (mVar 1) (mCons (mVar 6) mNil)))))
    (sSeq (sAsg (.tp [(.nm 9), (.tp [(.nm 10), (.nm 11)])]) (mCall (m_u_ends N) (mCons (mVar 0) (mCons (mVar 8) (mCons (mVar 7) mNil)))))
    (sSeq (sAsg (.tp [(.tp [(.nm 14), (.nm 15)]), (.tp [(.nm 16), (.nm 17)])]) (mCall (m_power N) (mCons (mOp oIx (mVar 0) (mC (.int 0))) (mCons (mCall oLen (mCons (mVar 7) mNil)) mNil))))
    (sSeq (sSet 3 (mTup (mCons (mTup (mCons (mOp oSub (mVar 14) (mC (.int 1))) (mCons (mVar 15) mNil))) (mCons (mTup (mCons (mVar 16) (mCons (mOp oSub (mVar 17) (mC (.int 1))) mNil))) mNil))))
    (sSeq (sAsg (.tp [(.nm 10), (.nm 11)]) (mCall (m_turned_back N) (mCons (mVar 3) (mCons (mTup (mCons (mVar 10) (mCons (mVar 11) mNil))) mNil))))
    (sSeq (sSet 4 (mCall (m_determinant N) (mCons (mVar 3) mNil)))
    (sSeq (sSet 5 (mCall (m_power N) (mCons (mOp oIx (mVar 0) (mC (.int 0))) (mCons (mCall oLen (mCons (mVar 6) mNil)) mNil))))
    (sSeq (sAsg (.tp [(.nm 10), (.nm 11)]) (mCall (m_turned_back N) (mCons (mVar 5) (mCons (mTup (mCons (mOp oAdd (mVar 10) (mOp oMul (mVar 12) (mVar 4))) (mCons (mOp oAdd (mVar 11) (mOp oMul (mVar 13) (mVar 4))) mNil))) mNil))))
    (sSeq (sSet 4 (mOp oMul (mVar 4) (mCall (m_determinant N) (mCons (mVar 5) mNil))))
    (sRet (mTup (mCons (mCall (m_lowest N) (mCons (mVar 10) (mCons (mVar 4) mNil))) (mCons (mCall (m_lowest N) (mCons (mVar 11) (mCons (mVar 4) mNil))) mNil)))))))))))))))
def m_shortest (N : Nat) : On := fnM 1 3 (sSeq (sSet 1 (mCall oLen (mCons (mVar 0) mNil)))
    (sSeq (sFor (miRng2 (mCons (mC (.int 1)) (mCons (mVar 1) mNil))) (.nm 2) (sIf (cAnd (cB (mOp oEq (mOp oMod (mVar 1) (mVar 2)) (mC (.int 0)))) (cB (mOp oEq (mSl (mVar 0) (some (mVar 2)) none) (mSl (mVar 0) none (some (mUn oNeg (mVar 2))))))) (sRet (mSl (mVar 0) none (some (mVar 2)))) sNext))
    (sRet (mVar 0))))
def m_plain (N : Nat) : On := fnM 3 14 (sSeq (sDrop (mCall (m_check_address N) (mCons (mVar 0) (mCons (mVar 1) (mCons (mVar 2) mNil)))))
    (sSeq (sAsg (.tp [(.nm 9), (.nm 10)]) (mVar 2))
    (sSeq (sSet 3 (mCall (m_states_of N) (mCons (mVar 0) (mCons (mVar 1) (mCons (mOp oAdd (mVar 9) (mVar 10)) mNil)))))
    (sSeq (sSet 4 (mCall oLen (mCons (mVar 9) mNil)))
    (sSeq (sSet 5 (mLc (miRng1 (mCons (mVar 4) mNil)) (.nm 11) cYes (mTup (mCons (mOp oIx (mVar 3) (mVar 11)) (mCons (mOp oIx (mVar 9) (mVar 11)) mNil)))))
    (sSeq (sSet 6 (mCall (m_shortest N) (mCons (mLc (miRng1 (mCons (mCall oLen (mCons (mVar 10) mNil)) mNil)) (.nm 11) cYes (mTup (mCons (mOp oIx (mVar 3) (mOp oAdd (mVar 4) (mVar 11))) (mCons (mOp oIx (mVar 10) (mVar 11)) mNil)))) mNil)))
    (sSeq (sWhile (cAnd (cB (mOp oGt (mVar 4) (mC (.int 0)))) (cB (mOp oEq (mOp oIx (mVar 5) (mOp oSub (mVar 4) (mC (.int 1)))) (mOp oIx (mVar 6) (mOp oMod (mOp oSub (mOp oSub (mVar 4) (mCall oLen (mCons (mVar 9) mNil))) (mC (.int 1))) (mCall oLen (mCons (mVar 6) mNil))))))) (sAugI 4 (fun i j => i - j) (mC (.int 1))) N)
    (sSeq (sSet 7 (mOp oMod (mOp oSub (mVar 4) (mCall oLen (mCons (mVar 9) mNil))) (mCall oLen (mCons (mVar 6) mNil))))
    (sSeq (sSet 8 (mUn oTuple (mLc (miSeq (mVar 6)) (.tp [(.nm 12), (.nm 13)]) cYes (mVar 13))))
    (sRet (mTup (mCons (mSl (mVar 9) none (some (mVar 4))) (mCons (mOp oAdd (mSl (mVar 8) (some (mVar 7)) none) (mSl (mVar 8) none (some (mVar 7)))) mNil)))))))))))))
def m_walks (N : Nat) : On := fnM 3 9 (sSeq (sDrop (mCall (m_check_kit N) (mCons (mVar 0) mNil)))
    (sSeq (sDrop (mCall (m_check_state N) (mCons (mVar 0) (mCons (mVar 1) mNil))))
    (sSeq (sIf (cOr (cNot (cB (mCall (m_is_integer N) (mCons (mVar 2) mNil)))) (cB (mOp oLt (mVar 2) (mC (.int 0))))) sNever sNext)
    (sSeq (sSet 3 (mLst (mCons (mTup (mCons (mTup mNil) (mCons (mVar 1) mNil))) mNil)))
    (sSeq (sFor (miRng1 (mCons (mVar 2) mNil)) (.nm 4) (sSet 3 (mLc2 (miSeq (mVar 3)) (.tp [(.nm 5), (.nm 6)]) cYes (miEnumT (mOp oIx (mOp oIx (mVar 0) (mC (.int 1))) (mVar 6))) (.tp [(.nm 7), (.tp [(.nm 4), (.nm 8)])]) cYes (mTup (mCons (mOp oAdd (mVar 5) (mTup (mCons (mVar 7) mNil))) (mCons (mVar 8) mNil))))))
    (sRet (mLcC (miSeq (mVar 3)) (.tp [(.nm 5), (.nm 4)]) cYes (mVar 5))))))))
def m_size (N : Nat) : On := fnM 1 5 (sSeq (sAsg (.tp [(.tp [(.nm 1), (.nm 2)]), (.tp [(.nm 3), (.nm 4)])]) (mVar 0))
    (sRet (mCall oMax2 (mCons (mOp oAdd (mCall oAbs (mCons (mVar 1) mNil)) (mCall oAbs (mCons (mVar 2) mNil))) (mCons (mOp oAdd (mCall oAbs (mCons (mVar 3) mNil)) (mCall oAbs (mCons (mVar 4) mNil))) mNil)))))
def m_reached (N : Nat) : On := fnM 2 8 (sSeq (sDrop (mCall (m_check_kit N) (mCons (mVar 0) mNil)))
    (sSeq (sDrop (mCall (m_check_state N) (mCons (mVar 0) (mCons (mVar 1) mNil))))
    (sSeq (sSet 2 (mDctI (mVar 1) (mC (.bool true))))
    (sSeq (sSet 3 (mLst (mCons (mVar 1) mNil)))
    (sSeq (sWhile (cB (mOp oGt (mCall oLen (mCons (mVar 3) mNil)) (mC (.int 0)))) (sSeq (sSet 4 (mLc2 (miSeq (mVar 3)) (.nm 6) cYes (miSeq (mOp oIx (mOp oIx (mVar 0) (mC (.int 1))) (mVar 6))) (.tp [(.nm 7), (.nm 5)]) (cB (mOp oNotInI (mVar 5) (mVar 2))) (mVar 5)))
    (sSeq (sSet 3 (mUn oSortSet (mVar 4)))
    (sFor (miSeq (mVar 3)) (.nm 5) (sPut putDI (mVar 2) (mVar 5) (mC (.bool true)))))) N)
    (sRet (mUn oTuple (mCall oSortedI (mCons (mVar 2) mNil)))))))))
def m_bound (N : Nat) : On := fnM 2 7 (sSeq (sAsg (.tp [(.nm 3), (.nm 4)]) (mCall (m_inverse N) (mCons (mVar 0) mNil)))
    (sSeq (sPar 5 6 (mCons (mVar 3) (mCons (mVar 4) mNil)))
    (sSeq (sSet 2 (mCall (m_size N) (mCons (mVar 5) mNil)))
    (sSeq (sWhile (cB (mOp oGe (mCall (m_size N) (mCons (mVar 5) mNil)) (mVar 6))) (sSeq (sPar 5 6 (mCons (mCall (m_product N) (mCons (mVar 5) (mCons (mVar 3) mNil))) (mCons (mOp oMul (mVar 6) (mVar 4)) mNil)))
    (sSet 2 (mOp oAdd (mOp oMul (mVar 2) (mVar 4)) (mCall (m_size N) (mCons (mVar 5) mNil))))) N)
    (sRet (mUn oNeg (mOp oDiv (mOp oMul (mUn oNeg (mVar 1)) (mVar 2)) (mOp oSub (mVar 6) (mCall (m_size N) (mCons (mVar 5) mNil))))))))))
def m_steps (N : Nat) : On := fnM 1 4 (sRet (mLc2 (miSeq (mOp oIx (mVar 0) (mC (.int 1)))) (.nm 1) cYes (miSeq (mVar 1)) (.tp [(.nm 2), (.nm 3)]) cYes (mVar 2)))
def m_farthest (N : Nat) : On := fnM 1 3 (sRet (mCall oMaxL (mCons (mLc (miSeq (mVar 0)) (.tp [(.nm 1), (.nm 2)]) cYes (mCall oMax2 (mCons (mCall oAbs (mCons (mVar 1) mNil)) (mCons (mCall oAbs (mCons (mVar 2) mNil)) mNil)))) mNil)))
def m_reach (N : Nat) : On := fnM 1 1 (sSeq (sDrop (mCall (m_check_kit N) (mCons (mVar 0) mNil)))
    (sRet (mCall (m_bound N) (mCons (mOp oIx (mVar 0) (mC (.int 0))) (mCons (mCall (m_farthest N) (mCons (mCall (m_steps N) (mCons (mVar 0) mNil)) mNil)) mNil)))))
def m_led_on (N : Nat) : On := fnM 2 16 (sSeq (sAsg (.tp [(.tp [(.tp [(.nm 10), (.nm 11)]), (.tp [(.nm 12), (.nm 13)])]), (.nm 3)]) (mVar 0))
    (sSeq (sSet 2 mSetC)
    (sSeq (sFor (miSeq (mVar 1)) (.tp [(.tp [(.nm 5), (.nm 6)]), (.nm 4)]) (sSeq (sPar 7 8 (mCons (mOp oAdd (mOp oMul (mVar 10) (mVar 5)) (mOp oMul (mVar 11) (mVar 6))) (mCons (mOp oAdd (mOp oMul (mVar 12) (mVar 5)) (mOp oMul (mVar 13) (mVar 6))) mNil)))
    (sFor (miSeq (mOp oIx (mVar 3) (mVar 4))) (.tp [(.tp [(.nm 14), (.nm 15)]), (.nm 9)]) (sDrop (mMethS omAddS (mVar 2) (mCons (mTup (mCons (mTup (mCons (mOp oAdd (mVar 7) (mVar 14)) (mCons (mOp oAdd (mVar 8) (mVar 15)) mNil))) (mCons (mVar 9) mNil))) mNil))))))
    (sRet (mUn oTuple (mCall oSortedS (mCons (mVar 2) mNil)))))))
def m_check_parts (N : Nat) : On := fnM 2 7 (sSeq (sSet 2 (mIf (cB (mUn (oIsi .tuple) (mVar 1))) (mLc (miSeq (mVar 1)) (.nm 6) (cB (mCall (m_is_pair N) (mCons (mVar 6) mNil))) (mVar 6)) (mLst mNil)))
    (sSeq (sFor (miSeq (mVar 2)) (.tp [(.nm 3), (.nm 4)]) (sDrop (mCall (m_check_state N) (mCons (mVar 0) (mCons (mVar 3) mNil)))))
    (sSeq (sFor (miSeq (mVar 2)) (.tp [(.nm 4), (.nm 5)]) (sDrop (mCall (m_check_offset N) (mCons (mVar 5) mNil))))
    (sIf (cOr (cB (mOp oEq (mCall oLen (mCons (mVar 2) mNil)) (mC (.int 0)))) (cB (mOp oLt (mCall oLen (mCons (mVar 2) mNil)) (mCall oLen (mCons (mVar 1) mNil))))) sNever sNext))))
def m_powered (N : Nat) : On := fnM 2 5 (sSeq (sDrop (mCall (m_check_kit N) (mCons (mVar 0) mNil)))
    (sSeq (sIf (cOr (cNot (cB (mCall (m_is_integer N) (mCons (mVar 1) mNil)))) (cB (mOp oLt (mVar 1) (mC (.int 1))))) sNever sNext)
    (sSeq (sSet 2 (mOp oIx (mVar 0) (mC (.int 1))))
    (sSeq (sFor (miRng1 (mCons (mOp oSub (mVar 1) (mC (.int 1))) mNil)) (.nm 3) (sSet 2 (mUn oTuple (mLc (miSeq (mVar 2)) (.nm 4) cYes (mCall (m_led_on N) (mCons (mVar 0) (mCons (mVar 4) mNil)))))))
    (sRet (mTup (mCons (mCall (m_power N) (mCons (mOp oIx (mVar 0) (mC (.int 0))) (mCons (mVar 1) mNil))) (mCons (mVar 2) mNil))))))))
def m_joined (N : Nat) : On := fnM 2 7 (sSeq (sDrop (mCall (m_check_kit N) (mCons (mVar 0) mNil)))
    (sSeq (sDrop (mCall (m_check_parts N) (mCons (mVar 0) (mCons (mVar 1) mNil))))
    (sSeq (sAsg (.tp [(.nm 3), (.nm 4)]) (mVar 0))
    (sSeq (sSet 2 (mLc (miSeq (mVar 1)) (.tp [(.nm 5), (.nm 6)]) cYes (mTup (mCons (mVar 6) (mCons (mVar 5) mNil)))))
    (sRet (mTup (mCons (mVar 3) (mCons (mOp oAdd (mVar 4) (mTup (mCons (mCall (m_led_on N) (mCons (mVar 0) (mCons (mVar 2) mNil))) mNil))) mNil))))))))
def m_check_like (N : Nat) : On := fnM 2 2 (sSeq (sDrop (mCall (m_check_kit N) (mCons (mVar 0) mNil)))
    (sSeq (sDrop (mCall (m_check_kit N) (mCons (mVar 1) mNil)))
    (sIf (cB (mOp oNe (mOp oIx (mVar 0) (mC (.int 0))) (mOp oIx (mVar 1) (mC (.int 0))))) sNever sNext)))
def m_is_turn (N : Nat) : On := fnM 1 1 (sRet (mAnd (mCall (m_is_table N) (mCons (mVar 0) mNil)) (mOp oIn2 (mVar 0) (mC (.tuple [.tuple [.tuple [.int (-1), .int 0], .tuple [.int 0, .int (-1)]], .tuple [.tuple [.int (-1), .int 0], .tuple [.int 0, .int 1]], .tuple [.tuple [.int 0, .int (-1)], .tuple [.int (-1), .int 0]], .tuple [.tuple [.int 0, .int (-1)], .tuple [.int 1, .int 0]], .tuple [.tuple [.int 0, .int 1], .tuple [.int (-1), .int 0]], .tuple [.tuple [.int 0, .int 1], .tuple [.int 1, .int 0]], .tuple [.tuple [.int 1, .int 0], .tuple [.int 0, .int (-1)]], .tuple [.tuple [.int 1, .int 0], .tuple [.int 0, .int 1]]])))))
def m_moved (N : Nat) : On := fnM 3 3 (sSeq (sDrop (mCall (m_check_kit N) (mCons (mVar 0) mNil)))
    (sSeq (sDrop (mCall (m_check_state N) (mCons (mVar 0) (mCons (mVar 1) mNil))))
    (sSeq (sDrop (mCall (m_check_offset N) (mCons (mVar 2) mNil)))
    (sRet (mCall (m_joined N) (mCons (mVar 0) (mCons (mTup (mCons (mTup (mCons (mVar 1) (mCons (mVar 2) mNil))) mNil)) mNil)))))))
def m_side_by_side (N : Nat) : On := fnM 2 7 (sSeq (sDrop (mCall (m_check_like N) (mCons (mVar 0) (mCons (mVar 1) mNil))))
    (sSeq (sSet 2 (mCall oLen (mCons (mOp oIx (mVar 0) (mC (.int 1))) mNil)))
    (sSeq (sSet 3 (mLc (miSeq (mOp oIx (mVar 1) (mC (.int 1)))) (.nm 4) cYes (mUn oTuple (mLc (miSeq (mVar 4)) (.tp [(.nm 5), (.nm 6)]) cYes (mTup (mCons (mVar 5) (mCons (mOp oAdd (mVar 6) (mVar 2)) mNil)))))))
    (sRet (mTup (mCons (mOp oIx (mVar 0) (mC (.int 0))) (mCons (mOp oAdd (mOp oIx (mVar 0) (mC (.int 1))) (mUn oTuple (mVar 3))) mNil)))))))
def m_suits (N : Nat) : On := fnM 2 2 (sRet (mOp oEq (mCall (m_product N) (mCons (mOp oIx (mVar 0) (mC (.int 0))) (mCons (mVar 1) mNil))) (mCall (m_product N) (mCons (mVar 1) (mCons (mOp oIx (mVar 0) (mC (.int 0))) mNil)))))
def m_turns_of (N : Nat) : On := fnM 1 2 (sSeq (sDrop (mCall (m_check_kit N) (mCons (mVar 0) mNil)))
    (sRet (mUn oTuple (mLc (miSeq (mC (.tuple [.tuple [.tuple [.int (-1), .int 0], .tuple [.int 0, .int (-1)]], .tuple [.tuple [.int (-1), .int 0], .tuple [.int 0, .int 1]], .tuple [.tuple [.int 0, .int (-1)], .tuple [.int (-1), .int 0]], .tuple [.tuple [.int 0, .int (-1)], .tuple [.int 1, .int 0]], .tuple [.tuple [.int 0, .int 1], .tuple [.int (-1), .int 0]], .tuple [.tuple [.int 0, .int 1], .tuple [.int 1, .int 0]], .tuple [.tuple [.int 1, .int 0], .tuple [.int 0, .int (-1)]], .tuple [.tuple [.int 1, .int 0], .tuple [.int 0, .int 1]]]))) (.nm 1) (cB (mCall (m_suits N) (mCons (mVar 0) (mCons (mVar 1) mNil)))) (mVar 1)))))
def m_check_turn (N : Nat) : On := fnM 2 2 (sIf (cOr (cNot (cB (mCall (m_is_turn N) (mCons (mVar 1) mNil)))) (cNot (cB (mCall (m_suits N) (mCons (mVar 0) (mCons (mVar 1) mNil)))))) sNever sNext)
def m_turned (N : Nat) : On := fnM 2 6 (sSeq (sDrop (mCall (m_check_kit N) (mCons (mVar 0) mNil)))
    (sSeq (sDrop (mCall (m_check_turn N) (mCons (mVar 0) (mCons (mVar 1) mNil))))
    (sSeq (sSet 2 (mLc (miSeq (mOp oIx (mVar 0) (mC (.int 1)))) (.nm 3) cYes (mUn oTuple (mCall oSortedU (mCons (mLc (miSeq (mVar 3)) (.tp [(.nm 4), (.nm 5)]) cYes (mTup (mCons (mCall (m_times N) (mCons (mVar 1) (mCons (mVar 4) mNil))) (mCons (mVar 5) mNil)))) mNil)))))
    (sRet (mTup (mCons (mOp oIx (mVar 0) (mC (.int 0))) (mCons (mUn oTuple (mVar 2)) mNil)))))))
def m_led_to_places (N : Nat) : On := fnM 2 4 (sRet (mUn oTuple (mCall oSortedS (mCons (mSc (miSeq (mVar 0)) (.tp [(.nm 2), (.nm 3)]) cYes (mTup (mCons (mVar 2) (mCons (mGetI (mVar 1) (mVar 3)) mNil)))) mNil))))
def m_alone (N : Nat) : On := fnM 2 8 (sSeq (sDrop (mCall (m_check_kit N) (mCons (mVar 0) mNil)))
    (sSeq (sDrop (mCall (m_check_state N) (mCons (mVar 0) (mCons (mVar 1) mNil))))
    (sSeq (sSet 2 (mDctI (mVar 1) (mC (.int 0))))
    (sSeq (sSet 3 (mLst (mCons (mVar 1) mNil)))
    (sSeq (sWhile (cB (mOp oGt (mCall oLen (mCons (mVar 3) mNil)) (mC (.int 0)))) (sSeq (sSet 4 (mLstC mNil))
    (sSeq (sFor (miSeq (mVar 3)) (.nm 5) (sFor (miSeq (mOp oIx (mOp oIx (mVar 0) (mC (.int 1))) (mVar 5))) (.tp [(.nm 6), (.nm 7)]) (sIf (cB (mOp oNotInI (mVar 7) (mVar 2))) (sSeq (sPut putDI (mVar 2) (mVar 7) (mCall oLenI (mCons (mVar 2) mNil)))
    (sDrop (mMethL omAppend (mVar 4) (mCons (mVar 7) mNil)))) sNext)))
    (sSet 3 (mFrz (mVar 4))))) N)
    (sLockI 2 (sRet (mTup (mCons (mOp oIx (mVar 0) (mC (.int 0))) (mCons (mUn oTuple (mLc (miSeq (mVar 2)) (.nm 5) cYes (mCall (m_led_to_places N) (mCons (mOp oIx (mOp oIx (mVar 0) (mC (.int 1))) (mVar 5)) (mCons (mVar 2) mNil))))) mNil))))))))))
def m_show_rows (N : Nat) : On := fnM 1 1 (sRet (mOp oJoin (mC (.str (Str.ofString "\n"))) (mVar 0)))
def m_integer (N : Nat) : On := fnM 1 7 (sSeq (sIf (cB (mOp oLt (mUn oBits (mVar 0)) (mC (.int 14000)))) (sRet (mCall oStr (mCons (mVar 0) mNil))) sNext)
    sNever)
def m_show_number (N : Nat) : On := fnM 1 3 (sSeq (sAsg (.tp [(.nm 1), (.nm 2)]) (mVar 0))
    (sRet (mIf (cB (mOp oEq (mVar 2) (mC (.int 1)))) (mCall (m_integer N) (mCons (mVar 1) mNil)) (mOp oAddS (mOp oAddS (mCall (m_integer N) (mCons (mVar 1) mNil)) (mC (.str (Str.ofString "/")))) (mCall (m_integer N) (mCons (mVar 2) mNil))))))
def m_show_point (N : Nat) : On := fnM 1 1 (sRet (mOp oAddS (mOp oAddS (mCall (m_show_number N) (mCons (mOp oIx (mVar 0) (mC (.int 0))) mNil)) (mC (.str (Str.ofString " ")))) (mCall (m_show_number N) (mCons (mOp oIx (mVar 0) (mC (.int 1))) mNil))))
def m_show_address (N : Nat) : On := fnM 1 4 (sSeq (sAsg (.tp [(.nm 1), (.nm 2)]) (mVar 0))
    (sRet (mOp oJoin (mC (.str (Str.ofString " "))) (mOp oAdd (mOp oAdd (mOp oAdd (mLc (miSeq (mVar 1)) (.nm 3) cYes (mCall (m_integer N) (mCons (mVar 3) mNil))) (mLst (mCons (mC (.str (Str.ofString "("))) mNil))) (mLc (miSeq (mVar 2)) (.nm 3) cYes (mCall (m_integer N) (mCons (mVar 3) mNil)))) (mLst (mCons (mC (.str (Str.ofString ")"))) mNil))))))
def m_copy (N : Nat) : On := fnM 2 2 (sRet (mOp oAddS (mOp oAddS (mOp oAddS (mOp oAddS (mCall (m_integer N) (mCons (mOp oIx (mVar 0) (mC (.int 0))) mNil)) (mC (.str (Str.ofString " ")))) (mCall (m_integer N) (mCons (mOp oIx (mVar 0) (mC (.int 1))) mNil))) (mC (.str (Str.ofString " ")))) (mCall (m_integer N) (mCons (mVar 1) mNil))))
def m_show_kit (N : Nat) : On := fnM 1 10 (sSeq (sAsg (.tp [(.tp [(.nm 5), (.nm 6)]), (.nm 2)]) (mVar 0))
    (sSeq (sSet 1 (mLstC (mCons (mOp oAddS (mC (.str (Str.ofString "table "))) (mOp oJoin (mC (.str (Str.ofString " "))) (mLc (miSeq (mOp oAdd (mVar 5) (mVar 6))) (.nm 7) cYes (mCall (m_integer N) (mCons (mVar 7) mNil))))) mNil)))
    (sSeq (sFor (miEnumT (mVar 2)) (.tp [(.nm 3), (.nm 4)]) (sDrop (mMethL omAppend (mVar 1) (mCons (mOp oAddS (mJs [mFmt (mVar 3), (mC (.str (Str.ofString " : ")))] Str.empty) (mOp oJoin (mC (.str (Str.ofString ", "))) (mLc (miSeq (mVar 4)) (.tp [(.nm 8), (.nm 9)]) cYes (mCall (m_copy N) (mCons (mVar 8) (mCons (mVar 9) mNil)))))) mNil))))
    (sRet (mOp oJoin (mC (.str (Str.ofString "\n"))) (mVar 1))))))
def m_law_well (N : Nat) : On := fnM 2 3 (sSeq (sSet 2 (mIf (cB (mOp oLt (mVar 1) (mCall oLen (mCons (mVar 0) mNil)))) (mCall oInt (mCons (mOp oIx (mVar 0) (mVar 1)) mNil)) (mOp oAdd (mOp oMul (mVar 1) (mC (.int 104723))) (mOp oMul (mCall oLen (mCons (mVar 0) mNil)) (mC (.int 15485863))))))
    (sRet (mLstC (mCons (mCall oMax2 (mCons (mC (.int 0)) (mCons (mOp oSub (mCall oAbs (mCons (mVar 2) mNil)) (mOp oPowW (mC (.int 10)) (mC (.int 18)))) mNil))) (mCons (mOp oMod (mCall oInt (mCons (mOp oAdd (mOp oAdd (mOp oMul (mVar 2) (mC (.int 86028157))) (mOp oMul (mVar 1) (mC (.int 179424691)))) (mC (.int 7919))) mNil)) (mOp oAdd (mOp oPowW (mC (.int 10)) (mC (.int 25))) (mC (.int 13)))) (mCons (mC (.int 0)) mNil))))))
def m_law_draw (N : Nat) : On := fnM 2 4 (sSeq (sIf (cB (mOp oGt (mOp oIx (mVar 0) (mC (.int 0))) (mC (.int 0)))) (sSeq (sSet 3 (mOp oMod (mCall oInt (mCons (mOp oIx (mVar 0) (mC (.int 0))) mNil)) (mVar 1)))
    (sSeq (sPut putU (mVar 0) (mC (.int 0)) (mOp oDiv (mOp oIx (mVar 0) (mC (.int 0))) (mVar 1)))
    (sRet (mVar 3)))) sNext)
    (sSeq (sPut putU (mVar 0) (mC (.int 2)) (mOp oAdd (mOp oIx (mVar 0) (mC (.int 2))) (mC (.int 1))))
    (sSeq (sSet 2 (mOp oMod (mCall oInt (mCons (mOp oPowW (mOp oAdd (mOp oIx (mVar 0) (mC (.int 1))) (mOp oMul (mC (.int 49979693)) (mOp oIx (mVar 0) (mC (.int 2))))) (mC (.int 3))) mNil)) (mOp oAdd (mOp oPowW (mC (.int 10)) (mC (.int 29))) (mC (.int 319)))))
    (sSeq (sSet 2 (mOp oMod (mCall oInt (mCons (mOp oPowW (mOp oAdd (mVar 2) (mC (.int 2038074751))) (mC (.int 3))) mNil)) (mOp oAdd (mOp oPowW (mC (.int 10)) (mC (.int 33))) (mC (.int 33)))))
    (sRet (mOp oMod (mCall oInt (mCons (mOp oDiv (mVar 2) (mOp oPowW (mC (.int 10)) (mC (.int 6)))) mNil)) (mVar 1)))))))
def m_law_lowest (N : Nat) : On := fnM 2 4 (sSeq (sPar 2 3 (mCons (mCall oAbs (mCons (mVar 0) mNil)) (mCons (mVar 1) mNil)))
    (sSeq (sWhile (cB (mOp oNe (mVar 3) (mC (.int 0)))) (sPar 2 3 (mCons (mVar 3) (mCons (mOp oMod (mCall oInt (mCons (mVar 2) mNil)) (mVar 3)) mNil))) N)
    (sRet (mTup (mCons (mOp oDiv (mVar 0) (mVar 2)) (mCons (mOp oDiv (mVar 1) (mVar 2)) mNil))))))
def m_law_power (N : Nat) : On := fnM 1 3 (sSeq (sSet 1 (mC (.int 1)))
    (sSeq (sFor (miRng1 (mCons (mVar 0) mNil)) (.nm 2) (sSet 1 (mOp oMul (mC (.int 10)) (mVar 1))))
    (sRet (mVar 1))))
def m_law_number (N : Nat) : On := fnM 2 6 (sSeq (sPar 3 4 (mCons (mCall (m_law_draw N) (mCons (mVar 0) (mCons (mC (.int 8)) mNil))) (mCons (mOp oSub (mC (.int 1)) (mOp oMul (mC (.int 2)) (mCall (m_law_draw N) (mCons (mVar 0) (mCons (mC (.int 2)) mNil))))) mNil)))
    (sSeq (sIf (cB (mOp oLt (mVar 3) (mC (.int 3)))) (sRet (mTup (mCons (mOp oMul (mCall (m_law_draw N) (mCons (mVar 0) (mCons (mC (.int 13)) mNil))) (mVar 4)) (mCons (mC (.int 1)) mNil)))) sNext)
    (sSeq (sIf (cB (mOp oLt (mVar 3) (mC (.int 5)))) (sRet (mCall (m_law_lowest N) (mCons (mOp oMul (mVar 4) (mCall (m_law_draw N) (mCons (mVar 0) (mCons (mC (.int 30)) mNil)))) (mCons (mOp oAdd (mC (.int 1)) (mCall (m_law_draw N) (mCons (mVar 0) (mCons (mC (.int 8)) mNil)))) mNil)))) sNext)
    (sSeq (sIf (cB (mOp oEq (mVar 3) (mC (.int 5)))) (sSeq (sSet 5 (mOp oSub (mCall (m_law_power N) (mCons (mVar 1) mNil)) (mC (.int 1))))
    (sRet (mCall (m_law_lowest N) (mCons (mOp oMul (mVar 4) (mOp oSub (mVar 5) (mCall (m_law_draw N) (mCons (mVar 0) (mCons (mC (.int 9)) mNil))))) (mCons (mOp oSub (mVar 5) (mCall (m_law_draw N) (mCons (mVar 0) (mCons (mC (.int 99)) mNil)))) mNil))))) sNext)
    (sSeq (sIf (cB (mOp oEq (mVar 3) (mC (.int 6)))) (sRet (mTup (mCons (mOp oMul (mVar 4) (mOp oAdd (mCall (m_law_power N) (mCons (mCall (m_law_draw N) (mCons (mVar 0) (mCons (mVar 1) mNil))) mNil)) (mCall (m_law_draw N) (mCons (mVar 0) (mCons (mC (.int 2)) mNil))))) (mCons (mC (.int 1)) mNil)))) sNext)
    (sSeq (sSet 2 (mOp oAdd (mC (.int 1)) (mCall (m_law_draw N) (mCons (mVar 0) (mCons (mCall (m_law_power N) (mCons (mCall (m_law_draw N) (mCons (mVar 0) (mCons (mVar 1) mNil))) mNil)) mNil)))))
    (sRet (mCall (m_law_lowest N) (mCons (mOp oMul (mVar 4) (mCall (m_law_draw N) (mCons (mVar 0) (mCons (mCall (m_law_power N) (mCons (mVar 1) mNil)) mNil)))) (mCons (mVar 2) mNil))))))))))
def m_law_grows (N : Nat) : On := fnM 1 7 (sSeq (sAsg (.tp [(.nm 1), (.nm 2)]) (mOp oIx (mVar 0) (mC (.int 0))))
    (sSeq (sAsg (.tp [(.nm 3), (.nm 4)]) (mOp oIx (mVar 0) (mC (.int 1))))
    (sSeq (sPar 5 6 (mCons (mOp oSub (mOp oMul (mVar 1) (mVar 4)) (mOp oMul (mVar 2) (mVar 3))) (mCons (mOp oAdd (mVar 1) (mVar 4)) mNil)))
    (sRet (mOr (mAnd (mOp oGt (mVar 5) (mC (.int 1))) (mChain oLe oLe (mUn oNeg (mVar 5)) (mVar 6) (mVar 5))) (mAnd (mOp oLt (mVar 5) (mUn oNeg (mC (.int 1)))) (mChain oLe oLe (mOp oAdd (mVar 5) (mC (.int 2))) (mVar 6) (mOp oSub (mUn oNeg (mVar 5)) (mC (.int 2))))))))))
def m_law_table (N : Nat) : On := fnM 1 8 (sSeq (sSet 1 (mLst (mCons (mTup (mCons (mTup (mCons (mC (.int 2)) (mCons (mC (.int 0)) mNil))) (mCons (mTup (mCons (mC (.int 0)) (mCons (mC (.int 2)) mNil))) mNil))) (mCons (mTup (mCons (mTup (mCons (mC (.int 1)) (mCons (mUn oNeg (mC (.int 1))) mNil))) (mCons (mTup (mCons (mC (.int 1)) (mCons (mC (.int 1)) mNil))) mNil))) (mCons (mTup (mCons (mTup (mCons (mC (.int 0)) (mCons (mC (.int 2)) mNil))) (mCons (mTup (mCons (mC (.int 1)) (mCons (mC (.int 0)) mNil))) mNil))) (mCons (mTup (mCons (mTup (mCons (mUn oNeg (mC (.int 2))) (mCons (mC (.int 0)) mNil))) (mCons (mTup (mCons (mC (.int 0)) (mCons (mC (.int 3)) mNil))) mNil))) (mCons (mTup (mCons (mTup (mCons (mC (.int 2)) (mCons (mC (.int 1)) mNil))) (mCons (mTup (mCons (mC (.int 0)) (mCons (mC (.int 2)) mNil))) mNil))) mNil)))))))
    (sSeq (sSet 1 (mOp oAdd (mVar 1) (mLst (mCons (mTup (mCons (mTup (mCons (mC (.int 1)) (mCons (mC (.int 2)) mNil))) (mCons (mTup (mCons (mUn oNeg (mC (.int 2))) (mCons (mC (.int 1)) mNil))) mNil))) (mCons (mTup (mCons (mTup (mCons (mC (.int 0)) (mCons (mUn oNeg (mC (.int 3))) mNil))) (mCons (mTup (mCons (mC (.int 1)) (mCons (mC (.int 0)) mNil))) mNil))) (mCons (mTup (mCons (mTup (mCons (mC (.int 0)) (mCons (mC (.int 1)) mNil))) (mCons (mTup (mCons (mUn oNeg (mC (.int 2))) (mCons (mC (.int 0)) mNil))) mNil))) (mCons (mTup (mCons (mTup (mCons (mC (.int 2)) (mCons (mUn oNeg (mC (.int 3))) mNil))) (mCons (mTup (mCons (mC (.int 0)) (mCons (mUn oNeg (mC (.int 3))) mNil))) mNil))) (mCons (mTup (mCons (mTup (mCons (mC (.int 1)) (mCons (mC (.int 1)) mNil))) (mCons (mTup (mCons (mUn oNeg (mC (.int 1))) (mCons (mC (.int 2)) mNil))) mNil))) mNil))))))))
    (sSeq (sFor (miRng1 (mCons (mC (.int 3)) mNil)) (.nm 2) (sSeq (sAsgL [(.nm 3), (.nm 4), (.nm 5), (.nm 6)] (mLc (miRng1 (mCons (mC (.int 4)) mNil)) (.nm 7) cYes (mOp oSub (mCall (m_law_draw N) (mCons (mVar 0) (mCons (mC (.int 7)) mNil))) (mC (.int 3)))))
    (sIf (cAnd (cB (mCall (m_law_grows N) (mCons (mTup (mCons (mTup (mCons (mVar 3) (mCons (mVar 4) mNil))) (mCons (mTup (mCons (mVar 5) (mCons (mVar 6) mNil))) mNil))) mNil))) (cB (mOp oLt (mCall oAbs (mCons (mOp oSub (mOp oMul (mVar 3) (mVar 6)) (mOp oMul (mVar 4) (mVar 5))) mNil)) (mC (.int 7))))) (sRet (mTup (mCons (mTup (mCons (mVar 3) (mCons (mVar 4) mNil))) (mCons (mTup (mCons (mVar 5) (mCons (mVar 6) mNil))) mNil)))) sNext)))
    (sRet (mOp oIx (mVar 1) (mCall (m_law_draw N) (mCons (mVar 0) (mCons (mC (.int 10)) mNil))))))))
def m_law_copies (N : Nat) : On := fnM 4 7 (sSeq (sSet 4 (mLstC mNil))
    (sSeq (sFor (miRng1 (mCons (mVar 1) mNil)) (.nm 5) (sSeq (sSet 6 (mTup (mCons (mOp oSub (mCall (m_law_draw N) (mCons (mVar 0) (mCons (mOp oAdd (mOp oMul (mC (.int 2)) (mVar 2)) (mC (.int 1))) mNil))) (mVar 2)) (mCons (mOp oSub (mCall (m_law_draw N) (mCons (mVar 0) (mCons (mOp oAdd (mOp oMul (mC (.int 2)) (mVar 2)) (mC (.int 1))) mNil))) (mVar 2)) mNil))))
    (sDrop (mMethL omAppend (mVar 4) (mCons (mTup (mCons (mVar 6) (mCons (mCall (m_law_draw N) (mCons (mVar 0) (mCons (mVar 3) mNil))) mNil))) mNil)))))
    (sRet (mUn oTuple (mUn oSortSet2 (mVar 4))))))
def m_law_product (N : Nat) : On := fnM 2 5 (sSeq (sSet 2 (mLstC mNil))
    (sSeq (sFor (miSeq (mVar 0)) (.nm 3) (sDrop (mMethL omAppend (mVar 2) (mCons (mUn oTuple (mLc (miRng1 (mCons (mC (.int 2)) mNil)) (.nm 4) cYes (mOp oAdd (mOp oMul (mOp oIx (mVar 3) (mC (.int 0))) (mOp oIx (mOp oIx (mVar 1) (mC (.int 0))) (mVar 4))) (mOp oMul (mOp oIx (mVar 3) (mC (.int 1))) (mOp oIx (mOp oIx (mVar 1) (mC (.int 1))) (mVar 4)))))) mNil))))
    (sRet (mUn oTuple (mVar 2)))))
def m_law_kit (N : Nat) : On := fnM 1 8 (sSeq (sPar 2 3 (mCons (mOp oIx (mLst (mCons (mC (.int 1)) (mCons (mC (.int 2)) (mCons (mC (.int 3)) (mCons (mC (.int 4)) (mCons (mC (.int 4)) (mCons (mC (.int 12)) (mCons (mC (.int 40)) mNil)))))))) (mCall (m_law_draw N) (mCons (mVar 0) (mCons (mC (.int 7)) mNil)))) (mCons (mCall (m_law_table N) (mCons (mVar 0) mNil)) mNil)))
    (sSeq (sPar3 4 5 6 (mCons (mVar 3) (mCons (mOp oIx (mLst (mCons (mC (.int 6)) (mCons (mC (.int 6)) (mCons (mC (.int 20)) mNil)))) (mCall (m_law_draw N) (mCons (mVar 0) (mCons (mC (.int 3)) mNil)))) (mCons (mLstC mNil) mNil))))
    (sSeq (sIf (cB (mOp oLt (mVar 2) (mC (.int 5)))) (sSet 5 (mOp oIx (mLst (mCons (mC (.int 6)) (mCons (mC (.int 6)) (mCons (mC (.int 6)) (mCons (mC (.int 40)) (mCons (mC (.int 216)) (mCons (mOp oDiv (mC (.int 900)) (mVar 2)) mNil))))))) (mCall (m_law_draw N) (mCons (mVar 0) (mCons (mC (.int 6)) mNil))))) sNext)
    (sSeq (sFor (miRng1 (mCons (mVar 2) mNil)) (.nm 1) (sSeq (sSet 7 (mIf (cB (mOp oLt (mVar 5) (mC (.int 7)))) (mOp oIx (mLst (mCons (mC (.int 1)) (mCons (mC (.int 4)) (mCons (mC (.int 4)) (mCons (mC (.int 999999999)) mNil))))) (mCall (m_law_draw N) (mCons (mVar 0) (mCons (mC (.int 4)) mNil)))) (mC (.int 40))))
    (sDrop (mMethL omAppend (mVar 6) (mCons (mCall (m_law_copies N) (mCons (mVar 0) (mCons (mOp oAdd (mC (.int 1)) (mCall (m_law_draw N) (mCons (mVar 0) (mCons (mVar 5) mNil)))) (mCons (mVar 7) (mCons (mVar 2) mNil))))) mNil)))))
    (sSeq (sFor (miRng1 (mCons (mOp oIx (mLst (mCons (mC (.int 0)) (mCons (mC (.int 0)) (mCons (mC (.int 0)) (mCons (mC (.int 1)) (mCons (mC (.int 3)) (mCons (mC (.int 8)) mNil))))))) (mCall (m_law_draw N) (mCons (mVar 0) (mCons (mC (.int 6)) mNil)))) mNil)) (.nm 1) (sSet 4 (mCall (m_law_product N) (mCons (mVar 3) (mCons (mVar 4) mNil)))))
    (sRet (mTup (mCons (mVar 4) (mCons (mUn oTuple (mVar 6)) mNil)))))))))
def m_law_address (N : Nat) : On := fnM 1 5 (sSeq (sSet 1 (mLst (mCons (mOp oIx (mLst (mCons (mC (.int 0)) (mCons (mC (.int 1)) (mCons (mC (.int 2)) (mCons (mC (.int 7)) (mCons (mC (.int 40)) mNil)))))) (mCall (m_law_draw N) (mCons (mVar 0) (mCons (mC (.int 5)) mNil)))) (mCons (mOp oIx (mLst (mCons (mC (.int 1)) (mCons (mC (.int 1)) (mCons (mC (.int 2)) (mCons (mC (.int 3)) (mCons (mC (.int 9)) (mCons (mC (.int 96)) (mCons (mC (.int 3000)) mNil)))))))) (mCall (m_law_draw N) (mCons (mVar 0) (mCons (mC (.int 7)) mNil)))) mNil))))
    (sSeq (sSet 2 (mOp oIx (mLst (mCons (mC (.int 2)) (mCons (mC (.int 6)) (mCons (mC (.int 36)) (mCons (mC (.int 100000000)) mNil))))) (mCall (m_law_draw N) (mCons (mVar 0) (mCons (mC (.int 4)) mNil)))))
    (sRet (mUn oTuple (mLc (miSeq (mVar 1)) (.nm 3) cYes (mUn oTuple (mLc (miRng1 (mCons (mVar 3) mNil)) (.nm 4) cYes (mCall (m_law_draw N) (mCons (mVar 0) (mCons (mVar 2) mNil))))))))))
def m_law_said_number (N : Nat) : On := fnM 1 1 (sSeq (sIf (cB (mOp oEq (mOp oIx (mVar 0) (mC (.int 1))) (mC (.int 1)))) (sRet (mCall oStr (mCons (mOp oIx (mVar 0) (mC (.int 0))) mNil))) sNext)
    (sRet (mOp oAddS (mOp oAddS (mCall oStr (mCons (mOp oIx (mVar 0) (mC (.int 0))) mNil)) (mC (.str (Str.ofString "/")))) (mCall oStr (mCons (mOp oIx (mVar 0) (mC (.int 1))) mNil)))))
def m_law_said_address (N : Nat) : On := fnM 1 3 (sSeq (sSet 1 (mOp oAdd (mOp oAdd (mOp oAdd (mLc (miSeq (mOp oIx (mVar 0) (mC (.int 0)))) (.nm 2) cYes (mCall oStr (mCons (mVar 2) mNil))) (mLst (mCons (mC (.str (Str.ofString "("))) mNil))) (mLc (miSeq (mOp oIx (mVar 0) (mC (.int 1)))) (.nm 2) cYes (mCall oStr (mCons (mVar 2) mNil)))) (mLst (mCons (mC (.str (Str.ofString ")"))) mNil))))
    (sRet (mOp oJoin (mC (.str (Str.ofString " "))) (mVar 1))))
def m_law_said_copies (N : Nat) : On := fnM 1 4 (sSeq (sSet 1 (mLstC mNil))
    (sSeq (sFor (miSeq (mVar 0)) (.tp [(.nm 2), (.nm 3)]) (sDrop (mMethL omAppend (mVar 1) (mCons (mOp oAddS (mOp oAddS (mOp oAddS (mOp oAddS (mCall oStr (mCons (mOp oIx (mVar 2) (mC (.int 0))) mNil)) (mC (.str (Str.ofString " ")))) (mCall oStr (mCons (mOp oIx (mVar 2) (mC (.int 1))) mNil))) (mC (.str (Str.ofString " ")))) (mCall oStr (mCons (mVar 3) mNil))) mNil))))
    (sRet (mOp oJoin (mC (.str (Str.ofString ", "))) (mVar 1)))))
def m_law_said_kit (N : Nat) : On := fnM 1 5 (sSeq (sSet 1 (mLstC (mCons (mOp oAddS (mC (.str (Str.ofString "table "))) (mOp oJoin (mC (.str (Str.ofString " "))) (mLc (miSeq (mOp oAdd (mOp oIx (mOp oIx (mVar 0) (mC (.int 0))) (mC (.int 0))) (mOp oIx (mOp oIx (mVar 0) (mC (.int 0))) (mC (.int 1))))) (.nm 4) cYes (mCall oStr (mCons (mVar 4) mNil))))) mNil)))
    (sSeq (sFor (miEnumT (mOp oIx (mVar 0) (mC (.int 1)))) (.tp [(.nm 2), (.nm 3)]) (sDrop (mMethL omAppend (mVar 1) (mCons (mOp oAddS (mOp oAddS (mCall oStr (mCons (mVar 2) mNil)) (mC (.str (Str.ofString " : ")))) (mCall (m_law_said_copies N) (mCons (mVar 3) mNil))) mNil))))
    (sRet (mOp oJoin (mC (.str (Str.ofString "\n"))) (mVar 1)))))
def m_is_number (N : Nat) : On := fnM 1 1 (sRet (mAnd (mCall (m_is_offset N) (mCons (mVar 0) mNil)) (mAnd (mOp oGt (mOp oIx (mVar 0) (mC (.int 1))) (mC (.int 0))) (mOp oEq (mCall oGcd (mCons (mOp oIx (mVar 0) (mC (.int 0))) (mCons (mOp oIx (mVar 0) (mC (.int 1))) mNil))) (mC (.int 1))))))
def m_integer_from (N : Nat) : On := fnM 1 3 (sSeq (sSet 1 (mIf (cB (mOp oStarts (mVar 0) (mC (.str (Str.ofString "-"))))) (mSlS (mVar 0) (some (mC (.int 1))) none) (mVar 0)))
    (sSeq (sIf (cOr (cNot (cB (mUn oIsDec (mVar 1)))) (cB (mOp oGt (mCall oLenS (mCons (mVar 1) mNil)) (mC (.int 9))))) (sRet (mC .none)) sNext)
    (sSeq (sSet 2 (mCall oIntS (mCons (mVar 0) mNil)))
    (sRet (mIf (cB (mOp oEq (mCall oStr (mCons (mVar 2) mNil)) (mVar 0))) (mVar 2) (mC .none))))))
def m_number_from (N : Nat) : On := fnM 1 5 (sSeq (sAsg (.tp [(.nm 2), (.nm 3), (.nm 4)]) (mOp oPartition (mVar 0) (mC (.str (Str.ofString "/")))))
    (sSeq (sSet 1 (mTup (mCons (mCall (m_integer_from N) (mCons (mVar 2) mNil)) (mCons (mIf (cB (mOp oEq (mVar 3) (mC (.str (Str.ofString "/"))))) (mCall (m_integer_from N) (mCons (mVar 4) mNil)) (mC (.int 1))) mNil))))
    (sSeq (sIf (cOr (cNot (cB (mCall (m_is_number N) (mCons (mVar 1) mNil)))) (cAnd (cB (mOp oEq (mVar 3) (mC (.str (Str.ofString "/"))))) (cB (mOp oEq (mOp oIx (mVar 1) (mC (.int 1))) (mC (.int 1)))))) (sRet (mC .none)) sNext)
    (sRet (mVar 1)))))
def m_point_from (N : Nat) : On := fnM 1 3 (sSeq (sSet 1 (mUn oTuple (mLc (miSeq (mOp oSplit (mVar 0) (mC (.str (Str.ofString " "))))) (.nm 2) cYes (mCall (m_number_from N) (mCons (mVar 2) mNil)))))
    (sRet (mIf (cAnd (cB (mOp oEq (mCall oLen (mCons (mVar 1) mNil)) (mC (.int 2)))) (cB (mOp oNotIn2 (mC .none) (mVar 1)))) (mVar 1) (mC .none))))
def m_places_from (N : Nat) : On := fnM 1 4 (sSeq (sSet 1 (mUn oTuple (mLc (miSeq (mVar 0)) (.nm 2) cYes (mCall (m_integer_from N) (mCons (mVar 2) mNil)))))
    (sRet (mIf (cB (mCall oAll (mCons (mLc (miSeq (mVar 1)) (.nm 3) cYes (mAnd (mOp oIsNot (mVar 3) (mC .none)) (mOp oGe (mVar 3) (mC (.int 0))))) mNil))) (mVar 1) (mC .none))))
def m_address_from (N : Nat) : On := fnM 1 5 (sSeq (sSet 1 (mOp oSplit (mVar 0) (mC (.str (Str.ofString " ")))))
    (sSeq (sIf (cOr (cB (mOp oNe (mMethL omCount (mVar 1) (mCons (mC (.str (Str.ofString "("))) mNil)) (mC (.int 1)))) (cB (mOp oNe (mOp oIx (mVar 1) (mUn oNeg (mC (.int 1)))) (mC (.str (Str.ofString ")")))))) (sRet (mC .none)) sNext)
    (sSeq (sSet 2 (mMethL omIndex (mVar 1) (mCons (mC (.str (Str.ofString "("))) mNil)))
    (sSeq (sPar 3 4 (mCons (mCall (m_places_from N) (mCons (mSl (mVar 1) none (some (mVar 2))) mNil)) (mCons (mCall (m_places_from N) (mCons (mSl (mVar 1) (some (mOp oAdd (mVar 2) (mC (.int 1)))) (some (mUn oNeg (mC (.int 1))))) mNil)) mNil)))
    (sRet (mIf (cAnd (cB (mOp oIsNot (mVar 3) (mC .none))) (cAnd (cB (mOp oIsNot (mVar 4) (mC .none))) (cB (mOp oGt (mCall oLen (mCons (mVar 4) mNil)) (mC (.int 0)))))) (mTup (mCons (mVar 3) (mCons (mVar 4) mNil))) (mC .none)))))))
def m_one_line (N : Nat) : On := fnM 2 6 (sSeq (sAsg (.tp [(.nm 3), (.nm 4), (.nm 5)]) (mOp oPartition (mVar 0) (mC (.str (Str.ofString "\n")))))
    (sSeq (sSet 2 (mCallV [("number_from", (m_number_from N)), ("_point_from", (m_point_from N)), ("_address_from", (m_address_from N))] 1 (mCons (mVar 3) mNil)))
    (sSeq (sIf (cB (mOp oIs (mVar 2) (mC .none))) sNever sNext)
    (sSeq (sIf (cB (mOp oNe (mVar 4) (mC (.str (Str.ofString ""))))) sNever sNext)
    (sRet (mVar 2))))))
def m_read_number (N : Nat) : On := fnM 1 1 (sRet (mCall (m_one_line N) (mCons (mVar 0) (mCons (mFn "number_from") mNil))))
def m_read_point (N : Nat) : On := fnM 1 1 (sRet (mCall (m_one_line N) (mCons (mVar 0) (mCons (mFn "_point_from") mNil))))
def m_read_address (N : Nat) : On := fnM 1 1 (sRet (mCall (m_one_line N) (mCons (mVar 0) (mCons (mFn "_address_from") mNil))))
def m_table_from (N : Nat) : On := fnM 1 8 (sSeq (sSet 1 (mOp oSplit (mVar 0) (mC (.str (Str.ofString " ")))))
    (sSeq (sSet 2 (mLc (miSeq (mSl (mVar 1) (some (mC (.int 1))) none)) (.nm 7) cYes (mCall (m_integer_from N) (mCons (mVar 7) mNil))))
    (sSeq (sIf (cOr (cB (mOp oNe (mOp oIx (mVar 1) (mC (.int 0))) (mC (.str (Str.ofString "table"))))) (cOr (cB (mOp oNe (mCall oLen (mCons (mVar 2) mNil)) (mC (.int 4)))) (cB (mOp oIn2 (mC .none) (mVar 2))))) (sRet (mC .none)) sNext)
    (sSeq (sAsgL [(.nm 3), (.nm 4), (.nm 5), (.nm 6)] (mVar 2))
    (sRet (mTup (mCons (mTup (mCons (mVar 3) (mCons (mVar 4) mNil))) (mCons (mTup (mCons (mVar 5) (mCons (mVar 6) mNil))) mNil))))))))
def m_copy_from (N : Nat) : On := fnM 1 3 (sSeq (sSet 1 (mLc (miSeq (mOp oSplit (mVar 0) (mC (.str (Str.ofString " "))))) (.nm 2) cYes (mCall (m_integer_from N) (mCons (mVar 2) mNil))))
    (sSeq (sIf (cOr (cB (mOp oNe (mCall oLen (mCons (mVar 1) mNil)) (mC (.int 3)))) (cOr (cB (mOp oIn2 (mC .none) (mVar 1))) (cB (mOp oLt (mOp oIx (mVar 1) (mC (.int 2))) (mC (.int 0)))))) (sRet (mC .none)) sNext)
    (sRet (mTup (mCons (mTup (mCons (mOp oIx (mVar 1) (mC (.int 0))) (mCons (mOp oIx (mVar 1) (mC (.int 1))) mNil))) (mCons (mOp oIx (mVar 1) (mC (.int 2))) mNil))))))
def m_state_from (N : Nat) : On := fnM 2 7 (sSeq (sAsg (.tp [(.nm 3), (.nm 4), (.nm 5)]) (mOp oPartition (mVar 0) (mC (.str (Str.ofString " : ")))))
    (sSeq (sSet 2 (mUn oTuple (mLc (miSeq (mOp oSplit (mVar 5) (mC (.str (Str.ofString ", "))))) (.nm 6) cYes (mCall (m_copy_from N) (mCons (mVar 6) mNil)))))
    (sSeq (sIf (cOr (cB (mOp oNe (mVar 3) (mCall oStr (mCons (mVar 1) mNil)))) (cB (mOp oIn2 (mC .none) (mVar 2)))) (sRet (mC .none)) sNext)
    (sRet (mVar 2)))))
def m_read_kit (N : Nat) : On := fnM 1 7 (sSeq (sSet 1 (mOp oSplit (mVar 0) (mC (.str (Str.ofString "\n")))))
    (sSeq (sSet 2 (mCall (m_table_from N) (mCons (mOp oIx (mVar 1) (mC (.int 0))) mNil)))
    (sSeq (sIf (cB (mOp oIs (mVar 2) (mC .none))) sNever sNext)
    (sSeq (sSet 3 (mLstC mNil))
    (sSeq (sFor (miRng2 (mCons (mC (.int 1)) (mCons (mCall oLen (mCons (mVar 1) mNil)) mNil))) (.nm 4) (sSeq (sSet 6 (mCall (m_state_from N) (mCons (mOp oIx (mVar 1) (mVar 4)) (mCons (mOp oSub (mVar 4) (mC (.int 1))) mNil))))
    (sSeq (sIf (cB (mOp oIs (mVar 6) (mC .none))) sNever sNext)
    (sDrop (mMethL omAppend (mVar 3) (mCons (mVar 6) mNil))))))
    (sSeq (sSet 5 (mTup (mCons (mVar 2) (mCons (mUn oTuple (mVar 3)) mNil))))
    (sSeq (sIf (cNot (cB (mCall (m_is_kit N) (mCons (mVar 5) mNil)))) sNever sNext)
    (sRet (mVar 5)))))))))
end Pg

set_option maxHeartbeats 1000000
/-! what the program's shapes, tables and kits give, of data -/
namespace Pg
open PySem PySem.Spec PyProof.Rows L2 Mr
def isInt : PyData → Bool
  | .int _ => true
  | _ => false
def isPair : PyData → Bool
  | .tuple [_, _] => true
  | _ => false
def isOff : PyData → Bool
  | .tuple [.int _, .int _] => true
  | _ => false
def isTab : PyData → Bool
  | .tuple [r, s] => isOff r && isOff s
  | _ => false
def grows (a b c d : Int) : Bool := if 0 < a * d - b * c then decide (2 ≤ a * d - b * c) && (decide (-(a * d - b * c) ≤ a + d) && decide (a + d ≤ a * d - b * c)) else decide (a * d - b * c ≤ -2) && (decide (a * d - b * c + 2 ≤ a + d) && decide (a + d ≤ -(a * d - b * c) - 2))
def tabD (a b c d : Int) : PyData := .tuple [.tuple [.int a, .int b], .tuple [.int c, .int d]]
def isGrow : PyData → Bool
  | .tuple [.tuple [.int a, .int b], .tuple [.int c, .int d]] => grows a b c d
  | _ => false
def isPlace (m : Int) : PyData → Bool
  | .int i => decide (0 ≤ i) && decide (i < m)
  | _ => false
def isCopy (m : Int) : PyData → Bool
  | .tuple [o, s] => isOff o && isPlace m s
  | _ => false
def asc : List PyData → Bool
  | x :: y :: r => PySem.W.dataLt x y && asc (y :: r)
  | _ => true
def isState (m : Int) : PyData → Bool
  | .tuple ds => !ds.isEmpty && (ds.all (isCopy m) && asc ds)
  | _ => false
def isKit : PyData → Bool
  | .tuple [t, .tuple sts] => isGrow t && (!sts.isEmpty && sts.all (isState (sts.length : Nat)))
  | _ => false
variable {N : Nat} {S : Sto} {x y : PyData}
theorem e_is_integer : m_is_integer N [.d x] S = some (.d (.bool (isInt x)), S) := by
  cases x <;> exact fn_d rfl rfl
theorem len2 (ds : List PyData) : decide (((ds.length : Nat) : Int) = 2) = isPair (.tuple ds) := by
  match ds with
  | [] => rfl
  | [a] => rfl
  | [a, b] => rfl
  | a :: b :: c :: ds =>
    rw [decide_eq_false (by simp only [List.length_cons]; omega)]
    rfl
theorem e_is_pair : m_is_pair N [.d x] S = some (.d (.bool (isPair x)), S) := by
  refine fn_d rfl (ret_e ?_)
  cases x with
  | tuple ds =>
    rw [← len2]
    exact and_s (p := true) rfl fun _ => (op_e rfl rfl).trans o_eqI
  | _ => rfl
theorem pair_split (h : isPair x = true) : ∃ a b, x = .tuple [a, b] := by
  match x, h with
  | .tuple [a, b], _ => exact ⟨a, b, rfl⟩
theorem off_pair (a b : PyData) : isOff (.tuple [a, b]) = (isInt a && isInt b) := by cases a <;> cases b <;> rfl
theorem not_pair {f : PyData → Bool} (hf : ∀ x, isPair x = false → f x = false) (h : isPair x = false) : f x = (isPair x && false) := by rw [hf x h, h]; rfl
theorem off_no : ∀ x, isPair x = false → isOff x = false := fun x h => by
  unfold isOff
  split
  · cases h
  · rfl
theorem e_is_offset : m_is_offset N [.d x] S = some (.d (.bool (isOff x)), S) := by
  refine fn_d rfl (ret_e ?_)
  cases hp : isPair x with
  | true =>
    obtain ⟨a, b, rfl⟩ := pair_split hp
    rw [off_pair]
    exact and_s (p := true) ((call1 rfl).trans e_is_pair) fun _ => and_s ((call1 rfl).trans e_is_integer) fun _ => (call1 rfl).trans e_is_integer
  | false =>
    rw [not_pair off_no hp]
    exact and_s ((call1 rfl).trans e_is_pair) fun z => absurd (z.symm.trans hp) (by decide)
/-- ints whose products the model takes -/
def Fit (a b c d : Int) : Prop := CMulX a d ∧ CMulX b c
/-! ascending, states, kits -/
theorem state_tup (m : Int) (ds : List PyData) : isState m (.tuple ds) = (!ds.isEmpty && (ds.all (isCopy m) && asc ds)) := rfl
/-- what is_kit can be asked: no rows beyond the model's lines -/
structure KitFit (x : PyData) : Prop where
  tab : ∀ t r, x = .tuple [t, r] → ∀ a b c d, t = tabD a b c d → Fit a b c d
  row : ∀ t sts, x = .tuple [t, .tuple sts] → sts.length ≤ 1000 ∧ ∀ s ∈ sts, ∀ ds, s = .tuple ds → ds.length ≤ 1000
end Pg

set_option maxHeartbeats 1000000
/-! the laws' draws: decks, grids, gears -/
namespace Pg
open PySem PySem.Spec PyProof.Rows L2 Mr
/-- a deck stands in the cell n -/
def DkAt (n : Nat) (S : Sto) : Prop := ∃ x s : Int, S[n]? = some (.lst [.int x, .int s]) ∧ 0 ≤ s ∧ s < 2 ^ 64
/-- only the deck has changed -/
structure Dk (n : Nat) (S S' : Sto) : Prop where
  at' : DkAt n S'
  len : S'.length = S.length
  oth : ∀ m, m ≠ n → S'[m]? = S[m]?
theorem Dk.trans {n : Nat} {S S1 S2 : Sto} (h : Dk n S S1) (k : Dk n S1 S2) : Dk n S S2 := ⟨k.at', k.len.trans h.len, fun m hm => (k.oth m hm).trans (h.oth m hm)⟩
theorem ls_ref {n : Nat} {S : Sto} {ds : List PyData} (h : S[n]? = some (.lst ds)) : lsOf (.ref n) S = some ds := by
  unfold lsOf; dsimp only; rw [h]
theorem cell_ref {n : Nat} {S : Sto} {ds : List PyData} (h : S[n]? = some (.lst ds)) : cellL (.ref n) S = some (n, ds) := by
  unfold cellL; dsimp only; rw [h]
theorem put_cell {n : Nat} {S : Sto} {ds : List PyData} {k : Int} {j : Nat} {d : PyData} (h : S[n]? = some (.lst ds)) (hj : ixN ds.length k = some j) : putU (.ref n) (.d (.int k)) (.d d) S = some (S.set n (.lst (ds.set j d))) := by
  have : putL (.ref n) (.d (.int k)) (.d d) S = some (S.set n (.lst (ds.set j d))) := by
    unfold putL
    rw [cell_ref h, Option.bind_some]
    show (ixN ds.length k).bind _ = _
    rw [hj]; rfl
  unfold putU orP
  rw [this]
theorem sput_e {pt : P3} {mo mi m : M} {e : Mr.Env} {S S1 S2 S3 S4 : Sto} {v o i : W} (h1 : m e S = some (v, S1)) (h2 : mo e S1 = some (o, S2)) (h3 : mi e S2 = some (i, S3)) (h4 : pt o i v S3 = some S4) : sPut pt mo mi m e S = some (.nx e S4) := by
  unfold sPut
  rw [h1, Option.bind_some]
  dsimp only
  rw [h2, Option.bind_some]
  dsimp only
  rw [h3, Option.bind_some]
  dsimp only
  rw [h4]; rfl
theorem bits_le {i : Int} {n : Nat} (h : i.natAbs < 2 ^ n) : Builtin.Int.intBits i ≤ n := PyProof.Rows.intBits_le h
theorem mul_fit {i j : Int} {m n : Nat} (h : i.natAbs < 2 ^ m) (h' : j.natAbs < 2 ^ n) (l : m + n ≤ 134217728) : CMulX i j := mulx_ok h h' l
theorem div_fit {i j : Int} (h0 : 0 < j) (h : j < 2 ^ 62) : Sk.CDivZ i j := by
  refine ⟨by omega, ?_⟩
  have : j.natAbs < 2 ^ 62 := by omega
  have := PySem.Flt.log2_lt_of (show 0 < 62 by decide) this
  omega
variable {N : Nat}
end Pg

set_option maxHeartbeats 1000000
namespace Pg
open PySem PySem.Spec PyProof.Rows L2 Mr
variable {N : Nat} {S : Sto}
/-! tables by the law -/
/-- small tables -/
def SmallT (a b c d : Int) : Prop := a.natAbs ≤ 3 ∧ b.natAbs ≤ 3 ∧ c.natAbs ≤ 3 ∧ d.natAbs ≤ 3
/-- a table that grows, small, of a determinant of one figure -/
def GridOk (t : PyData) : Prop := ∃ a b c d : Int, t = tabD a b c d ∧ SmallT a b c d ∧ grows a b c d = true ∧ (a * d - b * c).natAbs < 10
def grids : List (Int × Int × Int × Int) := [(2, 0, 0, 2), (3, 0, 0, 3), (1, -1, 1, 1), (0, 2, 1, 0), (0, -2, 1, 1), (2, 0, 0, -3), (0, -3, 2, 0), (1, 1, -1, 2), (2, 1, 0, 2), (-1, -2, 1, -1), (0, 3, 1, -1)]
end Pg

set_option maxHeartbeats 1000000
namespace Pg
open PySem PySem.Spec PyProof.Rows L2 Mr
variable {N : Nat}
def gridsD : List PyData := grids.map fun g => tabD g.1 g.2.1 g.2.2.1 g.2.2.2
end Pg

set_option maxHeartbeats 1000000
/-! copies, and what sorting makes of them -/
namespace Pg
open PySem PySem.Spec PyProof.Rows L2 Mr
structure Cp where
  (a b k : Int)
  deriving DecidableEq
def cpD (c : Cp) : PyData := .tuple [.tuple [.int c.a, .int c.b], .int c.k]
def cpLt (c d : Cp) : Bool := decide (c.a < d.a) || (decide (c.a = d.a) && (decide (c.b < d.b) || (decide (c.b = d.b) && decide (c.k < d.k))))
def cpLe (c d : Cp) : Bool := PySem.W.dataLe false id (cpD c) (cpD d)
/-- small steps, states that there are -/
def CpOk (far many : Int) (c : Cp) : Prop := -far ≤ c.a ∧ c.a ≤ far ∧ -far ≤ c.b ∧ c.b ≤ far ∧ 0 ≤ c.k ∧ c.k < many
/-- a state: copies, ascending, each once -/
def StOk (most far many : Int) (s : PyData) : Prop := ∃ cs : List Cp, s = .tuple (cs.map cpD) ∧ cs ≠ [] ∧ (cs.length : Int) ≤ most ∧ asc (cs.map cpD) = true ∧ ∀ c ∈ cs, CpOk far many c
end Pg

set_option maxHeartbeats 1000000
/-! gears: kits that are drawn -/
namespace Pg
open PySem PySem.Spec PyProof.Rows L2 Mr
variable {N : Nat}
/-- the deck, in a store that grows -/
structure DkP (n : Nat) (S S' : Sto) : Prop where
  at' : DkAt n S'
  len : S.length ≤ S'.length
  oth : ∀ m, m < S.length → m ≠ n → S'[m]? = S[m]?
theorem Dk.p {n : Nat} {S S' : Sto} (h : Dk n S S') : DkP n S S' := ⟨h.at', by rw [h.len]; exact Nat.le_refl _, fun m _ hm => h.oth m hm⟩
theorem DkP.trans {n : Nat} {S S1 S2 : Sto} (h : DkP n S S1) (k : DkP n S1 S2) : DkP n S S2 := ⟨k.at', Nat.le_trans h.len k.len, fun m hl hm => (k.oth m (Nat.lt_of_lt_of_le hl h.len) hm).trans (h.oth m hl hm)⟩
theorem DkP.set {n : Nat} {S S' : Sto} (h : DkP n S S') {k : Nat} {o : O} (hk : S.length ≤ k) (hn : n < S.length) : DkP n S (S'.set k o) := by
  obtain ⟨x, s, e, r⟩ := h.at'
  exact ⟨⟨x, s, by rw [List.getElem?_set_ne (by omega)]; exact e, r⟩, by rw [List.length_set]; exact h.len, fun m hl hm => by
    rw [List.getElem?_set_ne (by omega)]
    exact h.oth m hl hm⟩
theorem DkP.cut {n : Nat} {S S' : Sto} (h : DkP n S S') (hn : n < S.length) : Dk n S (S'.take S.length) := by
  obtain ⟨x, s, e, r⟩ := h.at'
  refine ⟨⟨x, s, ?_, r⟩, ?_, fun m hm => ?_⟩
  · rw [List.getElem?_take, if_pos hn]; exact e
  · rw [List.length_take]; have := h.len; omega
  · rw [List.getElem?_take]
    by_cases hl : m < S.length
    · rw [if_pos hl]; exact h.oth m hl hm
    · rw [if_neg hl, List.getElem?_eq_none (by omega)]
/-- what a drawn gear is -/
structure GearOk (spots most far : Int) (sts : List PyData) : Prop where
  ne : sts ≠ []
  len : (sts.length : Int) ≤ spots
  st : ∀ s ∈ sts, StOk most far (sts.length : Nat) s
section
variable {n : Nat} {S : Sto} {t : PyData} {spots most far : Int}
end
end Pg

set_option maxHeartbeats 1000000
/-! sizes by binary digits; fractions in lowest terms -/
namespace Pg
open PySem PySem.Spec PyProof.Rows L2 Mr
variable {N : Nat} {S : Sto}
/-- fewer binary digits than so many -/
def Bt (k : Nat) (x : Int) : Prop := x.natAbs < 2 ^ k
theorem Bt.mono {k l : Nat} {x : Int} (h : Bt k x) (hl : k ≤ l) : Bt l x := Nat.lt_of_lt_of_le h (Nat.pow_le_pow_right (by decide) hl)
theorem Bt.mul {k l : Nat} {x y : Int} (h : Bt k x) (h' : Bt l y) : Bt (k + l) (x * y) := by
  unfold Bt at *
  rw [Int.natAbs_mul, Nat.pow_add]
  exact Nat.mul_lt_mul_of_lt_of_lt h h'
theorem Bt.neg {k : Nat} {x : Int} (h : Bt k x) : Bt k (-x) := by unfold Bt at *; rw [Int.natAbs_neg]; exact h
theorem Bt.add {k : Nat} {x y : Int} (h : Bt k x) (h' : Bt k y) : Bt (k + 1) (x + y) := by
  unfold Bt at *
  rw [Nat.pow_succ]
  generalize 2 ^ k = z at *
  omega
theorem Bt.sub {k : Nat} {x y : Int} (h : Bt k x) (h' : Bt k y) : Bt (k + 1) (x - y) := by
  rw [Int.sub_eq_add_neg]
  exact h.add h'.neg
/-- the greatest common part -/
def gc (t b : Int) : Int := ((Nat.gcd t.natAbs b.natAbs : Nat) : Int)
/-- t by b in lowest terms, b not 0 -/
def lo (t b : Int) : Int × Int := if b < 0 then (t.fdiv (-gc t b), b.fdiv (-gc t b)) else (t.fdiv (gc t b), b.fdiv (gc t b))
def loD (t b : Int) : PyData := .tuple [.int (lo t b).1, .int (lo t b).2]
/-! ### what lowest terms are: a fraction's own -/
/-- a point of one bottom -/
def ptD (x y b : Int) : PyData := .tuple [loD x b, loD y b]
end Pg

set_option maxHeartbeats 1000000
/-! tables, their powers, and what they take offsets to -/
namespace Pg
open PySem PySem.Spec PyProof.Rows L2 Mr
variable {N : Nat} {S : Sto}
structure Tm where
  a : Int
  b : Int
  c : Int
  d : Int
def Tm.D (m : Tm) : PyData := tabD m.a m.b m.c m.d
def Tm.det (m : Tm) : Int := m.a * m.d - m.b * m.c
def Tm.tr (m : Tm) : Int := m.a + m.d
def Tm.mul (x y : Tm) : Tm := ⟨x.a * y.a + x.b * y.c, x.a * y.b + x.b * y.d, x.c * y.a + x.d * y.c, x.c * y.b + x.d * y.d⟩
def Tm.one : Tm := ⟨1, 0, 0, 1⟩
def Tm.pw (m : Tm) : Nat → Tm
  | 0 => Tm.one
  | n + 1 => (m.pw n).mul m
/-- a table takes a pair to -/
def Tm.on (m : Tm) (v : Int × Int) : Int × Int := (m.a * v.1 + m.b * v.2, m.c * v.1 + m.d * v.2)
/-- the table of opposite cells -/
def Tm.adj (m : Tm) : Tm := ⟨m.d, -m.b, -m.c, m.a⟩
/-- the table less the one that changes nothing -/
def Tm.less (m : Tm) : Tm := ⟨m.a - 1, m.b, m.c, m.d - 1⟩
theorem Tm.ext' {x y : Tm} (h1 : x.a = y.a) (h2 : x.b = y.b) (h3 : x.c = y.c) (h4 : x.d = y.d) : x = y := by cases x; cases y; simp_all
theorem Tm.mul_assoc (x y z : Tm) : (x.mul y).mul z = x.mul (y.mul z) := by
  apply Tm.ext' <;> simp only [Tm.mul] <;> grind
def trq (t D : Int) : Nat → Int
  | 0 => 2
  | 1 => t
  | j + 2 => t * trq t D (j + 1) - D * trq t D j
/-- growth by determinant and trace alone -/
def gDT (D t : Int) : Bool := if 0 < D then decide (2 ≤ D) && (decide (-D ≤ t) && decide (t ≤ D)) else decide (D ≤ -2) && (decide (D + 2 ≤ t) && decide (t ≤ -D - 2))
/-- (traces, determinants) of the powers, from the n-th on, and one power more each: whether none of so many is of a table that leaves a point where it is -/
def noFix (t D : Int) : Nat → Int → Int → Int → Bool
  | 0, _, _, _ => true
  | n + 1, u, v, e => decide (1 - v + e ≠ 0) && noFix t D n v (t * v - D * u) (e * D)
def dts : List (Int × Int) := ((List.range 21).map fun (i : Nat) => (i : Int) - 10).flatMap fun D => ((List.range 21).map fun (i : Nat) => (i : Int) - 10).map fun t => (D, t)
/-! ### sizes -/
/-- all cells with fewer digits -/
structure Tm.Bts (k : Nat) (m : Tm) : Prop where
  a : Bt k m.a
  b : Bt k m.b
  c : Bt k m.c
  d : Bt k m.d
theorem Tm.Bts.mono {k l : Nat} {m : Tm} (h : m.Bts k) (hl : k ≤ l) : m.Bts l := ⟨h.a.mono hl, h.b.mono hl, h.c.mono hl, h.d.mono hl⟩
theorem Tm.Bts.mul {k l : Nat} {x y : Tm} (h : x.Bts k) (h' : y.Bts l) : (x.mul y).Bts (k + l + 1) := ⟨(h.a.mul h'.a).add (h.b.mul h'.c), (h.a.mul h'.b).add (h.b.mul h'.d), (h.c.mul h'.a).add (h.d.mul h'.c), (h.c.mul h'.b).add (h.d.mul h'.d)⟩
theorem Tm.Bts.adj {k : Nat} {x : Tm} (h : x.Bts k) : x.adj.Bts k := ⟨h.d, h.b.neg, h.c.neg, h.a⟩
theorem Tm.Bts.less {k : Nat} {x : Tm} (h : x.Bts k) (k1 : 1 ≤ k) : x.less.Bts (k + 1) := by
  have one : Bt k 1 := Bt.mono (k := 1) (show (1 : Int).natAbs < 2 ^ 1 by decide) k1
  exact ⟨h.a.sub one, h.b.mono (by omega), h.c.mono (by omega), h.d.sub one⟩
theorem Tm.Bts.det {k : Nat} {x : Tm} (h : x.Bts k) : Bt (k + k + 1) x.det := (h.a.mul h.d).sub (h.b.mul h.c)
theorem Tm.Bts.on {k l : Nat} {x : Tm} {v : Int × Int} (h : x.Bts k) (h1 : Bt l v.1) (h2 : Bt l v.2) : Bt (k + l + 1) (x.on v).1 ∧ Bt (k + l + 1) (x.on v).2 := ⟨(h.a.mul h1).add (h.b.mul h2), (h.c.mul h1).add (h.d.mul h2)⟩
theorem Tm.bts_one : Tm.one.Bts 1 := ⟨show (1 : Int).natAbs < 2 ^ 1 by decide, show (0 : Int).natAbs < 2 ^ 1 by decide, show (0 : Int).natAbs < 2 ^ 1 by decide, show (1 : Int).natAbs < 2 ^ 1 by decide⟩
theorem Tm.Bts.pw {k : Nat} {m : Tm} (h : m.Bts k) : ∀ n : Nat, (m.pw n).Bts ((k + 1) * n + 1)
  | 0 => Tm.bts_one.mono (by omega)
  | n + 1 => ((Tm.Bts.pw h n).mul h).mono (by rw [Nat.mul_succ]; omega)
/-! ### the program's own -/
end Pg

set_option maxHeartbeats 1000000
/-! powers, as the program reckons them; loops that are folds -/
namespace Pg
open PySem PySem.Spec PyProof.Rows L2 Mr
variable {N : Nat} {S : Sto}
end Pg

set_option maxHeartbeats 1000000
/-! kits that are drawn, as rows of copies; walks -/
namespace Pg
open PySem PySem.Spec PyProof.Rows L2 Mr
variable {N : Nat} {S : Sto}
def rowD (cs : List Cp) : PyData := .tuple (cs.map cpD)
def gearD (m : Tm) (gs : List (List Cp)) : PyData := .tuple [m.D, .tuple (gs.map rowD)]
structure GsOk (spots most far : Int) (gs : List (List Cp)) : Prop where
  ne : gs ≠ []
  len : (gs.length : Int) ≤ spots
  st : ∀ cs ∈ gs, cs ≠ [] ∧ (cs.length : Int) ≤ most ∧ asc (cs.map cpD) = true ∧ ∀ c ∈ cs, CpOk far (gs.length : Nat) c
/-- a kit as laws draw them -/
structure KOk (m : Tm) (gs : List (List Cp)) : Prop where
  gr : grows m.a m.b m.c m.d = true
  sm : SmallT m.a m.b m.c m.d
  dt : m.det.natAbs < 10
  gs : GsOk 4 6 4 gs
theorem KOk.kit {m : Tm} {gs : List (List Cp)} (h : KOk m gs) : isKit (gearD m gs) = true := by
  have he : (gs.map rowD).isEmpty = false := by
    have := h.gs.ne
    cases gs with
    | nil => exact absurd rfl this
    | cons => rfl
  show (grows m.a m.b m.c m.d && (!(gs.map rowD).isEmpty && (gs.map rowD).all (isState ((gs.map rowD).length : Nat)))) = true
  rw [h.gr, he, Bool.true_and, Bool.not_false, Bool.true_and, List.all_eq_true]
  intro s hs
  obtain ⟨cs, hcs, rfl⟩ := List.mem_map.mp hs
  obtain ⟨h2, _, h4, h5⟩ := h.gs.st cs hcs
  unfold rowD
  rw [state_tup, h4, Bool.and_true, Bool.and_eq_true, List.all_eq_true, List.length_map]
  refine ⟨?_, fun d hd => ?_⟩
  · cases cs with
    | nil => exact absurd rfl h2
    | cons => rfl
  · obtain ⟨c, hc, rfl⟩ := List.mem_map.mp hd
    obtain ⟨_, _, _, _, q5, q6⟩ := h5 c hc
    show (true && (decide (0 ≤ c.k) && decide (c.k < ((gs.length : Nat) : Int)))) = true
    rw [decide_eq_true q5, decide_eq_true q6]
    rfl
theorem KOk.few {m : Tm} {gs : List (List Cp)} (h : KOk m gs) : gs.length ≤ 4 ∧ ∀ cs ∈ gs, cs.length ≤ 6 := by
  have h1 := h.gs.len
  exact ⟨by omega, fun cs hc => by have := (h.gs.st cs hc).2.1; omega⟩
/-! ### walks -/
def cpAt (gs : List (List Cp)) (s p : Nat) : Option Cp := (gs[s]?).bind fun cs => cs[p]?
/-- (steps, the state at the end) of a row of places -/
def wk (gs : List (List Cp)) : Nat → List Nat → Option (List (Int × Int) × Nat)
  | s, [] => some ([], s)
  | s, p :: ps => (cpAt gs s p).bind fun c => (wk gs c.k.toNat ps).map fun r => ((c.a, c.b) :: r.1, r.2)
/-- the states of a walk, one more than places -/
def trail (gs : List (List Cp)) : Nat → List Nat → List Nat
  | s, [] => [s]
  | s, p :: ps => s :: match cpAt gs s p with
    | some c => trail gs c.k.toNat ps
    | none => []
theorem trail_at {gs : List (List Cp)} : ∀ {u v : List Nat} {s e : Nat} {l : List (Int × Int)}, wk gs s u = some (l, e) → (trail gs s (u ++ v))[u.length]? = some e
  | [], [], s, e, l, h => by cases h; rfl
  | [], p :: v, s, e, l, h => by cases h; rfl
  | p :: u, v, s, e, l, h => by
    unfold wk at h
    obtain ⟨c, e1, e2⟩ := bindS h
    obtain ⟨q, e3, e4⟩ := Option.map_eq_some_iff.mp e2
    cases e4
    rw [List.cons_append, List.length_cons]
    unfold trail
    rw [e1, List.getElem?_cons_succ]
    exact trail_at e3
def natsD (l : List Nat) : List PyData := l.map fun (p : Nat) => PyData.int p
def pathD (ps : List Nat) : PyData := .tuple (natsD ps)
end Pg

set_option maxHeartbeats 1000000
/-! walks and addresses, as the program goes through them -/
namespace Pg
open PySem PySem.Spec PyProof.Rows L2 Mr
variable {N : Nat} {S : Sto}
/-- an address: (steps ahead, steps around, the state where the ring begins) -/
def Adr (gs : List (List Cp)) (s : Nat) (u v : List Nat) (la lr : List (Int × Int)) (g : Nat) : Prop := wk gs s u = some (la, g) ∧ wk gs g v = some (lr, g) ∧ v ≠ []
end Pg

set_option maxHeartbeats 1000000
/-! points of addresses -/
namespace Pg
open PySem PySem.Spec PyProof.Rows L2 Mr
variable {N : Nat} {S : Sto}
def offD (v : Int × Int) : PyData := .tuple [.int v.1, .int v.2]
/-- the offset along steps, from one on -/
def Gl (m : Tm) (o : Int × Int) (l : List (Int × Int)) : Int × Int := l.foldl (fun o st => ((m.on o).1 + st.1, (m.on o).2 + st.2)) o
/-- where a walk leads -/
def ofA (m : Tm) (l : List (Int × Int)) : Int × Int := Gl m (0, 0) l
/-! ### the point -/
def ptR (m : Tm) (lr : List (Int × Int)) : Int × Int := (m.pw lr.length).less.adj.on (ofA m lr)
def ptBr (m : Tm) (lr : List (Int × Int)) : Int := (m.pw lr.length).less.det
def ptV (m : Tm) (la lr : List (Int × Int)) : Int × Int := (m.pw la.length).adj.on ((ptR m lr).1 + (ofA m la).1 * ptBr m lr, (ptR m lr).2 + (ofA m la).2 * ptBr m lr)
def ptB (m : Tm) (la lr : List (Int × Int)) : Int := ptBr m lr * (m.pw la.length).det
/-- the table times a point less a step, again and again -/
def Fl (m : Tm) (B : Int) (v : Int × Int) (l : List (Int × Int)) : Int × Int := l.foldl (fun v st => ((m.on v).1 - st.1 * B, (m.on v).2 - st.2 * B)) v
end Pg

set_option maxHeartbeats 1000000
/-! point_of, as the program reckons it -/
namespace Pg
open PySem PySem.Spec PyProof.Rows L2 Mr
variable {N : Nat} {S : Sto}
structure PtBt (m : Tm) (la lr : List (Int × Int)) : Prop where
  vx : Bt 900 (ptV m la lr).1
  vy : Bt 900 (ptV m la lr).2
  b : Bt 900 (ptB m la lr)
end Pg

set_option maxHeartbeats 1000000
/-! lists of states that were seen; whiles -/
namespace Pg
open PySem PySem.Spec PyProof.Rows L2 Mr
variable {N : Nat} {S : Sto}
/-- the same ring so many times -/
def reps (k : Nat) (l : List α) : List α := (List.replicate k l).flatten
end Pg

set_option maxHeartbeats 1000000
/-! walks without end: (state, place) at each turn; their periods -/
namespace Pg
open PySem PySem.Spec PyProof.Rows L2 Mr
abbrev Wrd := Nat → Nat × Nat
/-- from x on the same again after q turns -/
def Per (F : Wrd) (q x : Nat) : Prop := ∀ j, x ≤ j → F (j + q) = F j
theorem Per.up {F : Wrd} {q x y : Nat} (h : Per F q x) (hy : x ≤ y) : Per F q y := fun j hj => h j (by omega)
theorem Per.mul {F : Wrd} {q x : Nat} (h : Per F q x) : ∀ k j, x ≤ j → F (j + q * k) = F j
  | 0, j, hj => rfl
  | k + 1, j, hj => by
    rw [Nat.mul_succ, show j + (q * k + q) = (j + q * k) + q by omega, h _ (by omega), Per.mul h k j hj]
theorem Per.modP {F : Wrd} {m n x : Nat} (h : Per F m x) (h' : Per F n x) : Per F (m % n) x := fun j hj => by
  have := h'.mul (m / n) (j + m % n) (by omega)
  rw [← this, show j + m % n + n * (m / n) = j + m by have := Nat.div_add_mod m n; omega, h j hj]
theorem Per.gcd {F : Wrd} {x : Nat} : ∀ {m n : Nat}, Per F m x → Per F n x → Per F (Nat.gcd m n) x := fun {m n} => by
  induction m, n using Nat.gcd.induction with
  | H0 n => intro _ h; rw [Nat.gcd_zero_left]; exact h
  | H1 m n hm ih => intro h h'; rw [Nat.gcd_rec]; exact ih (h'.modP h) h
/-- a period far out is one from where another one begins -/
theorem Per.back {F : Wrd} {q L x a : Nat} (h : Per F q x) (hL : Per F L a) (h0 : 0 < L) : Per F q a := fun j hj => by
  have hk : x ≤ j + L * x := by
    have := Nat.mul_le_mul h0 (Nat.le_refl x)
    omega
  have h1 := hL.mul x (j + q) (by omega)
  have h2 := hL.mul x j hj
  rw [← h1, ← h2, show j + q + L * x = j + L * x + q by omega]
  exact h _ hk
/-- the shortest period there is, and where it begins at the earliest -/
structure Canon (F : Wrd) (p x : Nat) : Prop where
  pos : 0 < p
  per : Per F p x
  least : ∀ q y, 0 < q → Per F q y → p ≤ q
  first : ∀ y, Per F p y → x ≤ y
/-! ### pieces of it -/
/-- the places from one turn on -/
def pcs (F : Wrd) (i n : Nat) : List Nat := (List.range n).map fun j => (F (i + j)).2
theorem pcs_len (F : Wrd) (i n : Nat) : (pcs F i n).length = n := by unfold pcs; rw [List.length_map, List.length_range]
theorem pcs_get {F : Wrd} {i n j : Nat} (h : j < n) : (pcs F i n)[j]? = some (F (i + j)).2 := by
  unfold pcs
  rw [List.getElem?_map, List.getElem?_range h]
  rfl
theorem pcs_ext {l : List Nat} {F : Wrd} {i n : Nat} (hl : l.length = n) (h : ∀ j, j < n → l[j]? = some (F (i + j)).2) : l = pcs F i n := by
  apply List.ext_getElem?
  intro j
  rcases Nat.lt_or_ge j n with z | z
  · rw [h j z, pcs_get z]
  · rw [List.getElem?_eq_none (by omega), List.getElem?_eq_none (by rw [pcs_len]; exact z)]
theorem pcs_app (F : Wrd) (i m n : Nat) : pcs F i m ++ pcs F (i + m) n = pcs F i (m + n) := pcs_ext (by rw [List.length_append, pcs_len, pcs_len]) fun j hj => by
  rcases Nat.lt_or_ge j m with z | z
  · rw [List.getElem?_append_left (by rw [pcs_len]; exact z), pcs_get z]
  · rw [List.getElem?_append_right (by rw [pcs_len]; exact z), pcs_len, pcs_get (by omega), show i + m + (j - m) = i + j by omega]
theorem pcs_cons (F : Wrd) (i n : Nat) : pcs F i (n + 1) = (F i).2 :: pcs F (i + 1) n := by
  have := pcs_app F i 1 n
  rw [Nat.add_comm 1 n] at this
  rw [← this]
  rfl
/-! ### words that are walks -/
structure Wv (gs : List (List Cp)) (F : Wrd) : Prop where
  cp : ∀ i, ∃ c, cpAt gs (F i).1 (F i).2 = some c ∧ c.k.toNat = (F (i + 1)).1
/-- the step at a turn -/
def stp (gs : List (List Cp)) (F : Wrd) (i : Nat) : Int × Int := match cpAt gs (F i).1 (F i).2 with
  | some c => (c.a, c.b)
  | none => (0, 0)
def stps (gs : List (List Cp)) (F : Wrd) (i n : Nat) : List (Int × Int) := (List.range n).map fun j => stp gs F (i + j)
theorem stps_cons (gs : List (List Cp)) (F : Wrd) (i n : Nat) : stps gs F i (n + 1) = stp gs F i :: stps gs F (i + 1) n := by
  unfold stps
  rw [List.range_succ_eq_map, List.map_cons, List.map_map]
  have e : ((fun j => stp gs F (i + j)) ∘ Nat.succ) = fun j => stp gs F (i + 1 + j) := by
    funext j
    show stp gs F (i + (j + 1)) = _
    rw [show i + (j + 1) = i + 1 + j by omega]
  rw [e]
  rfl
theorem Wv.wk {gs : List (List Cp)} {F : Wrd} (h : Wv gs F) : ∀ n i, wk gs (F i).1 (pcs F i n) = some (stps gs F i n, (F (i + n)).1)
  | 0, i => rfl
  | n + 1, i => by
    obtain ⟨c, h1, h2⟩ := h.cp i
    rw [pcs_cons, stps_cons]
    show (cpAt gs (F i).1 (F i).2).bind _ = _
    rw [h1, Option.bind_some, h2, Wv.wk h n (i + 1)]
    show some ((c.a, c.b) :: stps gs F (i + 1) n, (F (i + 1 + n)).1) = _
    unfold stp
    rw [h1, show i + 1 + n = i + (n + 1) by omega]
theorem Wv.trail {gs : List (List Cp)} {F : Wrd} (h : Wv gs F) : ∀ n i j, j ≤ n → (trail gs (F i).1 (pcs F i n))[j]? = some (F (i + j)).1 := fun n i j hj => by
  have e := pcs_app F i j (n - j)
  rw [show j + (n - j) = n by omega] at e
  rw [← e]
  have := trail_at (v := pcs F (i + j) (n - j)) (h.wk j i)
  rwa [pcs_len] at this
/-- the word of an address -/
def wordOf (gs : List (List Cp)) (s : Nat) (u v : List Nat) : Wrd := fun i =>
  let t := trail gs s (u ++ v)
  let w := u ++ v
  if i < u.length then ((t[i]?).getD 0, (w[i]?).getD 0) else ((t[u.length + (i - u.length) % v.length]?).getD 0, (w[u.length + (i - u.length) % v.length]?).getD 0)
end Pg

set_option maxHeartbeats 1000000
/-! plain addresses, as the program finds them -/
namespace Pg
open PySem PySem.Spec PyProof.Rows L2 Mr
variable {N : Nat} {S : Sto}
def prD (x : Nat × Nat) : PyData := .tuple [.int (x.1 : Nat), .int (x.2 : Nat)]
def prsD (l : List (Nat × Nat)) : List PyData := l.map prD
/-- pairs of small numbers -/
def Sml (x : Nat × Nat) : Prop := x.1 < 2 ^ 60 ∧ x.2 < 2 ^ 60
/-- the turns from one on -/
def fl (F : Wrd) (i n : Nat) : List (Nat × Nat) := (List.range n).map fun j => F (i + j)
end Pg

set_option maxHeartbeats 1000000
namespace Pg
open PySem PySem.Spec PyProof.Rows L2 Mr
variable {N : Nat} {S : Sto}
end Pg

set_option maxHeartbeats 1000000
/-! shared: slices of cells, steps of a statement -/
namespace Pg
open PySem PySem.Spec PyProof.Rows L2 Mr
variable {N : Nat} {S : Sto}
theorem v_e {i : Nat} {e : Mr.Env} {S : Sto} {x : W} (h : e[i]? = some (some x)) : mVar i e S = some (x, S) := by unfold mVar; rw [h]
/-- the law's own end: a deck for each of some cells, what is asked of it -/
def lawB (N : Nat) (R : On) (hi : Int) : On := fnM 1 2 (sSeq (sFor (miRng1 (mCons (mCall oMax2 (mCons (mC (.int 2)) (mCons (mCall oMin2 (mCons (mCall oLen (mCons (mVar 0) mNil)) (mCons (mC (.int hi)) mNil))) mNil))) mNil)) (.nm 1) (sIf (cNot (cB (mCall R (mCons (mCall (m_law_deck N) (mCons (mVar 0) (mCons (mVar 1) mNil))) mNil)))) (sRet (mC (.bool false))) sNext))
    (sRet (mC (.bool true))))
end Pg

set_option maxHeartbeats 1000000
/-! Mr: mirrors gone through forward: what is asked of what a mirror gives -/
namespace Mr
open PySem PySem.Spec PyProof.Rows L2
def GvT (o : Option (Bool × Sto)) (Q : Bool → Sto → Prop) : Prop := ∃ x S, o = some (x, S) ∧ Q x S
def GvA (o : Option (List W × Sto)) (Q : List W → Sto → Prop) : Prop := ∃ x S, o = some (x, S) ∧ Q x S
def GvC (o : Option (List PyData × Sto)) (Q : List PyData → Sto → Prop) : Prop := ∃ x S, o = some (x, S) ∧ Q x S
/-- a truth, and what is asked of it -/
def IsBl (x : W) (k : Bool → Prop) : Prop := ∃ p, x = .d (.bool p) ∧ k p
def IsI (x : W) (k : Int → Prop) : Prop := ∃ p, x = .d (.int p) ∧ k p
/-- one or the other -/
def Brt (p : Bool) (A B : Prop) : Prop := (p = true → A) ∧ (p = false → B)
/-- what comes behind a statement -/
def Sq (b : MS) (Q : R → Prop) : R → Prop
  | .nx e S => GivesR (b e S) Q
  | r => Q r
/-- what a def's caller gets -/
def FnQ (S : Sto) (Q : W → Sto → Prop) : R → Prop
  | .nx _ S1 => Q (.d .none) (S1.take S.length)
  | .rt (.ref k) S1 => (k < S.length → Q (.ref k) (S1.take S.length)) ∧ (S.length ≤ k → ∃ o, S1[k]? = some o ∧ Q (.ref S.length) (S1.take S.length ++ [o]))
  | .rt x S1 => Q x (S1.take S.length)
  | _ => False
/-- a slot of the environment written -/
class LS (e : Env) (i : Nat) (x : Option W) (e' : outParam Env) : Prop where
  h : e.set i x = e' ∧ i < e.length
instance ls0 {a x : Option W} {l : Env} : LS (a :: l) 0 x (x :: l) := ⟨rfl, Nat.zero_lt_succ _⟩
instance lsS {a x : Option W} {l l' : Env} {n : Nat} [h : LS l n x l'] : LS (a :: l) (n + 1) x (a :: l') := ⟨by rw [List.set_cons_succ, h.h.1], by have := h.h.2; rw [List.length_cons]; omega⟩
/-- a target's slots emptied -/
class WT (t : Tg) (e : Env) (e' : outParam Env) : Prop where
  h : wipeE e t.names = e'
class WTs (ts : List Tg) (e : Env) (e' : outParam Env) : Prop where
  h : wipeE e (Tg.namess ts) = e'
theorem wipe_app : ∀ (l m : List Nat) (e : Env), wipeE e (l ++ m) = wipeE (wipeE e m) l
  | [], _, _ => rfl
  | i :: l, m, e => by
    show (wipeE e (l ++ m)).set i none = (wipeE (wipeE e m) l).set i none
    rw [wipe_app l m e]
instance wtNm {i : Nat} {e e' : Env} [h : LS e i none e'] : WT (.nm i) e e' := ⟨h.h.1⟩
instance wtTp {ts : List Tg} {e e' : Env} [h : WTs ts e e'] : WT (.tp ts) e e' := ⟨h.h⟩
instance wtNil {e : Env} : WTs [] e e := ⟨rfl⟩
instance wtCons {t : Tg} {ts : List Tg} {e e1 e2 : Env} [h : WTs ts e e1] [h' : WT t e1 e2] : WTs (t :: ts) e e2 := ⟨by
  show wipeE e (t.names ++ Tg.namess ts) = e2
  rw [wipe_app, h.h, h'.h]⟩
/-- a def's environment at its start -/
class LE (ws : List W) (n many : Nat) (e : outParam Env) : Prop where
  h : ws.length = n ∧ ws.map some ++ List.replicate (many - n) none = e
instance le0 : LE [] 0 0 [] := ⟨rfl, rfl⟩
instance leN {m : Nat} {e : Env} [h : LE [] 0 m e] : LE [] 0 (m + 1) (none :: e) := ⟨rfl, by
  have := h.h.2
  rw [List.map_nil, List.nil_append, Nat.sub_zero] at this ⊢
  rw [List.replicate_succ, this]⟩
instance leS {w : W} {ws : List W} {n m : Nat} {e : Env} [h : LE ws n m e] : LE (w :: ws) (n + 1) (m + 1) (some w :: e) := ⟨by rw [List.length_cons, h.h.1], by
  rw [List.map_cons, Nat.add_sub_add_right, List.cons_append, h.h.2]⟩
def SetE (e : Env) (i : Nat) (x : W) (k : Env → Prop) : Prop := i < e.length ∧ k (e.set i (some x))
/-- what is put into a tuple or a list -/
def Ds (ws : List W) (k : List PyData → Prop) : Prop := ∃ ds, datas ws = some ds ∧ ds.length ≤ lim ∧ k ds
def Its (x : W) (k : List W → Prop) : Prop := ∃ ws, itemsOf x = some ws ∧ k ws
def Rg1 (ws : List W) (k : Int → Prop) : Prop := ∃ j, ws = [.d (.int j)] ∧ -(2 ^ 62) ≤ j ∧ j < 2 ^ 62 ∧ k j
def Rg2 (ws : List W) (k : Int → Int → Prop) : Prop := ∃ i j, ws = [.d (.int i), .d (.int j)] ∧ -(2 ^ 62) ≤ i ∧ i < 2 ^ 62 ∧ -(2 ^ 62) ≤ j ∧ j < 2 ^ 62 ∧ k i j
section
variable {Q : W → Sto → Prop} {QA : List W → Sto → Prop} {QT : Bool → Sto → Prop} {QR : R → Prop} {QC : List PyData → Sto → Prop} {e env : Env} {S S1 : Sto} {m a b c : M} {ta tb : MT} {t : MA} {mi : MI} {tg : Tg} {sa sb : MS} {i j k : Nat} {x y : W} {o o' : O2} {o1 : O1} {f : On} {p : Bool} {A B : Prop}
theorem gM_var (h : e[i]? = some (some x)) (q : Q x S) : Gives (mVar i e S) Q := ⟨x, S, Pg.v_e h, q⟩
theorem gM_c {d : PyData} (q : Q (.d d) S) : Gives (mC d e S) Q := ⟨_, S, rfl, q⟩
theorem gM_op (h : Gives (a e S) fun x S1 => Gives (b e S1) fun y S2 => Gives (o x y S2) Q) : Gives (mOp o a b e S) Q := by
  obtain ⟨x, S1, e1, y, S2, e2, z, S3, e3, q⟩ := h
  exact ⟨z, S3, (op_e e1 e2).trans e3, q⟩
theorem gM_un (h : Gives (a e S) fun x S1 => Gives (o1 x S1) Q) : Gives (mUn o1 a e S) Q := by
  obtain ⟨x, S1, e1, z, S3, e3, q⟩ := h
  exact ⟨z, S3, (un_e e1).trans e3, q⟩
theorem gM_call (h : GvA (t e S) fun ws S1 => Gives (f ws S1) Q) : Gives (mCall f t e S) Q := by
  obtain ⟨x, S1, e1, z, S3, e3, q⟩ := h
  exact ⟨z, S3, by unfold mCall; rw [e1, Option.bind_some]; exact e3, q⟩
theorem gA_nil (q : QA [] S) : GvA (mNil e S) QA := ⟨_, S, rfl, q⟩
theorem gA_cons (h : Gives (a e S) fun x S1 => GvA (t e S1) fun ws S2 => QA (x :: ws) S2) : GvA (mCons a t e S) QA := by
  obtain ⟨x, S1, e1, ws, S2, e2, q⟩ := h
  exact ⟨_, S2, cons_e e1 e2, q⟩
theorem gM_tup (h : GvA (t e S) fun ws S1 => Ds ws fun ds => Q (.d (.tuple ds)) S1) : Gives (mTup t e S) Q := by
  obtain ⟨ws, S1, e1, ds, e2, hl, q⟩ := h
  exact ⟨_, S1, tup_e e1 e2 hl, q⟩
theorem gM_lst (h : GvA (t e S) fun ws S1 => Ds ws fun ds => Q (.d (.list ds)) S1) : Gives (mLst t e S) Q := by
  obtain ⟨ws, S1, e1, ds, e2, hl, q⟩ := h
  exact ⟨_, S1, lst_e e1 e2 hl, q⟩
theorem gM_lstC (h : GvA (t e S) fun ws S1 => Ds ws fun ds => Q (.ref S1.length) (S1 ++ [.lst ds])) : Gives (mLstC t e S) Q := by
  obtain ⟨ws, S1, e1, ds, e2, hl, q⟩ := h
  refine ⟨_, _, ?_, q⟩
  unfold mLstC
  rw [e1, Option.bind_some]
  dsimp only
  rw [e2, Option.bind_some, if_pos hl]
theorem ds_nil {k : List PyData → Prop} (q : k []) : Ds [] k := ⟨[], rfl, Nat.zero_le _, q⟩
theorem ds_1 {k : List PyData → Prop} {d : PyData} (q : k [d]) : Ds [.d d] k := ⟨[d], rfl, show 1 ≤ lim by decide, q⟩
theorem ds_2 {k : List PyData → Prop} {d d2 : PyData} (q : k [d, d2]) : Ds [.d d, .d d2] k := ⟨[d, d2], rfl, show 2 ≤ lim by decide, q⟩
theorem ds_3 {k : List PyData → Prop} {d d2 d3 : PyData} (q : k [d, d2, d3]) : Ds [.d d, .d d2, .d d3] k := ⟨[d, d2, d3], rfl, show 3 ≤ lim by decide, q⟩
theorem ds_n {k : List PyData → Prop} {ws : List W} {ds : List PyData} (h : datas ws = some ds) (hl : Nat.ble ds.length lim = true) (q : k ds) : Ds ws k := ⟨ds, h, Nat.le_of_ble_eq_true hl, q⟩
theorem isbl {k : Bool → Prop} (q : k p) : IsBl (.d (.bool p)) k := ⟨p, rfl, q⟩
theorem isI {k : Int → Prop} {i : Int} (q : k i) : IsI (.d (.int i)) k := ⟨i, rfl, q⟩
theorem brt_t (q : A) : Brt true A B := ⟨fun _ => q, fun h => nomatch h⟩
theorem brt_f (q : B) : Brt false A B := ⟨fun h => (nomatch h), fun _ => q⟩
theorem brt_nt (q : B) : Brt (!true) A B := brt_f q
theorem brt_nf (q : A) : Brt (!false) A B := brt_t q
theorem brt_dt {P : Prop} [Decidable P] (h : P) (q : A) : Brt (decide P) A B := ⟨fun _ => q, fun z => absurd h (of_decide_eq_false z)⟩
theorem brt_df {P : Prop} [Decidable P] (h : ¬P) (q : B) : Brt (decide P) A B := ⟨fun z => absurd (of_decide_eq_true z) h, fun _ => q⟩
theorem brt_ndt {P : Prop} [Decidable P] (h : P) (q : B) : Brt (!decide P) A B := by rw [decide_eq_true h]; exact brt_f q
theorem brt_ndf {P : Prop} [Decidable P] (h : ¬P) (q : A) : Brt (!decide P) A B := by rw [decide_eq_false h]; exact brt_t q
theorem brt_d {P : Prop} [Decidable P] (h : P → A) (h' : ¬P → B) : Brt (decide P) A B := ⟨fun z => h (of_decide_eq_true z), fun z => h' (of_decide_eq_false z)⟩
theorem brt_nd {P : Prop} [Decidable P] (h : P → B) (h' : ¬P → A) : Brt (!decide P) A B := by
  by_cases w : P
  · exact brt_ndt w (h w)
  · exact brt_ndf w (h' w)
theorem brt_b (h : p = true → A) (h' : p = false → B) : Brt p A B := ⟨h, h'⟩
theorem gM_and (h : Gives (a e S) fun x S1 => IsBl x fun p => Brt p (Gives (b e S1) Q) (Q (.d (.bool false)) S1)) : Gives (mAnd a b e S) Q := by
  obtain ⟨x, S1, e1, p, rfl, h1, h2⟩ := h
  unfold mAnd
  rw [e1, Option.bind_some]
  cases p with
  | true => exact h1 rfl
  | false => exact ⟨_, S1, rfl, h2 rfl⟩
theorem gM_not (h : Gives (a e S) fun x S1 => IsBl x fun p => Q (.d (.bool (!p))) S1) : Gives (mNot a e S) Q := by
  obtain ⟨x, S1, e1, p, rfl, q⟩ := h
  exact ⟨_, S1, not_s e1, q⟩
theorem gM_if (h : GvT (ta e S) fun p S1 => Brt p (Gives (a e S1) Q) (Gives (b e S1) Q)) : Gives (mIf ta a b e S) Q := by
  obtain ⟨p, S1, e1, h1, h2⟩ := h
  unfold mIf
  rw [e1, Option.bind_some]
  cases p with
  | true => exact h1 rfl
  | false => exact h2 rfl
theorem gT_B (h : Gives (a e S) fun x S1 => IsBl x fun p => QT p S1) : GvT (cB a e S) QT := by
  obtain ⟨x, S1, e1, p, rfl, q⟩ := h
  exact ⟨p, S1, cB_e e1, q⟩
theorem gT_not (h : GvT (ta e S) fun p S1 => QT (!p) S1) : GvT (cNot ta e S) QT := by
  obtain ⟨p, S1, e1, q⟩ := h
  exact ⟨_, S1, cNot_e e1, q⟩
theorem gT_and (h : GvT (ta e S) fun p S1 => Brt p (GvT (tb e S1) QT) (QT false S1)) : GvT (cAnd ta tb e S) QT := by
  obtain ⟨p, S1, e1, h1, h2⟩ := h
  unfold cAnd
  rw [e1, Option.bind_some]
  cases p with
  | true => exact h1 rfl
  | false => exact ⟨_, S1, rfl, h2 rfl⟩
theorem gT_or (h : GvT (ta e S) fun p S1 => Brt p (QT true S1) (GvT (tb e S1) QT)) : GvT (cOr ta tb e S) QT := by
  obtain ⟨p, S1, e1, h1, h2⟩ := h
  unfold cOr
  rw [e1, Option.bind_some]
  cases p with
  | true => exact ⟨_, S1, rfl, h1 rfl⟩
  | false => exact h2 rfl
/-! statements -/
theorem gS_seq (h : GivesR (sa e S) (Sq sb QR)) : GivesR (sSeq sa sb e S) QR := by
  obtain ⟨r, e1, q⟩ := h
  unfold sSeq
  rw [e1, Option.bind_some]
  cases r with
  | nx e1 S1 => exact q
  | bk e1 S1 => exact ⟨_, rfl, q⟩
  | ct e1 S1 => exact ⟨_, rfl, q⟩
  | rt x S1 => exact ⟨_, rfl, q⟩
theorem sq_nx (h : GivesR (sb e S) QR) : Sq sb QR (.nx e S) := h
theorem sq_rt (h : QR (.rt x S)) : Sq sb QR (.rt x S) := h
theorem gS_next (q : QR (.nx e S)) : GivesR (sNext e S) QR := ⟨_, rfl, q⟩
theorem gS_ret (h : Gives (m e S) fun x S1 => QR (.rt x S1)) : GivesR (sRet m e S) QR := by
  obtain ⟨x, S1, e1, q⟩ := h
  exact ⟨_, ret_e e1, q⟩
theorem gS_drop (h : Gives (m e S) fun _ S1 => QR (.nx e S1)) : GivesR (sDrop m e S) QR := by
  obtain ⟨x, S1, e1, q⟩ := h
  exact ⟨_, drop_e e1, q⟩
theorem gS_set (h : Gives (m e S) fun x S1 => SetE e i x fun e' => QR (.nx e' S1)) : GivesR (sSet i m e S) QR := by
  obtain ⟨x, S1, e1, hi, q⟩ := h
  exact ⟨_, set_e e1 hi, q⟩
theorem setE_i {k : Env → Prop} {e' : Env} [h : LS e i (some x) e'] (q : k e') : SetE e i x k := ⟨h.h.2, by rw [h.h.1]; exact q⟩
def Two (ws : List W) (k : W → W → Prop) : Prop := ∃ x y, ws = [x, y] ∧ k x y
def Three (ws : List W) (k : W → W → W → Prop) : Prop := ∃ x y z, ws = [x, y, z] ∧ k x y z
theorem two {k : W → W → Prop} (q : k x y) : Two [x, y] k := ⟨x, y, rfl, q⟩
theorem three {k : W → W → W → Prop} {z : W} (q : k x y z) : Three [x, y, z] k := ⟨x, y, z, rfl, q⟩
theorem gS_par (h : GvA (t e S) fun ws S1 => Two ws fun x y => SetE e i x fun e1 => SetE e1 j y fun e2 => QR (.nx e2 S1)) : GivesR (sPar i j t e S) QR := by
  obtain ⟨ws, S1, e1, x, y, rfl, _, _, q⟩ := h
  refine ⟨_, ?_, q⟩
  unfold sPar
  rw [e1, Option.bind_some]
theorem gS_par3 (h : GvA (t e S) fun ws S1 => Three ws fun x y z => SetE e i x fun e1 => SetE e1 j y fun e2 => SetE e2 k z fun e3 => QR (.nx e3 S1)) : GivesR (sPar3 i j k t e S) QR := by
  obtain ⟨ws, S1, e1, x, y, z, rfl, _, _, _, q⟩ := h
  refine ⟨_, ?_, q⟩
  unfold sPar3
  rw [e1, Option.bind_some]
def TgE (tg : Tg) (x : W) (e : Env) (k : Env → Prop) : Prop := ∃ e', tg.set x e = some e' ∧ k e'
theorem gS_asg (h : Gives (m e S) fun x S1 => TgE tg x e fun e' => QR (.nx e' S1)) : GivesR (sAsg tg m e S) QR := by
  obtain ⟨x, S1, e1, e', e2, q⟩ := h
  refine ⟨_, ?_, q⟩
  unfold sAsg
  rw [e1, Option.bind_some]
  dsimp only
  rw [e2, Option.bind_some]
def TgsE (ts : List Tg) (x : W) (e : Env) (k : Env → Prop) : Prop := ∃ ds e', x = .d (.list ds) ∧ ds.length = ts.length ∧ Tg.sets ts ds e = some e' ∧ k e'
/-- targets by slots -/
theorem tgE_nm {k : Env → Prop} {e' : Env} [h : LS e i (some x) e'] (q : k e') : TgE (.nm i) x e k := ⟨e', by
  show some (e.set i (some x)) = _
  rw [h.h.1], q⟩
theorem tgE_2 {k : Env → Prop} {t1 t2 : Tg} {d1 d2 : PyData} (q : TgE t1 (.d d1) e fun e1 => TgE t2 (.d d2) e1 k) : TgE (.tp [t1, t2]) (.d (.tuple [d1, d2])) e k := by
  obtain ⟨e1, h1, e2, h2, q⟩ := q
  refine ⟨e2, ?_, q⟩
  show (if (2 : Nat) = 2 then Tg.sets [t1, t2] [d1, d2] e else none) = _
  rw [if_pos rfl]
  show ((Tg.set t1 (.d d1) e).bind fun e1 => (Tg.set t2 (.d d2) e1).bind fun e2 => some e2) = _
  rw [h1, Option.bind_some, h2, Option.bind_some]
theorem tgE_3 {k : Env → Prop} {t1 t2 t3 : Tg} {d1 d2 d3 : PyData} (q : TgE t1 (.d d1) e fun e1 => TgE t2 (.d d2) e1 fun e2 => TgE t3 (.d d3) e2 k) : TgE (.tp [t1, t2, t3]) (.d (.tuple [d1, d2, d3])) e k := by
  obtain ⟨e1, h1, e2, h2, e3, h3, q⟩ := q
  refine ⟨e3, ?_, q⟩
  show (if (3 : Nat) = 3 then Tg.sets [t1, t2, t3] [d1, d2, d3] e else none) = _
  rw [if_pos rfl]
  show ((Tg.set t1 (.d d1) e).bind fun e1 => (Tg.set t2 (.d d2) e1).bind fun e2 => (Tg.set t3 (.d d3) e2).bind fun e3 => some e3) = _
  rw [h1, Option.bind_some, h2, Option.bind_some, h3, Option.bind_some]
theorem gS_if (h : GvT (ta e S) fun p S1 => Brt p (GivesR (sa e S1) QR) (GivesR (sb e S1) QR)) : GivesR (sIf ta sa sb e S) QR := by
  obtain ⟨p, S1, e1, h1, h2⟩ := h
  unfold sIf
  rw [e1, Option.bind_some]
  cases p with
  | true => exact h1 rfl
  | false => exact h2 rfl
theorem gS_for (h : GvA (mi e S) fun ws S1 => GivesR (forL tg sa ws e S1) QR) : GivesR (sFor mi tg sa e S) QR := by
  obtain ⟨ws, S1, e1, r, e2, q⟩ := h
  refine ⟨r, ?_, q⟩
  unfold sFor
  rw [e1, Option.bind_some]
  exact e2
theorem gI_seq (h : Gives (m e S) fun x S1 => Its x fun ws => QA ws S1) : GvA (miSeq m e S) QA := by
  obtain ⟨x, S1, e1, ws, e2, q⟩ := h
  refine ⟨ws, S1, ?_, q⟩
  unfold miSeq
  rw [e1, Option.bind_some]
  dsimp only
  rw [e2, Option.bind_some]
theorem its_tm {α : Type} {k : List W → Prop} {g : α → PyData} {l : List α} (q : k (l.map fun x => W.d (g x))) : Its (.d (.tuple (l.map g))) k := ⟨_, rfl, by rw [List.map_map]; exact q⟩
theorem its_lm {α : Type} {k : List W → Prop} {g : α → PyData} {l : List α} (q : k (l.map fun x => W.d (g x))) : Its (.d (.list (l.map g))) k := ⟨_, rfl, by rw [List.map_map]; exact q⟩
theorem its_l {k : List W → Prop} {ds : List PyData} (q : k (ds.map W.d)) : Its (.d (.list ds)) k := ⟨_, rfl, q⟩
theorem gI_rng1 (h : GvA (t e S) fun ws S1 => Rg1 ws fun j => QA (rng 0 j.toNat) S1) : GvA (miRng1 t e S) QA := by
  obtain ⟨ws, S1, e1, j, rfl, h1, h2, q⟩ := h
  refine ⟨_, S1, ?_, q⟩
  unfold miRng1
  rw [e1, Option.bind_some]
  dsimp only
  rw [if_pos ⟨h1, h2⟩]
theorem rg1 {k : Int → Prop} {j : Int} (h1 : -(2 ^ 62) ≤ j) (h2 : j < 2 ^ 62) (q : k j) : Rg1 [.d (.int j)] k := ⟨j, rfl, h1, h2, q⟩
theorem gM_lc [hw : WT tg e env] (h : GvA (mi e S) fun ws S1 => ws.length ≤ lim ∧ GvC (compL tg ta m env ws S1) fun ds S2 => Q (.d (.list ds)) S2) : Gives (mLc mi tg ta m e S) Q := by
  have hh := hw.h
  subst hh
  obtain ⟨ws, S1, e1, hl, ds, S2, e2, q⟩ := h
  exact ⟨_, S2, lc_e e1 hl e2, q⟩
theorem gF {n many : Nat} {ws : List W} {sa : MS} {env : Env} [h : LE ws n many env] (q : GivesR (sa env S) (FnQ S Q)) : Gives (fnM n many sa ws S) Q := by
  obtain ⟨r, e1, q⟩ := q
  unfold fnM
  rw [if_pos h.h.1, h.h.2, e1, Option.bind_some]
  cases r with
  | nx e1 S1 => exact ⟨_, _, rfl, q⟩
  | bk e1 S1 => exact q.elim
  | ct e1 S1 => exact q.elim
  | rt x S1 =>
    cases x with
    | d y => exact ⟨_, _, rfl, q⟩
    | scr y => exact ⟨_, _, rfl, q⟩
    | kd y => exact ⟨_, _, rfl, q⟩
    | fn y => exact ⟨_, _, rfl, q⟩
    | ex c y => exact ⟨_, _, rfl, q⟩
    | ref k =>
      dsimp only
      by_cases hk : k < S.length
      · rw [if_pos hk]; exact ⟨_, _, rfl, q.1 hk⟩
      · rw [if_neg hk]
        obtain ⟨o, e2, q2⟩ := q.2 (by omega)
        exact ⟨_, _, by rw [e2, Option.bind_some], q2⟩
theorem fq_d {d : PyData} (q : Q (.d d) (S1.take S.length)) : FnQ S Q (.rt (.d d) S1) := q
theorem fq_new {n : Nat} {o : O} (hn : n = S.length) (h : S1[n]? = some o) (q : Q (.ref S.length) (S1.take S.length ++ [o])) : FnQ S Q (.rt (.ref n) S1) := ⟨fun hk => absurd hk (by omega), fun _ => ⟨o, h, q⟩⟩
end
/-! operators -/
section
variable {Q : W → Sto → Prop} {S : Sto} {i j : Int} {p q : Bool} {x y : Str} {w w' : W} {d d' : PyData} {ds es : List PyData}
theorem q_add (h : Q (.d (.int (i + j))) S) : Gives (oAdd (.d (.int i)) (.d (.int j)) S) Q := ⟨_, S, rfl, h⟩
theorem q_sub (h : Q (.d (.int (i - j))) S) : Gives (oSub (.d (.int i)) (.d (.int j)) S) Q := ⟨_, S, rfl, h⟩
theorem q_neg (h : Q (.d (.int (-i))) S) : Gives (oNeg (.d (.int i)) S) Q := ⟨_, S, rfl, h⟩
theorem q_mul {m n : Nat} (h1 : i.natAbs < 2 ^ m) (h2 : j.natAbs < 2 ^ n) (l : m + n ≤ 134217728) (h : Q (.d (.int (i * j))) S) : Gives (oMul (.d (.int i)) (.d (.int j)) S) Q := ⟨_, S, o_mul (Pg.mul_fit h1 h2 l), h⟩
theorem q_mulX (h1 : CMulX i j) (h : Q (.d (.int (i * j))) S) : Gives (oMul (.d (.int i)) (.d (.int j)) S) Q := ⟨_, S, o_mul h1, h⟩
theorem q_mod (h1 : 0 < j) (h : Q (.d (.int (i % j))) S) : Gives (oMod (.d (.int i)) (.d (.int j)) S) Q := ⟨_, S, o_mod h1, h⟩
theorem q_divX (h1 : Sk.CDivZ i j) (h : Q (.d (.int (i.fdiv j))) S) : Gives (oDiv (.d (.int i)) (.d (.int j)) S) Q := ⟨_, S, o_div h1, h⟩
theorem q_div (h1 : 0 < j) (h2 : j < 2 ^ 62) (h : Q (.d (.int (i.fdiv j))) S) : Gives (oDiv (.d (.int i)) (.d (.int j)) S) Q := ⟨_, S, o_div (Pg.div_fit h1 h2), h⟩
theorem q_eq (h : Q (.d (.bool (decide (i = j)))) S) : Gives (oEq (.d (.int i)) (.d (.int j)) S) Q := ⟨_, S, o_eqI, h⟩
theorem q_ne (h : Q (.d (.bool (!decide (i = j)))) S) : Gives (oNe (.d (.int i)) (.d (.int j)) S) Q := ⟨_, S, o_neI, h⟩
theorem q_neB (h : Q (.d (.bool (!decide (p = q)))) S) : Gives (oNe (.d (.bool p)) (.d (.bool q)) S) Q := ⟨_, S, o_neB, h⟩
theorem q_lt (h : Q (.d (.bool (decide (i < j)))) S) : Gives (oLt (.d (.int i)) (.d (.int j)) S) Q := ⟨_, S, rfl, h⟩
theorem q_gt (h : Q (.d (.bool (decide (j < i)))) S) : Gives (oGt (.d (.int i)) (.d (.int j)) S) Q := ⟨_, S, rfl, h⟩
theorem q_ge (h : Q (.d (.bool (decide (j ≤ i)))) S) : Gives (oGe (.d (.int i)) (.d (.int j)) S) Q := ⟨_, S, rfl, h⟩
theorem q_isN (h : Q (.d (.bool (isN w))) S) : Gives (oIs w (.d .none) S) Q := ⟨_, S, rfl, h⟩
theorem q_isNotN (h : Q (.d (.bool (!isN w))) S) : Gives (oIsNot w (.d .none) S) Q := ⟨_, S, rfl, h⟩
theorem q_isi {n : Ty} (h : Q (.d (.bool (isT d n))) S) : Gives (oIsi n (.d d) S) Q := ⟨_, S, rfl, h⟩
theorem q_ixT (h1 : atI ds i = some d) (h : Q (.d d) S) : Gives (oIx (.d (.tuple ds)) (.d (.int i)) S) Q := ⟨_, S, o_ix h1, h⟩
theorem q_ixL (h1 : atI ds i = some d) (h : Q (.d d) S) : Gives (oIx (.d (.list ds)) (.d (.int i)) S) Q := ⟨_, S, o_ixL rfl h1, h⟩
theorem q_ixC {n : Nat} (hs : S[n]? = some (.lst ds)) (h1 : atI ds i = some d) (h : Q (.d d) S) : Gives (oIx (.ref n) (.d (.int i)) S) Q := ⟨_, S, o_ixL (Pg.ls_ref hs) h1, h⟩
theorem q_catL (hl : ds.length + es.length ≤ lim) (h : Q (.d (.list (ds ++ es))) S) : Gives (oAdd (.d (.list ds)) (.d (.list es)) S) Q := ⟨_, S, o_catL hl, h⟩
theorem q_int (h : Q (.d (.int i)) S) : Gives (oInt [.d (.int i)] S) Q := ⟨_, S, rfl, h⟩
theorem q_abs (h : Q (.d (.int ((i.natAbs : Nat) : Int))) S) : Gives (oAbs [.d (.int i)] S) Q := ⟨_, S, rfl, h⟩
theorem q_max2 (h : Q (.d (.int (max i j))) S) : Gives (oMax2 [.d (.int i), .d (.int j)] S) Q := ⟨_, S, rfl, h⟩
theorem q_min2 (h : Q (.d (.int (min i j))) S) : Gives (oMin2 [.d (.int i), .d (.int j)] S) Q := ⟨_, S, rfl, h⟩
theorem q_lenT (h : Q (.d (.int (ds.length : Nat))) S) : Gives (oLen [.d (.tuple ds)] S) Q := ⟨_, S, rfl, h⟩
theorem q_lenL (h : Q (.d (.int (ds.length : Nat))) S) : Gives (oLen [.d (.list ds)] S) Q := ⟨_, S, rfl, h⟩
theorem q_lenScr {ns : List Int} (h : Q (.d (.int (ns.length : Nat))) S) : Gives (oLen [.scr ns] S) Q := ⟨.d (.int ((ns.map PyData.int).length : Nat)), S, rfl, by rw [List.length_map]; exact h⟩
theorem q_tupL (h : Q (.d (.tuple ds)) S) : Gives (oTuple (.d (.list ds)) S) Q := ⟨_, S, rfl, h⟩
theorem q_all {bs : List Bool} (h : Q (.d (.bool (bs.all id))) S) : Gives (oAll [.d (.list (bs.map PyData.bool))] S) Q := ⟨_, S, o_all, h⟩
theorem q_powX (h1 : CPowW i j) (h : Q (.d (.int (i ^ j.toNat))) S) : Gives (oPowW (.d (.int i)) (.d (.int j)) S) Q := ⟨_, S, o_powW h1, h⟩
theorem q_addS (hl : x.length + y.length ≤ slim) (h : Q (.d (.str (x ++ y))) S) : Gives (oAddS (.d (.str x)) (.d (.str y)) S) Q := ⟨_, S, by
  show (if x.length + y.length ≤ slim then _ else _) = _
  rw [if_pos hl], h⟩
theorem q_str (hl : i.natAbs.log2 < 1920) (h : Q (.d (.str (toString i))) S) : Gives (oStr [.d (.int i)] S) Q := ⟨_, S, by
  show (if i.natAbs.log2 < 1920 then _ else _) = _
  rw [if_pos hl], h⟩
theorem q_lenS (hl : x.length ≤ slim) (h : Q (.d (.int (x.length : Nat))) S) : Gives (oLenS [.d (.str x)] S) Q := ⟨_, S, by
  show (if x.length ≤ slim then _ else _) = _
  rw [if_pos hl], h⟩
theorem q_joinL {ys : List Str} (hl : (ys.map (·.length)).sum + ys.length * x.length ≤ slim) (h : Q (.d (.str (Str.join x ys))) S) : Gives (oJoin (.d (.str x)) (.d (.list (ys.map PyData.str))) S) Q := ⟨_, S, by
  show ((strsOf (ys.map PyData.str)).bind fun ys => if joinFit x ys = true then _ else _) = _
  rw [strsOf_map, Option.bind_some, if_pos (show joinFit x ys = true from decide_eq_true hl)], h⟩
theorem q_joinC {n : Nat} {ys : List Str} (hs : S[n]? = some (.lst (ys.map PyData.str))) (hl : (ys.map (·.length)).sum + ys.length * x.length ≤ slim) (h : Q (.d (.str (Str.join x ys))) S) : Gives (oJoin (.d (.str x)) (.ref n) S) Q := ⟨_, S, by
  show ((lsOf (.ref n) S).bind fun ds => (strsOf ds).bind fun ys => if joinFit x ys = true then _ else _) = _
  rw [Pg.ls_ref hs, Option.bind_some, strsOf_map, Option.bind_some, if_pos (show joinFit x ys = true from decide_eq_true hl)], h⟩
theorem q_ixS {c : Nat} (hl : x.length ≤ slim) (h1 : atI x.cps.toList i = some c) (h : Q (.d (.str ⟨#[c]⟩)) S) : Gives (oIxS (.d (.str x)) (.d (.int i)) S) Q := ⟨_, S, by
  show (if x.length ≤ slim then _ else _) = _
  rw [if_pos hl, h1]; rfl, h⟩
end
/-! f-strings of two parts -/
def IsS (x : W) (k : Str → Prop) : Prop := ∃ y, x = .d (.str y) ∧ k y
theorem isS {y : Str} {k : Str → Prop} (q : k y) : IsS (.d (.str y)) k := ⟨y, rfl, q⟩
def FmtQ (x : W) (k : Str → Prop) : Prop := (∃ y, x = .d (.str y) ∧ y.length ≤ slim ∧ k y) ∨ ∃ i : Int, x = .d (.int i) ∧ i.natAbs.log2 < 1920 ∧ k (Str.ofString (toString i))
/-! texts read -/
def PartQ (mo : Option M) (e : Env) (S : Sto) (k : Option Int → Sto → Prop) : Prop := ∃ o S', partOf mo e S = some (o, S') ∧ k o S'
theorem part_n {e : Env} {S : Sto} {k : Option Int → Sto → Prop} (q : k none S) : PartQ none e S k := ⟨none, S, rfl, q⟩
theorem part_s {m : M} {e : Env} {S : Sto} {k : Option Int → Sto → Prop} (h : Gives (m e S) fun x S1 => IsI x fun i => k (some i) S1) : PartQ (some m) e S k := by
  obtain ⟨x, S1, e1, i, rfl, q⟩ := h
  refine ⟨some i, S1, ?_, q⟩
  unfold partOf
  dsimp only
  rw [e1, Option.bind_some]
  rfl
theorem gM_slS {m : M} {lo hi : Option M} {e : Env} {S : Sto} {Q : W → Sto → Prop} (h : Gives (m e S) fun x S1 => PartQ lo e S1 fun l S2 => PartQ hi e S2 fun u S3 => IsS x fun z => z.length ≤ slim ∧ Q (.d (.str (cutS z l u))) S3) : Gives (mSlS m lo hi e S) Q := by
  obtain ⟨x, S1, e1, l, S2, e2, u, S3, e3, z, rfl, hl, q⟩ := h
  refine ⟨_, S3, ?_, q⟩
  unfold mSlS
  rw [e1, Option.bind_some]
  dsimp only
  rw [e2, Option.bind_some]
  dsimp only
  rw [e3, Option.bind_some]
  show (if z.length ≤ slim then _ else _) = _
  rw [if_pos hl]
theorem gM_sl {m : M} {lo hi : Option M} {e : Env} {S : Sto} {Q : W → Sto → Prop} (h : Gives (m e S) fun x S1 => PartQ lo e S1 fun l S2 => PartQ hi e S2 fun u S3 => Gives (oSl x l u S3) Q) : Gives (mSl m lo hi e S) Q := by
  obtain ⟨x, S1, e1, l, S2, e2, u, S3, e3, z, S4, e4, q⟩ := h
  refine ⟨z, S4, ?_, q⟩
  unfold mSl
  rw [e1, Option.bind_some]
  dsimp only
  rw [e2, Option.bind_some]
  dsimp only
  rw [e3, Option.bind_some]
  exact e4
section
variable {Q : W → Sto → Prop} {S : Sto} {x y : Str} {l u : Option Int} {ds : List PyData}
theorem q_slL (h : Q (.d (.list (cutD ds l u))) S) : Gives (oSl (.d (.list ds)) l u S) Q := ⟨_, S, rfl, h⟩
theorem q_starts (h : Q (.d (.bool (Txt.startswith x y))) S) : Gives (oStarts (.d (.str x)) (.d (.str y)) S) Q := ⟨_, S, rfl, h⟩
theorem q_isDec (h : Q (.d (.bool (Txt.isdecimal x))) S) : Gives (oIsDec (.d (.str x)) S) Q := ⟨_, S, rfl, h⟩
theorem q_intS {n : Int} (hl : x.length ≤ 640) (hn : PySem.intText? x = some n) (h : Q (.d (.int n)) S) : Gives (oIntS [.d (.str x)] S) Q := ⟨_, S, by
  show (if x.length ≤ 640 then _ else _) = _
  rw [if_pos hl, hn]; rfl, h⟩
theorem q_partition (hy : (y.length == 0) = false) (hl : x.length ≤ slim) (h : Q (.d (.tuple [.str (Txt.partition x y).1, .str (Txt.partition x y).2.1, .str (Txt.partition x y).2.2])) S) : Gives (oPartition (.d (.str x)) (.d (.str y)) S) Q := ⟨_, S, by
  show (if (y.length == 0) = false ∧ x.length ≤ slim then _ else _) = _
  rw [if_pos ⟨hy, hl⟩], h⟩
theorem q_split (hy : (y.length == 0) = false) (hl : x.length ≤ slim) (h : Q (.d (.list ((Txt.split x y).map PyData.str))) S) : Gives (oSplit (.d (.str x)) (.d (.str y)) S) Q := ⟨_, S, by
  show (if (y.length == 0) = false ∧ x.length ≤ slim then _ else _) = _
  rw [if_pos ⟨hy, hl⟩], h⟩
end
/-! cells -/
section
variable {Q : W → Sto → Prop} {QR : R → Prop} {e : Env} {S S1 : Sto} {m a : M} {t : MA} {w : W}
def PutQ (pt : P3) (o i v : W) (S : Sto) (k : Sto → Prop) : Prop := ∃ S', pt o i v S = some S' ∧ k S'
theorem gS_put {pt : P3} {mo mi m : M} (h : Gives (m e S) fun v S1 => Gives (mo e S1) fun o S2 => Gives (mi e S2) fun i S3 => PutQ pt o i v S3 fun S4 => QR (.nx e S4)) : GivesR (sPut pt mo mi m e S) QR := by
  obtain ⟨v, S1, e1, o, S2, e2, i, S3, e3, S4, e4, q⟩ := h
  exact ⟨_, Pg.sput_e e1 e2 e3 e4, q⟩
theorem put_c {n j : Nat} {ds : List PyData} {k : Int} {d : PyData} {q : Sto → Prop} (h : S[n]? = some (.lst ds)) (hj : ixN ds.length k = some j) (hq : q (S.set n (.lst (ds.set j d)))) : PutQ putU (.ref n) (.d (.int k)) (.d d) S q := ⟨_, Pg.put_cell h hj, hq⟩
/-- what is put behind a list -/
def AppQ (n : Nat) (x : W) (S1 : Sto) (k : Sto → Prop) : Prop := ∃ d ds, x = .d d ∧ S1[n]? = some (.lst ds) ∧ ds.length < lim ∧ k (S1.set n (.lst (ds ++ [d])))
theorem appQ {n : Nat} {d : PyData} {ds : List PyData} {k : Sto → Prop} (hs : S1[n]? = some (.lst ds)) (hl : ds.length < lim) (q : k (S1.set n (.lst (ds ++ [d])))) : AppQ n (.d d) S1 k := ⟨d, ds, rfl, hs, hl, q⟩
theorem gM_append {n : Nat} {m : M} {o : M} {ds0 : List PyData} (ho : o e S = some (.ref n, S)) (h0 : S[n]? = some (.lst ds0)) (h : Gives (m e S) fun x S1 => AppQ n x S1 fun S2 => Q (.d .none) S2) : Gives (mMethL omAppend o (mCons m mNil) e S) Q := by
  obtain ⟨x, S1, e1, d, ds, rfl, hs, hl, q⟩ := h
  refine ⟨_, _, ?_, q⟩
  unfold mMethL
  rw [ho, Option.bind_some]
  dsimp only
  rw [Pg.ls_ref h0, if_pos (show (some ds0).isSome = true from rfl), cons_e e1 rfl, Option.bind_some]
  show (cellL (.ref n) S1).bind _ = _
  rw [Pg.cell_ref hs, Option.bind_some]
  show (some d).bind _ = _
  rw [Option.bind_some, if_pos hl]
end
/-! loops, comprehensions -/
section
variable {QR : R → Prop} {QC : List PyData → Sto → Prop} {e env : Env} {S : Sto} {t : Tg} {b : MS} {m : M} {c : MT}
/-- a loop that may end early by what is asked -/
theorem gL {J : Nat → Env → Sto → Prop} : ∀ {ws : List W} {n : Nat} {e : Env} {S : Sto}, J n e S → (∀ i x e S, ws[i]? = some x → J (n + i) e S → TgE t x e fun e1 => GivesR (b e1 S) fun r => match r with
    | .nx e2 S2 => J (n + i + 1) e2 S2
    | .ct e2 S2 => J (n + i + 1) e2 S2
    | .bk e2 S2 => QR (.nx e2 S2)
    | .rt x S2 => QR (.rt x S2)) → (∀ e S, J (n + ws.length) e S → QR (.nx e S)) → GivesR (forL t b ws e S) QR
  | [], n, e, S, j, _, q => ⟨_, rfl, q e S j⟩
  | w :: ws, n, e, S, j, h, q => by
    obtain ⟨e1, h1, r, h2, h3⟩ := h 0 w e S rfl j
    unfold forL
    rw [h1, Option.bind_some, h2, Option.bind_some]
    have step : ∀ e2 S2, J (n + 1) e2 S2 → GivesR (forL t b ws e2 S2) QR := fun e2 S2 j2 => gL (n := n + 1) j2
      (fun i x e S hx j => by
        have := h (i + 1) x e S (by rw [List.getElem?_cons_succ]; exact hx) (by rw [show n + (i + 1) = n + 1 + i by omega]; exact j)
        rw [show n + (i + 1) + 1 = n + 1 + i + 1 by omega] at this
        exact this)
      (fun e S j => q e S (by rw [List.length_cons, show n + (ws.length + 1) = n + 1 + ws.length by omega]; exact j))
    cases r with
    | nx e2 S2 => exact step e2 S2 h3
    | ct e2 S2 => exact step e2 S2 h3
    | bk e2 S2 => exact ⟨_, rfl, h3⟩
    | rt x S2 => exact ⟨_, rfl, h3⟩
/-- while: k bounds how often it goes round -/
theorem gW {J : Nat → Env → Sto → Prop} (h : ∀ k e S, J k e S → GvT (c e S) fun p S1 => Brt p (GivesR (b e S1) fun r => match r with
    | .nx e2 S2 => ∃ k', k' < k ∧ J k' e2 S2
    | .ct e2 S2 => ∃ k', k' < k ∧ J k' e2 S2
    | .bk e2 S2 => QR (.nx e2 S2)
    | .rt x S2 => QR (.rt x S2)) (QR (.nx e S1))) : ∀ (n k : Nat) (e : Env) (S : Sto), k < n → J k e S → GivesR (sWhile c b n e S) QR
  | 0, _, _, _, hk, _ => absurd hk (Nat.not_lt_zero _)
  | n + 1, k, e, S, hk, j => by
    obtain ⟨p, S1, e1, h1, h2⟩ := h k e S j
    unfold sWhile
    rw [e1, Option.bind_some]
    cases p with
    | false => exact ⟨_, rfl, h2 rfl⟩
    | true =>
      obtain ⟨r, e2, h3⟩ := h1 rfl
      dsimp only
      rw [if_pos rfl, e2, Option.bind_some]
      cases r with
      | nx e2 S2 =>
        obtain ⟨k', hk', j'⟩ := h3
        exact gW h n k' _ S2 (by omega) j'
      | ct e2 S2 =>
        obtain ⟨k', hk', j'⟩ := h3
        exact gW h n k' _ S2 (by omega) j'
      | bk e2 S2 => exact ⟨_, rfl, h3⟩
      | rt x S2 => exact ⟨_, rfl, h3⟩
/-- a loop over what a list's things become -/
theorem gL_map {α : Type} {f : α → W} {l : List α} {J : Nat → Env → Sto → Prop} (h0 : J 0 e S) (h : ∀ i x e S, l[i]? = some x → J i e S → TgE t (f x) e fun e1 => GivesR (b e1 S) fun r => match r with
    | .nx e2 S2 => J (i + 1) e2 S2
    | .ct e2 S2 => J (i + 1) e2 S2
    | .bk e2 S2 => QR (.nx e2 S2)
    | .rt x S2 => QR (.rt x S2)) (q : ∀ e S, J l.length e S → QR (.nx e S)) : GivesR (forL t b (l.map f) e S) QR :=
  gL (J := J) (n := 0) h0 (fun i x e S hx j => by
    rw [List.getElem?_map] at hx
    cases hd : l[i]? with
    | none => rw [hd] at hx; cases hx
    | some d =>
      rw [hd] at hx
      cases hx
      rw [Nat.zero_add] at j ⊢
      exact h i d e S hd j) (fun e S j => q e S (by rw [Nat.zero_add, List.length_map] at j; exact j))
def NxQ (t : Tg) (b : MS) (ws : List W) (QR : R → Prop) : R → Prop
  | .nx e2 S2 => GivesR (forL t b ws e2 S2) QR
  | .ct e2 S2 => GivesR (forL t b ws e2 S2) QR
  | .bk e2 S2 => QR (.nx e2 S2)
  | .rt x S2 => QR (.rt x S2)
/-- a loop over range(k) -/
theorem gL_rng {J : Nat → Env → Sto → Prop} {k : Nat} (h0 : J 0 e S) (h : ∀ i e S, i < k → J i e S → TgE t (.d (.int (i : Nat))) e fun e1 => GivesR (b e1 S) fun r => match r with
    | .nx e2 S2 => J (i + 1) e2 S2
    | .ct e2 S2 => J (i + 1) e2 S2
    | .bk e2 S2 => QR (.nx e2 S2)
    | .rt x S2 => QR (.rt x S2)) (q : ∀ e S, J k e S → QR (.nx e S)) : GivesR (forL t b (rng 0 k) e S) QR :=
  gL (J := J) (n := 0) h0 (fun i x e S hx j => by
    have hi : i < k := by
      rcases Nat.lt_or_ge i k with z | z
      · exact z
      · rw [List.getElem?_eq_none (by rw [rng_len]; exact z)] at hx; cases hx
    rw [rng_get hi] at hx
    cases hx
    rw [Nat.zero_add] at j ⊢
    rw [show (0 + ((i : Nat) : Int)) = ((i : Nat) : Int) by omega]
    exact h i e S hi j) (fun e S j => q e S (by rw [Nat.zero_add, rng_len] at j; exact j))
/-- a comprehension, its items one behind the other -/
theorem gC0 {J : Nat → List PyData → Sto → Prop} : ∀ (ws : List W) (n : Nat) (acc : List PyData) (S : Sto) (QC : List PyData → Sto → Prop), J n acc S → (∀ i x acc S, ws[i]? = some x → J (n + i) acc S → TgE t x e fun e1 => Gives (m e1 S) fun y S2 => ∃ d, y = .d d ∧ J (n + i + 1) (acc ++ [d]) S2) →
    (∀ r S', J (n + ws.length) (acc ++ r) S' → QC r S') → GvC (compL t cYes m e ws S) QC
  | [], n, acc, S, QC, j, _, q => ⟨[], S, rfl, q [] S (by rw [List.append_nil]; exact j)⟩
  | w :: ws, n, acc, S, QC, j, h, q => by
    obtain ⟨e1, h1, y, S2, h2, d, rfl, h3⟩ := h 0 w acc S rfl j
    have hrec := gC0 ws (n + 1) (acc ++ [d]) S2 (fun r S' => QC (d :: r) S') h3
      (fun i x acc S hx j => by
        have := h (i + 1) x acc S (by rw [List.getElem?_cons_succ]; exact hx) (by rw [show n + (i + 1) = n + 1 + i by omega]; exact j)
        rw [show n + (i + 1) + 1 = n + 1 + i + 1 by omega] at this
        exact this)
      (fun r S' j => q (d :: r) S' (by rw [List.append_assoc] at j; rw [List.length_cons, show n + (ws.length + 1) = n + 1 + ws.length by omega]; exact j))
    obtain ⟨r, S', e2, q2⟩ := hrec
    refine ⟨d :: r, S', ?_, q2⟩
    unfold compL
    rw [h1, Option.bind_some]
    show ((some (true, S)).bind _) = _
    rw [Option.bind_some]
    dsimp only
    rw [if_pos rfl, h2, Option.bind_some]
    show ((some [d]).bind _) = _
    rw [Option.bind_some]
    dsimp only
    rw [e2, Option.bind_some]
    rfl
theorem gC {J : Nat → List PyData → Sto → Prop} {ws : List W} (h0 : J 0 [] S) (h : ∀ i x acc S, ws[i]? = some x → J i acc S → TgE t x e fun e1 => Gives (m e1 S) fun y S2 => ∃ d, y = .d d ∧ J (i + 1) (acc ++ [d]) S2)
    (q : ∀ r S', J ws.length r S' → QC r S') : GvC (compL t cYes m e ws S) QC :=
  gC0 (J := J) ws 0 [] S QC h0 (fun i x acc S hx j => by rw [Nat.zero_add] at j ⊢; exact h i x acc S hx j) fun r S' j => q r S' (by rw [Nat.zero_add, List.nil_append] at j; exact j)
theorem gC_rng {J : Nat → List PyData → Sto → Prop} {k : Nat} (h0 : J 0 [] S) (h : ∀ i acc S, i < k → J i acc S → TgE t (.d (.int (i : Nat))) e fun e1 => Gives (m e1 S) fun y S2 => ∃ d, y = .d d ∧ J (i + 1) (acc ++ [d]) S2)
    (q : ∀ r S', J k r S' → QC r S') : GvC (compL t cYes m e (rng 0 k) S) QC :=
  gC (J := J) h0 (fun i x acc S hx j => by
    have hi : i < k := by
      rcases Nat.lt_or_ge i k with z | z
      · exact z
      · rw [List.getElem?_eq_none (by rw [rng_len]; exact z)] at hx; cases hx
    rw [rng_get hi] at hx
    cases hx
    rw [show (0 + ((i : Nat) : Int)) = ((i : Nat) : Int) by omega]
    exact h i acc S hi j) fun r S' j => q r S' (by rw [rng_len] at j; exact j)
/-- a comprehension that changes nothing -/
theorem gC_map {α : Type} {f : α → W} {g : α → PyData} {l : List α} (h : ∀ x ∈ l, TgE t (f x) e fun e1 => Gives (m e1 S) fun y S2 => y = .d (g x) ∧ S2 = S) (q : QC (l.map g) S) : GvC (compL t cYes m e (l.map f) S) QC := by
  refine ⟨l.map g, S, ?_, q⟩
  clear q
  induction l with
  | nil => rfl
  | cons x l ih =>
    obtain ⟨e1, h1, y, S2, h2, rfl, rfl⟩ := h x List.mem_cons_self
    rw [List.map_cons, List.map_cons]
    unfold compL
    rw [h1, Option.bind_some]
    show ((some (true, S2)).bind _) = _
    rw [Option.bind_some]
    dsimp only
    rw [if_pos rfl, h2, Option.bind_some]
    show ((some [g x]).bind _) = _
    rw [Option.bind_some]
    dsimp only
    rw [ih fun z hz => h z (List.mem_cons_of_mem _ hz), Option.bind_some]
    rfl
theorem gC_nil (q : QC [] S) : GvC (compL t c m e [] S) QC := ⟨[], S, rfl, q⟩
theorem gC_cons {w : W} {ws : List W} (h : TgE t w e fun e1 => Gives (m e1 S) fun y S2 => ∃ d, y = .d d ∧ GvC (compL t cYes m e ws S2) fun ds S3 => QC (d :: ds) S3) : GvC (compL t cYes m e (w :: ws) S) QC := by
  obtain ⟨e1, h1, y, S2, h2, d, rfl, ds, S3, h3, q⟩ := h
  refine ⟨d :: ds, S3, ?_, q⟩
  unfold compL
  rw [h1, Option.bind_some]
  show ((some (true, S)).bind _) = _
  rw [Option.bind_some]
  dsimp only
  rw [if_pos rfl, h2, Option.bind_some]
  show ((some [d]).bind _) = _
  rw [Option.bind_some]
  dsimp only
  rw [h3, Option.bind_some]
  rfl
theorem gC_rngM {k : Nat} {g : Nat → PyData} (h : ∀ i, i < k → TgE t (.d (.int (i : Nat))) e fun e1 => Gives (m e1 S) fun y S2 => y = .d (g i) ∧ S2 = S) (q : QC ((List.range k).map g) S) : GvC (compL t cYes m e (rng 0 k) S) QC := by
  rw [rng_map]
  refine gC_map (g := g) (fun i hi => ?_) q
  rw [show (0 + ((i : Nat) : Int)) = ((i : Nat) : Int) by omega]
  exact h i (List.mem_range.mp hi)
end
end Mr

-- MW{
local macro_rules
  | `(tactic| tm_at "m") => `(tactic| first
    | ((with_reducible apply Mr.gM_var); exact rfl)
    | with_reducible refine Mr.gM_c ?_
    | with_reducible refine Mr.gM_op ?_
    | with_reducible refine Mr.gM_call ?_
    | with_reducible refine Mr.gA_cons ?_
    | with_reducible refine Mr.gA_nil ?_
    | with_reducible refine Mr.gS_seq ?_
    | with_reducible refine Mr.gS_set ?_
    | with_reducible refine Mr.setE_i ?_
    | with_reducible refine Mr.sq_nx ?_
    | with_reducible refine Mr.sq_rt ?_
    | with_reducible refine Mr.gS_if ?_
    | with_reducible refine Mr.gT_B ?_
    | with_reducible refine Mr.isbl ?_
    | with_reducible refine Mr.gS_ret ?_
    | with_reducible refine Mr.gS_next ?_
    | with_reducible refine Mr.q_add ?_
    | with_reducible refine Mr.q_sub ?_
    | with_reducible refine Mr.q_int ?_
    | with_reducible refine Mr.q_eq ?_
    | with_reducible refine Mr.q_lt ?_
    | with_reducible refine Mr.q_gt ?_
    | with_reducible refine Mr.brt_t ?_
    | with_reducible refine Mr.brt_f ?_
    | ((with_reducible refine Mr.brt_dt ?_ ?_); first | (with_reducible assumption) | omega)
    | ((with_reducible refine Mr.brt_df ?_ ?_); first | (with_reducible assumption) | omega)
    | with_reducible refine Mr.gM_tup ?_
    | with_reducible refine Mr.gM_lst ?_
    | with_reducible refine Mr.gM_lstC ?_
    | with_reducible refine Mr.ds_nil ?_
    | with_reducible refine Mr.ds_1 ?_
    | with_reducible refine Mr.ds_2 ?_
    | with_reducible refine Mr.ds_3 ?_
    | ((with_reducible apply Mr.ds_n); exact rfl; exact rfl)
    | with_reducible refine Mr.gS_par ?_
    | with_reducible refine Mr.gS_par3 ?_
    | with_reducible refine Mr.two ?_
    | with_reducible refine Mr.three ?_
    | with_reducible refine Mr.gM_un ?_
    | with_reducible refine Mr.q_neg ?_
    | with_reducible refine Mr.gM_if ?_
    | with_reducible refine Mr.gT_not ?_
    | with_reducible refine Mr.gT_and ?_
    | with_reducible refine Mr.gT_or ?_
    | with_reducible refine Mr.gT_yes ?_
    | with_reducible refine Mr.gM_and ?_
    | with_reducible refine Mr.gM_or ?_
    | with_reducible refine Mr.gM_not ?_
    | with_reducible refine Mr.brt_nt ?_
    | with_reducible refine Mr.brt_nf ?_
    | ((with_reducible refine Mr.brt_ndt ?_ ?_); first | (with_reducible assumption) | omega)
    | ((with_reducible refine Mr.brt_ndf ?_ ?_); first | (with_reducible assumption) | omega)
    | with_reducible refine Mr.gS_asg ?_
    | with_reducible refine Mr.gS_asgL ?_
    | with_reducible refine Mr.tgE_nm ?_
    | with_reducible refine Mr.tgE_2 ?_
    | with_reducible refine Mr.tgE_3 ?_
    | with_reducible refine Mr.gS_drop ?_
    | with_reducible refine Mr.gS_put ?_
    | with_reducible refine Mr.gS_for ?_
    | with_reducible refine Mr.gI_seq ?_
    | with_reducible refine Mr.its_tm ?_
    | with_reducible refine Mr.its_lm ?_
    | with_reducible refine Mr.its_t ?_
    | with_reducible refine Mr.its_l ?_
    | with_reducible refine Mr.gI_rng1 ?_
    | ((with_reducible refine Mr.rg1 ?_ ?_ ?_); omega; omega)
    | with_reducible refine Mr.gM_lc ?_
    | with_reducible refine Mr.gM_lcC ?_
    | with_reducible refine Mr.gM_chain ?_
    | with_reducible refine Mr.gM_callK ?_
    | with_reducible refine Mr.q_le ?_
    | with_reducible refine Mr.q_ge ?_
    | with_reducible refine Mr.q_ne ?_
    | with_reducible refine Mr.q_neB ?_
    | with_reducible refine Mr.q_abs ?_
    | with_reducible refine Mr.q_max2 ?_
    | with_reducible refine Mr.q_min2 ?_
    | with_reducible refine Mr.q_isN ?_
    | with_reducible refine Mr.q_isNotN ?_
    | with_reducible refine Mr.q_isi ?_
    | with_reducible refine Mr.q_lenT ?_
    | with_reducible refine Mr.q_lenL ?_
    | with_reducible refine Mr.q_lenScr ?_
    | with_reducible refine Mr.q_tupL ?_
    | with_reducible refine Mr.q_listT ?_
    | with_reducible refine Mr.q_listL ?_
    | with_reducible refine Mr.nxq ?_
    | with_reducible refine Mr.gL_nil ?_
    | with_reducible refine Mr.gL_cons ?_
    | with_reducible refine Mr.tgsE_4 ?_
    | with_reducible refine Mr.tgsE_2 ?_
    | with_reducible refine Mr.gM_js2 ?_
    | with_reducible refine Mr.gM_fmt ?_
    | with_reducible refine Mr.isS ?_
    | with_reducible refine Mr.gI_enumT ?_
    | with_reducible refine Mr.gM_slS ?_
    | with_reducible refine Mr.gM_sl ?_
    | with_reducible refine Mr.part_n ?_
    | with_reducible refine Mr.part_s ?_
    | with_reducible refine Mr.isI ?_
    | with_reducible refine Mr.q_slT ?_
    | with_reducible refine Mr.q_slL ?_
    | with_reducible refine Mr.q_starts ?_
    | with_reducible refine Mr.q_isDec ?_
    | with_reducible refine Mr.sq_bk ?_
    | with_reducible refine Mr.sq_ct ?_
    | with_reducible refine Mr.gS_break ?_
    | with_reducible refine Mr.gS_cont ?_
    | with_reducible refine Mr.gS_retN ?_
    | with_reducible refine Mr.fq_d ?_
    | with_reducible refine Mr.fq_n ?_
    | ((with_reducible apply Mr.q_ixT); exact rfl)
    | ((with_reducible apply Mr.q_ixL); exact rfl))
  | `(tactic| tm_at "M") => `(tactic| repeat (tm_at "m"))
-- MW}

set_option maxHeartbeats 1000000
/-! draws from a well of three cells -/
namespace Xw
open PySem PySem.Spec PyProof.Rows L2 Mr Pg

variable {N : Nat}
/-- a well stands in the cell n, from which at most c mixed draws were made -/
def WlAt (n c : Nat) (S : Sto) : Prop := ∃ x s k : Int, S[n]? = some (.lst [.int x, .int s, .int k]) ∧ 0 ≤ s ∧ s < 10 ^ 25 + 13 ∧ 0 ≤ k ∧ k ≤ c
structure Wl (n c : Nat) (S S' : Sto) : Prop where
  at' : WlAt n c S'
  len : S'.length = S.length
  oth : ∀ m, m ≠ n → S'[m]? = S[m]?
theorem Wl.trans {n c c' : Nat} {S S1 S2 : Sto} (h : Wl n c S S1) (k : Wl n c' S1 S2) : Wl n c' S S2 := ⟨k.at', k.len.trans h.len, fun m hm => (k.oth m hm).trans (h.oth m hm)⟩
theorem Wl.refl {n c : Nat} {S : Sto} (h : WlAt n c S) : Wl n c S S := ⟨h, rfl, fun _ _ => rfl⟩
theorem WlAt.up {n c c' : Nat} {S : Sto} (h : WlAt n c S) (hc : c ≤ c') : WlAt n c' S := by
  obtain ⟨x, s, k, e, h0, h1, h2, h3⟩ := h
  exact ⟨x, s, k, e, h0, h1, h2, by omega⟩
theorem Wl.up {n c c' : Nat} {S S' : Sto} (h : Wl n c S S') (hc : c ≤ c') : Wl n c' S S' := ⟨h.at'.up hc, h.len, h.oth⟩
theorem WlAt.lt {n c : Nat} {S : Sto} (h : WlAt n c S) : n < S.length := by
  obtain ⟨x, s, k, e, _⟩ := h
  exact (List.getElem?_eq_some_iff.mp e).1
theorem wl_set {n c : Nat} {S : Sto} {x s k : Int} (hn : n < S.length) (h0 : 0 ≤ s) (h1 : s < 10 ^ 25 + 13) (h2 : 0 ≤ k) (h3 : k ≤ c) : Wl n c S (S.set n (.lst [.int x, .int s, .int k])) :=
  ⟨⟨x, s, k, List.getElem?_set_self hn, h0, h1, h2, h3⟩, List.length_set, fun m hm => List.getElem?_set_ne (Ne.symm hm)⟩
theorem div_big {i j : Int} (h0 : 0 < j) (h : j.natAbs < 2 ^ 1100) : Sk.CDivZ i j := by
  refine ⟨by omega, ?_⟩
  have := PySem.Flt.log2_lt_of (show 0 < 1100 by decide) h
  omega
theorem draw_ok {n c : Nat} {S : Sto} {m : Int} (h : WlAt n c S) (hc : c ≤ 10 ^ 9) (h0 : 0 < m) (h1 : m.natAbs < 2 ^ 1100) :
    Gives (m_law_draw N [.ref n, .d (.int m)] S) fun w S' => ∃ t : Int, w = .d (.int t) ∧ 0 ≤ t ∧ t < m ∧ Wl n (c + 1) S S' := by
  obtain ⟨x, s, k, e, s0, s1, k0, k1⟩ := id h
  have hn := (List.getElem?_eq_some_iff.mp e).1
  unfold m_law_draw
  refine gF ?_
  tm_at "M"
  refine q_ixC e rfl ?_
  tm_at "M"
  refine brt_d (fun hx => ?_) (fun hx => ?_)
  · tm_at "M"
    refine q_ixC e rfl ?_
    tm_at "M"
    refine q_mod h0 ?_
    tm_at "M"
    refine q_ixC e rfl ?_
    tm_at "M"
    refine q_divX (div_big h0 h1) ?_
    tm_at "M"
    refine put_c e rfl ?_
    tm_at "M"
    refine ⟨_, rfl, Int.emod_nonneg _ (by omega), Int.emod_lt_of_pos _ h0, ?_⟩
    rw [List.take_of_length_le (by rw [List.length_set]; exact Nat.le_refl _)]
    exact wl_set hn s0 s1 k0 (by omega)
  · have e' : (S.set n (.lst [.int x, .int s, .int (k + 1)]))[n]? = some (.lst [.int x, .int s, .int (k + 1)]) := List.getElem?_set_self hn
    have kc : k + 1 ≤ 1000000001 := by
      have : (c : Int) ≤ 1000000000 := by omega
      omega
    have s2 : s < 10000000000000000000000013 := s1
    tm_at "M"
    refine q_ixC e rfl ?_
    tm_at "M"
    refine put_c e rfl ?_
    tm_at "M"
    show Gives (oIx (W.ref n) (W.d (PyData.int 1)) (S.set n (.lst [.int x, .int s, .int (k + 1)]))) _
    refine q_ixC e' rfl ?_
    tm_at "M"
    refine q_ixC e' rfl ?_
    refine q_mul (m := 26) (n := 32) (by decide) (by omega) (by decide) ?_
    tm_at "M"
    generalize hb : s + 49979693 * (k + 1) = b
    refine q_powX (powW_ok (n := 95) (k := 3) (by omega) (by decide)) ?_
    tm_at "M"
    refine q_powX (by decide) ?_
    tm_at "M"
    refine q_mod (by decide) ?_
    tm_at "M"
    generalize hm1 : b ^ Int.toNat 3 % (10 ^ Int.toNat 29 + 319) = m1
    have m10 : 0 ≤ m1 := by rw [← hm1]; exact Int.emod_nonneg _ (by decide)
    have m11 : m1 < 10 ^ Int.toNat 29 + 319 := by rw [← hm1]; exact Int.emod_lt_of_pos _ (by decide)
    have m12 : m1 < 100000000000000000000000000319 := m11
    refine q_powX (powW_ok (n := 110) (k := 3) (by omega) (by decide)) ?_
    tm_at "M"
    refine q_powX (by decide) ?_
    tm_at "M"
    refine q_mod (by decide) ?_
    tm_at "M"
    refine q_powX (by decide) ?_
    refine q_div (by decide) (by decide) ?_
    tm_at "M"
    refine q_mod h0 ?_
    tm_at "M"
    refine ⟨_, rfl, Int.emod_nonneg _ (by omega), Int.emod_lt_of_pos _ h0, ?_⟩
    rw [List.take_of_length_le (by rw [List.length_set]; exact Nat.le_refl _)]
    exact wl_set hn s0 s1 (by omega) (by omega)
/-- a draw, by what comes behind it -/
theorem q_draw {n c : Nat} {S S0 : Sto} {m : Int} {Q : W → Sto → Prop} (h : Wl n c S0 S) (hc : c ≤ 10 ^ 9) (h0 : 0 < m) (h1 : m < 2 ^ 62) (k : ∀ (t : Int) (S' : Sto), 0 ≤ t → t < m → Wl n (c + 1) S0 S' → (∀ j, j ≠ n → S'[j]? = S[j]?) → S'.length = S.length → Q (.d (.int t)) S') :
    Gives (m_law_draw N [.ref n, .d (.int m)] S) Q := by
  have hb : m.natAbs < 2 ^ 1100 := Nat.lt_of_lt_of_le (show m.natAbs < 2 ^ 62 by omega) (Nat.pow_le_pow_right (by decide) (by decide))
  obtain ⟨w, S', e, t, rfl, t0, t1, hw⟩ := draw_ok (N := N) h.at' hc h0 hb
  exact ⟨_, S', e, k t S' t0 t1 (h.trans hw) hw.oth hw.len⟩
theorem q_drawX {n c : Nat} {S S0 : Sto} {m : Int} {Q : W → Sto → Prop} (h : Wl n c S0 S) (hc : c ≤ 10 ^ 9) (h0 : 0 < m) (h1 : m.natAbs < 2 ^ 1100) (k : ∀ (t : Int) (S' : Sto), 0 ≤ t → t < m → Wl n (c + 1) S0 S' → (∀ j, j ≠ n → S'[j]? = S[j]?) → S'.length = S.length → Q (.d (.int t)) S') :
    Gives (m_law_draw N [.ref n, .d (.int m)] S) Q := by
  obtain ⟨w, S', e, t, rfl, t0, t1, hw⟩ := draw_ok (N := N) h.at' hc h0 h1
  exact ⟨_, S', e, k t S' t0 t1 (h.trans hw) hw.oth hw.len⟩
end Xw

set_option maxHeartbeats 1000000
set_option exponentiation.threshold 4000
/-! numbers: powers of ten, lowest terms -/
namespace Xw
open PySem PySem.Spec PyProof.Rows L2 Mr Pg

variable {N : Nat} {S : Sto}
theorem p10 : (10 : Nat) ^ 300 < 2 ^ 997 := by decide +kernel
theorem p10k {k : Nat} (h : k ≤ 300) : (10 : Nat) ^ k < 2 ^ 997 := Nat.lt_of_le_of_lt (Nat.pow_le_pow_right (by decide) h) p10
theorem p997 : (2 : Nat) ^ 997 * 8 = 2 ^ 1000 := by decide +kernel
theorem p1100 : (2 : Nat) ^ 1000 < 2 ^ 1100 := by decide +kernel
theorem power_ok {k : Nat} (hk : k ≤ 300) : Gives (m_law_power N [.d (.int (k : Nat))] S) fun w S' => w = .d (.int ((10 ^ k : Nat) : Int)) ∧ S' = S := by
  unfold m_law_power
  refine gF ?_
  tm_at "M"
  refine gL_rng (J := fun i e S' => S' = S ∧ ∃ o, e = [some (.d (.int (k : Nat))), some (.d (.int ((10 ^ i : Nat) : Int))), o]) ⟨rfl, none, rfl⟩ (fun i e S' hi j => ?_) (fun e S' j => ?_)
  · obtain ⟨rfl, o, rfl⟩ := j
    tm_at "M"
    have h1 := p10k (k := i) (by omega)
    refine q_mul (m := 4) (n := 997) (by decide) (by rw [Int.natAbs_natCast]; exact h1) (by decide) ?_
    tm_at "M"
    rw [show (10 : Int) * ((10 ^ i : Nat) : Int) = ((10 ^ (i + 1) : Nat) : Int) by rw [Nat.pow_succ, Int.natCast_mul, Int.mul_comm]; rfl]
    exact ⟨rfl, _, rfl⟩
  · obtain ⟨rfl, o, rfl⟩ := j
    tm_at "M"
    exact ⟨by rw [Int.toNat_natCast], List.take_length⟩
theorem fdiv_le {t g : Int} (hg : 0 < g) : (t.fdiv g).natAbs ≤ t.natAbs := by
  rw [Int.fdiv_eq_ediv_of_nonneg _ (by omega)]
  have h1 := Int.emod_add_mul_ediv t g
  have h2 := Int.emod_nonneg t (show g ≠ 0 by omega)
  have h3 := Int.emod_lt_of_pos t hg
  generalize t / g = q at *
  generalize t % g = r at *
  by_cases hq : 0 ≤ q
  · have h4 : 1 * q ≤ g * q := Int.mul_le_mul_of_nonneg_right (by omega) hq
    omega
  · have h4 : g * (q + 1) ≤ 1 * (q + 1) := Int.mul_le_mul_of_nonpos_right (by omega) (by omega)
    have h5 : g * (q + 1) = g * q + g := by rw [Int.mul_add, Int.mul_one]
    omega
theorem fdiv_abs {t : Int} {g : Nat} (hg : 0 < g) (hd : g ∣ t.natAbs) : (t.fdiv (g : Int)).natAbs = t.natAbs / g := by
  obtain ⟨k, hk⟩ := hd
  have h0 : (g : Int) ≠ 0 := by omega
  rcases Int.natAbs_eq t with e | e
  · rw [e, hk, Int.natCast_mul, Int.mul_fdiv_cancel_left _ h0, Int.natAbs_natCast]
    rw [← Int.natCast_mul, Int.natAbs_natCast, Nat.mul_div_cancel_left _ hg]
  · rw [e, hk, Int.natCast_mul, ← Int.mul_neg, Int.mul_fdiv_cancel_left _ h0, Int.natAbs_neg, Int.natAbs_natCast, Int.mul_neg, Int.natAbs_neg]
    rw [← Int.natCast_mul, Int.natAbs_natCast, Nat.mul_div_cancel_left _ hg]
theorem low_gcd {t b : Int} (h0 : 0 < b) {g : Nat} (e : g = Nat.gcd t.natAbs b.natAbs) : 0 < b.fdiv (g : Int) ∧ Nat.gcd (t.fdiv (g : Int)).natAbs (b.fdiv (g : Int)).natAbs = 1 := by
  have g0 : 0 < g := by rw [e]; exact Nat.gcd_pos_of_pos_right _ (by omega)
  have d1 : g ∣ t.natAbs := by rw [e]; exact Nat.gcd_dvd_left _ _
  have d2 : g ∣ b.natAbs := by rw [e]; exact Nat.gcd_dvd_right _ _
  have h1 := fdiv_abs (t := t) g0 d1
  have h2 := fdiv_abs (t := b) g0 d2
  constructor
  · have h3 : 0 ≤ b.fdiv (g : Int) := by
      rw [Int.fdiv_eq_ediv_of_nonneg _ (by omega)]
      exact Int.ediv_nonneg (by omega) (by omega)
    have h4 : 0 < b.natAbs / g := Nat.div_pos (Nat.le_of_dvd (by omega) d2) g0
    omega
  · rw [h1, h2, Nat.gcd_div d1 d2, ← e]
    exact Nat.div_self g0
theorem lowest_ok (hN : 2 ^ 1100 ≤ N) {t b : Int} (h0 : 0 < b) (hb : b.natAbs < 2 ^ 1000) : Gives (m_law_lowest N [.d (.int t), .d (.int b)] S) fun w S' => (∃ u v : Int, w = .d (.tuple [.int u, .int v]) ∧ u.natAbs ≤ t.natAbs ∧ v.natAbs ≤ b.natAbs ∧ 0 < v ∧ Nat.gcd u.natAbs v.natAbs = 1) ∧ S' = S := by
  unfold m_law_lowest
  refine gF ?_
  tm_at "M"
  refine gW (J := fun k e S' => S' = S ∧ ∃ one : Nat, e = [some (.d (.int t)), some (.d (.int b)), some (.d (.int (one : Nat))), some (.d (.int (k : Nat)))] ∧ Nat.gcd one k = Nat.gcd t.natAbs b.natAbs) (fun k e S' j => ?_) N b.natAbs _ S ?_ ⟨rfl, t.natAbs, by rw [Int.natAbs_of_nonneg (by omega : 0 ≤ b)], rfl⟩
  · obtain ⟨rfl, one, rfl, hg⟩ := j
    tm_at "M"
    refine brt_nd (fun h => ?_) (fun h => ?_)
    · have hk : k = 0 := by omega
      subst hk
      rw [Nat.gcd_zero_right] at hg
      have g0 : 0 < Nat.gcd t.natAbs b.natAbs := Nat.gcd_pos_of_pos_right _ (by omega)
      have g1 : Nat.gcd t.natAbs b.natAbs ≤ b.natAbs := Nat.le_of_dvd (by omega) (Nat.gcd_dvd_right _ _)
      have d0 : ∀ i : Int, Sk.CDivZ i (one : Nat) := fun i => div_big (by omega) (by rw [Int.natAbs_natCast]; have := p1100; omega)
      tm_at "M"
      refine q_divX (d0 _) ?_
      tm_at "M"
      refine q_divX (d0 _) ?_
      tm_at "M"
      have lg := low_gcd (t := t) h0 hg
      exact ⟨⟨_, _, rfl, fdiv_le (by omega), fdiv_le (by omega), lg.1, lg.2⟩, List.take_length⟩
    · tm_at "M"
      refine q_mod (by omega) ?_
      tm_at "M"
      refine ⟨one % k, Nat.mod_lt _ (by omega), rfl, k, by rw [Int.natCast_emod], ?_⟩
      rw [← hg, Nat.gcd_comm one k, Nat.gcd_rec k one, Nat.gcd_comm]
  · have := p1100
    omega
end Xw

set_option maxHeartbeats 1000000
/-! drawn numbers -/
namespace Xw
open PySem PySem.Spec PyProof.Rows L2 Mr Pg

variable {N : Nat} {S : Sto}
theorem lt1000 {a k : Nat} (h : a ≤ 8 * 10 ^ k) (hk : k ≤ 300) : a < 2 ^ 1000 := by
  have h1 := p10k hk
  have h2 := p997
  omega
theorem lt1000' {a : Nat} (h : a < 2 ^ 62) : a < 2 ^ 1000 := Nat.lt_trans h (by decide +kernel)
theorem sgn {s : Int} (h0 : 0 ≤ s) (h1 : s < 2) : (1 - 2 * s).natAbs = 1 := by omega
theorem sgn_mul {s x : Int} (h0 : 0 ≤ s) (h1 : s < 2) : ((1 - 2 * s) * x).natAbs = x.natAbs := by rw [Int.natAbs_mul, sgn h0 h1, Nat.one_mul]
/-- what a drawn number is -/
structure NumT (most : Nat) (t b : Int) : Prop where
  t1 : t.natAbs < 10 ^ most
  b1 : b.natAbs < 10 ^ most
  b0 : 0 < b
  g1 : Nat.gcd t.natAbs b.natAbs = 1
theorem number_okT (hN : 2 ^ 1100 ≤ N) {n c most : Nat} (h : WlAt n c S) (hc : c + 6 ≤ 10 ^ 9) (h0 : 2 ≤ most) (h1 : most ≤ 300) : Gives (m_law_number N [.ref n, .d (.int (most : Nat))] S) fun w S' => ∃ t b : Int, w = .d (.tuple [.int t, .int b]) ∧ NumT most t b ∧ Wl n (c + 6) S S' := by
  have hw := Wl.refl h
  have ten : (1 : Nat) ≤ 10 ^ most := Nat.pow_pos (by decide)
  have hun : (100 : Nat) ≤ 10 ^ most := Nat.le_trans (by decide : 100 ≤ 10 ^ 2) (Nat.pow_le_pow_right (by decide) h0)
  have fin : ∀ {c' : Nat} {S' : Sto}, Wl n c' S S' → c' ≤ c + 6 → Wl n (c + 6) S (S'.take S.length) := fun k hc' => by
    rw [← k.len, List.take_length]; exact k.up hc'
  unfold m_law_number
  refine gF ?_
  tm_at "M"
  refine q_draw hw (by omega) (by decide) (by decide) fun kind S1 a1 b1 hw o1 l1 => ?_
  tm_at "M"
  refine q_draw hw (by omega) (by decide) (by decide) fun sd S2 a2 b2 hw o2 l2 => ?_
  refine q_mul (m := 2) (n := 2) (by decide) (by omega) (by decide) ?_
  tm_at "M"
  refine brt_d (fun hk => ?_) (fun hk => ?_)
  · tm_at "M"
    refine q_draw hw (by omega) (by decide) (by decide) fun x S3 a3 b3 hw o3 l3 => ?_
    tm_at "M"
    refine q_mul (m := 4) (n := 2) (by omega) (by omega) (by decide) ?_
    tm_at "M"
    refine ⟨_, _, rfl, ⟨?_, by show 1 < 10 ^ most; omega, by decide, Nat.gcd_one_right _⟩, fin hw (by omega)⟩
    rw [Int.mul_comm, sgn_mul a2 b2]
    omega
  tm_at "M"
  refine brt_d (fun hk2 => ?_) (fun hk2 => ?_)
  · tm_at "M"
    refine q_draw hw (by omega) (by decide) (by decide) fun x S3 a3 b3 hw o3 l3 => ?_
    tm_at "M"
    refine q_mul (m := 2) (n := 6) (by omega) (by omega) (by decide) ?_
    tm_at "M"
    refine q_draw hw (by omega) (by decide) (by decide) fun y S4 a4 b4 hw o4 l4 => ?_
    tm_at "M"
    refine Gives.mono (lowest_ok hN (by omega) (lt1000' (by omega))) ?_
    rintro _ _ ⟨⟨u, v, rfl, hu, hv, hv0, hg⟩, rfl⟩
    rw [sgn_mul a2 b2] at hu
    tm_at "M"
    exact ⟨_, _, rfl, ⟨by omega, by omega, hv0, hg⟩, fin hw (by omega)⟩
  tm_at "M"
  refine brt_d (fun hk3 => ?_) (fun hk3 => ?_)
  · tm_at "M"
    refine Gives.mono (power_ok h1) ?_
    rintro _ _ ⟨rfl, rfl⟩
    tm_at "M"
    refine q_draw hw (by omega) (by decide) (by decide) fun x S3 a3 b3 hw o3 l3 => ?_
    tm_at "M"
    have hx : (((10 ^ most : Nat) : Int) - 1 - x).natAbs < 2 ^ 1000 := lt1000 (k := most) (by omega) h1
    refine q_mul (m := 2) (n := 1000) (by omega) hx (by decide) ?_
    tm_at "M"
    refine q_draw hw (by omega) (by decide) (by decide) fun y S4 a4 b4 hw o4 l4 => ?_
    tm_at "M"
    have hy : (((10 ^ most : Nat) : Int) - 1 - y).natAbs < 2 ^ 1000 := lt1000 (k := most) (by omega) h1
    refine Gives.mono (lowest_ok hN (by omega) hy) ?_
    rintro _ _ ⟨⟨u, v, rfl, hu, hv, hv0, hg⟩, rfl⟩
    rw [sgn_mul a2 b2] at hu
    tm_at "M"
    exact ⟨_, _, rfl, ⟨by omega, by omega, hv0, hg⟩, fin hw (by omega)⟩
  tm_at "M"
  refine brt_d (fun hk4 => ?_) (fun hk4 => ?_)
  · tm_at "M"
    refine q_draw hw (by omega) (by omega) (by omega) fun x S3 a3 b3 hw o3 l3 => ?_
    tm_at "M"
    obtain ⟨k, rfl⟩ := Int.eq_ofNat_of_zero_le a3
    refine Gives.mono (power_ok (k := k) (by omega)) ?_
    rintro _ _ ⟨rfl, rfl⟩
    tm_at "M"
    refine q_draw hw (by omega) (by decide) (by decide) fun y S4 a4 b4 hw o4 l4 => ?_
    tm_at "M"
    have ek : (1 : Nat) ≤ 10 ^ k := Nat.pow_pos (by decide)
    have hy : (((10 ^ k : Nat) : Int) + y).natAbs < 2 ^ 1000 := lt1000 (k := k) (by omega) (by omega)
    refine q_mul (m := 2) (n := 1000) (by omega) hy (by decide) ?_
    tm_at "M"
    have up : (10 : Nat) ^ (k + 1) ≤ 10 ^ most := Nat.pow_le_pow_right (by decide) (by omega)
    rw [Nat.pow_succ] at up
    refine ⟨_, _, rfl, ⟨?_, by show 1 < 10 ^ most; omega, by decide, Nat.gcd_one_right _⟩, fin hw (by omega)⟩
    rw [sgn_mul a2 b2]
    omega
  tm_at "M"
  refine q_draw hw (by omega) (by omega) (by omega) fun x S3 a3 b3 hw o3 l3 => ?_
  tm_at "M"
  obtain ⟨k, rfl⟩ := Int.eq_ofNat_of_zero_le a3
  refine Gives.mono (power_ok (k := k) (by omega)) ?_
  rintro _ _ ⟨rfl, rfl⟩
  tm_at "M"
  have ek : (1 : Nat) ≤ 10 ^ k := Nat.pow_pos (by decide)
  have up : ∀ {a : Nat}, a < 2 ^ 1000 → a < 2 ^ 1100 := fun h => Nat.lt_trans h p1100
  refine q_drawX hw (by omega) (by omega) (up (by rw [Int.natAbs_natCast]; exact lt1000 (k := k) (by omega) (by omega))) fun y S4 a4 b4 hw o4 l4 => ?_
  tm_at "M"
  refine Gives.mono (power_ok h1) ?_
  rintro _ _ ⟨rfl, rfl⟩
  tm_at "M"
  refine q_drawX hw (by omega) (by omega) (up (by rw [Int.natAbs_natCast]; exact lt1000 (k := most) (by omega) h1)) fun z S5 a5 b5 hw o5 l5 => ?_
  have hz : z.natAbs < 2 ^ 1000 := lt1000 (k := most) (by omega) h1
  have hy : (1 + y).natAbs < 2 ^ 1000 := lt1000 (k := k) (by omega) (by omega)
  refine q_mul (m := 2) (n := 1000) (by omega) hz (by decide) ?_
  tm_at "M"
  refine Gives.mono (lowest_ok hN (by omega) hy) ?_
  rintro _ _ ⟨⟨u, v, rfl, hu, hv, hv0, hg⟩, rfl⟩
  rw [sgn_mul a2 b2] at hu
  tm_at "M"
  have upk : (10 : Nat) ^ (k + 1) ≤ 10 ^ most := Nat.pow_le_pow_right (by decide) (by omega)
  rw [Nat.pow_succ] at upk
  exact ⟨_, _, rfl, ⟨by omega, by omega, hv0, hg⟩, fin hw (by omega)⟩
theorem number_ok (hN : 2 ^ 1100 ≤ N) {n c most : Nat} (h : WlAt n c S) (hc : c + 6 ≤ 10 ^ 9) (h0 : 2 ≤ most) (h1 : most ≤ 300) : Gives (m_law_number N [.ref n, .d (.int (most : Nat))] S) fun w S' => ∃ t b : Int, w = .d (.tuple [.int t, .int b]) ∧ t.natAbs < 2 ^ 1000 ∧ b.natAbs < 2 ^ 1000 ∧ Wl n (c + 6) S S' := by
  refine Gives.mono (number_okT hN h hc h0 h1) ?_
  rintro _ S' ⟨t, b, rfl, hn, hw⟩
  exact ⟨t, b, rfl, lt1000 (k := most) (by have := hn.t1; omega) h1, lt1000 (k := most) (by have := hn.b1; omega) h1, hw⟩
end Xw

set_option maxHeartbeats 1000000
/-! drawn tables -/
namespace Xw
open PySem PySem.Spec PyProof.Rows L2 Mr Pg

variable {N : Nat} {S : Sto}
/-- what a drawn table is -/
structure TOk (m : Pg.Tm) : Prop where
  gr : grows m.a m.b m.c m.d = true
  bt : m.Bts 2
  dt : m.det.natAbs < 7
end Xw

set_option maxHeartbeats 1000000
/-! kits with more states and copies, and greater steps, than the drawn ones (mkph.py, from PgP to PgS) -/
namespace Ph
open PySem PySem.Spec PyProof.Rows L2 Mr Pg
variable {N : Nat} {S : Sto}
structure KW (m : Pg.Tm) (gs : List (List Cp)) : Prop where
  gr : grows m.a m.b m.c m.d = true
  sm : SmallT m.a m.b m.c m.d
  dt : m.det.natAbs < 10
  gs : GsOk 16 1000 100 gs
theorem KW.of {m : Pg.Tm} {gs : List (List Cp)} (h : KOk m gs) : KW m gs := ⟨h.gr, h.sm, h.dt, h.gs.ne, Int.le_trans h.gs.len (by decide), fun cs hc => by
  obtain ⟨a, b, c, d⟩ := h.gs.st cs hc
  refine ⟨a, by omega, c, fun x hx => ?_⟩
  obtain ⟨r1, r2, r3, r4, r5, r6⟩ := d x hx
  exact ⟨by omega, by omega, by omega, by omega, r5, r6⟩⟩
theorem KW.kit {m : Pg.Tm} {gs : List (List Cp)} (h : KW m gs) : isKit (gearD m gs) = true := by
  have he : (gs.map rowD).isEmpty = false := by
    have := h.gs.ne
    cases gs with
    | nil => exact absurd rfl this
    | cons => rfl
  show (grows m.a m.b m.c m.d && (!(gs.map rowD).isEmpty && (gs.map rowD).all (isState ((gs.map rowD).length : Nat)))) = true
  rw [h.gr, he, Bool.true_and, Bool.not_false, Bool.true_and, List.all_eq_true]
  intro s hs
  obtain ⟨cs, hcs, rfl⟩ := List.mem_map.mp hs
  obtain ⟨h2, _, h4, h5⟩ := h.gs.st cs hcs
  unfold rowD
  rw [state_tup, h4, Bool.and_true, Bool.and_eq_true, List.all_eq_true, List.length_map]
  refine ⟨?_, fun d hd => ?_⟩
  · cases cs with
    | nil => exact absurd rfl h2
    | cons => rfl
  · obtain ⟨c, hc, rfl⟩ := List.mem_map.mp hd
    obtain ⟨_, _, _, _, q5, q6⟩ := h5 c hc
    show (true && (decide (0 ≤ c.k) && decide (c.k < ((gs.length : Nat) : Int)))) = true
    rw [decide_eq_true q5, decide_eq_true q6]
    rfl
theorem KW.few {m : Pg.Tm} {gs : List (List Cp)} (h : KW m gs) : gs.length ≤ 16 ∧ ∀ cs ∈ gs, cs.length ≤ 1000 := by
  have h1 := h.gs.len
  exact ⟨by omega, fun cs hc => by have := (h.gs.st cs hc).2.1; omega⟩
end Ph

set_option maxHeartbeats 1000000
/-! rows of copies as sets: each once, ascending -/
namespace Ph
open PySem PySem.Spec PyProof.Rows L2 Mr Pg
variable {N : Nat} {S : Sto}
def dd1 (acc : List Cp) (c : Cp) : List Cp := if c ∈ acc then acc else acc ++ [c]
def dd (cs : List Cp) : List Cp := cs.foldl dd1 []
/-- each once, ascending -/
def canon (cs : List Cp) : List Cp := (dd cs).mergeSort cpLe
end Ph

set_option maxHeartbeats 1000000
/-! drawn copies -/
namespace Xw
open PySem PySem.Spec PyProof.Rows L2 Mr Pg

variable {N : Nat} {S : Sto}
/-- a well, other cells below kept, new ones behind -/
structure WlP (n c : Nat) (S S' : Sto) : Prop where
  at' : WlAt n c S'
  len : S.length ≤ S'.length
  oth : ∀ m, m < S.length → m ≠ n → S'[m]? = S[m]?
theorem Wl.p {n c : Nat} {S S' : Sto} (h : Wl n c S S') : WlP n c S S' := ⟨h.at', by rw [h.len]; exact Nat.le_refl _, fun m _ hm => h.oth m hm⟩
theorem WlP.trans {n c c' : Nat} {S S1 S2 : Sto} (h : WlP n c S S1) (k : WlP n c' S1 S2) : WlP n c' S S2 := ⟨k.at', Nat.le_trans h.len k.len, fun m hl hm => (k.oth m (Nat.lt_of_lt_of_le hl h.len) hm).trans (h.oth m hl hm)⟩
theorem WlAt.app {n c : Nat} {S : Sto} (h : WlAt n c S) (T : Sto) : WlAt n c (S ++ T) := by
  obtain ⟨x, s, k, e, r⟩ := h
  exact ⟨x, s, k, by rw [List.getElem?_append_left (List.getElem?_eq_some_iff.mp e).1]; exact e, r⟩
theorem WlP.app {n c : Nat} {S S' : Sto} (h : WlP n c S S') (T : Sto) : WlP n c S (S' ++ T) := ⟨h.at'.app T, by rw [List.length_append]; have := h.len; omega, fun m hl hm => by
  rw [List.getElem?_append_left (Nat.lt_of_lt_of_le hl h.len)]; exact h.oth m hl hm⟩
theorem WlP.set {n c : Nat} {S S' : Sto} (h : WlP n c S S') {k : Nat} {o : O} (hk : S.length ≤ k) (hn : n < S.length) : WlP n c S (S'.set k o) := by
  obtain ⟨x, s, q, e, r⟩ := h.at'
  exact ⟨⟨x, s, q, by rw [List.getElem?_set_ne (by omega)]; exact e, r⟩, by rw [List.length_set]; exact h.len, fun m hl hm => by rw [List.getElem?_set_ne (by omega)]; exact h.oth m hl hm⟩
theorem WlP.cut {n c : Nat} {S S' : Sto} (h : WlP n c S S') (hn : n < S.length) : Wl n c S (S'.take S.length) := by
  obtain ⟨x, s, q, e, r⟩ := h.at'
  have hl : (S'.take S.length).length = S.length := by rw [List.length_take]; have := h.len; omega
  refine ⟨⟨x, s, q, by rw [List.getElem?_take_of_lt hn]; exact e, r⟩, hl, fun m hm => ?_⟩
  rcases Nat.lt_or_ge m S.length with z | z
  · rw [List.getElem?_take_of_lt z]; exact h.oth m z hm
  · rw [List.getElem?_eq_none (by rw [hl]; exact z), List.getElem?_eq_none z]
theorem WlP.up {n c c' : Nat} {S S' : Sto} (h : WlP n c S S') (hc : c ≤ c') : WlP n c' S S' := ⟨h.at'.up hc, h.len, h.oth⟩
theorem q_drawP {n c : Nat} {S S0 : Sto} {m : Int} {Q : W → Sto → Prop} (h : WlP n c S0 S) (hc : c ≤ 10 ^ 9) (h0 : 0 < m) (h1 : m < 2 ^ 62) (k : ∀ (t : Int) (S' : Sto), 0 ≤ t → t < m → WlP n (c + 1) S0 S' → (∀ j, j ≠ n → S'[j]? = S[j]?) → S'.length = S.length → Q (.d (.int t)) S') :
    Gives (m_law_draw N [.ref n, .d (.int m)] S) Q :=
  q_draw (Wl.refl h.at') hc h0 h1 fun t S' t0 t1 hw o l => k t S' t0 t1 (h.trans hw.p) o l
theorem cell_at (S : Sto) (ds : List PyData) : (S ++ [O.lst ds])[S.length]? = some (.lst ds) := by rw [List.getElem?_append_right (Nat.le_refl _), Nat.sub_self]; rfl
theorem cell_set (S : Sto) (ds : List PyData) (o : O) : (S ++ [O.lst ds]).set S.length o = S ++ [o] := by rw [List.set_append_right _ _ (Nat.le_refl _), Nat.sub_self]; rfl
end Xw

set_option maxHeartbeats 1000000
/-! drawn kits, drawn addresses -/
namespace Xw
open PySem PySem.Spec PyProof.Rows L2 Mr Pg

variable {N : Nat} {S : Sto}
theorem q_ixV {l : List Int} {P : Int → Prop} {t : Int} {Q : W → Sto → Prop} (hP : ∀ v ∈ l, P v) (h0 : 0 ≤ t) (h1 : t < (l.length : Nat)) (k : ∀ v, P v → Q (.d (.int v)) S) : Gives (oIx (.d (.list (l.map PyData.int))) (.d (.int t)) S) Q := by
  obtain ⟨i, rfl⟩ := Int.eq_ofNat_of_zero_le h0
  have hi : i < l.length := by omega
  refine q_ixL (d := .int l[i]) ?_ (k _ (hP _ (List.getElem_mem hi)))
  rw [atI_of (by rw [List.length_map]; exact hi), List.getElem_map]
/-- a table so often behind itself -/
def pwL (m : Pg.Tm) : Nat → Pg.Tm
  | 0 => m
  | k + 1 => m.mul (pwL m k)
def pwChk : Bool := (List.range 7).all fun a => (List.range 7).all fun b => (List.range 7).all fun c => (List.range 7).all fun d =>
  let m : Pg.Tm := ⟨(a : Int) - 3, (b : Int) - 3, (c : Int) - 3, (d : Int) - 3⟩
  !grows m.a m.b m.c m.d || (List.range 9).all fun k => let p := pwL m k; grows p.a p.b p.c p.d
/-- what a drawn kit is -/
structure KT (m : Pg.Tm) (gs : List (List Cp)) : Prop where
  gr : grows m.a m.b m.c m.d = true
  bt : m.Bts 29
  ne : gs ≠ []
  len : gs.length ≤ 40
  tot : ∃ most, gs.length * most ≤ 900 ∧ ∀ cs ∈ gs, cs.length ≤ most
  st : ∀ cs ∈ gs, cs ≠ [] ∧ cs.length ≤ 900 ∧ asc (cs.map cpD) = true ∧ ∀ c ∈ cs, CpOk 999999999 (gs.length : Nat) c
/-- places -/
def plcD (l : List Nat) : PyData := .tuple (l.map fun i => .int (i : Nat))
structure AT (l r : List Nat) : Prop where
  l1 : l.length ≤ 40
  r0 : r ≠ []
  r1 : r.length ≤ 3000
  sm : ∀ i ∈ l ++ r, i < 100000000
end Xw

set_option maxHeartbeats 1000000
/-! texts of numbers, addresses -/
namespace Xw
open PySem PySem.Spec PyProof.Rows L2 Mr Pg

variable {N : Nat} {S : Sto}
/-- the text of an int -/
def tI (i : Int) : Str := Str.ofString (toString i)
abbrev sb (s : String) : Str := Str.ofString s
def numT (t b : Int) : Str := if b = 1 then tI t else tI t ++ sb "/" ++ tI b
def plcT (l : List Nat) : List Str := l.map fun i => tI (i : Nat)
def addrT (l r : List Nat) : Str := Str.join (sb " ") (plcT l ++ [sb "("] ++ plcT r ++ [sb ")"])
def cpT (c : Cp) : Str := tI c.a ++ sb " " ++ tI c.b ++ sb " " ++ tI c.k
def cpsT (cs : List Cp) : Str := Str.join (sb ", ") (cs.map cpT)
def tabT (m : Pg.Tm) : Str := sb "table " ++ Str.join (sb " ") [tI m.a, tI m.b, tI m.c, tI m.d]
def rowT (gs : List (List Cp)) (i : Nat) : Str := tI (i : Nat) ++ sb " : " ++ cpsT ((gs[i]?).getD [])
def linesT (m : Pg.Tm) (gs : List (List Cp)) (k : Nat) : List Str := tabT m :: (List.range k).map (rowT gs)
def kitT (m : Pg.Tm) (gs : List (List Cp)) : Str := Str.join (sb "\n") (linesT m gs gs.length)
theorem tI_len {i : Int} {k : Nat} (hk : 0 < k) (h : i.natAbs < 10 ^ k) : (tI i).length ≤ k + 1 := by
  unfold tI
  rw [PySem.ofString_length]
  exact int_text_length_le10 hk h
theorem two_ten (k : Nat) : (2 : Nat) ^ k ≤ 10 ^ k := Nat.pow_le_pow_left (by decide) k
theorem tI_len2 {i : Int} {k : Nat} (hk : 0 < k) (h : i.natAbs < 2 ^ k) : (tI i).length ≤ k + 1 := tI_len hk (Nat.lt_of_lt_of_le h (two_ten k))
theorem sum_le {b : Nat} : ∀ {ys : List Str}, (∀ y ∈ ys, y.length ≤ b) → (ys.map (·.length)).sum ≤ ys.length * b
  | [], _ => Nat.zero_le _
  | y :: ys, h => by
    have h1 := sum_le fun z hz => h z (List.mem_cons_of_mem y hz)
    have h2 := h y List.mem_cons_self
    rw [List.map_cons, List.sum_cons, List.length_cons, Nat.add_mul, Nat.one_mul]
    omega
theorem fitB {x : Str} {b : Nat} {ys : List Str} (h : ∀ y ∈ ys, y.length ≤ b) (hn : ys.length * (b + x.length) ≤ slim) : (ys.map (·.length)).sum + ys.length * x.length ≤ slim := by
  have h2 := sum_le h
  rw [Nat.mul_add] at hn
  omega
theorem str_i {i : Int} {Q : W → Sto → Prop} (h : i.natAbs < 2 ^ 1100) (q : Q (.d (.str (tI i))) S) : Gives (oStr [.d (.int i)] S) Q :=
  q_str (by have := PySem.Flt.log2_lt_of (show 0 < 1100 by decide) h; omega) q
theorem b1100 {i : Int} (h : i.natAbs < 2 ^ 1000) : i.natAbs < 2 ^ 1100 := Nat.lt_trans h p1100
theorem numT_len {t b : Int} (ht : t.natAbs < 2 ^ 1000) (hb : b.natAbs < 2 ^ 1000) : (numT t b).length ≤ 2003 := by
  have h1 := tI_len2 (by decide) ht
  have h2 := tI_len2 (by decide) hb
  have h3 : (sb "/").length = 1 := rfl
  unfold numT
  split
  · omega
  · rw [Str.length_append, Str.length_append]; omega
theorem said_number {t b : Int} {Q : W → Sto → Prop} (ht : t.natAbs < 2 ^ 1000) (hb : b.natAbs < 2 ^ 1000) (q : Q (.d (.str (numT t b))) S) : Gives (m_law_said_number N [.d (.tuple [.int t, .int b])] S) Q := by
  refine Gives.mono (Q := fun w S' => w = .d (.str (numT t b)) ∧ S' = S) ?_ (by rintro _ _ ⟨rfl, rfl⟩; exact q)
  have h1 := tI_len2 (by decide) ht
  have h2 := tI_len2 (by decide) hb
  have h3 : (Str.ofString "/").length = 1 := rfl
  have hs : slim = 4000000 := rfl
  unfold m_law_said_number
  refine gF ?_
  tm_at "M"
  refine brt_d (fun h => ?_) (fun h => ?_)
  · tm_at "M"
    refine str_i (b1100 ht) ?_
    tm_at "M"
    exact ⟨by unfold numT; rw [if_pos h], List.take_length⟩
  · tm_at "M"
    refine str_i (b1100 ht) ?_
    tm_at "M"
    refine q_addS (by omega) ?_
    tm_at "M"
    refine str_i (b1100 hb) ?_
    refine q_addS (by rw [Str.length_append]; omega) ?_
    tm_at "M"
    exact ⟨by unfold numT; rw [if_neg h], List.take_length⟩
theorem plc_small {l : List Nat} (h : ∀ i ∈ l, i < 100000000) : ∀ i ∈ l, ((i : Nat) : Int).natAbs < 2 ^ 1100 := fun i hi => by
  rw [Int.natAbs_natCast]
  exact Nat.lt_trans (h i hi) (by decide +kernel)
theorem plcT_len {l : List Nat} (h : ∀ i ∈ l, i < 100000000) : ∀ y ∈ plcT l, y.length ≤ 9 := fun y hy => by
  obtain ⟨i, hi, rfl⟩ := List.mem_map.mp hy
  exact tI_len (k := 8) (by decide) (by rw [Int.natAbs_natCast]; exact h i hi)
theorem addr_fit {l r : List Nat} (h : AT l r) : ((plcT l ++ [sb "("] ++ plcT r ++ [sb ")"]).map (·.length)).sum + (plcT l ++ [sb "("] ++ plcT r ++ [sb ")"]).length * (sb " ").length ≤ slim := by
  refine fitB (b := 9) (fun y hy => ?_) ?_
  · rcases List.mem_append.mp hy with hy | hy
    · rcases List.mem_append.mp hy with hy | hy
      · rcases List.mem_append.mp hy with hy | hy
        · exact plcT_len (fun i hi => h.sm i (List.mem_append_left _ hi)) y hy
        · rw [List.mem_singleton.mp hy]; decide
      · exact plcT_len (fun i hi => h.sm i (List.mem_append_right _ hi)) y hy
    · rw [List.mem_singleton.mp hy]; decide
  · have e : (plcT l ++ [sb "("] ++ plcT r ++ [sb ")"]).length = l.length + 1 + r.length + 1 := by simp [plcT]; omega
    have h1 := h.l1
    have h2 := h.r1
    have hs : slim = 4000000 := rfl
    have h3 : (sb " ").length = 1 := rfl
    rw [e, h3]
    omega
theorem strs_join {ds : List PyData} {ys : List Str} {x : Str} {Q : W → Sto → Prop} (e : ds = ys.map PyData.str) (hl : (ys.map (·.length)).sum + ys.length * x.length ≤ slim) (q : Q (.d (.str (Str.join x ys))) S) : Gives (oJoin (.d (.str x)) (.d (.list ds)) S) Q := by
  subst e
  exact q_joinL hl q
theorem addr_strs (l r : List Nat) : (l.map fun i => PyData.str (tI (i : Nat))) ++ [.str (sb "(")] ++ (r.map fun i => PyData.str (tI (i : Nat))) ++ [.str (sb ")")] = (plcT l ++ [sb "("] ++ plcT r ++ [sb ")"]).map PyData.str := by
  simp [plcT, Function.comp_def]
theorem said_address {l r : List Nat} {Q : W → Sto → Prop} (h : AT l r) (q : Q (.d (.str (addrT l r))) S) : Gives (m_law_said_address N [.d (.tuple [plcD l, plcD r])] S) Q := by
  refine Gives.mono (Q := fun w S' => w = .d (.str (addrT l r)) ∧ S' = S) ?_ (by rintro _ _ ⟨rfl, rfl⟩; exact q)
  have h1 := h.l1
  have h2 := h.r1
  have hm : lim = 1000000 := rfl
  unfold m_law_said_address plcD
  refine gF ?_
  tm_at "M"
  refine ⟨by rw [List.length_map]; omega, gC_map (g := fun i => .str (tI ((i : Nat) : Int))) (fun i hi => ?_) ?_⟩
  · tm_at "M"
    refine str_i (plc_small (fun i hi => h.sm i (List.mem_append_left _ hi)) i hi) ?_
    exact ⟨rfl, rfl⟩
  tm_at "M"
  refine q_catL (by rw [List.length_map]; show l.length + 1 ≤ lim; omega) ?_
  tm_at "M"
  refine ⟨by rw [List.length_map]; omega, gC_map (g := fun i => .str (tI ((i : Nat) : Int))) (fun i hi => ?_) ?_⟩
  · tm_at "M"
    refine str_i (plc_small (fun i hi => h.sm i (List.mem_append_right _ hi)) i hi) ?_
    exact ⟨rfl, rfl⟩
  refine q_catL (by rw [List.length_append, List.length_map, List.length_map]; show l.length + 1 + r.length ≤ lim; omega) ?_
  tm_at "M"
  refine q_catL (by rw [List.length_append, List.length_append, List.length_map, List.length_map]; show l.length + 1 + r.length + 1 ≤ lim; omega) ?_
  tm_at "M"
  refine strs_join (addr_strs l r) (addr_fit h) ?_
  tm_at "M"
  exact ⟨rfl, List.take_length⟩
end Xw

set_option maxHeartbeats 1000000
/-! ints read from words -/
namespace Xw
open PySem PySem.Spec PyProof.Rows L2 Mr Pg
open TL (tl)

variable {N : Nat} {S : Sto}
/-- signs below 128 -/
def Asc (x : Str) : Prop := ∀ c ∈ tl x, c < 128
def strOf (l : List Nat) : Str := ⟨l.toArray⟩
theorem tl_strOf (l : List Nat) : tl (strOf l) = l := rfl
theorem strOf_tl (x : Str) : strOf (tl x) = x := TL.ext_tl rfl
theorem okS_asc {x : Str} (h : Asc x) : PyData.strOk x = true := by
  unfold PyData.strOk
  rw [← Array.all_toList, List.all_eq_true]
  exact fun c hc => decide_eq_true (Nat.lt_trans (h c hc) (by decide))
theorem shapedA {x : Str} (h : Asc x) : SeqAt.shaped (.str x) = true := by
  unfold SeqAt.shaped
  rw [Bool.and_eq_true]
  exact ⟨by simp [PyData.canLay0, okS_asc h], by simp [PyData.depth]⟩
theorem q_eqA {x y : Str} {Q : W → Sto → Prop} (hx : Asc x) (hy : Asc y) (h : Q (.d (.bool (decide (tl x = tl y)))) S) : Gives (oEq (.d (.str x)) (.d (.str y)) S) Q := ⟨_, S, by
  rw [o_eq (shapedA hx) (shapedA hy)]
  have : PyData.eqv (.str x) (.str y) = decide (tl x = tl y) := by
    by_cases e : tl x = tl y
    · rw [decide_eq_true e, TL.ext_tl e]; simp [PyData.eqv]
    · rw [decide_eq_false e]
      have : x ≠ y := fun z => e (by rw [z])
      simp [PyData.eqv, this]
  rw [this], h⟩
theorem q_neA {x y : Str} {Q : W → Sto → Prop} (hx : Asc x) (hy : Asc y) (h : Q (.d (.bool (!decide (tl x = tl y)))) S) : Gives (oNe (.d (.str x)) (.d (.str y)) S) Q := ⟨_, S, by
  rw [o_ne (shapedA hx) (shapedA hy)]
  have : PyData.eqv (.str x) (.str y) = decide (tl x = tl y) := by
    by_cases e : tl x = tl y
    · rw [decide_eq_true e, TL.ext_tl e]; simp [PyData.eqv]
    · rw [decide_eq_false e]
      have : x ≠ y := fun z => e (by rw [z])
      simp [PyData.eqv, this]
  rw [this], h⟩
def isD (c : Nat) : Bool := decide (48 ≤ c) && decide (c ≤ 57)
theorem dec_asc : ∀ c, c < 128 → Unicode.isDecimal c = isD c := by decide +kernel
/-- the digits of a word -/
def bodyL : List Nat → List Nat
  | 45 :: r => r
  | l => l
def negL : List Nat → Bool
  | 45 :: _ => true
  | _ => false
theorem neg_body {l : List Nat} (h : negL l = true) : l = 45 :: bodyL l := by
  unfold negL at h
  split at h
  · rfl
  · cases h
theorem pos_body {l : List Nat} (h : negL l = false) : bodyL l = l := by
  unfold negL at h
  split at h
  · cases h
  · rename_i hn
    unfold bodyL
    split
    · rename_i r
      exact absurd rfl (hn r)
    · rfl
theorem starts_neg (x : Str) : Txt.startswith x (Str.ofString "-") = negL (tl x) := by
  obtain ⟨⟨l⟩⟩ := x
  cases l with
  | nil => decide
  | cons c r =>
    show (decide (0 + 1 ≤ (c :: r).toArray.size) && ((c :: r).toArray.extract 0 (0 + 1) == #[45])) = negL (c :: r)
    have e : (c :: r).toArray.extract 0 (0 + 1) = #[c] := by simp
    rw [e]
    by_cases hc : c = 45
    · subst hc; simp [negL]
    · have : negL (c :: r) = false := by
        unfold negL
        split
        · rename_i h; cases h; exact absurd rfl hc
        · rfl
      rw [this]
      simp [hc]
theorem cut_tail {x : Str} (h : 1 ≤ x.length) : tl (cutS x (some 1) none) = (tl x).tail := by
  show ((tl x).drop (HT.sIx x.length 0 (some 1))).take (HT.sIx x.length x.length none - HT.sIx x.length 0 (some 1)) = _
  have h1 : HT.sIx x.length 0 (some 1) = 1 := by
    unfold HT.sIx
    simp
    omega
  have h2 : HT.sIx x.length x.length none = x.length := rfl
  rw [h1, h2, List.take_of_length_le (by rw [List.length_drop, ← TL.len_tl]; exact Nat.le_refl _)]
  rw [List.drop_one]
theorem isdec_asc {x : Str} (h : Asc x) : Txt.isdecimal x = (!(tl x).isEmpty && (tl x).all isD) := by
  unfold Txt.isdecimal
  have e1 : decide (x.length > 0) = !(tl x).isEmpty := by
    rw [TL.len_tl]
    cases tl x <;> rfl
  have e2 : x.cps.all Unicode.isDecimal = (tl x).all isD := by
    rw [← Array.all_toList]
    rw [Bool.eq_iff_iff, List.all_eq_true, List.all_eq_true]
    exact ⟨fun k c hc => by rw [← dec_asc c (h c hc)]; exact k c hc, fun k c hc => by rw [dec_asc c (h c hc)]; exact k c hc⟩
  rw [e1, e2]
/-- the value of digits -/
def vL (l : List Nat) : Int := if negL l = true then -((NumText.digitsVal (bodyL l) : Nat) : Int) else ((NumText.digitsVal (bodyL l) : Nat) : Int)
def okL (l : List Nat) : Bool := !(bodyL l).isEmpty && (bodyL l).all isD && decide ((bodyL l).length ≤ 9)
/-- the int that a word shows -/
def rdI (l : List Nat) : Option Int := if okL l = true ∧ tl (tI (vL l)) = l then some (vL l) else none
theorem digits_all {l : List Nat} (h : l.all isD = true) : NumText.AllDigits l := fun c hc => by
  have := List.all_eq_true.mp h c hc
  unfold isD at this
  rw [Bool.and_eq_true, decide_eq_true_eq, decide_eq_true_eq] at this
  exact this
theorem okL_iff {l : List Nat} : okL l = true ↔ bodyL l ≠ [] ∧ (bodyL l).all isD = true ∧ (bodyL l).length ≤ 9 := by
  unfold okL
  cases h : bodyL l with
  | nil => simp
  | cons c r => simp only [List.isEmpty_cons, Bool.not_false, Bool.true_and, Bool.and_eq_true, decide_eq_true_eq, ne_eq, reduceCtorEq, not_false_eq_true, true_and]
theorem val_lt : ∀ (l : List Nat) (a : Nat), NumText.AllDigits l → l.foldl (fun acc c => acc * 10 + (c - 48)) a < (a + 1) * 10 ^ l.length
  | [], a, _ => by simp
  | c :: r, a, h => by
    have hc := h.head
    have := val_lt r (a * 10 + (c - 48)) h.tail
    rw [List.foldl_cons, List.length_cons, Nat.pow_succ]
    refine Nat.lt_of_lt_of_le this ?_
    have e : (a + 1) * (10 ^ r.length * 10) = ((a + 1) * 10) * 10 ^ r.length := by rw [Nat.mul_comm (10 ^ r.length), Nat.mul_assoc]
    rw [e]
    exact Nat.mul_le_mul_right _ (by omega)
theorem vL_lt {l : List Nat} (h : okL l = true) : (vL l).natAbs < 10 ^ 9 := by
  obtain ⟨h1, h2, h3⟩ := okL_iff.mp h
  have h4 := val_lt (bodyL l) 0 (digits_all h2)
  have h5 : (10 : Nat) ^ (bodyL l).length ≤ 10 ^ 9 := Nat.pow_le_pow_right (by decide) h3
  have h6 : NumText.digitsVal (bodyL l) < 10 ^ 9 := by
    unfold NumText.digitsVal
    omega
  unfold vL
  split
  · omega
  · omega
theorem int_of {x : Str} (h : okL (tl x) = true) : PySem.intText? x = some (vL (tl x)) := by
  obtain ⟨h1, h2, h3⟩ := okL_iff.mp h
  cases hn : negL (tl x) with
  | true =>
    have e := neg_body hn
    have := intText_neg (x := x) (cs := bodyL (tl x)) e (digits_all h2) h1 (by rw [TL.len_tl, e, List.length_cons]; omega)
    rw [this]
    unfold vL
    rw [if_pos hn]
  | false =>
    have e := pos_body hn
    rw [e] at h1 h2 h3
    have := intText_digits (x := x) (digits_all h2) h1 (by rw [TL.len_tl]; omega)
    rw [this]
    unfold vL
    rw [hn, e]
    rfl
theorem asc_tI (i : Int) : Asc (tI i) := fun c hc => by
  unfold tI at hc
  rw [TL.tl_ofString] at hc
  have hn : ∀ n : Nat, ∀ c ∈ (Nat.repr n).toList.map Char.toNat, c < 128 := fun n c hc => by
    have e : (Nat.repr n).toList.map Char.toNat = TL.numL n := by
      have := TL.tl_num n
      rw [TL.tl_ofString] at this
      exact this
    rw [e] at hc
    have := TL.numL_digits n c hc
    omega
  cases i with
  | ofNat n => exact hn n c hc
  | negSucc n =>
    have e : toString (Int.negSucc n) = "-" ++ Nat.repr (n + 1) := rfl
    rw [e, String.toList_append, List.map_append] at hc
    rcases List.mem_append.mp hc with z | z
    · have : c = 45 := by simpa using z
      omega
    · exact hn _ c z
theorem tl_tI (i : Int) : tl (tI i) = if i < 0 then 45 :: TL.numL i.natAbs else TL.numL i.natAbs := by
  unfold tI
  cases i with
  | ofNat n =>
    rw [if_neg (show ¬ Int.ofNat n < 0 from fun h => absurd h (by exact Int.not_lt.mpr (Int.natCast_nonneg n)))]
    exact TL.tl_num n
  | negSucc n =>
    rw [if_pos (by omega)]
    have e : toString (Int.negSucc n) = "-" ++ Nat.repr (n + 1) := rfl
    rw [e, TL.tl_ofString, String.toList_append, List.map_append]
    have := TL.tl_num (n + 1)
    rw [TL.tl_ofString] at this
    show 45 :: (Nat.repr (n + 1)).toList.map Char.toNat = 45 :: TL.numL (n + 1)
    rw [← this]
    rfl
theorem numL_head {n : Nat} : ∀ r, TL.numL n ≠ 45 :: r := fun r h => by
  have := TL.numL_digits n 45 (by rw [h]; exact List.mem_cons_self)
  omega
def optI : Option Int → PyData
  | some i => .int i
  | none => .none
theorem asc_sub {x y : Str} (h : Asc x) (hs : ∀ c ∈ tl y, c ∈ tl x) : Asc y := fun c hc => h c (hs c hc)
theorem asc_of {s : String} (h : ((Str.ofString s).cps.toList.all fun c => decide (c < 128)) = true) : Asc (Str.ofString s) := fun c hc => of_decide_eq_true (List.all_eq_true.mp h c hc)
theorem integer_from {x : Str} {Q : W → Sto → Prop} (ha : Asc x) (hl : x.length ≤ slim) (q : Q (.d (optI (rdI (tl x)))) S) : Gives (m_integer_from N [.d (.str x)] S) Q := by
  refine Gives.mono (Q := fun w S' => w = .d (optI (rdI (tl x))) ∧ S' = S) ?_ (by rintro _ _ ⟨rfl, rfl⟩; exact q)
  have rest : ∀ y : Str, tl y = bodyL (tl x) → GivesR (sSeq (sIf (cOr (cNot (cB (mUn oIsDec (mVar 1)))) (cB (mOp oGt (mCall oLenS (mCons (mVar 1) mNil)) (mC (.int 9))))) (sRet (mC .none)) sNext)
      (sSeq (sSet 2 (mCall oIntS (mCons (mVar 0) mNil)))
      (sRet (mIf (cB (mOp oEq (mCall oStr (mCons (mVar 2) mNil)) (mVar 0))) (mVar 2) (mC .none)))) [some (.d (.str x)), some (.d (.str y)), none] S) (FnQ S fun w S' => w = .d (optI (rdI (tl x))) ∧ S' = S) := by
    intro y hy
    have hay : Asc y := fun c hc => by
      rw [hy] at hc
      refine ha c ?_
      unfold bodyL at hc
      split at hc
      · rename_i r e; rw [e]; exact List.mem_cons_of_mem _ hc
      · exact hc
    have hly : y.length ≤ slim := by
      rw [TL.len_tl, hy]
      rw [TL.len_tl] at hl
      refine Nat.le_trans ?_ hl
      unfold bodyL
      split
      · rename_i r e; rw [e, List.length_cons]; omega
      · exact Nat.le_refl _
    tm_at "M"
    rw [isdec_asc hay, hy]
    cases hok : okL (tl x) with
    | false =>
      have hr : rdI (tl x) = none := by unfold rdI; rw [if_neg (fun z => by rw [hok] at z; cases z.1)]
      rw [hr]
      have fin : ∀ p : Bool, p = true → Brt p (GivesR (sRet (mC .none) [some (.d (.str x)), some (.d (.str y)), none] S) (Sq (sSeq (sSet 2 (mCall oIntS (mCons (mVar 0) mNil))) (sRet (mIf (cB (mOp oEq (mCall oStr (mCons (mVar 2) mNil)) (mVar 0))) (mVar 2) (mC .none)))) (FnQ S fun w S' => w = .d (optI none) ∧ S' = S)))
          (GivesR (sNext [some (.d (.str x)), some (.d (.str y)), none] S) (Sq (sSeq (sSet 2 (mCall oIntS (mCons (mVar 0) mNil))) (sRet (mIf (cB (mOp oEq (mCall oStr (mCons (mVar 2) mNil)) (mVar 0))) (mVar 2) (mC .none)))) (FnQ S fun w S' => w = .d (optI none) ∧ S' = S))) := fun p hp => by
        subst hp
        tm_at "M"
        exact ⟨rfl, List.take_length⟩
      cases hb : (!(bodyL (tl x)).isEmpty && (bodyL (tl x)).all isD) with
      | false =>
        tm_at "m"
        exact fin _ rfl
      | true =>
        tm_at "M"
        refine q_lenS hly ?_
        tm_at "M"
        refine brt_dt ?_ ?_
        · unfold okL at hok
          rw [hb, Bool.true_and, decide_eq_false_iff_not] at hok
          have : y.length = (bodyL (tl x)).length := by rw [TL.len_tl, hy]
          omega
        tm_at "M"
        exact ⟨rfl, List.take_length⟩
    | true =>
      have hok' := hok
      unfold okL at hok
      rw [Bool.and_eq_true] at hok
      rw [hok.1]
      have h9 : (bodyL (tl x)).length ≤ 9 := of_decide_eq_true hok.2
      have hyl : y.length ≤ 9 := by rw [TL.len_tl, hy]; exact h9
      tm_at "M"
      refine q_lenS hly ?_
      tm_at "M"
      refine q_intS ?_ (int_of hok') ?_
      · rw [TL.len_tl]
        have : (tl x).length ≤ (bodyL (tl x)).length + 1 := by
          unfold bodyL
          split
          · rename_i r e; rw [e, List.length_cons]; exact Nat.le_refl _
          · omega
        exact Nat.le_trans this (by omega)
      tm_at "M"
      refine str_i (Nat.lt_trans (vL_lt hok') (Nat.lt_of_lt_of_le (by decide : 10 ^ 9 < 2 ^ 60) (Nat.pow_le_pow_right (by decide) (by decide)))) ?_
      tm_at "M"
      refine q_eqA (asc_tI _) ha ?_
      tm_at "M"
      refine brt_d (fun h => ?_) (fun h => ?_)
      · tm_at "M"
        exact ⟨by unfold rdI; rw [if_pos ⟨hok', h⟩]; rfl, List.take_length⟩
      · tm_at "M"
        exact ⟨by unfold rdI; rw [if_neg (fun z => h z.2)]; rfl, List.take_length⟩
  unfold m_integer_from
  refine gF ?_
  tm_at "M"
  rw [starts_neg]
  refine brt_b (fun h => ?_) (fun h => ?_)
  · have e := neg_body h
    have h1 : 1 ≤ x.length := by rw [TL.len_tl, e, List.length_cons]; omega
    tm_at "M"
    refine ⟨hl, ?_⟩
    tm_at "m"
    tm_at "m"
    refine rest _ ?_
    rw [cut_tail h1, e]
    rfl
  · tm_at "m"
    tm_at "m"
    tm_at "m"
    refine rest _ (pos_body h).symm
end Xw

set_option maxHeartbeats 1000000
/-! numbers, points, addresses read from lines -/
namespace Xw
open PySem PySem.Spec PyProof.Rows L2 Mr Pg
open TL (tl spl par)

variable {N : Nat} {S : Sto}
/-! parts of texts -/
theorem spl_mem {T : List Nat} : ∀ (l : List Nat) (k : Nat) (acc : List Nat), ∀ w ∈ spl T k acc l, (∀ c ∈ w, c ∈ acc ∨ c ∈ l) ∧ w.length ≤ acc.length + l.length
  | [], k, acc, w, hw => by
    rw [TL.spl_nil] at hw
    rw [List.mem_singleton.mp hw]
    exact ⟨fun c hc => .inl hc, by simp⟩
  | c :: r, 0, acc, w, hw => by
    cases hp : TL.pre T (c :: r) with
    | true =>
      rw [TL.spl_hit hp] at hw
      rcases List.mem_cons.mp hw with e | hw
      · rw [e]; exact ⟨fun c hc => .inl hc, by omega⟩
      · obtain ⟨h1, h2⟩ := spl_mem r _ [] w hw
        exact ⟨fun d hd => .inr (List.mem_cons_of_mem _ ((h1 d hd).resolve_left (fun z => nomatch z))), by rw [List.length_cons]; simp at h2; omega⟩
    | false =>
      rw [TL.spl_miss hp] at hw
      obtain ⟨h1, h2⟩ := spl_mem r 0 (acc ++ [c]) w hw
      refine ⟨fun d hd => ?_, by rw [List.length_append] at h2; rw [List.length_cons]; simp at h2; omega⟩
      rcases h1 d hd with z | z
      · rcases List.mem_append.mp z with z | z
        · exact .inl z
        · exact .inr (by rw [List.mem_singleton.mp z]; exact List.mem_cons_self)
      · exact .inr (List.mem_cons_of_mem _ z)
  | c :: r, k + 1, acc, w, hw => by
    have hw' : w ∈ spl T k acc r := hw
    obtain ⟨h1, h2⟩ := spl_mem r k acc w hw'
    exact ⟨fun d hd => (h1 d hd).imp id (List.mem_cons_of_mem _), by rw [List.length_cons]; omega⟩
theorem spl_count {T : List Nat} : ∀ (l : List Nat) (k : Nat) (acc : List Nat), (spl T k acc l).length ≤ l.length + 1
  | [], k, acc => by rw [TL.spl_nil]; exact Nat.le_refl _
  | c :: r, 0, acc => by
    cases hp : TL.pre T (c :: r) with
    | true =>
      rw [TL.spl_hit hp, List.length_cons, List.length_cons]
      exact Nat.add_le_add_right (spl_count r _ _) 1
    | false =>
      rw [TL.spl_miss hp, List.length_cons]
      have := spl_count (T := T) r 0 (acc ++ [c])
      omega
  | c :: r, k + 1, acc => by
    have := spl_count (T := T) r k acc
    show (spl T k acc r).length ≤ _
    rw [List.length_cons]
    omega
theorem par_mem {T : List Nat} : ∀ (l acc : List Nat) {p r : List Nat}, par T acc l = some (p, r) → (∀ c ∈ p, c ∈ acc ∨ c ∈ l) ∧ (∀ c ∈ r, c ∈ l) ∧ p.length ≤ acc.length + l.length ∧ r.length ≤ l.length
  | [], acc, p, r, h => by cases h
  | c :: l, acc, p, r, h => by
    cases hp : TL.pre T (c :: l) with
    | true =>
      rw [TL.par_hit hp] at h
      cases h
      exact ⟨fun c hc => .inl hc, fun d hd => List.mem_of_mem_drop hd, by omega, by rw [List.length_drop]; omega⟩
    | false =>
      rw [TL.par_miss hp] at h
      obtain ⟨h1, h2, h3, h4⟩ := par_mem l (acc ++ [c]) h
      refine ⟨fun d hd => ?_, fun d hd => List.mem_cons_of_mem _ (h2 d hd), by rw [List.length_append] at h3; rw [List.length_cons]; simp at h3; omega, by rw [List.length_cons]; omega⟩
      rcases h1 d hd with z | z
      · rcases List.mem_append.mp z with z | z
        · exact .inl z
        · exact .inr (by rw [List.mem_singleton.mp z]; exact List.mem_cons_self)
      · exact .inr (List.mem_cons_of_mem _ z)
def wd (w : List Nat) : PyData := .str (strOf w)
/-- short ascii -/
structure Wk (l : List Nat) : Prop where
  asc : ∀ c ∈ l, c < 128
  len : l.length ≤ 999000
theorem Wk.s {l : List Nat} (h : Wk l) : Asc (strOf l) := h.asc
theorem Wk.l {l : List Nat} (h : Wk l) : (strOf l).length ≤ slim := by
  rw [TL.len_tl]
  have : slim = 4000000 := rfl
  have := h.len
  show l.length ≤ slim
  omega
theorem Wk.spl {T l : List Nat} (h : Wk l) : ∀ w ∈ spl T 0 [] l, Wk w := fun w hw => by
  obtain ⟨h1, h2⟩ := spl_mem l 0 [] w hw
  exact ⟨fun c hc => h.asc c ((h1 c hc).resolve_left (fun z => nomatch z)), by have := h.len; simp at h2; omega⟩
theorem Wk.par {T l p r : List Nat} (h : Wk l) (e : par T [] l = some (p, r)) : Wk p ∧ Wk r := by
  obtain ⟨h1, h2, h3, h4⟩ := par_mem l [] e
  have := h.len
  exact ⟨⟨fun c hc => h.asc c ((h1 c hc).resolve_left (fun z => nomatch z)), by simp at h3; omega⟩, ⟨fun c hc => h.asc c (h2 c hc), by omega⟩⟩
theorem Wk.split {T l : List Nat} (h : Wk l) : (TL.spl T 0 [] l).length ≤ lim := by
  have := spl_count (T := T) l 0 []
  have := h.len
  have : lim = 1000000 := rfl
  omega
theorem split_wd {l : List Nat} {y : Str} (hy : tl y ≠ []) (hk : y.cps.all (· < 256) = true) : (Txt.split (strOf l) y).map PyData.str = (spl (tl y) 0 [] l).map wd := by
  have h := TL.split_spl (strOf l) y hy (TL.kind_ok hk)
  have e : Txt.split (strOf l) y = (spl (tl y) 0 [] l).map strOf := TL.map_tl_inj (by
    rw [h, List.map_map]
    have : (tl ∘ strOf) = id := rfl
    rw [this, List.map_id]
    rfl)
  rw [e, List.map_map]
  rfl
theorem q_splitW {l : List Nat} {y : Str} {Q : W → Sto → Prop} (hl : Wk l) (hy : tl y ≠ []) (hk : y.cps.all (· < 256) = true) (q : Q (.d (.list ((spl (tl y) 0 [] l).map wd))) S) : Gives (oSplit (.d (.str (strOf l))) (.d (.str y)) S) Q := by
  refine q_split ?_ hl.l ?_
  · rw [TL.len_tl]
    cases h : tl y with
    | nil => exact absurd h hy
    | cons _ _ => rfl
  · rw [split_wd hy hk]; exact q
/-- what a partition gives -/
def parD (y : Str) (l : List Nat) : PyData := match par (tl y) [] l with
  | some (p, r) => .tuple [wd p, .str y, wd r]
  | none => .tuple [wd l, .str Str.empty, .str Str.empty]
theorem q_partW {l : List Nat} {y : Str} {Q : W → Sto → Prop} (hl : Wk l) (hy : tl y ≠ []) (q : Q (.d (parD y l)) S) : Gives (oPartition (.d (.str (strOf l))) (.d (.str y)) S) Q := by
  refine q_partition ?_ hl.l ?_
  · rw [TL.len_tl]
    cases h : tl y with
    | nil => exact absurd h hy
    | cons _ _ => rfl
  · rw [TL.partition_par _ _ hy, tl_strOf]
    unfold parD at q
    cases e : par (tl y) [] l with
    | none => simp only [e] at q ⊢; exact q
    | some pr => simp only [e] at q ⊢; exact q
/-! numbers -/
def numOk : Option Int → Option Int → Bool
  | some t, some b => decide (0 < b) && decide (((Nat.gcd t.natAbs b.natAbs : Nat) : Int) = 1)
  | _, _ => false
theorem is_number_ok {o1 o2 : Option Int} {Q : W → Sto → Prop} (q : Q (.d (.bool (numOk o1 o2))) S) : Gives (m_is_number N [.d (.tuple [optI o1, optI o2])] S) Q := by
  refine Gives.mono (Q := fun w S' => w = .d (.bool (numOk o1 o2)) ∧ S' = S) ?_ (by rintro _ _ ⟨rfl, rfl⟩; exact q)
  unfold m_is_number
  refine gF ?_
  tm_at "M"
  refine ⟨_, S, e_is_offset, ?_⟩
  tm_at "M"
  cases o1 with
  | none =>
    refine brt_f ?_
    tm_at "M"
    exact ⟨rfl, List.take_length⟩
  | some t =>
    cases o2 with
    | none =>
      refine brt_f ?_
      tm_at "M"
      exact ⟨rfl, List.take_length⟩
    | some b =>
      refine brt_t ?_
      unfold optI
      tm_at "M"
      refine brt_d (fun h => ?_) (fun h => ?_)
      · tm_at "M"
        refine ⟨.d (.int ((Nat.gcd t.natAbs b.natAbs : Nat) : Int)), S, rfl, ?_⟩
        tm_at "M"
        exact ⟨by rw [show numOk (some t) (some b) = (decide (0 < b) && decide (((Nat.gcd t.natAbs b.natAbs : Nat) : Int) = 1)) from rfl, decide_eq_true h, Bool.true_and], List.take_length⟩
      · tm_at "M"
        exact ⟨by rw [show numOk (some t) (some b) = (decide (0 < b) && decide (((Nat.gcd t.natAbs b.natAbs : Nat) : Int) = 1)) from rfl, decide_eq_false h, Bool.false_and], List.take_length⟩
/-- the number that a word shows -/
def rdN (l : List Nat) : Option (Int × Int) := match par [47] [] l with
  | some (p, r) => match rdI p, rdI r with
    | some t, some b => if numOk (some t) (some b) = true ∧ b ≠ 1 then some (t, b) else none
    | _, _ => none
  | none => match rdI l with
    | some t => some (t, 1)
    | none => none
def optN : Option (Int × Int) → PyData
  | some p => .tuple [.int p.1, .int p.2]
  | none => .none
theorem asc_slash : Asc (Str.ofString "/") := asc_of (by decide)
theorem asc_emp : Asc Str.empty := fun c hc => nomatch hc
theorem number_from {l : List Nat} {Q : W → Sto → Prop} (hl : Wk l) (q : Q (.d (optN (rdN l))) S) : Gives (m_number_from N [.d (wd l)] S) Q := by
  refine Gives.mono (Q := fun w S' => w = .d (optN (rdN l)) ∧ S' = S) ?_ (by rintro _ _ ⟨rfl, rfl⟩; exact q)
  unfold m_number_from wd
  refine gF ?_
  tm_at "M"
  refine q_partW hl (by decide) ?_
  unfold parD
  have et : tl (Str.ofString "/") = [47] := by decide
  rw [et]
  cases e : par [47] [] l with
  | none =>
    have hr : rdN l = match rdI l with | some t => some (t, 1) | none => none := by unfold rdN; rw [e]
    dsimp only [wd]
    tm_at "M"
    refine integer_from hl.s hl.l ?_
    rw [tl_strOf]
    tm_at "M"
    refine q_eqA asc_emp asc_slash ?_
    tm_at "M"
    refine brt_df (by decide) ?_
    tm_at "M"
    refine is_number_ok (o2 := some 1) ?_
    tm_at "M"
    cases h : rdI l with
    | none =>
      rw [h] at hr
      refine brt_t ?_
      tm_at "M"
      exact ⟨by rw [hr]; rfl, List.take_length⟩
    | some t =>
      rw [h] at hr
      have : numOk (some t) (some 1) = true := by unfold numOk; simp
      rw [this]
      tm_at "M"
      refine q_eqA asc_emp asc_slash ?_
      tm_at "M"
      refine brt_df (by decide) ?_
      tm_at "M"
      exact ⟨by rw [hr]; rfl, List.take_length⟩
  | some pr =>
    obtain ⟨p, r⟩ := pr
    obtain ⟨hp, hr'⟩ := hl.par e
    have hr : rdN l = match rdI p, rdI r with | some t, some b => if numOk (some t) (some b) = true ∧ b ≠ 1 then some (t, b) else none | _, _ => none := by unfold rdN; rw [e]
    dsimp only [wd]
    tm_at "M"
    refine integer_from hp.s hp.l ?_
    rw [tl_strOf]
    tm_at "M"
    refine q_eqA asc_slash asc_slash ?_
    tm_at "M"
    refine brt_dt rfl ?_
    tm_at "M"
    refine integer_from hr'.s hr'.l ?_
    rw [tl_strOf]
    tm_at "M"
    refine is_number_ok ?_
    tm_at "M"
    cases h : rdI p with
    | none =>
      rw [h] at hr
      refine brt_t ?_
      tm_at "M"
      exact ⟨by rw [hr]; rfl, List.take_length⟩
    | some t =>
      cases h2 : rdI r with
      | none =>
        rw [h, h2] at hr
        refine brt_t ?_
        tm_at "M"
        exact ⟨by rw [hr]; rfl, List.take_length⟩
      | some b =>
        rw [h, h2] at hr
        dsimp only at hr
        cases hn : numOk (some t) (some b) with
        | false =>
          tm_at "M"
          exact ⟨by rw [hr, hn, if_neg (fun z => nomatch z.1)]; rfl, List.take_length⟩
        | true =>
          unfold optI
          tm_at "M"
          refine q_eqA asc_slash asc_slash ?_
          tm_at "M"
          refine brt_dt rfl ?_
          tm_at "M"
          refine brt_d (fun hb => ?_) (fun hb => ?_)
          · tm_at "M"
            exact ⟨by rw [hr, if_neg (fun z => z.2 hb)]; rfl, List.take_length⟩
          · tm_at "M"
            exact ⟨by rw [hr, hn, if_pos ⟨rfl, hb⟩]; rfl, List.take_length⟩
/-! points -/
def rdP (l : List Nat) : Option ((Int × Int) × (Int × Int)) := match (spl [32] 0 [] l).map rdN with
  | [some p, some q] => some (p, q)
  | _ => none
def optP : Option ((Int × Int) × (Int × Int)) → PyData
  | some p => .tuple [optN (some p.1), optN (some p.2)]
  | none => .none
theorem isNone_optN (o : Option (Int × Int)) : PyData.eqv (optN o) .none = o.isNone := by
  cases o with
  | none => rfl
  | some p => simp [optN, PyData.eqv]
theorem shaped_none : SeqAt.shaped .none = true := by unfold SeqAt.shaped; simp [PyData.canLay0, PyData.depth]
theorem shaped_list {ds : List PyData} (h : ∀ d ∈ ds, d.canLay0 = true ∧ d.depth ≤ 8) : SeqAt.shaped (.list ds) = true ∧ SeqAt.shaped (.tuple ds) = true := by
  have h1 := canLayAll0_of fun d hd => (h d hd).1
  have h2 := depthAll_le fun d hd => (h d hd).2
  constructor
  · unfold SeqAt.shaped
    rw [Bool.and_eq_true]
    refine ⟨by simp only [PyData.canLay0]; exact h1, decide_eq_true ?_⟩
    simp only [PyData.depth]; omega
  · unfold SeqAt.shaped
    rw [Bool.and_eq_true]
    refine ⟨by simp only [PyData.canLay0]; exact h1, decide_eq_true ?_⟩
    simp only [PyData.depth]; omega
theorem lay_optN (o : Option (Int × Int)) : (optN o).canLay0 = true ∧ (optN o).depth ≤ 8 := by
  cases o with
  | none => exact ⟨by simp [optN, PyData.canLay0], by simp [optN, PyData.depth]⟩
  | some p => exact ⟨by simp [optN, PyData.canLay0, PyData.canLayAll0], by simp [optN, PyData.depth, PyData.depthAll]⟩
theorem q_notInT {ds : List PyData} {Q : W → Sto → Prop} (h : ∀ d ∈ ds, d.canLay0 = true ∧ d.depth ≤ 8) (q : Q (.d (.bool (!ds.any fun z => PyData.eqv z .none))) S) : Gives (oNotIn2 (.d .none) (.d (.tuple ds)) S) Q := ⟨_, S, by
  show (if SeqAt.shaped .none = true ∧ SeqAt.shaped (.tuple ds) = true then _ else _) = _
  rw [if_pos ⟨shaped_none, (shaped_list h).2⟩], q⟩
theorem point_from {l : List Nat} {Q : W → Sto → Prop} (hl : Wk l) (q : Q (.d (optP (rdP l))) S) : Gives (m_point_from N [.d (wd l)] S) Q := by
  refine Gives.mono (Q := fun w S' => w = .d (optP (rdP l)) ∧ S' = S) ?_ (by rintro _ _ ⟨rfl, rfl⟩; exact q)
  unfold m_point_from wd
  refine gF ?_
  tm_at "M"
  refine q_splitW hl (by decide) (by decide +kernel) ?_
  have et : tl (Str.ofString " ") = [32] := by decide
  rw [et]
  tm_at "M"
  refine ⟨by rw [List.length_map]; exact hl.split, gC_map (g := fun w => optN (rdN w)) (fun w hw => ?_) ?_⟩
  · tm_at "M"
    refine number_from (hl.spl w hw) ?_
    exact ⟨rfl, rfl⟩
  have hr : rdP l = match (spl [32] 0 [] l).map rdN with | [some p, some q] => some (p, q) | _ => none := rfl
  have em : ((spl [32] 0 [] l).map fun w => optN (rdN w)) = ((spl [32] 0 [] l).map rdN).map optN := by rw [List.map_map]; rfl
  rw [em]
  generalize (spl [32] 0 [] l).map rdN = ns at hr
  tm_at "M"
  refine brt_d (fun h => ?_) (fun h => ?_)
  · rw [List.length_map] at h
    obtain ⟨a, b, rfl⟩ : ∃ a b, ns = [a, b] := by
      match ns, h with
      | [a, b], _ => exact ⟨a, b, rfl⟩
    tm_at "M"
    refine q_notInT (fun d hd => by
      obtain ⟨o, _, rfl⟩ := List.mem_map.mp hd
      exact lay_optN o) ?_
    have ea : (List.map optN [a, b]).any (fun z => PyData.eqv z .none) = (a.isNone || b.isNone) := by
      simp only [List.map_cons, List.map_nil, List.any_cons, List.any_nil, isNone_optN, Bool.or_false]
    rw [ea]
    refine isbl ?_
    cases a with
    | none =>
      refine brt_f ?_
      tm_at "M"
      exact ⟨by rw [hr]; rfl, List.take_length⟩
    | some a =>
      cases b with
      | none =>
        refine brt_f ?_
        tm_at "M"
        exact ⟨by rw [hr]; rfl, List.take_length⟩
      | some b =>
        refine brt_t ?_
        tm_at "M"
        exact ⟨by rw [hr]; rfl, List.take_length⟩
  · rw [List.length_map] at h
    tm_at "M"
    refine ⟨?_, List.take_length⟩
    rw [hr]
    split
    · exact absurd rfl h
    · rfl
end Xw

set_option maxHeartbeats 1000000
/-! addresses, tables, copies, states read from lines -/
namespace Xw
open PySem PySem.Spec PyProof.Rows L2 Mr Pg
open TL (tl spl par)

variable {N : Nat} {S : Sto}
/-- all of them there -/
def allI : List (Option Int) → Option (List Int)
  | [] => some []
  | some i :: r => (allI r).map (i :: ·)
  | none :: _ => none
def plcOk : Option Int → Bool
  | some i => decide (0 ≤ i)
  | none => false
/-- the places that words show -/
def rdPl (ws : List (List Nat)) : Option (List Int) := if (ws.map rdI).all plcOk = true then allI (ws.map rdI) else none
def plD : List Int → PyData := fun l => .tuple (l.map .int)
def optPl : Option (List Int) → PyData
  | some l => plD l
  | none => .none
theorem allI_all : ∀ {os : List (Option Int)}, os.all plcOk = true → ∃ l, allI os = some l ∧ os.map optI = l.map PyData.int
  | [], _ => ⟨[], rfl, rfl⟩
  | none :: r, h => by simp [plcOk] at h
  | some i :: r, h => by
    rw [List.all_cons, Bool.and_eq_true] at h
    obtain ⟨l, e1, e2⟩ := allI_all h.2
    refine ⟨i :: l, ?_, ?_⟩
    · show (allI r).map (i :: ·) = _
      rw [e1]; rfl
    · rw [List.map_cons, List.map_cons, e2]; rfl
theorem places_from {ws : List (List Nat)} {Q : W → Sto → Prop} (hl : ∀ w ∈ ws, Wk w) (hn : ws.length ≤ lim) (q : Q (.d (optPl (rdPl ws))) S) : Gives (m_places_from N [.d (.list (ws.map wd))] S) Q := by
  refine Gives.mono (Q := fun w S' => w = .d (optPl (rdPl ws)) ∧ S' = S) ?_ (by rintro _ _ ⟨rfl, rfl⟩; exact q)
  unfold m_places_from
  refine gF ?_
  tm_at "M"
  refine ⟨by rw [List.length_map]; exact hn, gC_map (g := fun w => optI (rdI w)) (fun w hw => ?_) ?_⟩
  · unfold wd
    tm_at "M"
    refine integer_from (hl w hw).s (hl w hw).l ?_
    exact ⟨rfl, rfl⟩
  have em : (ws.map fun w => optI (rdI w)) = (ws.map rdI).map optI := by rw [List.map_map]; rfl
  have hr : rdPl ws = if (ws.map rdI).all plcOk = true then allI (ws.map rdI) else none := rfl
  have hlen : (ws.map rdI).length ≤ lim := by rw [List.length_map]; exact hn
  rw [em]
  generalize ws.map rdI = os at hr hlen
  tm_at "M"
  refine ⟨by rw [List.length_map]; exact hlen, gC_map (g := fun o => .bool (plcOk o)) (fun o ho => ?_) ?_⟩
  · cases o with
    | none =>
      tm_at "M"
      refine brt_f ?_
      exact ⟨rfl, rfl⟩
    | some i =>
      tm_at "M"
      refine brt_t ?_
      unfold optI
      tm_at "M"
      exact ⟨rfl, rfl⟩
  have e2 : (os.map fun o => PyData.bool (plcOk o)) = (os.map plcOk).map PyData.bool := by rw [List.map_map]; rfl
  have e3 : (os.map plcOk).all id = os.all plcOk := by rw [List.all_map]; rfl
  tm_at "M"
  rw [e2]
  refine q_all ?_
  rw [e3]
  tm_at "M"
  cases ha : os.all plcOk with
  | true =>
    obtain ⟨l, e4, e5⟩ := allI_all ha
    tm_at "M"
    exact ⟨by rw [hr, if_pos ha, e4, e5]; rfl, List.take_length⟩
  | false =>
    tm_at "M"
    exact ⟨by rw [hr, if_neg (by rw [ha]; exact Bool.false_ne_true)]; rfl, List.take_length⟩
/-- the address that a line shows -/
def rdA (l : List Nat) : Option (List Int × List Int) :=
  let ws := spl [32] 0 [] l
  if ws.count [40] = 1 ∧ ws.getLast? = some [41] then
    match rdPl (ws.take (ws.idxOf [40])), rdPl ((ws.drop (ws.idxOf [40] + 1)).dropLast) with
    | some a, some r => if r = [] then none else some (a, r)
    | _, _ => none
  else none
def optA : Option (List Int × List Int) → PyData
  | some p => .tuple [plD p.1, plD p.2]
  | none => .none
theorem eqv_wd (w v : List Nat) : PyData.eqv (wd w) (wd v) = decide (w = v) := by
  by_cases e : w = v
  · rw [decide_eq_true e, e]; simp [wd, PyData.eqv]
  · rw [decide_eq_false e]
    have : strOf w ≠ strOf v := fun z => e (by have := congrArg tl z; exact this)
    simp [wd, PyData.eqv, this]
theorem count_wd (ws : List (List Nat)) (v : List Nat) : (ws.map wd).countP (fun z => PyData.eqv z (wd v)) = ws.count v := by
  rw [List.countP_map, List.count]
  congr 1
  funext w
  show PyData.eqv (wd w) (wd v) = (w == v)
  rw [eqv_wd]
  by_cases e : w = v
  · rw [decide_eq_true e, beq_iff_eq.mpr e]
  · rw [decide_eq_false e, beq_eq_false_iff_ne.mpr e]
theorem idx_wd {v : List Nat} : ∀ {ws : List (List Nat)}, v ∈ ws → idxOf (wd v) (ws.map wd) = some (ws.idxOf v)
  | [], h => nomatch h
  | w :: ws, h => by
    rw [List.map_cons]
    unfold idxOf
    rw [eqv_wd, List.idxOf_cons]
    by_cases e : w = v
    · rw [if_pos (decide_eq_true e), beq_iff_eq.mpr e]; rfl
    · rw [if_neg (by rw [decide_eq_false e]; exact Bool.false_ne_true), beq_eq_false_iff_ne.mpr e]
      have hm : v ∈ ws := (List.mem_cons.mp h).resolve_left (fun z => e z.symm)
      rw [idx_wd hm]
      rfl
theorem lay_wd {w : List Nat} (h : Wk w) : (wd w).canLay0 = true ∧ (wd w).depth ≤ 8 := ⟨by simp [wd, PyData.canLay0, okS_asc h.s], by simp [wd, PyData.depth]⟩
theorem wk_paren (c : Nat) (h : c < 128) : Wk [c] := ⟨fun d hd => by rw [List.mem_singleton.mp hd]; exact h, show 1 ≤ 999000 by decide⟩
theorem spl_ne : ∀ (T l : List Nat) (k : Nat) (acc : List Nat), spl T k acc l ≠ []
  | T, [], k, acc => by rw [TL.spl_nil]; simp
  | T, c :: r, 0, acc => by
    cases hp : TL.pre T (c :: r) with
    | true => rw [TL.spl_hit hp]; simp
    | false => rw [TL.spl_miss hp]; exact spl_ne T r 0 _
  | T, c :: r, k + 1, acc => spl_ne T r k acc
theorem last_at {α : Type} {ws : List α} (h : ws ≠ []) : atI ws (-1) = ws.getLast? := by
  have hl : 0 < ws.length := List.length_pos_iff.mpr h
  unfold atI ixN
  rw [if_neg (by decide), if_pos (by omega)]
  show ws[(-1 + (ws.length : Int)).toNat]? = _
  rw [List.getLast?_eq_getElem?]
  congr 1
  omega
theorem cut_take (ws : List PyData) (k : Nat) (hk : k ≤ ws.length) : Mr.cutD ws none (some (k : Nat)) = ws.take k := by
  unfold Mr.cutD
  have h1 : HT.sIx ws.length 0 none = 0 := rfl
  have h2 : HT.sIx ws.length ws.length (some (k : Nat)) = k := by
    unfold HT.sIx
    simp
    rw [if_neg (by omega)]
    omega
  rw [h1, h2, List.drop_zero, Nat.sub_zero]
theorem cut_mid (ws : List PyData) (k : Nat) (hk : k + 1 ≤ ws.length) : Mr.cutD ws (some ((k : Nat) + 1)) (some (-1)) = (ws.drop (k + 1)).dropLast := by
  unfold Mr.cutD
  have h1 : HT.sIx ws.length 0 (some ((k : Nat) + 1)) = k + 1 := by
    unfold HT.sIx
    simp
    rw [if_neg (by omega)]
    omega
  have h2 : HT.sIx ws.length ws.length (some (-1)) = ws.length - 1 := by
    unfold HT.sIx
    simp
    omega
  rw [h1, h2, List.dropLast_eq_take, List.length_drop]
  congr 1
  omega
theorem q_count {ws : List (List Nat)} {v : List Nat} {e : Mr.Env} {o : M} {mv : M} {Q : W → Sto → Prop} (ho : o e S = some (.d (.list (ws.map wd)), S)) (hm : mv e S = some (.d (wd v), S)) (hl : ∀ w ∈ ws, Wk w) (hv : Wk v) (q : Q (.d (.int (ws.count v : Nat))) S) : Gives (mMethL omCount o (mCons mv mNil) e S) Q := by
  refine ⟨_, S, ?_, q⟩
  unfold mMethL
  rw [ho, Option.bind_some]
  show (if (lsOf (.d (.list (ws.map wd))) S).isSome = true then _ else _) = _
  rw [if_pos (show (lsOf (.d (.list (ws.map wd))) S).isSome = true from rfl), cons_e hm rfl, Option.bind_some]
  have h1 := (shaped_list (ds := ws.map wd) fun d hd => by
    obtain ⟨w, hw, rfl⟩ := List.mem_map.mp hd
    exact lay_wd (hl w hw)).1
  have h2 := shapedA hv.s
  show (if SeqAt.shaped (.list (ws.map wd)) = true ∧ SeqAt.shaped (wd v) = true then _ else _) = _
  rw [if_pos ⟨h1, h2⟩, count_wd]
theorem q_index {ws : List (List Nat)} {v : List Nat} {e : Mr.Env} {o : M} {mv : M} {Q : W → Sto → Prop} (ho : o e S = some (.d (.list (ws.map wd)), S)) (hm : mv e S = some (.d (wd v), S)) (hl : ∀ w ∈ ws, Wk w) (hv : Wk v) (hi : v ∈ ws) (q : Q (.d (.int (ws.idxOf v : Nat))) S) : Gives (mMethL omIndex o (mCons mv mNil) e S) Q := by
  refine ⟨_, S, ?_, q⟩
  unfold mMethL
  rw [ho, Option.bind_some]
  show (if (lsOf (.d (.list (ws.map wd))) S).isSome = true then _ else _) = _
  rw [if_pos (show (lsOf (.d (.list (ws.map wd))) S).isSome = true from rfl), cons_e hm rfl, Option.bind_some]
  have h1 := (shaped_list (ds := ws.map wd) fun d hd => by
    obtain ⟨w, hw, rfl⟩ := List.mem_map.mp hd
    exact lay_wd (hl w hw)).1
  have h2 := shapedA hv.s
  show (if SeqAt.shaped (.list (ws.map wd)) = true ∧ SeqAt.shaped (wd v) = true then (idxOf (wd v) (ws.map wd)).bind _ else _) = _
  rw [if_pos ⟨h1, h2⟩, idx_wd hi]
  rfl
theorem str_open : Str.ofString "(" = strOf [40] := TL.ext_tl (by decide)
theorem str_close : Str.ofString ")" = strOf [41] := TL.ext_tl (by decide)
theorem address_from {l : List Nat} {Q : W → Sto → Prop} (hl : Wk l) (q : Q (.d (optA (rdA l))) S) : Gives (m_address_from N [.d (wd l)] S) Q := by
  refine Gives.mono (Q := fun w S' => w = .d (optA (rdA l)) ∧ S' = S) ?_ (by rintro _ _ ⟨rfl, rfl⟩; exact q)
  have w40 := wk_paren 40 (by decide)
  have w41 := wk_paren 41 (by decide)
  unfold m_address_from
  rw [str_open, str_close]
  unfold wd
  refine gF ?_
  tm_at "M"
  refine q_splitW hl (by decide) (by decide +kernel) ?_
  have et : tl (Str.ofString " ") = [32] := by decide
  rw [et]
  have hw := hl.spl (T := [32])
  have hne := spl_ne [32] l 0 []
  have hlen := hl.split (T := [32])
  have hr : rdA l = if (spl [32] 0 [] l).count [40] = 1 ∧ (spl [32] 0 [] l).getLast? = some [41] then
    match rdPl ((spl [32] 0 [] l).take ((spl [32] 0 [] l).idxOf [40])), rdPl (((spl [32] 0 [] l).drop ((spl [32] 0 [] l).idxOf [40] + 1)).dropLast) with
    | some a, some r => if r = [] then none else some (a, r)
    | _, _ => none
    else none := rfl
  generalize spl [32] 0 [] l = ws at *
  tm_at "M"
  refine q_count (v := [40]) rfl rfl hw w40 ?_
  tm_at "M"
  refine brt_nd (fun hc => ?_) (fun hc => ?_)
  · have hc' : ws.count [40] = 1 := by omega
    obtain ⟨last, hla⟩ : ∃ last, ws.getLast? = some last := by
      cases h : ws.getLast? with
      | none => exact absurd (List.getLast?_eq_none_iff.mp h) hne
      | some x => exact ⟨x, rfl⟩
    have hlm : last ∈ ws := List.mem_of_getLast? hla
    tm_at "M"
    refine q_ixL (d := wd last) (by rw [last_at (by simpa using hne), List.getLast?_map, hla]; rfl) ?_
    tm_at "M"
    refine q_neA (hw last hlm).s w41.s ?_
    rw [tl_strOf, tl_strOf]
    tm_at "M"
    refine brt_nd (fun h41 => ?_) (fun h41 => ?_)
    · subst h41
      have hin : [40] ∈ ws := List.count_pos_iff.mp (by omega)
      have hix : ws.idxOf [40] < ws.length := List.idxOf_lt_length_iff.mpr hin
      tm_at "M"
      refine q_index (v := [40]) rfl rfl hw w40 hin ?_
      rw [if_pos ⟨hc', hla⟩] at hr
      generalize ws.idxOf [40] = at' at *
      tm_at "M"
      rw [cut_take _ _ (by rw [List.length_map]; omega), ← List.map_take]
      refine places_from (fun w hw' => hw w (List.mem_of_mem_take hw')) (by rw [List.length_take]; omega) ?_
      tm_at "M"
      rw [cut_mid _ _ (by rw [List.length_map]; omega), ← List.map_drop, ← List.map_dropLast]
      refine places_from (fun w hw' => hw w (List.mem_of_mem_drop ((List.dropLast_sublist _).mem hw'))) (by rw [List.length_dropLast, List.length_drop]; omega) ?_
      cases h1 : rdPl (ws.take at') with
      | none =>
        rw [h1] at hr
        tm_at "M"
        refine brt_f ?_
        tm_at "M"
        exact ⟨by rw [hr]; rfl, List.take_length⟩
      | some a =>
        cases h2 : rdPl ((ws.drop (at' + 1)).dropLast) with
        | none =>
          rw [h1, h2] at hr
          tm_at "M"
          refine brt_t ?_
          tm_at "M"
          refine brt_f ?_
          tm_at "M"
          exact ⟨by rw [hr]; rfl, List.take_length⟩
        | some r =>
          rw [h1, h2] at hr
          dsimp only at hr
          tm_at "M"
          refine brt_t ?_
          tm_at "M"
          refine brt_t ?_
          unfold optPl plD
          tm_at "M"
          rw [List.length_map]
          cases r with
          | nil =>
            refine brt_df (by decide) ?_
            tm_at "M"
            exact ⟨by rw [hr]; rfl, List.take_length⟩
          | cons x r =>
            refine brt_dt (by rw [List.length_cons]; omega) ?_
            tm_at "M"
            exact ⟨by rw [hr]; rfl, List.take_length⟩
    · rw [if_neg (fun z => h41 (Option.some.inj (hla.symm.trans z.2)))] at hr
      tm_at "M"
      exact ⟨by rw [hr]; rfl, List.take_length⟩
  · rw [if_neg (fun z => hc (by rw [z.1]; rfl))] at hr
    tm_at "M"
    exact ⟨by rw [hr]; rfl, List.take_length⟩
end Xw

set_option maxHeartbeats 1000000
/-! texts of kits -/
namespace Xw
open PySem PySem.Spec PyProof.Rows L2 Mr Pg

variable {N : Nat} {S : Sto}
/-- what a copy is whose text is short -/
structure CpS (c : Cp) : Prop where
  a : c.a.natAbs < 2 ^ 60
  b : c.b.natAbs < 2 ^ 60
  k : c.k.natAbs < 2 ^ 60
/-- what a kit is whose text is short -/
structure KS (m : Pg.Tm) (gs : List (List Cp)) : Prop where
  bt : m.Bts 60
  len : gs.length ≤ 1000
  tot : ∃ most, gs.length * most ≤ 3600 ∧ most ≤ 1000 ∧ ∀ cs ∈ gs, cs.length ≤ most
  st : ∀ cs ∈ gs, ∀ c ∈ cs, CpS c
theorem KT.ks {m : Pg.Tm} {gs : List (List Cp)} (h : KT m gs) : KS m gs := ⟨h.bt.mono (by decide), by have := h.len; omega, by
  obtain ⟨most, h1, h2⟩ := h.tot
  refine ⟨most, by omega, ?_, h2⟩
  have h3 := h.ne
  have : 1 ≤ gs.length := List.length_pos_iff.mpr h3
  have : 1 * most ≤ gs.length * most := Nat.mul_le_mul_right _ this
  omega, fun cs hcs c hc => by
  obtain ⟨d1, d2, d3, d4, d5, d6⟩ := (h.st cs hcs).2.2.2 c hc
  have := h.len
  exact ⟨by omega, by omega, by omega⟩⟩
theorem KS.row {m : Pg.Tm} {gs : List (List Cp)} (h : KS m gs) {i : Nat} (hi : i < gs.length) : ∃ cs, gs[i]? = some cs ∧ cs ∈ gs := ⟨gs[i], List.getElem?_eq_getElem hi, List.getElem_mem hi⟩
end Xw

set_option maxHeartbeats 1000000
/-! tables, copies, states read from lines -/
namespace Xw
open PySem PySem.Spec PyProof.Rows L2 Mr Pg
open TL (tl spl par)

variable {N : Nat} {S : Sto}
def optC : Option Cp → PyData
  | some c => cpD c
  | none => .none
/-- the copy that a part of a line shows -/
def rdC (l : List Nat) : Option Cp := match (spl [32] 0 [] l).map rdI with
  | [some a, some b, some k] => if k < 0 then none else some ⟨a, b, k⟩
  | _ => none
/-- the table that a line shows -/
def rdT (l : List Nat) : Option Pg.Tm := match spl [32] 0 [] l with
  | [116, 97, 98, 108, 101] :: ws => match ws.map rdI with
    | [some a, some b, some c, some d] => some ⟨a, b, c, d⟩
    | _ => none
  | _ => none
def optT : Option Pg.Tm → PyData
  | some m => m.D
  | none => .none
/-- all copies there -/
def allC : List (Option Cp) → Option (List Cp)
  | [] => some []
  | some i :: r => (allC r).map (i :: ·)
  | none :: _ => none
/-- the copies of a state's line -/
def rdS (l : List Nat) (i : Nat) : Option (List Cp) := match par [32, 58, 32] [] l with
  | some (p, r) => if p = tl (tI (i : Nat)) then allC ((spl [44, 32] 0 [] r).map rdC) else none
  | none => none
def optS : Option (List Cp) → PyData
  | some cs => rowD cs
  | none => .none
end Xw

set_option maxHeartbeats 1000000
/-! what is shown is read -/
namespace Xw
open PySem PySem.Spec PyProof.Rows L2 Mr Pg
open TL (tl spl par joinL)
/-- the signs of an int's text -/
abbrev sg (i : Int) : List Nat := tl (tI i)
theorem sg_len {i : Int} (h : i.natAbs < 10 ^ 18) : (sg i).length ≤ 19 := by
  have := tI_len (i := i) (k := 18) (by decide) h
  rw [TL.len_tl] at this
  exact this
theorem sg_asc (i : Int) : ∀ c ∈ sg i, c < 128 := asc_tI i
theorem tl_numT (t b : Int) : tl (numT t b) = if b = 1 then sg t else sg t ++ (47 :: sg b) := by
  unfold numT
  split
  · rfl
  · rw [TL.tl_append, TL.tl_append, List.append_assoc]
    rw [show tl (sb "/") = [47] by decide]
    rfl
def ptT (t b t' b' : Int) : Str := numT t b ++ sb " " ++ numT t' b'
/-! joined texts -/
theorem join_mem {T : List Nat} : ∀ {ps : List (List Nat)} {c : Nat}, c ∈ joinL T ps → c ∈ T ∨ ∃ p ∈ ps, c ∈ p
  | [], c, h => nomatch h
  | [p], c, h => .inr ⟨p, List.mem_cons_self, h⟩
  | p :: q :: r, c, h => by
    have h' : c ∈ p ++ (T ++ joinL T (q :: r)) := h
    rcases List.mem_append.mp h' with z | z
    · exact .inr ⟨p, List.mem_cons_self, z⟩
    · rcases List.mem_append.mp z with z | z
      · exact .inl z
      · rcases join_mem z with z | ⟨x, hx, hc⟩
        · exact .inl z
        · exact .inr ⟨x, List.mem_cons_of_mem _ hx, hc⟩
/-- the words of an address -/
def adW (l r : List Nat) : List (List Nat) := (l.map fun i => sg (i : Nat)) ++ [[40]] ++ (r.map fun i => sg (i : Nat)) ++ [[41]]
theorem tl_addrT (l r : List Nat) : tl (addrT l r) = joinL [32] (adW l r) := by
  unfold addrT
  rw [TL.tl_join, show tl (sb " ") = [32] by decide]
  congr 1
  simp only [adW, plcT, List.map_append, List.map_map, List.map_cons, List.map_nil]
  rw [show tl (sb "(") = [40] by decide, show tl (sb ")") = [41] by decide]
  rfl
theorem joinL_len {T : List Nat} {b : Nat} : ∀ {ps : List (List Nat)}, (∀ p ∈ ps, p.length ≤ b) → (joinL T ps).length ≤ ps.length * (b + T.length)
  | [], _ => Nat.zero_le _
  | [p], h => by
    have := h p List.mem_cons_self
    show p.length ≤ 1 * _
    omega
  | p :: q :: r, h => by
    have h1 := h p List.mem_cons_self
    have h2 := joinL_len (T := T) (ps := q :: r) fun x hx => h x (List.mem_cons_of_mem _ hx)
    show (p ++ (T ++ joinL T (q :: r))).length ≤ _
    rw [List.length_append, List.length_append, List.length_cons (a := p), Nat.add_mul]
    omega
/-! kits -/
/-- a copy whose ints have at most nine figures -/
structure Cp9 (c : Cp) : Prop where
  a : c.a.natAbs < 10 ^ 9
  b : c.b.natAbs < 10 ^ 9
  k : c.k.natAbs < 10 ^ 9
  k0 : 0 ≤ c.k
/-- a table whose ints have at most nine figures -/
structure T9 (m : Pg.Tm) : Prop where
  a : m.a.natAbs < 10 ^ 9
  b : m.b.natAbs < 10 ^ 9
  c : m.c.natAbs < 10 ^ 9
  d : m.d.natAbs < 10 ^ 9
/-- the lines of a kit -/
def lnW (m : Pg.Tm) (gs : List (List Cp)) : List (List Nat) := tl (tabT m) :: (List.range gs.length).map fun i => tl (rowT gs i)
end Xw

set_option maxHeartbeats 1000000
/-! the readers of right texts -/
namespace Xw
open PySem PySem.Spec PyProof.Rows L2 Mr Pg
open TL (tl spl par joinL)

variable {N : Nat} {S : Sto}
theorem gM_callV {tb : List (Str × On)} {i : Nat} {t : MA} {e : Mr.Env} {Q : W → Sto → Prop} {x : Str} {g : On} (h : e[i]? = some (some (.fn x))) (hl : tb.lookup x = some g) (q : GvA (t e S) fun ws S1 => Gives (g ws S1) Q) : Gives (mCallV tb i t e S) Q := by
  obtain ⟨ws, S1, e1, y, S2, e2, q⟩ := q
  refine ⟨y, S2, ?_, q⟩
  unfold mCallV
  rw [h]
  dsimp only
  rw [e1, Option.bind_some, hl, Option.bind_some]
  exact e2
theorem isN_data {d : PyData} (h : d ≠ .none) : isN (.d d) = false := by
  cases d with
  | none => exact absurd rfl h
  | _ => rfl
theorem asc_nl : Asc (Str.ofString "") := asc_of (by decide)
/-- what a kit is that is read -/
structure K9 (m : Pg.Tm) (gs : List (List Cp)) : Prop where
  gr : grows m.a m.b m.c m.d = true
  t9 : T9 m
  ne : gs ≠ []
  len : gs.length ≤ 1000
  st : ∀ cs ∈ gs, cs ≠ [] ∧ cs.length ≤ 1000 ∧ asc (cs.map cpD) = true ∧ ∀ c ∈ cs, Cp9 c ∧ c.k < (gs.length : Nat)
  wk : Wk (tl (kitT m gs))
end Xw

set_option maxHeartbeats 1000000
/-! a, b = x, y where a or b is also read in a comprehension's inner scope -/
namespace Mr
open PySem PySem.Spec PyProof.Rows L2
variable {X : Cx} {a b : Expr} {mr : MA} {pos : Pos}
end Mr

set_option maxHeartbeats 4000000
/-! set(xs) of a tuple of tuples (from NsE) -/
namespace NS
open PySem PySem.Builtin PySem.Spec PyProof.Rows L2
section
variable {P : Program} {w : World} {A : Around} {E : Value → Shared → Prop} {s : Shared}
end
end NS

set_option maxHeartbeats 1000000
/-! sorted(set(t)) of a tuple of key tuples -/
namespace Mr
open PySem PySem.Spec PyProof.Rows L2
open Evl (Ex ex_l ex_t)
section
variable {X : Cx} {e : Expr} {m : M}
def oSortSetT : O1 := fun a S => match a with
  | .d (.tuple ds) => if okKeys ds = true ∧ ds.length < 4000 then oSortS (sputs ds) S else none
  | _ => none
def rSetTS (w : World) (K : PySem.W.Frag) : List V → Hp → VK → Prop := fun xs H Q => ∃ (F : Hp) (p : Addr) (ks : NS.Ks) (ds : List PyData), xs = [.ref p] ∧ Ex F H ∧ SqT K H p (ks.map fun p => V.ref p.1) ∧ Paired (KeyAt K F) ds ks ∧ ds.length < 4000 ∧
  ∀ q L, H q = none → NS.Of ks ks.length L → (L.map (·.2)).Nodup → Q (.ref q) (upd H q (.ext (RawS w q L)))
end
end Mr

set_option maxHeartbeats 2000000
/-! what raises: outcomes, readings, defs that raise, raise, calls -/
namespace Mr
open PySem PySem.Spec PyProof.Rows L2
open Evl (Ex ex_l ex_t)
/-- an expression that may raise: a value, or an exception's class and value -/
inductive OX where
  | ok (w : W) (s : Sto)
  | ex (c : Str) (x : PyData) (s : Sto)
inductive RX where
  | r (q : R)
  | ex (c : Str) (x : PyData) (e : Env) (s : Sto)
abbrev MX := Env → Sto → Option OX
abbrev MSX := Env → Sto → Option RX
abbrev OnX := List W → Sto → Option OX
/-- the exception's class has this name, its value is this -/
def XRel (K : PySem.W.Frag) (F : Hp) (c : Str) (x : PyData) (cls : Value) (d : Option Addr) : Prop := ∃ C dd u fI, cls = .ref C ∧ PySem.W.nsIn K mainGlobals c = some (some (.ref C)) ∧ d = some dd ∧ F dd = some (.xd [("value", u)]) ∧ Dz K F u x ∧ Sk.ExK K fI C
theorem XRel.up {K : PySem.W.Frag} {F F' : Hp} {c : Str} {x : PyData} {cls : Value} {d : Option Addr} (h : XRel K F c x cls d) (e : Ex F F') : XRel K F' c x cls d := by
  obtain ⟨C, dd, u, fI, h1, h2, h3, h4, h5, h6⟩ := h
  exact ⟨C, dd, u, fI, h1, h2, h3, e _ _ h4, h5.up e, h6⟩
section
variable (P : Program) (w : World) (K : PySem.W.Frag)
def AftE (F : Hp) (μ : List Addr) (H : Hp) (Q : VK) (E : XK) : OX → Prop
  | .ok x s => ∀ F' μ' H' v, Gr F μ H F' μ' H' → Wd P w K F' μ' s H' → WRel K F' μ' x v → Q v H'
  | .ex c x s => ∀ F' μ' H' cls d, Gr F μ H F' μ' H' → Wd P w K F' μ' s H' → XRel K F' c x cls d → E cls d H'
def AftX (F : Hp) (μ : List Addr) (H : Hp) (D : Ends) (V : WX) : RX → Prop
  | .r q => Aft P w K F μ H D q
  | .ex c x e s => ∀ F' μ' H' σ' cls d, Gr F μ H F' μ' H' → Wd P w K F' μ' s H' → RelE K F' μ' σ' e → XRel K F' c x cls d → V cls d σ' H'
def tMX (V : WX) (m : MX) : TE := fun σ H Q => ∃ F μ S env r, Wd P w K F μ S H ∧ RelE K F μ σ env ∧ m env S = some r ∧ AftE P w K F μ H Q (fun cls d H' => ∀ env', RelE K F μ σ env' → V cls d σ H') r
def tMSX (V : WX) (m : MSX) : TS := fun D σ H => ∃ F μ S env r, Wd P w K F μ S H ∧ RelE K F μ σ env ∧ m env S = some r ∧ AftX P w K F μ H D V r
def spX (f : OnX) : Sp := fun vs H Q E => ∃ F μ S ws r, Wd P w K F μ S H ∧ WAll K F μ ws vs ∧ f ws S = some r ∧ AftE P w K F μ H Q E r
end
abbrev Cx.tEX (X : Cx) (V : WX) (m : MX) : TE := tMX X.prog X.w X.K V m
abbrev Cx.tSX (X : Cx) (V : WX) (m : MSX) : TS := tMSX X.prog X.w X.K V m
section
variable {P : Program} {w : World} {K : PySem.W.Frag} {F F' H H' : Hp} {μ μ' : List Addr} {S S' : Sto} {σ : L2.St} {env : Env} {D : Ends} {V : WX} {Q : VK} {E : XK}
theorem AftE.gr {r : OX} (g : Gr F μ H F' μ' H') (h : AftE P w K F μ H Q E r) : AftE P w K F' μ' H' Q E r := by
  cases r with
  | ok x s => exact fun F2 μ2 H2 v g2 d2 r2 => h F2 μ2 H2 v (g.trans g2) d2 r2
  | ex c x s => exact fun F2 μ2 H2 cls d g2 d2 r2 => h F2 μ2 H2 cls d (g.trans g2) d2 r2
theorem AftX.gr {r : RX} (g : Gr F μ H F' μ' H') (h : AftX P w K F μ H D V r) : AftX P w K F' μ' H' D V r := by
  cases r with
  | r q => exact Aft.gr g h
  | ex c x e s => exact fun F2 μ2 H2 σ2 cls d g2 d2 r2 x2 => h F2 μ2 H2 σ2 cls d (g.trans g2) d2 r2 x2
theorem useX {m : MX} {r : OX} (e : m env S = some r) (d : Wd P w K F μ S H) (re : RelE K F μ σ env)
    (q : AftE P w K F μ H Q (fun cls d H' => V cls d σ H') r) : tMX P w K V m σ H Q :=
  ⟨F, μ, S, env, r, d, re, e, by
    cases r with
    | ok x s => exact q
    | ex c x s => exact fun F' μ' H' cls d g d' x' env' _ => q F' μ' H' cls d g d' x'⟩
theorem useSX {m : MSX} {r : RX} (e : m env S = some r) (d : Wd P w K F μ S H) (re : RelE K F μ σ env) (q : AftX P w K F μ H D V r) : tMSX P w K V m D σ H := ⟨F, μ, S, env, r, d, re, e, q⟩
end
/-! ### mirrors -/
def xUp (m : M) : MX := fun e S => (m e S).bind fun p => some (.ok p.1 p.2)
def xCall (f : OnX) (t : MA) : MX := fun e S => (t e S).bind fun p => f p.1 p.2
def xCallK (f : OnX) (is : List Nat) (t : MA) : MX := fun e S => (t e S).bind fun p => f (permL is p.1) p.2
def xIf (c : MT) (a b : MX) : MX := fun e S => (c e S).bind fun p => if p.1 = true then a e p.2 else b e p.2
def yUp (m : MS) : MSX := fun e S => (m e S).bind fun r => some (.r r)
def ySeq (a b : MSX) : MSX := fun e S => (a e S).bind fun r => match r with
  | .r (.nx e1 S1) => b e1 S1
  | r => some r
def yIf (c : MT) (a b : MSX) : MSX := fun e S => (c e S).bind fun p => if p.1 = true then a e p.2 else b e p.2
def yRaise (c : Str) (m : M) : MSX := fun e S => (m e S).bind fun p => match p.1 with
  | .d x => some (.ex c x e p.2)
  | _ => none
def yOf (m : MX) (k : W → Sto → Env → Option R) : MSX := fun e S => (m e S).bind fun r => match r with
  | .ok x S1 => (k x S1 e).bind fun q => some (.r q)
  | .ex c x S1 => some (.ex c x e S1)
def yRet (m : MX) : MSX := yOf m fun x S _ => some (.rt x S)
def yDrop (m : MX) : MSX := yOf m fun _ S e => some (.nx e S)
def ySet (i : Nat) (m : MX) : MSX := yOf m fun x S e => if i < e.length then some (.nx (e.set i (some x)) S) else none
def fnX (n many : Nat) (b : MSX) : OnX := fun ws S => if ws.length = n then (b (ws.map some ++ List.replicate (many - n) none) S).bind fun r => match r with
  | .r q => (fnM n many (fun _ _ => some q) ws S).bind fun p => some (.ok p.1 p.2)
  | .ex c x _ S1 => some (.ex c x (S1.take S.length))
  else none
/-! ### readings -/
section
variable {X : Cx} {V : WX} {a b c e : Expr} {es : List Expr} {st : Stmt} {body rest : List Stmt} {m : M} {mx mx' : MX} {mt : MT} {ms : MS} {y y' : MSX} {mr : MA} {pos p : Pos}
theorem mx_of {t : TE} (h : PE X e t) (i : ∀ σ H Q F μ S env r, Wd X.prog X.w X.K F μ S H → RelE X.K F μ σ env → mx env S = some r → AftE X.prog X.w X.K F μ H Q (fun cls d H' => V cls d σ H') r → t σ H Q) : PE X e (Cx.tEX X V mx) :=
  peI h fun σ H Q ⟨F, μ, S, env, r, d, re, e, q⟩ => i σ H Q F μ S env r d re e (by
    cases r with
    | ok x s => exact q
    | ex c x s => exact fun F' μ' H' cls d g d' x' => q F' μ' H' cls d g d' x' env re)
theorem my_of {t : TS} (h : PS X st t) (i : ∀ D σ H F μ S env r, Wd X.prog X.w X.K F μ S H → RelE X.K F μ σ env → y env S = some r → AftX X.prog X.w X.K F μ H D V r → t D σ H) : PS X st (Cx.tSX X V y) :=
  psI h fun D σ H ⟨F, μ, S, env, r, d, re, e, q⟩ => i D σ H F μ S env r d re e q
theorem mys_of {t : TS} (h : PSs X body t) (i : ∀ D σ H F μ S env r, Wd X.prog X.w X.K F μ S H → RelE X.K F μ σ env → y env S = some r → AftX X.prog X.w X.K F μ H D V r → t D σ H) : PSs X body (Cx.tSX X V y) :=
  pssI h fun D σ H ⟨F, μ, S, env, r, d, re, e, q⟩ => i D σ H F μ S env r d re e q
theorem my_up (h : PS X st (Cx.tS X ms)) : PS X st (Cx.tSX X V (yUp ms)) := my_of h fun D σ H F μ S env r d re e q => by
  obtain ⟨r1, e1, e2⟩ := bindS e
  cases e2
  exact ⟨F, μ, S, env, r1, d, re, e1, q⟩
theorem mys_up (h : PSs X body (Cx.tS X ms)) : PSs X body (Cx.tSX X V (yUp ms)) := mys_of h fun D σ H F μ S env r d re e q => by
  obtain ⟨r1, e1, e2⟩ := bindS e
  cases e2
  exact ⟨F, μ, S, env, r1, d, re, e1, q⟩
theorem mx_if (hc : PT X c (Cx.tT X mt)) (ha : PE X a (Cx.tEX X V mx)) (hb : PE X b (Cx.tEX X V mx')) : PE X (.IfExp c a b pos) (Cx.tEX X V (xIf mt mx mx')) := mx_of (pe_ifExp hc ha hb) fun σ H Q F μ S env r d re e q => by
  obtain ⟨⟨k, S1⟩, e1, e2⟩ := bindS e
  refine useT e1 d re fun F1 μ1 H1 g1 d1 re1 => ?_
  cases k with
  | true => exact useX e2 d1 re1 (q.gr g1)
  | false => exact useX e2 d1 re1 (q.gr g1)
theorem mys_cons (h1 : PS X st (Cx.tSX X V y)) (h2 : PSs X rest (Cx.tSX X V y')) : PSs X (st :: rest) (Cx.tSX X V (ySeq y y')) := mys_of (pss_cons h1 h2) fun D σ H F μ S env r d re e q => by
  obtain ⟨r1, e1, e2⟩ := bindS e
  refine useSX e1 d re ?_
  cases r1 with
  | r r1 =>
    cases r1 with
    | nx e3 S3 => exact fun F' μ' H' σ' g d' re' => useSX e2 d' re' (q.gr g)
    | bk e3 S3 => cases e2; exact q
    | ct e3 S3 => cases e2; exact q
    | rt x S3 => cases e2; exact q
  | ex c x e3 S3 => cases e2; exact q
theorem mys_one (h1 : PS X st (Cx.tSX X V y)) : PSs X [st] (Cx.tSX X V y) := pss_one h1
theorem my_if (hc : PT X c (Cx.tT X mt)) (ha : PSs X body (Cx.tSX X V y)) (hb : PSs X rest (Cx.tSX X V y')) : PS X (.If c body rest pos) (Cx.tSX X V (yIf mt y y')) := my_of (ps_if hc ha hb) fun D σ H F μ S env r d re e q => by
  obtain ⟨⟨k, S1⟩, e1, e2⟩ := bindS e
  refine useT e1 d re fun F1 μ1 H1 g1 d1 re1 => ?_
  cases k with
  | true => exact useSX e2 d1 re1 (q.gr g1)
  | false => exact useSX e2 d1 re1 (q.gr g1)
theorem of_x {k : W → Sto → Env → Option R} {D : Ends} {σ : L2.St} {H F : Hp} {μ : List Addr} {S : Sto} {env : Env} {r : RX} {t : VK} (d : Wd X.prog X.w X.K F μ S H) (re : RelE X.K F μ σ env) (e : yOf mx k env S = some r) (q : AftX X.prog X.w X.K F μ H D V r)
    (i : ∀ x S1 q1, k x S1 env = some q1 → Aft X.prog X.w X.K F μ H D q1 → ∀ F' μ' H' v, Gr F μ H F' μ' H' → Wd X.prog X.w X.K F' μ' S1 H' → RelE X.K F' μ' σ env → WRel X.K F' μ' x v → t v H') : Cx.tEX X V mx σ H t := by
  obtain ⟨r1, e1, e2⟩ := bindS e
  refine useX e1 d re ?_
  cases r1 with
  | ok x S1 =>
    obtain ⟨q1, e3, e4⟩ := bindS e2
    cases e4
    exact fun F' μ' H' v g d' r' => i x S1 q1 e3 q F' μ' H' v g d' (re.gr g) r'
  | ex c x S1 =>
    cases e2
    exact fun F' μ' H' cls dd g d' x' => q F' μ' H' σ cls dd g d' (re.gr g) x'
theorem my_ret (he : PE X e (Cx.tEX X V mx)) : PS X (.Return (some e) pos) (Cx.tSX X V (yRet mx)) := my_of (ps_ret he) fun D σ H F μ S env r d re e q =>
  of_x d re e q fun x S1 q1 e1 q F' μ' H' v g d' re' r' => by cases e1; exact q F' μ' H' v g d' r'
theorem my_set {i : Nat} {x : Str} {pos' : Pos} (hN : X.N.Nodup) (hi : X.N[i]? = some x) (hx : Loc X.env.scope x) (he : PE X e (Cx.tEX X V mx)) (hs : swapsWith e (some (.Name x pos')) pos.line X.env = pure false := by rfl) (hf : X.fn x = true ∨ X.env.scope.names.lookup x = some .local := by first | exact .inl rfl | exact .inr rfl | assumption) :
    PS X (.Assign [.Name x pos'] e pos) (Cx.tSX X V (ySet i mx)) := my_of (ps_set hN hi hx he hs hf) fun D σ H F μ S env r d re e q =>
  of_x d re e q fun x S1 q1 e1 q F' μ' H' v g d' re' r' => by
    by_cases hl : i < env.length
    · rw [if_pos hl] at e1
      cases e1
      exact q F' μ' H' _ g d' (re'.set r')
    · rw [if_neg hl] at e1; cases e1
/-! ### raise -/
theorem ini_at {H1 : Hp} {a dx : Addr} {e1 e2 e3 o : HO} (hn : H1 a = none) (hda : dx ≠ a) : upd (del (upd (upd (upd H1 a e1) dx e2) a e3) a) dx o = upd H1 dx o := by
  funext b
  by_cases hb : b = dx
  · subst hb; rw [upd_same, upd_same]
  · rw [upd_ne hb, upd_ne hb]
    by_cases hc : b = a
    · subst hc; rw [hn]; unfold del; simp
    · rw [del_ne hc, upd_ne hc, upd_ne hb, upd_ne hc]
theorem w_mkg2 {K : PySem.W.Frag} {fI : Addr} {H1 : Hp} {C : Addr} {g : L2.V} {Q : XK} (T : Sk.ExK K fI C) (q : ∀ d, H1 d = none → Q (.ref C) (some d) (upd H1 d (.xd [("value", g)]))) : Sk.MkG K C g Q H1 := by
  refine ⟨(by decide : 1 ≤ 1000), fun a hn => ⟨a, C, g, rfl, T.o, T.no, upd_same, fun dx hd hda => ?_⟩⟩
  have hd' : H1 dx = none := by rw [upd_ne hda] at hd; exact hd
  obtain ⟨z1, z2, z3⟩ := Sk.mk_ini (C := C) (g := g) hn hd' hda rfl
  refine ⟨rfl, dx, _, z1, z2, hd', ?_⟩
  rw [ini_at hn hda]
  exact q dx hd'
/-- X(e), its context None -/
theorem pmk_posN {x : Str} {C fI : Addr} {j k : Nat} {te : TE} (T : Sk.ExK X.K fI C) (N : Sk.Ini X.prog X.w X.K X.mg X.base j fI) (hr : Room k X.A) (hjk : j + 1 ≤ k)
    (hm : X.mg x = some (.ref C)) (he : PE X e te) (hg : Gl X x := by rfl) (hdb : (x == ("__debug__" : Str)) = false := by decide)
    (hs : starEach [e] X.env = (false, eval e X.env) :: starEach [] X.env := by rfl) (hpl : (backTo pos (starEach [] X.env)).any (·.1) = false := by rfl) :
    L2N.PMk X (.Call (.Name x p) [e] [] pos) (Sk.tMkV X.K C te) := by
  obtain ⟨fd, F1, hb, -⟩ := N.ex
  obtain ⟨nm, qn, ns, bs, bm, sn, sub, ab, col, dd, k0, k1, k2, k3, k5, hC, hT⟩ := T.o.cls
  intro pins s σ H Q I h
  refine wpAny_Call_Name_kw (ld_glob I hg hm ?_ hdb)
  refine PySem.W.callWith_K (h₀ := X.base) I.ok.mod.kin T.o.kC (thn ((pa_cons he pa_nil hs).run pos pins s σ H (fun zs H1 => match zs with | [g] => Sk.MkG X.K C g Q H1 | _ => False) I h) ?_) hs hpl
  rintro ws ⟨hp, g1, dr, tk, os⟩ ⟨zs, H1, I1, rz, q⟩
  match zs, ws, rz, q with
  | [g], [u], .cons rg .nil, ⟨_, q⟩ =>
    refine ⟨I1.kIn, ?_⟩
    show wpAny _ _ (call (.ref C) [u]) _ _ _
    have big : hp.objs.size ≤ hp.objs.size + 1 := Nat.le_succ _
    have n1 : H1 (hp.objs.size + 1) = none := I1.hok.fresh big
    have kk : ∀ b o, hp.get? b = some o → ((hp.push (PySem.W.kdv_tup [u])).push (PySem.HandSPX.excO C hp.objs.size)).get? b = some o := fun b o e => Heap.get?_push_of_some _ (Heap.get?_push_of_some _ e)
    have there : ((hp.push (PySem.W.kdv_tup [u])).push (PySem.HandSPX.excO C hp.objs.size)).get? (hp.objs.size + 1) = some (PySem.HandSPX.excO C hp.objs.size) := by heap_get
    have I2 : Inv X pins σ (upd H1 (hp.objs.size + 1) (exo (hp.objs.size + 1) C none)) ⟨(hp.push (PySem.W.kdv_tup [u])).push (PySem.HandSPX.excO C hp.objs.size), g1, dr, tk, os⟩ := I1.laid (t' := tk) kk big (exo_ok there)
    have few : [u].length ≤ sizeLine := by show 1 ≤ sizeLine; decide
    refine wpAny_call (PySem.HandSPX.call_own F.excBase_ValueError (fun Y => PySem.HandSPX.refsVE_contains Y bm hT) (I1.kIn _ _ hC) (PySem.W.looks_findIn I1.kIn T.it) (fun self => PySem.W.bind_fn I1.kIn self N.ty) few
      (codeAny_mono (F1.run _ X.stack _ _ ⟨[.ref (hp.objs.size + 1), u], []⟩ [.ref (hp.objs.size + 1), u] [.ref (hp.objs.size + 1), g] _ (fun _ _ _ => False)
        ((hr.mono hjk).make C [u] _) (I2.env0.make C [u] _) (hb _ _ I2.kIn rfl) (.cons rfl (.cons rg .nil)) (q _ n1)) fun r s' z => ?_))
    match r, z with
    | .ok (.ret _), ⟨_, H2, os2, bare, un, hok, rv, rfl, d, fs, ea, ed, hd, q2⟩ =>
      obtain ⟨h2, g2, d2, t2, o2⟩ := s'
      obtain ⟨t0, G, J, kG, ge, hoe, na⟩ := mk_end0 (d2 := d2) (t2 := t2) I1 big kk un hok os2 bare ea ed hd
      exact ⟨rv, hp.objs.size + 1, _, _, ⟨G, g2, d2, t2, o2⟩, _, .ref C, some d, rfl, J, kG, ge, hoe, ⟨rfl, rfl, fun vs e => by cases e; rfl⟩, rfl, rfl, na, rfl, bare, raises_own T.o.exC T.o.tyC, q2⟩
    | .error _, z => exact z.elim
    | .ok .next, z => exact z.elim
    | .ok .brk, z => exact z.elim
    | .ok .cont, z => exact z.elim
theorem my_raise {x : Str} {C fI : Addr} {j k : Nat} {pos' : Pos} (hc : X.calm = true) (tk : L2N.Takes X V) (T : Sk.ExK X.K fI C) (N : Sk.Ini X.prog X.w X.K X.mg X.base j fI) (hr : Room k X.A) (hjk : j + 1 ≤ k)
    (hm : X.mg x = some (.ref C)) (hn : PySem.W.nsIn X.K mainGlobals x = some (some (.ref C))) (he : PE X e (Cx.tE X m)) (hg : Gl X x := by rfl) (hdb : (x == ("__debug__" : Str)) = false := by decide)
    (hs : starEach [e] X.env = (false, eval e X.env) :: starEach [] X.env := by rfl) (hpl : (backTo pos (starEach [] X.env)).any (·.1) = false := by rfl) :
    PS X (.Raise (some (.Call (.Name x p) [e] [] pos)) none pos') (Cx.tSX X V (yRaise x m)) :=
  my_of (L2N.ps_raise hc tk (pmk_posN T N hr hjk hm he hg hdb hs hpl)) fun D σ H F μ S env r d re e q => by
    obtain ⟨⟨w1, S1⟩, e1, e2⟩ := bindS e
    refine useM e1 d re fun F1 μ1 H1 v1 g1 d1 re1 r1 => ?_
    dsimp only at e2
    split at e2
    · rename_i z
      cases e2
      refine w_mkg2 T fun dx hd => ?_
      obtain ⟨d2, g2⟩ := d1.new hd (.xd [("value", v1)])
      exact q _ _ _ σ _ _ (g1.trans g2) d2 (re1.gr g2) ⟨C, dx, v1, fI, rfl, hn, rfl, upd_same, Dz.up g2.ex r1, T⟩
    · cases e2
/-! ### calls of defs that raise -/
/-- a def of the text that may raise -/
structure CalXN (P : Program) (w : World) (K : PySem.W.Frag) (mg : Str → Option Value) (base : Heap) (k : Nat) (x : Str) (ps : List Str) (sp : Sp) : Prop where
  ex : ∃ (f : Addr) (fd : FuncData), FnOk P w K mg base (L2N.CX P w) k f fd ps sp ∧ mg x = some (.ref f) ∧ PySem.W.keepIn K (.ref f) = true ∧ Binds K fd ps []
def tCallXV (W : WX) (sp : Sp) (t : TA) : TE := fun σ H Q => t σ H fun vs H1 => sp vs H1 Q fun cls d H' => W cls d σ H'
theorem pe_callXN {x : Str} {ps : List Str} {j k : Nat} {sp : Sp} {t : TA} (C : CalXN X.prog X.w X.K X.mg X.base j x ps sp) (hr : Room k X.A) (hjk : j ≤ k) (tk : L2N.Takes X V) (ha : PA X (e :: es) t) (hg : Gl X x := by rfl)
    (hdb : (x == ("__debug__" : Str)) = false := by decide) (he : starEach (e :: es) X.env = (false, eval e X.env) :: starEach es X.env := by rfl) (hpl : (backTo pos (starEach es X.env)).any (·.1) = false := by rfl) :
    PE X (.Call (.Name x p) (e :: es) [] pos) (tCallXV V sp t) := by
  obtain ⟨f, fd, F, hm, hk, hb⟩ := C.ex
  refine ⟨fun pins s σ H Q I h => ?_⟩
  refine wpAny_Call_Name_kw (ld_glob I hg hm ?_ hdb)
  refine PySem.W.callWith_K (h₀ := X.base) I.ok.mod.kin hk (thn (ha.run pos pins s σ H _ I h) fun us s1 ⟨vs, H1, I1, r, q⟩ => ⟨I1.kIn, ?_⟩) he hpl
  show wpAny _ _ (call (.ref f) us) _ _ _
  have r2 : Vals vs (us ++ []) := by rw [List.append_nil]; exact r
  have hl : (us ++ []).length = ps.length := by rw [← r2.length]; exact F.len _ _ _ _ q
  refine wpAny_call (codeAny_mono (F.run X.A X.stack s1 H1 ⟨us, []⟩ (us ++ []) vs Q (fun cls d H' => V cls d σ H') (hr.mono hjk) I1.env0 (hb s1 us I1.kIn hl) r2 q) fun r s' hq => ?_)
  cases r with
  | error e => exact tk e s' (L2N.XE.of_call I1 (fun _ _ _ h => h) hq)
  | ok fl =>
    cases fl with
    | ret u => exact I1.after hq
    | next => exact False.elim hq
    | brk => exact False.elim hq
    | cont => exact False.elim hq
theorem mx_call {x : Str} {ps : List Str} {j k : Nat} {f : OnX} (C : CalXN X.prog X.w X.K X.mg X.base j x ps (spX X.prog X.w X.K f)) (hr : Room k X.A) (hjk : j ≤ k) (tk : L2N.Takes X V) (ha : PA X (e :: es) (Cx.tA X mr)) (hg : Gl X x := by rfl)
    (hdb : (x == ("__debug__" : Str)) = false := by decide) (he : starEach (e :: es) X.env = (false, eval e X.env) :: starEach es X.env := by rfl) (hpl : (backTo pos (starEach es X.env)).any (·.1) = false := by rfl) :
    PE X (.Call (.Name x p) (e :: es) [] pos) (Cx.tEX X V (xCall f mr)) := mx_of (pe_callXN C hr hjk tk ha hg hdb he hpl) fun σ H Q F μ S env r d re e q => by
  obtain ⟨⟨xs, S1⟩, e1, e⟩ := bindS e
  refine useA e1 d re fun F1 μ1 H1 vs g1 d1 re1 r1 => ⟨F1, μ1, S1, xs, r, d1, r1, e, q.gr g1⟩
end
end Mr

set_option maxHeartbeats 2000000
/-! defs that raise; for; calls by keywords -/
namespace Mr
open PySem PySem.Spec PyProof.Rows L2
open Evl (Ex ex_l ex_t)
def forLX (t : Tg) (b : MSX) : List W → MSX
  | [] => fun e S => some (.r (.nx e S))
  | x :: xs => fun e S => (t.set x e).bind fun e1 => (b e1 S).bind fun r => match r with
      | .r (.nx e2 S2) => forLX t b xs e2 S2
      | .r (.ct e2 S2) => forLX t b xs e2 S2
      | .r (.bk e2 S2) => some (.r (.nx e2 S2))
      | .r (.rt x S2) => some (.r (.rt x S2))
      | .ex c x e2 S2 => some (.ex c x e2 S2)
def yFor (mi : MI) (t : Tg) (b : MSX) : MSX := fun e S => (mi e S).bind fun p => forLX t b p.1 e p.2
section
variable {X : Cx} {V : WX} {body : List Stmt} {y : MSX} {pos : Pos}
end
section
variable {P : Program} {w : World} {K : PySem.W.Frag} {mg : Str → Option Value} {base : Heap} {f : Addr} {fd : FuncData}
theorem start_rel {n : Nat} {N : List Str} {F : Hp} {μ : List Addr} {ws : List W} {vs : List L2.V} (r : WAll K F μ ws vs) (hn : ws.length = n) : RelE K F μ (L2.start N vs) (ws.map some ++ List.replicate (N.length - n) none) := by
  refine ⟨?_, fun i y h => ?_⟩
  · unfold L2.start
    rw [List.length_append, List.length_append, List.length_map, List.length_map, List.length_replicate, List.length_replicate, ← r.len, hn]
  · rcases Nat.lt_or_ge i ws.length with z | z
    · rw [List.getElem?_append_left (by rw [List.length_map]; exact z), List.getElem?_map] at h
      obtain ⟨y', h1, h2⟩ := Option.map_eq_some_iff.mp h
      cases h2
      obtain ⟨v, h3, h4⟩ := wall_get r h1
      refine ⟨v, ?_, h4⟩
      unfold L2.start
      rw [List.getElem?_append_left (by rw [List.length_map, ← r.len]; exact z), List.getElem?_map, h3]
      rfl
    · rw [List.getElem?_append_right (by rw [List.length_map]; exact z), List.getElem?_replicate] at h
      split at h <;> cases h
theorem fn_aft {n : Nat} {N : List Str} {F H : Hp} {μ : List Addr} {S S' : Sto} {ws : List W} {x : W} {Q : VK} {r1 : R} (hn : ws.length = n) (d : Wd P w K F μ S H) (e : fnM n N.length (fun _ _ => some r1) ws S = some (x, S'))
    (q : ∀ F' μ' H' v, Gr F μ H F' μ' H' → Wd P w K F' μ' S' H' → WRel K F' μ' x v → Q v H') : Aft P w K F μ H { nx := fun _ H' => Q .non H', rt := Q } r1 := by
  unfold fnM at e
  rw [if_pos hn] at e
  obtain ⟨r2, e1, e2⟩ := bindS e
  cases e1
  cases r1 with
  | nx en S1 =>
    cases e2
    intro F' μ' H' σ' g d' re'
    obtain ⟨d2, g2⟩ := d.cut g d'
    exact q F' _ H' .non g2 d2 .non
  | bk en S1 => cases e2
  | ct en S1 => cases e2
  | rt y S1 =>
    cases y with
    | d z =>
      cases e2
      intro F' μ' H' v g d' r'
      obtain ⟨d2, g2⟩ := d.cut g d'
      exact q F' _ H' v g2 d2 r'
    | scr z =>
      cases e2
      intro F' μ' H' v g d' r'
      obtain ⟨d2, g2⟩ := d.cut g d'
      exact q F' _ H' v g2 d2 r'
    | kd z =>
      cases e2
      intro F' μ' H' v g d' r'
      obtain ⟨d2, g2⟩ := d.cut g d'
      exact q F' _ H' v g2 d2 r'
    | fn z =>
      cases e2
      intro F' μ' H' v g d' r'
      obtain ⟨d2, g2⟩ := d.cut g d'
      exact q F' _ H' v g2 d2 r'
    | ex c z =>
      cases e2
      intro F' μ' H' v g d' r'
      obtain ⟨d2, g2⟩ := d.cut g d'
      exact q F' _ H' v g2 d2 r'
    | ref k =>
      dsimp only at e2
      by_cases hk : k < S.length
      · rw [if_pos hk] at e2
        cases e2
        intro F' μ' H' v g d' r'
        obtain ⟨d2, g2⟩ := d.cut g d'
        obtain ⟨a, h1, h2⟩ := r'
        exact q F' _ H' v g2 d2 ⟨a, by rw [List.getElem?_take, if_pos hk]; exact h1, h2⟩
      · rw [if_neg hk] at e2
        obtain ⟨o, e3, e4⟩ := bindS e2
        cases e4
        intro F' μ' H' v g d' r'
        obtain ⟨d2, g2⟩ := d.cut g d'
        obtain ⟨a, h1, h2⟩ := r'
        have hna : a ∉ μ'.take S.length := fun z => by
          obtain ⟨j, hj, e5⟩ := List.getElem_of_mem z
          rw [List.length_take] at hj
          have e6 : μ'[j]? = some a := by
            rw [List.getElem_take] at e5
            rw [List.getElem?_eq_getElem (by omega), e5]
          obtain ⟨l1, e7⟩ := List.getElem?_eq_some_iff.mp e6
          obtain ⟨l2, e8⟩ := List.getElem?_eq_some_iff.mp h1
          have := (List.getElem_inj d'.nd).mp (e7.trans e8.symm)
          omega
        have d3 := d2.adopt hna (d'.cell k a o h1 e3)
        have hlen : (μ'.take S.length).length = S.length := by
          rw [List.length_take]
          have := g.pre.length_le
          have := d.len
          omega
        have g3 : Gr F μ H F' (μ'.take S.length ++ [a]) H' := ⟨g2.ex, g2.pre.trans ⟨[a], rfl⟩, fun b o e f m => by
          obtain ⟨p1, p2, p3⟩ := g.fr b o e f m
          refine ⟨p1, p2, fun z => ?_⟩
          rcases List.mem_append.mp z with z | z
          · exact p3 (List.mem_of_mem_take z)
          · rw [List.mem_singleton.mp z] at p3
            exact p3 (List.mem_of_getElem? h1)⟩
        refine q F' _ H' v g3 d3 ⟨a, ?_, h2⟩
        rw [List.getElem?_append_right (by rw [hlen]; exact Nat.le_refl _), hlen, Nat.sub_self]
        rfl
theorem spX_len {n many : Nat} {b : MSX} {vs : List L2.V} {H : Hp} {Q : VK} {E : XK} (h : spX P w K (fnX n many b) vs H Q E) : vs.length = n := by
  obtain ⟨F, μ, S, ws, r, d, rel, e, _⟩ := h
  unfold fnX at e
  by_cases hn : ws.length = n
  · rw [← rel.len]; exact hn
  · rw [if_neg hn] at e; cases e
theorem fnx_read {n : Nat} {N : List Str} {b : MSX} {vs : List L2.V} {H : Hp} {Q : VK} {E : XK} (h : spX P w K (fnX n N.length b) vs H Q E) :
    tMSX P w K (fun cls d _ H => E cls d H) b { nx := fun _ H' => Q .non H', rt := Q } (L2.start N vs) H := by
  obtain ⟨F, μ, S, ws, r, d, rel, e, q⟩ := h
  unfold fnX at e
  by_cases hn : ws.length = n
  · rw [if_pos hn] at e
    obtain ⟨r1, e1, e2⟩ := bindS e
    refine useSX e1 d (start_rel rel hn) ?_
    cases r1 with
    | r q1 =>
      obtain ⟨⟨x, S'⟩, e3, e4⟩ := bindS e2
      cases e4
      exact fn_aft hn d e3 q
    | ex c x e3 S1 =>
      cases e2
      intro F' μ' H' σ' cls dd g d' re' x'
      obtain ⟨d2, g2⟩ := d.cut g d'
      exact q F' _ H' cls dd g2 d2 x'
  · rw [if_neg hn] at e; cases e
theorem fnx_ok {x : Str} {st : Stmt} {N ps : List Str} {k : Nat} {b : MSX} (F : Fun K x x st f fd) (sc : FnScope N ps (defScope st))
    (hb : ∀ (cdv : Value) (A : Around) (outer : List PySem.Env) (s : Shared) (H : Hp) (E : XK), Room k (A.deeper (envOfC x (defScope st) s.heap.objs.size f cdv)) → PSs (cxOf (L2N.CX P w) P w K mg base N x (defScope st) f cdv A outer s H E) (defBody st) (tMSX P w K (fun cls d _ H => E cls d H) b)) :
    FnOk P w K mg base (L2N.CX P w) (k + 1) f fd ps (spX P w K (fnX ps.length N.length b)) := by
  obtain ⟨oc, od, kV, doc, pm, an, cdv, ct, osl, rfl, lk, hcd⟩ := F.ex
  exact fn_of lk hcd sc (fun vs H Q E h => spX_len h) fun A outer s H vs Q E hr h => ⟨_, hb cdv A outer s H E hr, fnx_read h⟩
/-- a def that may raise, called by keywords -/
structure CalKX (P : Program) (w : World) (K : PySem.W.Frag) (mg : Str → Option Value) (base : Heap) (k : Nat) (x : Str) (ps ks : List Str) (gV : List L2.V → List L2.V) (sp : Sp) : Prop where
  ex : ∃ (f : Addr) (fd : FuncData) (g : List Value → List Value), FnOk P w K mg base (L2N.CX P w) k f fd ps sp ∧ mg x = some (.ref f) ∧ PySem.W.keepIn K (.ref f) = true ∧
    (∀ (s : Shared) (ws : List Value), ws.length = ks.length → BindsTo s fd ⟨[], ks.zip ws⟩ (ps.zip (g ws))) ∧ (∀ (zs : List L2.V) (ws : List Value), zs.length = ks.length → Vals zs ws → Vals (gV zs) (g ws))
end
section
variable {X : Cx} {V : WX} {kws : List Keyword} {mr : MA} {ps ks : List Str} {x : Str} {j k : Nat} {pos p : Pos}
theorem pe_callWX {gV : List L2.V → List L2.V} {sp : Sp} {ta : TA} (C : CalKX X.prog X.w X.K X.mg X.base j x ps ks gV sp) (hr : Room k X.A) (hjk : j ≤ k) (tk : L2N.Takes X V) (hkw : PK X kws ta) (hg : Gl X x := by rfl)
    (hall : (backToKw pos (keywordEach kws X.env)).all (·.1.isSome) = true := by rfl) (hks : (backToKw pos (keywordEach kws X.env)).filterMap (·.1) = ks := by rfl)
    (hdb : (x == ("__debug__" : Str)) = false := by decide)
    (hpl : ((backTo pos (starEach [] X.env)).any (·.1) || (backToKw pos (keywordEach kws X.env)).any (·.1.isNone)) = false := by rfl) :
    PE X (.Call (.Name x p) [] kws pos) (fun σ H Q => ta σ H fun zs H1 => zs.length = ks.length ∧ sp (gV zs) H1 Q fun cls d H' => V cls d σ H') := by
  obtain ⟨f, fd, g, F, hm, hk, hb, hv⟩ := C.ex
  refine ⟨fun pins s σ H Q I h => ?_⟩
  refine wpAny_Call_Name_kw (ld_glob I hg hm ?_ hdb)
  refine PySem.W.callWith_KW0 (h₀ := X.base) I.ok.mod.kin hk hall (thn (hkw.run pos pins s σ H _ I h) fun ws s2 ⟨zs, H2, I2, rz, hn, q2⟩ => ⟨I2.kIn, ?_⟩) hpl
  rw [hks]
  have r2 := hv zs ws hn rz
  have hl : ws.length = ks.length := by rw [← rz.length]; exact hn
  refine wpAny_call (codeAny_mono (F.run X.A X.stack s2 H2 ⟨[], ks.zip ws⟩ (g ws) (gV zs) Q (fun cls d H' => V cls d σ H') (hr.mono hjk) I2.env0 (hb s2 ws hl) r2 q2) fun r s' hq => ?_)
  cases r with
  | error e => exact tk e s' (L2N.XE.of_call I2 (fun _ _ _ h => h) hq)
  | ok fl =>
    cases fl with
    | ret u => exact I2.after hq
    | next => exact False.elim hq
    | brk => exact False.elim hq
    | cont => exact False.elim hq
theorem mx_callK {f : OnX} {is : List Nat} (C : CalKX X.prog X.w X.K X.mg X.base j x ps ks (permL is) (spX X.prog X.w X.K f)) (hl : ∀ e S p, mr e S = some p → p.1.length = ks.length) (hr : Room k X.A) (hjk : j ≤ k) (tk : L2N.Takes X V) (hkw : PK X kws (Cx.tA X mr)) (hg : Gl X x := by rfl)
    (hall : (backToKw pos (keywordEach kws X.env)).all (·.1.isSome) = true := by rfl) (hks : (backToKw pos (keywordEach kws X.env)).filterMap (·.1) = ks := by rfl)
    (hdb : (x == ("__debug__" : Str)) = false := by decide)
    (hpl : ((backTo pos (starEach [] X.env)).any (·.1) || (backToKw pos (keywordEach kws X.env)).any (·.1.isNone)) = false := by rfl) :
    PE X (.Call (.Name x p) [] kws pos) (Cx.tEX X V (xCallK f is mr)) := mx_of (pe_callWX C hr hjk tk hkw hg hall hks hdb hpl) fun σ H Q F μ S env r d re e q => by
  obtain ⟨⟨xs, S1⟩, e1, e⟩ := bindS e
  refine useA e1 d re fun F1 μ1 H1 vs g1 d1 re1 r1 => ⟨?_, F1, μ1, S1, permL is xs, r, d1, wall_perm r1 is, e, q.gr g1⟩
  rw [← r1.len]
  exact hl _ _ _ e1
end
end Mr

set_option maxHeartbeats 2000000
/-! a, b = x, y in an except suite -/
namespace Sk
open PySem PySem.Spec PyProof.Rows L2 HotX
section
variable {prog : Program} {w : World} {A : Around} {E : Value → Shared → Prop} {s : Shared}
/-- behind a tuple's last item, while an exception is handled -/
theorem tup_end_hot {it t x1 : Addr} {i : Nat} {items : Array Value} {Q : Option Value → Shared → Prop} (hot : HotAt A x1 s.heap) (hx1 : x1 ≠ it) (hit : s.heap.IsTupleIter it t i) (ht : s.heap.IsTuple t items) (hx : items[i]? = none)
    (q : ∀ h', (∀ b o, b ≠ it → s.heap.get? b = some o → h'.get? b = some o) → Q none { s with heap := h' }) : wpAny (model prog w) A (pyNext (.ref it)) Q E s := by
  have hT := hit.typeIs
  obtain ⟨o, ho, hc, hd⟩ := hit
  obtain ⟨ol, hol, -, nl, hdl⟩ := ht
  obtain ⟨hh, o1, vs1, h1, d1, c1⟩ := hot
  have sb : Heap.SameBut it s.heap (s.heap.update it (Obj.mapFields (·.setIfInBounds 0 Value.none))) := Heap.SameBut.update ..
  unfold pyNext
  refine wpAny_bind (wpAny_attempt (wpAny_callSpecial?_slot (name := Str.ofString "__next__") hT F.slot_tuple_iterator_next
    (wpAny_call_entry F.slot_tuple_iterator_next hT F.entry_tuple_iterator_next ?_ (F.args_tuple_iterator_next_1 _))))
  show wpAny _ _ (field (.ref it) 0 >>= _) _ _ s
  refine wpAny_bind (wpAny_field ho hd (x := .ref t) rfl ?_)
  show wpAny _ _ (if (Value.ref t == Value.none) = true then _ else _) _ _ s
  rw [if_neg (show ¬ ((Value.ref t == Value.none) = true) from Bool.false_ne_true)]
  show wpAny _ _ (field (.ref it) 1 >>= _) _ _ s
  refine wpAny_bind (wpAny_field ho hd (x := .int i 0) rfl ?_)
  show wpAny _ _ (seqItems? (.ref t) >>= _) _ _ s
  refine wpAny_bind (wpAny_seqItems hol hdl ?_)
  simp only [Int.toNat_natCast, hx]
  refine wpAny_bind (wpAny_rule (wpAny_bind (wpAny_setField ho hd (by simp) ?_)))
  show wpAny _ _ (newExc (.type "StopIteration") [] >>= _) _ _ _
  refine wpAny_bind ?_
  simp only [newExc, newTuple]
  refine wpAny_bind (wpAny_newObj_type ?_ (by size_fits))
  refine wpAny_bind (m := firstArgMember _ _) (wpAny_of_eq (a := Value.none) (by first | rfl | (simp only [firstArgMember]; rfl)) ?_)
  refine wpAny_newObj_type ?_ (by size_fits)
  have k1 : ∀ {b : Addr} {o : Obj}, b ≠ it → s.heap.get? b = some o → (((s.heap.update it (Obj.mapFields (·.setIfInBounds 0 Value.none))).push { cls := .type "tuple", data := .seq #[] }).get? b) = some o := fun hb e => Heap.get?_push_of_some _ ((sb.extBut) _ _ hb e)
  have z1 := k1 hx1 h1
  refine raiseNew_hot ⟨hh, o1, vs1, Heap.get?_push_of_some _ z1, d1, c1⟩ (Nat.ne_of_lt (Heap.lt_size z1)) (Heap.get?_push_size _ rfl) rfl (by first | (simp; done) | (simp; omega) | (simp only [Array.size_append]; simp; omega)) ?_
  refine wpAny_bind (wpAny_isInstance (T := "StopIteration") (b := true) ⟨_, Heap.get?_update_self _ (Heap.get?_push_size _ rfl) rfl, rfl⟩ isSubtype_stop ?_)
  refine wpAny_pure (q _ fun b o hb e => ?_)
  rw [Heap.get?_update_other _ _ (Nat.ne_of_gt (Heap.lt_size (k1 hb e)))]
  exact Heap.get?_push_of_some _ (k1 hb e)
/-- a tuple of two in its parts, while an exception is handled -/
theorem unpack2_hot {t x1 : Addr} {u1 u2 : Value} {Q : List Value → Shared → Prop} (hot : HotAt A x1 s.heap) (ht : s.heap.IsTuple t #[u1, u2])
    (q : ∀ h', (∀ b o, s.heap.get? b = some o → h'.get? b = some o) → Q [u1, u2] { s with heap := h' }) : wpAny (model prog w) A (unpackItems (.ref t) 2 none) Q E s := by
  obtain ⟨hh, o1, vs1, h1, d1, c1⟩ := hot
  have ht' := ht
  obtain ⟨ot, et, _⟩ := ht'
  have nt : t ≠ s.heap.objs.size := Nat.ne_of_lt (Heap.lt_size et)
  have nx : x1 ≠ s.heap.objs.size := Nat.ne_of_lt (Heap.lt_size h1)
  unfold unpackItems
  refine wpAny_bind ?_
  unfold notIterableAtAll
  refine wpAny_bind (wpAny_specialOf ht.typeIs F.slot_tuple_iter.lookup (wpAny_pure ?_))
  simp only [Bool.false_eq_true, if_false]
  refine wpAny_bind (wpAny_holding (wpAny_pyIter_tuple ht ?_))
  refine wpAny_bind (wpAny_holding (wpAny_draw_tuple (items := #[u1, u2]) nt 2 0 _ _ ⟨_, Heap.get?_push_size _ rfl, rfl, rfl⟩ (ht.push _) (by simp) fun h2 i2 sb => ?_))
  have old : ∀ b o, s.heap.get? b = some o → h2.get? b = some o := fun b o e => sb.extBut b o (Nat.ne_of_lt (Heap.lt_size e)) (Heap.get?_push_of_some _ e)
  rw [if_neg (by simp)]
  refine wpAny_bind (wpAny_holding (tup_end_hot (items := #[u1, u2]) ⟨hh, o1, vs1, old _ _ h1, d1, c1⟩ nx i2 ((ht.push _).extBut sb.extBut nt) (by simp) fun h3 k3 => ?_))
  simp only [Option.isSome_none, Bool.false_eq_true, if_false]
  exact wpAny_pure (q h3 fun b o e => k3 b o (Nat.ne_of_lt (Heap.lt_size e)) (old b o e))
end
section
variable {X : Cx} {a : Addr}
/-- a, b = x, y of plain names where the exception at a is handled and held -/
def tParH (a : Addr) (i j : Nat) (ta : TA) : TS := fun D σ H => ta σ H fun us H1 => (∃ cls d, H1 a = some (ExHn cls d a)) ∧ ∃ v w, us = [v, w] ∧ D.nx ((σ.set i (some v)).set j (some w)) H1
theorem ps_parH {i j : Nat} {x y : Str} {e1 e2 : Expr} {ta : TA} {px py pt pos : Pos} {kt k2 pt2} (hh : X.A.handled = some (.ref a)) (hN : X.N.Nodup) (hi : X.N[i]? = some x) (hj : X.N[j]? = some y) (hij : i ≠ j)
    (hx : X.env.scope.names.lookup x = some .local) (hy : X.env.scope.names.lookup y = some .local) (ha : PA X [e1, e2] ta)
    (hw : swappedStores [.Tuple [.Name x px, .Name y py] kt pt] (.Tuple [e1, e2] k2 pt2) X.env = pure (some [x, y]))
    (hs : swapsWithSole [.Tuple [.Name x px, .Name y py] kt pt] (.Tuple [e1, e2] k2 pt2) pos.line X.env = pure false := by rfl) :
    PS X (.Assign [.Tuple [.Name x px, .Name y py] kt pt] (.Tuple [e1, e2] k2 pt2) pos) (tParH a i j ta) := by
  refine ⟨fun pins s σ H D I h => ?_⟩
  rw [exec_Assign_arm]
  refine wpAny_bind (wpAny_standAt ?_)
  rw [hs]
  refine wpAny_bind (wpAny_pure ?_)
  rw [if_neg (by decide)]
  refine wpAny_bind (Tuple_ (thn (ha.run _ pins s σ H _ I h) fun us s1 ⟨vs, H1, I1, r1, ⟨cls, d, hx1⟩, v, w, hvs, q1⟩ => ?_))
  subst hvs
  obtain ⟨u1, u2, rfl, rv, rw'⟩ : ∃ u1 u2, us = [u1, u2] ∧ RelV v u1 ∧ RelV w u2 := by
    cases r1 with
    | cons p r1 => cases r1 with
      | cons p' r1 =>
        cases r1
        exact ⟨_, _, rfl, p, p'⟩
  refine wpAny_newObj_type ?_ (by show 2 ≤ sizeLine; decide)
  obtain ⟨⟨oe, ve, ge, ze, de⟩, _⟩ := I1.hok a _ hx1
  have I2 : Inv X pins σ H1 { s1 with heap := s1.heap.push { cls := .type "tuple", data := .seq [u1, u2].toArray } } := I1.kept (t' := s1.toks) fun b o e => Heap.get?_push_of_some _ e
  rw [hw]
  refine wpAny_bind (wpAny_pure ?_)
  show wpAny (model X.prog X.w) X.A (do rule "assign.swapped-stores"; let items ← unpackItems (.ref s1.heap.objs.size) 2 none; assignInOrder [fun v => bindName X.env y v, fun v => bindName X.env x v] items.reverse; pure Flow.next) _ _ _
  have hot : HotAt X.A a ({ s1 with heap := s1.heap.push { cls := .type "tuple", data := .seq [u1, u2].toArray } } : Shared).heap := ⟨hh, oe, ve, Heap.get?_push_of_some _ ge, de, ze.2.2 ve de⟩
  have tup : ({ s1 with heap := s1.heap.push { cls := .type "tuple", data := .seq [u1, u2].toArray } } : Shared).heap.IsTuple s1.heap.objs.size #[u1, u2] := IsTup.new s1.heap _
  refine wpAny_bind (wpAny_rule (wpAny_bind (unpack2_hot hot tup fun h' k => ?_)))
  have I3 := I2.kept (h' := h') (t' := s1.toks) k
  show wpAny _ _ (assignInOrder [fun v => bindName X.env y v, fun v => bindName X.env x v] [u2, u1] >>= fun _ => pure Flow.next) _ _ _
  refine wpAny_bind (assignInOrder_cons (wpAny_bindName (store_ok I3 hN hj (.inl hy) rw' (fun s2 I4 => ?_) (.inr hy))))
  refine assignInOrder_cons (wpAny_bindName (store_ok I4 hN hi (.inl hx) rv (fun s3 I5 => assignInOrder_nil (wpAny_pure ?_)) (.inr hx)))
  rw [List.set_comm _ _ (Ne.symm hij)] at I5
  exact ⟨_, H1, I5, q1⟩
end
end Sk

set_option maxHeartbeats 2000000
/-! e.value; try with clauses -/
namespace Mr
open PySem PySem.Spec PyProof.Rows L2
open Evl (Ex ex_l ex_t)
/-- the value of an exception that is held -/
def mXv (m : M) : M := fun e S => (m e S).bind fun p => match p.1 with
  | .ex _ x => some (.d x, p.2)
  | _ => none
section
variable {X : Cx} {e : Expr} {m : M} {pos : Pos}
theorem me_xv (he : PE X e (Cx.tE X m)) (hb : attributeBase e "value" X.env (eval e X.env) = eval e X.env := by rfl) : PE X (.Attribute e "value" pos) (Cx.tE X (mXv m)) := me_of (Sk.pe_xvN he hb) fun σ H Q F μ S env x S' d re e q => by
  obtain ⟨⟨w1, S1⟩, e1, e2⟩ := bindS e
  refine useM e1 d re fun F1 μ1 H1 v g1 d1 re1 r1 => ?_
  dsimp only at e2
  split at e2
  · cases e2
    obtain ⟨a, C, dd, u, fI, rfl, h2, h3, h4, h5, h6⟩ := r1
    exact ⟨a, C, u, fI, rfl, ⟨dd, d1.ex _ _ h3, d1.ex _ _ h4⟩, h6, q F1 μ1 H1 u g1 d1 h5⟩
  · cases e2
end
/-- the errors that there are -/
def errs : List Str := ["KitError", "InvalidNumber", "InvalidPoint", "InvalidOffset", "InvalidTable", "InvalidKit", "InvalidState", "InvalidWalk", "InvalidAddress", "InvalidPaper", "InvalidPair", "InvalidPower", "InvalidZoom", "InvalidTurn", "InvalidWay", "InvalidName", "UnknownName", "NoSquares", "NoMeeting", "NoReturn", "NothingToUndo", "Unreadable", "Unorderly"]
/-- whether a clause for y takes an exception of the class c -/
def exSub (c y : Str) : Bool := c == y || y == "KitError"
/-- what is known of the classes that the text names -/
def ErrTab (K : PySem.W.Frag) (Yo : Str → Addr) (ys : List Str) : Prop := ∀ c ∈ errs, ∀ C, PySem.W.nsIn K mainGlobals c = some (some (.ref C)) → ∀ y ∈ ys, PySem.W.exmOne K (.ref C) (.ref (Yo y)) = some (exSub c y)
abbrev Cl := Str × Option Nat × MS
def endCl (o : Option Nat) : R → Option R
  | .nx e s => some (.nx (match o with | some i => e.set i none | none => e) s)
  | .rt x s => some (.rt x s)
  | _ => none
def runCl : List Cl → Str → PyData → Env → Sto → Option R
  | [], _, _, _, _ => none
  | (y, o, m) :: l, c, x, e, S => if exSub c y = true then
      (match o with
        | some i => if i < e.length then m (e.set i (some (.ex c x))) S else none
        | none => m e S).bind (endCl o)
    else runCl l c x e S
def sTry (b : MSX) (l : List Cl) : MS := fun e S => (b e S).bind fun r => match r with
  | .r (.nx e1 S1) => some (.nx e1 S1)
  | .r (.rt x S1) => some (.rt x S1)
  | .r _ => none
  | .ex c x e1 S1 => if c ∈ errs then runCl l c x e1 S1 else none
section
variable {P : Program} {w : World} {K : PySem.W.Frag} {F H : Hp} {μ : List Addr} {S : Sto} {σ : L2.St} {env : Env}
/-- a suite's reading: the exception at a is held -/
def tMSa (P : Program) (w : World) (K : PySem.W.Frag) (a : Addr) (m : MS) : TS := fun D σ H => ∃ F μ S env r cls d, Wd P w K F μ S H ∧ RelE K F μ σ env ∧ F a = some (Sk.ExHn cls d a) ∧ m env S = some r ∧ Aft P w K F μ H D r
/-- the clauses' wish -/
theorem cl_ok {Yo : Str → Addr} {D : Ends} : ∀ {l : List Cl} {c : Str} {x : PyData} {r : R} {cls : Value} {d : Option Addr}, ErrTab K Yo (l.map (·.1)) → c ∈ errs → XRel K F c x cls d → Wd P w K F μ S H → RelE K F μ σ env → runCl l c x env S = some r → Aft P w K F μ H D r →
    Sk.wCl K D (l.map fun t => (.ref (Yo t.1), t.2.1, fun a => tMSa P w K a t.2.2)) cls d σ H
  | [], c, x, r, cls, d, _, _, _, _, _, e, _ => by cases e
  | (y, o, m) :: l, c, x, r, cls, d, T, hc, xr, dd, re, e, q => by
    obtain ⟨C, dx, u, fI, rfl, hn, rfl, h4, h5, h6⟩ := id xr
    unfold runCl at e
    refine ⟨exSub c y, T c hc C hn y List.mem_cons_self, fun hb a ha => ?_, fun hb => ?_⟩
    · rw [if_pos hb] at e
      obtain ⟨r1, e1, e2⟩ := bindS e
      obtain ⟨d2, g2⟩ := dd.new ha (Sk.ExHn (.ref C) (some dx) a)
      have fin : ∀ {σ2 : L2.St} {env2 : Env}, Aft P w K (upd F a (Sk.ExHn (.ref C) (some dx) a)) μ (upd H a (Sk.ExHn (.ref C) (some dx) a)) (Sk.endO o D) r1 := by
        intro σ2 env2
        cases r1 with
        | nx e3 S3 =>
          cases e2
          intro F3 μ3 H3 σ3 g3 d3 re3
          cases o with
          | none => exact q F3 μ3 H3 σ3 (g2.trans g3) d3 re3
          | some i => exact q F3 μ3 H3 _ (g2.trans g3) d3 (RelE.none re3 i)
        | rt z S3 =>
          cases e2
          exact fun F3 μ3 H3 v3 g3 d3 r3 => q F3 μ3 H3 v3 (g2.trans g3) d3 r3
        | bk e3 S3 => cases e2
        | ct e3 S3 => cases e2
      cases o with
      | none => exact ⟨_, _, _, _, _, _, _, d2, re.gr g2, upd_same, e1, fin (σ2 := σ) (env2 := env)⟩
      | some i =>
        dsimp only at e1
        by_cases hi : i < env.length
        · rw [if_pos hi] at e1
          exact ⟨_, _, _, _, _, _, _, d2, (re.gr g2).set (x := .ex c x) ⟨a, C, dx, u, fI, rfl, hn, upd_same, g2.ex _ _ h4, h5.up g2.ex, h6⟩, upd_same, e1, fin (σ2 := σ) (env2 := env)⟩
        · rw [if_neg hi] at e1; cases e1
    · rw [if_neg (by rw [hb]; decide)] at e
      exact cl_ok (fun c' hc' C' hn' y' hy' => T c' hc' C' hn' y' (List.mem_cons_of_mem _ hy')) hc xr dd re e q
end
inductive ClM (X : Cx) (Yo : Str → Addr) : List ExceptHandler → List Cl → Prop
  | nil : ClM X Yo [] []
  | plain {y : Str} {m : MS} {b₀ : Stmt} {suite : List Stmt} {np pos' : Pos} {hds : List ExceptHandler} {l : List Cl} (hc : Names X y (.ref (Yo y)))
      (hsu : ∀ (a : Addr) (pn : List (Addr × Obj)), PSs (X.suite a pn) (b₀ :: suite) (tMSa X.prog X.w X.K a m)) (r : ClM X Yo hds l) : ClM X Yo (.ExceptHandler (some (.Name y np)) none (b₀ :: suite) pos' :: hds) ((y, none, m) :: l)
  | named {y n : Str} {i : Nat} {m : MS} {b₀ : Stmt} {suite : List Stmt} {np pos' : Pos} {hds : List ExceptHandler} {l : List Cl} (hc : Names X y (.ref (Yo y))) (hi : X.N[i]? = some n) (hln : X.env.kindOf n = some .local)
      (hsu : ∀ (a : Addr) (pn : List (Addr × Obj)), PSs (X.suite a pn) (b₀ :: suite) (tMSa X.prog X.w X.K a m)) (r : ClM X Yo hds l) : ClM X Yo (.ExceptHandler (some (.Name y np)) (some n) (b₀ :: suite) pos' :: hds) ((y, some i, m) :: l)
section
variable {X : Cx} {a : Addr} {st : Stmt} {suite : List Stmt} {ms : MS}
theorem mss_a (h : PSs X suite (Cx.tS X ms)) : PSs X suite (tMSa X.prog X.w X.K a ms) := pssI h fun D σ H ⟨F, μ, S, env, r, _, _, d, re, _, e, q⟩ => ⟨F, μ, S, env, r, d, re, e, q⟩
/-- a, b = x, y in a suite -/
theorem ms_parH {i j : Nat} {x y : Str} {e1 e2 : Expr} {mr : MA} {px py pt pos : Pos} {kt k2 pt2} (hh : X.A.handled = some (.ref a)) (hN : X.N.Nodup) (hi : X.N[i]? = some x) (hj : X.N[j]? = some y) (hij : i ≠ j)
    (hx : X.env.scope.names.lookup x = some .local) (hy : X.env.scope.names.lookup y = some .local) (ha : PA X [e1, e2] (Cx.tA X mr))
    (hw : swappedStores [.Tuple [.Name x px, .Name y py] kt pt] (.Tuple [e1, e2] k2 pt2) X.env = pure (some [x, y]))
    (hs : swapsWithSole [.Tuple [.Name x px, .Name y py] kt pt] (.Tuple [e1, e2] k2 pt2) pos.line X.env = pure false := by rfl) :
    PSs X [.Assign [.Tuple [.Name x px, .Name y py] kt pt] (.Tuple [e1, e2] k2 pt2) pos] (tMSa X.prog X.w X.K a (sPar i j mr)) :=
  pss_one (psI (Sk.ps_parH hh hN hi hj hij hx hy ha hw hs) fun D σ H ⟨F, μ, S, env, r, cls, d, dd, re, fa, e, q⟩ => by
    obtain ⟨⟨xs, S1⟩, e1, e2⟩ := bindS e
    dsimp only at e2
    split at e2
    · rename_i x y
      cases e2
      refine useA e1 dd re fun F1 μ1 H1 vs g1 d1 re1 r1 => ?_
      cases r1 with
      | cons r2 r3 => cases r3 with
        | cons r4 r5 =>
          cases r5
          exact ⟨⟨cls, d, d1.ex _ _ (g1.ex _ _ fa)⟩, _, _, rfl, q F1 μ1 H1 _ g1 d1 ((re1.set r2).set r4)⟩
    · cases e2)
end
section
variable {X : Cx} {Yo : Str → Addr} {hds : List ExceptHandler} {l : List Cl} {body : List Stmt} {h₀ : ExceptHandler} {yb : MSX} {pos : Pos}
theorem ClM.ok (h : ClM X Yo hds l) : Sk.ClOk X hds (l.map fun t => (.ref (Yo t.1), t.2.1, fun a => tMSa X.prog X.w X.K a t.2.2)) := by
  induction h with
  | nil => exact .nil
  | plain hc hsu r ih => exact .plain hc (fun a pn => hsu a pn) ih
  | named hc hi hln hsu r ih => exact .named hc hi hln (fun a pn => hsu a pn) ih
theorem ms_try (T : ErrTab X.K Yo (l.map (·.1))) (hs : X.stack = X.env :: X.outer) (hf : X.env.frame = some X.env.locals) (hex : X.ex = []) (hN : X.N.Nodup)
    (hb : ∀ (V : WX) (pn : List (Addr × Obj)) (xe : Value → Shared → Prop), L2N.Takes (X.tr pn xe) V → PassesOwn (model X.prog X.w) X.A X.env xe → PSs (X.tr pn xe) body (tMSX X.prog X.w X.K V yb))
    (hh : ClM X Yo (h₀ :: hds) l) : PS X (.Try body (h₀ :: hds) [] [] pos) (Cx.tS X (sTry yb l)) :=
  ms_of (Sk.ps_try_cl hs hf hex hN hb hh.ok) fun D σ H F μ S env r d re e q => by
    obtain ⟨r1, e1, e2⟩ := bindS e
    refine useSX e1 d re ?_
    cases r1 with
    | r r1 =>
      cases r1 with
      | nx e3 S3 => cases e2; exact q
      | rt x S3 => cases e2; exact q
      | bk e3 S3 => cases e2
      | ct e3 S3 => cases e2
    | ex c x e3 S3 =>
      intro F' μ' H' σ' cls dd g d' re' x'
      dsimp only at e2
      by_cases hc : c ∈ errs
      · rw [if_pos hc] at e2
        exact cl_ok T hc x' d' re' e2 (Aft.gr g q)
      · rw [if_neg hc] at e2; cases e2
end
end Mr

set_option maxHeartbeats 2000000
/-! the errors of a text -/
namespace Mr
open PySem PySem.Spec PyProof.Rows L2
/-- the errors es stand in the text; their classes Yo, their __init__ at fI -/
structure Er (P : Program) (w : World) (K : PySem.W.Frag) (mg : Str → Option Value) (base : Heap) (fI : Addr) (es : List Str) (Yo : Str → Addr) : Prop where
  ini : Sk.Ini P w K mg base 1 fI
  ex : ∀ y ∈ es, Sk.ExK K fI (Yo y)
  mg : ∀ y ∈ es, mg y = some (.ref (Yo y))
  ns : ∀ y ∈ es, PySem.W.nsIn K mainGlobals y = some (some (.ref (Yo y)))
  tab : ErrTab K Yo es
theorem Er.sub {P : Program} {w : World} {K : PySem.W.Frag} {mg : Str → Option Value} {base : Heap} {fI : Addr} {es : List Str} {Yo : Str → Addr} (Z : Er P w K mg base fI es Yo) {ys : List Str} (h : ∀ y ∈ ys, y ∈ es) : ErrTab K Yo ys :=
  fun c hc C hn y hy => Z.tab c hc C hn y (h y hy)
end Mr

set_option maxHeartbeats 1000000
namespace Pg
open PySem PySem.Spec PyProof.Rows L2 Mr
def x_one_line (N : Nat) : OnX := fnX 2 6 (ySeq (yUp (sAsg (.tp [(.nm 3), (.nm 4), (.nm 5)]) (mOp oPartition (mVar 0) (mC (.str (Str.ofString "\n"))))))
    (ySeq (yUp (sSet 2 (mCallV [("number_from", (m_number_from N)), ("_point_from", (m_point_from N)), ("_address_from", (m_address_from N))] 1 (mCons (mVar 3) mNil))))
    (ySeq (yIf (cB (mOp oIs (mVar 2) (mC .none))) (yRaise "Unreadable" (mC (.int 1))) (yUp sNext))
    (ySeq (yIf (cB (mOp oNe (mVar 4) (mC (.str (Str.ofString ""))))) (yRaise "Unreadable" (mC (.int 2))) (yUp sNext))
    (yUp (sRet (mVar 2)))))))
def x_read_number (N : Nat) : OnX := fnX 1 1 (yRet (xCall (x_one_line N) (mCons (mVar 0) (mCons (mFn "number_from") mNil))))
def x_read_point (N : Nat) : OnX := fnX 1 1 (yRet (xCall (x_one_line N) (mCons (mVar 0) (mCons (mFn "_point_from") mNil))))
def x_read_address (N : Nat) : OnX := fnX 1 1 (yRet (xCall (x_one_line N) (mCons (mVar 0) (mCons (mFn "_address_from") mNil))))
def x_read_kit (N : Nat) : OnX := fnX 1 7 (ySeq (yUp (sSet 1 (mOp oSplit (mVar 0) (mC (.str (Str.ofString "\n"))))))
    (ySeq (yUp (sSet 2 (mCall (m_table_from N) (mCons (mOp oIx (mVar 1) (mC (.int 0))) mNil))))
    (ySeq (yIf (cB (mOp oIs (mVar 2) (mC .none))) (yRaise "Unreadable" (mC (.int 1))) (yUp sNext))
    (ySeq (yUp (sSet 3 (mLstC mNil)))
    (ySeq (yFor (miRng2 (mCons (mC (.int 1)) (mCons (mCall oLen (mCons (mVar 1) mNil)) mNil))) (.nm 4) (ySeq (yUp (sSet 6 (mCall (m_state_from N) (mCons (mOp oIx (mVar 1) (mVar 4)) (mCons (mOp oSub (mVar 4) (mC (.int 1))) mNil)))))
    (ySeq (yIf (cB (mOp oIs (mVar 6) (mC .none))) (yRaise "Unreadable" (mOp oAdd (mVar 4) (mC (.int 1)))) (yUp sNext))
    (yUp (sDrop (mMethL omAppend (mVar 3) (mCons (mVar 6) mNil)))))))
    (ySeq (yUp (sSet 5 (mTup (mCons (mVar 2) (mCons (mUn oTuple (mVar 3)) mNil)))))
    (ySeq (yIf (cNot (cB (mCall (m_is_kit N) (mCons (mVar 5) mNil)))) (yRaise "Unreadable" (mC (.int 0))) (yUp sNext))
    (yUp (sRet (mVar 5))))))))))
end Pg

set_option maxHeartbeats 2000000
/-! xs.insert(i, y), xs.pop(i), text.find(part) -/
namespace Mr
open PySem PySem.Spec PyProof.Rows L2
open Evl (Ex ex_l ex_t)
def omInsert : Om := fun a ws S => match ws with
  | [.d (.int i), v] => (cellL a S).bind fun c => (dOf v).bind fun d => if c.2.length < lim ∧ 0 ≤ i ∧ i < 2 ^ 62 then some (.d .none, S.set c.1 (.lst (c.2.take i.toNat ++ [d] ++ c.2.drop i.toNat))) else none
  | _ => none
def omPopAt : Om := fun a ws S => match ws with
  | [.d (.int i)] => (cellL a S).bind fun c => if 0 ≤ i ∧ i < 2 ^ 62 then (c.2[i.toNat]?).bind fun d => some (.d d, S.set c.1 (.lst (c.2.eraseIdx i.toNat))) else none
  | _ => none
section
variable {K : PySem.W.Frag} {F : Hp}
theorem DzAll.takeN : ∀ {xs : List V} {ds : List PyData} (n : Nat), DzAll K F xs ds → DzAll K F (xs.take n) (ds.take n)
  | _, _, 0, _ => .nil
  | _, _, n + 1, .nil => .nil
  | _, _, n + 1, .cons h t => .cons h (DzAll.takeN n t)
theorem DzAll.dropN : ∀ {xs : List V} {ds : List PyData} (n : Nat), DzAll K F xs ds → DzAll K F (xs.drop n) (ds.drop n)
  | _, _, 0, h => h
  | _, _, n + 1, .nil => .nil
  | _, _, n + 1, .cons h t => DzAll.dropN n t
theorem DzAll.erase : ∀ {xs : List V} {ds : List PyData} (n : Nat), DzAll K F xs ds → DzAll K F (xs.eraseIdx n) (ds.eraseIdx n)
  | _, _, _, .nil => .nil
  | _, _, 0, .cons h t => t
  | _, _, n + 1, .cons h t => .cons h (DzAll.erase n t)
theorem DzAll.at' : ∀ {xs : List V} {ds : List PyData} {n : Nat} {d : PyData}, DzAll K F xs ds → ds[n]? = some d → ∃ v, xs[n]? = some v ∧ Dz K F v d
  | _, _, 0, _, .cons h t, e => by cases e; exact ⟨_, rfl, h⟩
  | _, _, n + 1, _, .cons h t, e => DzAll.at' (n := n) t e
end
section
variable {X : Cx}
def rIns : V → List V → Hp → VK → Prop := fun x vs H Q => ∃ (l : Addr) (xs : List V) (i : Int) (y : V), x = .ref l ∧ vs = [.int i, y] ∧ H l = some (.lst xs) ∧ xs.length < sizeLine ∧ 0 ≤ i ∧ i < 2 ^ 63 ∧
    Q .non (upd H l (.lst (xs.take i.toNat ++ [y] ++ xs.drop i.toNat)))
theorem mt_ins : MtR X "list.insert" rIns := mt_insert
theorem md_ins : MtD X.prog X.w X.K omInsert "list" rIns := fun F μ S H x xs a as c S' Q d ra rs e q => by
  unfold omInsert at e
  split at e
  · rename_i i v
    obtain ⟨⟨n, ds⟩, e1, e⟩ := bindS e
    obtain ⟨dv, e2, e⟩ := bindS e
    cases rs with
    | cons r0 rs => cases rs with
      | cons r1 r2 =>
        cases r2
        by_cases hc : ds.length < lim ∧ 0 ≤ i ∧ i < 2 ^ 62
        · dsimp only at e
          rw [if_pos hc] at e
          cases e
          obtain ⟨p, ys, rfl, h1, h2, h3, h4⟩ := cell_rel d ra e1
          have hv := d_rel r1 e2
          have hi := dz_int r0
          subst hi
          obtain ⟨d2, g2⟩ := d.put (o := .lst (ys.take i.toNat ++ [_] ++ ys.drop i.toNat)) (c := .lst (ds.take i.toNat ++ [dv] ++ ds.drop i.toNat)) h1 h2 ⟨h2, _, upd_same, ((h4.takeN _).app (.cons hv .nil)).app (h4.dropN _)⟩
          exact ⟨p, ys, i, _, rfl, rfl, h3, by rw [h4.len]; exact Nat.lt_of_lt_of_le hc.1 (by decide), hc.2.1, Int.lt_trans hc.2.2 (by decide), q _ _ _ _ g2 d2 .non⟩
        · dsimp only at e
          rw [if_neg hc] at e; cases e
  · cases e
theorem md_popAt : MtD X.prog X.w X.K omPopAt "list" rPopAt := fun F μ S H x xs a as c S' Q d ra rs e q => by
  unfold omPopAt at e
  split at e
  · rename_i i
    obtain ⟨⟨n, ds⟩, e1, e⟩ := bindS e
    cases rs with
    | cons r0 rs =>
      cases rs
      by_cases hc : 0 ≤ i ∧ i < 2 ^ 62
      · dsimp only at e
        rw [if_pos hc] at e
        obtain ⟨dv, e2, e⟩ := bindS e
        cases e
        obtain ⟨p, ys, rfl, h1, h2, h3, h4⟩ := cell_rel d ra e1
        have hi := dz_int r0
        subst hi
        obtain ⟨y, hy, hd⟩ := h4.at' e2
        have hlt : i.toNat < ys.length := (List.getElem?_eq_some_iff.mp hy).1
        obtain ⟨d2, g2⟩ := d.put (o := .lst (ys.eraseIdx i.toNat)) (c := .lst (ds.eraseIdx i.toNat)) h1 h2 ⟨h2, _, upd_same, h4.erase _⟩
        refine ⟨p, ys, i, i.toNat, y, rfl, rfl, h3, by omega, Int.lt_trans hc.2 (by decide), ?_, hy, q _ _ _ _ g2 d2 (hd.up g2.ex)⟩
        unfold seqIndex?
        have hn : ¬ i < 0 := by omega
        simp only [if_neg hn]
        rw [if_pos (by rw [Bool.and_eq_true, decide_eq_true_eq, decide_eq_true_eq]; omega)]
      · dsimp only at e
        rw [if_neg hc] at e; cases e
  · cases e
/-- text.find(part) -/
def oFind : O2 := fun a b S => (stOf a).bind fun x => (stOf b).bind fun y => some (.d (.int (Txt.find x y)), S)
theorem me_find {o e : Expr} {mo m : M} {apos pos : Pos} (ho : PE X o (Cx.tE X mo)) (he : PE X e (Cx.tE X m))
    (hs : starEach [e] X.env = [(false, eval e X.env)] := by rfl) (hbase : attributeBase o "find" X.env (eval o X.env) = eval o X.env := by rfl) (hline : (apos.endLine == pos.line) = true := by rfl) :
    PE X (.Call (.Attribute o "find" apos) [e] [] pos) (Cx.tE X (mOp oFind mo m)) :=
  me_m1 PySem.F.slot_str_find PySem.F.type_str_find mt_find (fun a b S c h => st_some (b := b) (S := S) h) (fun F μ S H x y a b c S' Q d ra rb e q => by
    obtain ⟨z, e1, e⟩ := bindS e
    obtain ⟨z', e2, e⟩ := bindS e
    cases e
    exact ⟨z, z', st_rel ra e1, by rw [st_rel rb e2], q F μ H _ .refl d (.int _)⟩) ho he hs hbase hline
/-- the signs of a text -/
def miChars (m : M) : MI := fun e S => (m e S).bind fun p => (stOf p.1).bind fun x => some (x.cps.toList.map fun c => W.d (.str ⟨#[c]⟩), p.2)
theorem mi_chars {tg l : Expr} {m : M} (h : PE X l (Cx.tE X m)) : PI X tg l (Cx.tI X (miChars m)) := ⟨fun pins s σ H R I ⟨F, μ, S, env, ws, S', d, re, e, q⟩ => by
  obtain ⟨⟨x, S1⟩, e1, e⟩ := bindS e
  obtain ⟨z, e2, e⟩ := bindS e
  cases e
  refine (pi_str h).run pins s σ H R I (useM e1 d re fun F1 μ1 H1 v g1 d1 re1 r1 => ⟨z, st_rel r1 e2, q F1 μ1 H1 _ g1 d1 ⟨fun i H e hi => ?_, fun i H e hi => ?_, fun i x hx F2 μ2 S2 H2 v H3 e _ d hy => ?_⟩⟩)
  · rw [List.length_map, Array.length_toList] at hi
    exact hi
  · rw [List.length_map, Array.length_toList] at hi
    exact hi
  · obtain ⟨rfl, c, hc, rfl⟩ := hy
    rw [List.getElem?_map, Array.getElem?_toList, hc] at hx
    cases hx
    exact ⟨F2, d, .refl, .str _⟩⟩
/-- a sign that isn't in a text -/
def oNotInC : O2 := fun a b S => (stOf a).bind fun x => (stOf b).bind fun y => match x.cps.toList with
  | [c] => some (.d (.bool (!decide (c ∈ y.cps.toList))), S)
  | _ => none
theorem bo_notInC : BOp X (compareOp .NotIn) oNotInC := ⟨_, op_notIn_sign, fun F μ S H x y a b c S' Q d ra rb e q => by
  obtain ⟨z, e1, e⟩ := bindS e
  obtain ⟨z', e2, e⟩ := bindS e
  split at e
  · rename_i k hk
    cases e
    obtain ⟨⟨l⟩⟩ := z
    subst hk
    exact ⟨k, z', st_rel ra e1, st_rel rb e2, q F μ H _ .refl d (.bl _)⟩
  · cases e⟩
end
end Mr

set_option maxHeartbeats 1000000
/-! what mirrors that may raise give, forwards -/
namespace Mr
open PySem PySem.Spec PyProof.Rows L2
def GivesX (o : Option OX) (Q : OX → Prop) : Prop := ∃ r, o = some r ∧ Q r
def GivesY (o : Option RX) (Q : RX → Prop) : Prop := ∃ r, o = some r ∧ Q r
section
variable {e : Env} {S S1 : Sto} {m : M} {ms : MS} {mt : MT} {mr : MA} {a b : MX} {ya yb : MSX} {f : OnX} {QX : OX → Prop} {QY : RX → Prop} {QR : R → Prop} {i : Nat} {c y : Str} {x : PyData} {l : List Cl}
theorem GivesX.mono {o : Option OX} {Q Q' : OX → Prop} (h : GivesX o Q) (k : ∀ r, Q r → Q' r) : GivesX o Q' := by
  obtain ⟨r, e, q⟩ := h
  exact ⟨r, e, k r q⟩
theorem GivesY.mono {o : Option RX} {Q Q' : RX → Prop} (h : GivesY o Q) (k : ∀ r, Q r → Q' r) : GivesY o Q' := by
  obtain ⟨r, e, q⟩ := h
  exact ⟨r, e, k r q⟩
theorem gX_call (h : GvA (mr e S) fun ws S1 => GivesX (f ws S1) QX) : GivesX (xCall f mr e S) QX := by
  obtain ⟨ws, S1, e1, r, e2, q⟩ := h
  exact ⟨r, by unfold xCall; rw [e1]; exact e2, q⟩
theorem gX_callK {is : List Nat} (h : GvA (mr e S) fun ws S1 => GivesX (f (permL is ws) S1) QX) : GivesX (xCallK f is mr e S) QX := by
  obtain ⟨ws, S1, e1, r, e2, q⟩ := h
  exact ⟨r, by unfold xCallK; rw [e1]; exact e2, q⟩
theorem gX_if (h : GvT (mt e S) fun p S1 => Brt p (GivesX (a e S1) QX) (GivesX (b e S1) QX)) : GivesX (xIf mt a b e S) QX := by
  obtain ⟨p, S1, e1, q⟩ := h
  cases p with
  | true => obtain ⟨r, e2, q⟩ := q.1 rfl; exact ⟨r, by unfold xIf; rw [e1]; exact e2, q⟩
  | false => obtain ⟨r, e2, q⟩ := q.2 rfl; exact ⟨r, by unfold xIf; rw [e1]; exact e2, q⟩
theorem gY_up (h : GivesR (ms e S) fun r => QY (.r r)) : GivesY (yUp ms e S) QY := by
  obtain ⟨r, e1, q⟩ := h
  exact ⟨_, by unfold yUp; rw [e1]; rfl, q⟩
def SqX (b : MSX) (Q : RX → Prop) : RX → Prop
  | .r (.nx e S) => GivesY (b e S) Q
  | .r (.rt x S) => Q (.r (.rt x S))
  | .r (.bk e S) => Q (.r (.bk e S))
  | .r (.ct e S) => Q (.r (.ct e S))
  | .ex c x e S => Q (.ex c x e S)
theorem sqx_nx (h : GivesY (yb e S) QY) : SqX yb QY (.r (.nx e S)) := h
theorem sqx_ex (h : QY (.ex c x e S)) : SqX yb QY (.ex c x e S) := h
theorem gY_seq (h : GivesY (ya e S) (SqX yb QY)) : GivesY (ySeq ya yb e S) QY := by
  obtain ⟨r, e1, q⟩ := h
  unfold ySeq
  rw [e1, Option.bind_some]
  cases r with
  | r r => cases r with
    | nx e2 S2 => exact q
    | rt w S2 => exact ⟨_, rfl, q⟩
    | bk e2 S2 => exact ⟨_, rfl, q⟩
    | ct e2 S2 => exact ⟨_, rfl, q⟩
  | ex c x e2 S2 => exact ⟨_, rfl, q⟩
theorem gY_if (h : GvT (mt e S) fun p S1 => Brt p (GivesY (ya e S1) QY) (GivesY (yb e S1) QY)) : GivesY (yIf mt ya yb e S) QY := by
  obtain ⟨p, S1, e1, q⟩ := h
  cases p with
  | true => obtain ⟨r, e2, q⟩ := q.1 rfl; exact ⟨r, by unfold yIf; rw [e1]; exact e2, q⟩
  | false => obtain ⟨r, e2, q⟩ := q.2 rfl; exact ⟨r, by unfold yIf; rw [e1]; exact e2, q⟩
def IsD (w : W) (k : PyData → Prop) : Prop := ∃ d, w = .d d ∧ k d
theorem isD {d : PyData} {k : PyData → Prop} (q : k d) : IsD (.d d) k := ⟨d, rfl, q⟩
theorem gY_raise (h : Gives (m e S) fun w S1 => IsD w fun d => QY (.ex c d e S1)) : GivesY (yRaise c m e S) QY := by
  obtain ⟨w, S1, e1, d, rfl, q⟩ := h
  exact ⟨_, by unfold yRaise; rw [e1]; rfl, q⟩
/-- an outcome's ways: the value goes on, the exception flies -/
def OfX (e : Env) (k : W → Sto → Prop) (Q : RX → Prop) : OX → Prop
  | .ok w S => k w S
  | .ex c x S => Q (.ex c x e S)
theorem ofx_ok {k : W → Sto → Prop} {w : W} (q : k w S) : OfX e k QY (.ok w S) := q
theorem gY_of {k : W → Sto → Env → Option R} (h : GivesX (a e S) (OfX e (fun w S1 => ∃ r, k w S1 e = some r ∧ QY (.r r)) QY)) : GivesY (yOf a k e S) QY := by
  obtain ⟨r, e1, q⟩ := h
  unfold yOf
  rw [e1, Option.bind_some]
  cases r with
  | ok w S1 => obtain ⟨r, e2, q⟩ := q; exact ⟨.r r, by dsimp only; rw [e2]; rfl, q⟩
  | ex c x S1 => exact ⟨_, rfl, q⟩
theorem gY_ret (h : GivesX (a e S) (OfX e (fun w S1 => QY (.r (.rt w S1))) QY)) : GivesY (yRet a e S) QY := gY_of (h.mono fun r q => by
  cases r with
  | ok w S1 => exact ⟨_, rfl, q⟩
  | ex c x S1 => exact q)
theorem gY_set (h : GivesX (a e S) (OfX e (fun w S1 => SetE e i w fun e' => QY (.r (.nx e' S1))) QY)) : GivesY (ySet i a e S) QY := gY_of (h.mono fun r q => by
  cases r with
  | ok w S1 => exact ⟨_, if_pos q.1, q.2⟩
  | ex c x S1 => exact q)
def FnX (S : Sto) (Q : OX → Prop) : RX → Prop
  | .r q => FnQ S (fun w S' => Q (.ok w S')) q
  | .ex c x _ S1 => Q (.ex c x (S1.take S.length))
theorem fnx_r {q : R} (h : FnQ S (fun w S' => QX (.ok w S')) q) : FnX S QX (.r q) := h
theorem fnx_ex (h : QX (.ex c x (S1.take S.length))) : FnX S QX (.ex c x e S1) := h
theorem gFX {n many : Nat} {ws : List W} {env : Env} [h : LE ws n many env] (q : GivesY (ya env S) (FnX S QX)) : GivesX (fnX n many ya ws S) QX := by
  obtain ⟨r, e1, q⟩ := q
  unfold fnX
  rw [if_pos h.h.1, h.h.2, e1, Option.bind_some]
  cases r with
  | r q1 =>
    obtain ⟨w, S2, e2, q⟩ := gF (n := n) (many := many) (ws := ws) (S := S) (sa := fun _ _ => some q1) (Q := fun w S' => QX (.ok w S')) ⟨q1, rfl, q⟩
    exact ⟨_, by dsimp only; rw [e2]; rfl, q⟩
  | ex c x e2 S2 => exact ⟨_, rfl, q⟩
/-! ### try -/
def TryQ (l : List Cl) (Q : R → Prop) : RX → Prop
  | .r (.nx e S) => Q (.nx e S)
  | .r (.rt w S) => Q (.rt w S)
  | .r _ => False
  | .ex c x e S => c ∈ errs ∧ GivesR (runCl l c x e S) Q
theorem tryq_nx (h : QR (.nx e S)) : TryQ l QR (.r (.nx e S)) := h
theorem tryq_ex (hc : c ∈ errs) (h : GivesR (runCl l c x e S) QR) : TryQ l QR (.ex c x e S) := ⟨hc, h⟩
theorem gS_try (h : GivesY (ya e S) (TryQ l QR)) : GivesR (sTry ya l e S) QR := by
  obtain ⟨r, e1, q⟩ := h
  unfold sTry
  rw [e1, Option.bind_some]
  cases r with
  | r r => cases r with
    | nx e2 S2 => exact ⟨_, rfl, q⟩
    | rt w S2 => exact ⟨_, rfl, q⟩
    | bk e2 S2 => exact q.elim
    | ct e2 S2 => exact q.elim
  | ex c x e2 S2 =>
    dsimp only
    rw [if_pos q.1]
    exact q.2
def EndQ (o : Option Nat) (Q : R → Prop) : R → Prop
  | .nx e S => Q (.nx (match o with | some i => e.set i none | none => e) S)
  | .rt w S => Q (.rt w S)
  | _ => False
theorem endq_nx {o : Option Nat} (h : QR (.nx (match o with | some i => e.set i none | none => e) S)) : EndQ o QR (.nx e S) := h
theorem endq {o : Option Nat} {r : R} (h : EndQ o QR r) : ∃ r', endCl o r = some r' ∧ QR r' := by
  cases r with
  | nx e2 S2 => exact ⟨_, rfl, h⟩
  | rt w S2 => exact ⟨_, rfl, h⟩
  | bk e2 S2 => exact h.elim
  | ct e2 S2 => exact h.elim
theorem cl_yes (hs : exSub c y = true) (h : SetE e i (.ex c x) fun e' => GivesR (ms e' S) (EndQ (some i) QR)) : GivesR (runCl ((y, some i, ms) :: l) c x e S) QR := by
  obtain ⟨hi, r, e1, q⟩ := h
  obtain ⟨r', e2, q⟩ := endq q
  refine ⟨r', ?_, q⟩
  unfold runCl
  rw [if_pos hs]
  dsimp only
  rw [if_pos hi, e1]
  exact e2
def IsEx (w : W) (k : PyData → Prop) : Prop := ∃ c d, w = .ex c d ∧ k d
theorem isEx {d : PyData} {k : PyData → Prop} (q : k d) : IsEx (.ex c d) k := ⟨c, d, rfl, q⟩
theorem gM_xv {Q : W → Sto → Prop} (h : Gives (m e S) fun w S1 => IsEx w fun d => Q (.d d) S1) : Gives (mXv m e S) Q := by
  obtain ⟨w, S1, e1, c, d, rfl, q⟩ := h
  exact ⟨_, _, by unfold mXv; rw [e1]; rfl, q⟩
/-! ### texts' signs, list methods -/
theorem gI_chars {QA : List W → Sto → Prop} (h : Gives (m e S) fun w S1 => IsS w fun z => QA (z.cps.toList.map fun c => W.d (.str ⟨#[c]⟩)) S1) : GvA (miChars m e S) QA := by
  obtain ⟨w, S1, e1, z, rfl, q⟩ := h
  exact ⟨_, _, by unfold miChars; rw [e1]; rfl, q⟩
theorem q_notInC {k : Nat} {z : Str} {Q : W → Sto → Prop} (h : Q (.d (.bool (!decide (k ∈ z.cps.toList)))) S) : Gives (oNotInC (.d (.str ⟨#[k]⟩)) (.d (.str z)) S) Q := ⟨_, S, rfl, h⟩
theorem q_find {z z' : Str} {Q : W → Sto → Prop} (h : Q (.d (.int (Txt.find z z'))) S) : Gives (oFind (.d (.str z)) (.d (.str z')) S) Q := ⟨_, S, rfl, h⟩
theorem gM_methL {g : Om} {o : M} {t : MA} {n : Nat} {ds0 : List PyData} {Q : W → Sto → Prop} (ho : o e S = some (.ref n, S)) (h0 : S[n]? = some (.lst ds0)) (h : GvA (t e S) fun ws S1 => Gives (g (.ref n) ws S1) Q) : Gives (mMethL g o t e S) Q := by
  obtain ⟨ws, S1, e1, w, S2, e2, q⟩ := h
  refine ⟨w, S2, ?_, q⟩
  unfold mMethL
  rw [ho, Option.bind_some]
  dsimp only
  rw [if_pos (by rw [Pg.ls_ref h0]; rfl), e1]
  exact e2
theorem q_insert {n : Nat} {k : Int} {d : PyData} {ds : List PyData} {Q : W → Sto → Prop} (hs : S[n]? = some (.lst ds)) (hl : ds.length < lim) (h0 : 0 ≤ k) (h1 : k < 2 ^ 62) (q : Q (.d .none) (S.set n (.lst (ds.take k.toNat ++ [d] ++ ds.drop k.toNat)))) : Gives (omInsert (.ref n) [.d (.int k), .d d] S) Q := by
  refine ⟨_, _, ?_, q⟩
  unfold omInsert cellL
  dsimp only
  rw [hs]
  exact if_pos ⟨hl, h0, h1⟩
theorem q_popAt {n : Nat} {k : Int} {d : PyData} {ds : List PyData} {Q : W → Sto → Prop} (hs : S[n]? = some (.lst ds)) (h0 : 0 ≤ k) (h1 : k < 2 ^ 62) (hd : ds[k.toNat]? = some d) (q : Q (.d d) (S.set n (.lst (ds.eraseIdx k.toNat)))) : Gives (omPopAt (.ref n) [.d (.int k)] S) Q := by
  refine ⟨_, _, ?_, q⟩
  unfold omPopAt cellL
  dsimp only
  rw [hs]
  dsimp only [Option.bind_some]
  rw [if_pos ⟨h0, h1⟩, hd]
  rfl
end
end Mr

-- MY{
local macro_rules
  | `(tactic| tm_at "m") => `(tactic| first
    | with_reducible refine Mr.gX_up ?_
    | with_reducible refine Mr.gX_call ?_
    | with_reducible refine Mr.gX_callK ?_
    | with_reducible refine Mr.gX_if ?_
    | with_reducible refine Mr.gY_up ?_
    | with_reducible refine Mr.gY_seq ?_
    | with_reducible refine Mr.sqx_nx ?_
    | with_reducible refine Mr.sqx_rt ?_
    | with_reducible refine Mr.sqx_ex ?_
    | with_reducible refine Mr.gY_if ?_
    | with_reducible refine Mr.gY_raise ?_
    | with_reducible refine Mr.isD ?_
    | with_reducible refine Mr.gY_ret ?_
    | with_reducible refine Mr.gY_drop ?_
    | with_reducible refine Mr.gY_set ?_
    | with_reducible refine Mr.ofx_ok ?_
    | with_reducible refine Mr.ofx_ex ?_
    | with_reducible refine Mr.fnx_r ?_
    | with_reducible refine Mr.fnx_ex ?_
    | with_reducible refine Mr.gS_try ?_
    | with_reducible refine Mr.tryq_nx ?_
    | with_reducible refine Mr.tryq_rt ?_
    | with_reducible refine Mr.endq_nx ?_
    | with_reducible refine Mr.endq_rt ?_
    | with_reducible refine Mr.gM_xv ?_
    | with_reducible refine Mr.isEx ?_)
-- MY}

set_option maxHeartbeats 1000000
/-! the readers of one line, of any ascii text -/
namespace Xw
open PySem PySem.Spec PyProof.Rows L2 Mr Pg
open TL (tl)

variable {N : Nat} {S : Sto}
/-- a text of one line -/
theorem x_line1 {l : List Nat} {x : Str} {g : On} {d : PyData} {Q : OX → Prop} (hl : Wk l) (h10 : 10 ∉ l) (hx : List.lookup x [("number_from", m_number_from N), ("_point_from", m_point_from N), ("_address_from", m_address_from N)] = some g)
    (hg : ∀ (S : Sto) (Q : W → Sto → Prop), Q (.d d) S → Gives (g [.d (wd l)] S) Q) (q1 : d = .none → Q (.ex "Unreadable" (.int 1) S)) (q2 : d ≠ .none → Q (.ok (.d d) S)) : GivesX (x_one_line N [.d (wd l), .fn x] S) Q := by
  unfold x_one_line
  refine gFX ?_
  unfold wd
  tm_at "M"
  refine q_partW hl (by decide) ?_
  unfold parD
  have et : tl (Str.ofString "\n") = [10] := by decide
  rw [et, TL.par_none1 (s := 10) (S := []) h10]
  dsimp only [wd]
  tm_at "M"
  refine gM_callV rfl hx ?_
  tm_at "M"
  refine hg _ _ ?_
  tm_at "M"
  by_cases hd : d = .none
  · subst hd
    refine brt_t (A := _) ?_
    tm_at "M"
    rw [List.take_length]
    exact q1 rfl
  · rw [isN_data hd]
    tm_at "M"
    refine q_neA asc_emp asc_emp ?_
    tm_at "M"
    refine brt_ndt rfl ?_
    tm_at "M"
    rw [List.take_length]
    exact q2 hd
/-- a text of more lines -/
theorem x_line2 {l r : List Nat} {x : Str} {g : On} {d : PyData} {Q : OX → Prop} (hl : Wk (l ++ 10 :: r)) (h10 : 10 ∉ l) (hx : List.lookup x [("number_from", m_number_from N), ("_point_from", m_point_from N), ("_address_from", m_address_from N)] = some g)
    (hg : ∀ (S : Sto) (Q : W → Sto → Prop), Q (.d d) S → Gives (g [.d (wd l)] S) Q) (q1 : d = .none → Q (.ex "Unreadable" (.int 1) S)) (q2 : d ≠ .none → Q (.ex "Unreadable" (.int 2) S)) : GivesX (x_one_line N [.d (wd (l ++ 10 :: r)), .fn x] S) Q := by
  unfold x_one_line
  refine gFX ?_
  unfold wd
  tm_at "M"
  refine q_partW hl (by decide) ?_
  unfold parD
  have et : tl (Str.ofString "\n") = [10] := by decide
  rw [et, show l ++ 10 :: r = l ++ ([10] ++ r) from rfl, TL.par_part1 (s := 10) (S := []) h10]
  dsimp only [wd]
  rw [List.nil_append]
  tm_at "M"
  refine gM_callV rfl hx ?_
  tm_at "M"
  refine hg _ _ ?_
  tm_at "M"
  by_cases hd : d = .none
  · subst hd
    refine brt_t (A := _) ?_
    tm_at "M"
    rw [List.take_length]
    exact q1 rfl
  · rw [isN_data hd]
    tm_at "M"
    refine q_neA (asc_of (by decide)) asc_nl ?_
    tm_at "M"
    refine brt_ndf (by decide) ?_
    tm_at "M"
    rw [List.take_length]
    exact q2 hd
/-- the first line -/
def lnF : List Nat → List Nat
  | [] => []
  | c :: l => if c = 10 then [] else c :: lnF l
theorem ln_split : ∀ l : List Nat, (10 ∉ l ∧ lnF l = l) ∨ ∃ r, l = lnF l ++ 10 :: r ∧ 10 ∉ lnF l
  | [] => .inl ⟨List.not_mem_nil, rfl⟩
  | c :: l => by
    by_cases hc : c = 10
    · refine .inr ⟨l, ?_, ?_⟩
      · unfold lnF; rw [if_pos hc, hc]; rfl
      · unfold lnF; rw [if_pos hc]; exact List.not_mem_nil
    · rcases ln_split l with ⟨h1, h2⟩ | ⟨r, h1, h2⟩
      · refine .inl ⟨fun z => (List.mem_cons.mp z).elim (fun e => hc e.symm) h1, ?_⟩
        unfold lnF; rw [if_neg hc, h2]
      · refine .inr ⟨r, ?_, ?_⟩
        · unfold lnF; rw [if_neg hc, List.cons_append, ← h1]
        · unfold lnF; rw [if_neg hc]
          exact fun z => (List.mem_cons.mp z).elim (fun e => hc e.symm) h2
theorem lnF_wk {l : List Nat} (h : Wk l) : Wk (lnF l) := by
  rcases ln_split l with ⟨_, e⟩ | ⟨r, e, _⟩
  · rw [e]; exact h
  · have h1 := h.1
    have h2 := h.2
    rw [e] at h1 h2
    rw [List.length_append] at h2
    exact ⟨fun c hc => h1 c (List.mem_append_left _ hc), by omega⟩
/-- how a reader of one line comes out: d is what the first line gives -/
def outOf (d : PyData) (more : Bool) (S : Sto) : OX := match d with
  | .none => .ex "Unreadable" (.int 1) S
  | d => if more = true then .ex "Unreadable" (.int 2) S else .ok (.d d) S
theorem out_data {d : PyData} {more : Bool} (h : d ≠ .none) : outOf d more S = if more = true then .ex "Unreadable" (.int 2) S else .ok (.d d) S := by
  cases d with
  | none => exact absurd rfl h
  | _ => rfl
theorem x_one {l : List Nat} {x : Str} {g : On} {rd : List Nat → PyData} {Q : OX → Prop} (hl : Wk l) (hx : List.lookup x [("number_from", m_number_from N), ("_point_from", m_point_from N), ("_address_from", m_address_from N)] = some g)
    (hg : ∀ (f : List Nat), Wk f → ∀ (S : Sto) (Q : W → Sto → Prop), Q (.d (rd f)) S → Gives (g [.d (wd f)] S) Q) (q : Q (outOf (rd (lnF l)) (decide (10 ∈ l)) S)) : GivesX (x_one_line N [.d (wd l), .fn x] S) Q := by
  have hw := lnF_wk hl
  rcases ln_split l with ⟨h1, e⟩ | ⟨r, e, h2⟩
  · rw [e, decide_eq_false h1] at q
    refine x_line1 hl h1 hx (fun S Q => hg l hl S Q) (fun z => ?_) (fun z => ?_)
    · rw [z] at q; exact q
    · rw [out_data z] at q; exact q
  · have hm : 10 ∈ l := by rw [e]; exact List.mem_append_right _ List.mem_cons_self
    rw [decide_eq_true hm] at q
    generalize lnF l = f at *
    subst e
    refine x_line2 hl h2 hx (fun S Q => hg f hw S Q) (fun z => ?_) (fun z => ?_)
    · rw [z] at q; exact q
    · rw [out_data z] at q; exact q
theorem out_way (d : PyData) (more : Bool) (S : Sto) : (∃ w, outOf d more S = .ok (.d w) S) ∨ ∃ c x, outOf d more S = .ex c x S := by
  by_cases h : d = .none
  · subst h; exact .inr ⟨_, _, rfl⟩
  · rw [out_data h]
    cases more with
    | true => exact .inr ⟨_, _, rfl⟩
    | false => exact .inl ⟨_, rfl⟩
theorem ofx_same {e : Mr.Env} {o : OX} (h : (∃ w, o = .ok (.d w) S) ∨ ∃ c x, o = .ex c x S) : OfX e (fun w S1 => FnX S (fun r => r = o) (.r (.rt w S1))) (FnX S fun r => r = o) o := by
  rcases h with ⟨w, rfl⟩ | ⟨c, x, rfl⟩
  · show OX.ok (.d w) (S.take S.length) = .ok (.d w) S
    rw [List.take_length]
  · show OX.ex c x (S.take S.length) = .ex c x S
    rw [List.take_length]
theorem x_number {l : List Nat} {Q : OX → Prop} (hl : Wk l) (q : Q (outOf (optN (rdN (lnF l))) (decide (10 ∈ l)) S)) : GivesX (x_read_number N [.d (wd l)] S) Q := by
  refine GivesX.mono (Q := fun r => r = outOf (optN (rdN (lnF l))) (decide (10 ∈ l)) S) ?_ (by rintro _ rfl; exact q)
  unfold x_read_number
  refine gFX ?_
  tm_at "M"
  refine ⟨.fn "number_from", S, rfl, ?_⟩
  tm_at "M"
  exact x_one (rd := fun f => optN (rdN f)) hl (g := m_number_from N) rfl (fun f hf S Q q => number_from hf q) (ofx_same (out_way _ _ _))
theorem x_point {l : List Nat} {Q : OX → Prop} (hl : Wk l) (q : Q (outOf (optP (rdP (lnF l))) (decide (10 ∈ l)) S)) : GivesX (x_read_point N [.d (wd l)] S) Q := by
  refine GivesX.mono (Q := fun r => r = outOf (optP (rdP (lnF l))) (decide (10 ∈ l)) S) ?_ (by rintro _ rfl; exact q)
  unfold x_read_point
  refine gFX ?_
  tm_at "M"
  refine ⟨.fn "_point_from", S, rfl, ?_⟩
  tm_at "M"
  exact x_one (rd := fun f => optP (rdP f)) hl (g := m_point_from N) rfl (fun f hf S Q q => point_from hf q) (ofx_same (out_way _ _ _))
theorem x_address {l : List Nat} {Q : OX → Prop} (hl : Wk l) (q : Q (outOf (optA (rdA (lnF l))) (decide (10 ∈ l)) S)) : GivesX (x_read_address N [.d (wd l)] S) Q := by
  refine GivesX.mono (Q := fun r => r = outOf (optA (rdA (lnF l))) (decide (10 ∈ l)) S) ?_ (by rintro _ rfl; exact q)
  unfold x_read_address
  refine gFX ?_
  tm_at "M"
  refine ⟨.fn "_address_from", S, rfl, ?_⟩
  tm_at "M"
  exact x_one (rd := fun f => optA (rdA f)) hl (g := m_address_from N) rfl (fun f hf S Q q => address_from hf q) (ofx_same (out_way _ _ _))
end Xw

set_option maxHeartbeats 1000000
/-! filters, lists held against the empty list, what is shown and read -/
namespace Xw
open PySem PySem.Spec PyProof.Rows L2 Mr Pg
open TL (tl spl par)
variable {N : Nat} {S : Sto}
theorem grMono {o : Option R} {Q Q' : R → Prop} (h : GivesR o Q) (k : ∀ r, Q r → Q' r) : GivesR o Q' := by
  obtain ⟨r, e, q⟩ := h
  exact ⟨r, e, k r q⟩
theorem compFw {α : Type} {tg : Tg} {c : MT} {mm : M} {e : Mr.Env} {p : α → Bool} {f : α → W} {g : α → PyData} : ∀ {l : List α}, (∀ i ∈ l, ∃ e1, tg.set (f i) e = some e1 ∧ c e1 S = some (p i, S) ∧ (p i = true → mm e1 S = some (.d (g i), S))) →
    compL tg c mm e (l.map f) S = some ((l.filter p).map g, S)
  | [], _ => rfl
  | i :: l, h => by
    obtain ⟨e1, h1, h2, h3⟩ := h i List.mem_cons_self
    have ih := compFw (l := l) fun y hy => h y (List.mem_cons_of_mem _ hy)
    rw [List.map_cons]
    unfold compL
    rw [h1, Option.bind_some, h2, Option.bind_some]
    by_cases hp : p i = true
    · dsimp only
      rw [if_pos hp, h3 hp, Option.bind_some, List.filter_cons, if_pos hp, List.map_cons]
      show (some [g i]).bind _ = _
      rw [Option.bind_some, ih, Option.bind_some]
      rfl
    · dsimp only
      rw [if_neg hp, List.filter_cons, if_neg hp]
      exact ih
theorem gC_flt {α : Type} {tg : Tg} {c : MT} {mm : M} {e : Mr.Env} {QC : List PyData → Sto → Prop} {f : α → W} {l : List α} (p : α → Bool) (g : α → PyData) (h : ∀ x ∈ l, TgE tg (f x) e fun e1 => GvT (c e1 S) fun b S1 => b = p x ∧ S1 = S ∧ (p x = true → Gives (mm e1 S) fun y S2 => y = .d (g x) ∧ S2 = S)) (q : QC ((l.filter p).map g) S) : GvC (compL tg c mm e (l.map f) S) QC := by
  refine ⟨_, _, compFw (p := p) (g := g) fun x hx => ?_, q⟩
  obtain ⟨e1, h1, b, S1, h2, rfl, rfl, h3⟩ := h x hx
  refine ⟨e1, h1, h2, fun hp => ?_⟩
  obtain ⟨y, S2, h4, rfl, rfl⟩ := h3 hp
  exact h4
/-! a list held against [] -/
def LayAll (ds : List PyData) : Prop := ∀ d ∈ ds, d.canLay0 = true ∧ d.depth ≤ 8
theorem eqv_nil (ds : List PyData) : PyData.eqv (.list ds) (.list []) = ds.isEmpty := by
  cases ds with
  | nil => simp [PyData.eqv, PyData.eqvAll]
  | cons d ds => simp [PyData.eqv, PyData.eqvAll]
theorem shaped_nil : SeqAt.shaped (.list []) = true := (shaped_list (ds := []) fun d h => nomatch h).1
theorem q_eqE {ds : List PyData} {Q : W → Sto → Prop} (h : LayAll ds) (q : Q (.d (.bool ds.isEmpty)) S) : Gives (oEq (.d (.list ds)) (.d (.list [])) S) Q := ⟨_, S, by rw [o_eq (shaped_list h).1 shaped_nil, eqv_nil], q⟩
theorem q_neE {ds : List PyData} {Q : W → Sto → Prop} (h : LayAll ds) (q : Q (.d (.bool (!ds.isEmpty))) S) : Gives (oNe (.d (.list ds)) (.d (.list [])) S) Q := ⟨_, S, by rw [o_ne (shaped_list h).1 shaped_nil, eqv_nil], q⟩
theorem lay_int (i : Int) : (PyData.int i).canLay0 = true ∧ (PyData.int i).depth ≤ 8 := by simp [PyData.canLay0, PyData.depth]
/-! what is shown and read -/
theorem dv_app (l : List Nat) (c : Nat) : NumText.digitsVal (l ++ [c]) = NumText.digitsVal l * 10 + (c - 48) := by
  unfold NumText.digitsVal
  rw [List.foldl_append]
  rfl
theorem numL_head48 : ∀ {n : Nat}, 0 < n → (TL.numL n).head? ≠ some 48 := by
  intro n
  induction n using Nat.strongRecOn with
  | ind n ih =>
    intro h
    by_cases h1 : n < 10
    · rw [TL.numL_lt h1]
      intro z
      have : 48 + n = 48 := by simpa using z
      omega
    · rw [TL.numL_step (by omega)]
      have := ih (n / 10) (by omega) (by omega)
      cases e : TL.numL (n / 10) with
      | nil => exact absurd e (TL.numL_ne _)
      | cons a r =>
        rw [e] at this
        simpa using this
theorem numL_canon : ∀ (k : Nat) {l : List Nat}, l.length = k + 1 → NumText.AllDigits l → (l.head? ≠ some 48 ∨ l = [48]) → TL.numL (NumText.digitsVal l) = l := by
  intro k
  induction k with
  | zero =>
    intro l hl hd _
    match l, hl with
    | [c], _ =>
      have h := hd c List.mem_cons_self
      have e : NumText.digitsVal [c] = c - 48 := by unfold NumText.digitsVal; simp
      rw [e, TL.numL_lt (by omega)]
      congr 1
      omega
  | succ k ih =>
    intro l hl hd hc
    have hne : l ≠ [] := fun z => by rw [z] at hl; cases hl
    obtain ⟨m, c, e⟩ := (List.eq_nil_or_concat l).resolve_left hne
    rw [List.concat_eq_append] at e
    subst e
    have hml : m.length = k + 1 := by rw [List.length_append] at hl; simpa using hl
    have hm : m ≠ [] := fun z => by rw [z] at hml; cases hml
    have hh : m.head? ≠ some 48 := by
      rcases hc with z | z
      · cases m with
        | nil => exact absurd rfl hm
        | cons a r => simpa using z
      · have := congrArg List.length z
        rw [List.length_append, hml] at this
        simp at this
    have hdm : NumText.AllDigits m := fun d h => hd d (List.mem_append_left _ h)
    have hdc := hd c (List.mem_append_right _ List.mem_cons_self)
    have e1 := ih hml hdm (.inl hh)
    rw [dv_app]
    have hp : 0 < NumText.digitsVal m := by
      rcases Nat.eq_zero_or_pos (NumText.digitsVal m) with z | z
      · rw [z, TL.numL_lt (by decide)] at e1
        rw [← e1] at hh
        exact absurd rfl hh
      · exact z
    rw [TL.numL_step (by omega), show (NumText.digitsVal m * 10 + (c - 48)) / 10 = NumText.digitsVal m by omega, e1, show (48 + (NumText.digitsVal m * 10 + (c - 48)) % 10) = c by omega]
theorem numL_canon_iff {l : List Nat} (hne : l ≠ []) (hd : NumText.AllDigits l) : TL.numL (NumText.digitsVal l) = l ↔ (l.head? ≠ some 48 ∨ l = [48]) := by
  constructor
  · intro h
    by_cases z : l.head? = some 48
    · right
      rcases Nat.eq_zero_or_pos (NumText.digitsVal l) with y | y
      · rw [y, TL.numL_lt (by decide)] at h
        exact h.symm
      · have := numL_head48 y
        rw [h] at this
        exact absurd z this
    · exact .inl z
  · intro h
    obtain ⟨c, r, rfl⟩ := List.exists_cons_of_ne_nil hne
    exact numL_canon r.length rfl hd h
theorem shows_iff {l : List Nat} (h : okL l = true) : tl (tI (vL l)) = l ↔ ¬((bodyL l).head? = some 48 ∧ l ≠ [48]) := by
  obtain ⟨h1, h2, _⟩ := okL_iff.mp h
  have hd := digits_all h2
  have hc := numL_canon_iff h1 hd
  rw [tl_tI]
  cases hn : negL l with
  | true =>
    have e := neg_body hn
    have hv : vL l = -((NumText.digitsVal (bodyL l) : Nat) : Int) := by unfold vL; rw [if_pos hn]
    have hl48 : l ≠ [48] := fun z => by rw [z] at hn; cases hn
    rcases Nat.eq_zero_or_pos (NumText.digitsVal (bodyL l)) with z | z
    · rw [hv, z, if_neg (by omega)]
      rw [z] at hc
      constructor
      · intro y
        exfalso
        exact numL_head _ (y.trans e)
      · intro y
        exfalso
        refine y ⟨?_, hl48⟩
        rcases Decidable.em ((bodyL l).head? = some 48) with q | q
        · exact q
        · have := hc.mpr (.inl q)
          rw [TL.numL_lt (by decide)] at this
          rw [← this]
          rfl
    · rw [hv, if_pos (by omega), show (-((NumText.digitsVal (bodyL l) : Nat) : Int)).natAbs = NumText.digitsVal (bodyL l) by omega]
      have key : 45 :: TL.numL (NumText.digitsVal (bodyL l)) = l ↔ TL.numL (NumText.digitsVal (bodyL l)) = bodyL l := by
        constructor
        · intro y; exact (List.cons.inj (y.trans e)).2
        · intro y; rw [y]; exact e.symm
      rw [key, hc]
      constructor
      · rintro (y | y) ⟨y1, _⟩
        · exact y y1
        · rw [y] at z
          exact absurd z (by decide)
      · intro y
        exact .inl fun q => y ⟨q, hl48⟩
  | false =>
    have e := pos_body hn
    have hv : vL l = ((NumText.digitsVal (bodyL l) : Nat) : Int) := by unfold vL; rw [hn]; rfl
    rw [hv, if_neg (by omega), Int.natAbs_natCast]
    have hb : bodyL l = l := e
    rw [hb] at hc ⊢
    rw [hc]
    constructor
    · rintro (y | y) ⟨y1, y2⟩
      · exact y y1
      · exact y2 y
    · intro y
      by_cases q : l.head? = some 48
      · exact .inr (Decidable.not_not.mp fun w => y ⟨q, w⟩)
      · exact .inl q
theorem atG_of {α : Type} {l : List α} {i : Nat} (h : i < l.length) : atI l ((i : Nat) : Int) = some l[i] := by
  unfold atI ixN
  rw [if_pos (by omega), if_pos (by omega)]
  show l[((i : Nat) : Int).toNat]? = _
  rw [Int.toNat_natCast]
  exact List.getElem?_eq_getElem h
/-- the first of a sign -/
theorem sp_split (c : Nat) : ∀ l : List Nat, c ∉ l ∨ ∃ p r, l = p ++ c :: r ∧ c ∉ p
  | [] => .inl List.not_mem_nil
  | d :: l => by
    by_cases hc : d = c
    · exact .inr ⟨[], l, by rw [hc]; rfl, List.not_mem_nil⟩
    · rcases sp_split c l with h | ⟨p, r, rfl, h⟩
      · exact .inl fun z => (List.mem_cons.mp z).elim (fun e => hc e.symm) h
      · exact .inr ⟨d :: p, r, rfl, fun z => (List.mem_cons.mp z).elim (fun e => hc e.symm) h⟩
theorem find_none {c : Nat} {x : Str} (h : c ∉ tl x) : Txt.find x (strOf [c]) = -1 := by
  rcases PyProof.Rows.find_whole x (strOf [c]) with ⟨e, _⟩ | ⟨i, e, hi, _⟩
  · exact e
  · exfalso
    have := (TL.at_iff (x := x) (y := strOf [c]) (by rw [tl_strOf]; simp) i).mp hi
    rw [tl_strOf] at this
    unfold TL.pre at this
    have e2 : ((tl x).drop i).take 1 = [c] := by simpa using this
    refine h (List.mem_of_mem_drop (i := i) (List.mem_of_mem_take (i := 1) ?_))
    rw [e2]
    exact List.mem_cons_self
theorem find_some {c : Nat} {x : Str} {p r : List Nat} (e : tl x = p ++ c :: r) (h : c ∉ p) : Txt.find x (strOf [c]) = (p.length : Nat) := by
  have hy : tl (strOf [c]) ≠ [] := by rw [tl_strOf]; simp
  have hat : PySem.StrLaws.At x (strOf [c]) x.length p.length := (TL.at_iff hy p.length).mpr (by
    rw [tl_strOf, e, List.drop_left]
    unfold TL.pre
    simp)
  rcases PyProof.Rows.find_whole x (strOf [c]) with ⟨_, hn⟩ | ⟨i, e1, hi, hn⟩
  · exact absurd hat (hn _)
  · have h1 : i ≤ p.length := by
      rcases Nat.lt_or_ge p.length i with z | z
      · exact absurd hat (hn _ z)
      · exact z
    have h2 : ¬ i < p.length := fun z => by
      have := (TL.at_iff hy i).mp hi
      rw [tl_strOf, e, TL.free_of (s := c) (S := []) h i z] at this
      cases this
    rw [e1, show i = p.length by omega]
end Xw

set_option maxHeartbeats 1000000
/-! lowest terms, slices of texts -/
namespace Xw
open PySem PySem.Spec PyProof.Rows L2 Mr Pg
open TL (tl spl par)

variable {N : Nat} {S : Sto}
theorem lowest_eq (hN : 2 ^ 1100 ≤ N) {t b : Int} {Q : W → Sto → Prop} (h0 : 0 < b) (hb : b.natAbs < 2 ^ 1000) (q : Q (.d (.tuple [.int (t.fdiv (Nat.gcd t.natAbs b.natAbs : Nat)), .int (b.fdiv (Nat.gcd t.natAbs b.natAbs : Nat))])) S) : Gives (m_law_lowest N [.d (.int t), .d (.int b)] S) Q := by
  refine Gives.mono (Q := fun w S' => w = .d (.tuple [.int (t.fdiv (Nat.gcd t.natAbs b.natAbs : Nat)), .int (b.fdiv (Nat.gcd t.natAbs b.natAbs : Nat))]) ∧ S' = S) ?_ (by rintro _ _ ⟨rfl, rfl⟩; exact q)
  unfold m_law_lowest
  refine gF ?_
  tm_at "M"
  refine gW (J := fun k e S' => S' = S ∧ ∃ one : Nat, e = [some (.d (.int t)), some (.d (.int b)), some (.d (.int (one : Nat))), some (.d (.int (k : Nat)))] ∧ Nat.gcd one k = Nat.gcd t.natAbs b.natAbs) (fun k e S' j => ?_) N b.natAbs _ S ?_ ⟨rfl, t.natAbs, by rw [Int.natAbs_of_nonneg (by omega : 0 ≤ b)], rfl⟩
  · obtain ⟨rfl, one, rfl, hg⟩ := j
    tm_at "M"
    refine brt_nd (fun h => ?_) (fun h => ?_)
    · have hk : k = 0 := by omega
      subst hk
      rw [Nat.gcd_zero_right] at hg
      have g0 : 0 < Nat.gcd t.natAbs b.natAbs := Nat.gcd_pos_of_pos_right _ (by omega)
      have g1 : Nat.gcd t.natAbs b.natAbs ≤ b.natAbs := Nat.le_of_dvd (by omega) (Nat.gcd_dvd_right _ _)
      have d0 : ∀ i : Int, Sk.CDivZ i (one : Nat) := fun i => div_big (by omega) (by rw [Int.natAbs_natCast]; have := p1100; omega)
      tm_at "M"
      refine q_divX (d0 _) ?_
      tm_at "M"
      refine q_divX (d0 _) ?_
      tm_at "M"
      rw [hg]
      exact ⟨rfl, List.take_length⟩
    · tm_at "M"
      refine q_mod (by omega) ?_
      tm_at "M"
      refine ⟨one % k, Nat.mod_lt _ (by omega), rfl, k, by rw [Int.natCast_emod], ?_⟩
      rw [← hg, Nat.gcd_comm one k, Nat.gcd_rec k one, Nat.gcd_comm]
  · have := p1100
    omega
theorem fdiv_id {b : Int} {g : Nat} (hb : 0 < b) (hg : 0 < g) : b.fdiv (g : Int) = b ↔ g = 1 := by
  constructor
  · intro h
    rw [Int.fdiv_eq_ediv_of_nonneg _ (by omega)] at h
    rcases Nat.lt_or_ge g 2 with z | z
    · omega
    · exfalso
      have h2 : b / (g : Int) < b := Int.ediv_lt_of_lt_mul (by omega) (by
        have := Int.mul_le_mul_of_nonneg_left (show (2 : Int) ≤ g by omega) (show 0 ≤ b by omega)
        omega)
      omega
  · intro h
    subst h
    rw [Int.fdiv_eq_ediv_of_nonneg _ (by decide)]
    exact Int.ediv_one b
theorem sIx_nat (n d k : Nat) : HT.sIx n d (some (k : Nat)) = min k n := by
  unfold HT.sIx
  simp
  omega
theorem str_ext {x y : Str} (h : tl x = tl y) : x = y := TL.ext_tl h
theorem cut_strL (l : List Nat) (k : Nat) : cutS (strOf l) none (some (k : Nat)) = strOf (l.take k) := by
  refine str_ext ?_
  show ((tl (strOf l)).drop (HT.sIx (strOf l).length 0 none)).take (HT.sIx (strOf l).length (strOf l).length (some (k : Nat)) - HT.sIx (strOf l).length 0 none) = l.take k
  rw [sIx_nat, TL.len_tl, tl_strOf, show HT.sIx l.length 0 none = 0 from rfl, List.drop_zero, Nat.sub_zero]
  rcases Nat.le_total k l.length with z | z
  · rw [Nat.min_eq_left z]
  · rw [Nat.min_eq_right z, List.take_of_length_le (Nat.le_refl _), List.take_of_length_le z]
theorem cut_strR (l : List Nat) (k : Nat) : cutS (strOf l) (some (k : Nat)) none = strOf (l.drop k) := by
  refine str_ext ?_
  show ((tl (strOf l)).drop (HT.sIx (strOf l).length 0 (some (k : Nat)))).take (HT.sIx (strOf l).length (strOf l).length none - HT.sIx (strOf l).length 0 (some (k : Nat))) = l.drop k
  rw [sIx_nat, TL.len_tl, tl_strOf, show HT.sIx l.length l.length none = l.length from rfl]
  rcases Nat.le_total k l.length with z | z
  · rw [Nat.min_eq_left z, List.take_of_length_le (by rw [List.length_drop]; exact Nat.le_refl _)]
  · rw [Nat.min_eq_right z, Nat.sub_self, List.take_zero, List.drop_of_length_le z]
theorem cut_strM (l : List Nat) (a b : Nat) : cutS (strOf l) (some (a : Nat)) (some (b : Nat)) = strOf ((l.drop a).take (b - a)) := by
  refine str_ext ?_
  show ((tl (strOf l)).drop (HT.sIx (strOf l).length 0 (some (a : Nat)))).take (HT.sIx (strOf l).length (strOf l).length (some (b : Nat)) - HT.sIx (strOf l).length 0 (some (a : Nat))) = (l.drop a).take (b - a)
  rw [sIx_nat, sIx_nat, TL.len_tl, tl_strOf]
  rcases Nat.le_total a l.length with z | z
  · rw [Nat.min_eq_left z]
    rcases Nat.le_total b l.length with y | y
    · rw [Nat.min_eq_left y]
    · rw [Nat.min_eq_right y, List.take_of_length_le (by rw [List.length_drop]; exact Nat.le_refl _), List.take_of_length_le (by rw [List.length_drop]; omega)]
  · rw [List.drop_of_length_le z, Nat.min_eq_right z, List.drop_of_length_le (Nat.le_refl _), List.take_nil, List.take_nil]
theorem q_inE {ds : List PyData} {Q : W → Sto → Prop} (h : ∀ d ∈ ds, d.canLay0 = true ∧ d.depth ≤ 8) (q : Q (.d (.bool (ds.any fun z => PyData.eqv z (.list [])))) S) : Gives (oIn (.d (.list [])) (.d (.list ds)) S) Q := ⟨_, S, by
  have e : oInL (.d (.list [])) (.d (.list ds)) S = some (.d (.bool (ds.any fun z => PyData.eqv z (.list []))), S) := by
    show (if SeqAt.shaped (.list []) = true ∧ SeqAt.shaped (.list ds) = true then _ else _) = _
    rw [if_pos ⟨shaped_nil, (shaped_list h).1⟩]
  unfold oIn orO
  rw [e], q⟩
theorem wk_app {p r : List Nat} {c : Nat} (h : Wk (p ++ c :: r)) : Wk p ∧ Wk r := by
  have h1 := h.1
  have h2 := h.2
  rw [List.length_append, List.length_cons] at h2
  exact ⟨⟨fun d hd => h1 d (List.mem_append_left _ hd), by omega⟩, ⟨fun d hd => h1 d (List.mem_append_right _ (List.mem_cons_of_mem _ hd)), by omega⟩⟩
theorem rdI_lt {l : List Nat} {i : Int} (h : rdI l = some i) : i.natAbs < 10 ^ 9 := by
  unfold rdI at h
  by_cases z : okL l = true ∧ tl (tI (vL l)) = l
  · rw [if_pos z] at h
    rw [← Option.some.inj h]
    exact vL_lt z.1
  · rw [if_neg z] at h; cases h
end Xw

set_option maxHeartbeats 2000000
/-! Mr: what text.split hands back is a list that changes -/
namespace Mr
open PySem PySem.Spec PyProof.Rows L2
def oSplitC : O2 := fun a b S => (stOf a).bind fun x => (stOf b).bind fun y => if (y.length == 0) = false ∧ x.length ≤ slim then some (.ref S.length, S ++ [.lst ((Txt.split x y).map PyData.str)]) else none
section
variable {X : Cx} {a b o e : Expr} {es : List Expr} {ma mb mo m : M} {mr : MA} {pos apos : Pos}
theorem me_splitC (ho : PE X o (Cx.tE X mo)) (he : PE X e (Cx.tE X m))
    (hs : starEach [e] X.env = [(false, eval e X.env)] := by rfl) (hbase : attributeBase o "split" X.env (eval o X.env) = eval o X.env := by rfl) (hline : (apos.endLine == pos.line) = true := by rfl) :
    PE X (.Call (.Attribute o "split" apos) [e] [] pos) (Cx.tE X (mOp oSplitC mo m)) :=
  me_m1 PySem.F.slot_str_split PySem.F.type_str_split mt_split (fun a b S c h => st_some (b := b) (S := S) h) (fun F μ S H x y a b c S' Q d ra rb e q => by
    obtain ⟨z, e1, e⟩ := bindS e
    obtain ⟨z', e2, e⟩ := bindS e
    by_cases hc : (z'.length == 0) = false ∧ z.length ≤ slim
    · rw [if_pos hc] at e
      cases e
      refine ⟨z, z', st_rel ra e1, by rw [st_rel rb e2], hc.1, Nat.le_trans (Nat.add_le_add_right hc.2 2) (by decide), fun p hp => ?_⟩
      have hF := (d.fresh hp).1
      obtain ⟨d2, g2⟩ := d.cellNew hp (o := .lst ((Txt.split z z').map V.str)) (c := .lst ((Txt.split z z').map PyData.str)) ⟨hF, _, upd_same, dza_ofStrs _⟩
      exact q _ _ _ _ g2 d2 ⟨p, by rw [← d.len, List.getElem?_append_right (Nat.le_refl _), Nat.sub_self]; rfl, rfl⟩
    · rw [if_neg hc] at e; cases e) ho he hs hbase hline
/-! a sign in a text -/
def oInC : O2 := fun a b S => (stOf a).bind fun x => (stOf b).bind fun y => match x.cps.toList with
  | [c] => some (.d (.bool (decide (c ∈ y.cps.toList))), S)
  | _ => none
theorem bo_inC : BOp X (compareOp .In) oInC := ⟨_, op_in_sign, fun F μ S H x y a b c S' Q d ra rb e q => by
  obtain ⟨z, e1, e⟩ := bindS e
  obtain ⟨z', e2, e⟩ := bindS e
  split at e
  · rename_i k hk
    cases e
    obtain ⟨⟨l⟩⟩ := z
    subst hk
    exact ⟨k, z', st_rel ra e1, st_rel rb e2, q F μ H _ .refl d (.bl _)⟩
  · cases e⟩
/-! a text so many times -/
def repS (x : Str) (k : Nat) : Str := ⟨(List.replicate k x.cps).foldl (· ++ ·) #[]⟩
theorem op_repS : OpR X (binaryOp .Mult) (fun x y H Q => ∃ i k, x = .str i ∧ y = .int k ∧ 1 ≤ i.length ∧ i.length ≤ 100 ∧ 2 ≤ k ∧ k ≤ 5000 ∧ Q (.str (repS i k.toNat)) H) := by
  intro pins s σ H x y v u Q I rx ry h
  obtain ⟨i, k, rfl, rfl, h1, h2, h3, h4, q⟩ := h
  obtain ⟨t, rfl⟩ := rx
  obtain ⟨t', rfl⟩ := ry
  have hn1 : ¬ k < 1 := by omega
  have hc : (k == 1 || i.length == 0) = false := by
    rw [Bool.or_eq_false_iff]
    refine ⟨?_, ?_⟩
    · rw [beq_eq_false_iff_ne]; omega
    · rw [beq_eq_false_iff_ne]; omega
  have hm : i.length * k.toNat ≤ 100 * 5000 := Nat.mul_le_mul h2 (by omega)
  have hl : Builtin.Str.tooLong (i.length * k.toNat) = false := by
    unfold Builtin.Str.tooLong
    have hz : 500000 ≤ sizeLine := by decide
    exact decide_eq_false (by omega)
  refine P.mul_str ?_ (fun _ _ => ?_) (fun _ _ => hl) ?_
  · rw [decide_eq_false (by omega), decide_eq_false (by omega)]; rfl
  · have e1 : (100 : Int) ≤ (2 ^ 63 - 1) / k := Int.le_ediv_of_mul_le (by omega) (by
      have := Int.mul_le_mul_of_nonneg_left h4 (show (0 : Int) ≤ 100 by decide)
      omega)
    omega
  · rw [if_neg hn1, hc, if_neg (by decide)]
    exact ⟨fits_reps hl, .str (repS i k.toNat), H, I.tok _, ⟨_, rfl⟩, q⟩
def oRepS : O2 := fun a b S => (stOf a).bind fun x => (inOf b).bind fun k => if 1 ≤ x.length ∧ x.length ≤ 100 ∧ 2 ≤ k ∧ k ≤ 5000 then some (.d (.str (repS x k.toNat)), S) else none
theorem bo_repS : BOp X (binaryOp .Mult) oRepS := ⟨_, op_repS, fun F μ S H x y a b c S' Q d ra rb e q => by
  obtain ⟨z, e1, e⟩ := bindS e
  obtain ⟨k, e2, e⟩ := bindS e
  by_cases hc : 1 ≤ z.length ∧ z.length ≤ 100 ∧ 2 ≤ k ∧ k ≤ 5000
  · rw [if_pos hc] at e
    cases e
    exact ⟨z, k, st_rel ra e1, in_rel rb e2, hc.1, hc.2.1, hc.2.2.1, hc.2.2.2, q F μ H _ .refl d (.str _)⟩
  · rw [if_neg hc] at e; cases e⟩
end
theorem q_repS {x : Str} {k : Int} {S : Sto} {Q : W → Sto → Prop} (h1 : 1 ≤ x.length) (h2 : x.length ≤ 100) (h3 : 2 ≤ k) (h4 : k ≤ 5000) (h : Q (.d (.str (repS x k.toNat))) S) : ∃ w S', oRepS (.d (.str x)) (.d (.int k)) S = some (w, S') ∧ Q w S' := ⟨_, _, by
  show (if 1 ≤ x.length ∧ x.length ≤ 100 ∧ 2 ≤ k ∧ k ≤ 5000 then some (W.d (.str (repS x k.toNat)), S) else none) = _
  rw [if_pos ⟨h1, h2, h3, h4⟩], h⟩
theorem q_splitC {x y : Str} {S : Sto} {Q : W → Sto → Prop} (hy : (y.length == 0) = false) (hl : x.length ≤ slim) (h : Q (.ref S.length) (S ++ [.lst ((Txt.split x y).map PyData.str)])) : ∃ w S', oSplitC (.d (.str x)) (.d (.str y)) S = some (w, S') ∧ Q w S' := ⟨_, _, by
  show (if (y.length == 0) = false ∧ x.length ≤ slim then some (W.ref S.length, S ++ [O.lst ((Txt.split x y).map PyData.str)]) else none) = _
  rw [if_pos ⟨hy, hl⟩], h⟩
end Mr

set_option maxHeartbeats 1000000
/-! texts of bounded length, bent -/
namespace Xw
open PySem PySem.Spec PyProof.Rows L2 Mr Pg
open TL (tl spl par joinL)

variable {N : Nat} {S : Sto}
/-- ascii, at most so long -/
structure Wb (k : Nat) (l : List Nat) : Prop where
  a : ∀ c ∈ l, c < 128
  l : l.length ≤ k
theorem Wb.wk {k : Nat} {l : List Nat} (h : Wb k l) (hk : k ≤ 999000) : Wk l := ⟨h.a, Nat.le_trans h.l hk⟩
theorem Wb.up {k m : Nat} {l : List Nat} (h : Wb k l) (hk : k ≤ m) : Wb m l := ⟨h.a, Nat.le_trans h.l hk⟩
theorem Wb.app {k m : Nat} {l r : List Nat} (h : Wb k l) (h' : Wb m r) : Wb (k + m) (l ++ r) := ⟨fun c hc => (List.mem_append.mp hc).elim (h.a c) (h'.a c), by rw [List.length_append]; exact Nat.add_le_add h.l h'.l⟩
theorem Wb.take {k : Nat} {l : List Nat} (h : Wb k l) (n : Nat) : Wb k (l.take n) := ⟨fun c hc => h.a c (List.mem_of_mem_take hc), by rw [List.length_take]; have := h.l; omega⟩
theorem Wb.drop {k : Nat} {l : List Nat} (h : Wb k l) (n : Nat) : Wb k (l.drop n) := ⟨fun c hc => h.a c (List.mem_of_mem_drop hc), by rw [List.length_drop]; have := h.l; omega⟩
theorem wb_lit {s : String} {k : Nat} (h : ((Str.ofString s).cps.toList.all fun c => decide (c < 128)) = true) (hl : (Str.ofString s).cps.toList.length ≤ k) : Wb k (tl (Str.ofString s)) := ⟨fun c hc => of_decide_eq_true (List.all_eq_true.mp h c hc), hl⟩
theorem str_app (a b : List Nat) : strOf a ++ strOf b = strOf (a ++ b) := TL.ext_tl (by rw [TL.tl_append]; rfl)
theorem q_addW {a b : List Nat} {Q : W → Sto → Prop} (h : a.length + b.length ≤ 2000000) (q : Q (.d (.str (strOf (a ++ b)))) S) : Gives (oAddS (.d (.str (strOf a))) (.d (.str (strOf b))) S) Q :=
  q_addS (by rw [TL.len_tl, TL.len_tl, tl_strOf, tl_strOf]; exact Nat.le_trans h (by decide)) (by rw [str_app]; exact q)
/-- what is asked of each member -/
theorem q_ixA {ds : List PyData} {P : PyData → Prop} {t : Int} {Q : W → Sto → Prop} (hP : ∀ d ∈ ds, P d) (h0 : 0 ≤ t) (h1 : t < (ds.length : Nat)) (k : ∀ d, P d → Q (.d d) S) : Gives (oIx (.d (.list ds)) (.d (.int t)) S) Q := by
  obtain ⟨i, rfl⟩ := Int.eq_ofNat_of_zero_le h0
  have hi : i < ds.length := by omega
  exact q_ixL (atI_of hi) (k _ (hP _ (List.getElem_mem hi)))
/-- a text's data -/
def TxB (k : Nat) (d : PyData) : Prop := ∃ l, d = .str (strOf l) ∧ Wb k l
def txC (k : Nat) : PyData → Bool
  | .str x => (x.cps.toList.all fun c => decide (c < 128)) && decide (x.cps.toList.length ≤ k)
  | _ => false
theorem txB_of {k : Nat} {d : PyData} (h : txC k d = true) : TxB k d := by
  cases d with
  | str x =>
    unfold txC at h
    rw [Bool.and_eq_true, decide_eq_true_eq, List.all_eq_true] at h
    exact ⟨tl x, by rw [strOf_tl], fun c hc => of_decide_eq_true (h.1 c hc), h.2⟩
  | _ => exact Bool.noConfusion h
theorem txB_all {k : Nat} {ds : List PyData} (h : ds.all (txC k) = true) : ∀ d ∈ ds, TxB k d := fun d hd => txB_of (List.all_eq_true.mp h d hd)
theorem TxB.up {k m : Nat} {d : PyData} (h : TxB k d) (hk : k ≤ m) : TxB m d := by
  obtain ⟨l, e, w⟩ := h
  exact ⟨l, e, w.up hk⟩
theorem rep_tl (x : Str) : ∀ k : Nat, tl (repS x k) = (List.replicate k (tl x)).flatten := by
  have h : ∀ (k : Nat) (acc : Array Nat), ((List.replicate k x.cps).foldl (· ++ ·) acc).toList = acc.toList ++ (List.replicate k (tl x)).flatten := by
    intro k
    induction k with
    | zero => intro acc; simp
    | succ k ih =>
      intro acc
      rw [List.replicate_succ, List.foldl_cons, ih, List.replicate_succ, List.flatten_cons, Array.toList_append, List.append_assoc]
  intro k
  show ((List.replicate k x.cps).foldl (· ++ ·) #[]).toList = _
  rw [h]
  rfl
theorem rep_wb {l : List Nat} {k m : Nat} (h : Wb m l) : Wb (k * m) (tl (repS (strOf l) k)) := by
  rw [rep_tl, tl_strOf]
  refine ⟨fun c hc => ?_, ?_⟩
  · obtain ⟨r, hr, hc⟩ := List.mem_flatten.mp hc
    rw [(List.mem_replicate.mp hr).2] at hc
    exact h.a c hc
  · rw [List.length_flatten, List.map_replicate, List.sum_replicate_nat]
    exact Nat.mul_le_mul_left _ h.l
/-! parts -/
def ms (ps : List (List Nat)) : Nat := (ps.map fun p => p.length + 1).sum
theorem ms_cons (p : List Nat) (ps : List (List Nat)) : ms (p :: ps) = p.length + 1 + ms ps := by unfold ms; rw [List.map_cons, List.sum_cons]
theorem ms_app (ps qs : List (List Nat)) : ms (ps ++ qs) = ms ps + ms qs := by unfold ms; rw [List.map_append, List.sum_append_nat]
theorem ms_len : ∀ ps : List (List Nat), ps.length ≤ ms ps
  | [] => Nat.zero_le _
  | p :: ps => by have := ms_len ps; rw [ms_cons, List.length_cons]; omega
theorem ms_mem : ∀ {ps : List (List Nat)} {p : List Nat}, p ∈ ps → p.length + 1 ≤ ms ps
  | q :: ps, p, h => by
    rw [ms_cons]
    rcases List.mem_cons.mp h with z | z
    · rw [z]; omega
    · have := ms_mem z; omega
theorem ms_erase : ∀ (ps : List (List Nat)) (k : Nat), ms (ps.eraseIdx k) ≤ ms ps
  | [], _ => Nat.le_refl _
  | p :: ps, 0 => by rw [List.eraseIdx_cons_zero, ms_cons]; omega
  | p :: ps, k + 1 => by rw [List.eraseIdx_cons_succ, ms_cons, ms_cons]; have := ms_erase ps k; omega
theorem ms_set : ∀ (ps : List (List Nat)) (k : Nat) (x : List Nat), ms (ps.set k x) ≤ ms ps + (x.length + 1)
  | [], _, _ => by rw [List.set_nil]; omega
  | p :: ps, 0, x => by rw [List.set_cons_zero, ms_cons, ms_cons]; omega
  | p :: ps, k + 1, x => by rw [List.set_cons_succ, ms_cons, ms_cons]; have := ms_set ps k x; omega
theorem ms_ins (ps : List (List Nat)) (k : Nat) (x : List Nat) : ms (ps.take k ++ [x] ++ ps.drop k) = ms ps + (x.length + 1) := by
  rw [ms_app, ms_app]
  have h : ms ps = ms (ps.take k) + ms (ps.drop k) := by rw [← ms_app, List.take_append_drop]
  have h2 : ms [x] = x.length + 1 := by rw [ms_cons]; rfl
  omega
theorem spl_ms (s : Nat) : ∀ (l acc : List Nat), ms (spl [s] 0 acc l) = acc.length + l.length + 1
  | [], acc => by rw [TL.spl_nil, ms_cons]; rfl
  | c :: r, acc => by
    cases h : TL.pre [s] (c :: r) with
    | true =>
      rw [TL.spl_hit h, ms_cons, show ([s] : List Nat).length - 1 = 0 from rfl, spl_ms s r []]
      rw [List.length_cons, List.length_nil]
      omega
    | false =>
      rw [TL.spl_miss h, spl_ms s r (acc ++ [c]), List.length_append, List.length_cons, List.length_cons, List.length_nil]
      omega
theorem joinL_ms (s : Nat) : ∀ ps : List (List Nat), (joinL [s] ps).length ≤ ms ps
  | [] => Nat.zero_le _
  | [p] => by rw [ms_cons]; show p.length ≤ _; omega
  | p :: q :: r => by
    have := joinL_ms s (q :: r)
    rw [ms_cons]
    show (p ++ ([s] ++ joinL [s] (q :: r))).length ≤ _
    rw [List.length_append, List.length_append, List.length_cons, List.length_nil]
    omega
def AllA (ps : List (List Nat)) : Prop := ∀ p ∈ ps, ∀ c ∈ p, c < 128
theorem join_wb {s : Nat} {ps : List (List Nat)} {k : Nat} (hs : s < 128) (h : AllA ps) (hm : ms ps ≤ k) : Wb k (joinL [s] ps) := ⟨fun c hc => by
  rcases join_mem hc with z | ⟨p, hp, z⟩
  · rw [List.mem_singleton.mp z]; exact hs
  · exact h p hp c z, Nat.le_trans (joinL_ms s ps) hm⟩
theorem spl_asc {s : Nat} {l : List Nat} (h : ∀ c ∈ l, c < 128) : AllA (spl [s] 0 [] l) := fun p hp c hc => h c (((spl_mem l 0 [] p hp).1 c hc).resolve_left fun z => nomatch z)
theorem sum_ms : ∀ ps : List (List Nat), ((ps.map strOf).map (·.length)).sum + (ps.map strOf).length = ms ps
  | [] => rfl
  | p :: ps => by
    have := sum_ms ps
    rw [ms_cons, List.map_cons, List.map_cons, List.sum_cons, List.length_cons, show (strOf p).length = p.length from TL.len_tl _]
    omega
theorem q_joinW {n s : Nat} {ps : List (List Nat)} {Q : W → Sto → Prop} (hs : S[n]? = some (.lst (ps.map wd))) (hl : ms ps ≤ 2000000) (h : Q (.d (.str (strOf (joinL [s] ps)))) S) : Gives (oJoin (.d (.str (strOf [s]))) (.ref n) S) Q := by
  have e : ps.map wd = (ps.map strOf).map PyData.str := by rw [List.map_map]; rfl
  rw [e] at hs
  refine q_joinC hs ?_ ?_
  · have := sum_ms ps
    rw [show (strOf [s]).length = 1 from rfl, Nat.mul_one]
    exact Nat.le_trans (by omega) (show (2000000 : Nat) ≤ slim by decide)
  · have e2 : Str.join (strOf [s]) (ps.map strOf) = strOf (joinL [s] ps) := TL.ext_tl (by
      rw [TL.tl_join, List.map_map, tl_strOf, tl_strOf]
      congr 1
      exact List.map_id' ps)
    rw [e2]
    exact h
theorem q_lenC {n : Nat} {ds : List PyData} {Q : W → Sto → Prop} (hs : S[n]? = some (.lst ds)) (q : Q (.d (.int (ds.length : Nat))) S) : Gives (oLen [.ref n] S) Q := by
  refine ⟨_, S, ?_, q⟩
  show ((lsOf (.ref n) S).bind fun ds => some (W.d (.int (ds.length : Nat)), S)) = _
  rw [ls_ref hs]
  rfl
end Xw

set_option maxHeartbeats 2000000
namespace Sk
open PySem PySem.Spec PyProof.Rows L2
open Evl (Ex ex_l ex_t)
/-- builtins that no name of the text hides (without gcd) -/
structure Bu0 (mg : Str → Option Value) : Prop where
  z_len : mg "len" = none
  z_isinstance : mg "isinstance" = none
  z_max : mg "max" = none
  z_min : mg "min" = none
  z_int : mg "int" = none
  z_bool : mg "bool" = none
  z_str : mg "str" = none
  z_tuple : mg "tuple" = none
  z_list : mg "list" = none
  z_range : mg "range" = none
/-- a def of the text that may raise -/
structure CalX (P : Program) (w : World) (K : PySem.W.Frag) (mg : Str → Option Value) (base : Heap) (k : Nat) (x : Str) (ps : List Str) (sp : Sp) : Prop where
  ex : ∃ (f : Addr) (fd : FuncData), FnOk P w K mg base (L2.CX P w) k f fd ps sp ∧ mg x = some (.ref f) ∧ PySem.W.keepIn K (.ref f) = true ∧ Binds K fd ps []
def tCallX (W : WX) (sp : Sp) (t : TA) : TE := fun σ H Q => t σ H fun vs H1 => sp vs H1 Q fun cls d H' => W cls d σ H'
section
variable {X : Cx} {k j : Nat} {x : Str} {ps : List Str} {sp : Sp} {p pos : Pos} {e : Expr} {es : List Expr} {t : TA} {W : WX}
end
/-- the 22 classes (by number), KitError (b), its __init__ (fI) -/
structure Kit (K : PySem.W.Frag) (fI b : Addr) (cs : Nat → Addr) : Prop where
  x : ∀ i, i < 22 → ExK K fI (cs i)
  xb : ExK K fI b
  kit : ∀ i j, i < 22 → j < 22 → PySem.W.kitOne K (.ref (cs i)) (.ref (cs j)) = some (decide (i = j))
  kitb : ∀ j, j < 22 → PySem.W.kitOne K (.ref b) (.ref (cs j)) = some false
  kv : ∀ i, i < 22 → PySem.W.kitOne K (.ref (cs i)) (.type "ValueError") = some true
  kvb : PySem.W.kitOne K (.ref b) (.type "ValueError") = some true
  em : ∀ i, i < 22 → PySem.W.exmOne K (.ref (cs i)) (.ref b) = some true
  emb : PySem.W.exmOne K (.ref b) (.ref b) = some true
/-- a raised one of the classes: from lo to hi -/
def spR (cs : Nat → Addr) (lo hi : Nat) : Sp := fun vs H Q E => ∃ (n : Nat) (g : V), vs = [.int n, g] ∧ lo ≤ n ∧ n < hi ∧ MkE H (cs n) g E
def spR3 (cs : Nat → Addr) : Sp := fun vs H Q E => ∃ (n : Nat) (g : V) (b : Bool), vs = [.int n, g, .bl b] ∧ n < 22 ∧ MkE H (cs n) g E
theorem lenI {K : PySem.W.Frag} {vs : List V} {H : Hp} {Q : VK} {E : XK} (h : spIni K vs H Q E) : vs.length = 2 := by
  obtain ⟨a, C, g, rfl, _⟩ := h
  rfl
/-! ### with K told -/
section
variable {X : Cx} {pos : Pos} {e : Expr} {te : TE} {fI : Addr}
end
section
variable {K : PySem.W.Frag} {fI : Addr} {σ : St} {H : Hp} {Q : VK} {te : TE} {a C : Addr} {g : V} {cv : Value} {b : Bool}
def XvG (K : PySem.W.Frag) (fI : Addr) (x : V) (Q : VK) (H1 : Hp) : Prop := ∃ a C g, x = .ref a ∧ ExAt H1 a C g ∧ ExK K fI C ∧ Q g H1
/-- self.value = e, the first one -/
def OstG (K : PySem.W.Frag) (x y : V) (D : Ends) (σ : St) (H2 : Hp) : Prop := ∃ a C : Addr, x = .ref a ∧ OexC K C ∧ PySem.W.findIn K (.ref C) "value" = some none ∧
  ((H2 a = some (exo a C none) ∧ ∀ dx, H2 dx = none → dx ≠ a → D.nx σ (upd (upd H2 dx (exd dx [("value", y)])) a (exo a C (some dx)))) ∨
    ∃ (dx : Addr) (fs : List (Str × V)), H2 a = some (exo a C (some dx)) ∧ H2 dx = some (exd dx fs) ∧ fs.length ≤ 900 ∧ D.nx σ (upd H2 dx (exd dx (("value", y) :: fs))))
end
/-- whether an exception is of the classes, told as a list -/
def kinds (r : Nat → Bool) : PyData := .list ((List.range 22).map fun k => .bool (r k))
def spKi (K : PySem.W.Frag) (fI : Addr) (cs : Nat → Addr) : Sp := fun vs H Q _ => ∃ (a C : Addr) (g : V) (r : Nat → Bool), vs = [.ref a] ∧ ExAt H a C g ∧ ExK K fI C ∧ (∀ j, j < 22 → PySem.W.kitOne K (.ref C) (.ref (cs j)) = some (r j)) ∧ ∀ v H', Ex H H' → Dp K H' v (kinds r) → Q v H'
end Sk

set_option maxHeartbeats 2000000
namespace Sk
open PySem PySem.Spec PyProof.Rows L2
open Evl (Ex ex_l ex_t)
section
variable {K : PySem.W.Frag} {σ : St} {H : Hp} {Q : VK} {v : V}
/-- behind the try: the exception is held -/
theorem held {H1 : Hp} {a C d : Addr} {g : V} (e1 : Ex H H1) (hd : H1 d = some (.xd [("value", g)])) (na : H1 a = none) (R : Hp → Prop) (q : ∀ H2, Ex H H2 → ExAt H2 a C g → R H2) : R (upd H1 a (ExHv (.ref C) (some d) a)) :=
  q _ (e1.trans (Evl.Ex.new na)) ⟨d, upd_same, (Evl.Ex.new na) _ _ hd⟩
end
end Sk

set_option maxHeartbeats 2000000
namespace Sk
open PySem PySem.Spec PyProof.Rows L2 PySem.W
/-! ### what the written part says of the classes, told by one look -/
def clsB (K : Frag) (C : Addr) : Bool := match K.lookup C with
  | some ⟨.type "type", _, .cls cd, sl⟩ => (match cd.mro, sl.toList with
    | .ref C' :: bm, [_, _, _, _, some (.builtin n), _] => C' == C && n == "ValueError.__new__" && !cd.hasDel && cd.hasDict && PySem.HandSPX.refsVE bm
    | _, _ => false)
  | _ => false
theorem cls_of {K : Frag} {C : Addr} (q : clsB K C = true) : ∃ nm q N bs bm sn sub ab col dd k0 k1 k2 k3 k5, K.lookup C = some (excClassObj nm q C N bs bm true sn sub ab col dd k0 k1 k2 k3 k5 "ValueError.__new__") ∧ PySem.HandSPX.refsVE bm = true := by
  unfold clsB at q
  split at q
  · rename_i dd cd sl ho
    split at q
    · rename_i C' bm k0 k1 k2 k3 n k5 hm hs
      simp only [Bool.and_eq_true, beq_iff_eq, Bool.not_eq_true'] at q
      obtain ⟨⟨⟨⟨rfl, rfl⟩, hdel⟩, hdd⟩, ht⟩ := q
      obtain ⟨nm, bs, mro, ns, qn, hd, sn, sub, ab, col, del⟩ := cd
      dsimp only at hm hdel hdd
      subst hm hdel hdd
      have hsl : sl = #[k0, k1, k2, k3, some (.builtin "ValueError.__new__"), k5] := by
        obtain ⟨l⟩ := sl
        simp only at hs
        rw [hs]
      subst hsl
      exact ⟨nm, qn, ns, bs, bm, sn, sub, ab, col, dd, k0, k1, k2, k3, k5, ho, ht⟩
    · cases q
  · cases q
def exB (K : Frag) (fI C : Addr) : Bool := clsB K C && (decide (findIn K (.ref C) "__setattr__" = some (some (.builtin "object.__setattr__"))) && (decide (subIn K (.ref C) (.type "BaseException") = some true) && (decide (typeIn K (.ref C) = some (.type "type")) && (keepIn K (.ref C) &&
  (decide (findIn K (.ref C) "__init__" = some (some (.ref fI))) && (decide (findIn K (.ref C) "value" = some none) && (decide (findIn K (.ref C) "__getattribute__" = some (some (.builtin "BaseException.__getattribute__"))) && (decide (findIn K (.ref C) "__getattr__" = some none) && (hasDictIn K C &&
  (decide (findIn K (.ref C) "__class__" = some (some (.builtin "object.__class__"))) && (decide (specialIn K (.builtin "object.__class__") "__get__" = some (some (.builtin "getset_descriptor.__get__"))) && (decide (takesIn K (.builtin "object.__class__") = some true) && decide (mroIn K C (.type "object") = some true)))))))))))))
theorem ex_of {K : Frag} {fI C : Addr} (h : exB K fI C = true) : ExK K fI C := by
  unfold exB at h
  simp only [Bool.and_eq_true, decide_eq_true_eq] at h
  obtain ⟨h1, h2, h3, h4, h5, h6, h7, h8, h9, h10, h11, h12, h13, h14⟩ := h
  exact ⟨⟨cls_of h1, h2, h3, h4, h5⟩, h6, h7, ⟨h8, h9, h3, h10⟩, ⟨h8, h9, h3, h10, h11, h12, h13, h14⟩⟩
def kitB (K : Frag) (fI b : Addr) (cs : Nat → Addr) : Bool :=
  (List.range 22).all (fun i => exB K fI (cs i)) && (exB K fI b && ((List.range 22).all (fun i => (List.range 22).all fun j => decide (kitOne K (.ref (cs i)) (.ref (cs j)) = some (decide (i = j)))) &&
  ((List.range 22).all (fun j => decide (kitOne K (.ref b) (.ref (cs j)) = some false)) && ((List.range 22).all (fun i => decide (kitOne K (.ref (cs i)) (.type "ValueError") = some true)) && (decide (kitOne K (.ref b) (.type "ValueError") = some true) &&
  ((List.range 22).all (fun i => decide (exmOne K (.ref (cs i)) (.ref b) = some true)) && decide (exmOne K (.ref b) (.ref b) = some true)))))))
end Sk

set_option maxHeartbeats 2000000
/-! the errors of a text, told by one look -/
namespace Mr
open PySem PySem.Spec PyProof.Rows L2
def yoOf (l : List (Str × Addr)) (y : Str) : Addr := (l.lookup y).getD 0
def erB (K : PySem.W.Frag) (fI : Addr) (es : List Str) (Yo : Str → Addr) : Bool :=
  es.all (fun y => Sk.exB K fI (Yo y) && decide (PySem.W.nsIn K mainGlobals y = some (some (.ref (Yo y))))) &&
  errs.all fun c => match PySem.W.nsIn K mainGlobals c with
    | some (some (.ref C)) => es.all fun y => decide (PySem.W.exmOne K (.ref C) (.ref (Yo y)) = some (exSub c y))
    | _ => true
theorem er_of {P : Program} {w : World} {K : PySem.W.Frag} {mg : Str → Option Value} {base : Heap} {fI : Addr} {es : List Str} {Yo : Str → Addr} (h : erB K fI es Yo = true) (N : Sk.Ini P w K mg base 1 fI)
    (hm : ∀ y v, PySem.W.nsIn K mainGlobals y = some (some v) → mg y = some v) : Er P w K mg base fI es Yo := by
  unfold erB at h
  rw [Bool.and_eq_true, List.all_eq_true, List.all_eq_true] at h
  obtain ⟨h1, h2⟩ := h
  have a : ∀ y ∈ es, Sk.exB K fI (Yo y) = true ∧ PySem.W.nsIn K mainGlobals y = some (some (.ref (Yo y))) := fun y hy => by
    have := h1 y hy
    rw [Bool.and_eq_true, decide_eq_true_eq] at this
    exact this
  refine ⟨N, fun y hy => Sk.ex_of (a y hy).1, fun y hy => hm y _ (a y hy).2, fun y hy => (a y hy).2, fun c hc C hn y hy => ?_⟩
  have := h2 c hc
  rw [hn] at this
  dsimp only at this
  rw [List.all_eq_true] at this
  exact of_decide_eq_true (this y hy)
section
variable {P : Program} {w : World} {K : PySem.W.Frag} {mg : Str → Option Value} {base : Heap} {x : Str} {st : Stmt} {f : Addr} {fd : FuncData} {k : Nat} {ps ks : List Str} {sp : Sp}
theorem calX_mk (F : Fun K x x st f fd) (G : FnOk P w K mg base (L2N.CX P w) k f fd ps sp) (m : mg x = some (.ref f)) (b : Binds K fd ps []) : CalXN P w K mg base k x ps sp := ⟨f, fd, G, m, F.kp, b⟩
theorem calkPX {is : List Nat} (F : Fun K x x st f fd) (G : FnOk P w K mg base (L2N.CX P w) k f fd ps sp) (m : mg x = some (.ref f))
    (h : ∀ (kV doc pm : Value) (an : Option Addr) (cdv ct : Value) (ws : List Value), ws.length = ks.length → bindArgs (PySem.W.fnOf x x (defArgs st) (defBody st) (defScope st) .none kV doc pm an cdv ct) ⟨[], ks.zip ws⟩ = pure (ps.zip (permL is ws))) : CalKX P w K mg base k x ps ks (permL is) sp := by
  obtain ⟨oc, od, kV, doc, pm, an, cdv, ct, osl, e, lk, hcd⟩ := F.ex
  refine ⟨f, fd, permL is, G, m, F.kp, fun s ws hl => ?_, fun zs ws _ r => vals_perm r is⟩
  subst e
  exact .of_eq (h kV doc pm an cdv ct ws hl)
end
end Mr

set_option maxHeartbeats 1000000
namespace K53
open PySem PySem.Spec PyProof.Rows L2 Mr
open Pg
structure Bu (mg : Str → Option Value) : Prop where
  z_isinstance : mg "isinstance" = none
  z_int : mg "int" = none
  z_bool : mg "bool" = none
  z_tuple : mg "tuple" = none
  z_len : mg "len" = none
  z_gcd : mg "gcd" = some (.builtin "math.gcd")
  z_str : mg "str" = none
  z_all : mg "all" = none
  z_max : mg "max" = none
  z_abs : mg "abs" = none
  z_list : mg "list" = none
  z_range : mg "range" = none
  z_min : mg "min" = none
def top (i : Nat) : Stmt := PySem.Challenge.pw_selfkits_k53_whole_lines_bent.main.body.getD i (.Pass ⟨0, 0, 0, 0⟩)
abbrev s_is_integer : Stmt := top 5
theorem sc_is_integer : FnScope ["told"] ["told"] (defScope s_is_integer) := ⟨rfl, rfl, rfl, by decide +kernel, rfl, by decide +kernel, by decide +kernel⟩
abbrev s_is_pair : Stmt := top 6
theorem sc_is_pair : FnScope ["told"] ["told"] (defScope s_is_pair) := ⟨rfl, rfl, rfl, by decide +kernel, rfl, by decide +kernel, by decide +kernel⟩
abbrev s_is_offset : Stmt := top 7
theorem sc_is_offset : FnScope ["told"] ["told"] (defScope s_is_offset) := ⟨rfl, rfl, rfl, by decide +kernel, rfl, by decide +kernel, by decide +kernel⟩
abbrev s_is_number : Stmt := top 8
theorem sc_is_number : FnScope ["told"] ["told"] (defScope s_is_number) := ⟨rfl, rfl, rfl, by decide +kernel, rfl, by decide +kernel, by decide +kernel⟩
abbrev s_read_number : Stmt := top 11
theorem sc_read_number : FnScope ["text"] ["text"] (defScope s_read_number) := ⟨rfl, rfl, rfl, by decide +kernel, rfl, by decide +kernel, by decide +kernel⟩
abbrev s_read_point : Stmt := top 12
theorem sc_read_point : FnScope ["text"] ["text"] (defScope s_read_point) := ⟨rfl, rfl, rfl, by decide +kernel, rfl, by decide +kernel, by decide +kernel⟩
abbrev s_read_address : Stmt := top 13
theorem sc_read_address : FnScope ["text"] ["text"] (defScope s_read_address) := ⟨rfl, rfl, rfl, by decide +kernel, rfl, by decide +kernel, by decide +kernel⟩
abbrev s_integer_from : Stmt := top 14
theorem sc_integer_from : FnScope ["word", "digits", "number"] ["word"] (defScope s_integer_from) := ⟨rfl, rfl, rfl, by decide +kernel, rfl, by decide +kernel, by decide +kernel⟩
abbrev s_number_from : Stmt := top 15
theorem sc_number_from : FnScope ["word", "told", "top", "line", "bottom"] ["word"] (defScope s_number_from) := ⟨rfl, rfl, rfl, by decide +kernel, rfl, by decide +kernel, by decide +kernel⟩
abbrev s_one_line : Stmt := top 16
theorem sc_one_line : FnScope ["text", "read", "told", "line", "more", "_"] ["text", "read"] (defScope s_one_line) := ⟨rfl, rfl, rfl, by decide +kernel, rfl, by decide +kernel, by decide +kernel⟩
abbrev s_point_from : Stmt := top 17
theorem sc_point_from : FnScope ["line", "told", "word"] ["line"] (defScope s_point_from) := ⟨rfl, rfl, rfl, by decide +kernel, rfl, by decide +kernel, by decide +kernel⟩
abbrev s_address_from : Stmt := top 18
theorem sc_address_from : FnScope ["line", "words", "at", "ahead", "ring"] ["line"] (defScope s_address_from) := ⟨rfl, rfl, rfl, by decide +kernel, rfl, by decide +kernel, by decide +kernel⟩
abbrev s_places_from : Stmt := top 19
theorem sc_places_from : FnScope ["words", "told", "word", "place"] ["words"] (defScope s_places_from) := ⟨rfl, rfl, rfl, by decide +kernel, rfl, by decide +kernel, by decide +kernel⟩
abbrev s_law_well : Stmt := top 21
theorem sc_law_well : FnScope ["script", "place", "cell"] ["script", "place"] (defScope s_law_well) := ⟨rfl, rfl, rfl, by decide +kernel, rfl, by decide +kernel, by decide +kernel⟩
abbrev s_law_draw : Stmt := top 22
theorem sc_law_draw : FnScope ["well", "many", "mixed", "found"] ["well", "many"] (defScope s_law_draw) := ⟨rfl, rfl, rfl, by decide +kernel, rfl, by decide +kernel, by decide +kernel⟩
abbrev s_law_same : Stmt := top 23
theorem sc_law_same : FnScope ["told", "due", "k"] ["told", "due"] (defScope s_law_same) := ⟨rfl, rfl, rfl, by decide +kernel, rfl, by decide +kernel, by decide +kernel⟩
abbrev s_law_lowest : Stmt := top 24
theorem sc_law_lowest : FnScope ["top", "bottom", "one", "two"] ["top", "bottom"] (defScope s_law_lowest) := ⟨rfl, rfl, rfl, by decide +kernel, rfl, by decide +kernel, by decide +kernel⟩
abbrev s_law_power : Stmt := top 25
theorem sc_law_power : FnScope ["many", "power", "turn"] ["many"] (defScope s_law_power) := ⟨rfl, rfl, rfl, by decide +kernel, rfl, by decide +kernel, by decide +kernel⟩
abbrev s_law_number : Stmt := top 26
theorem sc_law_number : FnScope ["well", "most", "bottom", "kind", "side", "great"] ["well", "most"] (defScope s_law_number) := ⟨rfl, rfl, rfl, by decide +kernel, rfl, by decide +kernel, by decide +kernel⟩
abbrev s_law_address : Stmt := top 27
theorem sc_law_address : FnScope ["well", "sizes", "wide", "size", "turn"] ["well"] (defScope s_law_address) := ⟨rfl, rfl, rfl, by decide +kernel, rfl, by decide +kernel, by decide +kernel⟩
abbrev s_law_said_number : Stmt := top 28
theorem sc_law_said_number : FnScope ["number"] ["number"] (defScope s_law_said_number) := ⟨rfl, rfl, rfl, by decide +kernel, rfl, by decide +kernel, by decide +kernel⟩
abbrev s_law_said_address : Stmt := top 29
theorem sc_law_said_address : FnScope ["address", "words", "place"] ["address"] (defScope s_law_said_address) := ⟨rfl, rfl, rfl, by decide +kernel, rfl, by decide +kernel, by decide +kernel⟩
abbrev s_law_sign : Stmt := top 30
theorem sc_law_sign : FnScope ["well", "signs"] ["well"] (defScope s_law_sign) := ⟨rfl, rfl, rfl, by decide +kernel, rfl, by decide +kernel, by decide +kernel⟩
abbrev s_law_odd_word : Stmt := top 31
theorem sc_law_odd_word : FnScope ["well", "words"] ["well"] (defScope s_law_odd_word) := ⟨rfl, rfl, rfl, by decide +kernel, rfl, by decide +kernel, by decide +kernel⟩
abbrev s_law_bent_signs : Stmt := top 32
theorem sc_law_bent_signs : FnScope ["well", "text", "at", "way"] ["well", "text"] (defScope s_law_bent_signs) := ⟨rfl, rfl, rfl, by decide +kernel, rfl, by decide +kernel, by decide +kernel⟩
abbrev s_law_bent_parts : Stmt := top 33
theorem sc_law_bent_parts : FnScope ["well", "text", "between", "odd", "parts", "other", "at", "way", "kept"] ["well", "text", "between", "odd"] (defScope s_law_bent_parts) := ⟨rfl, rfl, rfl, by decide +kernel, rfl, by decide +kernel, by decide +kernel⟩
abbrev s_law_integer_in : Stmt := top 34
theorem sc_law_integer_in : FnScope ["word", "body", "sign"] ["word"] (defScope s_law_integer_in) := ⟨rfl, rfl, rfl, by decide +kernel, rfl, by decide +kernel, by decide +kernel⟩
abbrev s_law_number_in : Stmt := top 35
theorem sc_law_number_in : FnScope ["word", "at", "tops", "bottoms", "top"] ["word"] (defScope s_law_number_in) := ⟨rfl, rfl, rfl, by decide +kernel, rfl, by decide +kernel, by decide +kernel⟩
abbrev s_law_numbers_in : Stmt := top 36
theorem sc_law_numbers_in : FnScope ["line", "found", "word", "one"] ["line"] (defScope s_law_numbers_in) := ⟨rfl, rfl, rfl, by decide +kernel, rfl, by decide +kernel, by decide +kernel⟩
abbrev s_law_address_in : Stmt := top 37
theorem sc_law_address_in : FnScope ["line", "word", "words", "places", "opened", "number"] ["line"] (defScope s_law_address_in) := ⟨rfl, rfl, rfl, by decide +kernel, rfl, by decide +kernel, by decide +kernel⟩
abbrev s_law_due : Stmt := top 38
theorem sc_law_due : FnScope ["door", "text", "line", "found"] ["door", "text"] (defScope s_law_due) := ⟨rfl, rfl, rfl, by decide +kernel, rfl, by decide +kernel, by decide +kernel⟩
abbrev s_law_read : Stmt := top 39
theorem sc_law_read : FnScope ["door", "text", "named"] ["door", "text", "named"] (defScope s_law_read) := ⟨rfl, rfl, rfl, by decide +kernel, rfl, by decide +kernel, by decide +kernel⟩
abbrev s_law_told : Stmt := top 40
theorem sc_law_told : FnScope ["door", "text", "named", "error", "word", "found"] ["door", "text", "named"] (defScope s_law_told) := ⟨rfl, rfl, rfl, by decide +kernel, rfl, by decide +kernel, by decide +kernel⟩
abbrev s_law_text : Stmt := top 41
theorem sc_law_text : FnScope ["well", "kind", "most"] ["well", "kind"] (defScope s_law_text) := ⟨rfl, rfl, rfl, by decide +kernel, rfl, by decide +kernel, by decide +kernel⟩
abbrev s_law_bent : Stmt := top 42
theorem sc_law_bent : FnScope ["well", "text", "turn", "way"] ["well", "text"] (defScope s_law_bent) := ⟨rfl, rfl, rfl, by decide +kernel, rfl, by decide +kernel, by decide +kernel⟩
abbrev s_law : Stmt := top 43
theorem sc_law : FnScope ["script", "rows", "place", "well", "kind", "door", "text", "due"] ["script"] (defScope s_law) := ⟨rfl, rfl, rfl, by decide +kernel, rfl, by decide +kernel, by decide +kernel⟩
abbrev s_init : Stmt := inClass (top 2) 0
theorem sc_init : FnScope ["self", "value"] ["self", "value"] (defScope s_init) := ⟨rfl, rfl, rfl, by decide +kernel, rfl, by decide +kernel, by decide +kernel⟩
def m_law_same (N : Nat) : Nat → On
  | 0 => fun _ _ => none
  | n + 1 => fnM 2 3 (sSeq (sIf (cB (mOp oIs (mVar 1) (mC .none))) (sRet (mOp oIs (mVar 0) (mC .none))) sNext)
    (sSeq (sIf (cB (mUn (oIsi .bool) (mVar 1))) (sRet (mIf (cB (mVar 1)) (mOp oIs (mVar 0) (mC (.bool true))) (mOp oIs (mVar 0) (mC (.bool false))))) sNext)
    (sSeq (sIf (cB (mUn (oIsi .int) (mVar 1))) (sRet (mAnd (mUn (oIsi .int) (mVar 0)) (mAnd (mNot (mUn (oIsi .bool) (mVar 0))) (mOp oEq (mVar 0) (mVar 1))))) sNext)
    (sSeq (sIf (cB (mUn (oIsi .str) (mVar 1))) (sRet (mAnd (mUn (oIsi .str) (mVar 0)) (mOp oEq (mVar 0) (mVar 1)))) sNext)
    (sSeq (sIf (cOr (cB (mOp oNe (mUn (oIsi .tuple) (mVar 1)) (mUn (oIsi .tuple) (mVar 0)))) (cB (mOp oNe (mUn (oIsi .list) (mVar 1)) (mUn (oIsi .list) (mVar 0))))) (sRet (mC (.bool false))) sNext)
    (sRet (mAnd (mOp oEq (mCall oLen (mCons (mVar 0) mNil)) (mCall oLen (mCons (mVar 1) mNil))) (mCall oAll (mCons (mLc (miRng1 (mCons (mCall oLen (mCons (mVar 1) mNil)) mNil)) (.nm 2) cYes (mCall (m_law_same N n) (mCons (mOp oIx (mVar 0) (mVar 2)) (mCons (mOp oIx (mVar 1) (mVar 2)) mNil)))) mNil)))))))))
def m_law_address (N : Nat) : On := fnM 1 5 (sSeq (sSet 1 (mLst (mCons (mOp oIx (mLst (mCons (mC (.int 0)) (mCons (mC (.int 1)) (mCons (mC (.int 2)) (mCons (mC (.int 7)) (mCons (mC (.int 40)) mNil)))))) (mCall (m_law_draw N) (mCons (mVar 0) (mCons (mC (.int 5)) mNil)))) (mCons (mOp oIx (mLst (mCons (mC (.int 1)) (mCons (mC (.int 1)) (mCons (mC (.int 2)) (mCons (mC (.int 3)) (mCons (mC (.int 9)) (mCons (mC (.int 300)) mNil))))))) (mCall (m_law_draw N) (mCons (mVar 0) (mCons (mC (.int 6)) mNil)))) mNil))))
    (sSeq (sSet 2 (mOp oIx (mLst (mCons (mC (.int 2)) (mCons (mC (.int 6)) (mCons (mC (.int 36)) (mCons (mC (.int 100000000)) mNil))))) (mCall (m_law_draw N) (mCons (mVar 0) (mCons (mC (.int 4)) mNil)))))
    (sRet (mUn oTuple (mLc (miSeq (mVar 1)) (.nm 3) cYes (mUn oTuple (mLc (miRng1 (mCons (mVar 3) mNil)) (.nm 4) cYes (mCall (m_law_draw N) (mCons (mVar 0) (mCons (mVar 2) mNil))))))))))
def m_law_sign (N : Nat) : On := fnM 1 2 (sSeq (sSet 1 (mC (.str (Str.ofString " !\"#$&'()*+,-./0123456789:;<=>?@ABCDEFGHIJKLMNOPQRSTUVWXYZ[\\]^_`"))))
    (sSeq (sSet 1 (mOp oIx (mLst (mCons (mOp oAddS (mVar 1) (mC (.str (Str.ofString "abcdefghijklmnopqrstuvwxyz{|}~\n")))) (mCons (mC (.str (Str.ofString "0123456789-/ ():,\n"))) mNil))) (mCall (m_law_draw N) (mCons (mVar 0) (mCons (mC (.int 2)) mNil)))))
    (sRet (mOp oIxS (mVar 1) (mCall (m_law_draw N) (mCons (mVar 0) (mCons (mCall oLenS (mCons (mVar 1) mNil)) mNil)))))))
def m_law_odd_word (N : Nat) : On := fnM 1 2 (sSeq (sSet 1 (mLst (mCons (mC (.str (Str.ofString ""))) (mCons (mC (.str (Str.ofString "0"))) (mCons (mC (.str (Str.ofString "-0"))) (mCons (mC (.str (Str.ofString "+1"))) (mCons (mC (.str (Str.ofString "01"))) (mCons (mC (.str (Str.ofString "-01"))) (mCons (mC (.str (Str.ofString "007"))) (mCons (mC (.str (Str.ofString "1/1"))) (mCons (mC (.str (Str.ofString "2/4"))) (mCons (mC (.str (Str.ofString "-2/4"))) (mCons (mC (.str (Str.ofString "0/5"))) (mCons (mC (.str (Str.ofString "1/0"))) (mCons (mC (.str (Str.ofString "1/-2"))) (mCons (mC (.str (Str.ofString "3/02"))) (mCons (mC (.str (Str.ofString "-/2"))) mNil)))))))))))))))))
    (sSeq (sSet 1 (mOp oAdd (mVar 1) (mLst (mCons (mC (.str (Str.ofString "1/"))) (mCons (mC (.str (Str.ofString "/2"))) (mCons (mC (.str (Str.ofString "--1"))) (mCons (mC (.str (Str.ofString "1-"))) (mCons (mC (.str (Str.ofString "1.5"))) (mCons (mC (.str (Str.ofString "1e3"))) (mCons (mC (.str (Str.ofString "1_0"))) (mCons (mC (.str (Str.ofString "1/2/3"))) (mCons (mC (.str (Str.ofString "-1/2"))) (mCons (mC (.str (Str.ofString "-1"))) (mCons (mC (.str (Str.ofString "1"))) (mCons (mC (.str (Str.ofString "2"))) (mCons (mC (.str (Str.ofString "3"))) (mCons (mC (.str (Str.ofString "00"))) mNil)))))))))))))))))
    (sSeq (sSet 1 (mOp oAdd (mVar 1) (mLst (mCons (mOp oRepS (mC (.str (Str.ofString "9"))) (mC (.int 9))) (mCons (mOp oAddS (mC (.str (Str.ofString "-"))) (mOp oRepS (mC (.str (Str.ofString "9"))) (mC (.int 9)))) (mCons (mOp oAddS (mC (.str (Str.ofString "1"))) (mOp oRepS (mC (.str (Str.ofString "0"))) (mC (.int 9)))) (mCons (mOp oAddS (mC (.str (Str.ofString "1/"))) (mOp oRepS (mC (.str (Str.ofString "9"))) (mC (.int 9)))) (mCons (mOp oAddS (mC (.str (Str.ofString "1/1"))) (mOp oRepS (mC (.str (Str.ofString "0"))) (mC (.int 9)))) (mCons (mOp oRepS (mC (.str (Str.ofString "0"))) (mC (.int 10))) mNil)))))))))
    (sSeq (sSet 1 (mOp oAdd (mVar 1) (mLst (mCons (mOp oRepS (mC (.str (Str.ofString "7"))) (mC (.int 4400))) (mCons (mC (.str (Str.ofString "1/2"))) (mCons (mC (.str (Str.ofString "-5"))) (mCons (mC (.str (Str.ofString "7"))) (mCons (mC (.str (Str.ofString "("))) (mCons (mC (.str (Str.ofString ")"))) (mCons (mC (.str (Str.ofString "( "))) (mCons (mC (.str (Str.ofString "()"))) (mCons (mC (.str (Str.ofString "(0"))) (mCons (mC (.str (Str.ofString "0)"))) (mCons (mC (.str (Str.ofString "(("))) (mCons (mC (.str (Str.ofString "))"))) (mCons (mC (.str (Str.ofString "( 0 )"))) mNil))))))))))))))))
    (sSeq (sSet 1 (mOp oAdd (mVar 1) (mLst (mCons (mC (.str (Str.ofString ","))) (mCons (mC (.str (Str.ofString "1,"))) (mCons (mC (.str (Str.ofString ",1"))) (mCons (mC (.str (Str.ofString "0:"))) (mCons (mC (.str (Str.ofString "table"))) (mCons (mC (.str (Str.ofString "Table"))) (mCons (mC (.str (Str.ofString "tables"))) (mCons (mC (.str (Str.ofString "0 0"))) (mCons (mC (.str (Str.ofString " "))) (mCons (mC (.str (Str.ofString "0,"))) (mCons (mC (.str (Str.ofString ";"))) (mCons (mC (.str (Str.ofString "- 1"))) (mCons (mC (.str (Str.ofString "2,"))) mNil))))))))))))))))
    (sSeq (sSet 1 (mOp oAdd (mVar 1) (mLst (mCons (mC (.str (Str.ofString "11"))) (mCons (mC (.str (Str.ofString "10"))) (mCons (mC (.str (Str.ofString ":"))) (mCons (mC (.str (Str.ofString "a"))) mNil)))))))
    (sRet (mOp oIx (mVar 1) (mCall (m_law_draw N) (mCons (mVar 0) (mCons (mCall oLen (mCons (mVar 1) mNil)) mNil)))))))))))
def m_law_bent_signs (N : Nat) : On := fnM 2 4 (sSeq (sPar 2 3 (mCons (mCall (m_law_draw N) (mCons (mVar 0) (mCons (mOp oAdd (mCall oLenS (mCons (mVar 1) mNil)) (mC (.int 1))) mNil))) (mCons (mCall (m_law_draw N) (mCons (mVar 0) (mCons (mC (.int 4)) mNil))) mNil)))
    (sSeq (sIf (cB (mOp oEq (mVar 3) (mC (.int 0)))) (sRet (mOp oAddS (mOp oAddS (mSlS (mVar 1) none (some (mVar 2))) (mCall (m_law_sign N) (mCons (mVar 0) mNil))) (mSlS (mVar 1) (some (mVar 2)) none))) sNext)
    (sSeq (sIf (cB (mOp oEq (mVar 3) (mC (.int 1)))) (sRet (mOp oAddS (mOp oAddS (mSlS (mVar 1) none (some (mVar 2))) (mCall (m_law_sign N) (mCons (mVar 0) mNil))) (mSlS (mVar 1) (some (mOp oAdd (mVar 2) (mC (.int 1)))) none))) sNext)
    (sSeq (sIf (cB (mOp oEq (mVar 3) (mC (.int 2)))) (sRet (mOp oAddS (mSlS (mVar 1) none (some (mVar 2))) (mSlS (mVar 1) (some (mOp oAdd (mVar 2) (mC (.int 1)))) none))) sNext)
    (sRet (mOp oAddS (mOp oAddS (mOp oAddS (mSlS (mVar 1) none (some (mVar 2))) (mSlS (mVar 1) (some (mOp oAdd (mVar 2) (mC (.int 1)))) (some (mOp oAdd (mVar 2) (mC (.int 2)))))) (mSlS (mVar 1) (some (mVar 2)) (some (mOp oAdd (mVar 2) (mC (.int 1)))))) (mSlS (mVar 1) (some (mOp oAdd (mVar 2) (mC (.int 2)))) none)))))))
def m_law_bent_parts (N : Nat) : On := fnM 4 9 (sSeq (sSet 4 (mOp oSplitC (mVar 1) (mVar 2)))
    (sSeq (sPar 6 7 (mCons (mCall (m_law_draw N) (mCons (mVar 0) (mCons (mCall oLen (mCons (mVar 4) mNil)) mNil))) (mCons (mCall (m_law_draw N) (mCons (mVar 0) (mCons (mC (.int 4)) mNil))) mNil)))
    (sSeq (sSet 5 (mCall (m_law_draw N) (mCons (mVar 0) (mCons (mCall oLen (mCons (mVar 4) mNil)) mNil))))
    (sSeq (sIf (cB (mOp oEq (mVar 7) (mC (.int 0)))) (sDrop (mMethL omInsert (mVar 4) (mCons (mVar 5) (mCons (mOp oIx (mVar 4) (mVar 6)) mNil)))) (sIf (cB (mOp oEq (mVar 7) (mC (.int 1)))) (sDrop (mMethL omPopAt (mVar 4) (mCons (mVar 6) mNil))) (sIf (cB (mOp oEq (mVar 7) (mC (.int 2)))) (sSeq (sSet 8 (mOp oIx (mVar 4) (mVar 6)))
    (sSeq (sPut putU (mVar 4) (mVar 6) (mOp oIx (mVar 4) (mVar 5)))
    (sPut putU (mVar 4) (mVar 5) (mVar 8)))) (sPut putU (mVar 4) (mVar 6) (mVar 3)))))
    (sRet (mOp oJoin (mVar 2) (mVar 4)))))))
def m_law_integer_in (N : Nat) : On := fnM 1 3 (sSeq (sSet 1 (mIf (cB (mOp oEq (mSlS (mVar 0) none (some (mC (.int 1)))) (mC (.str (Str.ofString "-"))))) (mSlS (mVar 0) (some (mC (.int 1))) none) (mVar 0)))
    (sSeq (sIf (cOr (cB (mOp oEq (mVar 1) (mC (.str (Str.ofString ""))))) (cOr (cB (mOp oGt (mCall oLenS (mCons (mVar 1) mNil)) (mC (.int 9)))) (cB (mOp oNe (mLc (miChars (mVar 1)) (.nm 2) (cB (mOp oNotInC (mVar 2) (mC (.str (Str.ofString "0123456789"))))) (mVar 2)) (mLst mNil))))) (sRet (mLst mNil)) sNext)
    (sRet (mIf (cAnd (cB (mOp oEq (mOp oIxS (mVar 1) (mC (.int 0))) (mC (.str (Str.ofString "0"))))) (cB (mOp oNe (mVar 0) (mC (.str (Str.ofString "0")))))) (mLst mNil) (mLst (mCons (mCall oIntS (mCons (mVar 0) mNil)) mNil))))))
def m_law_number_in (N : Nat) : On := fnM 1 5 (sSeq (sSet 1 (mOp oFind (mVar 0) (mC (.str (Str.ofString "/")))))
    (sSeq (sSet 2 (mCall (m_law_integer_in N) (mCons (mIf (cB (mOp oLt (mVar 1) (mC (.int 0)))) (mVar 0) (mSlS (mVar 0) none (some (mVar 1)))) mNil)))
    (sSeq (sIf (cOr (cB (mOp oEq (mVar 2) (mLst mNil))) (cB (mOp oLt (mVar 1) (mC (.int 0))))) (sRet (mLc (miSeq (mVar 2)) (.nm 4) cYes (mTup (mCons (mVar 4) (mCons (mC (.int 1)) mNil))))) sNext)
    (sSeq (sSet 3 (mCall (m_law_integer_in N) (mCons (mSlS (mVar 0) (some (mOp oAdd (mVar 1) (mC (.int 1)))) none) mNil)))
    (sSeq (sIf (cOr (cB (mOp oEq (mVar 3) (mLst mNil))) (cOr (cB (mOp oLt (mOp oIx (mVar 3) (mC (.int 0))) (mC (.int 2)))) (cB (mOp oNe (mOp oIx (mCall (m_law_lowest N) (mCons (mOp oIx (mVar 2) (mC (.int 0))) (mCons (mOp oIx (mVar 3) (mC (.int 0))) mNil))) (mC (.int 1))) (mOp oIx (mVar 3) (mC (.int 0))))))) (sRet (mLst mNil)) sNext)
    (sRet (mLst (mCons (mTup (mCons (mOp oIx (mVar 2) (mC (.int 0))) (mCons (mOp oIx (mVar 3) (mC (.int 0))) mNil))) mNil))))))))
def m_law_numbers_in (N : Nat) : On := fnM 1 4 (sSeq (sSet 1 (mLc (miSeq (mOp oSplit (mVar 0) (mC (.str (Str.ofString " "))))) (.nm 2) cYes (mCall (m_law_number_in N) (mCons (mVar 2) mNil))))
    (sRet (mIf (cB (mOp oIn (mLst mNil) (mVar 1))) (mLst mNil) (mLst (mCons (mUn oTuple (mLc (miSeq (mVar 1)) (.nm 3) cYes (mOp oIx (mVar 3) (mC (.int 0))))) mNil)))))
def m_law_address_in (N : Nat) : On := fnM 1 6 (sSeq (sPar3 2 3 4 (mCons (mOp oSplit (mVar 0) (mC (.str (Str.ofString " ")))) (mCons (mLstC (mCons (mLst mNil) (mCons (mLst mNil) mNil))) (mCons (mC (.int 0)) mNil))))
    (sSeq (sIf (cB (mOp oNe (mOp oIx (mVar 2) (mUn oNeg (mC (.int 1)))) (mC (.str (Str.ofString ")"))))) (sRet (mLst mNil)) sNext)
    (sSeq (sFor (miSeq (mSl (mVar 2) none (some (mUn oNeg (mC (.int 1)))))) (.nm 1) (sSeq (sSet 5 (mCall (m_law_integer_in N) (mCons (mVar 1) mNil)))
    (sIf (cAnd (cB (mOp oEq (mVar 1) (mC (.str (Str.ofString "("))))) (cB (mOp oEq (mVar 4) (mC (.int 0))))) (sSet 4 (mC (.int 1))) (sIf (cOr (cB (mOp oEq (mVar 5) (mLst mNil))) (cB (mOp oLt (mOp oIx (mVar 5) (mC (.int 0))) (mC (.int 0))))) (sRet (mLst mNil)) (sPut putU (mVar 3) (mVar 4) (mOp oAdd (mOp oIx (mVar 3) (mVar 4)) (mVar 5)))))))
    (sRet (mIf (cAnd (cB (mOp oEq (mVar 4) (mC (.int 1)))) (cB (mOp oNe (mOp oIx (mVar 3) (mC (.int 1))) (mLst mNil)))) (mLst (mCons (mTup (mCons (mUn oTuple (mOp oIx (mVar 3) (mC (.int 0)))) (mCons (mUn oTuple (mOp oIx (mVar 3) (mC (.int 1)))) mNil))) mNil)) (mLst mNil))))))
def m_law_due (N : Nat) : On := fnM 2 4 (sSeq (sSet 2 (mOp oIx (mOp oSplit (mVar 1) (mC (.str (Str.ofString "\n")))) (mC (.int 0))))
    (sSeq (sSet 3 (mCall (m_law_address_in N) (mCons (mVar 2) mNil)))
    (sSeq (sIf (cB (mOp oLt (mVar 0) (mC (.int 2)))) (sSet 3 (mIf (cB (mOp oEq (mVar 0) (mC (.int 0)))) (mCall (m_law_number_in N) (mCons (mVar 2) mNil)) (mCall (m_law_numbers_in N) (mCons (mVar 2) mNil)))) sNext)
    (sSeq (sIf (cOr (cB (mOp oEq (mVar 3) (mLst mNil))) (cAnd (cB (mOp oEq (mVar 0) (mC (.int 1)))) (cB (mOp oNe (mCall oLen (mCons (mOp oIx (mVar 3) (mC (.int 0))) mNil)) (mC (.int 2)))))) (sRet (mTup (mCons (mC (.str (Str.ofString "refused"))) (mCons (mC (.int 1)) mNil)))) sNext)
    (sRet (mIf (cB (mOp oInC (mC (.str (Str.ofString "\n"))) (mVar 1))) (mTup (mCons (mC (.str (Str.ofString "refused"))) (mCons (mC (.int 2)) mNil))) (mTup (mCons (mC (.str (Str.ofString "told"))) (mCons (mOp oIx (mVar 3) (mC (.int 0))) mNil)))))))))
def m_law_read (N : Nat) : On := fnM 3 3 (sSeq (sIf (cB (mOp oEq (mVar 0) (mC (.int 0)))) (sRet (mIf (cB (mVar 2)) (mCallK (m_read_number N) [0] (mCons (mVar 1) mNil)) (mCall (m_read_number N) (mCons (mVar 1) mNil)))) sNext)
    (sSeq (sIf (cB (mOp oEq (mVar 0) (mC (.int 1)))) (sRet (mIf (cB (mVar 2)) (mCallK (m_read_point N) [0] (mCons (mVar 1) mNil)) (mCall (m_read_point N) (mCons (mVar 1) mNil)))) sNext)
    (sRet (mIf (cB (mVar 2)) (mCallK (m_read_address N) [0] (mCons (mVar 1) mNil)) (mCall (m_read_address N) (mCons (mVar 1) mNil))))))
def x_law_read (N : Nat) : OnX := fnX 3 3 (ySeq (yIf (cB (mOp oEq (mVar 0) (mC (.int 0)))) (yRet (xIf (cB (mVar 2)) (xCallK (x_read_number N) [0] (mCons (mVar 1) mNil)) (xCall (x_read_number N) (mCons (mVar 1) mNil)))) (yUp sNext))
    (ySeq (yIf (cB (mOp oEq (mVar 0) (mC (.int 1)))) (yRet (xIf (cB (mVar 2)) (xCallK (x_read_point N) [0] (mCons (mVar 1) mNil)) (xCall (x_read_point N) (mCons (mVar 1) mNil)))) (yUp sNext))
    (yRet (xIf (cB (mVar 2)) (xCallK (x_read_address N) [0] (mCons (mVar 1) mNil)) (xCall (x_read_address N) (mCons (mVar 1) mNil))))))
def m_law_told (N : Nat) : On := fnM 3 6 (sSeq (sAsg (.tp [(.nm 4), (.nm 5)]) (mTup (mCons (mC (.str (Str.ofString "told"))) (mCons (mC .none) mNil))))
    (sSeq (sTry (ySet 5 (xCall (x_law_read N) (mCons (mVar 0) (mCons (mVar 1) (mCons (mVar 2) mNil))))) [("Unreadable", some 3, (sPar 4 5 (mCons (mC (.str (Str.ofString "refused"))) (mCons (mXv (mVar 3)) mNil)))), ("KitError", none, (sSet 4 (mC (.str (Str.ofString "other")))))])
    (sRet (mTup (mCons (mVar 4) (mCons (mVar 5) mNil))))))
def m_law_text (N : Nat) : On := fnM 2 3 (sSeq (sSet 2 (mOp oIx (mLst (mCons (mC (.int 2)) (mCons (mC (.int 6)) (mCons (mC (.int 9)) mNil)))) (mCall (m_law_draw N) (mCons (mVar 0) (mCons (mC (.int 3)) mNil)))))
    (sSeq (sIf (cB (mOp oEq (mVar 1) (mC (.int 0)))) (sRet (mCall (m_law_said_number N) (mCons (mCall (m_law_number N) (mCons (mVar 0) (mCons (mVar 2) mNil))) mNil))) sNext)
    (sSeq (sIf (cB (mOp oEq (mVar 1) (mC (.int 1)))) (sRet (mOp oAddS (mOp oAddS (mCall (m_law_said_number N) (mCons (mCall (m_law_number N) (mCons (mVar 0) (mCons (mVar 2) mNil))) mNil)) (mC (.str (Str.ofString " ")))) (mCall (m_law_said_number N) (mCons (mCall (m_law_number N) (mCons (mVar 0) (mCons (mVar 2) mNil))) mNil)))) sNext)
    (sRet (mCall (m_law_said_address N) (mCons (mCall (m_law_address N) (mCons (mVar 0) mNil)) mNil))))))
def m_law_bent (N : Nat) : On := fnM 2 4 (sSeq (sFor (miRng1 (mCons (mOp oIx (mLst (mCons (mC (.int 0)) (mCons (mC (.int 1)) (mCons (mC (.int 1)) (mCons (mC (.int 1)) (mCons (mC (.int 2)) (mCons (mC (.int 3)) mNil))))))) (mCall (m_law_draw N) (mCons (mVar 0) (mCons (mC (.int 6)) mNil)))) mNil)) (.nm 2) (sSeq (sSet 3 (mCall (m_law_draw N) (mCons (mVar 0) (mCons (mC (.int 7)) mNil))))
    (sIf (cB (mOp oLt (mVar 3) (mC (.int 3)))) (sSet 1 (mCall (m_law_bent_signs N) (mCons (mVar 0) (mCons (mVar 1) mNil)))) (sIf (cB (mOp oLt (mVar 3) (mC (.int 6)))) (sSet 1 (mCall (m_law_bent_parts N) (mCons (mVar 0) (mCons (mVar 1) (mCons (mC (.str (Str.ofString " "))) (mCons (mCall (m_law_odd_word N) (mCons (mVar 0) mNil)) mNil)))))) (sSet 1 (mOp oAddS (mOp oAddS (mVar 1) (mC (.str (Str.ofString "\n")))) (mOp oIx (mLst (mCons (mC (.str (Str.ofString ""))) (mCons (mC (.str (Str.ofString "0"))) (mCons (mC (.str (Str.ofString " "))) (mCons (mVar 1) (mCons (mC (.str (Str.ofString "\n"))) (mCons (mC (.str (Str.ofString "( 0 )"))) mNil))))))) (mCall (m_law_draw N) (mCons (mVar 0) (mCons (mC (.int 6)) mNil))))))))))
    (sRet (mVar 1)))
def m_law (N : Nat) : On := fnM 1 8 (sSeq (sSet 1 (mLstC mNil))
    (sSeq (sFor (miRng1 (mCons (mCall oMax2 (mCons (mC (.int 1)) (mCons (mCall oMin2 (mCons (mC (.int 8)) (mCons (mCall oLen (mCons (mVar 0) mNil)) mNil))) mNil))) mNil)) (.nm 2) (sSeq (sSet 3 (mCall (m_law_well N) (mCons (mVar 0) (mCons (mVar 2) mNil))))
    (sFor (miSeq (mLst (mCons (mC (.int 0)) (mCons (mC (.int 1)) (mCons (mC (.int 2)) (mCons (mC (.int 2)) mNil)))))) (.nm 4) (sSeq (sSet 6 (mCall (m_law_bent N) (mCons (mVar 3) (mCons (mCall (m_law_text N) (mCons (mVar 3) (mCons (mVar 4) mNil))) mNil))))
    (sSeq (sSet 5 (mIf (cB (mOp oGt (mCall (m_law_draw N) (mCons (mVar 3) (mCons (mC (.int 4)) mNil))) (mC (.int 0)))) (mVar 4) (mCall (m_law_draw N) (mCons (mVar 3) (mCons (mC (.int 3)) mNil)))))
    (sSeq (sSet 7 (mCall (m_law_due N) (mCons (mVar 5) (mCons (mVar 6) mNil))))
    (sSeq (sIf (cNot (cB (mCall (m_law_same N 12) (mCons (mCall (m_law_told N) (mCons (mVar 5) (mCons (mVar 6) (mCons (mOp oEq (mCall (m_law_draw N) (mCons (mVar 3) (mCons (mC (.int 2)) mNil))) (mC (.int 0))) mNil)))) (mCons (mVar 7) mNil))))) (sRet (mC (.bool false))) sNext)
    (sDrop (mMethL omAppend (mVar 1) (mCons (mTup (mCons (mVar 5) (mCons (mVar 6) (mCons (mVar 7) mNil)))) mNil))))))))))
    (sSeq (sFor (miSeq (mUn oRev (mVar 1))) (.tp [(.nm 5), (.nm 6), (.nm 7)]) (sIf (cNot (cB (mCall (m_law_same N 12) (mCons (mCall (m_law_told N) (mCons (mVar 5) (mCons (mVar 6) (mCons (mOp oLt (mCall oLenS (mCons (mVar 6) mNil)) (mC (.int 9))) mNil)))) (mCons (mVar 7) mNil))))) (sRet (mC (.bool false))) sNext))
    (sRet (mC (.bool true))))))
section
variable {P : Program} {w : World} {K : PySem.W.Frag} {mg : Str → Option Value} {base : Heap} {f : Addr} {fd : FuncData}
theorem ok_init (F : Fun K "__init__" "KitError.__init__" s_init f fd) : FnOk P w K mg base CX0 1 f fd ["self", "value"] (Sk.spIni K) := by
  refine F.ok sc_init (fun vs H Q E h => Sk.lenI h) (fun cdv A outer s H vs Q E hr h => ?_)
  obtain ⟨a, C, g, rfl, T, hno, ha, k⟩ := h
  refine ⟨_, pss_one (ps_ost (pe_var (i := 0) rfl (Or.inl rfl)) (pe_var (i := 1) rfl (Or.inl rfl))), ?_⟩
  exact ⟨g, rfl, .ref a, rfl, a, C, rfl, T, hno, .inl ⟨ha, fun dx h1 h2 => k dx h1 h2⟩⟩
theorem ok_is_integer {N : Nat} (F : Fun K "is_integer" "is_integer" s_is_integer f fd) (M : Bu mg)  : FnOk P w K mg base CX0 1 f fd ["told"] (spM P w K (m_is_integer N)) :=
  fn_ok F sc_is_integer fun cdv A outer s H E hr => (mss_one (ms_ret (me_and (me_isi .int (pe_callB call_isi (by rfl) M.z_isinstance (by decide +kernel) (pa_cons (me_var (pv 0)) (pa_cons (pe_bltn (v := .ty "int") (by rfl) M.z_int (by decide +kernel) rfl) pa_nil)))) (me_one (me_not (me_isi .bool (pe_callB call_isi (by rfl) M.z_isinstance (by decide +kernel) (pa_cons (me_var (pv 0)) (pa_cons (pe_bltn (v := .ty "bool") (by rfl) M.z_bool (by decide +kernel) rfl) pa_nil)))))))))
theorem ok_is_pair {N : Nat} (F : Fun K "is_pair" "is_pair" s_is_pair f fd) (M : Bu mg)  : FnOk P w K mg base CX0 1 f fd ["told"] (spM P w K (m_is_pair N)) :=
  fn_ok F sc_is_pair fun cdv A outer s H E hr => (mss_one (ms_ret (me_and (me_isi .tuple (pe_callB call_isi (by rfl) M.z_isinstance (by decide +kernel) (pa_cons (me_var (pv 0)) (pa_cons (pe_bltn (v := .ty "tuple") (by rfl) M.z_tuple (by decide +kernel) rfl) pa_nil)))) (me_one (me_cmp (bo_eq hr.units) (me_callB co_len (by rfl) M.z_len (by decide +kernel) (ma_cons (me_var (pv 0)) ma_nil)) me_int (nomark _))))))
theorem ok_is_offset {N : Nat} (F : Fun K "is_offset" "is_offset" s_is_offset f fd) (M : Bu mg) (c_is_pair : Sk.Cal P w K mg base 1 "is_pair" ["told"] (spM P w K (m_is_pair N))) (c_is_integer : Sk.Cal P w K mg base 1 "is_integer" ["told"] (spM P w K (m_is_integer N))) : FnOk P w K mg base CX0 2 f fd ["told"] (spM P w K (m_is_offset N)) :=
  fn_ok F sc_is_offset fun cdv A outer s H E hr => (mss_one (ms_ret (me_and (me_call c_is_pair hr (by decide) (ma_cons (me_var (pv 0)) ma_nil)) (me_and (me_call c_is_integer hr (by decide) (ma_cons (me_ix io_seq (me_var (pv 0)) me_int (fun _ _ => rfl)) ma_nil)) (me_one (me_call c_is_integer hr (by decide) (ma_cons (me_ix io_seq (me_var (pv 0)) me_int (fun _ _ => rfl)) ma_nil)))))))
theorem ok_is_number {N : Nat} (F : Fun K "is_number" "is_number" s_is_number f fd) (M : Bu mg) (c_is_offset : Sk.Cal P w K mg base 2 "is_offset" ["told"] (spM P w K (m_is_offset N))) : FnOk P w K mg base CX0 3 f fd ["told"] (spM P w K (m_is_number N)) :=
  fn_ok F sc_is_number fun cdv A outer s H E hr => (mss_one (ms_ret (me_and (me_call c_is_offset hr (by decide) (ma_cons (me_var (pv 0)) ma_nil)) (me_and (me_cmp bo_gt (me_ix io_seq (me_var (pv 0)) me_int (fun _ _ => rfl)) me_int (nomark _)) (me_one (me_cmp (bo_eq hr.units) (me_callBf co_gcd (by rfl) M.z_gcd (ma_cons (me_ix io_seq (me_var (pv 0)) me_int (fun _ _ => rfl)) (ma_cons (me_ix io_seq (me_var (pv 0)) me_int (fun _ _ => rfl)) ma_nil)) (fun _ _ h1 h2 => pe_callBfun h1 (by rfl) M.z_gcd h2)) me_int (nomark _)))))))
theorem ok_integer_from {N : Nat} (F : Fun K "integer_from" "integer_from" s_integer_from f fd) (M : Bu mg)  {t_MOST : Tok} (m_MOST : mg "MOST" = some (.int 9 t_MOST)) : FnOk P w K mg base CX0 1 f fd ["word"] (spM P w K (m_integer_from N)) :=
  fn_ok F sc_integer_from fun cdv A outer s H E hr => (mss_cons (ms_set (i := 1) sc_integer_from.nd rfl (Or.inl rfl) (me_ifExp (mt_val (me_starts (me_var (pv 0)) me_str)) (me_slS (me_var (pv 0)) (mo_some me_int) mo_none) (me_var (pv 0))))
      (mss_cons (ms_if (PW.pt (mw_or (mt_not (mt_val (me_isDec (me_var (pv 1))))) (mw_or1 (mt_cmp bo_gt (me_callB co_lenS (by rfl) M.z_len (by decide +kernel) (ma_cons (me_var (pv 1)) ma_nil)) (me_c (pe_glob (v := .int 9) rfl m_MOST ⟨_, rfl⟩) (fun _ => .int _)) (nomark _))))) (mss_one (ms_ret me_non)) mss_nil)
      (mss_cons (ms_set (i := 2) sc_integer_from.nd rfl (Or.inl rfl) (me_callTy co_intS (by rfl) M.z_int (by decide +kernel) (ma_cons (me_var (pv 0)) ma_nil)))
      (mss_one (ms_ret (me_ifExp (mt_cmp (bo_eq hr.units) (me_callTy co_str (by rfl) M.z_str (by decide +kernel) (ma_cons (me_var (pv 2)) ma_nil)) (me_var (pv 0)) (nomark _)) (me_var (pv 2)) me_non))))))
theorem ok_number_from {N : Nat} (F : Fun K "number_from" "number_from" s_number_from f fd) (M : Bu mg) (c_integer_from : Sk.Cal P w K mg base 1 "integer_from" ["word"] (spM P w K (m_integer_from N))) (c_is_number : Sk.Cal P w K mg base 3 "is_number" ["told"] (spM P w K (m_is_number N))) : FnOk P w K mg base CX0 4 f fd ["word"] (spM P w K (m_number_from N)) :=
  fn_ok F sc_number_from fun cdv A outer s H E hr => (mss_cons (ms_asg (t := (.tp [(.nm 2), (.nm 3), (.nm 4)])) (me_partition (me_var (pv 0)) me_str) (mg_tup rfl (mgs_cons (mg_name (pg_name (i := 2) sc_number_from.nd rfl (Or.inl rfl))) (mgs_cons (mg_name (pg_name (i := 3) sc_number_from.nd rfl (Or.inl rfl))) (mgs_cons (mg_name (pg_name (i := 4) sc_number_from.nd rfl (Or.inl rfl))) mgs_nil)))))
      (mss_cons (ms_set (i := 1) sc_number_from.nd rfl (Or.inl rfl) (me_tup (ma_cons (me_call c_integer_from hr (by decide) (ma_cons (me_var (pv 2)) ma_nil)) (ma_cons (me_ifExp (mt_cmp (bo_eq hr.units) (me_var (pv 3)) me_str (nomark _)) (me_call c_integer_from hr (by decide) (ma_cons (me_var (pv 4)) ma_nil)) me_int) ma_nil))))
      (mss_cons (ms_if (PW.pt (mw_or (mt_not (mt_val (me_call c_is_number hr (by decide) (ma_cons (me_var (pv 1)) ma_nil)))) (mw_or1 (PW.pt (mw_and (mt_cmp (bo_eq hr.units) (me_var (pv 3)) me_str (nomark _)) (mw_and1 (mt_cmp (bo_eq hr.units) (me_ix io_seq (me_var (pv 1)) me_int (fun _ _ => rfl)) me_int (nomark _)))))))) (mss_one (ms_ret me_non)) mss_nil)
      (mss_one (ms_ret (me_var (pv 1)))))))
theorem ok_point_from {N : Nat} (F : Fun K "_point_from" "_point_from" s_point_from f fd) (M : Bu mg) (c_number_from : Sk.Cal P w K mg base 4 "number_from" ["word"] (spM P w K (m_number_from N))) : FnOk P w K mg base CX0 5 f fd ["line"] (spM P w K (m_point_from N)) :=
  fn_ok F sc_point_from fun cdv A outer s H E hr => (mss_cons (ms_set (i := 1) sc_point_from.nd rfl (Or.inl rfl) (me_tuple (by rfl) M.z_tuple (me_lc (own := [("word", 2)]) (t := (.nm 2)) rfl sc_point_from.nd (mi_seq (me_split (me_var (pv 0)) me_str)) (blkOk_by (N := ["line", "told", "word"]) (sc := defScope s_point_from) (by decide +kernel)) (by rfl) (fun _ _ _ _ _ => (mg_name (pg_name (i := 2) sc_point_from.nd rfl (Or.inl rfl)))) (fun _ _ _ _ _ => mts_nil) (fun _ _ _ _ _ => (me_call c_number_from hr (by decide) (ma_cons (me_var (pv 2)) ma_nil))))))
      (mss_one (ms_ret (me_ifExp (PW.pt (mw_and (mt_cmp (bo_eq hr.units) (me_callB co_len (by rfl) M.z_len (by decide +kernel) (ma_cons (me_var (pv 1)) ma_nil)) me_int (nomark _)) (mw_and1 (mt_cmp (bo_notIn2 hr) me_non (me_var (pv 1)) (by rfl))))) (me_var (pv 1)) me_non))))
theorem ok_places_from {N : Nat} (F : Fun K "_places_from" "_places_from" s_places_from f fd) (M : Bu mg) (c_integer_from : Sk.Cal P w K mg base 1 "integer_from" ["word"] (spM P w K (m_integer_from N))) : FnOk P w K mg base CX0 2 f fd ["words"] (spM P w K (m_places_from N)) :=
  fn_ok F sc_places_from fun cdv A outer s H E hr => (mss_cons (ms_set (i := 1) sc_places_from.nd rfl (Or.inl rfl) (me_tuple (by rfl) M.z_tuple (me_lc (own := [("word", 2)]) (t := (.nm 2)) rfl sc_places_from.nd (mi_seq (me_var (pv 0))) (blkOk_by (N := ["words", "told", "word", "place"]) (sc := defScope s_places_from) (by decide +kernel)) (by rfl) (fun _ _ _ _ _ => (mg_name (pg_name (i := 2) sc_places_from.nd rfl (Or.inl rfl)))) (fun _ _ _ _ _ => mts_nil) (fun _ _ _ _ _ => (me_call c_integer_from hr (by decide) (ma_cons (me_var (pv 2)) ma_nil))))))
      (mss_one (ms_ret (me_ifExp (mt_val (me_callB (co_all rfl) (by rfl) M.z_all (by decide +kernel) (ma_cons (me_lc (own := [("place", 3)]) (t := (.nm 3)) rfl sc_places_from.nd (mi_seq (me_var (pv 1))) (blkOk_by (N := ["words", "told", "word", "place"]) (sc := defScope s_places_from) (by decide +kernel)) (by rfl) (fun _ _ _ _ _ => (mg_name (pg_name (i := 3) sc_places_from.nd rfl (Or.inl rfl)))) (fun _ _ _ _ _ => mts_nil) (fun _ _ _ _ _ => (me_and (me_cmp bo_isNot (me_var (pv 3)) me_non (nomark _)) (me_one (me_cmp bo_ge (me_var (pv 3)) me_int (nomark _)))))) ma_nil))) (me_var (pv 1)) me_non))))
theorem ok_address_from {N : Nat} (F : Fun K "_address_from" "_address_from" s_address_from f fd) (M : Bu mg) (c_places_from : Sk.Cal P w K mg base 2 "_places_from" ["words"] (spM P w K (m_places_from N))) : FnOk P w K mg base CX0 3 f fd ["line"] (spM P w K (m_address_from N)) :=
  fn_ok F sc_address_from fun cdv A outer s H E hr => (mss_cons (ms_set (i := 1) sc_address_from.nd rfl (Or.inl rfl) (me_split (me_var (pv 0)) me_str))
      (mss_cons (ms_if (PW.pt (mw_or (mt_cmp (bo_ne hr.units) (me_methL (mt_countR hr) (md_countR hr) (me_var (pv 1)) (ma_cons me_str ma_nil) (fun to t h1 h2 h3 => pe_bm PySem.F.plainAttrs_list PySem.F.slot_list_count PySem.F.type_list_count h1 h2 h3)) me_int (nomark _)) (mw_or1 (mt_cmp (bo_ne hr.units) (me_ix io_seq (me_var (pv 1)) (me_un uo_neg' me_int) (fun _ _ => rfl)) me_str (nomark _))))) (mss_one (ms_ret me_non)) mss_nil)
      (mss_cons (ms_set (i := 2) sc_address_from.nd rfl (Or.inl rfl) (me_methL (mt_indexR hr) (md_indexR hr) (me_var (pv 1)) (ma_cons me_str ma_nil) (fun to t h1 h2 h3 => pe_bm PySem.F.plainAttrs_list PySem.F.slot_list_index PySem.F.type_list_index h1 h2 h3)))
      (mss_cons (ms_par (i := 3) (j := 4) (by rfl) sc_address_from.nd rfl rfl (by decide) rfl rfl (ma_cons (me_call c_places_from hr (by decide) (ma_cons (me_sl (me_var (pv 1)) mo_none (mo_some (me_var (pv 2)))) ma_nil)) (ma_cons (me_call c_places_from hr (by decide) (ma_cons (me_sl (me_var (pv 1)) (mo_some (me_op bo_add (me_var (pv 2)) me_int)) (mo_some (me_un uo_neg' me_int))) ma_nil)) ma_nil)) (by rfl))
      (mss_one (ms_ret (me_ifExp (PW.pt (mw_and (mt_cmp bo_isNot (me_var (pv 3)) me_non (nomark _)) (mw_and (mt_cmp bo_isNot (me_var (pv 4)) me_non (nomark _)) (mw_and1 (mt_cmp bo_gt (me_callB co_len (by rfl) M.z_len (by decide +kernel) (ma_cons (me_var (pv 4)) ma_nil)) me_int (nomark _)))))) (me_tup (ma_cons (me_var (pv 3)) (ma_cons (me_var (pv 4)) ma_nil))) me_non)))))))
theorem ok_one_line {N : Nat} (F : Fun K "_one_line" "_one_line" s_one_line f fd) (M : Bu mg) (c_number_from : Sk.Cal P w K mg base 4 "number_from" ["word"] (spM P w K (m_number_from N))) (c_point_from : Sk.Cal P w K mg base 5 "_point_from" ["line"] (spM P w K (m_point_from N))) (c_address_from : Sk.Cal P w K mg base 3 "_address_from" ["line"] (spM P w K (m_address_from N))) {fa_address_from : Addr} (m_fn_address_from : mg "_address_from" = some (.ref fa_address_from)) (n_fn_address_from : PySem.W.nsIn K mainGlobals "_address_from" = some (some (.ref fa_address_from))) {fa_point_from : Addr} (m_fn_point_from : mg "_point_from" = some (.ref fa_point_from)) (n_fn_point_from : PySem.W.nsIn K mainGlobals "_point_from" = some (some (.ref fa_point_from))) {fa_number_from : Addr} (m_fn_number_from : mg "number_from" = some (.ref fa_number_from)) (n_fn_number_from : PySem.W.nsIn K mainGlobals "number_from" = some (some (.ref fa_number_from))) : FnOk P w K mg base CX0 6 f fd ["text", "read"] (spM P w K (m_one_line N)) :=
  fn_ok F sc_one_line fun cdv A outer s H E hr => (mss_cons (ms_asg (t := (.tp [(.nm 3), (.nm 4), (.nm 5)])) (me_partition (me_var (pv 0)) me_str) (mg_tup rfl (mgs_cons (mg_name (pg_name (i := 3) sc_one_line.nd rfl (Or.inl rfl))) (mgs_cons (mg_name (pg_name (i := 4) sc_one_line.nd rfl (Or.inl rfl))) (mgs_cons (mg_name (pg_name (i := 5) sc_one_line.nd rfl (Or.inl rfl))) mgs_nil)))))
      (mss_cons (ms_set (i := 2) sc_one_line.nd rfl (Or.inl rfl) (me_callV (.cons c_number_from (by decide) m_fn_number_from n_fn_number_from (.cons c_point_from (by decide) m_fn_point_from n_fn_point_from (.cons c_address_from (by decide) m_fn_address_from n_fn_address_from .nil))) hr rfl (Or.inl rfl) (ma_cons (me_var (pv 3)) ma_nil)))
      (mss_cons (ms_if (mt_cmp bo_is (me_var (pv 2)) me_non (nomark _)) (mss_one ms_never) mss_nil)
      (mss_cons (ms_if (mt_cmp (bo_ne hr.units) (me_var (pv 4)) me_str (nomark _)) (mss_one ms_never) mss_nil)
      (mss_one (ms_ret (me_var (pv 2))))))))
theorem okx_one_line {N : Nat} (F : Fun K "_one_line" "_one_line" s_one_line f fd) (M : Bu mg) (c_number_from : Sk.Cal P w K mg base 4 "number_from" ["word"] (spM P w K (m_number_from N))) (c_point_from : Sk.Cal P w K mg base 5 "_point_from" ["line"] (spM P w K (m_point_from N))) (c_address_from : Sk.Cal P w K mg base 3 "_address_from" ["line"] (spM P w K (m_address_from N))) {fa_address_from : Addr} (m_fn_address_from : mg "_address_from" = some (.ref fa_address_from)) (n_fn_address_from : PySem.W.nsIn K mainGlobals "_address_from" = some (some (.ref fa_address_from))) {fa_point_from : Addr} (m_fn_point_from : mg "_point_from" = some (.ref fa_point_from)) (n_fn_point_from : PySem.W.nsIn K mainGlobals "_point_from" = some (some (.ref fa_point_from))) {fa_number_from : Addr} (m_fn_number_from : mg "number_from" = some (.ref fa_number_from)) (n_fn_number_from : PySem.W.nsIn K mainGlobals "number_from" = some (some (.ref fa_number_from))) {fI : Addr} {Yo : Str → Addr} (Z : Er P w K mg base fI ["KitError", "Unreadable"] Yo) : FnOk P w K mg base (L2N.CX P w) 6 f fd ["text", "read"] (spX P w K (x_one_line N)) :=
  fnx_ok F sc_one_line fun cdv A outer s H E hr => (mys_cons (my_up (ms_asg (t := (.tp [(.nm 3), (.nm 4), (.nm 5)])) (me_partition (me_var (pv 0)) me_str) (mg_tup rfl (mgs_cons (mg_name (pg_name (i := 3) sc_one_line.nd rfl (Or.inl rfl))) (mgs_cons (mg_name (pg_name (i := 4) sc_one_line.nd rfl (Or.inl rfl))) (mgs_cons (mg_name (pg_name (i := 5) sc_one_line.nd rfl (Or.inl rfl))) mgs_nil))))))
      (mys_cons (my_up (ms_set (i := 2) sc_one_line.nd rfl (Or.inl rfl) (me_callV (.cons c_number_from (by decide) m_fn_number_from n_fn_number_from (.cons c_point_from (by decide) m_fn_point_from n_fn_point_from (.cons c_address_from (by decide) m_fn_address_from n_fn_address_from .nil))) hr rfl (Or.inl rfl) (ma_cons (me_var (pv 3)) ma_nil))))
      (mys_cons (my_if (mt_cmp bo_is (me_var (pv 2)) me_non (nomark _)) (mys_one (my_raise rfl (L2N.takes_of rfl rfl rfl rfl) (Z.ex "Unreadable" (by decide)) Z.ini hr (by decide) (Z.mg "Unreadable" (by decide)) (Z.ns "Unreadable" (by decide)) me_int)) (mys_up mss_nil))
      (mys_cons (my_if (mt_cmp (bo_ne hr.units) (me_var (pv 4)) me_str (nomark _)) (mys_one (my_raise rfl (L2N.takes_of rfl rfl rfl rfl) (Z.ex "Unreadable" (by decide)) Z.ini hr (by decide) (Z.mg "Unreadable" (by decide)) (Z.ns "Unreadable" (by decide)) me_int)) (mys_up mss_nil))
      (mys_one (my_up (ms_ret (me_var (pv 2)))))))))
theorem ok_read_number {N : Nat} (F : Fun K "read_number" "read_number" s_read_number f fd) (M : Bu mg) (c_one_line : Sk.Cal P w K mg base 6 "_one_line" ["text", "read"] (spM P w K (m_one_line N))) {fa_number_from : Addr} (m_fn_number_from : mg "number_from" = some (.ref fa_number_from)) (n_fn_number_from : PySem.W.nsIn K mainGlobals "number_from" = some (some (.ref fa_number_from))) : FnOk P w K mg base CX0 7 f fd ["text"] (spM P w K (m_read_number N)) :=
  fn_ok F sc_read_number fun cdv A outer s H E hr => (mss_one (ms_ret (me_call c_one_line hr (by decide) (ma_cons (me_var (pv 0)) (ma_cons (me_fn (by rfl) m_fn_number_from n_fn_number_from) ma_nil)))))
theorem okx_read_number {N : Nat} (F : Fun K "read_number" "read_number" s_read_number f fd) (M : Bu mg) (cx_one_line : CalXN P w K mg base 6 "_one_line" ["text", "read"] (spX P w K (x_one_line N))) {fa_number_from : Addr} (m_fn_number_from : mg "number_from" = some (.ref fa_number_from)) (n_fn_number_from : PySem.W.nsIn K mainGlobals "number_from" = some (some (.ref fa_number_from))) : FnOk P w K mg base (L2N.CX P w) 7 f fd ["text"] (spX P w K (x_read_number N)) :=
  fnx_ok F sc_read_number fun cdv A outer s H E hr => (mys_one (my_ret (mx_call cx_one_line hr (by decide) (L2N.takes_of rfl rfl rfl rfl) (ma_cons (me_var (pv 0)) (ma_cons (me_fn (by rfl) m_fn_number_from n_fn_number_from) ma_nil)))))
theorem ok_read_point {N : Nat} (F : Fun K "read_point" "read_point" s_read_point f fd) (M : Bu mg) (c_one_line : Sk.Cal P w K mg base 6 "_one_line" ["text", "read"] (spM P w K (m_one_line N))) {fa_point_from : Addr} (m_fn_point_from : mg "_point_from" = some (.ref fa_point_from)) (n_fn_point_from : PySem.W.nsIn K mainGlobals "_point_from" = some (some (.ref fa_point_from))) : FnOk P w K mg base CX0 7 f fd ["text"] (spM P w K (m_read_point N)) :=
  fn_ok F sc_read_point fun cdv A outer s H E hr => (mss_one (ms_ret (me_call c_one_line hr (by decide) (ma_cons (me_var (pv 0)) (ma_cons (me_fn (by rfl) m_fn_point_from n_fn_point_from) ma_nil)))))
theorem okx_read_point {N : Nat} (F : Fun K "read_point" "read_point" s_read_point f fd) (M : Bu mg) (cx_one_line : CalXN P w K mg base 6 "_one_line" ["text", "read"] (spX P w K (x_one_line N))) {fa_point_from : Addr} (m_fn_point_from : mg "_point_from" = some (.ref fa_point_from)) (n_fn_point_from : PySem.W.nsIn K mainGlobals "_point_from" = some (some (.ref fa_point_from))) : FnOk P w K mg base (L2N.CX P w) 7 f fd ["text"] (spX P w K (x_read_point N)) :=
  fnx_ok F sc_read_point fun cdv A outer s H E hr => (mys_one (my_ret (mx_call cx_one_line hr (by decide) (L2N.takes_of rfl rfl rfl rfl) (ma_cons (me_var (pv 0)) (ma_cons (me_fn (by rfl) m_fn_point_from n_fn_point_from) ma_nil)))))
theorem ok_read_address {N : Nat} (F : Fun K "read_address" "read_address" s_read_address f fd) (M : Bu mg) (c_one_line : Sk.Cal P w K mg base 6 "_one_line" ["text", "read"] (spM P w K (m_one_line N))) {fa_address_from : Addr} (m_fn_address_from : mg "_address_from" = some (.ref fa_address_from)) (n_fn_address_from : PySem.W.nsIn K mainGlobals "_address_from" = some (some (.ref fa_address_from))) : FnOk P w K mg base CX0 7 f fd ["text"] (spM P w K (m_read_address N)) :=
  fn_ok F sc_read_address fun cdv A outer s H E hr => (mss_one (ms_ret (me_call c_one_line hr (by decide) (ma_cons (me_var (pv 0)) (ma_cons (me_fn (by rfl) m_fn_address_from n_fn_address_from) ma_nil)))))
theorem okx_read_address {N : Nat} (F : Fun K "read_address" "read_address" s_read_address f fd) (M : Bu mg) (cx_one_line : CalXN P w K mg base 6 "_one_line" ["text", "read"] (spX P w K (x_one_line N))) {fa_address_from : Addr} (m_fn_address_from : mg "_address_from" = some (.ref fa_address_from)) (n_fn_address_from : PySem.W.nsIn K mainGlobals "_address_from" = some (some (.ref fa_address_from))) : FnOk P w K mg base (L2N.CX P w) 7 f fd ["text"] (spX P w K (x_read_address N)) :=
  fnx_ok F sc_read_address fun cdv A outer s H E hr => (mys_one (my_ret (mx_call cx_one_line hr (by decide) (L2N.takes_of rfl rfl rfl rfl) (ma_cons (me_var (pv 0)) (ma_cons (me_fn (by rfl) m_fn_address_from n_fn_address_from) ma_nil)))))
theorem ok_law_well {N : Nat} (F : Fun K "_law_well" "_law_well" s_law_well f fd) (M : Bu mg)  : FnOk P w K mg base CX0 1 f fd ["script", "place"] (spM P w K (m_law_well N)) :=
  fn_ok F sc_law_well fun cdv A outer s H E hr => (mss_cons (ms_set (i := 2) sc_law_well.nd rfl (Or.inl rfl) (me_ifExp (mt_cmp (bo_lt hr.units) (me_var (pv 1)) (me_callB co_len (by rfl) M.z_len (by decide +kernel) (ma_cons (me_var (pv 0)) ma_nil)) (nomark _)) (me_callTy co_int (by rfl) M.z_int (by decide +kernel) (ma_cons (me_ix io_seq (me_var (pv 0)) (me_var (pv 1)) (fun _ _ => rfl)) ma_nil)) (me_op bo_add (me_op bo_mul (me_var (pv 1)) me_int) (me_op bo_mul (me_callB co_len (by rfl) M.z_len (by decide +kernel) (ma_cons (me_var (pv 0)) ma_nil)) me_int))))
      (mss_one (ms_ret (me_lstC (ma_cons (me_callB (co_max2 rfl) (by rfl) M.z_max (by decide +kernel) (ma_cons me_int (ma_cons (me_op bo_sub (me_callB co_abs (by rfl) M.z_abs (by decide +kernel) (ma_cons (me_var (pv 2)) ma_nil)) (me_op bo_powW me_int me_int)) ma_nil))) (ma_cons (me_op bo_mod (me_callTy co_int (by rfl) M.z_int (by decide +kernel) (ma_cons (me_op bo_add (me_op bo_add (me_op bo_mul (me_var (pv 2)) me_int) (me_op bo_mul (me_var (pv 1)) me_int)) me_int) ma_nil)) (me_op bo_add (me_op bo_powW me_int me_int) me_int)) (ma_cons me_int ma_nil)))))))
theorem ok_law_draw {N : Nat} (F : Fun K "_law_draw" "_law_draw" s_law_draw f fd) (M : Bu mg)  : FnOk P w K mg base CX0 1 f fd ["well", "many"] (spM P w K (m_law_draw N)) :=
  fn_ok F sc_law_draw fun cdv A outer s H E hr => (mss_cons (ms_if (mt_cmp bo_gt (me_ix io_seq (me_var (pv 0)) me_int (fun _ _ => rfl)) me_int (nomark _)) (mss_cons (ms_set (i := 3) sc_law_draw.nd rfl (Or.inl rfl) (me_op bo_mod (me_callTy co_int (by rfl) M.z_int (by decide +kernel) (ma_cons (me_ix io_seq (me_var (pv 0)) me_int (fun _ _ => rfl)) ma_nil)) (me_var (pv 1))))
      (mss_cons (ms_put (po_any hr) (me_op bo_div (me_ix io_seq (me_var (pv 0)) me_int (fun _ _ => rfl)) (me_var (pv 1))) (me_var (pv 0)) me_int (fun t te to ti h1 h2 h3 h4 => ps_asg h2 (pg_sub h3 h4 h1)))
      (mss_one (ms_ret (me_var (pv 3)))))) mss_nil)
      (mss_cons (ms_put (po_any hr) (me_op bo_add (me_ix io_seq (me_var (pv 0)) me_int (fun _ _ => rfl)) me_int) (me_var (pv 0)) me_int (fun t te to ti h1 h2 h3 h4 => ps_asg h2 (pg_sub h3 h4 h1)))
      (mss_cons (ms_set (i := 2) sc_law_draw.nd rfl (Or.inl rfl) (me_op bo_mod (me_callTy co_int (by rfl) M.z_int (by decide +kernel) (ma_cons (me_op bo_powW (me_op bo_add (me_ix io_seq (me_var (pv 0)) me_int (fun _ _ => rfl)) (me_op bo_mul me_int (me_ix io_seq (me_var (pv 0)) me_int (fun _ _ => rfl)))) me_int) ma_nil)) (me_op bo_add (me_op bo_powW me_int me_int) me_int)))
      (mss_cons (ms_set (i := 2) sc_law_draw.nd rfl (Or.inl rfl) (me_op bo_mod (me_callTy co_int (by rfl) M.z_int (by decide +kernel) (ma_cons (me_op bo_powW (me_op bo_add (me_var (pv 2)) me_int) me_int) ma_nil)) (me_op bo_add (me_op bo_powW me_int me_int) me_int)))
      (mss_one (ms_ret (me_op bo_mod (me_callTy co_int (by rfl) M.z_int (by decide +kernel) (ma_cons (me_op bo_div (me_var (pv 2)) (me_op bo_powW me_int me_int)) ma_nil)) (me_var (pv 1)))))))))
theorem ok_law_same {N n : Nat} (F : Fun K "_law_same" "_law_same" s_law_same f fd) (M : Bu mg) (c_law_same : Sk.Cal P w K mg base n "_law_same" ["told", "due"] (spM P w K (m_law_same N n)))  : FnOk P w K mg base CX0 (n + 1) f fd ["told", "due"] (spM P w K (m_law_same N (n + 1))) :=
  fn_ok F sc_law_same fun cdv A outer s H E hr => (mss_cons (ms_if (mt_cmp bo_is (me_var (pv 1)) me_non (nomark _)) (mss_one (ms_ret (me_cmp bo_is (me_var (pv 0)) me_non (nomark _)))) mss_nil)
      (mss_cons (ms_if (mt_val (me_isi .bool (pe_callB call_isi (by rfl) M.z_isinstance (by decide +kernel) (pa_cons (me_var (pv 1)) (pa_cons (pe_bltn (v := .ty "bool") (by rfl) M.z_bool (by decide +kernel) rfl) pa_nil))))) (mss_one (ms_ret (me_ifExp (mt_val (me_var (pv 1))) (me_cmp bo_is (me_var (pv 0)) me_bl (nomark _)) (me_cmp bo_is (me_var (pv 0)) me_bl (nomark _))))) mss_nil)
      (mss_cons (ms_if (mt_val (me_isi .int (pe_callB call_isi (by rfl) M.z_isinstance (by decide +kernel) (pa_cons (me_var (pv 1)) (pa_cons (pe_bltn (v := .ty "int") (by rfl) M.z_int (by decide +kernel) rfl) pa_nil))))) (mss_one (ms_ret (me_and (me_isi .int (pe_callB call_isi (by rfl) M.z_isinstance (by decide +kernel) (pa_cons (me_var (pv 0)) (pa_cons (pe_bltn (v := .ty "int") (by rfl) M.z_int (by decide +kernel) rfl) pa_nil)))) (me_and (me_not (me_isi .bool (pe_callB call_isi (by rfl) M.z_isinstance (by decide +kernel) (pa_cons (me_var (pv 0)) (pa_cons (pe_bltn (v := .ty "bool") (by rfl) M.z_bool (by decide +kernel) rfl) pa_nil))))) (me_one (me_cmp (bo_eq hr.units) (me_var (pv 0)) (me_var (pv 1)) (nomark _))))))) mss_nil)
      (mss_cons (ms_if (mt_val (me_isi .str (pe_callB call_isi (by rfl) M.z_isinstance (by decide +kernel) (pa_cons (me_var (pv 1)) (pa_cons (pe_bltn (v := .ty "str") (by rfl) M.z_str (by decide +kernel) rfl) pa_nil))))) (mss_one (ms_ret (me_and (me_isi .str (pe_callB call_isi (by rfl) M.z_isinstance (by decide +kernel) (pa_cons (me_var (pv 0)) (pa_cons (pe_bltn (v := .ty "str") (by rfl) M.z_str (by decide +kernel) rfl) pa_nil)))) (me_one (me_cmp (bo_eq hr.units) (me_var (pv 0)) (me_var (pv 1)) (nomark _)))))) mss_nil)
      (mss_cons (ms_if (PW.pt (mw_or (mt_cmp (bo_ne hr.units) (me_isi .tuple (pe_callB call_isi (by rfl) M.z_isinstance (by decide +kernel) (pa_cons (me_var (pv 1)) (pa_cons (pe_bltn (v := .ty "tuple") (by rfl) M.z_tuple (by decide +kernel) rfl) pa_nil)))) (me_isi .tuple (pe_callB call_isi (by rfl) M.z_isinstance (by decide +kernel) (pa_cons (me_var (pv 0)) (pa_cons (pe_bltn (v := .ty "tuple") (by rfl) M.z_tuple (by decide +kernel) rfl) pa_nil)))) (nomark _)) (mw_or1 (mt_cmp (bo_ne hr.units) (me_isi .list (pe_callB call_isi (by rfl) M.z_isinstance (by decide +kernel) (pa_cons (me_var (pv 1)) (pa_cons (pe_bltn (v := .ty "list") (by rfl) M.z_list (by decide +kernel) rfl) pa_nil)))) (me_isi .list (pe_callB call_isi (by rfl) M.z_isinstance (by decide +kernel) (pa_cons (me_var (pv 0)) (pa_cons (pe_bltn (v := .ty "list") (by rfl) M.z_list (by decide +kernel) rfl) pa_nil)))) (nomark _))))) (mss_one (ms_ret me_bl)) mss_nil)
      (mss_one (ms_ret (me_and (me_cmp (bo_eq hr.units) (me_callB co_len (by rfl) M.z_len (by decide +kernel) (ma_cons (me_var (pv 0)) ma_nil)) (me_callB co_len (by rfl) M.z_len (by decide +kernel) (ma_cons (me_var (pv 1)) ma_nil)) (nomark _)) (me_one (me_callB (co_all rfl) (by rfl) M.z_all (by decide +kernel) (ma_cons (me_lc (own := [("k", 2)]) (t := (.nm 2)) rfl sc_law_same.nd (mi_rng1 rfl M.z_range (ma_cons (me_callB co_len (by rfl) M.z_len (by decide +kernel) (ma_cons (me_var (pv 1)) ma_nil)) ma_nil)) (blkOk_by (N := ["told", "due", "k"]) (sc := defScope s_law_same) (by decide +kernel)) (by rfl) (fun _ _ _ _ _ => (mg_name (pg_name (i := 2) sc_law_same.nd rfl (Or.inl rfl)))) (fun _ _ _ _ _ => mts_nil) (fun _ _ _ _ _ => (me_call c_law_same hr (Nat.le_refl _) (ma_cons (me_ix io_seq (me_var (pv 0)) (me_var (pv 2)) (fun _ _ => rfl)) (ma_cons (me_ix io_seq (me_var (pv 1)) (me_var (pv 2)) (fun _ _ => rfl)) ma_nil))))) ma_nil)))))))))))
theorem ok_law_lowest {N : Nat} (F : Fun K "_law_lowest" "_law_lowest" s_law_lowest f fd) (M : Bu mg)  : FnOk P w K mg base CX0 1 f fd ["top", "bottom"] (spM P w K (m_law_lowest N)) :=
  fn_ok F sc_law_lowest fun cdv A outer s H E hr => (mss_cons (ms_par (i := 2) (j := 3) (by rfl) sc_law_lowest.nd rfl rfl (by decide) rfl rfl (ma_cons (me_callB co_abs (by rfl) M.z_abs (by decide +kernel) (ma_cons (me_var (pv 0)) ma_nil)) (ma_cons (me_var (pv 1)) ma_nil)) (by rfl))
      (mss_cons (ms_while N PassesOwn.never (mt_cmp (bo_ne hr.units) (me_var (pv 3)) me_int (nomark _)) (mss_one (ms_par (i := 2) (j := 3) (by rfl) sc_law_lowest.nd rfl rfl (by decide) rfl rfl (ma_cons (me_var (pv 3)) (ma_cons (me_op bo_mod (me_callTy co_int (by rfl) M.z_int (by decide +kernel) (ma_cons (me_var (pv 2)) ma_nil)) (me_var (pv 3))) ma_nil)) (by rfl))))
      (mss_one (ms_ret (me_tup (ma_cons (me_op bo_div (me_var (pv 0)) (me_var (pv 2))) (ma_cons (me_op bo_div (me_var (pv 1)) (me_var (pv 2))) ma_nil)))))))
theorem ok_law_power {N : Nat} (F : Fun K "_law_power" "_law_power" s_law_power f fd) (M : Bu mg)  : FnOk P w K mg base CX0 1 f fd ["many"] (spM P w K (m_law_power N)) :=
  fn_ok F sc_law_power fun cdv A outer s H E hr => (mss_cons (ms_set (i := 1) sc_law_power.nd rfl (Or.inl rfl) me_int)
      (mss_cons (ms_for (t := (.nm 2)) PassesOwn.never rfl (mi_rng1 rfl M.z_range (ma_cons (me_var (pv 0)) ma_nil)) (mg_name (pg_name (i := 2) sc_law_power.nd rfl (Or.inl rfl))) (mss_one (ms_set (i := 1) sc_law_power.nd rfl (Or.inl rfl) (me_op bo_mul me_int (me_var (pv 1))))))
      (mss_one (ms_ret (me_var (pv 1))))))
theorem ok_law_number {N : Nat} (F : Fun K "_law_number" "_law_number" s_law_number f fd) (M : Bu mg) (c_law_lowest : Sk.Cal P w K mg base 1 "_law_lowest" ["top", "bottom"] (spM P w K (m_law_lowest N))) (c_law_draw : Sk.Cal P w K mg base 1 "_law_draw" ["well", "many"] (spM P w K (m_law_draw N))) (c_law_power : Sk.Cal P w K mg base 1 "_law_power" ["many"] (spM P w K (m_law_power N))) : FnOk P w K mg base CX0 2 f fd ["well", "most"] (spM P w K (m_law_number N)) :=
  fn_ok F sc_law_number fun cdv A outer s H E hr => (mss_cons (ms_par (i := 3) (j := 4) (by rfl) sc_law_number.nd rfl rfl (by decide) rfl rfl (ma_cons (me_call c_law_draw hr (by decide) (ma_cons (me_var (pv 0)) (ma_cons me_int ma_nil))) (ma_cons (me_op bo_sub me_int (me_op bo_mul me_int (me_call c_law_draw hr (by decide) (ma_cons (me_var (pv 0)) (ma_cons me_int ma_nil))))) ma_nil)) (by rfl))
      (mss_cons (ms_if (mt_cmp (bo_lt hr.units) (me_var (pv 3)) me_int (nomark _)) (mss_one (ms_ret (me_tup (ma_cons (me_op bo_mul (me_call c_law_draw hr (by decide) (ma_cons (me_var (pv 0)) (ma_cons me_int ma_nil))) (me_var (pv 4))) (ma_cons me_int ma_nil))))) mss_nil)
      (mss_cons (ms_if (mt_cmp (bo_lt hr.units) (me_var (pv 3)) me_int (nomark _)) (mss_one (ms_ret (me_call c_law_lowest hr (by decide) (ma_cons (me_op bo_mul (me_var (pv 4)) (me_call c_law_draw hr (by decide) (ma_cons (me_var (pv 0)) (ma_cons me_int ma_nil)))) (ma_cons (me_op bo_add me_int (me_call c_law_draw hr (by decide) (ma_cons (me_var (pv 0)) (ma_cons me_int ma_nil)))) ma_nil))))) mss_nil)
      (mss_cons (ms_if (mt_cmp (bo_eq hr.units) (me_var (pv 3)) me_int (nomark _)) (mss_cons (ms_set (i := 5) sc_law_number.nd rfl (Or.inl rfl) (me_op bo_sub (me_call c_law_power hr (by decide) (ma_cons (me_var (pv 1)) ma_nil)) me_int))
      (mss_one (ms_ret (me_call c_law_lowest hr (by decide) (ma_cons (me_op bo_mul (me_var (pv 4)) (me_op bo_sub (me_var (pv 5)) (me_call c_law_draw hr (by decide) (ma_cons (me_var (pv 0)) (ma_cons me_int ma_nil))))) (ma_cons (me_op bo_sub (me_var (pv 5)) (me_call c_law_draw hr (by decide) (ma_cons (me_var (pv 0)) (ma_cons me_int ma_nil)))) ma_nil)))))) mss_nil)
      (mss_cons (ms_if (mt_cmp (bo_eq hr.units) (me_var (pv 3)) me_int (nomark _)) (mss_one (ms_ret (me_tup (ma_cons (me_op bo_mul (me_var (pv 4)) (me_op bo_add (me_call c_law_power hr (by decide) (ma_cons (me_call c_law_draw hr (by decide) (ma_cons (me_var (pv 0)) (ma_cons (me_var (pv 1)) ma_nil))) ma_nil)) (me_call c_law_draw hr (by decide) (ma_cons (me_var (pv 0)) (ma_cons me_int ma_nil))))) (ma_cons me_int ma_nil))))) mss_nil)
      (mss_cons (ms_set (i := 2) sc_law_number.nd rfl (Or.inl rfl) (me_op bo_add me_int (me_call c_law_draw hr (by decide) (ma_cons (me_var (pv 0)) (ma_cons (me_call c_law_power hr (by decide) (ma_cons (me_call c_law_draw hr (by decide) (ma_cons (me_var (pv 0)) (ma_cons (me_var (pv 1)) ma_nil))) ma_nil)) ma_nil)))))
      (mss_one (ms_ret (me_call c_law_lowest hr (by decide) (ma_cons (me_op bo_mul (me_var (pv 4)) (me_call c_law_draw hr (by decide) (ma_cons (me_var (pv 0)) (ma_cons (me_call c_law_power hr (by decide) (ma_cons (me_var (pv 1)) ma_nil)) ma_nil)))) (ma_cons (me_var (pv 2)) ma_nil)))))))))))
theorem ok_law_address {N : Nat} (F : Fun K "_law_address" "_law_address" s_law_address f fd) (M : Bu mg) (c_law_draw : Sk.Cal P w K mg base 1 "_law_draw" ["well", "many"] (spM P w K (m_law_draw N))) : FnOk P w K mg base CX0 2 f fd ["well"] (spM P w K (m_law_address N)) :=
  fn_ok F sc_law_address fun cdv A outer s H E hr => (mss_cons (ms_set (i := 1) sc_law_address.nd rfl (Or.inl rfl) (me_lst (ma_cons (me_ix io_seq (me_lst (ma_cons me_int (ma_cons me_int (ma_cons me_int (ma_cons me_int (ma_cons me_int ma_nil)))))) (me_call c_law_draw hr (by decide) (ma_cons (me_var (pv 0)) (ma_cons me_int ma_nil))) (fun _ _ => rfl)) (ma_cons (me_ix io_seq (me_lst (ma_cons me_int (ma_cons me_int (ma_cons me_int (ma_cons me_int (ma_cons me_int (ma_cons me_int ma_nil))))))) (me_call c_law_draw hr (by decide) (ma_cons (me_var (pv 0)) (ma_cons me_int ma_nil))) (fun _ _ => rfl)) ma_nil))))
      (mss_cons (ms_set (i := 2) sc_law_address.nd rfl (Or.inr rfl) (me_ix io_seq (me_lst (ma_cons me_int (ma_cons me_int (ma_cons me_int (ma_cons me_int ma_nil))))) (me_call c_law_draw hr (by decide) (ma_cons (me_var (pv 0)) (ma_cons me_int ma_nil))) (fun _ _ => rfl)))
      (mss_one (ms_ret (me_tuple (by rfl) M.z_tuple (me_lc (own := [("size", 3)]) (t := (.nm 3)) rfl sc_law_address.nd (mi_seq (me_var (pv 1))) (blkOk_by (N := ["well", "sizes", "wide", "size", "turn"]) (sc := defScope s_law_address) (by decide +kernel)) (by rfl) (fun _ _ _ _ _ => (mg_name (pg_name (i := 3) sc_law_address.nd rfl (Or.inl rfl)))) (fun _ _ _ _ _ => mts_nil) (fun _ _ _ _ _ => (me_tuple (by rfl) M.z_tuple (me_lc (own := [("turn", 4)]) (t := (.nm 4)) rfl sc_law_address.nd (mi_rng1 rfl M.z_range (ma_cons (me_var (pv 3)) ma_nil)) (blkOk_by (N := ["well", "sizes", "wide", "size", "turn"]) (sc := { kind := .function, names := [(".0", .local), ("size", .local), ("tuple", .globalImplicit), ("range", .globalImplicit), ("well", .cell), ("wide", .cell)], isGenerator := false, isCoroutine := false }) (by decide +kernel)) (by rfl) (fun _ _ _ _ _ => (mg_name (pg_name (i := 4) sc_law_address.nd rfl (Or.inl rfl)))) (fun _ _ _ _ _ => mts_nil) (fun _ _ _ _ _ => (me_call c_law_draw hr (by decide) (ma_cons (me_var (pv 0)) (ma_cons (me_var (pv 2)) ma_nil)))))))))))))
theorem ok_law_said_number {N : Nat} (F : Fun K "_law_said_number" "_law_said_number" s_law_said_number f fd) (M : Bu mg)  : FnOk P w K mg base CX0 1 f fd ["number"] (spM P w K (m_law_said_number N)) :=
  fn_ok F sc_law_said_number fun cdv A outer s H E hr => (mss_cons (ms_if (mt_cmp (bo_eq hr.units) (me_ix io_seq (me_var (pv 0)) me_int (fun _ _ => rfl)) me_int (nomark _)) (mss_one (ms_ret (me_callTy co_str (by rfl) M.z_str (by decide +kernel) (ma_cons (me_ix io_seq (me_var (pv 0)) me_int (fun _ _ => rfl)) ma_nil)))) mss_nil)
      (mss_one (ms_ret (me_op bo_addS (me_op bo_addS (me_callTy co_str (by rfl) M.z_str (by decide +kernel) (ma_cons (me_ix io_seq (me_var (pv 0)) me_int (fun _ _ => rfl)) ma_nil)) me_str) (me_callTy co_str (by rfl) M.z_str (by decide +kernel) (ma_cons (me_ix io_seq (me_var (pv 0)) me_int (fun _ _ => rfl)) ma_nil))))))
theorem ok_law_said_address {N : Nat} (F : Fun K "_law_said_address" "_law_said_address" s_law_said_address f fd) (M : Bu mg)  : FnOk P w K mg base CX0 1 f fd ["address"] (spM P w K (m_law_said_address N)) :=
  fn_ok F sc_law_said_address fun cdv A outer s H E hr => (mss_cons (ms_set (i := 1) sc_law_said_address.nd rfl (Or.inl rfl) (me_op bo_add (me_op bo_add (me_op bo_add (me_lc (own := [("place", 2)]) (t := (.nm 2)) rfl sc_law_said_address.nd (mi_seq (me_ix io_seq (me_var (pv 0)) me_int (fun _ _ => rfl))) (blkOk_by (N := ["address", "words", "place"]) (sc := defScope s_law_said_address) (by decide +kernel)) (by rfl) (fun _ _ _ _ _ => (mg_name (pg_name (i := 2) sc_law_said_address.nd rfl (Or.inl rfl)))) (fun _ _ _ _ _ => mts_nil) (fun _ _ _ _ _ => (me_callTy co_str (by rfl) M.z_str (by decide +kernel) (ma_cons (me_var (pv 2)) ma_nil)))) (me_lst (ma_cons me_str ma_nil))) (me_lc (own := [("place", 2)]) (t := (.nm 2)) rfl sc_law_said_address.nd (mi_seq (me_ix io_seq (me_var (pv 0)) me_int (fun _ _ => rfl))) (blkOk_by (N := ["address", "words", "place"]) (sc := defScope s_law_said_address) (by decide +kernel)) (by rfl) (fun _ _ _ _ _ => (mg_name (pg_name (i := 2) sc_law_said_address.nd rfl (Or.inl rfl)))) (fun _ _ _ _ _ => mts_nil) (fun _ _ _ _ _ => (me_callTy co_str (by rfl) M.z_str (by decide +kernel) (ma_cons (me_var (pv 2)) ma_nil))))) (me_lst (ma_cons me_str ma_nil))))
      (mss_one (ms_ret (me_join me_str (me_var (pv 1))))))
theorem ok_law_sign {N : Nat} (F : Fun K "_law_sign" "_law_sign" s_law_sign f fd) (M : Bu mg) (c_law_draw : Sk.Cal P w K mg base 1 "_law_draw" ["well", "many"] (spM P w K (m_law_draw N))) : FnOk P w K mg base CX0 2 f fd ["well"] (spM P w K (m_law_sign N)) :=
  fn_ok F sc_law_sign fun cdv A outer s H E hr => (mss_cons (ms_set (i := 1) sc_law_sign.nd rfl (Or.inl rfl) me_str)
      (mss_cons (ms_set (i := 1) sc_law_sign.nd rfl (Or.inl rfl) (me_ix io_seq (me_lst (ma_cons (me_op bo_addS (me_var (pv 1)) me_str) (ma_cons me_str ma_nil))) (me_call c_law_draw hr (by decide) (ma_cons (me_var (pv 0)) (ma_cons me_int ma_nil))) (fun _ _ => rfl)))
      (mss_one (ms_ret (me_ix io_str (me_var (pv 1)) (me_call c_law_draw hr (by decide) (ma_cons (me_var (pv 0)) (ma_cons (me_callB co_lenS (by rfl) M.z_len (by decide +kernel) (ma_cons (me_var (pv 1)) ma_nil)) ma_nil))) (fun _ _ => rfl))))))
theorem ok_law_odd_word {N : Nat} (F : Fun K "_law_odd_word" "_law_odd_word" s_law_odd_word f fd) (M : Bu mg) (c_law_draw : Sk.Cal P w K mg base 1 "_law_draw" ["well", "many"] (spM P w K (m_law_draw N))) : FnOk P w K mg base CX0 2 f fd ["well"] (spM P w K (m_law_odd_word N)) :=
  fn_ok F sc_law_odd_word fun cdv A outer s H E hr => (mss_cons (ms_set (i := 1) sc_law_odd_word.nd rfl (Or.inl rfl) (me_lst (ma_cons me_str (ma_cons me_str (ma_cons me_str (ma_cons me_str (ma_cons me_str (ma_cons me_str (ma_cons me_str (ma_cons me_str (ma_cons me_str (ma_cons me_str (ma_cons me_str (ma_cons me_str (ma_cons me_str (ma_cons me_str (ma_cons me_str ma_nil)))))))))))))))))
      (mss_cons (ms_set (i := 1) sc_law_odd_word.nd rfl (Or.inl rfl) (me_op bo_add (me_var (pv 1)) (me_lst (ma_cons me_str (ma_cons me_str (ma_cons me_str (ma_cons me_str (ma_cons me_str (ma_cons me_str (ma_cons me_str (ma_cons me_str (ma_cons me_str (ma_cons me_str (ma_cons me_str (ma_cons me_str (ma_cons me_str (ma_cons me_str ma_nil)))))))))))))))))
      (mss_cons (ms_set (i := 1) sc_law_odd_word.nd rfl (Or.inl rfl) (me_op bo_add (me_var (pv 1)) (me_lst (ma_cons (me_op bo_repS me_str me_int) (ma_cons (me_op bo_addS me_str (me_op bo_repS me_str me_int)) (ma_cons (me_op bo_addS me_str (me_op bo_repS me_str me_int)) (ma_cons (me_op bo_addS me_str (me_op bo_repS me_str me_int)) (ma_cons (me_op bo_addS me_str (me_op bo_repS me_str me_int)) (ma_cons (me_op bo_repS me_str me_int) ma_nil)))))))))
      (mss_cons (ms_set (i := 1) sc_law_odd_word.nd rfl (Or.inl rfl) (me_op bo_add (me_var (pv 1)) (me_lst (ma_cons (me_op bo_repS me_str me_int) (ma_cons me_str (ma_cons me_str (ma_cons me_str (ma_cons me_str (ma_cons me_str (ma_cons me_str (ma_cons me_str (ma_cons me_str (ma_cons me_str (ma_cons me_str (ma_cons me_str (ma_cons me_str ma_nil))))))))))))))))
      (mss_cons (ms_set (i := 1) sc_law_odd_word.nd rfl (Or.inl rfl) (me_op bo_add (me_var (pv 1)) (me_lst (ma_cons me_str (ma_cons me_str (ma_cons me_str (ma_cons me_str (ma_cons me_str (ma_cons me_str (ma_cons me_str (ma_cons me_str (ma_cons me_str (ma_cons me_str (ma_cons me_str (ma_cons me_str (ma_cons me_str ma_nil))))))))))))))))
      (mss_cons (ms_set (i := 1) sc_law_odd_word.nd rfl (Or.inl rfl) (me_op bo_add (me_var (pv 1)) (me_lst (ma_cons me_str (ma_cons me_str (ma_cons me_str (ma_cons me_str ma_nil)))))))
      (mss_one (ms_ret (me_ix io_seq (me_var (pv 1)) (me_call c_law_draw hr (by decide) (ma_cons (me_var (pv 0)) (ma_cons (me_callB co_len (by rfl) M.z_len (by decide +kernel) (ma_cons (me_var (pv 1)) ma_nil)) ma_nil))) (fun _ _ => rfl))))))))))
theorem ok_law_bent_signs {N : Nat} (F : Fun K "_law_bent_signs" "_law_bent_signs" s_law_bent_signs f fd) (M : Bu mg) (c_law_draw : Sk.Cal P w K mg base 1 "_law_draw" ["well", "many"] (spM P w K (m_law_draw N))) (c_law_sign : Sk.Cal P w K mg base 2 "_law_sign" ["well"] (spM P w K (m_law_sign N))) : FnOk P w K mg base CX0 3 f fd ["well", "text"] (spM P w K (m_law_bent_signs N)) :=
  fn_ok F sc_law_bent_signs fun cdv A outer s H E hr => (mss_cons (ms_par (i := 2) (j := 3) (by rfl) sc_law_bent_signs.nd rfl rfl (by decide) rfl rfl (ma_cons (me_call c_law_draw hr (by decide) (ma_cons (me_var (pv 0)) (ma_cons (me_op bo_add (me_callB co_lenS (by rfl) M.z_len (by decide +kernel) (ma_cons (me_var (pv 1)) ma_nil)) me_int) ma_nil))) (ma_cons (me_call c_law_draw hr (by decide) (ma_cons (me_var (pv 0)) (ma_cons me_int ma_nil))) ma_nil)) (by rfl))
      (mss_cons (ms_if (mt_cmp (bo_eq hr.units) (me_var (pv 3)) me_int (nomark _)) (mss_one (ms_ret (me_op bo_addS (me_op bo_addS (me_slS (me_var (pv 1)) mo_none (mo_some (me_var (pv 2)))) (me_call c_law_sign hr (by decide) (ma_cons (me_var (pv 0)) ma_nil))) (me_slS (me_var (pv 1)) (mo_some (me_var (pv 2))) mo_none)))) mss_nil)
      (mss_cons (ms_if (mt_cmp (bo_eq hr.units) (me_var (pv 3)) me_int (nomark _)) (mss_one (ms_ret (me_op bo_addS (me_op bo_addS (me_slS (me_var (pv 1)) mo_none (mo_some (me_var (pv 2)))) (me_call c_law_sign hr (by decide) (ma_cons (me_var (pv 0)) ma_nil))) (me_slS (me_var (pv 1)) (mo_some (me_op bo_add (me_var (pv 2)) me_int)) mo_none)))) mss_nil)
      (mss_cons (ms_if (mt_cmp (bo_eq hr.units) (me_var (pv 3)) me_int (nomark _)) (mss_one (ms_ret (me_op bo_addS (me_slS (me_var (pv 1)) mo_none (mo_some (me_var (pv 2)))) (me_slS (me_var (pv 1)) (mo_some (me_op bo_add (me_var (pv 2)) me_int)) mo_none)))) mss_nil)
      (mss_one (ms_ret (me_op bo_addS (me_op bo_addS (me_op bo_addS (me_slS (me_var (pv 1)) mo_none (mo_some (me_var (pv 2)))) (me_slS (me_var (pv 1)) (mo_some (me_op bo_add (me_var (pv 2)) me_int)) (mo_some (me_op bo_add (me_var (pv 2)) me_int)))) (me_slS (me_var (pv 1)) (mo_some (me_var (pv 2))) (mo_some (me_op bo_add (me_var (pv 2)) me_int)))) (me_slS (me_var (pv 1)) (mo_some (me_op bo_add (me_var (pv 2)) me_int)) mo_none))))))))
theorem ok_law_bent_parts {N : Nat} (F : Fun K "_law_bent_parts" "_law_bent_parts" s_law_bent_parts f fd) (M : Bu mg) (c_law_draw : Sk.Cal P w K mg base 1 "_law_draw" ["well", "many"] (spM P w K (m_law_draw N))) : FnOk P w K mg base CX0 2 f fd ["well", "text", "between", "odd"] (spM P w K (m_law_bent_parts N)) :=
  fn_ok F sc_law_bent_parts fun cdv A outer s H E hr => (mss_cons (ms_set (i := 4) sc_law_bent_parts.nd rfl (Or.inl rfl) (me_splitC (me_var (pv 1)) (me_var (pv 2))))
      (mss_cons (ms_par (i := 6) (j := 7) (by rfl) sc_law_bent_parts.nd rfl rfl (by decide) rfl rfl (ma_cons (me_call c_law_draw hr (by decide) (ma_cons (me_var (pv 0)) (ma_cons (me_callB co_len (by rfl) M.z_len (by decide +kernel) (ma_cons (me_var (pv 4)) ma_nil)) ma_nil))) (ma_cons (me_call c_law_draw hr (by decide) (ma_cons (me_var (pv 0)) (ma_cons me_int ma_nil))) ma_nil)) (by rfl))
      (mss_cons (ms_set (i := 5) sc_law_bent_parts.nd rfl (Or.inl rfl) (me_call c_law_draw hr (by decide) (ma_cons (me_var (pv 0)) (ma_cons (me_callB co_len (by rfl) M.z_len (by decide +kernel) (ma_cons (me_var (pv 4)) ma_nil)) ma_nil))))
      (mss_cons (ms_if (mt_cmp (bo_eq hr.units) (me_var (pv 7)) me_int (nomark _)) (mss_one (ms_expr (me_methL mt_ins md_ins (me_var (pv 4)) (ma_cons (me_var (pv 5)) (ma_cons (me_ix io_seq (me_var (pv 4)) (me_var (pv 6)) (fun _ _ => rfl)) ma_nil)) (fun to t h1 h2 h3 => pe_bm PySem.F.plainAttrs_list PySem.F.slot_list_insert PySem.F.type_list_insert h1 h2 h3)))) (mss_one (ms_if (mt_cmp (bo_eq hr.units) (me_var (pv 7)) me_int (nomark _)) (mss_one (ms_expr (me_methL mt_popAt md_popAt (me_var (pv 4)) (ma_cons (me_var (pv 6)) ma_nil) (fun to t h1 h2 h3 => pe_bm PySem.F.plainAttrs_list PySem.F.slot_list_pop PySem.F.type_list_pop h1 h2 h3)))) (mss_one (ms_if (mt_cmp (bo_eq hr.units) (me_var (pv 7)) me_int (nomark _)) (mss_cons (ms_set (i := 8) sc_law_bent_parts.nd rfl (Or.inl rfl) (me_ix io_seq (me_var (pv 4)) (me_var (pv 6)) (fun _ _ => rfl)))
      (mss_cons (ms_put (po_any hr) (me_ix io_seq (me_var (pv 4)) (me_var (pv 5)) (fun _ _ => rfl)) (me_var (pv 4)) (me_var (pv 6)) (fun t te to ti h1 h2 h3 h4 => ps_asg h2 (pg_sub h3 h4 h1)))
      (mss_one (ms_put (po_any hr) (me_var (pv 8)) (me_var (pv 4)) (me_var (pv 5)) (fun t te to ti h1 h2 h3 h4 => ps_asg h2 (pg_sub h3 h4 h1)))))) (mss_one (ms_put (po_any hr) (me_var (pv 3)) (me_var (pv 4)) (me_var (pv 6)) (fun t te to ti h1 h2 h3 h4 => ps_asg h2 (pg_sub h3 h4 h1)))))))))
      (mss_one (ms_ret (me_join (me_var (pv 2)) (me_var (pv 4)))))))))
theorem ok_law_integer_in {N : Nat} (F : Fun K "_law_integer_in" "_law_integer_in" s_law_integer_in f fd) (M : Bu mg)  : FnOk P w K mg base CX0 1 f fd ["word"] (spM P w K (m_law_integer_in N)) :=
  fn_ok F sc_law_integer_in fun cdv A outer s H E hr => (mss_cons (ms_set (i := 1) sc_law_integer_in.nd rfl (Or.inl rfl) (me_ifExp (mt_cmp (bo_eq hr.units) (me_slS (me_var (pv 0)) mo_none (mo_some me_int)) me_str (nomark _)) (me_slS (me_var (pv 0)) (mo_some me_int) mo_none) (me_var (pv 0))))
      (mss_cons (ms_if (PW.pt (mw_or (mt_cmp (bo_eq hr.units) (me_var (pv 1)) me_str (nomark _)) (mw_or (mt_cmp bo_gt (me_callB co_lenS (by rfl) M.z_len (by decide +kernel) (ma_cons (me_var (pv 1)) ma_nil)) me_int (nomark _)) (mw_or1 (mt_cmp (bo_ne hr.units) (me_lc (own := [("sign", 2)]) (t := (.nm 2)) rfl sc_law_integer_in.nd (mi_chars (me_var (pv 1))) (blkOk_by (N := ["word", "body", "sign"]) (sc := defScope s_law_integer_in) (by decide +kernel)) (by rfl) (fun _ _ _ _ _ => (mg_name (pg_name (i := 2) sc_law_integer_in.nd rfl (Or.inl rfl)))) (fun _ _ _ _ _ => (mts_one (mt_cmp bo_notInC (me_var (pv 2)) me_str (by rfl)))) (fun _ _ _ _ _ => (me_var (pv 2)))) (me_lst ma_nil) (nomark _)))))) (mss_one (ms_ret (me_lst ma_nil))) mss_nil)
      (mss_one (ms_ret (me_ifExp (PW.pt (mw_and (mt_cmp (bo_eq hr.units) (me_ix io_str (me_var (pv 1)) me_int (fun _ _ => rfl)) me_str (nomark _)) (mw_and1 (mt_cmp (bo_ne hr.units) (me_var (pv 0)) me_str (nomark _))))) (me_lst ma_nil) (me_lst (ma_cons (me_callTy co_intS (by rfl) M.z_int (by decide +kernel) (ma_cons (me_var (pv 0)) ma_nil)) ma_nil)))))))
theorem ok_law_number_in {N : Nat} (F : Fun K "_law_number_in" "_law_number_in" s_law_number_in f fd) (M : Bu mg) (c_law_integer_in : Sk.Cal P w K mg base 1 "_law_integer_in" ["word"] (spM P w K (m_law_integer_in N))) (c_law_lowest : Sk.Cal P w K mg base 1 "_law_lowest" ["top", "bottom"] (spM P w K (m_law_lowest N))) : FnOk P w K mg base CX0 2 f fd ["word"] (spM P w K (m_law_number_in N)) :=
  fn_ok F sc_law_number_in fun cdv A outer s H E hr => (mss_cons (ms_set (i := 1) sc_law_number_in.nd rfl (Or.inl rfl) (me_find (me_var (pv 0)) me_str))
      (mss_cons (ms_set (i := 2) sc_law_number_in.nd rfl (Or.inl rfl) (me_call c_law_integer_in hr (by decide) (ma_cons (me_ifExp (mt_cmp (bo_lt hr.units) (me_var (pv 1)) me_int (nomark _)) (me_var (pv 0)) (me_slS (me_var (pv 0)) mo_none (mo_some (me_var (pv 1))))) ma_nil)))
      (mss_cons (ms_if (PW.pt (mw_or (mt_cmp (bo_eq hr.units) (me_var (pv 2)) (me_lst ma_nil) (nomark _)) (mw_or1 (mt_cmp (bo_lt hr.units) (me_var (pv 1)) me_int (nomark _))))) (mss_one (ms_ret (me_lc (own := [("top", 4)]) (t := (.nm 4)) rfl sc_law_number_in.nd (mi_seq (me_var (pv 2))) (blkOk_by (N := ["word", "at", "tops", "bottoms", "top"]) (sc := defScope s_law_number_in) (by decide +kernel)) (by rfl) (fun _ _ _ _ _ => (mg_name (pg_name (i := 4) sc_law_number_in.nd rfl (Or.inl rfl)))) (fun _ _ _ _ _ => mts_nil) (fun _ _ _ _ _ => (me_tup (ma_cons (me_var (pv 4)) (ma_cons me_int ma_nil))))))) mss_nil)
      (mss_cons (ms_set (i := 3) sc_law_number_in.nd rfl (Or.inl rfl) (me_call c_law_integer_in hr (by decide) (ma_cons (me_slS (me_var (pv 0)) (mo_some (me_op bo_add (me_var (pv 1)) me_int)) mo_none) ma_nil)))
      (mss_cons (ms_if (PW.pt (mw_or (mt_cmp (bo_eq hr.units) (me_var (pv 3)) (me_lst ma_nil) (nomark _)) (mw_or (mt_cmp (bo_lt hr.units) (me_ix io_seq (me_var (pv 3)) me_int (fun _ _ => rfl)) me_int (nomark _)) (mw_or1 (mt_cmp (bo_ne hr.units) (me_ix io_seq (me_call c_law_lowest hr (by decide) (ma_cons (me_ix io_seq (me_var (pv 2)) me_int (fun _ _ => rfl)) (ma_cons (me_ix io_seq (me_var (pv 3)) me_int (fun _ _ => rfl)) ma_nil))) me_int (fun _ _ => rfl)) (me_ix io_seq (me_var (pv 3)) me_int (fun _ _ => rfl)) (nomark _)))))) (mss_one (ms_ret (me_lst ma_nil))) mss_nil)
      (mss_one (ms_ret (me_lst (ma_cons (me_tup (ma_cons (me_ix io_seq (me_var (pv 2)) me_int (fun _ _ => rfl)) (ma_cons (me_ix io_seq (me_var (pv 3)) me_int (fun _ _ => rfl)) ma_nil))) ma_nil)))))))))
theorem ok_law_numbers_in {N : Nat} (F : Fun K "_law_numbers_in" "_law_numbers_in" s_law_numbers_in f fd) (M : Bu mg) (c_law_number_in : Sk.Cal P w K mg base 2 "_law_number_in" ["word"] (spM P w K (m_law_number_in N))) : FnOk P w K mg base CX0 3 f fd ["line"] (spM P w K (m_law_numbers_in N)) :=
  fn_ok F sc_law_numbers_in fun cdv A outer s H E hr => (mss_cons (ms_setLc (i := 1) (own := [("word", 2)]) (t := (.nm 2)) rfl sc_law_numbers_in.nd rfl rfl (sw_true rfl rfl rfl (by decide +kernel)) (mi_seq (me_split (me_var (pv 0)) me_str)) (blkOk_by (N := ["line", "found", "word", "one"]) (sc := defScope s_law_numbers_in) (by decide +kernel)) (by rfl) (fun _ _ _ _ _ => (mg_name (pg_name (i := 2) sc_law_numbers_in.nd rfl (Or.inl rfl)))) (fun _ _ _ _ _ => mts_nil) (fun _ _ _ _ _ => (me_call c_law_number_in hr (by decide) (ma_cons (me_var (pv 2)) ma_nil))))
      (mss_one (ms_ret (me_ifExp (mt_cmp (bo_in hr) (me_lst ma_nil) (me_var (pv 1)) (by rfl)) (me_lst ma_nil) (me_lst (ma_cons (me_tuple (by rfl) M.z_tuple (me_lc (own := [("one", 3)]) (t := (.nm 3)) rfl sc_law_numbers_in.nd (mi_seq (me_var (pv 1))) (blkOk_by (N := ["line", "found", "word", "one"]) (sc := defScope s_law_numbers_in) (by decide +kernel)) (by rfl) (fun _ _ _ _ _ => (mg_name (pg_name (i := 3) sc_law_numbers_in.nd rfl (Or.inl rfl)))) (fun _ _ _ _ _ => mts_nil) (fun _ _ _ _ _ => (me_ix io_seq (me_var (pv 3)) me_int (fun _ _ => rfl))))) ma_nil))))))
theorem ok_law_address_in {N : Nat} (F : Fun K "_law_address_in" "_law_address_in" s_law_address_in f fd) (M : Bu mg) (c_law_integer_in : Sk.Cal P w K mg base 1 "_law_integer_in" ["word"] (spM P w K (m_law_integer_in N))) : FnOk P w K mg base CX0 2 f fd ["line"] (spM P w K (m_law_address_in N)) :=
  fn_ok F sc_law_address_in fun cdv A outer s H E hr => (mss_cons (ms_par3 (i := 2) (j := 3) (l := 4) (by rfl) sc_law_address_in.nd rfl rfl rfl (by decide) (by decide) (by decide) rfl rfl rfl (ma_cons (me_split (me_var (pv 0)) me_str) (ma_cons (me_lstC (ma_cons (me_lst ma_nil) (ma_cons (me_lst ma_nil) ma_nil))) (ma_cons me_int ma_nil))) (by rfl))
      (mss_cons (ms_if (mt_cmp (bo_ne hr.units) (me_ix io_seq (me_var (pv 2)) (me_un uo_neg' me_int) (fun _ _ => rfl)) me_str (nomark _)) (mss_one (ms_ret (me_lst ma_nil))) mss_nil)
      (mss_cons (ms_for (t := (.nm 1)) PassesOwn.never rfl (mi_seq (me_sl (me_var (pv 2)) mo_none (mo_some (me_un uo_neg' me_int)))) (mg_name (pg_name (i := 1) sc_law_address_in.nd rfl (Or.inl rfl))) (mss_cons (ms_set (i := 5) sc_law_address_in.nd rfl (Or.inl rfl) (me_call c_law_integer_in hr (by decide) (ma_cons (me_var (pv 1)) ma_nil)))
      (mss_one (ms_if (PW.pt (mw_and (mt_cmp (bo_eq hr.units) (me_var (pv 1)) me_str (nomark _)) (mw_and1 (mt_cmp (bo_eq hr.units) (me_var (pv 4)) me_int (nomark _))))) (mss_one (ms_set (i := 4) sc_law_address_in.nd rfl (Or.inl rfl) me_int)) (mss_one (ms_if (PW.pt (mw_or (mt_cmp (bo_eq hr.units) (me_var (pv 5)) (me_lst ma_nil) (nomark _)) (mw_or1 (mt_cmp (bo_lt hr.units) (me_ix io_seq (me_var (pv 5)) me_int (fun _ _ => rfl)) me_int (nomark _))))) (mss_one (ms_ret (me_lst ma_nil))) (mss_one (ms_put (po_any hr) (me_op bo_add (me_ix io_seq (me_var (pv 3)) (me_var (pv 4)) (fun _ _ => rfl)) (me_var (pv 5))) (me_var (pv 3)) (me_var (pv 4)) (fun t te to ti h1 h2 h3 h4 => ps_asg h2 (pg_sub h3 h4 h1))))))))))
      (mss_one (ms_ret (me_ifExp (PW.pt (mw_and (mt_cmp (bo_eq hr.units) (me_var (pv 4)) me_int (nomark _)) (mw_and1 (mt_cmp (bo_ne hr.units) (me_ix io_seq (me_var (pv 3)) me_int (fun _ _ => rfl)) (me_lst ma_nil) (nomark _))))) (me_lst (ma_cons (me_tup (ma_cons (me_tuple (by rfl) M.z_tuple (me_ix io_seq (me_var (pv 3)) me_int (fun _ _ => rfl))) (ma_cons (me_tuple (by rfl) M.z_tuple (me_ix io_seq (me_var (pv 3)) me_int (fun _ _ => rfl))) ma_nil))) ma_nil)) (me_lst ma_nil)))))))
theorem ok_law_due {N : Nat} (F : Fun K "_law_due" "_law_due" s_law_due f fd) (M : Bu mg) (c_law_address_in : Sk.Cal P w K mg base 2 "_law_address_in" ["line"] (spM P w K (m_law_address_in N))) (c_law_number_in : Sk.Cal P w K mg base 2 "_law_number_in" ["word"] (spM P w K (m_law_number_in N))) (c_law_numbers_in : Sk.Cal P w K mg base 3 "_law_numbers_in" ["line"] (spM P w K (m_law_numbers_in N))) : FnOk P w K mg base CX0 4 f fd ["door", "text"] (spM P w K (m_law_due N)) :=
  fn_ok F sc_law_due fun cdv A outer s H E hr => (mss_cons (ms_set (i := 2) sc_law_due.nd rfl (Or.inl rfl) (me_ix io_seq (me_split (me_var (pv 1)) me_str) me_int (fun _ _ => rfl)))
      (mss_cons (ms_set (i := 3) sc_law_due.nd rfl (Or.inl rfl) (me_call c_law_address_in hr (by decide) (ma_cons (me_var (pv 2)) ma_nil)))
      (mss_cons (ms_if (mt_cmp (bo_lt hr.units) (me_var (pv 0)) me_int (nomark _)) (mss_one (ms_set (i := 3) sc_law_due.nd rfl (Or.inl rfl) (me_ifExp (mt_cmp (bo_eq hr.units) (me_var (pv 0)) me_int (nomark _)) (me_call c_law_number_in hr (by decide) (ma_cons (me_var (pv 2)) ma_nil)) (me_call c_law_numbers_in hr (by decide) (ma_cons (me_var (pv 2)) ma_nil))))) mss_nil)
      (mss_cons (ms_if (PW.pt (mw_or (mt_cmp (bo_eq hr.units) (me_var (pv 3)) (me_lst ma_nil) (nomark _)) (mw_or1 (PW.pt (mw_and (mt_cmp (bo_eq hr.units) (me_var (pv 0)) me_int (nomark _)) (mw_and1 (mt_cmp (bo_ne hr.units) (me_callB co_len (by rfl) M.z_len (by decide +kernel) (ma_cons (me_ix io_seq (me_var (pv 3)) me_int (fun _ _ => rfl)) ma_nil)) me_int (nomark _)))))))) (mss_one (ms_ret (me_tup (ma_cons me_str (ma_cons me_int ma_nil))))) mss_nil)
      (mss_one (ms_ret (me_ifExp (mt_cmp bo_inC me_str (me_var (pv 1)) (by rfl)) (me_tup (ma_cons me_str (ma_cons me_int ma_nil))) (me_tup (ma_cons me_str (ma_cons (me_ix io_seq (me_var (pv 3)) me_int (fun _ _ => rfl)) ma_nil))))))))))
theorem ok_law_read {N : Nat} (F : Fun K "_law_read" "_law_read" s_law_read f fd) (M : Bu mg) (k_read_address_text : Sk.CalK P w K mg base 7 "read_address" ["text"] ["text"] (permL [0]) (spM P w K (m_read_address N))) (c_read_address : Sk.Cal P w K mg base 7 "read_address" ["text"] (spM P w K (m_read_address N))) (k_read_number_text : Sk.CalK P w K mg base 7 "read_number" ["text"] ["text"] (permL [0]) (spM P w K (m_read_number N))) (c_read_number : Sk.Cal P w K mg base 7 "read_number" ["text"] (spM P w K (m_read_number N))) (k_read_point_text : Sk.CalK P w K mg base 7 "read_point" ["text"] ["text"] (permL [0]) (spM P w K (m_read_point N))) (c_read_point : Sk.Cal P w K mg base 7 "read_point" ["text"] (spM P w K (m_read_point N))) : FnOk P w K mg base CX0 8 f fd ["door", "text", "named"] (spM P w K (m_law_read N)) :=
  fn_ok F sc_law_read fun cdv A outer s H E hr => (mss_cons (ms_if (mt_cmp (bo_eq hr.units) (me_var (pv 0)) me_int (nomark _)) (mss_one (ms_ret (me_ifExp (mt_val (me_var (pv 2))) (me_callK k_read_number_text (len_cons len_nil) hr (by decide) (mk_cons pk_cons (me_var (pv 1)) mk_nil)) (me_call c_read_number hr (by decide) (ma_cons (me_var (pv 1)) ma_nil))))) mss_nil)
      (mss_cons (ms_if (mt_cmp (bo_eq hr.units) (me_var (pv 0)) me_int (nomark _)) (mss_one (ms_ret (me_ifExp (mt_val (me_var (pv 2))) (me_callK k_read_point_text (len_cons len_nil) hr (by decide) (mk_cons pk_cons (me_var (pv 1)) mk_nil)) (me_call c_read_point hr (by decide) (ma_cons (me_var (pv 1)) ma_nil))))) mss_nil)
      (mss_one (ms_ret (me_ifExp (mt_val (me_var (pv 2))) (me_callK k_read_address_text (len_cons len_nil) hr (by decide) (mk_cons pk_cons (me_var (pv 1)) mk_nil)) (me_call c_read_address hr (by decide) (ma_cons (me_var (pv 1)) ma_nil)))))))
theorem okx_law_read {N : Nat} (F : Fun K "_law_read" "_law_read" s_law_read f fd) (M : Bu mg) (kx_read_address_text : CalKX P w K mg base 7 "read_address" ["text"] ["text"] (permL [0]) (spX P w K (x_read_address N))) (cx_read_address : CalXN P w K mg base 7 "read_address" ["text"] (spX P w K (x_read_address N))) (kx_read_number_text : CalKX P w K mg base 7 "read_number" ["text"] ["text"] (permL [0]) (spX P w K (x_read_number N))) (cx_read_number : CalXN P w K mg base 7 "read_number" ["text"] (spX P w K (x_read_number N))) (kx_read_point_text : CalKX P w K mg base 7 "read_point" ["text"] ["text"] (permL [0]) (spX P w K (x_read_point N))) (cx_read_point : CalXN P w K mg base 7 "read_point" ["text"] (spX P w K (x_read_point N))) : FnOk P w K mg base (L2N.CX P w) 8 f fd ["door", "text", "named"] (spX P w K (x_law_read N)) :=
  fnx_ok F sc_law_read fun cdv A outer s H E hr => (mys_cons (my_if (mt_cmp (bo_eq hr.units) (me_var (pv 0)) me_int (nomark _)) (mys_one (my_ret (mx_if (mt_val (me_var (pv 2))) (mx_callK kx_read_number_text (len_cons len_nil) hr (by decide) (L2N.takes_of rfl rfl rfl rfl) (mk_cons pk_cons (me_var (pv 1)) mk_nil)) (mx_call cx_read_number hr (by decide) (L2N.takes_of rfl rfl rfl rfl) (ma_cons (me_var (pv 1)) ma_nil))))) (mys_up mss_nil))
      (mys_cons (my_if (mt_cmp (bo_eq hr.units) (me_var (pv 0)) me_int (nomark _)) (mys_one (my_ret (mx_if (mt_val (me_var (pv 2))) (mx_callK kx_read_point_text (len_cons len_nil) hr (by decide) (L2N.takes_of rfl rfl rfl rfl) (mk_cons pk_cons (me_var (pv 1)) mk_nil)) (mx_call cx_read_point hr (by decide) (L2N.takes_of rfl rfl rfl rfl) (ma_cons (me_var (pv 1)) ma_nil))))) (mys_up mss_nil))
      (mys_one (my_ret (mx_if (mt_val (me_var (pv 2))) (mx_callK kx_read_address_text (len_cons len_nil) hr (by decide) (L2N.takes_of rfl rfl rfl rfl) (mk_cons pk_cons (me_var (pv 1)) mk_nil)) (mx_call cx_read_address hr (by decide) (L2N.takes_of rfl rfl rfl rfl) (ma_cons (me_var (pv 1)) ma_nil)))))))
theorem ok_law_told {N : Nat} (F : Fun K "_law_told" "_law_told" s_law_told f fd) (M : Bu mg) (cx_law_read : CalXN P w K mg base 8 "_law_read" ["door", "text", "named"] (spX P w K (x_law_read N))) {fI : Addr} {Yo : Str → Addr} (Z : Er P w K mg base fI ["KitError", "Unreadable"] Yo) : FnOk P w K mg base CX0 9 f fd ["door", "text", "named"] (spM P w K (m_law_told N)) :=
  fn_ok F sc_law_told fun cdv A outer s H E hr => (mss_cons (ms_asg (t := (.tp [(.nm 4), (.nm 5)])) (me_tup (ma_cons me_str (ma_cons me_non ma_nil))) (mg_tup rfl (mgs_cons (mg_name (pg_name (i := 4) sc_law_told.nd rfl (Or.inl rfl))) (mgs_cons (mg_name (pg_name (i := 5) sc_law_told.nd rfl (Or.inl rfl))) mgs_nil))))
      (mss_cons (ms_try (Z.sub (ys := ["Unreadable", "KitError"]) (by decide)) rfl rfl rfl sc_law_told.nd (fun V pn xe tk hp => (mys_one (my_set (i := 5) sc_law_told.nd rfl (Or.inl rfl) (mx_call cx_law_read hr (by decide) tk (ma_cons (me_var (pv 0)) (ma_cons (me_var (pv 1)) (ma_cons (me_var (pv 2)) ma_nil))))))) (.named ⟨rfl, by decide, .inl (Z.mg "Unreadable" (by decide))⟩ rfl rfl (fun a pn => (ms_parH (i := 4) (j := 5) rfl sc_law_told.nd rfl rfl (by decide) rfl rfl (ma_cons me_str (ma_cons (me_xv (me_var (pv 3))) ma_nil)) (by rfl))) (.plain ⟨rfl, by decide, .inl (Z.mg "KitError" (by decide))⟩ (fun a pn => (mss_a (mss_one (ms_set (i := 4) sc_law_told.nd rfl (Or.inl rfl) me_str)))) .nil)))
      (mss_one (ms_ret (me_tup (ma_cons (me_var (pv 4)) (ma_cons (me_var (pv 5)) ma_nil)))))))
theorem ok_law_text {N : Nat} (F : Fun K "_law_text" "_law_text" s_law_text f fd) (M : Bu mg) (c_law_said_address : Sk.Cal P w K mg base 1 "_law_said_address" ["address"] (spM P w K (m_law_said_address N))) (c_law_draw : Sk.Cal P w K mg base 1 "_law_draw" ["well", "many"] (spM P w K (m_law_draw N))) (c_law_said_number : Sk.Cal P w K mg base 1 "_law_said_number" ["number"] (spM P w K (m_law_said_number N))) (c_law_address : Sk.Cal P w K mg base 2 "_law_address" ["well"] (spM P w K (m_law_address N))) (c_law_number : Sk.Cal P w K mg base 2 "_law_number" ["well", "most"] (spM P w K (m_law_number N))) : FnOk P w K mg base CX0 3 f fd ["well", "kind"] (spM P w K (m_law_text N)) :=
  fn_ok F sc_law_text fun cdv A outer s H E hr => (mss_cons (ms_set (i := 2) sc_law_text.nd rfl (Or.inl rfl) (me_ix io_seq (me_lst (ma_cons me_int (ma_cons me_int (ma_cons me_int ma_nil)))) (me_call c_law_draw hr (by decide) (ma_cons (me_var (pv 0)) (ma_cons me_int ma_nil))) (fun _ _ => rfl)))
      (mss_cons (ms_if (mt_cmp (bo_eq hr.units) (me_var (pv 1)) me_int (nomark _)) (mss_one (ms_ret (me_call c_law_said_number hr (by decide) (ma_cons (me_call c_law_number hr (by decide) (ma_cons (me_var (pv 0)) (ma_cons (me_var (pv 2)) ma_nil))) ma_nil)))) mss_nil)
      (mss_cons (ms_if (mt_cmp (bo_eq hr.units) (me_var (pv 1)) me_int (nomark _)) (mss_one (ms_ret (me_op bo_addS (me_op bo_addS (me_call c_law_said_number hr (by decide) (ma_cons (me_call c_law_number hr (by decide) (ma_cons (me_var (pv 0)) (ma_cons (me_var (pv 2)) ma_nil))) ma_nil)) me_str) (me_call c_law_said_number hr (by decide) (ma_cons (me_call c_law_number hr (by decide) (ma_cons (me_var (pv 0)) (ma_cons (me_var (pv 2)) ma_nil))) ma_nil))))) mss_nil)
      (mss_one (ms_ret (me_call c_law_said_address hr (by decide) (ma_cons (me_call c_law_address hr (by decide) (ma_cons (me_var (pv 0)) ma_nil)) ma_nil)))))))
theorem ok_law_bent {N : Nat} (F : Fun K "_law_bent" "_law_bent" s_law_bent f fd) (M : Bu mg) (c_law_draw : Sk.Cal P w K mg base 1 "_law_draw" ["well", "many"] (spM P w K (m_law_draw N))) (c_law_bent_signs : Sk.Cal P w K mg base 3 "_law_bent_signs" ["well", "text"] (spM P w K (m_law_bent_signs N))) (c_law_bent_parts : Sk.Cal P w K mg base 2 "_law_bent_parts" ["well", "text", "between", "odd"] (spM P w K (m_law_bent_parts N))) (c_law_odd_word : Sk.Cal P w K mg base 2 "_law_odd_word" ["well"] (spM P w K (m_law_odd_word N))) : FnOk P w K mg base CX0 4 f fd ["well", "text"] (spM P w K (m_law_bent N)) :=
  fn_ok F sc_law_bent fun cdv A outer s H E hr => (mss_cons (ms_for (t := (.nm 2)) PassesOwn.never rfl (mi_rng1 rfl M.z_range (ma_cons (me_ix io_seq (me_lst (ma_cons me_int (ma_cons me_int (ma_cons me_int (ma_cons me_int (ma_cons me_int (ma_cons me_int ma_nil))))))) (me_call c_law_draw hr (by decide) (ma_cons (me_var (pv 0)) (ma_cons me_int ma_nil))) (fun _ _ => rfl)) ma_nil)) (mg_name (pg_name (i := 2) sc_law_bent.nd rfl (Or.inl rfl))) (mss_cons (ms_set (i := 3) sc_law_bent.nd rfl (Or.inl rfl) (me_call c_law_draw hr (by decide) (ma_cons (me_var (pv 0)) (ma_cons me_int ma_nil))))
      (mss_one (ms_if (mt_cmp (bo_lt hr.units) (me_var (pv 3)) me_int (nomark _)) (mss_one (ms_set (i := 1) sc_law_bent.nd rfl (Or.inl rfl) (me_call c_law_bent_signs hr (by decide) (ma_cons (me_var (pv 0)) (ma_cons (me_var (pv 1)) ma_nil))))) (mss_one (ms_if (mt_cmp (bo_lt hr.units) (me_var (pv 3)) me_int (nomark _)) (mss_one (ms_set (i := 1) sc_law_bent.nd rfl (Or.inl rfl) (me_call c_law_bent_parts hr (by decide) (ma_cons (me_var (pv 0)) (ma_cons (me_var (pv 1)) (ma_cons me_str (ma_cons (me_call c_law_odd_word hr (by decide) (ma_cons (me_var (pv 0)) ma_nil)) ma_nil))))))) (mss_one (ms_set (i := 1) sc_law_bent.nd rfl (Or.inl rfl) (me_op bo_addS (me_op bo_addS (me_var (pv 1)) me_str) (me_ix io_seq (me_lst (ma_cons me_str (ma_cons me_str (ma_cons me_str (ma_cons (me_var (pv 1)) (ma_cons me_str (ma_cons me_str ma_nil))))))) (me_call c_law_draw hr (by decide) (ma_cons (me_var (pv 0)) (ma_cons me_int ma_nil))) (fun _ _ => rfl)))))))))))
      (mss_one (ms_ret (me_var (pv 1)))))
theorem ok_law {N : Nat} (F : Fun K "law" "law" s_law f fd) (M : Bu mg) (c_law_well : Sk.Cal P w K mg base 1 "_law_well" ["script", "place"] (spM P w K (m_law_well N))) (c_law_bent : Sk.Cal P w K mg base 4 "_law_bent" ["well", "text"] (spM P w K (m_law_bent N))) (c_law_due : Sk.Cal P w K mg base 4 "_law_due" ["door", "text"] (spM P w K (m_law_due N))) (c_law_same : Sk.Cal P w K mg base 12 "_law_same" ["told", "due"] (spM P w K (m_law_same N 12))) (c_law_text : Sk.Cal P w K mg base 3 "_law_text" ["well", "kind"] (spM P w K (m_law_text N))) (c_law_draw : Sk.Cal P w K mg base 1 "_law_draw" ["well", "many"] (spM P w K (m_law_draw N))) (c_law_told : Sk.Cal P w K mg base 9 "_law_told" ["door", "text", "named"] (spM P w K (m_law_told N))) : FnOk P w K mg base CX0 13 f fd ["script"] (spM P w K (m_law N)) :=
  fn_ok F sc_law fun cdv A outer s H E hr => (mss_cons (ms_set (i := 1) sc_law.nd rfl (Or.inl rfl) (me_lstC ma_nil))
      (mss_cons (ms_for (t := (.nm 2)) PassesOwn.never rfl (mi_rng1 rfl M.z_range (ma_cons (me_callB (co_max2 rfl) (by rfl) M.z_max (by decide +kernel) (ma_cons me_int (ma_cons (me_callB (co_min2 rfl) (by rfl) M.z_min (by decide +kernel) (ma_cons me_int (ma_cons (me_callB co_len (by rfl) M.z_len (by decide +kernel) (ma_cons (me_var (pv 0)) ma_nil)) ma_nil))) ma_nil))) ma_nil)) (mg_name (pg_name (i := 2) sc_law.nd rfl (Or.inl rfl))) (mss_cons (ms_set (i := 3) sc_law.nd rfl (Or.inl rfl) (me_call c_law_well hr (by decide) (ma_cons (me_var (pv 0)) (ma_cons (me_var (pv 2)) ma_nil))))
      (mss_one (ms_for (t := (.nm 4)) PassesOwn.never rfl (mi_seq (me_lst (ma_cons me_int (ma_cons me_int (ma_cons me_int (ma_cons me_int ma_nil)))))) (mg_name (pg_name (i := 4) sc_law.nd rfl (Or.inl rfl))) (mss_cons (ms_set (i := 6) sc_law.nd rfl (Or.inl rfl) (me_call c_law_bent hr (by decide) (ma_cons (me_var (pv 3)) (ma_cons (me_call c_law_text hr (by decide) (ma_cons (me_var (pv 3)) (ma_cons (me_var (pv 4)) ma_nil))) ma_nil))))
      (mss_cons (ms_set (i := 5) sc_law.nd rfl (Or.inl rfl) (me_ifExp (mt_cmp bo_gt (me_call c_law_draw hr (by decide) (ma_cons (me_var (pv 3)) (ma_cons me_int ma_nil))) me_int (nomark _)) (me_var (pv 4)) (me_call c_law_draw hr (by decide) (ma_cons (me_var (pv 3)) (ma_cons me_int ma_nil)))))
      (mss_cons (ms_set (i := 7) sc_law.nd rfl (Or.inl rfl) (me_call c_law_due hr (by decide) (ma_cons (me_var (pv 5)) (ma_cons (me_var (pv 6)) ma_nil))))
      (mss_cons (ms_if (mt_not (mt_val (me_call c_law_same hr (by decide) (ma_cons (me_call c_law_told hr (by decide) (ma_cons (me_var (pv 5)) (ma_cons (me_var (pv 6)) (ma_cons (me_cmp (bo_eq hr.units) (me_call c_law_draw hr (by decide) (ma_cons (me_var (pv 3)) (ma_cons me_int ma_nil))) me_int (nomark _)) ma_nil)))) (ma_cons (me_var (pv 7)) ma_nil))))) (mss_one (ms_ret me_bl)) mss_nil)
      (mss_one (ms_expr (me_methL mt_append md_append (me_var (pv 1)) (ma_cons (me_tup (ma_cons (me_var (pv 5)) (ma_cons (me_var (pv 6)) (ma_cons (me_var (pv 7)) ma_nil)))) ma_nil) (fun to t h1 h2 h3 => pe_bm PySem.F.plainAttrs_list PySem.F.slot_list_append PySem.F.type_list_append h1 h2 h3))))))))))))
      (mss_cons (ms_for (t := (.tp [(.nm 5), (.nm 6), (.nm 7)])) PassesOwn.never rfl (mi_seq (me_rev (me_var (pv 1)))) (mg_tup rfl (mgs_cons (mg_name (pg_name (i := 5) sc_law.nd rfl (Or.inl rfl))) (mgs_cons (mg_name (pg_name (i := 6) sc_law.nd rfl (Or.inl rfl))) (mgs_cons (mg_name (pg_name (i := 7) sc_law.nd rfl (Or.inl rfl))) mgs_nil)))) (mss_one (ms_if (mt_not (mt_val (me_call c_law_same hr (by decide) (ma_cons (me_call c_law_told hr (by decide) (ma_cons (me_var (pv 5)) (ma_cons (me_var (pv 6)) (ma_cons (me_cmp (bo_lt hr.units) (me_callB co_lenS (by rfl) M.z_len (by decide +kernel) (ma_cons (me_var (pv 6)) ma_nil)) me_int (nomark _)) ma_nil)))) (ma_cons (me_var (pv 7)) ma_nil))))) (mss_one (ms_ret me_bl)) mss_nil)))
      (mss_one (ms_ret me_bl)))))
end
end K53

set_option maxHeartbeats 1000000
/-! k53: how the reader of a door comes out -/
namespace K53
open PySem PySem.Spec PyProof.Rows L2 Mr Pg Xw
open TL (tl)

variable {N : Nat} {S : Sto}
/-- what the reader of a door makes of a line -/
def dr : Nat → List Nat → PyData
  | 0, f => optN (rdN f)
  | 1, f => optP (rdP f)
  | _, f => optA (rdA f)
theorem ofx_sq {e : Mr.Env} {o : OX} {yb : MSX} (h : (∃ w, o = .ok (.d w) S) ∨ ∃ c x, o = .ex c x S) : OfX e (fun w S1 => SqX yb (FnX S (fun r => r = o)) (.r (.rt w S1))) (SqX yb (FnX S fun r => r = o)) o := by
  rcases h with ⟨w, rfl⟩ | ⟨c, x, rfl⟩
  · show OX.ok (.d w) (S.take S.length) = .ok (.d w) S
    rw [List.take_length]
  · show OX.ex c x (S.take S.length) = .ex c x S
    rw [List.take_length]
theorem x_read {door : Nat} {l : List Nat} {nm : Bool} {Q : OX → Prop} (hd : door < 3) (hl : Wk l) (q : Q (outOf (dr door (lnF l)) (decide (10 ∈ l)) S)) : GivesX (x_law_read N [.d (.int (door : Nat)), .d (wd l), .d (.bool nm)] S) Q := by
  refine GivesX.mono (Q := fun r => r = outOf (dr door (lnF l)) (decide (10 ∈ l)) S) ?_ (by rintro _ rfl; exact q)
  unfold x_law_read
  refine gFX ?_
  tm_at "M"
  refine brt_d (fun h0 => ?_) (fun h0 => ?_)
  · have : door = 0 := by omega
    subst this
    tm_at "M"
    refine brt_b (fun h => ?_) (fun h => ?_)
    · tm_at "M"
      exact x_number hl (ofx_sq (out_way _ _ _))
    · tm_at "M"
      exact x_number hl (ofx_sq (out_way _ _ _))
  · tm_at "M"
    refine brt_d (fun h1 => ?_) (fun h1 => ?_)
    · have : door = 1 := by omega
      subst this
      tm_at "M"
      refine brt_b (fun h => ?_) (fun h => ?_)
      · tm_at "M"
        exact x_point hl (ofx_sq (out_way _ _ _))
      · tm_at "M"
        exact x_point hl (ofx_sq (out_way _ _ _))
    · have : door = 2 := by omega
      subst this
      tm_at "M"
      refine brt_b (fun h => ?_) (fun h => ?_)
      · tm_at "M"
        exact x_address hl (ofx_same (out_way _ _ _))
      · tm_at "M"
        exact x_address hl (ofx_same (out_way _ _ _))
/-- the word, and the thing or the line's number -/
def toldOf (d : PyData) (more : Bool) : PyData := match d with
  | .none => .tuple [.str "refused", .int 1]
  | d => if more = true then .tuple [.str "refused", .int 2] else .tuple [.str "told", d]
theorem told_data {d : PyData} {more : Bool} (h : d ≠ .none) : toldOf d more = if more = true then .tuple [.str "refused", .int 2] else .tuple [.str "told", d] := by
  cases d with
  | none => exact absurd rfl h
  | _ => rfl
theorem told_ok {door : Nat} {l : List Nat} {nm : Bool} {Q : W → Sto → Prop} (hd : door < 3) (hl : Wk l) (q : Q (.d (toldOf (dr door (lnF l)) (decide (10 ∈ l)))) S) : Gives (m_law_told N [.d (.int (door : Nat)), .d (wd l), .d (.bool nm)] S) Q := by
  refine Gives.mono (Q := fun w S' => w = .d (toldOf (dr door (lnF l)) (decide (10 ∈ l))) ∧ S' = S) ?_ (by rintro _ _ ⟨rfl, rfl⟩; exact q)
  unfold m_law_told
  refine gF ?_
  tm_at "M"
  refine x_read hd hl ?_
  generalize dr door (lnF l) = d
  generalize decide (10 ∈ l) = more
  have ex : ∀ n : Int, GivesR (runCl [("Unreadable", some 3, (sPar 4 5 (mCons (mC (.str (Str.ofString "refused"))) (mCons (mXv (mVar 3)) mNil)))), ("KitError", none, (sSet 4 (mC (.str (Str.ofString "other")))))] "Unreadable" (.int n) [some (.d (.int (door : Nat))), some (.d (wd l)), some (.d (.bool nm)), none, some (.d (.str (Str.ofString "told"))), some (.d .none)] S)
      (Sq (sRet (mTup (mCons (mVar 4) (mCons (mVar 5) mNil)))) (FnQ S fun w S' => w = .d (.tuple [.str "refused", .int n]) ∧ S' = S)) := by
    intro n
    refine cl_yes (by decide) ?_
    tm_at "M"
    exact ⟨rfl, List.take_length⟩
  by_cases hn : d = .none
  · subst hn
    exact tryq_ex (by decide) (ex 1)
  · rw [out_data hn, told_data hn]
    cases more with
    | true => exact tryq_ex (by decide) (ex 2)
    | false =>
      rw [if_neg (by decide), if_neg (by decide)]
      tm_at "M"
      exact ⟨rfl, List.take_length⟩
end K53

set_option maxHeartbeats 1000000
/-! k53: the law's own readers -/
namespace K53
open PySem PySem.Spec PyProof.Rows L2 Mr Pg Xw
open TL (tl)

variable {N : Nat} {S : Sto}
/-- the integer that a word shows, in a list -/
def listI (o : Option Int) : PyData := match o with
  | some i => .list [.int i]
  | none => .list []
theorem cut_head {x : Str} : tl (cutS x none (some 1)) = (tl x).take 1 := by
  show ((tl x).drop (HT.sIx x.length 0 none)).take (HT.sIx x.length x.length (some 1) - HT.sIx x.length 0 none) = _
  have h1 : HT.sIx x.length 0 none = 0 := rfl
  have h2 : HT.sIx x.length x.length (some 1) = min 1 x.length := by
    unfold HT.sIx
    simp
  rw [h1, h2, List.drop_zero, Nat.sub_zero, TL.len_tl]
  rcases Nat.lt_or_ge (tl x).length 1 with z | z
  · rw [Nat.min_eq_right (by omega), List.take_of_length_le (by omega), List.take_of_length_le (by omega)]
  · rw [Nat.min_eq_left z]
theorem head_neg {l : List Nat} : decide (l.take 1 = [45]) = negL l := by
  cases l with
  | nil => rfl
  | cons c r =>
    by_cases h : c = 45
    · subst h; rfl
    · rw [decide_eq_false (fun z => h (by simpa using z))]
      unfold negL
      split
      · rename_i e; cases e; exact absurd rfl h
      · rfl
end K53

set_option maxHeartbeats 1000000
/-! k53: the law's reader of integers -/
namespace K53
open PySem PySem.Spec PyProof.Rows L2 Mr Pg Xw
open TL (tl spl par)

variable {N : Nat} {S : Sto}
theorem mem_digs (c : Nat) : decide (c ∈ (Str.ofString "0123456789").cps.toList) = Xw.isD c := by
  have e : (Str.ofString "0123456789").cps.toList = [48, 49, 50, 51, 52, 53, 54, 55, 56, 57] := by decide
  rw [e]
  unfold Xw.isD
  by_cases h : 48 ≤ c ∧ c ≤ 57
  · rw [decide_eq_true h.1, decide_eq_true h.2]
    refine decide_eq_true ?_
    simp
    omega
  · rw [← Bool.decide_and, decide_eq_false h]
    refine decide_eq_false fun z => h ?_
    simp at z
    omega
theorem one_lay {c : Nat} (h : c < 128) : (PyData.str ⟨#[c]⟩).canLay0 = true ∧ (PyData.str ⟨#[c]⟩).depth ≤ 8 := lay_wd (w := [c]) ⟨fun d hd => by rw [List.mem_singleton.mp hd]; exact h, show 1 ≤ 999000 by decide⟩
theorem bodyL_mem {l : List Nat} : ∀ c ∈ bodyL l, c ∈ l := fun c hc => by
  unfold bodyL at hc
  split at hc
  · exact List.mem_cons_of_mem _ hc
  · exact hc
theorem bodyL_len {l : List Nat} : (bodyL l).length ≤ l.length ∧ l.length ≤ (bodyL l).length + 1 := by
  unfold bodyL
  split
  · rw [List.length_cons]; omega
  · omega
theorem integer_in {l : List Nat} {Q : W → Sto → Prop} (hl : Wk l) (q : Q (.d (listI (rdI l))) S) : Gives (m_law_integer_in N [.d (wd l)] S) Q := by
  refine Gives.mono (Q := fun w S' => w = .d (listI (rdI l)) ∧ S' = S) ?_ (by rintro _ _ ⟨rfl, rfl⟩; exact q)
  unfold m_law_integer_in wd
  refine gF ?_
  tm_at "m"
  tm_at "m"
  refine Gives.mono (Q := fun x S1 => ∃ y : Str, x = .d (.str y) ∧ tl y = bodyL l ∧ S1 = S) ?_ ?_
  · tm_at "M"
    refine ⟨hl.l, ?_⟩
    tm_at "M"
    refine q_eqA (asc_sub hl.s (y := cutS (strOf l) none (some 1)) (fun c hc => List.mem_of_mem_take (by rw [cut_head] at hc; exact hc))) (asc_of (by decide)) ?_
    rw [cut_head, tl_strOf, show tl (Str.ofString "-") = [45] from by decide, head_neg]
    tm_at "M"
    refine brt_b (fun h => ?_) (fun h => ?_)
    · have e := neg_body h
      have h1 : 1 ≤ (strOf l).length := by rw [TL.len_tl, tl_strOf, e, List.length_cons]; omega
      tm_at "M"
      refine ⟨hl.l, ?_⟩
      refine ⟨_, rfl, ?_, rfl⟩
      rw [cut_tail h1, tl_strOf, e]
      rfl
    · tm_at "M"
      exact ⟨_, rfl, (pos_body h).symm, rfl⟩
  · rintro _ S1 ⟨y, rfl, hy, hS⟩
    have hS' := hS.symm
    subst hS'
    clear hS
    have hay : Asc y := fun c hc => hl.1 c (bodyL_mem c (by rw [← hy]; exact hc))
    have hyl : y.length = (bodyL l).length := by rw [TL.len_tl, hy]
    have hb := bodyL_len (l := l)
    have hsl : slim = slim := rfl
    have hly : y.length ≤ slim := by
      have := hl.l
      rw [TL.len_tl, tl_strOf] at this
      omega
    tm_at "M"
    refine q_eqA hay (asc_of (by decide)) ?_
    rw [hy, show tl (Str.ofString "") = [] from by decide]
    have none_ : okL l = false → rdI l = none := fun z => by unfold rdI; rw [if_neg (fun w => by rw [z] at w; cases w.1)]
    have fin : rdI l = none → GivesR (sRet (mLst mNil) [some (.d (.str (strOf l))), some (.d (.str y)), none] S) (Sq (sRet (mIf (cAnd (cB (mOp oEq (mOp oIxS (mVar 1) (mC (.int 0))) (mC (.str (Str.ofString "0"))))) (cB (mOp oNe (mVar 0) (mC (.str (Str.ofString "0")))))) (mLst mNil) (mLst (mCons (mCall oIntS (mCons (mVar 0) mNil)) mNil)))) (FnQ S fun w S' => w = .d (listI (rdI l)) ∧ S' = S)) := fun z => by
      tm_at "M"
      exact ⟨by rw [z]; rfl, List.take_length⟩
    tm_at "M"
    refine brt_d (fun h0 => ?_) (fun h0 => ?_)
    · tm_at "m"
      exact fin (none_ (by rw [Bool.eq_false_iff]; intro z; exact (okL_iff.mp z).1 h0))
    · tm_at "M"
      refine q_lenS hly ?_
      tm_at "M"
      refine brt_d (fun h9 => ?_) (fun h9 => ?_)
      · tm_at "m"
        exact fin (none_ (by rw [Bool.eq_false_iff]; intro z; have := (okL_iff.mp z).2.2; omega))
      · tm_at "M"
        refine gI_chars ?_
        tm_at "M"
        have hlen : (y.cps.toList.map fun c => W.d (.str ⟨#[c]⟩)).length ≤ 9 := by rw [List.length_map]; have := TL.len_tl y; unfold TL.tl at this; omega
        refine ⟨Nat.le_trans hlen (by decide), gC_flt (fun c => !Xw.isD c) (fun c => PyData.str ⟨#[c]⟩) (fun c hc => ?_) ?_⟩
        · tm_at "M"
          refine q_notInC ?_
          tm_at "M"
          refine ⟨by rw [mem_digs], rfl, fun _ => ?_⟩
          tm_at "M"
          exact ⟨rfl, rfl⟩
        · tm_at "M"
          refine q_neE (fun d hd => ?_) ?_
          · obtain ⟨c, hc, rfl⟩ := List.mem_map.mp hd
            exact one_lay (hay c (List.mem_filter.mp hc).1)
          have ef : (((y.cps.toList.filter fun c => !Xw.isD c).map fun c => PyData.str ⟨#[c]⟩).isEmpty) = (bodyL l).all Xw.isD := by
            have e1 : y.cps.toList = bodyL l := hy
            rw [e1, List.isEmpty_map]
            rw [Bool.eq_iff_iff, List.isEmpty_iff, List.filter_eq_nil_iff, List.all_eq_true]
            simp
          rw [ef]
          tm_at "M"
          refine brt_b (fun hd => ?_) (fun hd => ?_)
          · exact fin (none_ (by rw [Bool.eq_false_iff]; intro z; have := (okL_iff.mp z).2.1; rw [this] at hd; cases hd))
          · have hd' : (bodyL l).all Xw.isD = true := by simpa using hd
            have hok : okL l = true := okL_iff.mpr ⟨h0, hd', by omega⟩
            have hsh := shows_iff hok
            tm_at "M"
            obtain ⟨c, r, hcr⟩ := List.exists_cons_of_ne_nil h0
            refine q_ixS (c := c) hly (by rw [show y.cps.toList = bodyL l from hy, hcr]; exact atG_of (l := c :: r) (i := 0) (by simp)) ?_
            tm_at "M"
            have hcm : c < 128 := hl.1 c (bodyL_mem c (by rw [hcr]; exact List.mem_cons_self))
            refine q_eqA (x := strOf [c]) (fun d hd => by rw [tl_strOf] at hd; rw [List.mem_singleton.mp hd]; exact hcm) (asc_of (by decide)) ?_
            rw [tl_strOf, show tl (Str.ofString "0") = [48] from by decide]
            have hint : Gives (oIntS [.d (.str (strOf l))] S) fun w S' => w = .d (.int (vL l)) ∧ S' = S := q_intS (by rw [TL.len_tl, tl_strOf]; omega) (int_of (x := strOf l) hok) ⟨rfl, rfl⟩
            have hrd : ((bodyL l).head? = some 48 ∧ l ≠ [48]) → rdI l = none := fun z => by unfold rdI; rw [if_neg (fun w => (hsh.mp w.2) z)]
            have hrd2 : ¬((bodyL l).head? = some 48 ∧ l ≠ [48]) → rdI l = some (vL l) := fun z => by unfold rdI; rw [if_pos ⟨hok, hsh.mpr z⟩]
            have hh : (bodyL l).head? = some c := by rw [hcr]; rfl
            rw [hh] at hrd hrd2
            tm_at "M"
            refine brt_d (fun hc => ?_) (fun hc => ?_)
            · have hc' : c = 48 := by simpa using hc
              subst hc'
              tm_at "M"
              refine q_neA hl.s (asc_of (by decide)) ?_
              rw [tl_strOf, show tl (Str.ofString "0") = [48] from by decide]
              tm_at "M"
              refine brt_nd (fun h48 => ?_) (fun h48 => ?_)
              · tm_at "M"
                refine hint.mono ?_
                rintro _ _ ⟨rfl, rfl⟩
                tm_at "M"
                exact ⟨by rw [hrd2 fun z => z.2 h48]; rfl, List.take_length⟩
              · tm_at "M"
                exact ⟨by rw [hrd ⟨rfl, h48⟩]; rfl, List.take_length⟩
            · tm_at "M"
              refine hint.mono ?_
              rintro _ _ ⟨rfl, rfl⟩
              tm_at "M"
              exact ⟨by rw [hrd2 fun z => hc (by rw [Option.some.inj z.1])]; rfl, List.take_length⟩
end K53

set_option maxHeartbeats 1000000
/-! k53: the law's readers of numbers -/
namespace K53
open PySem PySem.Spec PyProof.Rows L2 Mr Pg Xw
open TL (tl spl par)

variable {N : Nat} {S : Sto}
def pN (p : Int × Int) : PyData := .tuple [.int p.1, .int p.2]
def listN : Option (Int × Int) → PyData
  | some p => .list [pN p]
  | none => .list []
theorem lay1 (i : Int) : LayAll [.int i] := fun d hd => by rw [List.mem_singleton.mp hd]; exact lay_int i
theorem lay0 : LayAll [] := fun d hd => nomatch hd
theorem drop_at (p r : List Nat) {c : Nat} : (p ++ c :: r).drop (p.length + 1) = r := by
  rw [show p ++ c :: r = (p ++ [c]) ++ r by simp, show p.length + 1 = (p ++ [c]).length by simp, List.drop_left]
theorem str_slash : Str.ofString "/" = strOf [47] := TL.ext_tl (by decide)
theorem number_in (hN : 2 ^ 1100 ≤ N) {l : List Nat} {Q : W → Sto → Prop} (hl : Wk l) (q : Q (.d (listN (rdN l))) S) : Gives (m_law_number_in N [.d (wd l)] S) Q := by
  refine Gives.mono (Q := fun w S' => w = .d (listN (rdN l)) ∧ S' = S) ?_ (by rintro _ _ ⟨rfl, rfl⟩; exact q)
  unfold m_law_number_in
  show Gives (fnM 1 5 _ [.d (.str (strOf l))] S) _
  refine gF ?_
  tm_at "M"
  refine q_find ?_
  rw [str_slash]
  rcases sp_split 47 l with h | ⟨p, r, rfl, h⟩
  · rw [find_none (x := strOf l) h]
    have hr : rdN l = match rdI l with | some t => some (t, 1) | none => none := by unfold rdN; rw [TL.par_none1 h] <;> rfl
    tm_at "M"
    refine integer_in hl ?_
    tm_at "M"
    cases e : rdI l with
    | none =>
      rw [e] at hr
      dsimp only [listI]
      tm_at "M"
      refine q_eqE lay0 ?_
      tm_at "M"
      refine brt_t ?_
      tm_at "M"
      refine ⟨by decide, gC_nil ?_⟩
      tm_at "M"
      exact ⟨by rw [hr]; rfl, List.take_length⟩
    | some t =>
      rw [e] at hr
      dsimp only [listI]
      tm_at "M"
      refine q_eqE (lay1 t) ?_
      tm_at "M"
      refine brt_f ?_
      tm_at "M"
      refine ⟨show 1 ≤ lim by decide, gC_cons ?_⟩
      tm_at "M"
      refine ⟨_, rfl, gC_nil ?_⟩
      tm_at "M"
      exact ⟨by rw [hr]; rfl, List.take_length⟩
  · rw [find_some (x := strOf (p ++ 47 :: r)) (p := p) (r := r) rfl h]
    obtain ⟨hp, hr'⟩ := wk_app hl
    have hr : rdN (p ++ 47 :: r) = match rdI p, rdI r with | some t, some b => if numOk (some t) (some b) = true ∧ b ≠ 1 then some (t, b) else none | _, _ => none := by
      unfold rdN
      rw [show p ++ 47 :: r = p ++ ([47] ++ r) from rfl, TL.par_part1 (s := 47) (S := []) h]
      rfl
    tm_at "M"
    refine ⟨hl.l, ?_⟩
    rw [cut_strL, List.take_left]
    tm_at "M"
    refine integer_in hp ?_
    tm_at "M"
    cases e : rdI p with
    | none =>
      rw [e] at hr
      dsimp only [listI]
      tm_at "M"
      refine q_eqE lay0 ?_
      tm_at "M"
      refine brt_t ?_
      tm_at "M"
      refine ⟨by decide, gC_nil ?_⟩
      tm_at "M"
      exact ⟨by rw [hr]; rfl, List.take_length⟩
    | some t =>
      dsimp only [listI]
      tm_at "M"
      refine q_eqE (lay1 t) ?_
      tm_at "M"
      refine brt_f ?_
      tm_at "M"
      rw [show ((p.length : Nat) : Int) + 1 = ((p.length + 1 : Nat) : Int) by omega]
      tm_at "M"
      refine ⟨hl.l, ?_⟩
      rw [cut_strR, drop_at p r]
      tm_at "M"
      refine integer_in hr' ?_
      tm_at "M"
      cases e2 : rdI r with
      | none =>
        rw [e, e2] at hr
        dsimp only [listI]
        tm_at "M"
        refine q_eqE lay0 ?_
        tm_at "M"
        refine brt_t ?_
        tm_at "M"
        exact ⟨by rw [hr]; rfl, List.take_length⟩
      | some b =>
        rw [e, e2] at hr
        have hb := rdI_lt e2
        dsimp only [listI]
        tm_at "M"
        refine q_eqE (lay1 b) ?_
        tm_at "M"
        refine brt_f ?_
        tm_at "M"
        refine brt_d (fun h2 => ?_) (fun h2 => ?_)
        · tm_at "M"
          refine ⟨?_, List.take_length⟩
          rw [hr]
          dsimp only
          rw [if_neg]
          · rfl
          · rintro ⟨z1, z2⟩
            have z1' : (decide (0 < b) && decide (((Nat.gcd t.natAbs b.natAbs : Nat) : Int) = 1)) = true := z1
            rw [Bool.and_eq_true, decide_eq_true_eq] at z1'
            omega
        · tm_at "M"
          refine lowest_eq hN (by omega) (Nat.lt_trans hb (Nat.lt_of_lt_of_le (by decide : 10 ^ 9 < 2 ^ 60) (Nat.pow_le_pow_right (by decide) (by decide)))) ?_
          tm_at "M"
          have hg0 : 0 < Nat.gcd t.natAbs b.natAbs := Nat.gcd_pos_of_pos_right _ (by omega)
          have hid := fdiv_id (b := b) (by omega) hg0
          refine brt_nd (fun h3 => ?_) (fun h3 => ?_)
          · have hg := hid.mp h3
            tm_at "M"
            refine ⟨?_, List.take_length⟩
            rw [hr]
            dsimp only
            rw [if_pos]
            · rfl
            · refine ⟨?_, by omega⟩
              show (decide (0 < b) && decide (((Nat.gcd t.natAbs b.natAbs : Nat) : Int) = 1)) = true
              rw [decide_eq_true (by omega), hg]
              rfl
          · tm_at "M"
            refine ⟨?_, List.take_length⟩
            rw [hr]
            dsimp only
            rw [if_neg]
            · rfl
            · rintro ⟨z1, _⟩
              have z1' : (decide (0 < b) && decide (((Nat.gcd t.natAbs b.natAbs : Nat) : Int) = 1)) = true := z1
              rw [Bool.and_eq_true, decide_eq_true_eq, decide_eq_true_eq] at z1'
              exact h3 (hid.mpr (by omega))
/-- the numbers of a line -/
def allN : List (Option (Int × Int)) → Option (List (Int × Int))
  | [] => some []
  | some p :: r => (allN r).map (p :: ·)
  | none :: _ => none
def listNs : Option (List (Int × Int)) → PyData
  | some ps => .list [.tuple (ps.map pN)]
  | none => .list []
theorem allN_some : ∀ {os : List (Option (Int × Int))} {ps : List (Int × Int)}, allN os = some ps → os = ps.map some
  | [], ps, h => by cases h; rfl
  | none :: r, ps, h => by cases h
  | some p :: r, ps, h => by
    unfold allN at h
    cases e : allN r with
    | none => rw [e] at h; cases h
    | some qs => rw [e] at h; cases h; rw [List.map_cons, allN_some e]
theorem allN_none : ∀ {os : List (Option (Int × Int))}, allN os = none → none ∈ os
  | [], h => by cases h
  | none :: r, h => List.mem_cons_self
  | some p :: r, h => by
    unfold allN at h
    cases e : allN r with
    | none => exact List.mem_cons_of_mem _ (allN_none e)
    | some qs => rw [e] at h; cases h
theorem lay_listN (o : Option (Int × Int)) : (listN o).canLay0 = true ∧ (listN o).depth ≤ 8 := by
  cases o with
  | none => simp [listN, PyData.canLay0, PyData.depth, PyData.canLayAll0, PyData.depthAll]
  | some p => simp [listN, pN, PyData.canLay0, PyData.depth, PyData.canLayAll0, PyData.depthAll]
theorem eqv_listN (o : Option (Int × Int)) : PyData.eqv (listN o) (.list []) = o.isNone := by
  cases o with
  | none => simp [listN, PyData.eqv, PyData.eqvAll]
  | some p => simp [listN, PyData.eqv, PyData.eqvAll]
theorem numbers_in (hN : 2 ^ 1100 ≤ N) {l : List Nat} {Q : W → Sto → Prop} (hl : Wk l) (q : Q (.d (listNs (allN ((spl [32] 0 [] l).map rdN)))) S) : Gives (m_law_numbers_in N [.d (wd l)] S) Q := by
  refine Gives.mono (Q := fun w S' => w = .d (listNs (allN ((spl [32] 0 [] l).map rdN))) ∧ S' = S) ?_ (by rintro _ _ ⟨rfl, rfl⟩; exact q)
  unfold m_law_numbers_in
  show Gives (fnM 1 4 _ [.d (.str (strOf l))] S) _
  refine gF ?_
  tm_at "M"
  refine q_splitW hl (by decide) (by decide +kernel) ?_
  have et : tl (Str.ofString " ") = [32] := by decide
  rw [et]
  have hw := hl.spl (T := [32])
  have hlen := hl.split (T := [32])
  generalize spl [32] 0 [] l = ws at *
  tm_at "M"
  refine ⟨by rw [List.length_map]; exact hlen, gC_map (g := fun w => listN (rdN w)) (fun w hw' => ?_) ?_⟩
  · tm_at "M"
    refine number_in hN (hw w hw') ?_
    exact ⟨rfl, rfl⟩
  have em : (ws.map fun w => listN (rdN w)) = (ws.map rdN).map listN := by rw [List.map_map]; rfl
  have hlen' : (ws.map rdN).length ≤ lim := by rw [List.length_map]; exact hlen
  rw [em]
  generalize ws.map rdN = os at *
  tm_at "M"
  refine q_inE (fun d hd => ?_) ?_
  · obtain ⟨o, _, rfl⟩ := List.mem_map.mp hd
    exact lay_listN o
  have ea : ((os.map listN).any fun z => PyData.eqv z (.list [])) = os.any fun o => o.isNone := by
    rw [List.any_map]
    congr 1
    funext o
    exact eqv_listN o
  rw [ea]
  cases e : allN os with
  | none =>
    rw [show (os.any fun o => o.isNone) = true from List.any_eq_true.mpr ⟨none, allN_none e, rfl⟩]
    tm_at "M"
    exact ⟨rfl, List.take_length⟩
  | some ps =>
    have e2 := allN_some e
    rw [e2] at hlen' ⊢
    rw [List.length_map] at hlen'
    rw [show ((ps.map some).any fun o => o.isNone) = false from List.any_eq_false.mpr fun x hx => by obtain ⟨p, _, rfl⟩ := List.mem_map.mp hx; exact Bool.false_ne_true]
    tm_at "M"
    rw [List.map_map]
    refine ⟨by rw [List.length_map]; exact hlen', ?_⟩
    refine gC_map (f := fun p => W.d (listN (some p))) (g := pN) (fun p hp => ?_) ?_
    · tm_at "M"
      dsimp only [listN]
      tm_at "M"
      exact ⟨rfl, rfl⟩
    tm_at "M"
    exact ⟨rfl, List.take_length⟩
end K53

set_option maxHeartbeats 1000000
/-! k53: what is told is what is due; things and their texts -/
namespace K53
open PySem PySem.Spec PyProof.Rows L2 Mr Pg Xw

variable {N : Nat} {S : Sto}
/-- ints, texts, rows of such -/
def gd (l : Nat) : Nat → PyData → Bool
  | _, .int _ => true
  | _, .str x => PyData.strOk x
  | n + 1, .tuple ds => decide (ds.length ≤ l) && ds.all (gd l n)
  | n + 1, .list ds => decide (ds.length ≤ l) && ds.all (gd l n)
  | _, _ => false
theorem gd_tuple {l n : Nat} {ds : List PyData} : gd l (n + 1) (.tuple ds) = true ↔ ds.length ≤ l ∧ ∀ d ∈ ds, gd l n d = true := by
  show (decide (ds.length ≤ l) && ds.all (gd l n)) = true ↔ _
  rw [Bool.and_eq_true, List.all_eq_true, decide_eq_true_eq]
theorem gd_list {l n : Nat} {ds : List PyData} : gd l (n + 1) (.list ds) = true ↔ ds.length ≤ l ∧ ∀ d ∈ ds, gd l n d = true := by
  show (decide (ds.length ≤ l) && ds.all (gd l n)) = true ↔ _
  rw [Bool.and_eq_true, List.all_eq_true, decide_eq_true_eq]
theorem okS_of {x : Str} (h : ∀ c ∈ TL.tl x, c < 0x110000) : PyData.strOk x = true := by
  unfold PyData.strOk
  rw [← Array.all_toList, List.all_eq_true]
  exact fun c hc => decide_eq_true (h c hc)
theorem okS_str (s : String) : PyData.strOk (Str.ofString s) = true := okS_of fun c hc => by
  rw [TL.tl_ofString] at hc
  obtain ⟨z, _, rfl⟩ := List.mem_map.mp hc
  have := z.valid
  show z.val.toNat < 0x110000
  rcases this with h | h
  · exact Nat.lt_trans h (by decide)
  · exact h.2
theorem shapedS {x : Str} (h : PyData.strOk x = true) : SeqAt.shaped (.str x) = true := by
  unfold SeqAt.shaped
  rw [Bool.and_eq_true]
  exact ⟨by simp [PyData.canLay0, h], by simp [PyData.depth]⟩
theorem q_eqSS {x : Str} {Q : W → Sto → Prop} (hx : PyData.strOk x = true) (h : Q (.d (.bool true)) S) : Gives (oEq (.d (.str x)) (.d (.str x)) S) Q := ⟨_, S, by
  rw [o_eq (shapedS hx) (shapedS hx)]
  have : PyData.eqv (.str x) (.str x) = true := by simp [PyData.eqv]
  rw [this], h⟩
theorem all_true {α : Type} (l : List α) : (l.map fun _ => true).all id = true := by simp
theorem same_refl {l : Nat} (hl : l ≤ 999500) : ∀ (n : Nat) (d : PyData), gd l n d = true → ∀ S : Sto, Gives (m_law_same N (n + 1) [.d d, .d d] S) fun w S' => w = .d (.bool true) ∧ S' = S := by
  have row : ∀ (n : Nat) (d : PyData) (ds : List PyData), (d = .tuple ds ∨ d = .list ds) → ds.length ≤ l → (∀ y ∈ ds, ∀ S : Sto, Gives (m_law_same N (n + 1) [.d y, .d y] S) fun w S' => w = .d (.bool true) ∧ S' = S) → ∀ S : Sto, Gives (m_law_same N (n + 2) [.d d, .d d] S) fun w S' => w = .d (.bool true) ∧ S' = S := by
    intro n d ds hd hlen ih S
    have hm : lim = 1000000 := rfl
    have comp : ∀ (w : W), (w = .d (.tuple ds) ∨ w = .d (.list ds)) → ∀ (o2 : Option W) (QC : List PyData → Sto → Prop), QC (ds.map fun _ => .bool true) S → GvC (compL (.nm 2) cYes (mCall (m_law_same N (n + 1)) (mCons (mOp oIx (mVar 0) (mVar 2)) (mCons (mOp oIx (mVar 1) (mVar 2)) mNil))) [some w, some w, o2] (rng 0 ds.length) S) QC := by
      intro w hw o2 QC q
      have e : (ds.map fun _ => PyData.bool true) = (List.range ds.length).map fun _ => PyData.bool true := by
        rw [List.map_const', List.map_const', List.length_range]
      rw [e] at q
      refine gC_rngM (g := fun _ => .bool true) (fun i hi => ?_) q
      have hx : ∀ Q : W → Sto → Prop, Q (.d ds[i]) S → Gives (oIx w (.d (.int (i : Nat))) S) Q := fun Q q => by
        rcases hw with rfl | rfl
        · exact q_ixT (atI_of hi) q
        · exact q_ixL (atI_of hi) q
      tm_at "M"
      refine hx _ ?_
      tm_at "M"
      refine hx _ ?_
      tm_at "M"
      exact ih _ (List.getElem_mem hi) S
    have fin : ∀ (o2 : Option W), GivesR (sRet (mAnd (mOp oEq (mCall oLen (mCons (mVar 0) mNil)) (mCall oLen (mCons (mVar 1) mNil))) (mCall oAll (mCons (mLc (miRng1 (mCons (mCall oLen (mCons (mVar 1) mNil)) mNil)) (.nm 2) cYes (mCall (m_law_same N (n + 1)) (mCons (mOp oIx (mVar 0) (mVar 2)) (mCons (mOp oIx (mVar 1) (mVar 2)) mNil)))) mNil))) [some (.d d), some (.d d), o2] S) (FnQ S fun w S' => w = .d (.bool true) ∧ S' = S) := by
      intro o2
      have e1 : ds.map (fun _ => PyData.bool true) = (ds.map fun _ => true).map PyData.bool := by rw [List.map_map]; rfl
      rcases hd with rfl | rfl
      · tm_at "M"
        refine ⟨by rw [rng_len]; omega, ?_⟩
        rw [Int.toNat_natCast]
        refine comp _ (.inl rfl) _ _ ?_
        tm_at "M"
        rw [e1]
        refine q_all ?_
        tm_at "M"
        rw [all_true]
        exact ⟨rfl, List.take_length⟩
      · tm_at "M"
        refine ⟨by rw [rng_len]; omega, ?_⟩
        rw [Int.toNat_natCast]
        refine comp _ (.inr rfl) _ _ ?_
        tm_at "M"
        rw [e1]
        refine q_all ?_
        tm_at "M"
        rw [all_true]
        exact ⟨rfl, List.take_length⟩
    unfold m_law_same
    refine gF ?_
    rcases hd with rfl | rfl
    · tm_at "M"
      refine brt_f ?_
      tm_at "M"
      refine brt_f ?_
      tm_at "M"
      refine brt_f ?_
      tm_at "M"
      refine brt_f ?_
      tm_at "M"
      refine brt_f ?_
      tm_at "m"
      tm_at "M"
      refine brt_f ?_
      tm_at "m"
      tm_at "m"
      exact fin _
    · tm_at "M"
      refine brt_f ?_
      tm_at "M"
      refine brt_f ?_
      tm_at "M"
      refine brt_f ?_
      tm_at "M"
      refine brt_f ?_
      tm_at "M"
      refine brt_f ?_
      tm_at "m"
      tm_at "M"
      refine brt_f ?_
      tm_at "m"
      tm_at "m"
      exact fin _
  have flat : ∀ (n : Nat) (d : PyData), ((∃ i, d = .int i) ∨ ∃ x, d = .str x ∧ PyData.strOk x = true) → ∀ S : Sto, Gives (m_law_same N (n + 1) [.d d, .d d] S) fun w S' => w = .d (.bool true) ∧ S' = S := by
    intro n d hd S
    unfold m_law_same
    refine gF ?_
    rcases hd with ⟨i, rfl⟩ | ⟨x, rfl, hx⟩
    · tm_at "M"
      refine brt_f ?_
      tm_at "M"
      refine brt_f ?_
      tm_at "M"
      refine brt_t ?_
      tm_at "M"
      refine brt_t ?_
      tm_at "M"
      refine brt_t ?_
      tm_at "M"
      exact ⟨by rw [decide_eq_true rfl], List.take_length⟩
    · tm_at "M"
      refine brt_f ?_
      tm_at "M"
      refine brt_f ?_
      tm_at "M"
      refine brt_f ?_
      tm_at "M"
      refine brt_t ?_
      tm_at "M"
      refine brt_t ?_
      tm_at "M"
      refine q_eqSS hx ?_
      tm_at "M"
      exact ⟨rfl, List.take_length⟩
  intro n
  induction n with
  | zero =>
    intro d h
    cases d with
    | int i => exact flat 0 _ (.inl ⟨i, rfl⟩)
    | str x => exact flat 0 _ (.inr ⟨x, rfl, h⟩)
    | bool _ => unfold gd at h; cases h
    | none => unfold gd at h; cases h
    | tuple _ => unfold gd at h; cases h
    | list _ => unfold gd at h; cases h
    | dict _ => unfold gd at h; cases h
  | succ n ih =>
    intro d h
    cases d with
    | int i => exact flat (n + 1) _ (.inl ⟨i, rfl⟩)
    | str x => exact flat (n + 1) _ (.inr ⟨x, rfl, h⟩)
    | bool _ => unfold gd at h; cases h
    | none => unfold gd at h; cases h
    | tuple ds => exact row n _ ds (.inl rfl) (gd_tuple.mp h).1 fun y hy => ih y ((gd_tuple.mp h).2 y hy)
    | list ds => exact row n _ ds (.inr rfl) (gd_list.mp h).1 fun y hy => ih y ((gd_list.mp h).2 y hy)
    | dict _ => unfold gd at h; cases h
/-- told is what is due -/
theorem q_same {l : Nat} {d : PyData} {Q : W → Sto → Prop} (hl : l ≤ 999500) (h : gd l 11 d = true) (q : Q (.d (.bool true)) S) : Gives (m_law_same N 12 [.d d, .d d] S) Q := by
  refine Gives.mono (same_refl (N := N) hl 11 d h S) ?_
  rintro _ _ ⟨rfl, rfl⟩
  exact q
end K53

set_option maxHeartbeats 2000000
/-! k53: texts and their bends -/
namespace K53
open PySem PySem.Spec PyProof.Rows L2 Mr Pg Xw
open TL (tl spl par joinL)

variable {N : Nat} {S : Sto}
theorem atN_of {l : List Nat} {i : Nat} (h : i < l.length) : atI l ((i : Nat) : Int) = some l[i] := by
  unfold atI ixN
  rw [if_pos (by omega), if_pos (by omega)]
  show l[((i : Nat) : Int).toNat]? = _
  rw [Int.toNat_natCast]
  exact List.getElem?_eq_getElem h
theorem tx_of {k : Nat} {x : Str} (h1 : (x.cps.toList.all fun c => decide (c < 128)) = true) (h2 : x.cps.toList.length ≤ k) (h3 : 0 < x.cps.toList.length) : ∃ l : List Nat, PyData.str x = .str (strOf l) ∧ Wb k l ∧ 0 < l.length :=
  ⟨tl x, by rw [strOf_tl], ⟨fun c hc => of_decide_eq_true (List.all_eq_true.mp h1 c hc), h2⟩, h3⟩
theorem sign_ok {n c : Nat} {S0 : Sto} {Q : W → Sto → Prop} (h : Wl n c S0 S) (hc : c + 2 ≤ 10 ^ 9) (k : ∀ (x : Nat) (S' : Sto), x < 128 → Wl n (c + 2) S0 S' → S'.length = S.length → Q (.d (.str (strOf [x]))) S') : Gives (m_law_sign N [.ref n] S) Q := by
  refine Gives.mono (Q := fun w S' => ∃ x : Nat, x < 128 ∧ w = .d (.str (strOf [x])) ∧ Wl n (c + 2) S0 S' ∧ S'.length = S.length) ?_ (by rintro _ _ ⟨x, h1, rfl, h2, h3⟩; exact k x _ h1 h2 h3)
  unfold m_law_sign
  refine gF ?_
  tm_at "M"
  refine q_addS (by decide) ?_
  tm_at "M"
  refine q_draw h (by omega) (by decide) (by decide) fun t0 S1 a0 b0 hw o1 l1 => ?_
  refine q_ixA (P := fun d => ∃ l : List Nat, d = .str (strOf l) ∧ Wb 200 l ∧ 0 < l.length) (fun d hd => ?_) a0 b0 fun d hd => ?_
  · rcases List.mem_cons.mp hd with z | z
    · rw [z]
      exact tx_of (by decide +kernel) (by decide +kernel) (by decide +kernel)
    · rw [List.mem_singleton.mp z]
      exact tx_of (by decide +kernel) (by decide +kernel) (by decide +kernel)
  obtain ⟨l, rfl, hwb, hpos⟩ := hd
  tm_at "M"
  refine q_lenS (by rw [TL.len_tl, tl_strOf]; exact Nat.le_trans hwb.l (by decide)) ?_
  rw [TL.len_tl, tl_strOf]
  have hl200 := hwb.l
  tm_at "M"
  refine q_draw hw (by omega) (by omega) (by omega) fun t1 S2 a1 b1 hw2 o2 l2 => ?_
  obtain ⟨i, rfl⟩ := Int.eq_ofNat_of_zero_le a1
  have hi : i < l.length := by omega
  refine q_ixS (c := l[i]) (by rw [TL.len_tl, tl_strOf]; exact Nat.le_trans hwb.l (by decide)) (atN_of hi) ?_
  tm_at "M"
  refine ⟨l[i], hwb.a _ (List.getElem_mem hi), rfl, ?_⟩
  have : S2.take S.length = S2 := by rw [← l1, ← l2, List.take_length]
  rw [this]
  exact ⟨hw2, l2.trans l1⟩
/-- a text so often -/
theorem q_repW {x : Str} {m : Nat} {k : Int} {Q : W → Sto → Prop} (hw : Wb m (tl x)) (h1 : 1 ≤ (tl x).length) (h2 : m ≤ 100) (h3 : 2 ≤ k) (h4 : k ≤ 5000) (q : ∀ l, Wb (k.toNat * m) l → Q (.d (.str (strOf l))) S) : Gives (oRepS (.d (.str x)) (.d (.int k)) S) Q := by
  refine q_repS (by rw [TL.len_tl]; exact h1) (by rw [TL.len_tl]; exact Nat.le_trans hw.l h2) h3 h4 ?_
  have := q (tl (repS x k.toNat)) (by rw [← strOf_tl x]; exact rep_wb hw)
  rw [strOf_tl] at this
  exact this
theorem q_addWS {x : Str} {b : List Nat} {m k : Nat} {Q : W → Sto → Prop} (hx : Wb m (tl x)) (hb : Wb k b) (h : m + k ≤ 2000000) (q : ∀ l, Wb (m + k) l → Q (.d (.str (strOf l))) S) : Gives (oAddS (.d (.str x)) (.d (.str (strOf b))) S) Q := by
  rw [← strOf_tl x]
  exact q_addW (by have := hx.l; have := hb.l; omega) (q _ (hx.app hb))
theorem tx_cons {k : Nat} {l : List Nat} {ds : List PyData} (h : Wb k l) (h' : ∀ d ∈ ds, TxB k d) : ∀ d ∈ PyData.str (strOf l) :: ds, TxB k d := fun d hd => by
  rcases List.mem_cons.mp hd with z | z
  · exact ⟨l, z, h⟩
  · exact h' d z
theorem tx_nil {k : Nat} : ∀ d ∈ ([] : List PyData), TxB k d := fun d hd => nomatch hd
theorem tx_app {k : Nat} {ds es : List PyData} (h : ∀ d ∈ ds, TxB k d) (h' : ∀ d ∈ es, TxB k d) : ∀ d ∈ ds ++ es, TxB k d := fun d hd => (List.mem_append.mp hd).elim (h d) (h' d)
theorem q_catA {ds es : List PyData} {k n m : Nat} {Q : W → Sto → Prop} (h1 : ∀ d ∈ ds, TxB k d) (h2 : ∀ d ∈ es, TxB k d) (l1 : ds.length = n) (l2 : es.length = m) (hl : n + m ≤ 1000) (q : ∀ fs, (∀ d ∈ fs, TxB k d) → fs.length = n + m → Q (.d (.list fs)) S) : Gives (oAdd (.d (.list ds)) (.d (.list es)) S) Q :=
  q_catL (by rw [l1, l2]; exact Nat.le_trans hl (by decide)) (q _ (tx_app h1 h2) (by rw [List.length_append, l1, l2]))
theorem odd_ok {n c : Nat} {S0 : Sto} {Q : W → Sto → Prop} (h : Wl n c S0 S) (hc : c + 2 ≤ 10 ^ 9) (k : ∀ (l : List Nat) (S' : Sto), Wb 4400 l → Wl n (c + 1) S0 S' → S'.length = S.length → Q (.d (.str (strOf l))) S') : Gives (m_law_odd_word N [.ref n] S) Q := by
  refine Gives.mono (Q := fun w S' => ∃ l : List Nat, Wb 4400 l ∧ w = .d (.str (strOf l)) ∧ Wl n (c + 1) S0 S' ∧ S'.length = S.length) ?_ (by rintro _ _ ⟨x, h1, rfl, h2, h3⟩; exact k x _ h1 h2 h3)
  have w9 : Wb 1 (tl (Str.ofString "9")) := wb_lit (by decide) (by decide)
  have w0 : Wb 1 (tl (Str.ofString "0")) := wb_lit (by decide) (by decide)
  have w7 : Wb 1 (tl (Str.ofString "7")) := wb_lit (by decide) (by decide)
  unfold m_law_odd_word
  refine gF ?_
  tm_at "M"
  refine q_catA (k := 4400) (txB_all (by decide +kernel)) (txB_all (by decide +kernel)) rfl rfl (by decide) fun d1 p1 n1 => ?_
  tm_at "M"
  refine q_repW w9 (by decide) (by decide) (by decide) (by decide) fun a1 b1 => ?_
  tm_at "M"
  refine q_repW w9 (by decide) (by decide) (by decide) (by decide) fun a2' b2' => ?_
  refine q_addWS (m := 1) (wb_lit (by decide) (by decide)) b2' (by decide) fun a2 b2 => ?_
  tm_at "M"
  refine q_repW w0 (by decide) (by decide) (by decide) (by decide) fun a3' b3' => ?_
  refine q_addWS (m := 1) (wb_lit (by decide) (by decide)) b3' (by decide) fun a3 b3 => ?_
  tm_at "M"
  refine q_repW w9 (by decide) (by decide) (by decide) (by decide) fun a4' b4' => ?_
  refine q_addWS (m := 2) (wb_lit (by decide) (by decide)) b4' (by decide) fun a4 b4 => ?_
  tm_at "M"
  refine q_repW w0 (by decide) (by decide) (by decide) (by decide) fun a5' b5' => ?_
  refine q_addWS (m := 3) (wb_lit (by decide) (by decide)) b5' (by decide) fun a5 b5 => ?_
  tm_at "M"
  refine q_repW w0 (by decide) (by decide) (by decide) (by decide) fun a6 b6 => ?_
  tm_at "M"
  refine q_catA (k := 4400) (n := 29) (m := 6) p1 (tx_cons (b1.up (by decide)) (tx_cons (b2.up (by decide)) (tx_cons (b3.up (by decide)) (tx_cons (b4.up (by decide)) (tx_cons (b5.up (by decide)) (tx_cons (b6.up (by decide)) tx_nil)))))) n1 rfl (by decide) fun d2 p2 n2 => ?_
  tm_at "M"
  refine q_repW w7 (by decide) (by decide) (by decide) (by decide) fun a7 b7 => ?_
  tm_at "M"
  refine q_catA (k := 4400) (n := 35) (m := 13) p2 (tx_cons (b7.up (by decide)) (txB_all (by decide +kernel))) n2 rfl (by decide) fun d3 p3 n3 => ?_
  tm_at "M"
  refine q_catA (k := 4400) (n := 48) (m := 13) p3 (txB_all (by decide +kernel)) n3 rfl (by decide) fun d4 p4 n4 => ?_
  tm_at "M"
  refine q_catA (k := 4400) (n := 61) (m := 4) p4 (txB_all (by decide +kernel)) n4 rfl (by decide) fun d5 p5 n5 => ?_
  tm_at "M"
  rw [n5]
  refine q_draw h (by omega) (by decide) (by decide) fun t1 S2 t0 t2 hw2 o2 l2 => ?_
  refine q_ixA p5 t0 (by rw [n5]; exact t2) fun d hd => ?_
  obtain ⟨l, rfl, hwb⟩ := hd
  tm_at "M"
  have e : S2.take S.length = S2 := by rw [← l2, List.take_length]
  rw [e]
  exact ⟨l, hwb, rfl, hw2, l2⟩
theorem bent_signs {n c k : Nat} {S0 : Sto} {l : List Nat} {Q : W → Sto → Prop} (h : Wl n c S0 S) (hc : c + 5 ≤ 10 ^ 9) (hl : Wb k l) (hk : k ≤ 300000) (q : ∀ (l' : List Nat) (S' : Sto), Wb (k + 3) l' → Wl n (c + 4) S0 S' → S'.length = S.length → Q (.d (.str (strOf l'))) S') : Gives (m_law_bent_signs N [.ref n, .d (.str (strOf l))] S) Q := by
  refine Gives.mono (Q := fun w S' => ∃ l' : List Nat, Wb (k + 3) l' ∧ w = .d (.str (strOf l')) ∧ Wl n (c + 4) S0 S' ∧ S'.length = S.length) ?_ (by rintro _ _ ⟨x, h1, rfl, h2, h3⟩; exact q x _ h1 h2 h3)
  have hs : (strOf l).length ≤ slim := by rw [TL.len_tl, tl_strOf]; exact Nat.le_trans hl.l (Nat.le_trans hk (by decide))
  have hll := hl.l
  unfold m_law_bent_signs
  refine gF ?_
  tm_at "M"
  refine q_lenS hs ?_
  rw [TL.len_tl, tl_strOf]
  tm_at "M"
  refine q_draw h (by omega) (by omega) (by omega) fun t1 S1 a1 b1 hw1 o1 l1 => ?_
  obtain ⟨i, rfl⟩ := Int.eq_ofNat_of_zero_le a1
  tm_at "M"
  refine q_draw hw1 (by omega) (by decide) (by decide) fun t2 S2 a2 b2 hw2 o2 l2 => ?_
  tm_at "M"
  have e1 : ((i : Nat) : Int) + 1 = ((i + 1 : Nat) : Int) := by omega
  have e2 : ((i : Nat) : Int) + 2 = ((i + 2 : Nat) : Int) := by omega
  have fin : ∀ (c' : Nat) (S' : Sto) (r : List Nat), Wl n c' S0 S' → c' ≤ c + 4 → S'.length = S.length → (∀ d ∈ r, d < 128) → r.length ≤ l.length + 3 → ∃ l' : List Nat, Wb (k + 3) l' ∧ W.d (.str (strOf r)) = .d (.str (strOf l')) ∧ Wl n (c + 4) S0 (S'.take S.length) ∧ (S'.take S.length).length = S.length := fun c' S' r hw hc' hl' hr hr2 => by
    rw [← hl', List.take_length]
    exact ⟨r, ⟨hr, by omega⟩, rfl, hw.up hc', rfl⟩
  have mT : ∀ (j : Nat), ∀ d ∈ l.take j, d < 128 := fun j d hd => hl.a d (List.mem_of_mem_take hd)
  have mD : ∀ (j : Nat), ∀ d ∈ l.drop j, d < 128 := fun j d hd => hl.a d (List.mem_of_mem_drop hd)
  have mA : ∀ {a b : List Nat}, (∀ d ∈ a, d < 128) → (∀ d ∈ b, d < 128) → ∀ d ∈ a ++ b, d < 128 := fun ha hb d hd => (List.mem_append.mp hd).elim (ha d) (hb d)
  have lT : ∀ j, (l.take j).length ≤ j := fun j => by rw [List.length_take]; omega
  have lT' : ∀ j, (l.take j).length ≤ l.length := fun j => by rw [List.length_take]; omega
  have lD : ∀ j, (l.drop j).length = l.length - j := fun j => List.length_drop
  have lM : ∀ a b, ((l.drop a).take (b - a)).length ≤ b - a := fun a b => by rw [List.length_take]; omega
  have hi : i ≤ l.length := by omega
  refine brt_d (fun h0 => ?_) (fun h0 => ?_)
  · tm_at "M"
    refine ⟨hs, ?_⟩
    rw [cut_strL]
    tm_at "M"
    have t1 := lT i
    have t2 := lD i
    refine sign_ok hw2 (by omega) fun x S3 hx hw3 l3 => ?_
    refine q_addW (by simp only [List.length_cons, List.length_nil]; omega) ?_
    tm_at "M"
    refine ⟨hs, ?_⟩
    rw [cut_strR]
    refine q_addW (by simp only [List.length_append, List.length_cons, List.length_nil]; omega) ?_
    tm_at "M"
    exact fin _ _ _ hw3 (by omega) (by omega) (mA (mA (mT i) fun d hd => by rw [List.mem_singleton.mp hd]; exact hx) (mD i)) (by simp only [List.length_append, List.length_cons, List.length_nil]; omega)
  tm_at "M"
  refine brt_d (fun h1 => ?_) (fun h1 => ?_)
  · tm_at "M"
    refine ⟨hs, ?_⟩
    rw [cut_strL]
    tm_at "M"
    have t1 := lT i
    have t2 := lD (i + 1)
    refine sign_ok hw2 (by omega) fun x S3 hx hw3 l3 => ?_
    refine q_addW (by simp only [List.length_cons, List.length_nil]; omega) ?_
    tm_at "M"
    rw [e1]
    refine ⟨hs, ?_⟩
    rw [cut_strR]
    refine q_addW (by simp only [List.length_append, List.length_cons, List.length_nil]; omega) ?_
    tm_at "M"
    exact fin _ _ _ hw3 (by omega) (by omega) (mA (mA (mT i) fun d hd => by rw [List.mem_singleton.mp hd]; exact hx) (mD (i + 1))) (by simp only [List.length_append, List.length_cons, List.length_nil]; omega)
  tm_at "M"
  refine brt_d (fun h2 => ?_) (fun h2 => ?_)
  · tm_at "M"
    refine ⟨hs, ?_⟩
    rw [cut_strL]
    tm_at "M"
    rw [e1]
    refine ⟨hs, ?_⟩
    rw [cut_strR]
    have t1 := lT i
    have t2 := lD (i + 1)
    refine q_addW (by omega) ?_
    tm_at "M"
    exact fin _ _ _ hw2 (by omega) (by omega) (mA (mT i) (mD (i + 1))) (by rw [List.length_append]; omega)
  · tm_at "M"
    refine ⟨hs, ?_⟩
    rw [cut_strL]
    tm_at "M"
    rw [e1, e2]
    refine ⟨hs, ?_⟩
    rw [cut_strM]
    have t1 := lT i
    have t2 := lM (i + 1) (i + 2)
    have t3 := lM i (i + 1)
    have t4 := lD (i + 2)
    refine q_addW (by omega) ?_
    tm_at "M"
    rw [e1]
    refine ⟨hs, ?_⟩
    rw [cut_strM]
    refine q_addW (by rw [List.length_append]; omega) ?_
    tm_at "M"
    rw [e2]
    refine ⟨hs, ?_⟩
    rw [cut_strR]
    refine q_addW (by rw [List.length_append, List.length_append]; omega) ?_
    tm_at "M"
    exact fin _ _ _ hw2 (by omega) (by omega) (mA (mA (mA (mT i) fun d hd => mD (i + 1) d (List.mem_of_mem_take hd)) fun d hd => mD i d (List.mem_of_mem_take hd)) (mD (i + 2))) (by rw [List.length_append, List.length_append, List.length_append]; omega)
theorem erase_map : ∀ (ps : List (List Nat)) (i : Nat), (ps.map wd).eraseIdx i = (ps.eraseIdx i).map wd
  | [], _ => rfl
  | p :: ps, 0 => rfl
  | p :: ps, i + 1 => by rw [List.map_cons, List.eraseIdx_cons_succ, List.eraseIdx_cons_succ, List.map_cons, erase_map ps i]
theorem ix_some {ps : List (List Nat)} {i : Nat} (h : i < ps.length) : (ps.map wd)[i]? = some (wd ps[i]) := by rw [List.getElem?_map, List.getElem?_eq_getElem h]; rfl
theorem atW {ps : List (List Nat)} {i : Nat} (h : i < ps.length) : atI (ps.map wd) ((i : Nat) : Int) = some (wd ps[i]) := by
  rw [atG_of (l := ps.map wd) (i := i) (by rw [List.length_map]; exact h), List.getElem_map]
theorem ixN_nat {n i : Nat} (h : i < n) : ixN n ((i : Nat) : Int) = some i := by
  unfold ixN
  rw [if_pos (by omega), if_pos (by omega)]
  rfl
theorem allA_set {ps : List (List Nat)} {i : Nat} {x : List Nat} (h : AllA ps) (hx : ∀ c ∈ x, c < 128) : AllA (ps.set i x) := fun p hp => by
  rcases List.mem_or_eq_of_mem_set hp with z | z
  · exact h p z
  · rw [z]; exact hx
theorem bent_parts {n c k : Nat} {S0 : Sto} {l od : List Nat} {Q : W → Sto → Prop} (h : Wl n c S0 S) (hc : c + 5 ≤ 10 ^ 9) (hl : Wb k l) (hk : k ≤ 300000) (ho : Wb 4400 od) (q : ∀ (l' : List Nat) (S' : Sto), Wb (3 * k + 4405) l' → Wl n (c + 3) S0 S' → S'.length = S.length → Q (.d (.str (strOf l'))) S') : Gives (m_law_bent_parts N [.ref n, .d (.str (strOf l)), .d (.str (strOf [32])), .d (.str (strOf od))] S) Q := by
  refine Gives.mono (Q := fun w S' => ∃ l' : List Nat, Wb (3 * k + 4405) l' ∧ w = .d (.str (strOf l')) ∧ Wl n (c + 3) S0 S' ∧ S'.length = S.length) ?_ (by rintro _ _ ⟨x, h1, rfl, h2, h3⟩; exact q x _ h1 h2 h3)
  have hs : (strOf l).length ≤ slim := by rw [TL.len_tl, tl_strOf]; exact Nat.le_trans hl.l (Nat.le_trans hk (by decide))
  have hll := hl.l
  have hlim : lim = 1000000 := rfl
  unfold m_law_bent_parts
  refine gF ?_
  tm_at "M"
  refine q_splitC (by decide) hs ?_
  rw [split_wd (y := strOf [32]) (by decide) (by decide +kernel), tl_strOf]
  have hA := spl_asc (s := 32) hl.a
  have hms := spl_ms 32 l []
  have hne := spl_ne [32] l 0 []
  have hpm : ∀ p ∈ spl [32] 0 [] l, p.length + 1 ≤ ms (spl [32] 0 [] l) := fun p hp => ms_mem hp
  generalize spl [32] 0 [] l = ps at *
  rw [List.length_nil] at hms
  have hpl := ms_len ps
  have hpos := List.length_pos_iff.mpr hne
  have hn := h.at'.lt
  have hlen0 := h.len
  have hcell := cell_at S (ps.map wd)
  have hml : (ps.map wd).length = ps.length := List.length_map _
  tm_at "M"
  refine q_lenC hcell ?_
  rw [hml]
  tm_at "M"
  refine q_drawP ((Wl.refl h.at').p.app _) (by omega) (by omega) (by omega) fun t1 S1 a1 b1 hw1 o1 l1 => ?_
  obtain ⟨i, rfl⟩ := Int.eq_ofNat_of_zero_le a1
  have hi : i < ps.length := by omega
  tm_at "M"
  refine q_drawP hw1 (by omega) (by decide) (by decide) fun t2 S2 a2 b2 hw2 o2 l2 => ?_
  have ne : n ≠ S.length := by omega
  have hc2 : S2[S.length]? = some (.lst (ps.map wd)) := by rw [o2 _ (Ne.symm ne), o1 _ (Ne.symm ne)]; exact hcell
  tm_at "M"
  refine q_lenC hc2 ?_
  rw [hml]
  tm_at "M"
  refine q_drawP hw2 (by omega) (by omega) (by omega) fun t3 S3 a3 b3 hw3 o3 l3 => ?_
  obtain ⟨j, rfl⟩ := Int.eq_ofNat_of_zero_le a3
  have hj : j < ps.length := by omega
  have hc3 : S3[S.length]? = some (.lst (ps.map wd)) := by rw [o3 _ (Ne.symm ne)]; exact hc2
  have hlt3 : S.length < S3.length := (List.getElem?_eq_some_iff.mp hc3).1
  tm_at "m"
  tm_at "m"
  tm_at "m"
  -- what the join makes of the parts
  refine grMono (Q := fun r => ∃ (o8 : Option W) (qs : List (List Nat)) (S' : Sto), r = .nx [some (.ref n), some (.d (.str (strOf l))), some (.d (.str (strOf [32]))), some (.d (.str (strOf od))), some (.ref S.length), some (.d (.int (j : Nat))), some (.d (.int (i : Nat))), some (.d (.int t2)), o8] S' ∧ S'[S.length]? = some (.lst (qs.map wd)) ∧ AllA qs ∧ ms qs ≤ 3 * k + 4405 ∧ WlP n (c + 3) S S') ?_ ?_
  · have hwi := hpm _ (List.getElem_mem hi)
    have hwj := hpm _ (List.getElem_mem hj)
    tm_at "M"
    refine brt_d (fun h0 => ?_) (fun h0 => ?_)
    · tm_at "M"
      refine gM_methL rfl hc3 ?_
      tm_at "M"
      refine q_ixC hc3 (atW hi) ?_
      tm_at "M"
      refine q_insert hc3 (by rw [hml]; omega) (by omega) (by omega) ?_
      rw [Int.toNat_natCast]
      refine ⟨_, ps.take j ++ [ps[i]] ++ ps.drop j, _, rfl, ?_, fun p hp c hc => ?_, by rw [ms_ins]; omega, hw3.set (by omega) (by omega)⟩
      · rw [List.getElem?_set_self hlt3, List.map_append, List.map_append, List.map_take, List.map_drop]
        rfl
      · rcases List.mem_append.mp hp with z | z
        · rcases List.mem_append.mp z with z | z
          · exact hA p (List.mem_of_mem_take z) c hc
          · rw [List.mem_singleton.mp z] at hc; exact hA _ (List.getElem_mem hi) c hc
        · exact hA p (List.mem_of_mem_drop z) c hc
    · tm_at "M"
      refine brt_d (fun h1 => ?_) (fun h1 => ?_)
      · tm_at "M"
        refine gM_methL rfl hc3 ?_
        tm_at "M"
        refine q_popAt hc3 (by omega) (by omega) (d := wd ps[i]) (by rw [Int.toNat_natCast]; exact ix_some hi) ?_
        rw [Int.toNat_natCast]
        refine ⟨_, ps.eraseIdx i, _, rfl, ?_, fun p hp c hc => hA p (List.mem_of_mem_eraseIdx hp) c hc, by have := ms_erase ps i; omega, hw3.set (by omega) (by omega)⟩
        rw [List.getElem?_set_self hlt3, erase_map]
      · tm_at "M"
        refine brt_d (fun h2 => ?_) (fun h2 => ?_)
        · tm_at "M"
          refine q_ixC hc3 (atW hi) ?_
          tm_at "M"
          refine q_ixC hc3 (atW hj) ?_
          tm_at "M"
          refine put_c hc3 (ixN_nat (by rw [hml]; exact hi)) ?_
          have hc4 : (S3.set S.length (.lst ((ps.map wd).set i (wd ps[j]))))[S.length]? = some (.lst ((ps.map wd).set i (wd ps[j]))) := List.getElem?_set_self hlt3
          tm_at "M"
          refine put_c hc4 (ixN_nat (by rw [List.length_set, hml]; exact hj)) ?_
          tm_at "M"
          have m1 := ms_set ps i ps[j]
          have m2 := ms_set (ps.set i ps[j]) j ps[i]
          refine ⟨_, (ps.set i ps[j]).set j ps[i], _, rfl, ?_, allA_set (allA_set hA (hA _ (List.getElem_mem hj))) (hA _ (List.getElem_mem hi)), by omega, (hw3.set (by omega) (by omega)).set (by omega) (by omega)⟩
          rw [List.getElem?_set_self (by rw [List.length_set]; exact hlt3), List.map_set, List.map_set]
        · tm_at "M"
          refine put_c hc3 (ixN_nat (by rw [hml]; exact hi)) ?_
          tm_at "M"
          have m1 := ms_set ps i od
          have m2 := ho.l
          refine ⟨_, ps.set i od, _, rfl, ?_, allA_set hA ho.a, by omega, hw3.set (by omega) (by omega)⟩
          rw [List.getElem?_set_self hlt3, List.map_set]
          rfl
  · rintro _ ⟨o8, qs, S', rfl, hcq, hAq, hmq, hwq⟩
    tm_at "M"
    refine q_joinW hcq (by omega) ?_
    tm_at "M"
    have hcut := hwq.cut (by omega)
    exact ⟨_, join_wb (by decide) hAq hmq, rfl, h.trans hcut, by rw [List.length_take]; have := hwq.len; omega⟩
end K53

set_option maxHeartbeats 2000000
/-! k53: texts of things, bent up to three times -/
namespace K53
open PySem PySem.Spec PyProof.Rows L2 Mr Pg Xw
open TL (tl spl par joinL)

variable {N : Nat} {S : Sto}
theorem address_ok {n c : Nat} (h : WlAt n c S) (hc : c + 4000 ≤ 10 ^ 9) : Gives (m_law_address N [.ref n] S) fun w S' => ∃ l r : List Nat, w = .d (.tuple [plcD l, plcD r]) ∧ (AT l r ∧ r.length ≤ 300) ∧ Wl n (c + 4000) S S' := by
  have hn := h.lt
  unfold m_law_address
  refine gF ?_
  tm_at "M"
  refine q_draw (Wl.refl h) (by omega) (by decide) (by decide) fun t0 S1 a0 b0 hw o1 l1 => ?_
  refine q_ixV (l := [0, 1, 2, 7, 40]) (P := fun v => 0 ≤ v ∧ v ≤ 40) (by decide) a0 b0 fun v0 hv0 => ?_
  tm_at "M"
  refine q_draw hw (by omega) (by decide) (by decide) fun t1 S2 a1 b1 hw o2 l2 => ?_
  refine q_ixV (l := [1, 1, 2, 3, 9, 300]) (P := fun v => 1 ≤ v ∧ v ≤ 300) (by decide) a1 b1 fun v1 hv1 => ?_
  tm_at "M"
  refine q_draw hw (by omega) (by decide) (by decide) fun t2 S3 a2 b2 hw o3 l3 => ?_
  refine q_ixV (l := [2, 6, 36, 100000000]) (P := fun v => 1 ≤ v ∧ v ≤ 100000000) (by decide) a2 b2 fun wide hwide => ?_
  tm_at "M"
  have one : ∀ (v : Int) (c' : Nat) (T : Sto) (o3 o4 : Option W) (QC : List PyData → Sto → Prop), 0 ≤ v → v ≤ 3000 → c' ≤ 10 ^ 9 - 3000 → Wl n c' S T → (∀ (l : List Nat) (T' : Sto), l.length = v.toNat → (∀ i ∈ l, i < 100000000) → Wl n (c' + v.toNat) S T' → QC (l.map fun i => .int (i : Nat)) T') →
      GvC (compL (.nm 4) cYes (mCall (m_law_draw N) (mCons (mVar 0) (mCons (mVar 2) mNil))) [some (.ref n), some (.d (.list [.int v0, .int v1])), some (.d (.int wide)), o3, o4] (rng 0 v.toNat) T) QC := by
    intro v c' T o3 o4 QC hv0 hv1 hc' hw hQ
    refine gC_rng (J := fun k acc T' => Wl n (c' + k) S T' ∧ ∃ l : List Nat, acc = l.map (fun i => .int (i : Nat)) ∧ l.length = k ∧ ∀ i ∈ l, i < 100000000) ⟨hw, [], rfl, rfl, fun x hx => nomatch hx⟩ (fun k acc S2 hk j => ?_) (fun r S2 j => ?_)
    · obtain ⟨hw, l, rfl, hl, hx⟩ := j
      tm_at "M"
      refine q_draw hw (by omega) (by omega) (by omega) fun t S3 a b hw o l' => ?_
      obtain ⟨t, rfl⟩ := Int.eq_ofNat_of_zero_le a
      exact ⟨_, rfl, hw, l ++ [t], by rw [List.map_append]; rfl, by rw [List.length_append, hl]; rfl, fun x hx' => by
        rcases List.mem_append.mp hx' with z | z
        · exact hx x z
        · rw [List.mem_singleton.mp z]; omega⟩
    · obtain ⟨hw, l, rfl, hl, hx⟩ := j
      exact hQ l S2 hl hx hw
  refine ⟨show 2 ≤ lim by decide, ?_⟩
  show GvC (compL (.nm 3) cYes _ [some (.ref n), some (.d (.list [.int v0, .int v1])), some (.d (.int wide)), none, none] [.d (.int v0), .d (.int v1)] S3) _
  refine gC_cons ?_
  tm_at "M"
  refine ⟨by rw [rng_len]; exact Nat.le_trans (show v0.toNat ≤ 40 by omega) (by decide), ?_⟩
  refine one v0 _ S3 _ _ _ hv0.1 (by omega) (by omega) hw fun l T hl hs hw => ?_
  tm_at "M"
  refine ⟨_, rfl, ?_⟩
  refine gC_cons ?_
  tm_at "M"
  refine ⟨by rw [rng_len]; exact Nat.le_trans (show v1.toNat ≤ 3000 by omega) (by decide), ?_⟩
  refine one v1 _ T _ _ _ (by omega) (by omega) (by omega) hw fun r T2 hr hs2 hw => ?_
  tm_at "M"
  refine ⟨_, rfl, ?_⟩
  refine gC_nil ?_
  tm_at "M"
  refine ⟨l, r, rfl, ⟨⟨by omega, fun z => by rw [z] at hr; simp at hr; omega, by omega, fun i hi => ?_⟩, by omega⟩, ?_⟩
  · rcases List.mem_append.mp hi with z | z
    · exact hs i z
    · exact hs2 i z
  · rw [← hw.len, List.take_length]; exact hw.up (by omega)
theorem wb_addr {l r : List Nat} (h : AT l r) (h3 : r.length ≤ 300) : Wb 7000 (tl (addrT l r)) := by
  rw [tl_addrT]
  constructor
  · intro c hc
    rcases join_mem hc with z | ⟨p, hp, hc⟩
    · have : c = 32 := List.mem_singleton.mp z
      omega
    · unfold adW at hp
      rcases List.mem_append.mp hp with hp | hp
      · rcases List.mem_append.mp hp with hp | hp
        · rcases List.mem_append.mp hp with hp | hp
          · obtain ⟨i, _, rfl⟩ := List.mem_map.mp hp; exact sg_asc _ c hc
          · rw [List.mem_singleton.mp hp] at hc; have := List.mem_singleton.mp hc; omega
        · obtain ⟨i, _, rfl⟩ := List.mem_map.mp hp; exact sg_asc _ c hc
      · rw [List.mem_singleton.mp hp] at hc; have := List.mem_singleton.mp hc; omega
  · refine Nat.le_trans (joinL_len (b := 19) fun p hp => ?_) ?_
    · unfold adW at hp
      have one : ∀ {l : List Nat}, (∀ i ∈ l, i < 100000000) → ∀ p ∈ l.map fun i => sg (i : Nat), p.length ≤ 19 := fun hs p hp => by
        obtain ⟨i, hi, rfl⟩ := List.mem_map.mp hp
        exact sg_len (by rw [Int.natAbs_natCast]; have := hs i hi; omega)
      rcases List.mem_append.mp hp with hp | hp
      · rcases List.mem_append.mp hp with hp | hp
        · rcases List.mem_append.mp hp with hp | hp
          · exact one (fun i hi => h.sm i (List.mem_append_left _ hi)) p hp
          · rw [List.mem_singleton.mp hp]; decide
        · exact one (fun i hi => h.sm i (List.mem_append_right _ hi)) p hp
      · rw [List.mem_singleton.mp hp]; decide
    · have e : (adW l r).length = l.length + 1 + r.length + 1 := by simp [adW]; omega
      have := h.l1
      have := h.r1
      rw [e]
      show (l.length + 1 + r.length + 1) * 20 ≤ _
      omega
/-! kits -/

theorem numT_wb {t b : Int} (ht : t.natAbs < 2 ^ 1000) (hb : b.natAbs < 2 ^ 1000) : Wb 2003 (tl (numT t b)) := ⟨fun c hc => by
  rw [tl_numT] at hc
  split at hc
  · exact sg_asc _ c hc
  · rcases List.mem_append.mp hc with z | z
    · exact sg_asc _ c z
    · rcases List.mem_cons.mp z with y | y
      · rw [y]; decide
      · exact sg_asc _ c y, by
  have := numT_len ht hb
  rw [TL.len_tl] at this
  exact this⟩
theorem q_addT {x y : Str} {m k : Nat} {Q : W → Sto → Prop} (hx : Wb m (tl x)) (hy : Wb k (tl y)) (h : m + k ≤ 2000000) (q : ∀ z : Str, Wb (m + k) (tl z) → Q (.d (.str z)) S) : Gives (oAddS (.d (.str x)) (.d (.str y)) S) Q := by
  refine q_addS ?_ (q _ (by rw [TL.tl_append]; exact hx.app hy))
  have h1 := hx.l
  have h2 := hy.l
  rw [TL.len_tl, TL.len_tl]
  exact Nat.le_trans (by omega) (show (2000000 : Nat) ≤ slim by decide)
theorem text_ok (hN : 2 ^ 1100 ≤ N) {n c kind : Nat} {S0 : Sto} {Q : W → Sto → Prop} (h : Wl n c S0 S) (hc : c + 5000 ≤ 10 ^ 9) (hk : kind < 3) (q : ∀ (l : List Nat) (S' : Sto), Wb 7000 l → Wl n (c + 4001) S0 S' → S'.length = S.length → Q (.d (.str (strOf l))) S') : Gives (m_law_text N [.ref n, .d (.int (kind : Nat))] S) Q := by
  refine Gives.mono (Q := fun w S' => ∃ l : List Nat, Wb 7000 l ∧ w = .d (.str (strOf l)) ∧ Wl n (c + 4001) S0 S' ∧ S'.length = S.length) ?_ (by rintro _ _ ⟨x, h1, rfl, h2, h3⟩; exact q x _ h1 h2 h3)
  unfold m_law_text
  refine gF ?_
  tm_at "M"
  refine q_draw h (by omega) (by decide) (by decide) fun t0 S1 a0 b0 hw o1 l1 => ?_
  refine q_ixV (l := [2, 6, 9]) (P := fun v => 2 ≤ v ∧ v ≤ 9) (by decide) a0 b0 fun v hv => ?_
  obtain ⟨most, rfl⟩ := Int.eq_ofNat_of_zero_le (show 0 ≤ v by omega)
  have fin : ∀ (c' : Nat) (S' : Sto) (z : Str), Wl n c' S0 S' → c' ≤ c + 4001 → S'.length = S.length → Wb 7000 (tl z) → ∃ l : List Nat, Wb 7000 l ∧ W.d (.str z) = .d (.str (strOf l)) ∧ Wl n (c + 4001) S0 (S'.take S.length) ∧ (S'.take S.length).length = S.length := fun c' S' z hw hc' hl' hz => by
    rw [← hl', List.take_length]
    exact ⟨tl z, hz, by rw [strOf_tl], hw.up hc', rfl⟩
  have num : ∀ (c' : Nat) (S2 : Sto) (Q : W → Sto → Prop), Wl n c' S0 S2 → c' ≤ c + 1000 → (∀ (t b : Int) (S3 : Sto), t.natAbs < 2 ^ 1000 → b.natAbs < 2 ^ 1000 → Wl n (c' + 6) S0 S3 → S3.length = S2.length → Q (.d (.tuple [.int t, .int b])) S3) → Gives (m_law_number N [.ref n, .d (.int (most : Nat))] S2) Q := fun c' S2 Q hw hc' k => by
    refine Gives.mono (number_ok hN hw.at' (by omega) (by omega) (by omega)) ?_
    rintro _ S3 ⟨t, b, rfl, h1, h2, h3⟩
    exact k t b S3 h1 h2 (hw.trans h3) h3.len
  have w32 : Wb 1 (tl (Str.ofString " ")) := wb_lit (by decide) (by decide)
  tm_at "M"
  refine brt_d (fun h0 => ?_) (fun h0 => ?_)
  · tm_at "M"
    refine num _ _ _ hw (by omega) fun t b S2 h1 h2 hw2 l2 => ?_
    tm_at "M"
    refine said_number h1 h2 ?_
    tm_at "M"
    exact fin _ _ _ hw2 (by omega) (by omega) ((numT_wb h1 h2).up (by decide))
  tm_at "M"
  refine brt_d (fun h1 => ?_) (fun h1 => ?_)
  · tm_at "M"
    refine num _ _ _ hw (by omega) fun t b S2 h1 h2 hw2 l2 => ?_
    tm_at "M"
    refine said_number h1 h2 ?_
    tm_at "M"
    refine q_addT (numT_wb h1 h2) w32 (by decide) fun z hz => ?_
    tm_at "M"
    refine num _ _ _ hw2 (by omega) fun t b S3 h1 h2 hw3 l3 => ?_
    tm_at "M"
    refine said_number h1 h2 ?_
    refine q_addT hz (numT_wb h1 h2) (by decide) fun z hz => ?_
    tm_at "M"
    exact fin _ _ _ hw3 (by omega) (by omega) (hz.up (by decide))
  · tm_at "M"
    refine Gives.mono (address_ok (N := N) hw.at' (by omega)) ?_
    rintro _ S2 ⟨l, r, rfl, ⟨hA, hA3⟩, hw2⟩
    tm_at "M"
    refine said_address hA ?_
    tm_at "M"
    exact fin _ _ _ (hw.trans hw2) (by omega) (hw2.len.trans l1) (wb_addr hA hA3)
def bd : Nat → Nat
  | 0 => 7000
  | i + 1 => 3 * bd i + 5000
theorem bent_ok {n c : Nat} {S0 : Sto} {l : List Nat} {Q : W → Sto → Prop} (h : Wl n c S0 S) (hc : c + 5000 ≤ 10 ^ 9) (hl : Wb 7000 l) (q : ∀ (l' : List Nat) (S' : Sto), Wb 300000 l' → Wl n (c + 40) S0 S' → S'.length = S.length → Q (.d (.str (strOf l'))) S') : Gives (m_law_bent N [.ref n, .d (.str (strOf l))] S) Q := by
  refine Gives.mono (Q := fun w S' => ∃ l' : List Nat, Wb 300000 l' ∧ w = .d (.str (strOf l')) ∧ Wl n (c + 40) S0 S' ∧ S'.length = S.length) ?_ (by rintro _ _ ⟨x, h1, rfl, h2, h3⟩; exact q x _ h1 h2 h3)
  have b3 : ∀ i, i ≤ 3 → bd i ≤ 254000 := by decide
  have b2 : ∀ i, i < 3 → bd i ≤ 83000 := by decide
  unfold m_law_bent
  have esp : Str.ofString " " = strOf [32] := TL.ext_tl (by decide)
  have enl : Str.ofString "\n" = strOf [10] := TL.ext_tl (by decide)
  rw [esp, enl]
  refine gF ?_
  tm_at "M"
  refine q_draw h (by omega) (by decide) (by decide) fun t0 S1 a0 b0 hw o1 l1 => ?_
  refine q_ixV (l := [0, 1, 1, 1, 2, 3]) (P := fun v => 0 ≤ v ∧ v ≤ 3) (by decide) a0 b0 fun v hv => ?_
  tm_at "M"
  refine gL_rng (J := fun i e S' => ∃ (o2 o3 : Option W) (l' : List Nat), e = [some (.ref n), some (.d (.str (strOf l'))), o2, o3] ∧ Wb (bd i) l' ∧ Wl n (c + 1 + 8 * i) S0 S' ∧ S'.length = S.length) ⟨_, _, l, rfl, hl, hw, l1⟩ (fun i e S2 hi j => ?_) (fun e S2 j => ?_)
  · obtain ⟨o2, o3, l', rfl, hl', hw, l2⟩ := j
    have hi3 : i < 3 := by omega
    have hb := b2 i hi3
    have eb : bd (i + 1) = 3 * bd i + 5000 := rfl
    rw [eb]
    generalize bd i = k at *
    have hll := hl'.l
    tm_at "M"
    refine q_draw hw (by omega) (by decide) (by decide) fun t1 S3 a1 b1 hw3 o3' l3 => ?_
    tm_at "M"
    refine brt_d (fun h0 => ?_) (fun h0 => ?_)
    · tm_at "M"
      refine bent_signs hw3 (by omega) hl' (by omega) fun l4 S4 hl4 hw4 l4' => ?_
      tm_at "M"
      exact ⟨_, _, l4, rfl, hl4.up (by omega), hw4.up (by omega), by omega⟩
    tm_at "M"
    refine brt_d (fun h1 => ?_) (fun h1 => ?_)
    · tm_at "M"
      refine odd_ok hw3 (by omega) fun od S4 hod hw4 l4' => ?_
      tm_at "M"
      refine bent_parts hw4 (by omega) hl' (by omega) hod fun l5 S5 hl5 hw5 l5' => ?_
      tm_at "M"
      exact ⟨_, _, l5, rfl, hl5.up (by omega), hw5.up (by omega), by omega⟩
    · tm_at "M"
      refine q_addW (by simp; omega) ?_
      tm_at "M"
      refine q_draw hw3 (by omega) (by decide) (by decide) fun t2 S4 a2 b2 hw4 o4 l4 => ?_
      refine q_ixA (P := TxB (k + 7)) (fun d hd => ?_) a2 b2 fun d hd => ?_
      · have lit : ∀ s : String, ((Str.ofString s).cps.toList.all fun c => decide (c < 128)) = true → (Str.ofString s).cps.toList.length ≤ 7 → TxB (k + 7) (.str (Str.ofString s)) := fun s h1 h2 => ⟨tl (Str.ofString s), by rw [strOf_tl], (wb_lit h1 h2).up (by omega)⟩
        have nl : ∀ x : Nat, x < 128 → TxB (k + 7) (.str (strOf [x])) := fun x hx => ⟨[x], rfl, ⟨fun d hd => by rw [List.mem_singleton.mp hd]; exact hx, by simp⟩⟩
        rcases List.mem_cons.mp hd with z | hd
        · rw [z]; exact lit "" (by decide) (by decide)
        rcases List.mem_cons.mp hd with z | hd
        · rw [z]; exact lit "0" (by decide) (by decide)
        rcases List.mem_cons.mp hd with z | hd
        · rw [z]; exact nl 32 (by decide)
        rcases List.mem_cons.mp hd with z | hd
        · rw [z]; exact ⟨l', rfl, hl'.up (by omega)⟩
        rcases List.mem_cons.mp hd with z | hd
        · rw [z]; exact nl 10 (by decide)
        · rw [List.mem_singleton.mp hd]; exact lit "( 0 )" (by decide) (by decide)
      obtain ⟨l5, rfl, hl5⟩ := hd
      have h5 := hl5.l
      refine q_addW (by rw [List.length_append]; simp; omega) ?_
      tm_at "M"
      refine ⟨_, _, _, rfl, ?_, hw4.up (by omega), by omega⟩
      exact Wb.up ((hl'.app (m := 1) (r := [10]) ⟨fun d hd => by rw [List.mem_singleton.mp hd]; decide, Nat.le_refl _⟩).app hl5) (by omega)
  · obtain ⟨o2, o3, l', rfl, hl', hw, l2⟩ := j
    tm_at "M"
    have hv3 : v.toNat ≤ 3 := by omega
    have := b3 _ hv3
    refine ⟨l', hl'.up (by omega), rfl, ?_, ?_⟩
    · rw [← l2, List.take_length]; exact hw.up (by omega)
    · rw [← l2, List.take_length]
end K53

set_option maxHeartbeats 1000000
/-! k53: the law's reader of addresses, what is due -/
namespace K53
open PySem PySem.Spec PyProof.Rows L2 Mr Pg Xw
open TL (tl spl par)

variable {N : Nat} {S : Sto}
abbrev Ad := Bool × List Int × List Int
/-- a word more of an address -/
def adS (s : Ad) (w : List Nat) : Option Ad :=
  if w = [40] ∧ s.1 = false then some (true, s.2) else match rdI w with
  | some i => if i < 0 then none else some (if s.1 = true then (true, s.2.1, s.2.2 ++ [i]) else (false, s.2.1 ++ [i], s.2.2))
  | none => none
def adR (s : Ad) : List (List Nat) → Option Ad
  | [] => some s
  | w :: ws => (adS s w).bind fun s' => adR s' ws
theorem adR_cons (s : Ad) (w : List Nat) (ws : List (List Nat)) : adR s (w :: ws) = (adS s w).bind fun s' => adR s' ws := rfl
theorem adR_app : ∀ (ws vs : List (List Nat)) (s : Ad), adR s (ws ++ vs) = (adR s ws).bind fun s' => adR s' vs
  | [], vs, s => rfl
  | w :: ws, vs, s => by
    rw [List.cons_append, adR_cons, adR_cons]
    cases adS s w with
    | none => rfl
    | some s' => exact adR_app ws vs s'
theorem rd40 : rdI [40] = none := by
  unfold rdI
  rw [if_neg]
  rintro ⟨h, _⟩
  exact absurd h (by decide)
theorem rdPl_cons (w : List Nat) (ws : List (List Nat)) : rdPl (w :: ws) = match rdI w with
    | some i => if i < 0 then none else (rdPl ws).map (i :: ·)
    | none => none := by
  unfold rdPl
  rw [List.map_cons, List.all_cons]
  cases e : rdI w with
  | none => rfl
  | some i =>
    dsimp only
    by_cases h : i < 0
    · rw [if_pos h, show plcOk (some i) = false from decide_eq_false (by omega), Bool.false_and]
      rfl
    · rw [if_neg h, show plcOk (some i) = true from decide_eq_true (by omega), Bool.true_and]
      cases (ws.map rdI).all plcOk with
      | true => rfl
      | false => rfl
/-- places ahead -/
theorem adR_ahead : ∀ (ws : List (List Nat)) (a r : List Int), [40] ∉ ws → adR (false, a, r) ws = (rdPl ws).map fun l => (false, a ++ l, r)
  | [], a, r, _ => by
    show some (false, a, r) = some (false, a ++ [], r)
    rw [List.append_nil]
  | w :: ws, a, r, h => by
    have h1 : w ≠ [40] := fun z => h (by rw [z]; exact List.mem_cons_self)
    have h2 : [40] ∉ ws := fun z => h (List.mem_cons_of_mem _ z)
    rw [rdPl_cons]
    unfold adR adS
    rw [if_neg (fun z => h1 z.1)]
    cases e : rdI w with
    | none => rfl
    | some i =>
      dsimp only
      by_cases hi : i < 0
      · rw [if_pos hi, if_pos hi]; rfl
      · rw [if_neg hi, if_neg hi, if_neg (by decide), Option.bind_some, adR_ahead ws _ _ h2, Option.map_map]
        congr 1
        funext l
        simp
/-- places of the ring -/
theorem adR_ring : ∀ (ws : List (List Nat)) (a r : List Int), adR (true, a, r) ws = (rdPl ws).map fun l => (true, a, r ++ l)
  | [], a, r => by
    show some (true, a, r) = some (true, a, r ++ [])
    rw [List.append_nil]
  | w :: ws, a, r => by
    rw [rdPl_cons]
    unfold adR adS
    rw [if_neg (fun z => Bool.noConfusion z.2)]
    cases e : rdI w with
    | none => rfl
    | some i =>
      dsimp only
      by_cases hi : i < 0
      · rw [if_pos hi, if_pos hi]; rfl
      · rw [if_neg hi, if_neg hi, if_pos rfl, Option.bind_some, adR_ring ws, Option.map_map]
        congr 1
        funext l
        simp
theorem rdPl_40 : ∀ {ws : List (List Nat)}, [40] ∈ ws → rdPl ws = none
  | w :: ws, h => by
    rw [rdPl_cons]
    rcases List.mem_cons.mp h with z | z
    · rw [← z, rd40]
    · rw [rdPl_40 z]
      cases rdI w with
      | none => rfl
      | some i => dsimp only; split <;> rfl
/-- the address that the words without the last one show -/
def adD (o : Option Ad) : Option (List Int × List Int) := match o with
  | some (true, a, r) => if r = [] then none else some (a, r)
  | _ => none
theorem rdA_run {l : List Nat} {init : List (List Nat)} (e : spl [32] 0 [] l = init ++ [[41]]) : rdA l = adD (adR (false, [], []) init) := by
  unfold rdA
  rw [e]
  dsimp only
  have hc : (init ++ [[41]]).count [40] = init.count [40] := by
    rw [List.count_append]
    simp
  rw [hc, List.getLast?_append, List.getLast?_singleton]
  by_cases h0 : [40] ∈ init
  · obtain ⟨A, B, rfl, hA⟩ := List.eq_append_cons_of_mem h0
    have hi : (A ++ [40] :: B ++ [[41]]).idxOf [40] = A.length := by
      rw [List.append_assoc, List.idxOf_append, if_neg hA]
      simp
    rw [hi]
    have h1 : (A ++ [40] :: B ++ [[41]]).take A.length = A := by rw [List.append_assoc, List.take_left]
    have h2 : ((A ++ [40] :: B ++ [[41]]).drop (A.length + 1)).dropLast = B := by
      rw [show A ++ [40] :: B ++ [[41]] = (A ++ [[40]]) ++ (B ++ [[41]]) by simp, show A.length + 1 = (A ++ [[40]]).length by simp, List.drop_left, List.dropLast_concat]
    rw [h1, h2, adR_app, adR_ahead _ _ _ hA]
    have hcA : A.count [40] = 0 := List.count_eq_zero.mpr hA
    have hcount : (A ++ [40] :: B).count [40] = B.count [40] + 1 := by
      rw [List.count_append, hcA, List.count_cons_self]
      omega
    rw [hcount]
    by_cases hB : [40] ∈ B
    · have := List.count_pos_iff.mpr hB
      rw [if_neg (by omega)]
      cases rdPl A with
      | none => rfl
      | some a =>
        show _ = adD ((adS (false, [] ++ a, []) [40]).bind fun s' => adR s' B)
        unfold adS
        rw [if_pos ⟨rfl, rfl⟩, Option.bind_some]
        show _ = adD (adR (true, _, _) B)
        rw [adR_ring, rdPl_40 hB]
        rfl
    · rw [List.count_eq_zero.mpr hB, if_pos ⟨rfl, rfl⟩]
      cases rdPl A with
      | none => rfl
      | some a =>
        show _ = adD ((adS (false, [] ++ a, []) [40]).bind fun s' => adR s' B)
        unfold adS
        rw [if_pos ⟨rfl, rfl⟩, Option.bind_some]
        show _ = adD (adR (true, _, _) B)
        rw [adR_ring]
        cases rdPl B with
        | none => rfl
        | some r => rfl
  · rw [List.count_eq_zero.mpr h0, if_neg (by simp), adR_ahead _ _ _ h0]
    cases rdPl init with
    | none => rfl
    | some a => rfl
theorem rdA_last {l : List Nat} (h : (spl [32] 0 [] l).getLast? ≠ some [41]) : rdA l = none := by
  unfold rdA
  dsimp only
  rw [if_neg (fun z => h z.2)]
def listA : Option (List Int × List Int) → PyData
  | some p => .list [.tuple [plD p.1, plD p.2]]
  | none => .list []
abbrev iL (l : List Int) : PyData := .list (l.map .int)
def opI : Bool → Int
  | true => 1
  | false => 0
theorem iL_snoc (r : List Int) (k : Int) : iL (r ++ [k]) = .list (r.map .int ++ [.int k]) := by
  show PyData.list ((r ++ [k]).map .int) = _
  rw [List.map_append]
  rfl
theorem cut_init (ws : List PyData) : Mr.cutD ws none (some (-1)) = ws.dropLast := by
  unfold Mr.cutD
  have h1 : HT.sIx ws.length 0 none = 0 := rfl
  have h2 : HT.sIx ws.length ws.length (some (-1)) = ws.length - 1 := by
    unfold HT.sIx
    simp
    omega
  rw [h1, h2, List.drop_zero, Nat.sub_zero, List.dropLast_eq_take]
theorem lay_iL (l : List Int) : LayAll (l.map .int) := fun d hd => by
  obtain ⟨i, _, rfl⟩ := List.mem_map.mp hd
  exact lay_int i
theorem adR_len : ∀ {ws : List (List Nat)} {s s' : Ad}, adR s ws = some s' → s'.2.1.length + s'.2.2.length ≤ s.2.1.length + s.2.2.length + ws.length
  | [], s, s', h => by cases h; exact Nat.le_refl _
  | w :: ws, s, s', h => by
    unfold adR at h
    cases e : adS s w with
    | none => rw [e] at h; cases h
    | some s1 =>
      rw [e, Option.bind_some] at h
      have ih := adR_len h
      have h1 : s1.2.1.length + s1.2.2.length ≤ s.2.1.length + s.2.2.length + 1 := by
        unfold adS at e
        split at e
        · cases e; dsimp only; omega
        · split at e
          · split at e
            · cases e
            · cases e
              split
              · dsimp only; rw [List.length_append]; simp; omega
              · dsimp only; rw [List.length_append]; simp; omega
          · cases e
      rw [List.length_cons]
      omega
theorem address_in {l : List Nat} {Q : W → Sto → Prop} (hl : Wk l) (q : Q (.d (listA (rdA l))) S) : Gives (m_law_address_in N [.d (wd l)] S) Q := by
  refine Gives.mono (Q := fun w S' => w = .d (listA (rdA l)) ∧ S' = S) ?_ (by rintro _ _ ⟨rfl, rfl⟩; exact q)
  have w40 := wk_paren 40 (by decide)
  have w41 := wk_paren 41 (by decide)
  unfold m_law_address_in
  rw [str_open, str_close]
  show Gives (fnM 1 6 _ [.d (.str (strOf l))] S) _
  refine gF ?_
  tm_at "M"
  refine q_splitW hl (by decide) (by decide +kernel) ?_
  have et : tl (Str.ofString " ") = [32] := by decide
  rw [et]
  have hw := hl.spl (T := [32])
  have hne := spl_ne [32] l 0 []
  have hlen := hl.split (T := [32])
  have hrun : ∀ init, spl [32] 0 [] l = init ++ [[41]] → rdA l = adD (adR (false, [], []) init) := fun init e => rdA_run e
  have hlast : (spl [32] 0 [] l).getLast? ≠ some [41] → rdA l = none := rdA_last
  generalize spl [32] 0 [] l = ws at *
  obtain ⟨last, hla⟩ : ∃ last, ws.getLast? = some last := by
    cases h : ws.getLast? with
    | none => exact absurd (List.getLast?_eq_none_iff.mp h) hne
    | some x => exact ⟨x, rfl⟩
  have hlm : last ∈ ws := List.mem_of_getLast? hla
  tm_at "M"
  refine q_ixL (d := wd last) (by rw [last_at (by simpa using hne), List.getLast?_map, hla]; rfl) ?_
  tm_at "M"
  refine q_neA (hw last hlm).s w41.s ?_
  rw [tl_strOf, tl_strOf]
  tm_at "M"
  refine brt_nd (fun h41 => ?_) (fun h41 => ?_)
  · subst h41
    obtain ⟨init, rfl⟩ : ∃ init, ws = init ++ [[41]] := List.getLast?_eq_some_iff.mp hla
    rw [hrun init rfl]
    rw [List.length_append] at hlen
    have hcell := cell_at S [PyData.list [], PyData.list []]
    tm_at "M"
    rw [cut_init, ← List.map_dropLast, List.dropLast_concat, List.map_map]
    refine gL_map (f := fun w => W.d (wd w)) (J := fun i e S' => ∃ (o1 o5 : Option W) (s : Ad), adR (false, [], []) (init.take i) = some s ∧ e = [some (.d (.str (strOf l))), o1, some (.d (.list ((init ++ [[41]]).map wd))), some (.ref S.length), some (.d (.int (opI s.1))), o5] ∧ S' = S ++ [.lst [iL s.2.1, iL s.2.2]])
      ⟨_, _, (false, [], []), rfl, rfl, rfl⟩ (fun i w e S1 hi j => ?_) (fun e S1 j => ?_)
    · obtain ⟨o1, o5, ⟨op, a, r⟩, hs, rfl, rfl⟩ := j
      have hil : i < init.length := (List.getElem?_eq_some_iff.mp hi).1
      have hstep : adR (false, [], []) (init.take (i + 1)) = adS (op, a, r) w := by
        rw [List.take_succ, hi]
        show adR _ (init.take i ++ [w]) = _
        rw [adR_app, hs, Option.bind_some]
        show (adS _ w).bind _ = _
        cases adS (op, a, r) w <;> rfl
      have hall : adS (op, a, r) w = none → adR (false, [], []) init = none := fun z => by
        have e1 : init = init.take (i + 1) ++ init.drop (i + 1) := (List.take_append_drop _ _).symm
        rw [e1, adR_app, hstep, z]
        rfl
      have hal := adR_len hs
      have hlm2 : lim = 1000000 := rfl
      rw [List.length_take] at hal
      dsimp only [List.length_nil] at hal
      have hww := hw w (List.mem_append_left _ (List.mem_of_getElem? hi))
      have hcell := cell_at S [iL a, iL r]
      dsimp only
      tm_at "M"
      refine integer_in hww ?_
      tm_at "M"
      refine q_eqA hww.s w40.s ?_
      rw [tl_strOf, tl_strOf]
      tm_at "M"
      have other : ¬(w = [40] ∧ op = false) → GivesR ((sIf (cOr (cB (mOp oEq (mVar 5) (mLst mNil))) (cB (mOp oLt (mOp oIx (mVar 5) (mC (.int 0))) (mC (.int 0))))) (sRet (mLst mNil)) (sPut putU (mVar 3) (mVar 4) (mOp oAdd (mOp oIx (mVar 3) (mVar 4)) (mVar 5))))
          [some (.d (.str (strOf l))), some (.d (wd w)), some (.d (.list ((init ++ [[41]]).map wd))), some (.ref S.length), some (.d (.int (opI op))), some (.d (listI (rdI w)))] (S ++ [O.lst [iL a, iL r]])) fun r' => match r' with
          | .nx e S2 => ∃ (o1 o5 : Option W) (s : Ad), adR (false, [], []) (init.take (i + 1)) = some s ∧ e = [some (.d (.str (strOf l))), o1, some (.d (.list ((init ++ [[41]]).map wd))), some (.ref S.length), some (.d (.int (opI s.1))), o5] ∧ S2 = S ++ [.lst [iL s.2.1, iL s.2.2]]
          | .rt x S2 => x = .d (.list []) ∧ S2 = S ++ [O.lst [iL a, iL r]] ∧ adS (op, a, r) w = none
          | _ => False := by
        intro hno
        have hstep' := hstep
        unfold adS at hstep'
        rw [if_neg hno] at hstep'
        have hnone : rdI w = none → adS (op, a, r) w = none := fun z => by unfold adS; rw [if_neg hno, z]
        have hneg : ∀ k, rdI w = some k → k < 0 → adS (op, a, r) w = none := fun k z y => by unfold adS; rw [if_neg hno, z]; exact if_pos y
        cases e : rdI w with
        | none =>
          dsimp only [listI]
          tm_at "M"
          refine q_eqE lay0 ?_
          tm_at "M"
          refine brt_t ?_
          tm_at "M"
          exact ⟨rfl, rfl, hnone e⟩
        | some k =>
          rw [e] at hstep'
          dsimp only [listI] at hstep' ⊢
          tm_at "M"
          refine q_eqE (lay1 k) ?_
          tm_at "M"
          refine brt_f ?_
          tm_at "M"
          refine brt_d (fun hk => ?_) (fun hk => ?_)
          · tm_at "M"
            exact ⟨rfl, rfl, hneg k e hk⟩
          · rw [if_neg hk] at hstep'
            cases op with
            | true =>
              dsimp only [opI]
              tm_at "M"
              refine q_ixC hcell (d := iL r) rfl ?_
              tm_at "M"
              refine q_catL (by rw [List.length_map]; simp; omega) ?_
              tm_at "M"
              refine put_c (j := 1) hcell rfl ?_
              refine ⟨_, _, (true, a, r ++ [k]), hstep', rfl, ?_⟩
              rw [cell_set]
              dsimp only [List.set]
              rw [iL_snoc]
            | false =>
              dsimp only [opI]
              tm_at "M"
              refine q_ixC hcell (d := iL a) rfl ?_
              tm_at "M"
              refine q_catL (by rw [List.length_map]; simp; omega) ?_
              tm_at "M"
              refine put_c (j := 0) hcell rfl ?_
              refine ⟨_, _, (false, a ++ [k], r), hstep', rfl, ?_⟩
              rw [cell_set]
              dsimp only [List.set]
              rw [iL_snoc]
      have cut1 : (S ++ [O.lst [iL a, iL r]]).take S.length = S := by rw [List.take_append_of_le_length (Nat.le_refl _), List.take_length]
      refine brt_d (fun h40 => ?_) (fun h40 => ?_)
      · tm_at "M"
        cases op with
        | false =>
          dsimp only [opI]
          refine brt_dt rfl ?_
          tm_at "M"
          refine ⟨_, _, (true, a, r), ?_, rfl, rfl⟩
          rw [hstep]
          unfold adS
          rw [if_pos ⟨h40, rfl⟩]
        | true =>
          dsimp only [opI]
          refine brt_df (by decide) ?_
          refine grMono (other fun z => Bool.noConfusion z.2) fun r' hr => ?_
          cases r' with
          | nx e S2 => exact hr
          | rt x S2 =>
            obtain ⟨rfl, rfl, hn⟩ := hr
            exact ⟨by rw [hall hn]; rfl, cut1⟩
          | bk e S2 => exact hr.elim
          | ct e S2 => exact hr.elim
      · tm_at "m"
        refine grMono (other fun z => h40 z.1) fun r' hr => ?_
        cases r' with
        | nx e S2 => exact hr
        | rt x S2 =>
          obtain ⟨rfl, rfl, hn⟩ := hr
          exact ⟨by rw [hall hn]; rfl, cut1⟩
        | bk e S2 => exact hr.elim
        | ct e S2 => exact hr.elim
    · obtain ⟨o1, o5, ⟨op, a, r⟩, hs, rfl, rfl⟩ := j
      rw [List.take_length] at hs
      rw [hs]
      have hcell := cell_at S [iL a, iL r]
      have cut1 : (S ++ [O.lst [iL a, iL r]]).take S.length = S := by rw [List.take_append_of_le_length (Nat.le_refl _), List.take_length]
      cases op with
      | false =>
        dsimp only [opI]
        tm_at "M"
        exact ⟨rfl, cut1⟩
      | true =>
        dsimp only [opI]
        tm_at "M"
        refine q_ixC hcell (d := iL r) rfl ?_
        tm_at "M"
        refine q_neE (lay_iL r) ?_
        tm_at "M"
        cases r with
        | nil =>
          refine brt_f ?_
          tm_at "M"
          exact ⟨rfl, cut1⟩
        | cons x r =>
          refine brt_t ?_
          tm_at "M"
          refine q_ixC hcell (d := iL a) rfl ?_
          tm_at "M"
          refine q_ixC hcell (d := iL (x :: r)) rfl ?_
          tm_at "M"
          exact ⟨rfl, cut1⟩
  · rw [hlast (fun z => h41 (Option.some.inj (hla.symm.trans z)))]
    tm_at "M"
    exact ⟨rfl, by rw [List.take_append_of_le_length (Nat.le_refl _), List.take_length]⟩
end K53

set_option maxHeartbeats 1000000
/-! k53: what is due -/
namespace K53
open PySem PySem.Spec PyProof.Rows L2 Mr Pg Xw
open TL (tl spl par)

variable {N : Nat} {S : Sto}
theorem spl_first (l : List Nat) : ∃ rest, spl [10] 0 [] l = lnF l :: rest := by
  rcases ln_split l with ⟨h, e⟩ | ⟨r, e, h⟩
  · exact ⟨[], by rw [TL.spl_last1 (s := 10) (S := []) h, e]; rfl⟩
  · refine ⟨spl [10] 0 [] r, ?_⟩
    generalize lnF l = f at *
    subst e
    rw [show f ++ 10 :: r = f ++ ([10] ++ r) from rfl, TL.spl_part1 (s := 10) (S := []) h]
    rfl
theorem lay_tup {ds : List PyData} {k : Nat} (h : ∀ d ∈ ds, d.canLay0 = true ∧ d.depth ≤ k) : (PyData.tuple ds).canLay0 = true ∧ (PyData.tuple ds).depth ≤ k + 1 := by
  have h1 := canLayAll0_of fun d hd => (h d hd).1
  have h2 := depthAll_le fun d hd => (h d hd).2
  exact ⟨by simp only [PyData.canLay0]; exact h1, by simp only [PyData.depth]; omega⟩
theorem lay_int1 (i : Int) : (PyData.int i).canLay0 = true ∧ (PyData.int i).depth ≤ 1 := by simp [PyData.canLay0, PyData.depth]
theorem lay_pN (p : Int × Int) : (pN p).canLay0 = true ∧ (pN p).depth ≤ 2 := lay_tup (k := 1) fun d hd => by
  rcases List.mem_cons.mp hd with z | z
  · rw [z]; exact lay_int1 _
  · rw [List.mem_singleton.mp z]; exact lay_int1 _
theorem lay_plD (l : List Int) : (plD l).canLay0 = true ∧ (plD l).depth ≤ 2 := lay_tup (k := 1) fun d hd => by
  obtain ⟨i, _, rfl⟩ := List.mem_map.mp hd
  exact lay_int1 _
theorem lay_one {d : PyData} {k : Nat} (hk : k ≤ 8) (h : d.canLay0 = true ∧ d.depth ≤ k) : LayAll [d] := fun x hx => by
  rw [List.mem_singleton.mp hx]
  exact ⟨h.1, Nat.le_trans h.2 hk⟩
/-- what the law's reader of a door finds -/
def listD : Nat → List Nat → PyData
  | 0, f => listN (rdN f)
  | 1, f => listNs (allN ((spl [32] 0 [] f).map rdN))
  | _, f => listA (rdA f)
theorem listD_way {door : Nat} {f : List Nat} (hd : door < 3) : (listD door f = .list [] ∧ dr door f = .none) ∨
    (∃ d, listD door f = .list [d] ∧ LayAll [d] ∧ dr door f = d ∧ d ≠ .none ∧ (door = 1 → ∃ es, d = .tuple es ∧ es.length = 2)) ∨
    (door = 1 ∧ ∃ es, listD door f = .list [.tuple es] ∧ LayAll [.tuple es] ∧ es.length ≠ 2 ∧ dr door f = .none) := by
  match door, hd with
  | 0, _ =>
    show (listN (rdN f) = _ ∧ optN (rdN f) = _) ∨ (∃ d, listN (rdN f) = _ ∧ _ ∧ optN (rdN f) = _ ∧ _) ∨ _
    cases rdN f with
    | none => exact .inl ⟨rfl, rfl⟩
    | some p => exact .inr (.inl ⟨pN p, rfl, lay_one (by decide) (lay_pN p), rfl, (fun z => nomatch z), fun z => nomatch z⟩)
  | 2, _ =>
    show (listA (rdA f) = _ ∧ optA (rdA f) = _) ∨ (∃ d, listA (rdA f) = _ ∧ _ ∧ optA (rdA f) = _ ∧ _) ∨ _
    cases rdA f with
    | none => exact .inl ⟨rfl, rfl⟩
    | some p => exact .inr (.inl ⟨.tuple [plD p.1, plD p.2], rfl, lay_one (k := 3) (by decide) (lay_tup fun d hd => by
        rcases List.mem_cons.mp hd with z | z
        · rw [z]; exact lay_plD _
        · rw [List.mem_singleton.mp z]; exact lay_plD _), rfl, (fun z => nomatch z), fun z => nomatch z⟩)
  | 1, _ =>
    have e0 : rdP f = match (spl [32] 0 [] f).map rdN with | [some p, some q] => some (p, q) | _ => none := rfl
    show (listNs (allN ((spl [32] 0 [] f).map rdN)) = _ ∧ optP (rdP f) = _) ∨ (∃ d, listNs (allN ((spl [32] 0 [] f).map rdN)) = _ ∧ _ ∧ optP (rdP f) = _ ∧ _) ∨ (_ ∧ ∃ es, listNs (allN ((spl [32] 0 [] f).map rdN)) = _ ∧ _ ∧ _ ∧ optP (rdP f) = _)
    rw [e0]
    generalize (spl [32] 0 [] f).map rdN = os
    cases e : allN os with
    | none =>
      have hm := allN_none e
      refine .inl ⟨rfl, ?_⟩
      split
      · simp at hm
      · rfl
    | some ps =>
      have e2 := allN_some e
      subst e2
      have hlay : LayAll [PyData.tuple (ps.map pN)] := lay_one (k := 3) (by decide) (lay_tup fun d hd => by
        obtain ⟨p, _, rfl⟩ := List.mem_map.mp hd
        exact lay_pN p)
      by_cases h2 : ps.length = 2
      · match ps, h2 with
        | [p, q], _ => exact .inr (.inl ⟨_, rfl, hlay, rfl, (fun z => nomatch z), fun _ => ⟨_, rfl, rfl⟩⟩)
      · refine .inr (.inr ⟨rfl, _, rfl, hlay, by rw [List.length_map]; exact h2, ?_⟩)
        split
        · rename_i p q hpq
          have := congrArg List.length hpq
          rw [List.length_map] at this
          exact absurd this h2
        · rfl
theorem q_inC2 {c : Nat} {l : List Nat} {Q : W → Sto → Prop} (h : Q (.d (.bool (decide (c ∈ l)))) S) : Gives (oInC (.d (.str (strOf [c]))) (.d (.str (strOf l))) S) Q := ⟨_, S, rfl, h⟩
theorem due_ok (hN : 2 ^ 1100 ≤ N) {door : Nat} {l : List Nat} {Q : W → Sto → Prop} (hd : door < 3) (hl : Wk l) (q : Q (.d (toldOf (dr door (lnF l)) (decide (10 ∈ l)))) S) : Gives (m_law_due N [.d (.int (door : Nat)), .d (wd l)] S) Q := by
  refine Gives.mono (Q := fun w S' => w = .d (toldOf (dr door (lnF l)) (decide (10 ∈ l))) ∧ S' = S) ?_ (by rintro _ _ ⟨rfl, rfl⟩; exact q)
  unfold m_law_due
  show Gives (fnM 2 4 _ [.d (.int (door : Nat)), .d (.str (strOf l))] S) _
  have enl : Str.ofString "\n" = strOf [10] := TL.ext_tl (by decide)
  rw [enl]
  refine gF ?_
  tm_at "M"
  refine q_splitW hl (by decide) (by decide +kernel) ?_
  rw [tl_strOf]
  obtain ⟨rest, er⟩ := spl_first l
  rw [er]
  have hf := lnF_wk hl
  generalize lnF l = f at *
  tm_at "M"
  refine q_ixL (d := wd f) (atG_of (l := (f :: rest).map wd) (i := 0) (by simp)) ?_
  tm_at "M"
  refine address_in hf ?_
  iterate 3 tm_at "m"
  refine grMono (Q := fun r => r = .nx [some (.d (.int (door : Nat))), some (.d (.str (strOf l))), some (.d (wd f)), some (.d (listD door f))] S) ?_ ?_
  · match door, hd with
    | 0, _ =>
      tm_at "M"
      refine number_in hN hf ?_
      tm_at "M"
      rfl
    | 1, _ =>
      tm_at "M"
      refine numbers_in hN hf ?_
      tm_at "M"
      rfl
    | 2, _ =>
      tm_at "M"
      rfl
  · rintro _ rfl
    tm_at "M"
    rcases listD_way (door := door) (f := f) hd with ⟨e1, e2⟩ | ⟨d, e1, hlay, e2, hn, hes⟩ | ⟨h1, es, e1, hlay, hlen, e2⟩
    · rw [e1, e2]
      tm_at "M"
      refine q_eqE lay0 ?_
      tm_at "M"
      refine brt_t ?_
      tm_at "M"
      exact ⟨rfl, List.take_length⟩
    · rw [e1, e2, told_data hn]
      have fin : GivesR (sRet (mIf (cB (mOp oInC (mC (.str (strOf [10]))) (mVar 1))) (mTup (mCons (mC (.str (Str.ofString "refused"))) (mCons (mC (.int 2)) mNil))) (mTup (mCons (mC (.str (Str.ofString "told"))) (mCons (mOp oIx (mVar 3) (mC (.int 0))) mNil)))) [some (.d (.int (door : Nat))), some (.d (.str (strOf l))), some (.d (wd f)), some (.d (.list [d]))] S) (FnQ S fun w S' => w = .d (if decide (10 ∈ l) = true then .tuple [.str "refused", .int 2] else .tuple [.str "told", d]) ∧ S' = S) := by
        tm_at "M"
        refine q_inC2 ?_
        tm_at "M"
        refine brt_b (fun h => ?_) (fun h => ?_)
        · rw [h, if_pos rfl]
          tm_at "M"
          exact ⟨rfl, List.take_length⟩
        · rw [h, if_neg (by decide)]
          tm_at "M"
          exact ⟨rfl, List.take_length⟩
      tm_at "M"
      refine q_eqE hlay ?_
      tm_at "M"
      refine brt_f ?_
      tm_at "M"
      refine brt_d (fun h1 => ?_) (fun h1 => ?_)
      · obtain ⟨es, rfl, hl2⟩ := hes (by omega)
        repeat (first | exact fin | tm_at "m")
      · repeat (first | exact fin | tm_at "m")
    · rw [e1, e2]
      subst h1
      tm_at "M"
      refine q_eqE hlay ?_
      tm_at "M"
      refine brt_f ?_
      tm_at "M"
      exact ⟨rfl, List.take_length⟩
end K53

set_option maxHeartbeats 1000000
/-! wells; laws of great scripts -/
namespace Xw
open PySem PySem.Spec PyProof.Rows L2 Mr Pg

variable {N : Nat} {S : Sto}
theorem ib_le {z : Int} {k : Nat} (h : z.natAbs < 2 ^ k) : Builtin.Int.intBits z ≤ k := bits_le h
theorem well_ok {ns : List Int} {i : Nat} (hi : i ≤ 100) (hl : ns.length ≤ 63) (hb : ∀ z ∈ ns, Builtin.Int.intBits z ≤ 1048576) : Gives (m_law_well N [.scr ns, .d (.int (i : Nat))] S) fun w S' => w = .ref S.length ∧ ∃ x s : Int, S' = S ++ [.lst [.int x, .int s, .int 0]] ∧ 0 ≤ s ∧ s < 10 ^ 25 + 13 := by
  have rest : ∀ z : Int, Builtin.Int.intBits z ≤ 1048576 → GivesR (sRet (mLstC (mCons (mCall oMax2 (mCons (mC (.int 0)) (mCons (mOp oSub (mCall oAbs (mCons (mVar 2) mNil)) (mOp oPowW (mC (.int 10)) (mC (.int 18)))) mNil))) (mCons (mOp oMod (mCall oInt (mCons (mOp oAdd (mOp oAdd (mOp oMul (mVar 2) (mC (.int 86028157))) (mOp oMul (mVar 1) (mC (.int 179424691)))) (mC (.int 7919))) mNil)) (mOp oAdd (mOp oPowW (mC (.int 10)) (mC (.int 25))) (mC (.int 13)))) (mCons (mC (.int 0)) mNil)))) [some (.scr ns), some (.d (.int (i : Nat))), some (.d (.int z))] S) (FnQ S fun w S' => w = .ref S.length ∧ ∃ x s : Int, S' = S ++ [.lst [.int x, .int s, .int 0]] ∧ 0 ≤ s ∧ s < 10 ^ 25 + 13) := by
    intro z hz
    have f1 : CMulX z 86028157 := by
      show (Builtin.Int.intBits z : Int) + (Builtin.Int.intBits 86028157 : Int) ≤ 134217728
      have h2 : Builtin.Int.intBits 86028157 ≤ 27 := ib_le (by decide)
      omega
    tm_at "M"
    refine q_powX (by decide) ?_
    tm_at "M"
    refine q_mulX f1 ?_
    tm_at "M"
    refine q_mul (m := 7) (n := 28) (by rw [Int.natAbs_natCast]; omega) (by decide) (by decide) ?_
    tm_at "M"
    refine q_powX (by decide) ?_
    tm_at "M"
    refine q_mod (by decide) ?_
    tm_at "M"
    refine fq_new rfl (cell_at S _) ?_
    rw [List.take_left' rfl]
    exact ⟨rfl, _, _, rfl, Int.emod_nonneg _ (by decide), Int.emod_lt_of_pos _ (by decide)⟩
  unfold m_law_well
  refine gF ?_
  tm_at "M"
  refine brt_d (fun h => ?_) (fun h => ?_)
  · have h' : i < ns.length := by omega
    tm_at "M"
    refine ⟨.d (.int ns[i]), S, o_ixL (w := .scr ns) rfl (by rw [atI_of (by rw [List.length_map]; exact h'), List.getElem_map]), ?_⟩
    tm_at "m"
    tm_at "m"
    tm_at "m"
    tm_at "m"
    exact rest _ (hb _ (List.getElem_mem h'))
  · tm_at "M"
    refine q_mul (m := 7) (n := 17) (by rw [Int.natAbs_natCast]; omega) (by decide) (by decide) ?_
    tm_at "M"
    refine q_mul (m := 6) (n := 24) (by rw [Int.natAbs_natCast]; omega) (by decide) (by decide) ?_
    tm_at "m"
    tm_at "m"
    tm_at "m"
    exact rest _ (Nat.le_trans (ib_le (k := 40) (by omega)) (by decide))
theorem well_at {S : Sto} {x s : Int} (h0 : 0 ≤ s) (h1 : s < 10 ^ 25 + 13) : WlAt S.length 0 (S ++ [O.lst [.int x, .int s, .int 0]]) := ⟨x, s, 0, cell_at S _, h0, h1, Int.le_refl 0, by decide⟩
/-- what a law is asked: the script, its numbers not too long, and True -/
def spLawB (K : PySem.W.Frag) : Sp := fun vs H Q _ => ∃ (a : Addr) (ns : List Int), vs = [.ref a] ∧ SqL K H a (ns.map V.int) ∧ ns.length ≤ 63 ∧ (∀ z ∈ ns, Builtin.Int.intBits z ≤ 1048576) ∧ ∀ H', Q (.bl true) H'
theorem law_okB {P : Program} {w : World} {K : PySem.W.Frag} {mg : Str → Option Value} {base : Heap} {k : Nat} {f : Addr} {fd : FuncData} {ps : List Str} {ml : On} (G : FnOk P w K mg base CX0 k f fd ps (spM P w K ml)) (h : ∀ ns : List Int, ns.length ≤ 63 → (∀ z ∈ ns, Builtin.Int.intBits z ≤ 1048576) → ∃ S', ml [.scr ns] [] = some (.d (.bool true), S')) : FnOk P w K mg base CX0 k f fd ps (spLawB K) :=
  G.imp fun vs H Q E ⟨a, ns, hv, hs, hl, hb, q⟩ => by
    subst hv
    obtain ⟨S', e⟩ := h ns hl hb
    refine ⟨H, [], [], [.scr ns], _, S', ⟨Evl.Ex.refl H, rfl, .nil, fun n a o h => by simp at h⟩, .cons ⟨a, rfl, hs⟩ .nil, e, fun F' μ' H' v _ _ r => ?_⟩
    rw [dz_bl r]
    exact q H'
end Xw

set_option maxHeartbeats 2000000
/-! k53: the law -/
namespace K53
open PySem PySem.Spec PyProof.Rows L2 Mr Pg Xw
open TL (tl spl par joinL)

variable {N : Nat} {S : Sto}
abbrev spLawB := @Xw.spLawB
theorem law_okB {P : Program} {w : World} {K : PySem.W.Frag} {mg : Str → Option Value} {base : Heap} {k : Nat} {f : Addr} {fd : FuncData} {ps : List Str} {ml : On} (G : FnOk P w K mg base CX0 k f fd ps (spM P w K ml)) (h : ∀ ns : List Int, ns.length ≤ 63 → (∀ z ∈ ns, Builtin.Int.intBits z ≤ 1048576) → ∃ S', ml [.scr ns] [] = some (.d (.bool true), S')) : FnOk P w K mg base CX0 k f fd ps (spLawB K) := Xw.law_okB G h
theorem allI_len : ∀ {os : List (Option Int)} {l : List Int}, allI os = some l → l.length = os.length
  | [], l, h => by cases h; rfl
  | none :: r, l, h => by cases h
  | some i :: r, l, h => by
    unfold allI at h
    cases e : allI r with
    | none => rw [e] at h; cases h
    | some l2 => rw [e] at h; cases h; rw [List.length_cons, List.length_cons, allI_len e]
theorem rdPl_len {ws : List (List Nat)} {l : List Int} (h : rdPl ws = some l) : l.length = ws.length := by
  unfold rdPl at h
  split at h
  · rw [allI_len h, List.length_map]
  · cases h
theorem gd_int (n : Nat) (i : Int) : gd 999500 n (.int i) = true := by cases n <;> rfl
theorem gd_plD {l : List Int} {n : Nat} (h : l.length ≤ 999500) : gd 999500 (n + 1) (plD l) = true := gd_tuple.mpr ⟨by rw [List.length_map]; exact h, fun d hd => by
  obtain ⟨i, _, rfl⟩ := List.mem_map.mp hd
  exact gd_int n i⟩
theorem gd_two {x y : PyData} {n : Nat} (h : gd 999500 n x = true) (h' : gd 999500 n y = true) : gd 999500 (n + 1) (.tuple [x, y]) = true := gd_tuple.mpr ⟨show 2 ≤ 999500 by decide, fun d hd => by
  rcases List.mem_cons.mp hd with z | z
  · rw [z]; exact h
  · rw [List.mem_singleton.mp z]; exact h'⟩
theorem gd_strT (n : Nat) (s : String) : gd 999500 n (.str (Str.ofString s)) = true := by
  have := okS_str s
  cases n <;> exact this
theorem dr_gd {door : Nat} {f : List Nat} (hf : Wk f) : dr door f = .none ∨ gd 999500 5 (dr door f) = true := by
  match door with
  | 0 =>
    show optN (rdN f) = .none ∨ gd 999500 5 (optN (rdN f)) = true
    cases rdN f with
    | none => exact .inl rfl
    | some p => exact .inr (gd_two (gd_int _ _) (gd_int _ _))
  | 1 =>
    show optP (rdP f) = .none ∨ gd 999500 5 (optP (rdP f)) = true
    cases rdP f with
    | none => exact .inl rfl
    | some p => exact .inr (gd_two (gd_two (gd_int _ _) (gd_int _ _)) (gd_two (gd_int _ _) (gd_int _ _)))
  | k + 2 =>
    show optA (rdA f) = .none ∨ gd 999500 5 (optA (rdA f)) = true
    cases e : rdA f with
    | none => exact .inl rfl
    | some p =>
      refine .inr ?_
      have hn : (spl [32] 0 [] f).length ≤ f.length + 1 := spl_count f 0 []
      have h2 := hf.2
      unfold rdA at e
      dsimp only at e
      split at e
      · cases e1 : rdPl ((spl [32] 0 [] f).take ((spl [32] 0 [] f).idxOf [40])) with
        | none => rw [e1] at e; cases e
        | some a =>
          cases e2 : rdPl (((spl [32] 0 [] f).drop ((spl [32] 0 [] f).idxOf [40] + 1)).dropLast) with
          | none => rw [e1, e2] at e; cases e
          | some r =>
            rw [e1, e2] at e
            dsimp only at e
            split at e
            · cases e
            · cases e
              have l1 := rdPl_len e1
              have l2 := rdPl_len e2
              rw [List.length_take] at l1
              rw [List.length_dropLast, List.length_drop] at l2
              exact gd_two (gd_plD (by dsimp only; omega)) (gd_plD (by dsimp only; omega))
      · cases e
theorem gd_mono {l : Nat} : ∀ {n m : Nat} {d : PyData}, n ≤ m → gd l n d = true → gd l m d = true
  | 0, m, d, _, h => by
    cases d with
    | int i => cases m <;> rfl
    | str x => cases m <;> exact h
    | _ => unfold gd at h; cases h
  | n + 1, 0, d, hm, h => by omega
  | n + 1, m + 1, d, hm, h => by
    cases d with
    | int i => rfl
    | str x => exact h
    | tuple ds => exact gd_tuple.mpr ⟨(gd_tuple.mp h).1, fun y hy => gd_mono (by omega) ((gd_tuple.mp h).2 y hy)⟩
    | list ds => exact gd_list.mpr ⟨(gd_list.mp h).1, fun y hy => gd_mono (by omega) ((gd_list.mp h).2 y hy)⟩
    | bool _ => unfold gd at h; cases h
    | none => unfold gd at h; cases h
    | dict _ => unfold gd at h; cases h
theorem told_gd {door : Nat} {f : List Nat} {more : Bool} (hf : Wk f) : gd 999500 11 (toldOf (dr door f) more) = true := by
  by_cases hn : dr door f = .none
  · rw [hn]
    exact gd_two (gd_strT _ _) (gd_int _ _)
  · rw [told_data hn]
    cases more with
    | true => exact gd_two (gd_strT _ _) (gd_int _ _)
    | false => exact gd_two (gd_strT _ _) (gd_mono (by decide) ((dr_gd hf).resolve_left hn))
/-- a row: door, text -/
abbrev Tr := Nat × List Nat
def due (t : Tr) : PyData := toldOf (dr t.1 (lnF t.2)) (decide (10 ∈ t.2))
def trD (t : Tr) : PyData := .tuple [.int (t.1 : Nat), .str (strOf t.2), due t]
def TrOk (t : Tr) : Prop := t.1 < 3 ∧ Wb 300000 t.2
theorem same_due {t : Tr} {Q : W → Sto → Prop} (h : TrOk t) (q : Q (.d (.bool true)) S) : Gives (m_law_same N 12 [.d (due t), .d (due t)] S) Q :=
  q_same (l := 999500) (by decide) (told_gd (lnF_wk (h.2.wk (by decide)))) q
theorem told_due {t : Tr} {nm : Bool} {Q : W → Sto → Prop} (h : TrOk t) (q : Q (.d (due t)) S) : Gives (m_law_told N [.d (.int (t.1 : Nat)), .d (.str (strOf t.2)), .d (.bool nm)] S) Q := told_ok h.1 (h.2.wk (by decide)) q
theorem law_true (hN : 2 ^ 1200 ≤ N) {ns : List Int} (hl : ns.length ≤ 63) (hb : ∀ z ∈ ns, Builtin.Int.intBits z ≤ 1048576) : ∃ S', m_law N [.scr ns] [] = some (.d (.bool true), S') := by
  have hN' : 2 ^ 1100 ≤ N := Nat.le_trans (Nat.pow_le_pow_right (by decide) (by decide)) hN
  have hm : lim = 1000000 := rfl
  suffices h : Gives (m_law N [.scr ns] []) fun w _ => w = .d (.bool true) by
    obtain ⟨w, S', e, rfl⟩ := h
    exact ⟨S', e⟩
  unfold m_law
  refine gF ?_
  tm_at "M"
  refine gL_rng (J := fun i e S' => (∃ o2 o3 o4 o5 o6 o7, e = [some (.scr ns), some (.ref 0), o2, o3, o4, o5, o6, o7]) ∧ ∃ ts : List Tr, S'[0]? = some (.lst (ts.map trD)) ∧ ts.length = 4 * i ∧ ∀ t ∈ ts, TrOk t) ⟨⟨_, _, _, _, _, _, rfl⟩, [], rfl, rfl, fun x hx => nomatch hx⟩ (fun i e S1 hi j => ?_) (fun e S1 j => ?_)
  · obtain ⟨⟨o2, o3, o4, o5, o6, o7, rfl⟩, ts, hc, hlen, hg⟩ := j
    have hi' : i < 8 := by omega
    have h0 : 0 < S1.length := (List.getElem?_eq_some_iff.mp hc).1
    tm_at "M"
    refine Gives.mono (well_ok (N := N) (S := S1) (by omega) hl hb) ?_
    rintro _ _ ⟨rfl, x, s, rfl, s0, s1⟩
    tm_at "M"
    show GivesR (forL _ _ ([0, 1, 2, 2].map fun k : Nat => W.d (.int (k : Nat))) _ _) _
    refine gL_map (J := fun k e S' => (∃ o4 o5 o6 o7, e = [some (.scr ns), some (.ref 0), some (.d (.int (i : Nat))), some (.ref S1.length), o4, o5, o6, o7]) ∧ WlAt S1.length (5000 * k) S' ∧ ∃ ts : List Tr, S'[0]? = some (.lst (ts.map trD)) ∧ ts.length = 4 * i + k ∧ ∀ t ∈ ts, TrOk t)
      ⟨⟨_, _, _, _, rfl⟩, well_at s0 s1, ts, by rw [List.getElem?_append_left h0]; exact hc, hlen, hg⟩ (fun k kind e S2 hk j => ?_) (fun e S2 j => ?_)
    · obtain ⟨⟨o4, o5, o6, o7, rfl⟩, hw, ts, hc, hlen, hg⟩ := j
      have hk4 : k < 4 := (List.getElem?_eq_some_iff.mp hk).1
      have hkind : kind < 3 := by
        have hm := List.mem_of_getElem? hk
        simp at hm
        omega
      clear hk
      tm_at "M"
      refine text_ok hN' (Wl.refl hw) (by omega) hkind fun l S3 hl3 hw3 l3 => ?_
      tm_at "M"
      refine bent_ok hw3 (by omega) hl3 fun l' S4 hl4 hw4 l4 => ?_
      tm_at "m"
      tm_at "m"
      tm_at "m"
      tm_at "m"
      refine Gives.mono (Q := fun w S' => ∃ door : Nat, w = .d (.int (door : Nat)) ∧ door < 3 ∧ Wl S1.length (5000 * k + 4050) S2 S' ∧ S'.length = S4.length) ?_ ?_
      · tm_at "M"
        refine q_draw hw4 (by omega) (by decide) (by decide) fun t S5 a b hw5 o5' l5 => ?_
        tm_at "M"
        refine brt_d (fun h => ?_) (fun h => ?_)
        · tm_at "M"
          exact ⟨kind, rfl, hkind, hw5.up (by omega), l5⟩
        · tm_at "M"
          refine q_draw hw5 (by omega) (by decide) (by decide) fun t S6 a b hw6 o6' l6 => ?_
          obtain ⟨d, rfl⟩ := Int.eq_ofNat_of_zero_le a
          exact ⟨d, rfl, by omega, hw6.up (by omega), by omega⟩
      · rintro _ S5 ⟨door, rfl, hdoor, hw5, l5⟩
        have ok : TrOk (door, l') := ⟨hdoor, hl4⟩
        have hwk : Wk l' := hl4.wk (by decide)
        tm_at "M"
        refine due_ok hN' hdoor hwk ?_
        tm_at "M"
        refine q_draw hw5 (by omega) (by decide) (by decide) fun t S6 a b hw6 o6' l6 => ?_
        tm_at "M"
        refine told_due (t := (door, l')) ok ?_
        tm_at "M"
        refine same_due (t := (door, l')) ok ?_
        tm_at "M"
        have hc6 : S6[0]? = some (.lst (ts.map trD)) := by rw [hw6.oth 0 (by omega)]; exact hc
        refine gM_append rfl hc6 ?_
        tm_at "M"
        refine appQ hc6 (by rw [List.length_map]; omega) ?_
        have hlt : 0 < S6.length := (List.getElem?_eq_some_iff.mp hc6).1
        refine ⟨⟨_, _, _, _, rfl⟩, ?_, ts ++ [(door, l')], ?_, by rw [List.length_append, hlen]; rfl, fun t ht => ?_⟩
        · obtain ⟨x', s', q', e', r'⟩ := hw6.at'
          exact WlAt.up ⟨x', s', q', by rw [List.getElem?_set_ne (by omega)]; exact e', r'⟩ (by omega)
        · rw [List.map_append]
          exact List.getElem?_set_self hlt
        · rcases List.mem_append.mp ht with z | z
          · exact hg t z
          · rw [List.mem_singleton.mp z]; exact ok
    · obtain ⟨⟨o4, o5, o6, o7, rfl⟩, hw, ts, hc, hlen, hg⟩ := j
      exact ⟨⟨_, _, _, _, _, _, rfl⟩, ts, hc, by rw [hlen]; show 4 * i + 4 = 4 * (i + 1); omega, hg⟩
  · obtain ⟨⟨o2, o3, o4, o5, o6, o7, rfl⟩, ts, hc, hlen, hg⟩ := j
    tm_at "M"
    refine ⟨.d (.list ((ts.reverse).map trD)), S1, by show ((lsOf (.ref 0) S1).bind fun ds => some (W.d (.list ds.reverse), S1)) = _; rw [ls_ref hc, Option.bind_some, List.map_reverse], ?_⟩
    tm_at "M"
    refine gL_map (J := fun i e S' => ∃ o2 o3 o4 o5 o6 o7, e = [some (.scr ns), some (.ref 0), o2, o3, o4, o5, o6, o7]) ⟨_, _, _, _, _, _, rfl⟩ (fun i t e S2 ht j => ?_) (fun e S2 j => ?_)
    · obtain ⟨o2, o3, o4, o5, o6, o7, rfl⟩ := j
      have ok := hg t (List.mem_reverse.mp (List.mem_of_getElem? ht))
      unfold trD
      tm_at "M"
      refine q_lenS (by rw [TL.len_tl, tl_strOf]; exact Nat.le_trans ok.2.l (by decide)) ?_
      tm_at "M"
      refine told_due ok ?_
      tm_at "M"
      refine same_due ok ?_
      tm_at "M"
      exact ⟨_, _, _, _, _, _, rfl⟩
    · obtain ⟨o2, o3, o4, o5, o6, o7, rfl⟩ := j
      tm_at "M"
      rfl
end K53

set_option maxHeartbeats 4000000
namespace K53
open PySem PySem.Spec PyProof.Rows L2 Mr Pg
theorem all_mk {l : PySem.W.OpenLaw} {w : World} {K : PySem.W.Frag} {h : Heap} {mg : Str → Option Value} {fa : Addr} {N : Nat} (hN : 2 ^ 1200 ≤ N) (X : K.In h) (G : h.Ns mainGlobals mg) (hfa : mg "law" = some (.ref fa))
    {f_is_integer : Addr} {od_is_integer an_is_integer : Option Addr} {sl_is_integer : Array (Option Value)} {oc_is_integer kV_is_integer dc_is_integer pm_is_integer cd_is_integer ct_is_integer : Value}
    (a_is_integer : PySem.W.nsIn K mainGlobals "is_integer" = some (some (.ref f_is_integer))) (l_is_integer : K.lookup f_is_integer = some ⟨oc_is_integer, od_is_integer, .func (PySem.W.fnOf "is_integer" "is_integer" (defArgs s_is_integer) (defBody s_is_integer) (defScope s_is_integer) .none kV_is_integer dc_is_integer pm_is_integer an_is_integer cd_is_integer ct_is_integer), sl_is_integer⟩) (c_is_integer : PySem.W.codeIn K cd_is_integer "is_integer" = true) (k_is_integer : PySem.W.keepIn K (.ref f_is_integer) = true)
    {f_is_pair : Addr} {od_is_pair an_is_pair : Option Addr} {sl_is_pair : Array (Option Value)} {oc_is_pair kV_is_pair dc_is_pair pm_is_pair cd_is_pair ct_is_pair : Value}
    (a_is_pair : PySem.W.nsIn K mainGlobals "is_pair" = some (some (.ref f_is_pair))) (l_is_pair : K.lookup f_is_pair = some ⟨oc_is_pair, od_is_pair, .func (PySem.W.fnOf "is_pair" "is_pair" (defArgs s_is_pair) (defBody s_is_pair) (defScope s_is_pair) .none kV_is_pair dc_is_pair pm_is_pair an_is_pair cd_is_pair ct_is_pair), sl_is_pair⟩) (c_is_pair : PySem.W.codeIn K cd_is_pair "is_pair" = true) (k_is_pair : PySem.W.keepIn K (.ref f_is_pair) = true)
    {f_is_offset : Addr} {od_is_offset an_is_offset : Option Addr} {sl_is_offset : Array (Option Value)} {oc_is_offset kV_is_offset dc_is_offset pm_is_offset cd_is_offset ct_is_offset : Value}
    (a_is_offset : PySem.W.nsIn K mainGlobals "is_offset" = some (some (.ref f_is_offset))) (l_is_offset : K.lookup f_is_offset = some ⟨oc_is_offset, od_is_offset, .func (PySem.W.fnOf "is_offset" "is_offset" (defArgs s_is_offset) (defBody s_is_offset) (defScope s_is_offset) .none kV_is_offset dc_is_offset pm_is_offset an_is_offset cd_is_offset ct_is_offset), sl_is_offset⟩) (c_is_offset : PySem.W.codeIn K cd_is_offset "is_offset" = true) (k_is_offset : PySem.W.keepIn K (.ref f_is_offset) = true)
    {f_is_number : Addr} {od_is_number an_is_number : Option Addr} {sl_is_number : Array (Option Value)} {oc_is_number kV_is_number dc_is_number pm_is_number cd_is_number ct_is_number : Value}
    (a_is_number : PySem.W.nsIn K mainGlobals "is_number" = some (some (.ref f_is_number))) (l_is_number : K.lookup f_is_number = some ⟨oc_is_number, od_is_number, .func (PySem.W.fnOf "is_number" "is_number" (defArgs s_is_number) (defBody s_is_number) (defScope s_is_number) .none kV_is_number dc_is_number pm_is_number an_is_number cd_is_number ct_is_number), sl_is_number⟩) (c_is_number : PySem.W.codeIn K cd_is_number "is_number" = true) (k_is_number : PySem.W.keepIn K (.ref f_is_number) = true)
    {f_integer_from : Addr} {od_integer_from an_integer_from : Option Addr} {sl_integer_from : Array (Option Value)} {oc_integer_from kV_integer_from dc_integer_from pm_integer_from cd_integer_from ct_integer_from : Value}
    (a_integer_from : PySem.W.nsIn K mainGlobals "integer_from" = some (some (.ref f_integer_from))) (l_integer_from : K.lookup f_integer_from = some ⟨oc_integer_from, od_integer_from, .func (PySem.W.fnOf "integer_from" "integer_from" (defArgs s_integer_from) (defBody s_integer_from) (defScope s_integer_from) .none kV_integer_from dc_integer_from pm_integer_from an_integer_from cd_integer_from ct_integer_from), sl_integer_from⟩) (c_integer_from : PySem.W.codeIn K cd_integer_from "integer_from" = true) (k_integer_from : PySem.W.keepIn K (.ref f_integer_from) = true)
    {f_number_from : Addr} {od_number_from an_number_from : Option Addr} {sl_number_from : Array (Option Value)} {oc_number_from kV_number_from dc_number_from pm_number_from cd_number_from ct_number_from : Value}
    (a_number_from : PySem.W.nsIn K mainGlobals "number_from" = some (some (.ref f_number_from))) (l_number_from : K.lookup f_number_from = some ⟨oc_number_from, od_number_from, .func (PySem.W.fnOf "number_from" "number_from" (defArgs s_number_from) (defBody s_number_from) (defScope s_number_from) .none kV_number_from dc_number_from pm_number_from an_number_from cd_number_from ct_number_from), sl_number_from⟩) (c_number_from : PySem.W.codeIn K cd_number_from "number_from" = true) (k_number_from : PySem.W.keepIn K (.ref f_number_from) = true)
    {f_point_from : Addr} {od_point_from an_point_from : Option Addr} {sl_point_from : Array (Option Value)} {oc_point_from kV_point_from dc_point_from pm_point_from cd_point_from ct_point_from : Value}
    (a_point_from : PySem.W.nsIn K mainGlobals "_point_from" = some (some (.ref f_point_from))) (l_point_from : K.lookup f_point_from = some ⟨oc_point_from, od_point_from, .func (PySem.W.fnOf "_point_from" "_point_from" (defArgs s_point_from) (defBody s_point_from) (defScope s_point_from) .none kV_point_from dc_point_from pm_point_from an_point_from cd_point_from ct_point_from), sl_point_from⟩) (c_point_from : PySem.W.codeIn K cd_point_from "_point_from" = true) (k_point_from : PySem.W.keepIn K (.ref f_point_from) = true)
    {f_places_from : Addr} {od_places_from an_places_from : Option Addr} {sl_places_from : Array (Option Value)} {oc_places_from kV_places_from dc_places_from pm_places_from cd_places_from ct_places_from : Value}
    (a_places_from : PySem.W.nsIn K mainGlobals "_places_from" = some (some (.ref f_places_from))) (l_places_from : K.lookup f_places_from = some ⟨oc_places_from, od_places_from, .func (PySem.W.fnOf "_places_from" "_places_from" (defArgs s_places_from) (defBody s_places_from) (defScope s_places_from) .none kV_places_from dc_places_from pm_places_from an_places_from cd_places_from ct_places_from), sl_places_from⟩) (c_places_from : PySem.W.codeIn K cd_places_from "_places_from" = true) (k_places_from : PySem.W.keepIn K (.ref f_places_from) = true)
    {f_address_from : Addr} {od_address_from an_address_from : Option Addr} {sl_address_from : Array (Option Value)} {oc_address_from kV_address_from dc_address_from pm_address_from cd_address_from ct_address_from : Value}
    (a_address_from : PySem.W.nsIn K mainGlobals "_address_from" = some (some (.ref f_address_from))) (l_address_from : K.lookup f_address_from = some ⟨oc_address_from, od_address_from, .func (PySem.W.fnOf "_address_from" "_address_from" (defArgs s_address_from) (defBody s_address_from) (defScope s_address_from) .none kV_address_from dc_address_from pm_address_from an_address_from cd_address_from ct_address_from), sl_address_from⟩) (c_address_from : PySem.W.codeIn K cd_address_from "_address_from" = true) (k_address_from : PySem.W.keepIn K (.ref f_address_from) = true)
    {f_one_line : Addr} {od_one_line an_one_line : Option Addr} {sl_one_line : Array (Option Value)} {oc_one_line kV_one_line dc_one_line pm_one_line cd_one_line ct_one_line : Value}
    (a_one_line : PySem.W.nsIn K mainGlobals "_one_line" = some (some (.ref f_one_line))) (l_one_line : K.lookup f_one_line = some ⟨oc_one_line, od_one_line, .func (PySem.W.fnOf "_one_line" "_one_line" (defArgs s_one_line) (defBody s_one_line) (defScope s_one_line) .none kV_one_line dc_one_line pm_one_line an_one_line cd_one_line ct_one_line), sl_one_line⟩) (c_one_line : PySem.W.codeIn K cd_one_line "_one_line" = true) (k_one_line : PySem.W.keepIn K (.ref f_one_line) = true)
    {f_read_number : Addr} {od_read_number an_read_number : Option Addr} {sl_read_number : Array (Option Value)} {oc_read_number kV_read_number dc_read_number pm_read_number cd_read_number ct_read_number : Value}
    (a_read_number : PySem.W.nsIn K mainGlobals "read_number" = some (some (.ref f_read_number))) (l_read_number : K.lookup f_read_number = some ⟨oc_read_number, od_read_number, .func (PySem.W.fnOf "read_number" "read_number" (defArgs s_read_number) (defBody s_read_number) (defScope s_read_number) .none kV_read_number dc_read_number pm_read_number an_read_number cd_read_number ct_read_number), sl_read_number⟩) (c_read_number : PySem.W.codeIn K cd_read_number "read_number" = true) (k_read_number : PySem.W.keepIn K (.ref f_read_number) = true)
    {f_read_point : Addr} {od_read_point an_read_point : Option Addr} {sl_read_point : Array (Option Value)} {oc_read_point kV_read_point dc_read_point pm_read_point cd_read_point ct_read_point : Value}
    (a_read_point : PySem.W.nsIn K mainGlobals "read_point" = some (some (.ref f_read_point))) (l_read_point : K.lookup f_read_point = some ⟨oc_read_point, od_read_point, .func (PySem.W.fnOf "read_point" "read_point" (defArgs s_read_point) (defBody s_read_point) (defScope s_read_point) .none kV_read_point dc_read_point pm_read_point an_read_point cd_read_point ct_read_point), sl_read_point⟩) (c_read_point : PySem.W.codeIn K cd_read_point "read_point" = true) (k_read_point : PySem.W.keepIn K (.ref f_read_point) = true)
    {f_read_address : Addr} {od_read_address an_read_address : Option Addr} {sl_read_address : Array (Option Value)} {oc_read_address kV_read_address dc_read_address pm_read_address cd_read_address ct_read_address : Value}
    (a_read_address : PySem.W.nsIn K mainGlobals "read_address" = some (some (.ref f_read_address))) (l_read_address : K.lookup f_read_address = some ⟨oc_read_address, od_read_address, .func (PySem.W.fnOf "read_address" "read_address" (defArgs s_read_address) (defBody s_read_address) (defScope s_read_address) .none kV_read_address dc_read_address pm_read_address an_read_address cd_read_address ct_read_address), sl_read_address⟩) (c_read_address : PySem.W.codeIn K cd_read_address "read_address" = true) (k_read_address : PySem.W.keepIn K (.ref f_read_address) = true)
    {f_law_well : Addr} {od_law_well an_law_well : Option Addr} {sl_law_well : Array (Option Value)} {oc_law_well kV_law_well dc_law_well pm_law_well cd_law_well ct_law_well : Value}
    (a_law_well : PySem.W.nsIn K mainGlobals "_law_well" = some (some (.ref f_law_well))) (l_law_well : K.lookup f_law_well = some ⟨oc_law_well, od_law_well, .func (PySem.W.fnOf "_law_well" "_law_well" (defArgs s_law_well) (defBody s_law_well) (defScope s_law_well) .none kV_law_well dc_law_well pm_law_well an_law_well cd_law_well ct_law_well), sl_law_well⟩) (c_law_well : PySem.W.codeIn K cd_law_well "_law_well" = true) (k_law_well : PySem.W.keepIn K (.ref f_law_well) = true)
    {f_law_draw : Addr} {od_law_draw an_law_draw : Option Addr} {sl_law_draw : Array (Option Value)} {oc_law_draw kV_law_draw dc_law_draw pm_law_draw cd_law_draw ct_law_draw : Value}
    (a_law_draw : PySem.W.nsIn K mainGlobals "_law_draw" = some (some (.ref f_law_draw))) (l_law_draw : K.lookup f_law_draw = some ⟨oc_law_draw, od_law_draw, .func (PySem.W.fnOf "_law_draw" "_law_draw" (defArgs s_law_draw) (defBody s_law_draw) (defScope s_law_draw) .none kV_law_draw dc_law_draw pm_law_draw an_law_draw cd_law_draw ct_law_draw), sl_law_draw⟩) (c_law_draw : PySem.W.codeIn K cd_law_draw "_law_draw" = true) (k_law_draw : PySem.W.keepIn K (.ref f_law_draw) = true)
    {f_law_same : Addr} {od_law_same an_law_same : Option Addr} {sl_law_same : Array (Option Value)} {oc_law_same kV_law_same dc_law_same pm_law_same cd_law_same ct_law_same : Value}
    (a_law_same : PySem.W.nsIn K mainGlobals "_law_same" = some (some (.ref f_law_same))) (l_law_same : K.lookup f_law_same = some ⟨oc_law_same, od_law_same, .func (PySem.W.fnOf "_law_same" "_law_same" (defArgs s_law_same) (defBody s_law_same) (defScope s_law_same) .none kV_law_same dc_law_same pm_law_same an_law_same cd_law_same ct_law_same), sl_law_same⟩) (c_law_same : PySem.W.codeIn K cd_law_same "_law_same" = true) (k_law_same : PySem.W.keepIn K (.ref f_law_same) = true)
    {f_law_lowest : Addr} {od_law_lowest an_law_lowest : Option Addr} {sl_law_lowest : Array (Option Value)} {oc_law_lowest kV_law_lowest dc_law_lowest pm_law_lowest cd_law_lowest ct_law_lowest : Value}
    (a_law_lowest : PySem.W.nsIn K mainGlobals "_law_lowest" = some (some (.ref f_law_lowest))) (l_law_lowest : K.lookup f_law_lowest = some ⟨oc_law_lowest, od_law_lowest, .func (PySem.W.fnOf "_law_lowest" "_law_lowest" (defArgs s_law_lowest) (defBody s_law_lowest) (defScope s_law_lowest) .none kV_law_lowest dc_law_lowest pm_law_lowest an_law_lowest cd_law_lowest ct_law_lowest), sl_law_lowest⟩) (c_law_lowest : PySem.W.codeIn K cd_law_lowest "_law_lowest" = true) (k_law_lowest : PySem.W.keepIn K (.ref f_law_lowest) = true)
    {f_law_power : Addr} {od_law_power an_law_power : Option Addr} {sl_law_power : Array (Option Value)} {oc_law_power kV_law_power dc_law_power pm_law_power cd_law_power ct_law_power : Value}
    (a_law_power : PySem.W.nsIn K mainGlobals "_law_power" = some (some (.ref f_law_power))) (l_law_power : K.lookup f_law_power = some ⟨oc_law_power, od_law_power, .func (PySem.W.fnOf "_law_power" "_law_power" (defArgs s_law_power) (defBody s_law_power) (defScope s_law_power) .none kV_law_power dc_law_power pm_law_power an_law_power cd_law_power ct_law_power), sl_law_power⟩) (c_law_power : PySem.W.codeIn K cd_law_power "_law_power" = true) (k_law_power : PySem.W.keepIn K (.ref f_law_power) = true)
    {f_law_number : Addr} {od_law_number an_law_number : Option Addr} {sl_law_number : Array (Option Value)} {oc_law_number kV_law_number dc_law_number pm_law_number cd_law_number ct_law_number : Value}
    (a_law_number : PySem.W.nsIn K mainGlobals "_law_number" = some (some (.ref f_law_number))) (l_law_number : K.lookup f_law_number = some ⟨oc_law_number, od_law_number, .func (PySem.W.fnOf "_law_number" "_law_number" (defArgs s_law_number) (defBody s_law_number) (defScope s_law_number) .none kV_law_number dc_law_number pm_law_number an_law_number cd_law_number ct_law_number), sl_law_number⟩) (c_law_number : PySem.W.codeIn K cd_law_number "_law_number" = true) (k_law_number : PySem.W.keepIn K (.ref f_law_number) = true)
    {f_law_address : Addr} {od_law_address an_law_address : Option Addr} {sl_law_address : Array (Option Value)} {oc_law_address kV_law_address dc_law_address pm_law_address cd_law_address ct_law_address : Value}
    (a_law_address : PySem.W.nsIn K mainGlobals "_law_address" = some (some (.ref f_law_address))) (l_law_address : K.lookup f_law_address = some ⟨oc_law_address, od_law_address, .func (PySem.W.fnOf "_law_address" "_law_address" (defArgs s_law_address) (defBody s_law_address) (defScope s_law_address) .none kV_law_address dc_law_address pm_law_address an_law_address cd_law_address ct_law_address), sl_law_address⟩) (c_law_address : PySem.W.codeIn K cd_law_address "_law_address" = true) (k_law_address : PySem.W.keepIn K (.ref f_law_address) = true)
    {f_law_said_number : Addr} {od_law_said_number an_law_said_number : Option Addr} {sl_law_said_number : Array (Option Value)} {oc_law_said_number kV_law_said_number dc_law_said_number pm_law_said_number cd_law_said_number ct_law_said_number : Value}
    (a_law_said_number : PySem.W.nsIn K mainGlobals "_law_said_number" = some (some (.ref f_law_said_number))) (l_law_said_number : K.lookup f_law_said_number = some ⟨oc_law_said_number, od_law_said_number, .func (PySem.W.fnOf "_law_said_number" "_law_said_number" (defArgs s_law_said_number) (defBody s_law_said_number) (defScope s_law_said_number) .none kV_law_said_number dc_law_said_number pm_law_said_number an_law_said_number cd_law_said_number ct_law_said_number), sl_law_said_number⟩) (c_law_said_number : PySem.W.codeIn K cd_law_said_number "_law_said_number" = true) (k_law_said_number : PySem.W.keepIn K (.ref f_law_said_number) = true)
    {f_law_said_address : Addr} {od_law_said_address an_law_said_address : Option Addr} {sl_law_said_address : Array (Option Value)} {oc_law_said_address kV_law_said_address dc_law_said_address pm_law_said_address cd_law_said_address ct_law_said_address : Value}
    (a_law_said_address : PySem.W.nsIn K mainGlobals "_law_said_address" = some (some (.ref f_law_said_address))) (l_law_said_address : K.lookup f_law_said_address = some ⟨oc_law_said_address, od_law_said_address, .func (PySem.W.fnOf "_law_said_address" "_law_said_address" (defArgs s_law_said_address) (defBody s_law_said_address) (defScope s_law_said_address) .none kV_law_said_address dc_law_said_address pm_law_said_address an_law_said_address cd_law_said_address ct_law_said_address), sl_law_said_address⟩) (c_law_said_address : PySem.W.codeIn K cd_law_said_address "_law_said_address" = true) (k_law_said_address : PySem.W.keepIn K (.ref f_law_said_address) = true)
    {f_law_sign : Addr} {od_law_sign an_law_sign : Option Addr} {sl_law_sign : Array (Option Value)} {oc_law_sign kV_law_sign dc_law_sign pm_law_sign cd_law_sign ct_law_sign : Value}
    (a_law_sign : PySem.W.nsIn K mainGlobals "_law_sign" = some (some (.ref f_law_sign))) (l_law_sign : K.lookup f_law_sign = some ⟨oc_law_sign, od_law_sign, .func (PySem.W.fnOf "_law_sign" "_law_sign" (defArgs s_law_sign) (defBody s_law_sign) (defScope s_law_sign) .none kV_law_sign dc_law_sign pm_law_sign an_law_sign cd_law_sign ct_law_sign), sl_law_sign⟩) (c_law_sign : PySem.W.codeIn K cd_law_sign "_law_sign" = true) (k_law_sign : PySem.W.keepIn K (.ref f_law_sign) = true)
    {f_law_odd_word : Addr} {od_law_odd_word an_law_odd_word : Option Addr} {sl_law_odd_word : Array (Option Value)} {oc_law_odd_word kV_law_odd_word dc_law_odd_word pm_law_odd_word cd_law_odd_word ct_law_odd_word : Value}
    (a_law_odd_word : PySem.W.nsIn K mainGlobals "_law_odd_word" = some (some (.ref f_law_odd_word))) (l_law_odd_word : K.lookup f_law_odd_word = some ⟨oc_law_odd_word, od_law_odd_word, .func (PySem.W.fnOf "_law_odd_word" "_law_odd_word" (defArgs s_law_odd_word) (defBody s_law_odd_word) (defScope s_law_odd_word) .none kV_law_odd_word dc_law_odd_word pm_law_odd_word an_law_odd_word cd_law_odd_word ct_law_odd_word), sl_law_odd_word⟩) (c_law_odd_word : PySem.W.codeIn K cd_law_odd_word "_law_odd_word" = true) (k_law_odd_word : PySem.W.keepIn K (.ref f_law_odd_word) = true)
    {f_law_bent_signs : Addr} {od_law_bent_signs an_law_bent_signs : Option Addr} {sl_law_bent_signs : Array (Option Value)} {oc_law_bent_signs kV_law_bent_signs dc_law_bent_signs pm_law_bent_signs cd_law_bent_signs ct_law_bent_signs : Value}
    (a_law_bent_signs : PySem.W.nsIn K mainGlobals "_law_bent_signs" = some (some (.ref f_law_bent_signs))) (l_law_bent_signs : K.lookup f_law_bent_signs = some ⟨oc_law_bent_signs, od_law_bent_signs, .func (PySem.W.fnOf "_law_bent_signs" "_law_bent_signs" (defArgs s_law_bent_signs) (defBody s_law_bent_signs) (defScope s_law_bent_signs) .none kV_law_bent_signs dc_law_bent_signs pm_law_bent_signs an_law_bent_signs cd_law_bent_signs ct_law_bent_signs), sl_law_bent_signs⟩) (c_law_bent_signs : PySem.W.codeIn K cd_law_bent_signs "_law_bent_signs" = true) (k_law_bent_signs : PySem.W.keepIn K (.ref f_law_bent_signs) = true)
    {f_law_bent_parts : Addr} {od_law_bent_parts an_law_bent_parts : Option Addr} {sl_law_bent_parts : Array (Option Value)} {oc_law_bent_parts kV_law_bent_parts dc_law_bent_parts pm_law_bent_parts cd_law_bent_parts ct_law_bent_parts : Value}
    (a_law_bent_parts : PySem.W.nsIn K mainGlobals "_law_bent_parts" = some (some (.ref f_law_bent_parts))) (l_law_bent_parts : K.lookup f_law_bent_parts = some ⟨oc_law_bent_parts, od_law_bent_parts, .func (PySem.W.fnOf "_law_bent_parts" "_law_bent_parts" (defArgs s_law_bent_parts) (defBody s_law_bent_parts) (defScope s_law_bent_parts) .none kV_law_bent_parts dc_law_bent_parts pm_law_bent_parts an_law_bent_parts cd_law_bent_parts ct_law_bent_parts), sl_law_bent_parts⟩) (c_law_bent_parts : PySem.W.codeIn K cd_law_bent_parts "_law_bent_parts" = true) (k_law_bent_parts : PySem.W.keepIn K (.ref f_law_bent_parts) = true)
    {f_law_integer_in : Addr} {od_law_integer_in an_law_integer_in : Option Addr} {sl_law_integer_in : Array (Option Value)} {oc_law_integer_in kV_law_integer_in dc_law_integer_in pm_law_integer_in cd_law_integer_in ct_law_integer_in : Value}
    (a_law_integer_in : PySem.W.nsIn K mainGlobals "_law_integer_in" = some (some (.ref f_law_integer_in))) (l_law_integer_in : K.lookup f_law_integer_in = some ⟨oc_law_integer_in, od_law_integer_in, .func (PySem.W.fnOf "_law_integer_in" "_law_integer_in" (defArgs s_law_integer_in) (defBody s_law_integer_in) (defScope s_law_integer_in) .none kV_law_integer_in dc_law_integer_in pm_law_integer_in an_law_integer_in cd_law_integer_in ct_law_integer_in), sl_law_integer_in⟩) (c_law_integer_in : PySem.W.codeIn K cd_law_integer_in "_law_integer_in" = true) (k_law_integer_in : PySem.W.keepIn K (.ref f_law_integer_in) = true)
    {f_law_number_in : Addr} {od_law_number_in an_law_number_in : Option Addr} {sl_law_number_in : Array (Option Value)} {oc_law_number_in kV_law_number_in dc_law_number_in pm_law_number_in cd_law_number_in ct_law_number_in : Value}
    (a_law_number_in : PySem.W.nsIn K mainGlobals "_law_number_in" = some (some (.ref f_law_number_in))) (l_law_number_in : K.lookup f_law_number_in = some ⟨oc_law_number_in, od_law_number_in, .func (PySem.W.fnOf "_law_number_in" "_law_number_in" (defArgs s_law_number_in) (defBody s_law_number_in) (defScope s_law_number_in) .none kV_law_number_in dc_law_number_in pm_law_number_in an_law_number_in cd_law_number_in ct_law_number_in), sl_law_number_in⟩) (c_law_number_in : PySem.W.codeIn K cd_law_number_in "_law_number_in" = true) (k_law_number_in : PySem.W.keepIn K (.ref f_law_number_in) = true)
    {f_law_numbers_in : Addr} {od_law_numbers_in an_law_numbers_in : Option Addr} {sl_law_numbers_in : Array (Option Value)} {oc_law_numbers_in kV_law_numbers_in dc_law_numbers_in pm_law_numbers_in cd_law_numbers_in ct_law_numbers_in : Value}
    (a_law_numbers_in : PySem.W.nsIn K mainGlobals "_law_numbers_in" = some (some (.ref f_law_numbers_in))) (l_law_numbers_in : K.lookup f_law_numbers_in = some ⟨oc_law_numbers_in, od_law_numbers_in, .func (PySem.W.fnOf "_law_numbers_in" "_law_numbers_in" (defArgs s_law_numbers_in) (defBody s_law_numbers_in) (defScope s_law_numbers_in) .none kV_law_numbers_in dc_law_numbers_in pm_law_numbers_in an_law_numbers_in cd_law_numbers_in ct_law_numbers_in), sl_law_numbers_in⟩) (c_law_numbers_in : PySem.W.codeIn K cd_law_numbers_in "_law_numbers_in" = true) (k_law_numbers_in : PySem.W.keepIn K (.ref f_law_numbers_in) = true)
    {f_law_address_in : Addr} {od_law_address_in an_law_address_in : Option Addr} {sl_law_address_in : Array (Option Value)} {oc_law_address_in kV_law_address_in dc_law_address_in pm_law_address_in cd_law_address_in ct_law_address_in : Value}
    (a_law_address_in : PySem.W.nsIn K mainGlobals "_law_address_in" = some (some (.ref f_law_address_in))) (l_law_address_in : K.lookup f_law_address_in = some ⟨oc_law_address_in, od_law_address_in, .func (PySem.W.fnOf "_law_address_in" "_law_address_in" (defArgs s_law_address_in) (defBody s_law_address_in) (defScope s_law_address_in) .none kV_law_address_in dc_law_address_in pm_law_address_in an_law_address_in cd_law_address_in ct_law_address_in), sl_law_address_in⟩) (c_law_address_in : PySem.W.codeIn K cd_law_address_in "_law_address_in" = true) (k_law_address_in : PySem.W.keepIn K (.ref f_law_address_in) = true)
    {f_law_due : Addr} {od_law_due an_law_due : Option Addr} {sl_law_due : Array (Option Value)} {oc_law_due kV_law_due dc_law_due pm_law_due cd_law_due ct_law_due : Value}
    (a_law_due : PySem.W.nsIn K mainGlobals "_law_due" = some (some (.ref f_law_due))) (l_law_due : K.lookup f_law_due = some ⟨oc_law_due, od_law_due, .func (PySem.W.fnOf "_law_due" "_law_due" (defArgs s_law_due) (defBody s_law_due) (defScope s_law_due) .none kV_law_due dc_law_due pm_law_due an_law_due cd_law_due ct_law_due), sl_law_due⟩) (c_law_due : PySem.W.codeIn K cd_law_due "_law_due" = true) (k_law_due : PySem.W.keepIn K (.ref f_law_due) = true)
    {f_law_read : Addr} {od_law_read an_law_read : Option Addr} {sl_law_read : Array (Option Value)} {oc_law_read kV_law_read dc_law_read pm_law_read cd_law_read ct_law_read : Value}
    (a_law_read : PySem.W.nsIn K mainGlobals "_law_read" = some (some (.ref f_law_read))) (l_law_read : K.lookup f_law_read = some ⟨oc_law_read, od_law_read, .func (PySem.W.fnOf "_law_read" "_law_read" (defArgs s_law_read) (defBody s_law_read) (defScope s_law_read) .none kV_law_read dc_law_read pm_law_read an_law_read cd_law_read ct_law_read), sl_law_read⟩) (c_law_read : PySem.W.codeIn K cd_law_read "_law_read" = true) (k_law_read : PySem.W.keepIn K (.ref f_law_read) = true)
    {f_law_told : Addr} {od_law_told an_law_told : Option Addr} {sl_law_told : Array (Option Value)} {oc_law_told kV_law_told dc_law_told pm_law_told cd_law_told ct_law_told : Value}
    (a_law_told : PySem.W.nsIn K mainGlobals "_law_told" = some (some (.ref f_law_told))) (l_law_told : K.lookup f_law_told = some ⟨oc_law_told, od_law_told, .func (PySem.W.fnOf "_law_told" "_law_told" (defArgs s_law_told) (defBody s_law_told) (defScope s_law_told) .none kV_law_told dc_law_told pm_law_told an_law_told cd_law_told ct_law_told), sl_law_told⟩) (c_law_told : PySem.W.codeIn K cd_law_told "_law_told" = true) (k_law_told : PySem.W.keepIn K (.ref f_law_told) = true)
    {f_law_text : Addr} {od_law_text an_law_text : Option Addr} {sl_law_text : Array (Option Value)} {oc_law_text kV_law_text dc_law_text pm_law_text cd_law_text ct_law_text : Value}
    (a_law_text : PySem.W.nsIn K mainGlobals "_law_text" = some (some (.ref f_law_text))) (l_law_text : K.lookup f_law_text = some ⟨oc_law_text, od_law_text, .func (PySem.W.fnOf "_law_text" "_law_text" (defArgs s_law_text) (defBody s_law_text) (defScope s_law_text) .none kV_law_text dc_law_text pm_law_text an_law_text cd_law_text ct_law_text), sl_law_text⟩) (c_law_text : PySem.W.codeIn K cd_law_text "_law_text" = true) (k_law_text : PySem.W.keepIn K (.ref f_law_text) = true)
    {f_law_bent : Addr} {od_law_bent an_law_bent : Option Addr} {sl_law_bent : Array (Option Value)} {oc_law_bent kV_law_bent dc_law_bent pm_law_bent cd_law_bent ct_law_bent : Value}
    (a_law_bent : PySem.W.nsIn K mainGlobals "_law_bent" = some (some (.ref f_law_bent))) (l_law_bent : K.lookup f_law_bent = some ⟨oc_law_bent, od_law_bent, .func (PySem.W.fnOf "_law_bent" "_law_bent" (defArgs s_law_bent) (defBody s_law_bent) (defScope s_law_bent) .none kV_law_bent dc_law_bent pm_law_bent an_law_bent cd_law_bent ct_law_bent), sl_law_bent⟩) (c_law_bent : PySem.W.codeIn K cd_law_bent "_law_bent" = true) (k_law_bent : PySem.W.keepIn K (.ref f_law_bent) = true)
    {f_law : Addr} {od_law an_law : Option Addr} {sl_law : Array (Option Value)} {oc_law kV_law dc_law pm_law cd_law ct_law : Value}
    (a_law : PySem.W.nsIn K mainGlobals "law" = some (some (.ref f_law))) (l_law : K.lookup f_law = some ⟨oc_law, od_law, .func (PySem.W.fnOf "law" "law" (defArgs s_law) (defBody s_law) (defScope s_law) .none kV_law dc_law pm_law an_law cd_law ct_law), sl_law⟩) (c_law : PySem.W.codeIn K cd_law "law" = true) (k_law : PySem.W.keepIn K (.ref f_law) = true)
    (z_isinstance : PySem.W.nsIn K mainGlobals "isinstance" = some none)
    (z_int : PySem.W.nsIn K mainGlobals "int" = some none)
    (z_bool : PySem.W.nsIn K mainGlobals "bool" = some none)
    (z_tuple : PySem.W.nsIn K mainGlobals "tuple" = some none)
    (z_len : PySem.W.nsIn K mainGlobals "len" = some none)
    (z_gcd : PySem.W.nsIn K mainGlobals "gcd" = some (some (.builtin "math.gcd")))
    (z_str : PySem.W.nsIn K mainGlobals "str" = some none)
    (z_all : PySem.W.nsIn K mainGlobals "all" = some none)
    (z_max : PySem.W.nsIn K mainGlobals "max" = some none)
    (z_abs : PySem.W.nsIn K mainGlobals "abs" = some none)
    (z_list : PySem.W.nsIn K mainGlobals "list" = some none)
    (z_range : PySem.W.nsIn K mainGlobals "range" = some none)
    (z_min : PySem.W.nsIn K mainGlobals "min" = some none)
    {tMOST : Tok} (cMOST : PySem.W.nsIn K mainGlobals "MOST" = some (some (.int 9 tMOST)))
    {zc_KitError : Addr} (n_KitError : PySem.W.nsIn K mainGlobals "KitError" = some (some (.ref zc_KitError)))
    {zc_Unreadable : Addr} (n_Unreadable : PySem.W.nsIn K mainGlobals "Unreadable" = some (some (.ref zc_Unreadable)))
    {fI : Addr} (ib : PySem.W.findIn K (.ref zc_KitError) "__init__" = some (some (.ref fI))) {od_init an_init : Option Addr} {sl_init : Array (Option Value)} {oc_init kV_init dc_init pm_init cd_init ct_init : Value}
    (l_init : K.lookup fI = some ⟨oc_init, od_init, .func (PySem.W.fnOf "__init__" "KitError.__init__" (defArgs s_init) (defBody s_init) (defScope s_init) .none kV_init dc_init pm_init an_init cd_init ct_init), sl_init⟩) (c_init : PySem.W.codeIn K cd_init "KitError.__init__" = true) (k_init : PySem.W.keepIn K (.ref fI) = true) (t_init : PySem.W.typeIn K (.ref fI) = some (.type "function"))
    (hB : erB K fI ["KitError", "Unreadable"] (yoOf [("KitError", zc_KitError), ("Unreadable", zc_Unreadable)]) = true)
    : ∃ fd : FuncData, (∀ (s : Shared) (v : Value), BindsTo s fd ⟨[v], []⟩ [("script", v)]) ∧ ∀ base : Heap, K.In base → base.Ns mainGlobals mg → FnOk l.prog w K mg base CX0 13 fa fd ["script"] (spLawB K) := by
  have e := hfa.symm.trans (PySem.W.mg_of X G a_law)
  cases e
  have M : Bu mg := ⟨PySem.W.mg_none_of X G z_isinstance, PySem.W.mg_none_of X G z_int, PySem.W.mg_none_of X G z_bool, PySem.W.mg_none_of X G z_tuple, PySem.W.mg_none_of X G z_len, PySem.W.mg_of X G z_gcd, PySem.W.mg_none_of X G z_str, PySem.W.mg_none_of X G z_all, PySem.W.mg_none_of X G z_max, PySem.W.mg_none_of X G z_abs, PySem.W.mg_none_of X G z_list, PySem.W.mg_none_of X G z_range, PySem.W.mg_none_of X G z_min⟩
  have F_is_integer := fun_mk (st := s_is_integer) l_is_integer c_is_integer k_is_integer
  have F_is_pair := fun_mk (st := s_is_pair) l_is_pair c_is_pair k_is_pair
  have F_is_offset := fun_mk (st := s_is_offset) l_is_offset c_is_offset k_is_offset
  have F_is_number := fun_mk (st := s_is_number) l_is_number c_is_number k_is_number
  have F_integer_from := fun_mk (st := s_integer_from) l_integer_from c_integer_from k_integer_from
  have F_number_from := fun_mk (st := s_number_from) l_number_from c_number_from k_number_from
  have F_point_from := fun_mk (st := s_point_from) l_point_from c_point_from k_point_from
  have F_places_from := fun_mk (st := s_places_from) l_places_from c_places_from k_places_from
  have F_address_from := fun_mk (st := s_address_from) l_address_from c_address_from k_address_from
  have F_one_line := fun_mk (st := s_one_line) l_one_line c_one_line k_one_line
  have F_read_number := fun_mk (st := s_read_number) l_read_number c_read_number k_read_number
  have F_read_point := fun_mk (st := s_read_point) l_read_point c_read_point k_read_point
  have F_read_address := fun_mk (st := s_read_address) l_read_address c_read_address k_read_address
  have F_law_well := fun_mk (st := s_law_well) l_law_well c_law_well k_law_well
  have F_law_draw := fun_mk (st := s_law_draw) l_law_draw c_law_draw k_law_draw
  have F_law_same := fun_mk (st := s_law_same) l_law_same c_law_same k_law_same
  have F_law_lowest := fun_mk (st := s_law_lowest) l_law_lowest c_law_lowest k_law_lowest
  have F_law_power := fun_mk (st := s_law_power) l_law_power c_law_power k_law_power
  have F_law_number := fun_mk (st := s_law_number) l_law_number c_law_number k_law_number
  have F_law_address := fun_mk (st := s_law_address) l_law_address c_law_address k_law_address
  have F_law_said_number := fun_mk (st := s_law_said_number) l_law_said_number c_law_said_number k_law_said_number
  have F_law_said_address := fun_mk (st := s_law_said_address) l_law_said_address c_law_said_address k_law_said_address
  have F_law_sign := fun_mk (st := s_law_sign) l_law_sign c_law_sign k_law_sign
  have F_law_odd_word := fun_mk (st := s_law_odd_word) l_law_odd_word c_law_odd_word k_law_odd_word
  have F_law_bent_signs := fun_mk (st := s_law_bent_signs) l_law_bent_signs c_law_bent_signs k_law_bent_signs
  have F_law_bent_parts := fun_mk (st := s_law_bent_parts) l_law_bent_parts c_law_bent_parts k_law_bent_parts
  have F_law_integer_in := fun_mk (st := s_law_integer_in) l_law_integer_in c_law_integer_in k_law_integer_in
  have F_law_number_in := fun_mk (st := s_law_number_in) l_law_number_in c_law_number_in k_law_number_in
  have F_law_numbers_in := fun_mk (st := s_law_numbers_in) l_law_numbers_in c_law_numbers_in k_law_numbers_in
  have F_law_address_in := fun_mk (st := s_law_address_in) l_law_address_in c_law_address_in k_law_address_in
  have F_law_due := fun_mk (st := s_law_due) l_law_due c_law_due k_law_due
  have F_law_read := fun_mk (st := s_law_read) l_law_read c_law_read k_law_read
  have F_law_told := fun_mk (st := s_law_told) l_law_told c_law_told k_law_told
  have F_law_text := fun_mk (st := s_law_text) l_law_text c_law_text k_law_text
  have F_law_bent := fun_mk (st := s_law_bent) l_law_bent c_law_bent k_law_bent
  have F_law := fun_mk (st := s_law) l_law c_law k_law
  refine ⟨PySem.W.fnOf "law" "law" (defArgs s_law) (defBody s_law) (defScope s_law) .none kV_law dc_law pm_law an_law cd_law ct_law, fun s v => .of_eq rfl, fun base _ _ => ?_⟩
  have F_init := fun_mk (st := s_init) l_init c_init k_init
  have NI : Sk.Ini l.prog w K mg base 1 fI := ⟨⟨_, ok_init (P := l.prog) (w := w) (mg := mg) (base := base) F_init, F_init.binds (ps := ["self", "value"]) fun _ _ _ _ _ _ us hl => match us, hl with | [_, _], _ => rfl, fun s a v => .of_eq rfl⟩, t_init⟩
  have Z := er_of (P := l.prog) (w := w) (mg := mg) (base := base) hB NI (fun y v h => PySem.W.mg_of X G h)
  have O_is_integer := ok_is_integer (P := l.prog) (w := w) (base := base) (N := N) F_is_integer M
  have C_is_integer := Sk.cal_mk F_is_integer O_is_integer (PySem.W.mg_of X G a_is_integer) (F_is_integer.binds (ps := ["told"]) fun _ _ _ _ _ _ us hl => match us, hl with | [_], _ => rfl)
  have O_is_pair := ok_is_pair (P := l.prog) (w := w) (base := base) (N := N) F_is_pair M
  have C_is_pair := Sk.cal_mk F_is_pair O_is_pair (PySem.W.mg_of X G a_is_pair) (F_is_pair.binds (ps := ["told"]) fun _ _ _ _ _ _ us hl => match us, hl with | [_], _ => rfl)
  have O_is_offset := ok_is_offset (P := l.prog) (w := w) (base := base) (N := N) F_is_offset M C_is_pair C_is_integer
  have C_is_offset := Sk.cal_mk F_is_offset O_is_offset (PySem.W.mg_of X G a_is_offset) (F_is_offset.binds (ps := ["told"]) fun _ _ _ _ _ _ us hl => match us, hl with | [_], _ => rfl)
  have O_is_number := ok_is_number (P := l.prog) (w := w) (base := base) (N := N) F_is_number M C_is_offset
  have C_is_number := Sk.cal_mk F_is_number O_is_number (PySem.W.mg_of X G a_is_number) (F_is_number.binds (ps := ["told"]) fun _ _ _ _ _ _ us hl => match us, hl with | [_], _ => rfl)
  have O_integer_from := ok_integer_from (P := l.prog) (w := w) (base := base) (N := N) F_integer_from M (PySem.W.mg_of X G cMOST)
  have C_integer_from := Sk.cal_mk F_integer_from O_integer_from (PySem.W.mg_of X G a_integer_from) (F_integer_from.binds (ps := ["word"]) fun _ _ _ _ _ _ us hl => match us, hl with | [_], _ => rfl)
  have O_number_from := ok_number_from (P := l.prog) (w := w) (base := base) (N := N) F_number_from M C_integer_from C_is_number
  have C_number_from := Sk.cal_mk F_number_from O_number_from (PySem.W.mg_of X G a_number_from) (F_number_from.binds (ps := ["word"]) fun _ _ _ _ _ _ us hl => match us, hl with | [_], _ => rfl)
  have O_point_from := ok_point_from (P := l.prog) (w := w) (base := base) (N := N) F_point_from M C_number_from
  have C_point_from := Sk.cal_mk F_point_from O_point_from (PySem.W.mg_of X G a_point_from) (F_point_from.binds (ps := ["line"]) fun _ _ _ _ _ _ us hl => match us, hl with | [_], _ => rfl)
  have O_places_from := ok_places_from (P := l.prog) (w := w) (base := base) (N := N) F_places_from M C_integer_from
  have C_places_from := Sk.cal_mk F_places_from O_places_from (PySem.W.mg_of X G a_places_from) (F_places_from.binds (ps := ["words"]) fun _ _ _ _ _ _ us hl => match us, hl with | [_], _ => rfl)
  have O_address_from := ok_address_from (P := l.prog) (w := w) (base := base) (N := N) F_address_from M C_places_from
  have C_address_from := Sk.cal_mk F_address_from O_address_from (PySem.W.mg_of X G a_address_from) (F_address_from.binds (ps := ["line"]) fun _ _ _ _ _ _ us hl => match us, hl with | [_], _ => rfl)
  have O_one_line := ok_one_line (P := l.prog) (w := w) (base := base) (N := N) F_one_line M C_number_from C_point_from C_address_from (PySem.W.mg_of X G a_address_from) a_address_from (PySem.W.mg_of X G a_point_from) a_point_from (PySem.W.mg_of X G a_number_from) a_number_from
  have C_one_line := Sk.cal_mk F_one_line O_one_line (PySem.W.mg_of X G a_one_line) (F_one_line.binds (ps := ["text", "read"]) fun _ _ _ _ _ _ us hl => match us, hl with | [_, _], _ => rfl)
  have OX_one_line := okx_one_line (P := l.prog) (w := w) (base := base) (N := N) F_one_line M C_number_from C_point_from C_address_from (PySem.W.mg_of X G a_address_from) a_address_from (PySem.W.mg_of X G a_point_from) a_point_from (PySem.W.mg_of X G a_number_from) a_number_from Z
  have CX_one_line := calX_mk F_one_line OX_one_line (PySem.W.mg_of X G a_one_line) (F_one_line.binds (ps := ["text", "read"]) fun _ _ _ _ _ _ us hl => match us, hl with | [_, _], _ => rfl)
  have O_read_number := ok_read_number (P := l.prog) (w := w) (base := base) (N := N) F_read_number M C_one_line (PySem.W.mg_of X G a_number_from) a_number_from
  have C_read_number := Sk.cal_mk F_read_number O_read_number (PySem.W.mg_of X G a_read_number) (F_read_number.binds (ps := ["text"]) fun _ _ _ _ _ _ us hl => match us, hl with | [_], _ => rfl)
  have OX_read_number := okx_read_number (P := l.prog) (w := w) (base := base) (N := N) F_read_number M CX_one_line (PySem.W.mg_of X G a_number_from) a_number_from
  have CX_read_number := calX_mk F_read_number OX_read_number (PySem.W.mg_of X G a_read_number) (F_read_number.binds (ps := ["text"]) fun _ _ _ _ _ _ us hl => match us, hl with | [_], _ => rfl)
  have KX_read_number_text := calkPX (ks := ["text"]) (ps := ["text"]) (is := [0]) F_read_number OX_read_number (PySem.W.mg_of X G a_read_number) (fun _ _ _ _ _ _ ws hl => match ws, hl with | [_], _ => rfl)
  have K_read_number_text := calkP (ks := ["text"]) (ps := ["text"]) (is := [0]) F_read_number O_read_number (PySem.W.mg_of X G a_read_number) (fun _ _ _ _ _ _ ws hl => match ws, hl with | [_], _ => rfl)
  have O_read_point := ok_read_point (P := l.prog) (w := w) (base := base) (N := N) F_read_point M C_one_line (PySem.W.mg_of X G a_point_from) a_point_from
  have C_read_point := Sk.cal_mk F_read_point O_read_point (PySem.W.mg_of X G a_read_point) (F_read_point.binds (ps := ["text"]) fun _ _ _ _ _ _ us hl => match us, hl with | [_], _ => rfl)
  have OX_read_point := okx_read_point (P := l.prog) (w := w) (base := base) (N := N) F_read_point M CX_one_line (PySem.W.mg_of X G a_point_from) a_point_from
  have CX_read_point := calX_mk F_read_point OX_read_point (PySem.W.mg_of X G a_read_point) (F_read_point.binds (ps := ["text"]) fun _ _ _ _ _ _ us hl => match us, hl with | [_], _ => rfl)
  have KX_read_point_text := calkPX (ks := ["text"]) (ps := ["text"]) (is := [0]) F_read_point OX_read_point (PySem.W.mg_of X G a_read_point) (fun _ _ _ _ _ _ ws hl => match ws, hl with | [_], _ => rfl)
  have K_read_point_text := calkP (ks := ["text"]) (ps := ["text"]) (is := [0]) F_read_point O_read_point (PySem.W.mg_of X G a_read_point) (fun _ _ _ _ _ _ ws hl => match ws, hl with | [_], _ => rfl)
  have O_read_address := ok_read_address (P := l.prog) (w := w) (base := base) (N := N) F_read_address M C_one_line (PySem.W.mg_of X G a_address_from) a_address_from
  have C_read_address := Sk.cal_mk F_read_address O_read_address (PySem.W.mg_of X G a_read_address) (F_read_address.binds (ps := ["text"]) fun _ _ _ _ _ _ us hl => match us, hl with | [_], _ => rfl)
  have OX_read_address := okx_read_address (P := l.prog) (w := w) (base := base) (N := N) F_read_address M CX_one_line (PySem.W.mg_of X G a_address_from) a_address_from
  have CX_read_address := calX_mk F_read_address OX_read_address (PySem.W.mg_of X G a_read_address) (F_read_address.binds (ps := ["text"]) fun _ _ _ _ _ _ us hl => match us, hl with | [_], _ => rfl)
  have KX_read_address_text := calkPX (ks := ["text"]) (ps := ["text"]) (is := [0]) F_read_address OX_read_address (PySem.W.mg_of X G a_read_address) (fun _ _ _ _ _ _ ws hl => match ws, hl with | [_], _ => rfl)
  have K_read_address_text := calkP (ks := ["text"]) (ps := ["text"]) (is := [0]) F_read_address O_read_address (PySem.W.mg_of X G a_read_address) (fun _ _ _ _ _ _ ws hl => match ws, hl with | [_], _ => rfl)
  have O_law_well := ok_law_well (P := l.prog) (w := w) (base := base) (N := N) F_law_well M
  have C_law_well := Sk.cal_mk F_law_well O_law_well (PySem.W.mg_of X G a_law_well) (F_law_well.binds (ps := ["script", "place"]) fun _ _ _ _ _ _ us hl => match us, hl with | [_, _], _ => rfl)
  have O_law_draw := ok_law_draw (P := l.prog) (w := w) (base := base) (N := N) F_law_draw M
  have C_law_draw := Sk.cal_mk F_law_draw O_law_draw (PySem.W.mg_of X G a_law_draw) (F_law_draw.binds (ps := ["well", "many"]) fun _ _ _ _ _ _ us hl => match us, hl with | [_, _], _ => rfl)
  have b_law_same := F_law_same.binds (ps := ["told", "due"]) fun _ _ _ _ _ _ us hl => match us, hl with | [_, _], _ => rfl
  have all_law_same : ∀ n : Nat, FnOk l.prog w K mg base CX0 n f_law_same (PySem.W.fnOf "_law_same" "_law_same" (defArgs s_law_same) (defBody s_law_same) (defScope s_law_same) .none kV_law_same dc_law_same pm_law_same an_law_same cd_law_same ct_law_same) ["told", "due"] (spM l.prog w K (m_law_same N n)) := by
    intro n
    induction n with
    | zero =>
      have no : ∀ vs H Q E, ¬ spM l.prog w K (m_law_same N 0) vs H Q E := fun vs H Q E h => by
        obtain ⟨F, μ, S, ws, x, S1, _, _, h, _⟩ := h
        cases h
      exact ⟨fun vs H Q E h => absurd h (no vs H Q E), fun A outer s H args us vs Q E _ _ _ _ h => absurd h (no vs H Q E)⟩
    | succ n ih => exact ok_law_same (N := N) F_law_same M (Sk.cal_mk F_law_same ih (PySem.W.mg_of X G a_law_same) b_law_same)
  have c_law_same := Sk.cal_mk (P := l.prog) (w := w) (base := base) F_law_same (all_law_same 12) (PySem.W.mg_of X G a_law_same) b_law_same
  have O_law_lowest := ok_law_lowest (P := l.prog) (w := w) (base := base) (N := N) F_law_lowest M
  have C_law_lowest := Sk.cal_mk F_law_lowest O_law_lowest (PySem.W.mg_of X G a_law_lowest) (F_law_lowest.binds (ps := ["top", "bottom"]) fun _ _ _ _ _ _ us hl => match us, hl with | [_, _], _ => rfl)
  have O_law_power := ok_law_power (P := l.prog) (w := w) (base := base) (N := N) F_law_power M
  have C_law_power := Sk.cal_mk F_law_power O_law_power (PySem.W.mg_of X G a_law_power) (F_law_power.binds (ps := ["many"]) fun _ _ _ _ _ _ us hl => match us, hl with | [_], _ => rfl)
  have O_law_number := ok_law_number (P := l.prog) (w := w) (base := base) (N := N) F_law_number M C_law_lowest C_law_draw C_law_power
  have C_law_number := Sk.cal_mk F_law_number O_law_number (PySem.W.mg_of X G a_law_number) (F_law_number.binds (ps := ["well", "most"]) fun _ _ _ _ _ _ us hl => match us, hl with | [_, _], _ => rfl)
  have O_law_address := ok_law_address (P := l.prog) (w := w) (base := base) (N := N) F_law_address M C_law_draw
  have C_law_address := Sk.cal_mk F_law_address O_law_address (PySem.W.mg_of X G a_law_address) (F_law_address.binds (ps := ["well"]) fun _ _ _ _ _ _ us hl => match us, hl with | [_], _ => rfl)
  have O_law_said_number := ok_law_said_number (P := l.prog) (w := w) (base := base) (N := N) F_law_said_number M
  have C_law_said_number := Sk.cal_mk F_law_said_number O_law_said_number (PySem.W.mg_of X G a_law_said_number) (F_law_said_number.binds (ps := ["number"]) fun _ _ _ _ _ _ us hl => match us, hl with | [_], _ => rfl)
  have O_law_said_address := ok_law_said_address (P := l.prog) (w := w) (base := base) (N := N) F_law_said_address M
  have C_law_said_address := Sk.cal_mk F_law_said_address O_law_said_address (PySem.W.mg_of X G a_law_said_address) (F_law_said_address.binds (ps := ["address"]) fun _ _ _ _ _ _ us hl => match us, hl with | [_], _ => rfl)
  have O_law_sign := ok_law_sign (P := l.prog) (w := w) (base := base) (N := N) F_law_sign M C_law_draw
  have C_law_sign := Sk.cal_mk F_law_sign O_law_sign (PySem.W.mg_of X G a_law_sign) (F_law_sign.binds (ps := ["well"]) fun _ _ _ _ _ _ us hl => match us, hl with | [_], _ => rfl)
  have O_law_odd_word := ok_law_odd_word (P := l.prog) (w := w) (base := base) (N := N) F_law_odd_word M C_law_draw
  have C_law_odd_word := Sk.cal_mk F_law_odd_word O_law_odd_word (PySem.W.mg_of X G a_law_odd_word) (F_law_odd_word.binds (ps := ["well"]) fun _ _ _ _ _ _ us hl => match us, hl with | [_], _ => rfl)
  have O_law_bent_signs := ok_law_bent_signs (P := l.prog) (w := w) (base := base) (N := N) F_law_bent_signs M C_law_draw C_law_sign
  have C_law_bent_signs := Sk.cal_mk F_law_bent_signs O_law_bent_signs (PySem.W.mg_of X G a_law_bent_signs) (F_law_bent_signs.binds (ps := ["well", "text"]) fun _ _ _ _ _ _ us hl => match us, hl with | [_, _], _ => rfl)
  have O_law_bent_parts := ok_law_bent_parts (P := l.prog) (w := w) (base := base) (N := N) F_law_bent_parts M C_law_draw
  have C_law_bent_parts := Sk.cal_mk F_law_bent_parts O_law_bent_parts (PySem.W.mg_of X G a_law_bent_parts) (F_law_bent_parts.binds (ps := ["well", "text", "between", "odd"]) fun _ _ _ _ _ _ us hl => match us, hl with | [_, _, _, _], _ => rfl)
  have O_law_integer_in := ok_law_integer_in (P := l.prog) (w := w) (base := base) (N := N) F_law_integer_in M
  have C_law_integer_in := Sk.cal_mk F_law_integer_in O_law_integer_in (PySem.W.mg_of X G a_law_integer_in) (F_law_integer_in.binds (ps := ["word"]) fun _ _ _ _ _ _ us hl => match us, hl with | [_], _ => rfl)
  have O_law_number_in := ok_law_number_in (P := l.prog) (w := w) (base := base) (N := N) F_law_number_in M C_law_integer_in C_law_lowest
  have C_law_number_in := Sk.cal_mk F_law_number_in O_law_number_in (PySem.W.mg_of X G a_law_number_in) (F_law_number_in.binds (ps := ["word"]) fun _ _ _ _ _ _ us hl => match us, hl with | [_], _ => rfl)
  have O_law_numbers_in := ok_law_numbers_in (P := l.prog) (w := w) (base := base) (N := N) F_law_numbers_in M C_law_number_in
  have C_law_numbers_in := Sk.cal_mk F_law_numbers_in O_law_numbers_in (PySem.W.mg_of X G a_law_numbers_in) (F_law_numbers_in.binds (ps := ["line"]) fun _ _ _ _ _ _ us hl => match us, hl with | [_], _ => rfl)
  have O_law_address_in := ok_law_address_in (P := l.prog) (w := w) (base := base) (N := N) F_law_address_in M C_law_integer_in
  have C_law_address_in := Sk.cal_mk F_law_address_in O_law_address_in (PySem.W.mg_of X G a_law_address_in) (F_law_address_in.binds (ps := ["line"]) fun _ _ _ _ _ _ us hl => match us, hl with | [_], _ => rfl)
  have O_law_due := ok_law_due (P := l.prog) (w := w) (base := base) (N := N) F_law_due M C_law_address_in C_law_number_in C_law_numbers_in
  have C_law_due := Sk.cal_mk F_law_due O_law_due (PySem.W.mg_of X G a_law_due) (F_law_due.binds (ps := ["door", "text"]) fun _ _ _ _ _ _ us hl => match us, hl with | [_, _], _ => rfl)
  have O_law_read := ok_law_read (P := l.prog) (w := w) (base := base) (N := N) F_law_read M K_read_address_text C_read_address K_read_number_text C_read_number K_read_point_text C_read_point
  have C_law_read := Sk.cal_mk F_law_read O_law_read (PySem.W.mg_of X G a_law_read) (F_law_read.binds (ps := ["door", "text", "named"]) fun _ _ _ _ _ _ us hl => match us, hl with | [_, _, _], _ => rfl)
  have OX_law_read := okx_law_read (P := l.prog) (w := w) (base := base) (N := N) F_law_read M KX_read_address_text CX_read_address KX_read_number_text CX_read_number KX_read_point_text CX_read_point
  have CX_law_read := calX_mk F_law_read OX_law_read (PySem.W.mg_of X G a_law_read) (F_law_read.binds (ps := ["door", "text", "named"]) fun _ _ _ _ _ _ us hl => match us, hl with | [_, _, _], _ => rfl)
  have O_law_told := ok_law_told (P := l.prog) (w := w) (base := base) (N := N) F_law_told M CX_law_read Z
  have C_law_told := Sk.cal_mk F_law_told O_law_told (PySem.W.mg_of X G a_law_told) (F_law_told.binds (ps := ["door", "text", "named"]) fun _ _ _ _ _ _ us hl => match us, hl with | [_, _, _], _ => rfl)
  have O_law_text := ok_law_text (P := l.prog) (w := w) (base := base) (N := N) F_law_text M C_law_said_address C_law_draw C_law_said_number C_law_address C_law_number
  have C_law_text := Sk.cal_mk F_law_text O_law_text (PySem.W.mg_of X G a_law_text) (F_law_text.binds (ps := ["well", "kind"]) fun _ _ _ _ _ _ us hl => match us, hl with | [_, _], _ => rfl)
  have O_law_bent := ok_law_bent (P := l.prog) (w := w) (base := base) (N := N) F_law_bent M C_law_draw C_law_bent_signs C_law_bent_parts C_law_odd_word
  have C_law_bent := Sk.cal_mk F_law_bent O_law_bent (PySem.W.mg_of X G a_law_bent) (F_law_bent.binds (ps := ["well", "text"]) fun _ _ _ _ _ _ us hl => match us, hl with | [_, _], _ => rfl)
  exact law_okB (ok_law (P := l.prog) (w := w) (base := base) (N := N) F_law M C_law_well C_law_bent C_law_due c_law_same C_law_text C_law_draw C_law_told) fun ns hn hb => law_true hN hn hb
theorem walk {l : PySem.W.OpenLaw} {q : Program} {loose : List Str} {XP : (Str → Option Value) → Heap → Prop} {YP : World → Heap → Prop} {d : DefRec} {K : Params → PySem.W.Frag} (hn : l.most = some 63) (hdf : d.params.defaults = [])
    (hY : ∀ (w : World) (h : Heap), YP w h → (K w.params).In h)
    (F : ∀ (w : World) (mg : Str → Option Value) (fa : Addr) (h : Heap), (K w.params).In h → h.Ns mainGlobals mg → mg d.name = some (.ref fa) →
      ∃ fd : FuncData, (∀ (s : Shared) (u : Value), BindsTo s fd ⟨[u], []⟩ [("script", u)]) ∧ ∀ base : Heap, (K w.params).In base → base.Ns mainGlobals mg → FnOk l.prog w (K w.params) mg base CX0 13 fa fd ["script"] (spLawB (K w.params))) :
    PySem.W.WalkO q loose XP YP l.row.toRowW d [] (fun f vs => PySem.call f vs) :=
  L2.walk_ofB (n := 63) (k := 13) (x := "script") (CX := fun _ => CX0) (sp := fun w => spLawB (K w.params)) hn (by decide) hdf ⟨rfl, by decide, by decide⟩ hY F (fun _ _ a ns hl hb _ hS => ⟨a, ns, rfl, hS, hl, hb, fun _ => rfl⟩) fun _ _ _ _ _ z => z
end K53

open PySem PySem.W PyProof.Rows
set_option maxRecDepth 100000 in
set_option maxHeartbeats 0 in
theorem PySem.Challenge.cw_selfkits_k53_whole_lines_bent_holds : PySem.Challenge.rw_selfkits_k53_whole_lines_bent.Holds := by
  w_on; o_law; k_head; (case hw => w_witness2)
  k_fill
  refine K53.walk (l := PySem.Challenge.rw_selfkits_k53_whole_lines_bent) rfl rfl (fun w h Y => PySem.W.kIn_of Y) ?F
  case F =>
    intro w mg fa h KX G hmg
    refine' K53.all_mk (N := 2 ^ 1200) (Nat.le_refl _) KX G hmg ?a_is_integer ?l_is_integer ?c_is_integer ?k_is_integer ?a_is_pair ?l_is_pair ?c_is_pair ?k_is_pair ?a_is_offset ?l_is_offset ?c_is_offset ?k_is_offset ?a_is_number ?l_is_number ?c_is_number ?k_is_number ?a_integer_from ?l_integer_from ?c_integer_from ?k_integer_from ?a_number_from ?l_number_from ?c_number_from ?k_number_from ?a_point_from ?l_point_from ?c_point_from ?k_point_from ?a_places_from ?l_places_from ?c_places_from ?k_places_from ?a_address_from ?l_address_from ?c_address_from ?k_address_from ?a_one_line ?l_one_line ?c_one_line ?k_one_line ?a_read_number ?l_read_number ?c_read_number ?k_read_number ?a_read_point ?l_read_point ?c_read_point ?k_read_point ?a_read_address ?l_read_address ?c_read_address ?k_read_address ?a_law_well ?l_law_well ?c_law_well ?k_law_well ?a_law_draw ?l_law_draw ?c_law_draw ?k_law_draw ?a_law_same ?l_law_same ?c_law_same ?k_law_same ?a_law_lowest ?l_law_lowest ?c_law_lowest ?k_law_lowest ?a_law_power ?l_law_power ?c_law_power ?k_law_power ?a_law_number ?l_law_number ?c_law_number ?k_law_number ?a_law_address ?l_law_address ?c_law_address ?k_law_address ?a_law_said_number ?l_law_said_number ?c_law_said_number ?k_law_said_number ?a_law_said_address ?l_law_said_address ?c_law_said_address ?k_law_said_address ?a_law_sign ?l_law_sign ?c_law_sign ?k_law_sign ?a_law_odd_word ?l_law_odd_word ?c_law_odd_word ?k_law_odd_word ?a_law_bent_signs ?l_law_bent_signs ?c_law_bent_signs ?k_law_bent_signs ?a_law_bent_parts ?l_law_bent_parts ?c_law_bent_parts ?k_law_bent_parts ?a_law_integer_in ?l_law_integer_in ?c_law_integer_in ?k_law_integer_in ?a_law_number_in ?l_law_number_in ?c_law_number_in ?k_law_number_in ?a_law_numbers_in ?l_law_numbers_in ?c_law_numbers_in ?k_law_numbers_in ?a_law_address_in ?l_law_address_in ?c_law_address_in ?k_law_address_in ?a_law_due ?l_law_due ?c_law_due ?k_law_due ?a_law_read ?l_law_read ?c_law_read ?k_law_read ?a_law_told ?l_law_told ?c_law_told ?k_law_told ?a_law_text ?l_law_text ?c_law_text ?k_law_text ?a_law_bent ?l_law_bent ?c_law_bent ?k_law_bent ?a_law ?l_law ?c_law ?k_law ?z_isinstance ?z_int ?z_bool ?z_tuple ?z_len ?z_gcd ?z_str ?z_all ?z_max ?z_abs ?z_list ?z_range ?z_min ?cMOST ?n_KitError ?n_Unreadable ?ib ?l_init ?c_init ?k_init ?t_init ?hB
    (case a_is_integer => k_is)
    (case l_is_integer => k_is)
    (case c_is_integer => k_is)
    (case k_is_integer => k_is)
    (case a_is_pair => k_is)
    (case l_is_pair => k_is)
    (case c_is_pair => k_is)
    (case k_is_pair => k_is)
    (case a_is_offset => k_is)
    (case l_is_offset => k_is)
    (case c_is_offset => k_is)
    (case k_is_offset => k_is)
    (case a_is_number => k_is)
    (case l_is_number => k_is)
    (case c_is_number => k_is)
    (case k_is_number => k_is)
    (case a_integer_from => k_is)
    (case l_integer_from => k_is)
    (case c_integer_from => k_is)
    (case k_integer_from => k_is)
    (case a_number_from => k_is)
    (case l_number_from => k_is)
    (case c_number_from => k_is)
    (case k_number_from => k_is)
    (case a_point_from => k_is)
    (case l_point_from => k_is)
    (case c_point_from => k_is)
    (case k_point_from => k_is)
    (case a_places_from => k_is)
    (case l_places_from => k_is)
    (case c_places_from => k_is)
    (case k_places_from => k_is)
    (case a_address_from => k_is)
    (case l_address_from => k_is)
    (case c_address_from => k_is)
    (case k_address_from => k_is)
    (case a_one_line => k_is)
    (case l_one_line => k_is)
    (case c_one_line => k_is)
    (case k_one_line => k_is)
    (case a_read_number => k_is)
    (case l_read_number => k_is)
    (case c_read_number => k_is)
    (case k_read_number => k_is)
    (case a_read_point => k_is)
    (case l_read_point => k_is)
    (case c_read_point => k_is)
    (case k_read_point => k_is)
    (case a_read_address => k_is)
    (case l_read_address => k_is)
    (case c_read_address => k_is)
    (case k_read_address => k_is)
    (case a_law_well => k_is)
    (case l_law_well => k_is)
    (case c_law_well => k_is)
    (case k_law_well => k_is)
    (case a_law_draw => k_is)
    (case l_law_draw => k_is)
    (case c_law_draw => k_is)
    (case k_law_draw => k_is)
    (case a_law_same => k_is)
    (case l_law_same => k_is)
    (case c_law_same => k_is)
    (case k_law_same => k_is)
    (case a_law_lowest => k_is)
    (case l_law_lowest => k_is)
    (case c_law_lowest => k_is)
    (case k_law_lowest => k_is)
    (case a_law_power => k_is)
    (case l_law_power => k_is)
    (case c_law_power => k_is)
    (case k_law_power => k_is)
    (case a_law_number => k_is)
    (case l_law_number => k_is)
    (case c_law_number => k_is)
    (case k_law_number => k_is)
    (case a_law_address => k_is)
    (case l_law_address => k_is)
    (case c_law_address => k_is)
    (case k_law_address => k_is)
    (case a_law_said_number => k_is)
    (case l_law_said_number => k_is)
    (case c_law_said_number => k_is)
    (case k_law_said_number => k_is)
    (case a_law_said_address => k_is)
    (case l_law_said_address => k_is)
    (case c_law_said_address => k_is)
    (case k_law_said_address => k_is)
    (case a_law_sign => k_is)
    (case l_law_sign => k_is)
    (case c_law_sign => k_is)
    (case k_law_sign => k_is)
    (case a_law_odd_word => k_is)
    (case l_law_odd_word => k_is)
    (case c_law_odd_word => k_is)
    (case k_law_odd_word => k_is)
    (case a_law_bent_signs => k_is)
    (case l_law_bent_signs => k_is)
    (case c_law_bent_signs => k_is)
    (case k_law_bent_signs => k_is)
    (case a_law_bent_parts => k_is)
    (case l_law_bent_parts => k_is)
    (case c_law_bent_parts => k_is)
    (case k_law_bent_parts => k_is)
    (case a_law_integer_in => k_is)
    (case l_law_integer_in => k_is)
    (case c_law_integer_in => k_is)
    (case k_law_integer_in => k_is)
    (case a_law_number_in => k_is)
    (case l_law_number_in => k_is)
    (case c_law_number_in => k_is)
    (case k_law_number_in => k_is)
    (case a_law_numbers_in => k_is)
    (case l_law_numbers_in => k_is)
    (case c_law_numbers_in => k_is)
    (case k_law_numbers_in => k_is)
    (case a_law_address_in => k_is)
    (case l_law_address_in => k_is)
    (case c_law_address_in => k_is)
    (case k_law_address_in => k_is)
    (case a_law_due => k_is)
    (case l_law_due => k_is)
    (case c_law_due => k_is)
    (case k_law_due => k_is)
    (case a_law_read => k_is)
    (case l_law_read => k_is)
    (case c_law_read => k_is)
    (case k_law_read => k_is)
    (case a_law_told => k_is)
    (case l_law_told => k_is)
    (case c_law_told => k_is)
    (case k_law_told => k_is)
    (case a_law_text => k_is)
    (case l_law_text => k_is)
    (case c_law_text => k_is)
    (case k_law_text => k_is)
    (case a_law_bent => k_is)
    (case l_law_bent => k_is)
    (case c_law_bent => k_is)
    (case k_law_bent => k_is)
    (case a_law => k_is)
    (case l_law => k_is)
    (case c_law => k_is)
    (case k_law => k_is)
    (case z_isinstance => k_is)
    (case z_int => k_is)
    (case z_bool => k_is)
    (case z_tuple => k_is)
    (case z_len => k_is)
    (case z_gcd => k_is)
    (case z_str => k_is)
    (case z_all => k_is)
    (case z_max => k_is)
    (case z_abs => k_is)
    (case z_list => k_is)
    (case z_range => k_is)
    (case z_min => k_is)
    (case cMOST => k_is)
    (case n_KitError => k_is)
    (case n_Unreadable => k_is)
    (case ib => k_is)
    (case l_init => k_is)
    (case c_init => k_is)
    (case k_init => k_is)
    (case t_init => k_is)
    (case hB => first | kernel_rfl | decide +kernel)

