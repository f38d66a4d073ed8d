import PyProof.Rows.All
import Wide.All
import OpenK.AllK
import Wide.FinOn
import HandS.ForExc
import HandS.Comp
import HandS.Evl
import HandS.Wide
import HandS.WideBits
import HandS.Gcd
import HandS.IsInst
import HandS.RevRange
import HandS.Conv
import HandS.TupAny
import HandS.SetFor
import HandS.Flow
import HandS.ExcInit
import HandS.ExcValue
import HandS.ExcIs
import HandS.ExcField
import HandS.WordsExc
import KE.KExcIs
import PySem.Challenge.RW_selfkits_k00_errors
set_option Elab.async false
set_option linter.all false
set_option maxRecDepth 100000
set_option maxHeartbeats 2000000
namespace Sk
open PySem PySem.Spec PyProof.Rows L2
abbrev St := L2.St
open Evl (Ex ex_l ex_t)

/-! ### data in a heap that grows -/
mutual
theorem dp_ex {K : PySem.W.Frag} {H H' : Hp} (e : Ex H H') : ∀ (d : PyData) (v : V), Dp K H v d → Dp K H' v d
  | .none, _, h => by cases h; exact .non
  | .bool b, _, h => by cases h; exact .bl b
  | .int i, _, h => by cases h; exact .int i
  | .str x, _, h => by cases h; exact .str x
  | .list ds, _, h => by
    cases h with
    | lst hs ha => exact .lst (ex_l e hs) (dpa_ex e ds _ ha)
  | .tuple ds, _, h => by
    cases h with
    | tup hs ha => exact .tup (ex_t e hs) (dpa_ex e ds _ ha)
  | .dict _, _, h => by cases h
theorem dpa_ex {K : PySem.W.Frag} {H H' : Hp} (e : Ex H H') : ∀ (ds : List PyData) (vs : List V), DpAll K H vs ds → DpAll K H' vs ds
  | [], _, h => by cases h; exact .nil
  | d :: ds, _, h => by
    cases h with
    | cons h1 h2 => exact .cons (dp_ex e d _ h1) (dpa_ex e ds _ h2)
end
section
variable {K : PySem.W.Frag} {H H' : Hp} {v : V} {d : PyData} {ds : List PyData} {vs : List V} {p : Addr} {o : HO}
theorem Dp.up (e : Ex H H') (h : Dp K H v d) : Dp K H' v d := dp_ex e d v h
theorem DpAll.up (e : Ex H H') (h : DpAll K H vs ds) : DpAll K H' vs ds := dpa_ex e ds vs h
theorem at_up (e : Ex H H') (h : H p = some o) : H' p = some o := e p o h
theorem tup_inv (h : Dp K H v (.tuple ds)) : ∃ p xs, v = .ref p ∧ SqT K H p xs ∧ DpAll K H xs ds := by
  cases h with
  | tup hs ha => exact ⟨_, _, rfl, hs, ha⟩
theorem lst_inv (h : Dp K H v (.list ds)) : ∃ p xs, v = .ref p ∧ SqL K H p xs ∧ DpAll K H xs ds := by
  cases h with
  | lst hs ha => exact ⟨_, _, rfl, hs, ha⟩
theorem int_inv {i : Int} (h : Dp K H v (.int i)) : v = .int i := by cases h; rfl
theorem bl_inv {b : Bool} (h : Dp K H v (.bool b)) : v = .bl b := by cases h; rfl
theorem non_inv (h : Dp K H v .none) : v = .non := by cases h; rfl
theorem str_inv {x : Str} (h : Dp K H v (.str x)) : v = .str x := by cases h; rfl
theorem dpa_len : ∀ {vs : List V} {ds : List PyData}, DpAll K H vs ds → vs.length = ds.length
  | _, _, .nil => rfl
  | _, _, .cons _ t => by rw [List.length_cons, List.length_cons, dpa_len t]
theorem dpa_at : ∀ {vs : List V} {ds : List PyData} {i : Nat} {d : PyData}, DpAll K H vs ds → ds[i]? = some d → ∃ v, vs[i]? = some v ∧ Dp K H v d
  | _, _, _, _, .nil, h => by simp at h
  | _, _, 0, _, .cons r _, h => by simp at h; subst h; exact ⟨_, rfl, r⟩
  | _, _, i + 1, d, .cons _ t, h => by
    obtain ⟨v, h1, h2⟩ := dpa_at (i := i) (d := d) t (by simpa using h)
    exact ⟨v, by simpa using h1, h2⟩
theorem dpa_atI {i : Int} (h : DpAll K H vs ds) (e : atI ds i = some d) : ∃ v, atI vs i = some v ∧ Dp K H v d := by
  unfold atI at e ⊢
  rw [dpa_len h]
  cases q : ixN ds.length i with
  | none => rw [q] at e; cases e
  | some j =>
    rw [q] at e
    obtain ⟨v, h1, h2⟩ := dpa_at h (show ds[j]? = some d from e)
    exact ⟨v, h1, h2⟩
theorem dpa_ints : ∀ (ns : List Int), DpAll K H (ns.map V.int) (ns.map PyData.int)
  | [] => .nil
  | n :: ns => .cons (.int n) (dpa_ints ns)
end
/-- a tuple without a dict of its own -/
def Pl (K : PySem.W.Frag) (H : Hp) (a : Addr) : Prop := (∃ o u, H a = some (.frz o u) ∧ o.dict = none) ∨ (∃ o, K.lookup a = some o ∧ o.dict = none)
def TupAt (K : PySem.W.Frag) (H : Hp) (a : Addr) (xs : List V) : Prop := SqT K H a xs ∧ Pl K H a
theorem TupAt.up {K : PySem.W.Frag} {H H' : Hp} {a : Addr} {xs : List V} (e : Ex H H') (h : TupAt K H a xs) : TupAt K H' a xs := by
  obtain ⟨h1, h2⟩ := h
  refine ⟨ex_t e h1, ?_⟩
  rcases h2 with ⟨o, u, q, r⟩ | q
  · exact .inl ⟨o, u, e _ _ q, r⟩
  · exact .inr q
mutual
inductive Dq (K : PySem.W.Frag) (H : Hp) : V → PyData → Prop
  | non : Dq K H .non .none
  | bl (b : Bool) : Dq K H (.bl b) (.bool b)
  | int (i : Int) : Dq K H (.int i) (.int i)
  | str (x : Str) : Dq K H (.str x) (.str x)
  | lst {a : Addr} {xs : List V} {ds : List PyData} : SqL K H a xs → DqAll K H xs ds → Dq K H (.ref a) (.list ds)
  | tup {a : Addr} {xs : List V} {ds : List PyData} : TupAt K H a xs → DqAll K H xs ds → Dq K H (.ref a) (.tuple ds)
inductive DqAll (K : PySem.W.Frag) (H : Hp) : List V → List PyData → Prop
  | nil : DqAll K H [] []
  | cons {v : V} {vs : List V} {d : PyData} {ds : List PyData} : Dq K H v d → DqAll K H vs ds → DqAll K H (v :: vs) (d :: ds)
end
mutual
theorem dq_ex {K : PySem.W.Frag} {H H' : Hp} (e : Ex H H') : ∀ (d : PyData) (v : V), Dq K H v d → Dq K H' v d
  | .none, _, h => by cases h; exact .non
  | .bool b, _, h => by cases h; exact .bl b
  | .int i, _, h => by cases h; exact .int i
  | .str x, _, h => by cases h; exact .str x
  | .list ds, _, h => by
    cases h with
    | lst hs ha => exact .lst (ex_l e hs) (dqa_ex e ds _ ha)
  | .tuple ds, _, h => by
    cases h with
    | tup hs ha => exact .tup (hs.up e) (dqa_ex e ds _ ha)
  | .dict _, _, h => by cases h
theorem dqa_ex {K : PySem.W.Frag} {H H' : Hp} (e : Ex H H') : ∀ (ds : List PyData) (vs : List V), DqAll K H vs ds → DqAll K H' vs ds
  | [], _, h => by cases h; exact .nil
  | d :: ds, _, h => by
    cases h with
    | cons h1 h2 => exact .cons (dq_ex e d _ h1) (dqa_ex e ds _ h2)
end
mutual
theorem dq_dp {K : PySem.W.Frag} {H : Hp} : ∀ (d : PyData) (v : V), Dq K H v d → Dp K H v d
  | .none, _, h => by cases h; exact .non
  | .bool b, _, h => by cases h; exact .bl b
  | .int i, _, h => by cases h; exact .int i
  | .str x, _, h => by cases h; exact .str x
  | .list ds, _, h => by
    cases h with
    | lst hs ha => exact .lst hs (dqa_dpa ds _ ha)
  | .tuple ds, _, h => by
    cases h with
    | tup hs ha => exact .tup hs.1 (dqa_dpa ds _ ha)
  | .dict _, _, h => by cases h
theorem dqa_dpa {K : PySem.W.Frag} {H : Hp} : ∀ (ds : List PyData) (vs : List V), DqAll K H vs ds → DpAll K H vs ds
  | [], _, h => by cases h; exact .nil
  | d :: ds, _, h => by
    cases h with
    | cons h1 h2 => exact .cons (dq_dp d _ h1) (dqa_dpa ds _ h2)
end
section
variable {K : PySem.W.Frag} {H H' : Hp} {v : V} {d : PyData} {ds : List PyData} {vs : List V} {p : Addr} {o : HO}
theorem Dq.up (e : Ex H H') (h : Dq K H v d) : Dq K H' v d := dq_ex e d v h
theorem DqAll.up (e : Ex H H') (h : DqAll K H vs ds) : DqAll K H' vs ds := dqa_ex e ds vs h
theorem Dq.dp (h : Dq K H v d) : Dp K H v d := dq_dp d v h
theorem DqAll.dp (h : DqAll K H vs ds) : DpAll K H vs ds := dqa_dpa ds vs h
theorem qtup_inv (h : Dq K H v (.tuple ds)) : ∃ p xs, v = .ref p ∧ TupAt K H p xs ∧ DqAll K H xs ds := by
  cases h with
  | tup hs ha => exact ⟨_, _, rfl, hs, ha⟩
theorem qlst_inv (h : Dq K H v (.list ds)) : ∃ p xs, v = .ref p ∧ SqL K H p xs ∧ DqAll K H xs ds := by
  cases h with
  | lst hs ha => exact ⟨_, _, rfl, hs, ha⟩
theorem qint_inv {i : Int} (h : Dq K H v (.int i)) : v = .int i := int_inv h.dp
theorem qbl_inv {b : Bool} (h : Dq K H v (.bool b)) : v = .bl b := bl_inv h.dp
theorem dqa_at : ∀ {vs : List V} {ds : List PyData} {i : Nat} {d : PyData}, DqAll K H vs ds → ds[i]? = some d → ∃ v, vs[i]? = some v ∧ Dq K H v d
  | _, _, _, _, .nil, h => by simp at h
  | _, _, 0, _, .cons r _, h => by simp at h; subst h; exact ⟨_, rfl, r⟩
  | _, _, i + 1, d, .cons _ t, h => by
    obtain ⟨v, h1, h2⟩ := dqa_at (i := i) (d := d) t (by simpa using h)
    exact ⟨v, by simpa using h1, h2⟩
theorem dqa_atI {i : Int} (h : DqAll K H vs ds) (e : atI ds i = some d) : ∃ v, atI vs i = some v ∧ Dq K H v d := by
  unfold atI at e ⊢
  rw [dpa_len h.dp]
  cases q : ixN ds.length i with
  | none => rw [q] at e; cases e
  | some j =>
    rw [q] at e
    obtain ⟨v, h1, h2⟩ := dqa_at h (show ds[j]? = some d from e)
    exact ⟨v, h1, h2⟩
theorem dqa_ints : ∀ (ns : List Int), DqAll K H (ns.map V.int) (ns.map PyData.int)
  | [] => .nil
  | n :: ns => .cons (.int n) (dqa_ints ns)
end
def pr (a b : Int) : PyData := .tuple [.int a, .int b]
def tb (a b c d : Int) : PyData := .tuple [.tuple [.int a, .int b], .tuple [.int c, .int d]]

/-! ### the deck: a list of two ints that draws change -/
def DeckH (a : Addr) (h : Heap) : Prop := ∃ (x s : Int) (t u : Tok) (n : Nat), h.get? a = some { cls := .type "list", data := .seq #[.int x t, .int s u] n } ∧ 0 ≤ s ∧ s < 2 ^ 64
def DeckO (a : Addr) : HO := .ext (DeckH a)
def DeckAt (H : Hp) (a : Addr) : Prop := H a = some (DeckO a)
section
variable {P : Program} {w : World} {K : PySem.W.Frag} {mg : Str → Option Value} {base : Heap} {k : Nat} {f : Addr} {fd : FuncData} {ps : List Str}
theorem deck_ok {H : Hp} {h : Heap} {a : Addr} {xs : List V} {x s : Int} (e : xs = [.int x, .int s]) (hk : ObjOk P w H h a (.lst xs)) (h0 : 0 ≤ s) (h1 : s < 2 ^ 64) {H' : Hp} : ObjOk P w H' h a (DeckO a) := by
  subst e
  obtain ⟨_, its, n, r, g⟩ := hk
  cases r with
  | cons r1 r2 =>
    obtain ⟨t, rfl⟩ := r1
    cases r2 with
    | cons r3 r4 =>
      obtain ⟨u, rfl⟩ := r3
      cases r4
      exact ⟨⟨x, s, t, u, n, g, h0, h1⟩, ⟨_, g⟩, fun g1 g2 ⟨x', s', t', u', n', e1, b0, b1⟩ q => ⟨x', s', t', u', n', q _ e1, b0, b1⟩⟩
theorem deck_lst {H : Hp} {h : Heap} {a : Addr} (hk : ObjOk P w H h a (DeckO a)) : ∃ x s : Int, 0 ≤ s ∧ s < 2 ^ 64 ∧ ∀ H', ObjOk P w H' h a (.lst [.int x, .int s]) := by
  obtain ⟨⟨x, s, t, u, n, g, h0, h1⟩, _, _⟩ := hk
  exact ⟨x, s, h0, h1, fun H' => ⟨by show 2 ≤ sizeLine; decide, _, n, .cons ⟨t, rfl⟩ (.cons ⟨u, rfl⟩ .nil), g⟩⟩
theorem hok_swap {H : Hp} {h : Heap} {a : Addr} {o o' : HO} (hk : HOk P w H h) (ha : H a = some o) (d1 : ∀ b, o ≠ .own b) (d2 : ∀ xs, o ≠ .tup xs) (n : ObjOk P w (upd H a o') h a o') : HOk P w (upd H a o') h := fun b u e => by
  by_cases hb : b = a
  · subst hb
    rw [upd_same] at e
    cases e
    exact n
  · rw [upd_ne hb] at e
    refine (hk b u e).stay (fun c v _ q => q) (fun c q => ?_) fun c xs q => ?_
    · rw [upd_ne]
      · exact q
      · rintro rfl
        rw [ha] at q
        cases q
        exact d1 _ rfl
    · rw [upd_ne]
      · exact q
      · rintro rfl
        rw [ha] at q
        cases q
        exact d2 _ rfl
/-- a def that is handed a deck, over the two ints in it -/
theorem deck_in {sp spL : Sp} (F : FnOk P w K mg base CX0 k f fd ps spL)
    (h : ∀ vs H Q E, sp vs H Q E → ∃ a, DeckAt H a ∧ ∀ x s : Int, 0 ≤ s → s < 2 ^ 64 →
      spL vs (upd H a (.lst [.int x, .int s])) (fun v H' => ∃ x' s' : Int, H' a = some (.lst [.int x', .int s']) ∧ 0 ≤ s' ∧ s' < 2 ^ 64 ∧ Q v (upd H' a (DeckO a))) E) : FnOk P w K mg base CX0 k f fd ps sp := by
  refine ⟨fun vs H Q E q => ?_, fun A outer s H args us vs Q E hr e0 hb r hs => ?_⟩
  · obtain ⟨a, _, g⟩ := h vs H Q E q
    exact F.len _ _ _ _ (g 0 0 (by decide) (by decide))
  · obtain ⟨a, ha, g⟩ := h vs H Q E hs
    have ha' : H a = some (DeckO a) := ha
    obtain ⟨x, z, h0, h1, ho⟩ := deck_lst (e0.hok a _ ha')
    have hn : ∀ b, H b = none → b ≠ a := fun b e z => by subst z; rw [ha'] at e; cases e
    have e1 : Env0 P w K mg base A outer s (upd H a (.lst [.int x, .int z])) := by
      refine ⟨e0.frames, e0.mod, fun b o e => ⟨(e0.bs b o e).1, ?_⟩, e0.bsz, e0.funs, fun b e => ?_, hok_swap e0.hok ha' (fun _ q => HO.noConfusion q) (fun _ q => HO.noConfusion q) (ho _), e0.bare⟩
      · rw [upd_ne (hn b (e0.bs b o e).2)]; exact (e0.bs b o e).2
      · rw [upd_ne (hn b (e0.frf b e))]; exact e0.frf b e
    refine codeAny_mono (F.run A outer s _ args us vs _ E hr e1 hb r (g x z h0 h1)) fun r s' hq => ?_
    cases r with
    | error e => exact hq
    | ok fl =>
      cases fl with
      | next => exact hq
      | brk => exact hq
      | cont => exact hq
      | ret u =>
        obtain ⟨v, H', os, bare, un, hok, rv, x', z', hl, b0, b1, q⟩ := hq
        refine ⟨v, upd H' a (DeckO a), os, bare, ⟨fun b o e n hf hx => ?_, fun b o e n hf hx => ?_, fun b o e n hx => ?_, un.there, fun b xs e => ?_, fun b o u e => ?_, fun b ps e => ?_⟩, hok_swap hok hl (fun _ q => HO.noConfusion q) (fun _ q => HO.noConfusion q) (deck_ok rfl (hok a _ hl) b0 b1), rv, q⟩
        · exact un.keep b o e (by rw [upd_ne (hn b n)]; exact n) hf hx
        · exact un.slot b o e (by rw [upd_ne (hn b n)]; exact n) hf hx
        · rw [upd_ne (hn b n)]; exact un.free b o e (by rw [upd_ne (hn b n)]; exact n) hx
        · have ne : b ≠ a := fun z => by subst z; rw [ha'] at e; cases e
          rw [upd_ne ne]; exact un.tups b xs (by rw [upd_ne ne]; exact e)
        · have ne : b ≠ a := fun z => by subst z; rw [ha'] at e; cases e
          rw [upd_ne ne]; exact un.frzs b o u (by rw [upd_ne ne]; exact e)
        · have ne : b ≠ a := fun z => by subst z; rw [ha'] at e; cases e
          obtain ⟨m, q2⟩ := un.tbls b ps (by rw [upd_ne ne]; exact e)
          exact ⟨m, by rw [upd_ne ne]; exact q2⟩
/-- a def that makes a deck -/
theorem deck_out {sp spL : Sp} (F : FnOk P w K mg base CX0 k f fd ps spL)
    (h : ∀ vs H Q E, sp vs H Q E → spL vs H (fun v H' => ∃ (a : Addr) (x s : Int), v = .ref a ∧ H a = none ∧ H' a = some (.lst [.int x, .int s]) ∧ 0 ≤ s ∧ s < 2 ^ 64 ∧ Q v (upd H' a (DeckO a))) E) : FnOk P w K mg base CX0 k f fd ps sp := by
  refine ⟨fun vs H Q E q => F.len _ _ _ _ (h vs H Q E q), fun A outer s H args us vs Q E hr e0 hb r hs => ?_⟩
  refine codeAny_mono (F.run A outer s _ args us vs _ E hr e0 hb r (h vs H Q E hs)) fun r s' hq => ?_
  cases r with
  | error e => exact hq
  | ok fl =>
    cases fl with
    | next => exact hq
    | brk => exact hq
    | cont => exact hq
    | ret u =>
      obtain ⟨v, H', os, bare, un, hok, rv, a, x', z', ev, hn, hl, b0, b1, q⟩ := hq
      refine ⟨v, upd H' a (DeckO a), os, bare, ⟨un.keep, un.slot, fun b o e n hx => ?_, un.there, fun b xs e => ?_, fun b o u e => ?_, fun b ps e => ?_⟩, hok_swap hok hl (fun _ q => HO.noConfusion q) (fun _ q => HO.noConfusion q) (deck_ok rfl (hok a _ hl) b0 b1), rv, q⟩
      · have q1 := un.free b o e n hx
        rw [upd_ne (fun z => by subst z; rw [hl] at q1; cases q1)]; exact q1
      · rw [upd_ne (ne_of_none e hn)]; exact un.tups b xs e
      · rw [upd_ne (ne_of_none e hn)]; exact un.frzs b o u e
      · rw [upd_ne (ne_of_none e hn)]; exact un.tbls b ps e
end

/-! ### rules that the layer lacks -/
section
variable {X : Cx}
theorem OpR.or {f : Value → Value → Sem Value} {r r' : R2} (h : OpR X f r) (h' : OpR X f r') : OpR X f (fun x y H Q => r x y H Q ∨ r' x y H Q) := fun pins s σ H x y v u Q I rx ry q => by
  rcases q with q | q
  · exact h pins s σ H x y v u Q I rx ry q
  · exact h' pins s σ H x y v u Q I rx ry q
/-- + of ints, lists, tuples -/
def rAddU (K : PySem.W.Frag) : R2 := fun x y H Q => rI0 (fun i j => .int (i + j)) x y H Q ∨ (rCat x y H Q ∨ rCatA K x y H Q)
theorem op_addU : OpR X (binaryOp .Add) (rAddU X.K) := OpR.or op_add (OpR.or op_cat op_catA)
def rMulU : R2 := fun x y H Q => rI CMulX (fun i j => .int (i * j)) x y H Q ∨ rRep x y H Q
theorem op_mulU : OpR X (binaryOp .Mult) rMulU := OpR.or op_mulX op_rep
def CDivZ (_ j : Int) : Prop := j ≠ 0 ∧ j.natAbs.log2 < 9000
theorem op_fdivZ : OpR X (binaryOp .FloorDiv) (rI CDivZ fun i j => .int (i.fdiv j)) := opI fun i j _ _ _ _ _ hc q => floordiv_int hc.1 q (.inl (PyProof.noPylong_of_log2 hc.2))
def rEqU (K : PySem.W.Frag) : R2 := fun x y H Q => rEq x y H Q ∨ rEqD K x y H Q
theorem op_eqU (hu : X.A.units + 64 < cLine) : OpR X (compareOp .Eq) (rEqU X.K) := OpR.or op_eq (op_eqD hu)
def rNeU (K : PySem.W.Frag) : R2 := fun x y H Q => rNe x y H Q ∨ rNeD K x y H Q
theorem op_neU (hu : X.A.units + 64 < cLine) : OpR X (compareOp .NotEq) (rNeU X.K) := OpR.or op_ne (op_neD hu)
/-- int(n) of an int -/
def rInt : List V → Hp → VK → Prop := fun xs H Q => ∃ i, xs = [.int i] ∧ Q (.int i) H
theorem call_intU : CallR X (.type "int") rInt := by
  intro pins s σ H vs us Q I r h
  obtain ⟨i, rfl, q⟩ := h
  obtain ⟨u, rfl, rx⟩ := vals1 r
  obtain ⟨t, rfl⟩ := rx
  exact call_int_int ⟨.int i, H, I, ⟨t, rfl⟩, q⟩
/-- slices of tuples, of lists -/
def rSlU (K : PySem.W.Frag) : V → Option Int → Option Int → Hp → VK → Prop := fun x lo hi H Q => rSlA K x lo hi H Q ∨ rSlL K x lo hi H Q
theorem sl_U : SlR X (rSlU X.K) := SlR.or sl_tupA sl_list

/-- a display: the tuple's object is known to have no dict -/
def tTupF (_ : PySem.W.Frag) (t : TA) : TE := fun σ H Q => t σ H fun xs H1 => xs.length ≤ sizeLine ∧ ∀ (p : Addr) (o : Obj), H1 p = none → o.dict = none → Q (.ref p) (upd H1 p (.frz o (.tup xs)))
theorem pe_tupF {es : List Expr} {t : TA} {x1} {pos : Pos} (h : PA X es t) : PE X (.Tuple es x1 pos) (tTupF X.K t) := by
  refine ⟨fun pins s σ H Q I hq => ?_⟩
  refine wpAny_Tuple_spliced (thn (h.run pos pins s σ H _ I hq) fun us s1 ⟨xs, H1, I1, r, z, q⟩ => ⟨by rw [← r.length]; exact z, ?_⟩)
  have hf : H1 s1.heap.objs.size = none := I1.hok.fresh (Nat.le_refl _)
  refine ⟨.ref s1.heap.objs.size, upd H1 s1.heap.objs.size (.frz { cls := .type "tuple", data := .seq us.toArray } (.tup xs)), I1.laid (t' := s1.toks) (fun b u e => Heap.get?_push_of_some _ e) (Nat.le_refl _) ?_, rfl, q _ _ hf rfl⟩
  exact ⟨Heap.get?_push_size _ rfl, z, us, r, ⟨_, Heap.get?_push_size _ rfl, rfl, _, rfl⟩⟩
def tLstU (_ : PySem.W.Frag) (t : TA) : TE := tLst t
theorem pe_lstU {es : List Expr} {t : TA} {pos : Pos} (h : PA X es t) : PE X (.List es pos) (tLstU X.K t) := pe_lst h
/-- tuple(x) of a list -/
def kTupF (K : PySem.W.Frag) (x : V) (H : Hp) (Q : VK) : Prop := ∃ p xs, x = .ref p ∧ SqL K H p xs ∧ ∀ (q : Addr) (o : Obj), H q = none → o.dict = none → Q (.ref q) (upd H q (.frz o (.tup xs)))
theorem pe_tupleF {a : Expr} {ta : TE} {p pos : Pos} (hg : Gl X "tuple") (hm : X.mg "tuple" = none) (ha : PE X a ta) (na : starEach [a] X.env = (false, eval a X.env) :: starEach [] X.env := by rfl) :
    PE X (.Call (.Name "tuple" p) [a] [] pos) (tThen ta (kTupF X.K)) := by
  refine ⟨fun pins s σ H Q I h => ?_⟩
  refine Call_ (ld_blt I hg hm boot_tuple (PyProof.Rows.callWith_type1 (one_arg ha I h (fun v s2 x H2 I2 r q => ?_) na) na))
  obtain ⟨p, xs, rfl, hs, q⟩ := q
  obtain rfl : v = .ref p := r
  obtain ⟨its, rv, pl, hz⟩ := I2.list hs
  refine call_tuple_list pl.isList (fun h' hk => ?_) (by rw [List.size_toArray, ← rv.length]; exact hz)
  have I3 : Inv X pins σ H2 { s2 with heap := h' } := I2.kept (t' := s2.toks) hk
  have I4 : Inv X pins σ (upd H2 h'.objs.size (.frz { cls := .type "tuple", data := .seq its.toArray } (.tup xs))) { s2 with heap := h'.push { cls := .type "tuple", data := .seq its.toArray } } :=
    I3.laid (t' := s2.toks) (fun b o e => Heap.get?_push_of_some _ e) (Nat.le_refl _) ⟨Heap.get?_push_size _ rfl, hz, its, rv, IsTup.new _ _⟩
  exact ⟨.ref h'.objs.size, _, I4, rfl, q _ _ (I3.hok.fresh (Nat.le_refl _)) rfl⟩
/-- t.count(k), t a tuple of ints -/
def tCnt (K : PySem.W.Frag) (to : TE) (t : TA) : TE := fun σ H Q => to σ H fun x H1 => ∃ (p : Addr) (ns : List Int), x = .ref p ∧ TupAt K H1 p (ns.map V.int) ∧ t σ H1 fun xs H2 => ∃ k, xs = [.int k] ∧ TupAt K H2 p (ns.map V.int) ∧ Q (.int (ns.count k : Nat)) H2
theorem inv_pl {pins : List (Addr × Obj)} {σ : L2.St} {H : Hp} {s : Shared} {a : Addr} (I : L2.Inv X pins σ H s) (h : Pl X.K H a) : ∃ o, s.heap.get? a = some o ∧ o.dict = none := by
  rcases h with ⟨o, u, e, d⟩ | ⟨o, e, d⟩
  · exact ⟨o, (I.hok _ _ e).1, d⟩
  · exact ⟨o, I.kIn _ o e, d⟩
theorem mt_tcount {pins : List (Addr × Obj)} {σ : L2.St} {H : Hp} {s : Shared} {p : Addr} {ns : List Int} {k : Int} {u : Value} {Q : VK} (I : Inv X pins σ H s) (hs : SqT X.K H p (ns.map V.int)) (ru : RelV (.int k) u) (q : Q (.int (ns.count k : Nat)) H) :
    wpAny (model X.prog X.w) X.A (call (.builtin "tuple.count") [.ref p, u]) (EP X pins σ Q) X.xe s := by
  obtain ⟨t, rfl⟩ := ru
  obtain ⟨its, rv, ⟨⟨cls, dd, data, sl⟩, ho, hc, n, hd⟩, hlen⟩ := I.tuple hs
  simp only at hc hd
  subst hc hd
  have hi := ints_of_vals rv
  refine call_meets PySem.F.slot_tuple_count ⟨_, ho, rfl⟩ PySem.F.entry_tuple_count (PySem.F.args_tuple_count_2 _ _)
    (SeqAt.tuple_countAt p its.toArray n dd sl (.int k t) (eqk k)) ⟨ho, fun y hy => (eqk_gives hi y (by simpa using hy)).at _ _, ?_⟩
  have ec : its.toArray.toList.countP (eqk k) = ns.count k := eqk_count hi
  refine ⟨.int (ns.count k : Nat), H, I.tok _, ⟨s.toks, ?_⟩, q⟩
  show Value.int ((its.toArray.toList.countP (eqk k) : Nat) : Int) s.toks = Value.int ((ns.count k : Nat) : Int) s.toks
  rw [ec]
theorem pe_tcount {o e : Expr} {to : TE} {t : TA} {apos cpos : Pos} (ho : PE X o to) (ha : PA X [e] t)
    (hbase : attributeBase o "count" X.env (eval o X.env) = eval o X.env := by rfl)
    (hfew : ((backTo cpos (starEach [e] X.env)).all (fun x => !x.1) && (backToKw cpos (keywordEach [] X.env)).all (fun x => x.1.isSome)
      && decide ([e].length + ([] : List Keyword).length + (if ([] : List Keyword).isEmpty then 0 else 1) < 30)) = true := by rfl)
    (hline : (apos.endLine == cpos.line) = true := by rfl) (hs : starEach [e] X.env = (false, eval e X.env) :: starEach [] X.env := by rfl) (hplain : (backTo cpos (starEach [] X.env)).any (·.1) = false := by rfl) :
    PE X (.Call (.Attribute o "count" apos) [e] [] cpos) (tCnt X.K to t) := by
  refine ⟨fun pins s σ H Q I h => ?_⟩
  refine wpAny_Call_method_late hbase hfew hline rfl (thn (ho.run pins s σ H _ I h) fun v s1 ⟨x, H1, I1, r1, p, ns, ex, hp, q1⟩ => ?_)
  subst ex
  obtain rfl : v = .ref p := r1
  obtain ⟨its, rv, ht, hlen⟩ := I1.tuple hp.1
  refine ⟨"tuple", "tuple.count", PySem.F.plainAttrs_tuple, PySem.F.slot_tuple_count, PySem.F.type_tuple_count, ht.typeIs, fun a e => ?_, ?_⟩
  · cases e
    exact inv_pl I1 hp.2
  have hA := ha.run cpos pins s1 σ H1 _ I1 q1
  rw [hs] at hA ⊢
  refine Calls.callWith_builtin (by show (false || (backTo cpos (starEach [] X.env)).any (·.1)) = false; rw [hplain] <;> rfl) (Calls.evalArgs_plain ?_)
  refine thn hA fun us s2 ⟨vs, H2, I2, r2, k, ev, hp2, q2⟩ => ?_
  subst ev
  obtain ⟨u, rfl, ru⟩ := vals1 r2
  exact mt_tcount I2 hp2.1 ru q2

def rLenU (K : PySem.W.Frag) : List V → Hp → VK → Prop := fun xs H Q => ∃ p ys, xs = [.ref p] ∧ (SqL K H p ys ∨ SqT K H p ys) ∧ Q (.int ys.length) H
theorem call_lenU : CallR X (.builtin "len") (rLenU X.K) := call_len_seq
def rAbsU : List V → Hp → VK → Prop := fun xs H Q => ∃ i, xs = [.int i] ∧ Q (.int (if i < 0 then -i else i)) H
theorem call_absU : CallR X (.builtin "abs") rAbsU := call_abs
def rMaxU : List V → Hp → VK → Prop := fun xs H Q => ∃ i j, xs = [.int i, .int j] ∧ Q (.int (if j > i then j else i)) H
theorem call_maxU (hc : X.calm = true) : CallR X (.builtin "max") rMaxU := call_max2 hc
def rMinU : List V → Hp → VK → Prop := fun xs H Q => ∃ i j, xs = [.int i, .int j] ∧ Q (.int (if j < i then j else i)) H
theorem call_minU (hc : X.calm = true) : CallR X (.builtin "min") rMinU := call_min2 hc
def rIsNU : R2 := fun x y H Q => y = .non ∧ Q (.bl (decide (x = .non))) H
theorem op_isNU : OpR X (compareOp .Is) rIsNU := op_isN
def rNotNU : R2 := fun x y H Q => y = .non ∧ Q (.bl (!decide (x = .non))) H
theorem op_notNU : OpR X (compareOp .IsNot) rNotNU := op_notN
def rShrU : R2 := fun x y H Q => ∃ (i : Int) (k : Nat), x = .int i ∧ y = .int (k : Int) ∧ Q (.int (i / 2 ^ k)) H
theorem op_shrU : OpR X (binaryOp .RShift) rShrU := op_shrN
def rOddU : R2 := fun x y H Q => ∃ n : Nat, x = .int (n : Int) ∧ y = .int 1 ∧ Q (.int ((n % 2 : Nat) : Int)) H
theorem op_oddU : OpR X (binaryOp .BitAnd) rOddU := op_odd

/-! the same, the written part told -/
theorem ix_seqK (K : PySem.W.Frag) (h : X.K = K) : IxR X (rIx K) := by subst h; exact ix_seq
theorem op_addK (K : PySem.W.Frag) (h : X.K = K) : OpR X (binaryOp .Add) (rAddU K) := by subst h; exact op_addU
theorem op_eqK (K : PySem.W.Frag) (h : X.K = K) (hu : X.A.units + 64 < cLine) : OpR X (compareOp .Eq) (rEqU K) := by subst h; exact op_eqU hu
theorem op_neK (K : PySem.W.Frag) (h : X.K = K) (hu : X.A.units + 64 < cLine) : OpR X (compareOp .NotEq) (rNeU K) := by subst h; exact op_neU hu
theorem sl_K (K : PySem.W.Frag) (h : X.K = K) : SlR X (rSlU K) := by subst h; exact sl_U
theorem call_lenK (K : PySem.W.Frag) (h : X.K = K) : CallR X (.builtin "len") (rLenU K) := by subst h; exact call_lenU
theorem call_isiK1 (K : PySem.W.Frag) (h : X.K = K) : CallR X (.builtin "isinstance") (rIsi K) := by subst h; exact call_isi
theorem call_isiTK (K : PySem.W.Frag) (h : X.K = K) : CallR X (.builtin "isinstance") (rIsiT K) := by subst h; exact call_isiT
theorem pe_tupK (K : PySem.W.Frag) (hK : X.K = K) {es : List Expr} {t : TA} {x1} {pos : Pos} (h : PA X es t) : PE X (.Tuple es x1 pos) (tTupF K t) := by subst hK; exact pe_tupF h
theorem pe_lstK (K : PySem.W.Frag) (hK : X.K = K) {es : List Expr} {t : TA} {pos : Pos} (h : PA X es t) : PE X (.List es pos) (tLstU K t) := by subst hK; exact pe_lstU h
theorem pe_tupleK (K : PySem.W.Frag) (hK : X.K = K) {a : Expr} {ta : TE} {p pos : Pos} (hg : Gl X "tuple") (hm : X.mg "tuple" = none) (ha : PE X a ta) (na : starEach [a] X.env = (false, eval a X.env) :: starEach [] X.env := by rfl) :
    PE X (.Call (.Name "tuple" p) [a] [] pos) (tThen ta (kTupF K)) := by subst hK; exact pe_tupleF hg hm ha na
theorem pe_tcountK (K : PySem.W.Frag) (hK : X.K = K) {o e : Expr} {to : TE} {t : TA} {apos cpos : Pos} (ho : PE X o to) (ha : PA X [e] t)
    (hbase : attributeBase o "count" X.env (eval o X.env) = eval o X.env := by rfl)
    (hfew : ((backTo cpos (starEach [e] X.env)).all (fun x => !x.1) && (backToKw cpos (keywordEach [] X.env)).all (fun x => x.1.isSome)
      && decide ([e].length + ([] : List Keyword).length + (if ([] : List Keyword).isEmpty then 0 else 1) < 30)) = true := by rfl)
    (hline : (apos.endLine == cpos.line) = true := by rfl) (hs : starEach [e] X.env = (false, eval e X.env) :: starEach [] X.env := by rfl) (hplain : (backTo cpos (starEach [] X.env)).any (·.1) = false := by rfl) :
    PE X (.Call (.Attribute o "count" apos) [e] [] cpos) (tCnt K to t) := by subst hK; exact pe_tcount ho ha hbase hfew hline hs hplain
theorem pi_tupK (K : PySem.W.Frag) (hK : X.K = K) {tg l : Expr} {tl : TE} (hl : PE X l tl) : PI X tg l (iTup K tl) := by subst hK; exact pi_tup hl
theorem pi_listK (K : PySem.W.Frag) (hK : X.K = K) {tg l : Expr} {tl : TE} (hl : PE X l tl) : PI X tg l (iList K tl) := by subst hK; exact pi_list hl
theorem pg_tupK (K : PySem.W.Frag) (hK : X.K = K) {es : List Expr} {k : Nat} {pos : Pos} {t : TGs} {n : Nat} (hc : X.calm = true) (h : PGs X es t)
    (hn : (assignEach es X.env).length = n := by rfl) (hst : (assignEach es X.env).findIdx? (·.1) = none := by rfl) : PG X (.Tuple es k pos) (gTup K n t) := by subst hK; exact pg_tup hc h hn hst
end
end Sk

set_option maxHeartbeats 2000000
namespace Sk
open PySem PySem.Spec PyProof.Rows L2
open Evl (Ex ex_l ex_t)

/-! ### calls of the text's own defs -/
/-- the def x is there and keeps its promise -/
structure Cal (P : Program) (w : World) (K : PySem.W.Frag) (mg : Str → Option Value) (base : Heap) (k : Nat) (x : Str) (ps : List Str) (sp : Sp) : Prop where
  ex : ∃ (f : Addr) (fd : FuncData), FnOk P w K mg base CX0 k f fd ps sp ∧ mg x = some (.ref f) ∧ PySem.W.keepIn K (.ref f) = true ∧ Binds K fd ps []
/-- .. with the keywords ks, which g puts into the parameters' order -/
structure CalK (P : Program) (w : World) (K : PySem.W.Frag) (mg : Str → Option Value) (base : Heap) (k : Nat) (x : Str) (ps ks : List Str) (gV : List V → List V) (sp : Sp) : Prop where
  ex : ∃ (f : Addr) (fd : FuncData) (g : List Value → List Value), FnOk P w K mg base CX0 k f fd ps sp ∧ mg x = some (.ref f) ∧ PySem.W.keepIn K (.ref f) = true ∧
    (∀ (s : Shared) (ws : List Value), ws.length = ks.length → BindsTo s fd ⟨[], ks.zip ws⟩ (ps.zip (g ws))) ∧ (∀ (zs : List V) (ws : List Value), zs.length = ks.length → Vals zs ws → Vals (gV zs) (g ws))
def noX : XK := fun _ _ _ => False
def tCallD (sp : Sp) (t : TA) : TE := fun σ H Q => t σ H fun vs H1 => sp vs H1 Q noX
def tCallW (sp : Sp) (n : Nat) (gV : List V → List V) (t : TA) : TE := fun σ H Q => t σ H fun zs H1 => zs.length = n ∧ sp (gV zs) H1 Q noX
section
variable {X : Cx} {k j : Nat} {x : Str} {ps ks : List Str} {gV : List V → List V} {sp : Sp} {p pos : Pos} {e : Expr} {es : List Expr} {kws : List Keyword} {t tk : TA}
theorem pe_callD (C : Cal X.prog X.w X.K X.mg X.base j x ps sp) (hr : Room k X.A) (hjk : j ≤ k) (ha : PA X (e :: es) t) (hg : Gl X x := by rfl)
    (hdb : (x == ("__debug__" : Str)) = false := by decide) (he : starEach (e :: es) X.env = (false, eval e X.env) :: starEach es X.env := by rfl) (hpl : (backTo pos (starEach es X.env)).any (·.1) = false := by rfl) :
    PE X (.Call (.Name x p) (e :: es) [] pos) (tCallD sp t) := by
  obtain ⟨f, fd, F, hm, hk, hb⟩ := C.ex
  have h := pe_call (p := p) (E := noX) F (hr.mono hjk) hg hm hk hb .nil L2.pass0 ha hdb he hpl
  refine ⟨fun pins s σ H Q I q => h.run pins s σ H Q I ?_⟩
  have e2 : (fun (vs : List V) (H1 : Hp) => sp (vs ++ []) H1 Q noX) = fun vs H1 => sp vs H1 Q noX := by funext vs H1; rw [List.append_nil]
  show t σ H fun vs H1 => sp (vs ++ []) H1 Q noX
  rw [e2]
  exact q
theorem pe_callW (C : CalK X.prog X.w X.K X.mg X.base j x ps ks gV sp) (hr : Room k X.A) (hjk : j ≤ k) (hkw : PK X kws tk) (hg : Gl X x := by rfl)
    (hall : (backToKw pos (keywordEach kws X.env)).all (·.1.isSome) = true := by rfl) (hks : (backToKw pos (keywordEach kws X.env)).filterMap (·.1) = ks := by rfl)
    (hdb : (x == ("__debug__" : Str)) = false := by decide)
    (hpl : ((backTo pos (starEach [] X.env)).any (·.1) || (backToKw pos (keywordEach kws X.env)).any (·.1.isNone)) = false := by rfl) :
    PE X (.Call (.Name x p) [] kws pos) (tCallW sp ks.length gV tk) := by
  obtain ⟨f, fd, g, F, hm, hk, hb, hv⟩ := C.ex
  refine ⟨fun pins s σ H Q I h => ?_⟩
  refine wpAny_Call_Name_kw (ld_glob I hg hm ?_ hdb)
  refine PySem.W.callWith_KW0 (h₀ := X.base) I.ok.mod.kin hk hall (thn (hkw.run pos pins s σ H _ I h) fun ws s2 ⟨zs, H2, I2, rz, hn, q2⟩ => ⟨I2.kIn, ?_⟩) hpl
  rw [hks]
  have r2 := hv zs ws hn rz
  have hl : ws.length = ks.length := by rw [← rz.length]; exact hn
  refine wpAny_call (codeAny_mono (F.run X.A X.stack s2 H2 ⟨[], ks.zip ws⟩ (g ws) (gV zs) Q noX (hr.mono hjk) I2.env0 (hb s2 ws hl) r2 q2) fun r s' hq => ?_)
  cases r with
  | error e => exact hq.elim
  | ok fl =>
    cases fl with
    | ret u => exact I2.after hq
    | next => exact False.elim hq
    | brk => exact False.elim hq
    | cont => exact False.elim hq
end

/-! ### promises -/
section
variable {ι : Type} {K : PySem.W.Frag}
/-- data in, data out -/
def spF (K : PySem.W.Frag) (args : ι → List PyData) (cond : ι → Prop) (res : ι → PyData) : Sp := fun vs H Q _ => ∃ i, DqAll K H vs (args i) ∧ cond i ∧ ∀ v H', Ex H H' → Dq K H' v (res i) → Q v H'
/-- the same; of the data in it is not known that tuples have no dict -/
def spP (K : PySem.W.Frag) (args : ι → List PyData) (cond : ι → Prop) (res : ι → PyData) : Sp := fun vs H Q _ => ∃ i, DpAll K H vs (args i) ∧ cond i ∧ ∀ v H', Ex H H' → Dq K H' v (res i) → Q v H'
/-- a deck first; what comes is one of the good -/
def spK (K : PySem.W.Frag) (args : ι → List PyData) (cond : ι → Prop) (good : ι → PyData → Prop) : Sp := fun vs H Q _ => ∃ i a vs', vs = .ref a :: vs' ∧ DeckAt H a ∧ DqAll K H vs' (args i) ∧ cond i ∧ ∀ d v H', Ex H H' → good i d → Dq K H' v d → Q v H'
def spKp (K : PySem.W.Frag) (args : ι → List PyData) (cond : ι → Prop) (good : ι → PyData → Prop) : Sp := fun vs H Q _ => ∃ i a vs', vs = .ref a :: vs' ∧ DeckAt H a ∧ DqAll K H vs' (args i) ∧ cond i ∧ ∀ d v H', Ex H H' → good i d → Dp K H' v d → Q v H'
variable {args : ι → List PyData} {cond : ι → Prop} {res : ι → PyData} {good : ι → PyData → Prop} {vs : List V} {H : Hp} {Q : VK} {E : XK} {a : Addr}
theorem w_spF (i : ι) (h : DqAll K H vs (args i)) (c : cond i) (k : ∀ v H', Ex H H' → Dq K H' v (res i) → Q v H') : spF K args cond res vs H Q E := ⟨i, h, c, k⟩
theorem w_spFi (i : ι) {n : Int} (h : DqAll K H vs (args i)) (e : res i = .int n) (c : cond i) (k : ∀ H', Ex H H' → Q (.int n) H') : spF K args cond res vs H Q E := ⟨i, h, c, fun v H' e1 hd => by
  rw [e] at hd
  rw [qint_inv hd]
  exact k H' e1⟩
theorem w_spFb (i : ι) {b : Bool} (h : DqAll K H vs (args i)) (e : res i = .bool b) (c : cond i) (k : ∀ H', Ex H H' → Q (.bl b) H') : spF K args cond res vs H Q E := ⟨i, h, c, fun v H' e1 hd => by
  rw [e] at hd
  rw [qbl_inv hd]
  exact k H' e1⟩
theorem w_spP (i : ι) (h : DpAll K H vs (args i)) (c : cond i) (k : ∀ v H', Ex H H' → Dq K H' v (res i) → Q v H') : spP K args cond res vs H Q E := ⟨i, h, c, k⟩
theorem w_spPb (i : ι) {b : Bool} (h : DpAll K H vs (args i)) (e : res i = .bool b) (c : cond i) (k : ∀ H', Ex H H' → Q (.bl b) H') : spP K args cond res vs H Q E := ⟨i, h, c, fun v H' e1 hd => by
  rw [e] at hd
  rw [qbl_inv hd]
  exact k H' e1⟩
theorem w_spK (i : ι) (hd : DeckAt H a) (h : DqAll K H vs (args i)) (c : cond i) (k : ∀ d v H', Ex H H' → good i d → Dq K H' v d → Q v H') : spK K args cond good (.ref a :: vs) H Q E := ⟨i, a, vs, rfl, hd, h, c, k⟩
theorem w_spKp (i : ι) (hd : DeckAt H a) (h : DqAll K H vs (args i)) (c : cond i) (k : ∀ d v H', Ex H H' → good i d → Dp K H' v d → Q v H') : spKp K args cond good (.ref a :: vs) H Q E := ⟨i, a, vs, rfl, hd, h, c, k⟩
end

/-! ### steps -/
section
variable {K : PySem.W.Frag} {σ : St} {H : Hp} {D : Ends} {t u : TS} {te ta tb tc : TE} {g : TG} {gs : TGs} {c c' : TT} {Q : VK} {QB : Bool → Hp → Prop} {v w : V} {b : Bool} {i j : Nat} {QA : List V → Hp → Prop} {tr : TA} {r r' : R2}
theorem w_st {σ' : St} (e : σ = σ') (h : t D σ' H) : t D σ H := by rw [e]; exact h
theorem w_seq (h : t { D with nx := u D } σ H) : tSeq t u D σ H := h
theorem w_next (h : D.nx σ H) : tNext D σ H := h
theorem w_brk (h : D.bk σ H) : tBreak D σ H := h
theorem w_cont (h : D.ct σ H) : tCont D σ H := h
theorem w_ret (h : te σ H D.rt) : tRet te D σ H := h
theorem w_retN (h : D.rt .non H) : tRetN D σ H := h
theorem w_drop (h : te σ H fun _ H1 => D.nx σ H1) : tDrop te D σ H := h
theorem w_if (h : c σ H fun b H1 => if b = true then t D σ H1 else u D σ H1) : tIfS c t u D σ H := h
theorem w_asg (h : te σ H fun x H1 => g x σ H1 D.nx) : tAsg te g D σ H := h
def ParG (i j : Nat) (D : Ends) (σ : St) (vs : List V) (H : Hp) : Prop := ∃ v w, vs = [v, w] ∧ D.nx ((σ.set i (some v)).set j (some w)) H
theorem w_par (h : tr σ H fun vs H1 => ParG i j D σ vs H1) : tPar i j tr D σ H := h
theorem w_two (h : D.nx ((σ.set i (some v)).set j (some w)) H) : ParG i j D σ [v, w] H := ⟨v, w, rfl, h⟩
theorem w_gname {QS : St → Hp → Prop} (h : QS (σ.set i (some v)) H) : gName i v σ H QS := h
theorem w_gnil {QS : St → Hp → Prop} (h : QS σ H) : gNil [] σ H QS := ⟨rfl, h⟩
theorem w_gcons {QS : St → Hp → Prop} {vs : List V} (h : g v σ H fun σ' H' => gs vs σ' H' QS) : gCons g gs (v :: vs) σ H QS := ⟨v, vs, rfl, h⟩
theorem w_gtup {QS : St → Hp → Prop} {n : Nat} {ds : List PyData} (hd : Dq K H v (.tuple ds)) (hn : ds.length = n) (h : ∀ xs, DqAll K H xs ds → gs xs σ H QS) : gTup K n gs v σ H QS := by
  obtain ⟨p, xs, rfl, hp, ha⟩ := qtup_inv hd
  exact ⟨p, xs, rfl, hp.1, (dpa_len ha.dp).trans hn, h xs ha⟩
theorem w_gtup_ii {QS : St → Hp → Prop} {a b : Int} (hd : Dq K H v (.tuple [.int a, .int b])) (h : gs [.int a, .int b] σ H QS) : gTup K 2 gs v σ H QS := w_gtup hd rfl fun xs ha => by
  cases ha with
  | cons h1 h2 => cases h2 with
    | cons h3 h4 =>
      cases h4
      rw [qint_inv h1, qint_inv h3]
      exact h
theorem w_gtup_2 {QS : St → Hp → Prop} {d1 d2 : PyData} (hd : Dq K H v (.tuple [d1, d2])) (h : ∀ v1 v2, Dq K H v1 d1 → Dq K H v2 d2 → gs [v1, v2] σ H QS) : gTup K 2 gs v σ H QS := w_gtup hd rfl fun xs ha => by
  cases ha with
  | cons h1 h2 => cases h2 with
    | cons h3 h4 =>
      cases h4
      exact h _ _ h1 h3
theorem w_gtupp {QS : St → Hp → Prop} {n : Nat} {ds : List PyData} (hd : Dp K H v (.tuple ds)) (hn : ds.length = n) (h : ∀ xs, DpAll K H xs ds → gs xs σ H QS) : gTup K n gs v σ H QS := by
  obtain ⟨p, xs, rfl, hp, ha⟩ := tup_inv hd
  exact ⟨p, xs, rfl, hp, (dpa_len ha).trans hn, h xs ha⟩
theorem w_gtupp_ii {QS : St → Hp → Prop} {a b : Int} (hd : Dp K H v (.tuple [.int a, .int b])) (h : gs [.int a, .int b] σ H QS) : gTup K 2 gs v σ H QS := w_gtupp hd rfl fun xs ha => by
  cases ha with
  | cons h1 h2 => cases h2 with
    | cons h3 h4 =>
      cases h4
      rw [int_inv h1, int_inv h3]
      exact h
theorem w_gtupp_2 {QS : St → Hp → Prop} {d1 d2 : PyData} (hd : Dp K H v (.tuple [d1, d2])) (h : ∀ v1 v2, Dp K H v1 d1 → Dp K H v2 d2 → gs [v1, v2] σ H QS) : gTup K 2 gs v σ H QS := w_gtupp hd rfl fun xs ha => by
  cases ha with
  | cons h1 h2 => cases h2 with
    | cons h3 h4 =>
      cases h4
      exact h _ _ h1 h3
theorem w_var (h : σ[i]? = some (some v)) (q : Q v H) : tVar i σ H Q := ⟨v, h, q⟩
theorem w_c (q : Q v H) : tC v σ H Q := q
theorem w_op (h : ta σ H fun x H1 => tb σ H1 fun y H2 => r x y H2 Q) : tOp r ta tb σ H Q := h
theorem w_un {f : V → Hp → VK → Prop} (h : ta σ H fun x H1 => f x H1 Q) : tUn f ta σ H Q := h
theorem w_neg {n : Int} (q : Q (.int (-n)) H) : rU (fun i => .int (-i)) (.int n) H Q := ⟨n, rfl, q⟩
theorem w_test (h : te σ H fun x H' => ∃ k, x = .bl k ∧ QB k H') : tTest te σ H QB := h
theorem w_B (h : te σ H fun x H1 => ∃ c, x = .bl c ∧ QB c H1) : tB te σ H QB := h
theorem w_bl {R : Bool → Prop} (h : R b) : ∃ k, V.bl b = .bl k ∧ R k := ⟨b, rfl, h⟩
theorem w_not (h : c σ H fun b H1 => QB (!b) H1) : tNot c σ H QB := h
theorem w_and (h : c σ H fun b H1 => if b = true then c' σ H1 QB else QB false H1) : tAnd c c' σ H QB := h
theorem w_or (h : c σ H fun b H1 => if b = true then QB true H1 else c' σ H1 QB) : tOr c c' σ H QB := h
theorem w_yes (h : QB true H) : tYes σ H QB := h
theorem w_andV (h : ta σ H fun x H1 => ∃ c, x = .bl c ∧ if c = true then tb σ H1 Q else Q (.bl false) H1) : tAndV ta tb σ H Q := h
theorem w_orV (h : ta σ H fun x H1 => ∃ c, x = .bl c ∧ if c = true then Q (.bl true) H1 else tb σ H1 Q) : tOrV ta tb σ H Q := h
theorem w_notV (h : ta σ H fun x H1 => ∃ c, x = .bl c ∧ Q (.bl (!c)) H1) : tNotV ta σ H Q := h
theorem w_ifE (h : c σ H fun b H1 => if b = true then ta σ H1 Q else tb σ H1 Q) : tIf c ta tb σ H Q := h
theorem w_chain (h : ta σ H fun x H1 => tb σ H1 fun y H2 => r x y H2 fun z H3 => ∃ k, z = .bl k ∧ (if k = true then tc σ H3 fun w' H4 => r' y w' H4 Q else Q (.bl false) H3)) : tChain r r' ta tb tc σ H Q := h
theorem w_nil (h : QA [] H) : tNil σ H QA := h
theorem w_cons (h : te σ H fun x H1 => tr σ H1 fun xs H2 => QA (x :: xs) H2) : tCons te tr σ H QA := h
theorem w_call {sp : Sp} (h : tr σ H fun vs H1 => sp vs H1 Q noX) : tCallD sp tr σ H Q := h
theorem w_callW {sp : Sp} {n : Nat} {gV : List V → List V} (h : tr σ H fun zs H1 => zs.length = n ∧ sp (gV zs) H1 Q noX) : tCallW sp n gV tr σ H Q := h
theorem w_cb {f : List V → Hp → VK → Prop} (h : tr σ H fun vs H1 => f vs H1 Q) : tCB f tr σ H Q := h
theorem w_then {k : V → Hp → VK → Prop} (h : ta σ H fun x H1 => k x H1 Q) : tThen ta k σ H Q := h
def NewT (_ : PySem.W.Frag) (xs : List V) (Q : VK) (H1 : Hp) : Prop := xs.length ≤ sizeLine ∧ ∀ (p : Addr) (o : Obj), H1 p = none → o.dict = none → Q (.ref p) (upd H1 p (.frz o (.tup xs)))
def NewL (_ : PySem.W.Frag) (xs : List V) (Q : VK) (H1 : Hp) : Prop := xs.length ≤ sizeLine ∧ ∀ p, H1 p = none → Q (.ref p) (upd H1 p (.lst xs))
theorem w_tupF (h : tr σ H fun xs H1 => NewT K xs Q H1) : tTupF K tr σ H Q := h
theorem w_lst (h : tr σ H fun xs H1 => NewL K xs Q H1) : tLstU K tr σ H Q := h
/-- a new tuple, of n data; a new list -/
theorem w_newT {xs : List V} {ds : List PyData} (hl : xs.length ≤ 1000) (hd : DqAll K H xs ds) (h : ∀ p H', Ex H H' → Dq K H' (.ref p) (.tuple ds) → Q (.ref p) H') : NewT K xs Q H :=
  ⟨Nat.le_trans hl (by decide), fun p o hp ho => h p _ (Evl.Ex.new hp) (.tup ⟨.inl (.inr ⟨o, upd_same⟩), .inl ⟨o, _, upd_same, ho⟩⟩ (hd.up (Evl.Ex.new hp)))⟩
theorem w_newL {xs : List V} {ds : List PyData} (hl : xs.length ≤ 1000) (hd : DpAll K H xs ds) (h : ∀ p H', Ex H H' → H p = none → H' p = some (.lst xs) → Dp K H' (.ref p) (.list ds) → Q (.ref p) H') : NewL K xs Q H :=
  ⟨Nat.le_trans hl (by decide), fun p hp => h p _ (Evl.Ex.new hp) hp upd_same (.lst (.inl (.inl upd_same)) (Sk.DpAll.up (Evl.Ex.new hp) hd))⟩
/-! operators -/
theorem w_I0 {f : Int → Int → V} {a b : Int} (q : Q (f a b) H) : rI0 f (.int a) (.int b) H Q := ⟨a, b, rfl, rfl, q⟩
theorem w_I {C : Int → Int → Prop} {f : Int → Int → V} {a b : Int} (h : C a b) (q : Q (f a b) H) : rI C f (.int a) (.int b) H Q := ⟨a, b, rfl, rfl, h, q⟩
theorem w_addI {a b : Int} (q : Q (.int (a + b)) H) : rAddU K (.int a) (.int b) H Q := .inl ⟨a, b, rfl, rfl, q⟩
theorem w_mulI {a b : Int} (h : CMulX a b) (q : Q (.int (a * b)) H) : rMulU (.int a) (.int b) H Q := .inl ⟨a, b, rfl, rfl, h, q⟩
theorem w_eqI {a b : Int} (q : Q (.bl (decide (a = b))) H) : rEqU K (.int a) (.int b) H Q := by
  refine .inl ⟨rfl, ?_⟩
  have e : decide (V.int a = V.int b) = decide (a = b) := by
    by_cases h : a = b
    · subst h; simp
    · rw [decide_eq_false h, decide_eq_false (fun z => h (V.int.inj z))]
  rw [e]
  exact q
theorem w_neI {a b : Int} (q : Q (.bl (!decide (a = b))) H) : rNeU K (.int a) (.int b) H Q := by
  refine .inl ⟨rfl, ?_⟩
  have e : decide (V.int a = V.int b) = decide (a = b) := by
    by_cases h : a = b
    · subst h; simp
    · rw [decide_eq_false h, decide_eq_false (fun z => h (V.int.inj z))]
  rw [e]
  exact q
theorem w_eqD {d e : PyData} (h1 : Dp K H v d) (h2 : Dp K H w e) (s1 : SeqAt.shaped d = true) (s2 : SeqAt.shaped e = true) (q : Q (.bl (PyData.eqv d e)) H) : rEqU K v w H Q := .inr ⟨d, e, h1, h2, s1, s2, q⟩
/-- t[i] -/
theorem w_ixi {ds : List PyData} {n a : Int} (h : Dq K H v (.tuple ds)) (e : atI ds n = some (.int a)) (q : Q (.int a) H) : rIx K v (.int n) H Q := by
  obtain ⟨p, xs, rfl, hp, ha⟩ := qtup_inv h
  obtain ⟨u, h1, h2⟩ := Sk.dpa_atI ha.dp e
  rw [int_inv h2] at h1
  exact .inr (.inl ⟨p, xs, n, _, rfl, rfl, hp.1, h1, q⟩)
theorem dqa_atQ {vs : List V} {ds : List PyData} {n : Int} {d : PyData} (h : DqAll K H vs ds) (e : atI ds n = some d) : ∃ v, atI vs n = some v ∧ Dq K H v d := by
  have aux : ∀ {vs : List V} {ds : List PyData} {i : Nat} {d : PyData}, DqAll K H vs ds → ds[i]? = some d → ∃ v, vs[i]? = some v ∧ Dq K H v d := by
    intro vs ds i d h
    induction i generalizing vs ds with
    | zero =>
      intro e
      cases h with
      | nil => simp at e
      | cons r t => simp at e; subst e; exact ⟨_, rfl, r⟩
    | succ i ih =>
      intro e
      cases h with
      | nil => simp at e
      | cons r t =>
        obtain ⟨v, h1, h2⟩ := ih t (by simpa using e)
        exact ⟨v, by simpa using h1, h2⟩
  unfold atI at e ⊢
  rw [dpa_len h.dp]
  cases q : ixN ds.length n with
  | none => rw [q] at e; cases e
  | some j =>
    rw [q] at e
    obtain ⟨v, h1, h2⟩ := aux h (show ds[j]? = some d from e)
    exact ⟨v, h1, h2⟩
theorem w_ix {ds : List PyData} {n : Int} {d : PyData} (h : Dq K H v (.tuple ds)) (e : atI ds n = some d) (q : ∀ v', Dq K H v' d → Q v' H) : rIx K v (.int n) H Q := by
  obtain ⟨p, xs, rfl, hp, ha⟩ := qtup_inv h
  obtain ⟨u, h1, h2⟩ := dqa_atQ ha e
  exact .inr (.inl ⟨p, xs, n, _, rfl, rfl, hp.1, h1, q u h2⟩)
theorem w_ixpi {ds : List PyData} {n a : Int} (h : Dp K H v (.tuple ds)) (e : atI ds n = some (.int a)) (q : Q (.int a) H) : rIx K v (.int n) H Q := by
  obtain ⟨p, xs, rfl, hp, ha⟩ := tup_inv h
  obtain ⟨u, h1, h2⟩ := Sk.dpa_atI ha e
  rw [int_inv h2] at h1
  exact .inr (.inl ⟨p, xs, n, _, rfl, rfl, hp, h1, q⟩)
theorem w_ixp {ds : List PyData} {n : Int} {d : PyData} (h : Dp K H v (.tuple ds)) (e : atI ds n = some d) (q : ∀ v', Dp K H v' d → Q v' H) : rIx K v (.int n) H Q := by
  obtain ⟨p, xs, rfl, hp, ha⟩ := tup_inv h
  obtain ⟨u, h1, h2⟩ := Sk.dpa_atI ha e
  exact .inr (.inl ⟨p, xs, n, _, rfl, rfl, hp, h1, q u h2⟩)
/-- xs[i], a list -/
theorem w_ixl {xs : List V} {n : Int} {p : Addr} (h : SqL K H p xs) (e : atI xs n = some v) (q : Q v H) : rIx K (.ref p) (.int n) H Q := .inl ⟨p, xs, n, _, rfl, rfl, h, e, q⟩
theorem w_abs {n : Int} (q : Q (.int ((n.natAbs : Nat) : Int)) H) : rAbsU [.int n] H Q := by
  refine ⟨n, rfl, ?_⟩
  have e : (if n < 0 then -n else n) = ((n.natAbs : Nat) : Int) := by split <;> omega
  rw [e]
  exact q
theorem w_int {n : Int} (q : Q (.int n) H) : rInt [.int n] H Q := ⟨n, rfl, q⟩
theorem w_gcd {a b : Int} (q : Q (.int ((Nat.gcd a.natAbs b.natAbs : Nat) : Int)) H) : rGcd [.int a, .int b] H Q := ⟨a, b, rfl, q⟩
end

/-! ### loops, comprehensions, count -/
section
variable {K : PySem.W.Frag} {σ : St} {H : Hp} {D : Ends} {tb : TS} {te ta to : TE} {g : TG} {Q : VK} {v : V} {tr : TA} {tt : TT} {vs : List Nat}
theorem w_ift {A B : Prop} (h : A) : if true = true then A else B := by rw [if_pos rfl]; exact h
theorem w_iff {A B : Prop} (h : B) : if false = true then A else B := by rw [if_neg Bool.false_ne_true]; exact h
theorem w_itt {A B : Prop} {b : Bool} (e : b = true) (h : A) : if b = true then A else B := by rw [if_pos e]; exact h
theorem w_itf {A B : Prop} {b : Bool} (e : b = false) (h : B) : if b = true then A else B := by rw [if_neg (by rw [e]; decide)]; exact h
theorem w_ite {A B : Prop} {b : Bool} (h1 : b = true → A) (h2 : b = false → B) : if b = true then A else B := by
  cases b with
  | true => rw [if_pos rfl]; exact h1 rfl
  | false => rw [if_neg Bool.false_ne_true]; exact h2 rfl
def CntG (K : PySem.W.Frag) (x : V) (k : Int) (Q : VK) (H : Hp) : Prop := ∃ (p : Addr) (ns : List Int), x = .ref p ∧ TupAt K H p (ns.map V.int) ∧ ∃ k', [V.int k] = [.int k'] ∧ TupAt K H p (ns.map V.int) ∧ Q (.int (ns.count k' : Nat)) H
theorem w_cnt {k : Int} (h : to σ H fun x H1 => CntG K x k Q H1) : tCnt K to (tCons (tC (.int k)) tNil) σ H Q := h
theorem w_cntg {a b k : Int} (h : Dq K H v (.tuple [.int a, .int b])) (q : Q (.int (([a, b] : List Int).count k : Nat)) H) : CntG K v k Q H := by
  obtain ⟨p, xs, rfl, hp, ha⟩ := qtup_inv h
  cases ha with
  | cons h1 h2 => cases h2 with
    | cons h3 h4 =>
      cases h4
      rw [qint_inv h1, qint_inv h3] at hp
      exact ⟨p, [a, b], rfl, hp, k, rfl, hp, q⟩
/-- a for over lo, lo + 1, .. (n of them) -/
def ForG (lo : Int) (n : Nat) (g : TG) (tb : TS) (D : Ends) (σ : St) (H : Hp) : Prop := ∃ W : Nat → Nat → St → Hp → Prop, (∃ m, W 0 m σ H) ∧ ∀ i m σ H, W i m σ H →
  ((Itr lo n).stop i H ∧ D.nx σ H) ∨ ((Itr lo n).go i H ∧ ∃ N : St → Hp → Prop, (∀ σ' H', N σ' H' → ∃ m', m' < m ∧ W (i + 1) m' σ' H') ∧ ∀ x H', (Itr lo n).yld i H x H' → g x σ H' fun σ2 H2 => tb { D with nx := N, ct := N, bk := D.nx } σ2 H2)
theorem w_for1 (h : tr σ H fun vs H1 => ∃ j : Int, vs = [.int j] ∧ -(2 ^ 62) ≤ j ∧ j < 2 ^ 62 ∧ ForG 0 j.toNat g tb D σ H1) : tFor (iRng1 tr) g tb D σ H := h
theorem w_for2 (h : tr σ H fun vs H1 => ∃ i j : Int, vs = [.int i, .int j] ∧ (-(2 ^ 62) ≤ i ∧ i < 2 ^ 62 ∧ -(2 ^ 62) ≤ j ∧ j < 2 ^ 62) ∧ ForG i (j - i).toNat g tb D σ H1) : tFor (iRng2 tr) g tb D σ H := h
theorem w_rg1 {j : Int} {R : Nat → Prop} (h1 : -(2 ^ 62) ≤ j) (h2 : j < 2 ^ 62) (h : R j.toNat) : ∃ j' : Int, [V.int j] = [.int j'] ∧ -(2 ^ 62) ≤ j' ∧ j' < 2 ^ 62 ∧ R j'.toNat := ⟨j, rfl, h1, h2, h⟩
theorem w_forg {lo : Int} {n : Nat} (Pv : Nat → St → Hp → Prop) (h0 : Pv 0 σ H)
    (hs : ∀ i σ H, i < n → Pv i σ H → g (.int (lo + (i : Nat))) σ H fun σ2 H2 => tb { D with nx := Pv (i + 1), ct := Pv (i + 1), bk := D.nx } σ2 H2) (hd : ∀ σ H, Pv n σ H → D.nx σ H) : ForG lo n g tb D σ H := for_range Pv h0 hs hd
/-- a for over lo, lo + c, .. (n of them) -/
def ForC (lo c : Int) (n : Nat) (g : TG) (tb : TS) (D : Ends) (σ : St) (H : Hp) : Prop := ∃ W : Nat → Nat → St → Hp → Prop, (∃ m, W 0 m σ H) ∧ ∀ i m σ H, W i m σ H →
  ((Itc lo c n).stop i H ∧ D.nx σ H) ∨ ((Itc lo c n).go i H ∧ ∃ N : St → Hp → Prop, (∀ σ' H', N σ' H' → ∃ m', m' < m ∧ W (i + 1) m' σ' H') ∧ ∀ x H', (Itc lo c n).yld i H x H' → g x σ H' fun σ2 H2 => tb { D with nx := N, ct := N, bk := D.nx } σ2 H2)
theorem w_forc {lo c : Int} {n : Nat} (Pv : Nat → St → Hp → Prop) (h0 : Pv 0 σ H)
    (hs : ∀ i σ H, i < n → Pv i σ H → g (.int (lo + (i : Nat) * c)) σ H fun σ2 H2 => tb { D with nx := Pv (i + 1), ct := Pv (i + 1), bk := D.nx } σ2 H2) (hd : ∀ σ H, Pv n σ H → D.nx σ H) : ForC lo c n g tb D σ H := for_rangeC Pv h0 hs hd
def RevG (x : V) (g : TG) (tb : TS) (D : Ends) (σ : St) (H : Hp) : Prop := ∃ n, x = .int n ∧ -(2 ^ 62) ≤ (0 : Int) ∧ (0 : Int) < 2 ^ 62 ∧ -(2 ^ 62) ≤ n ∧ n < 2 ^ 62 ∧ ForC (0 + (((n - 0).toNat : Nat) : Int) - 1) (-1) (n - 0).toNat g tb D σ H
theorem w_forrev (h : te σ H fun x H1 => RevG x g tb D σ H1) : tFor (iRevR (tRg1 te)) g tb D σ H := h
theorem w_revg {n : Int} (h1 : -(2 ^ 62) ≤ n) (h2 : n < 2 ^ 62) (h : ForC (0 + (((n - 0).toNat : Nat) : Int) - 1) (-1) (n - 0).toNat g tb D σ H) : RevG (.int n) g tb D σ H := ⟨n, rfl, by decide, by decide, h1, h2, h⟩
/-- [te for x in range ..] -/
def LcG (lo : Int) (n : Nat) (g : TG) (tt : TT) (te : TE) (vs : List Nat) (σ : St) (H1 : Hp) (Q : VK) : Prop := ∀ D, H1 D = none → ∃ W : Nat → Nat → Hp → Prop, (∃ m, W 0 m (upd H1 D (.lst []))) ∧ ∀ i m H, W i m H →
  ((Itr lo n).stop i H ∧ Q (.ref D) H) ∨ ((Itr lo n).go i H ∧ ∃ Nx : Hp → Prop, (∀ H', Nx H' → ∃ m', m' < m ∧ W (i + 1) m' H') ∧ ∀ x H', (Itr lo n).yld i H x H' → g x (wipe σ vs) H' fun σ2 H2 => wipe σ2 vs = wipe σ vs ∧ tt σ2 H2 fun b H3 =>
    if b = true then te σ2 H3 fun y H4 => ∃ acc, H4 D = some (.lst acc) ∧ acc.length < sizeLine ∧ Nx (upd H4 D (.lst (acc ++ [y]))) else Nx H3)
theorem w_lc1 (h : tr σ H fun ws H1 => ∃ j : Int, ws = [.int j] ∧ -(2 ^ 62) ≤ j ∧ j < 2 ^ 62 ∧ LcG 0 j.toNat g tt te vs σ H1 Q) : tLc (iRng1 tr) g tt te vs σ H Q := h
/-- behind a turn: y is put to the list -/
def LcW (P : Nat → List V → Hp → Prop) (H : Hp) (Dl : Addr) (i : Nat) (H' : Hp) : Prop := ∃ acc, H' Dl = some (.lst acc) ∧ Ex H H' ∧ P i acc H'
/-- the elements one by one; P i acc: what is known of the list so far -/
theorem w_lcg {lo : Int} {n : Nat} (P : Nat → List V → Hp → Prop) (hn : n ≤ 1000) (h0 : ∀ H', Ex H H' → P 0 [] H')
    (st : ∀ i acc H' l xs ys, H' l = some (.lst xs) → P i acc H' → P i acc (upd H' l (.lst ys))) (hl : ∀ i acc H', P i acc H' → acc.length ≤ i)
    (hs : ∀ Dl i acc H', i < n → H Dl = none → H' Dl = some (.lst acc) → Ex H H' → P i acc H' →
      g (.int (lo + (i : Nat))) (wipe σ vs) H' fun σ2 H2 => wipe σ2 vs = wipe σ vs ∧ tt σ2 H2 fun b H3 => if b = true then te σ2 H3 fun y H4 => ∃ acc, H4 Dl = some (.lst acc) ∧ acc.length < sizeLine ∧ LcW P H Dl (i + 1) (upd H4 Dl (.lst (acc ++ [y]))) else LcW P H Dl (i + 1) H3)
    (hd : ∀ p acc H', Ex H H' → H' p = some (.lst acc) → P n acc H' → Q (.ref p) H') : LcG lo n g tt te vs σ H Q := by
  intro Dl hD
  refine lc_range (LcW P H Dl) ⟨[], upd_same, Evl.Ex.new hD, h0 _ (Evl.Ex.new hD)⟩ ?_ ?_
  · rintro i H' hi ⟨acc, h1, h2, h3⟩
    exact hs Dl i acc H' hi hD h1 h2 h3
  · rintro H' ⟨acc, h1, h2, h3⟩
    exact hd Dl acc H' h2 h1 h3
theorem w_lct {P : Nat → List V → Hp → Prop} {Dl : Addr} {i : Nat} {acc : List V} {H H' H4 : Hp} {y : V} (hD : H Dl = none) (h1 : H' Dl = some (.lst acc)) (e1 : Ex H H') (e : Ex H' H4) (hi : acc.length ≤ 1000)
    (st : ∀ i acc H' l xs ys, H' l = some (.lst xs) → P i acc H' → P i acc (upd H' l (.lst ys))) (p : P (i + 1) (acc ++ [y]) H4) :
    ∃ acc, H4 Dl = some (.lst acc) ∧ acc.length < sizeLine ∧ LcW P H Dl (i + 1) (upd H4 Dl (.lst (acc ++ [y]))) :=
  ⟨acc, e _ _ h1, Nat.lt_of_le_of_lt hi (by decide), _, upd_same, Evl.Ex.mut (e1.trans e) hD, st _ _ _ _ _ _ (e _ _ h1) p⟩
theorem w_lcf {P : Nat → List V → Hp → Prop} {Dl : Addr} {i : Nat} {acc : List V} {H H' H4 : Hp} (h1 : H' Dl = some (.lst acc)) (e1 : Ex H H') (e : Ex H' H4) (p : P (i + 1) acc H4) : LcW P H Dl (i + 1) H4 := ⟨acc, e _ _ h1, e1.trans e, p⟩
end

/-! ### conditions on numbers -/
/-- below 2 ^ n -/
def Bd (n : Nat) (x : Int) : Prop := x.natAbs < 2 ^ n
theorem Bd.mono {m n : Nat} {x : Int} (h : Bd m x) (l : m ≤ n) : Bd n x := Nat.lt_of_lt_of_le h (Nat.pow_le_pow_right (by decide) l)
theorem Bd.mul {m n : Nat} {x y : Int} (h : Bd m x) (h' : Bd n y) : Bd (m + n) (x * y) := wide_lt h h'
theorem Bd.neg {m : Nat} {x : Int} (h : Bd m x) : Bd m (-x) := by unfold Bd at *; rw [Int.natAbs_neg]; exact h
theorem Bd.add {m : Nat} {x y : Int} (h : Bd m x) (h' : Bd m y) : Bd (m + 1) (x + y) := by
  unfold Bd at *
  have := Int.natAbs_add_le x y
  rw [Nat.pow_succ]
  omega
theorem Bd.sub {m : Nat} {x y : Int} (h : Bd m x) (h' : Bd m y) : Bd (m + 1) (x - y) := by
  rw [Int.sub_eq_add_neg]
  exact h.add h'.neg
theorem Bd.addm {m n : Nat} {x y : Int} (h : Bd m x) (h' : Bd n y) : Bd (max m n + 1) (x + y) := (h.mono (Nat.le_max_left _ _)).add (h'.mono (Nat.le_max_right _ _))
theorem Bd.subm {m n : Nat} {x y : Int} (h : Bd m x) (h' : Bd n y) : Bd (max m n + 1) (x - y) := (h.mono (Nat.le_max_left _ _)).sub (h'.mono (Nat.le_max_right _ _))
theorem mulx {m n : Nat} {x y : Int} (h : Bd m x) (h' : Bd n y) (l : m + n ≤ 134217728) : CMulX x y := mulx_ok h h' l
theorem divz {n : Nat} {x y : Int} (h0 : y ≠ 0) (h : Bd n y) (l : n ≤ 8000) : CDivZ x y := by
  refine ⟨h0, ?_⟩
  have : y.natAbs < 2 ^ (n + 1) := Nat.lt_trans h (Nat.pow_lt_pow_right (by decide) (Nat.lt_succ_self _))
  have := PySem.Flt.log2_lt_of (Nat.succ_pos n) this
  omega
end Sk

set_option maxHeartbeats 2000000
namespace Sk
open PySem PySem.Spec PyProof.Rows L2
open Evl (Ex ex_l ex_t)

/-! ### isinstance of data -/
def tyN : PyData → String
  | .none => "NoneType" | .bool _ => "bool" | .int _ => "int" | .str _ => "str" | .list _ => "list" | .tuple _ => "tuple" | .dict _ => "dict"
def isiS (a n : String) : Bool := a == n || (a == "bool" && n == "int")
def isi (d : PyData) (n : String) : Bool := isiS (tyN d) n
theorem kit_tab : ∀ a ∈ ["NoneType", "bool", "int", "str", "list", "tuple"], ∀ n ∈ ["int", "bool", "tuple", "list", "str"], kitB a n = some (isiS a n) := by decide +kernel
section
variable {K : PySem.W.Frag} {H : Hp} {v : V} {d : PyData} {Q : VK} {n : String}
theorem ty_dp (h : Dp K H v d) : TyX K H v (.type (tyN d)) := by
  cases h with
  | non => exact .base .non
  | bl b => exact .base (.bl b)
  | int i => exact .base (.int i)
  | str x => exact .base (.str x)
  | lst hs ha =>
    rcases hs with (hs | ⟨o, hs⟩) | ⟨o, _, _, hk, hc, _⟩
    · exact .base (.lst hs)
    · exact .base (.frz hs)
    · exact .kList hk hc
  | tup hs ha =>
    rcases hs with (hs | ⟨o, hs⟩) | ⟨o, _, _, hk, hc, _⟩
    · exact .base (.tup hs)
    · exact .fTuple hs
    · exact .kTuple hk hc
theorem kit_isi (hn : n ∈ ["int", "bool", "tuple", "list", "str"]) (h : Dp K H v d) : kitB (tyN d) n = some (isi d n) := by
  refine kit_tab _ ?_ n hn
  cases h <;> simp [tyN]
theorem w_isi (h : Dp K H v d) (q : Q (.bl (isi d n)) H) (hn : n ∈ ["int", "bool", "tuple", "list", "str"] := by decide) : rIsi K [v, .ty n] H Q :=
  ⟨v, .ty n, _, _, _, rfl, .ty n, ty_dp h, kit_ty (kit_isi hn h), q⟩
theorem w_isiT {p : Addr} (h : Dp K H v d) (hp : H p = some (.tup [.ty "tuple", .ty "list"])) (q : Q (.bl (isi d "tuple" || isi d "list")) H) : rIsiT K [v, .ref p] H Q := by
  refine ⟨v, p, _, _, [.type "tuple", .type "list"], _, rfl, hp, .cons (.ty _) (.cons (.ty _) .nil), ty_dp h, ?_, q⟩
  refine kitAny_cons (kit_ty (kit_isi (by decide) h)) (fun e => ?_) (fun e => by rw [e]; rfl)
  refine kitAny_cons (kit_ty (kit_isi (by decide) h)) (fun e2 => ?_) (fun e2 => by rw [e2, Bool.or_true])
  rw [e, e2]
  exact kitAny_nil
def NewP (xs : List V) (Q : VK) (H1 : Hp) : Prop := xs.length ≤ sizeLine ∧ ∀ p, H1 p = none → Q (.ref p) (upd H1 p (.tup xs))
theorem w_tupP {σ : St} {tr : TA} (h : tr σ H fun xs H1 => NewP xs Q H1) : tTup tr σ H Q := h
theorem w_newTy {xs : List V} (hl : xs.length ≤ 1000) (h : ∀ p H', Ex H H' → H' p = some (.tup xs) → Q (.ref p) H') : NewP xs Q H :=
  ⟨Nat.le_trans hl (by decide), fun p hp => h p _ (Evl.Ex.new hp) upd_same⟩
theorem isi_ti {ds : List PyData} : isi (.tuple ds) "int" = false := by show isiS "tuple" "int" = false; decide
theorem isi_tt {ds : List PyData} : isi (.tuple ds) "tuple" = true := by show isiS "tuple" "tuple" = true; decide
theorem isi_tl {ds : List PyData} : isi (.tuple ds) "list" = false := by show isiS "tuple" "list" = false; decide
theorem isi_tb {ds : List PyData} : isi (.tuple ds) "bool" = false := by show isiS "tuple" "bool" = false; decide
theorem isi_ts {ds : List PyData} : isi (.tuple ds) "str" = false := by show isiS "tuple" "str" = false; decide
theorem isi_li {ds : List PyData} : isi (.list ds) "int" = false := by show isiS "list" "int" = false; decide
theorem isi_lt {ds : List PyData} : isi (.list ds) "tuple" = false := by show isiS "list" "tuple" = false; decide
theorem isi_ll {ds : List PyData} : isi (.list ds) "list" = true := by show isiS "list" "list" = true; decide
theorem isi_lb {ds : List PyData} : isi (.list ds) "bool" = false := by show isiS "list" "bool" = false; decide
theorem isi_ii {i : Int} : isi (.int i) "int" = true := by show isiS "int" "int" = true; decide
theorem isi_ib {i : Int} : isi (.int i) "bool" = false := by show isiS "int" "bool" = false; decide
theorem isi_it {i : Int} : isi (.int i) "tuple" = false := by show isiS "int" "tuple" = false; decide
theorem isi_il {i : Int} : isi (.int i) "list" = false := by show isiS "int" "list" = false; decide
theorem isi_is {i : Int} : isi (.int i) "str" = false := by show isiS "int" "str" = false; decide
theorem isi_bi {i : Bool} : isi (.bool i) "int" = true := by show isiS "bool" "int" = true; decide
theorem isi_bb {i : Bool} : isi (.bool i) "bool" = true := by show isiS "bool" "bool" = true; decide
theorem isi_bt {i : Bool} : isi (.bool i) "tuple" = false := by show isiS "bool" "tuple" = false; decide
theorem isi_bl {i : Bool} : isi (.bool i) "list" = false := by show isiS "bool" "list" = false; decide
theorem isi_bs {i : Bool} : isi (.bool i) "str" = false := by show isiS "bool" "str" = false; decide
theorem isi_ni : isi .none "int" = false := by decide
theorem isi_nt : isi .none "tuple" = false := by decide
theorem isi_nl : isi .none "list" = false := by decide
theorem isi_nb : isi .none "bool" = false := by decide
theorem isi_ns : isi .none "str" = false := by decide
theorem isi_si {x : Str} : isi (.str x) "int" = false := by show isiS "str" "int" = false; decide
theorem isi_st {x : Str} : isi (.str x) "tuple" = false := by show isiS "str" "tuple" = false; decide
theorem isi_sl {x : Str} : isi (.str x) "list" = false := by show isiS "str" "list" = false; decide
theorem isi_sb {x : Str} : isi (.str x) "bool" = false := by show isiS "str" "bool" = false; decide
theorem isi_ss {x : Str} : isi (.str x) "str" = true := by show isiS "str" "str" = true; decide
/-- len of data -/
def dlen : PyData → Nat
  | .list xs => xs.length
  | .tuple xs => xs.length
  | _ => 0
theorem w_lenT {ds : List PyData} (h : Dp K H v (.tuple ds)) (q : Q (.int (ds.length : Nat)) H) : rLenU K [v] H Q := by
  obtain ⟨p, xs, rfl, hp, ha⟩ := tup_inv h
  rw [← dpa_len ha] at q
  exact ⟨p, xs, rfl, .inr hp, q⟩
theorem w_lenL {ds : List PyData} (h : Dp K H v (.list ds)) (q : Q (.int (ds.length : Nat)) H) : rLenU K [v] H Q := by
  obtain ⟨p, xs, rfl, hp, ha⟩ := lst_inv h
  rw [← dpa_len ha] at q
  exact ⟨p, xs, rfl, .inl hp, q⟩
theorem w_lenS {p : Addr} {ys : List V} (h : SqL K H p ys) (q : Q (.int (ys.length : Nat)) H) : rLenU K [.ref p] H Q := ⟨p, ys, rfl, .inl h, q⟩
theorem w_isN (q : Q (.bl (decide (v = .non))) H) : rIsNU v .non H Q := ⟨rfl, q⟩
theorem w_notN (q : Q (.bl (!decide (v = .non))) H) : rNotNU v .non H Q := ⟨rfl, q⟩
theorem w_max2 {i j : Int} (q : Q (.int (max i j)) H) : rMaxU [.int i, .int j] H Q := by
  refine ⟨i, j, rfl, ?_⟩
  have e : (if j > i then j else i) = max i j := by split <;> omega
  rw [e]
  exact q
theorem w_min2 {i j : Int} (q : Q (.int (min i j)) H) : rMinU [.int i, .int j] H Q := by
  refine ⟨i, j, rfl, ?_⟩
  have e : (if j < i then j else i) = min i j := by split <;> omega
  rw [e]
  exact q
theorem w_shr {i : Int} {k : Nat} (q : Q (.int (i / 2 ^ k)) H) : rShrU (.int i) (.int (k : Int)) H Q := ⟨i, k, rfl, rfl, q⟩
theorem w_odd {i : Int} (h : 0 ≤ i) (q : Q (.int (i % 2)) H) : rOddU (.int i) (.int 1) H Q := ⟨i.toNat, by rw [Int.toNat_of_nonneg h], rfl, by
  have e : ((i.toNat % 2 : Nat) : Int) = i % 2 := by omega
  rw [e]; exact q⟩
theorem w_bits {σ : St} {to : TE} (h : to σ H fun x H1 => ∃ i, x = .int i ∧ Q (.int (Builtin.Int.intBits i : Nat)) H1) : tBits to σ H Q := h
theorem w_isint {R : Int → Prop} {i : Int} (h : R i) : ∃ i', V.int i = .int i' ∧ R i' := ⟨i, rfl, h⟩
end
theorem cxK {CX : CXT} {P : Program} {w : World} {K : PySem.W.Frag} {mg : Str → Option Value} {base : Heap} {N : List Str} {qual : Str} {scope : Scope} {f : Addr} {cd : Value} {A : Around} {outer : List Env} {s : Shared} {H : Hp} {E : XK} :
    (cxOf CX P w K mg base N qual scope f cd A outer s H E).nox.K = K := rfl
theorem cxK2 {CX : CXT} {P : Program} {w : World} {K : PySem.W.Frag} {mg : Str → Option Value} {base : Heap} {N : List Str} {qual : Str} {scope : Scope} {f : Addr} {cd : Value} {A : Around} {outer : List Env} {s : Shared} {H : Hp} {E : XK} :
    (cxOf CX P w K mg base N qual scope f cd A outer s H E).K = K := rfl
section
variable {K : PySem.W.Frag} {H H1 : Hp} {Q : VK} {v : V} {d d' : PyData}
theorem fin_b {b b' : Bool} (k : ∀ v H', Ex H H' → Dq K H' v (.bool b) → Q v H') (e : Ex H H1) (h : b' = b) : Q (.bl b') H1 := k _ _ e (by rw [h]; exact .bl _)
theorem fin_i {b b' : Int} (k : ∀ v H', Ex H H' → Dq K H' v (.int b) → Q v H') (e : Ex H H1) (h : b' = b) : Q (.int b') H1 := k _ _ e (by rw [h]; exact .int _)
theorem fin_d (k : ∀ v H', Ex H H' → Dq K H' v d → Q v H') (e : Ex H H1) (h : d' = d) (hd : Dq K H1 v d') : Q v H1 := k _ _ e (by rw [← h]; exact hd)
end
section
variable {K : PySem.W.Frag} {H : Hp} {Q : VK} {v o i : V} {σ : St} {to ti : TE} {QS : St → Hp → Prop}
def SetG (o i v : V) (QS : St → Hp → Prop) (σ : St) (H : Hp) : Prop := rSetL o i v H fun H3 => QS σ H3
theorem w_gsub (h : to σ H fun o H1 => ti σ H1 fun i H2 => SetG o i v QS σ H2) : gSub to ti rSetL v σ H QS := h
theorem w_setl {p : Addr} {xs : List V} {k : Int} {j : Nat} (h : H p = some (.lst xs)) (e : ixN xs.length k = some j) (q : ∀ H', H' = upd H p (.lst (xs.set j v)) → H' p = some (.lst (xs.set j v)) → QS σ H') : SetG (.ref p) (.int k) v QS σ H := ⟨p, xs, k, j, rfl, rfl, h, e, q _ rfl upd_same⟩
theorem w_neB {a b : Bool} (q : Q (.bl (!decide (a = b))) H) : rNeU K (.bl a) (.bl b) H Q := by
  refine .inl ⟨rfl, ?_⟩
  have e : decide (V.bl a = V.bl b) = decide (a = b) := by cases a <;> cases b <;> rfl
  rw [e]; exact q
theorem w_eqB {a b : Bool} (q : Q (.bl (decide (a = b))) H) : rEqU K (.bl a) (.bl b) H Q := by
  refine .inl ⟨rfl, ?_⟩
  have e : decide (V.bl a = V.bl b) = decide (a = b) := by cases a <;> cases b <;> rfl
  rw [e]; exact q
theorem w_eqS {a : Str} (q : Q (.bl true) H) : rEqU K (.str a) (.str a) H Q := by
  refine .inl ⟨rfl, ?_⟩
  rw [decide_eq_true rfl]; exact q
/-- xs[i] of a list of data -/
theorem w_ixld {ds : List PyData} {n : Int} {d : PyData} (h : Dp K H v (.list ds)) (e : atI ds n = some d) (q : ∀ v', Dp K H v' d → Q v' H) : rIx K v (.int n) H Q := by
  obtain ⟨p, xs, rfl, hp, ha⟩ := lst_inv h
  obtain ⟨u, h1, h2⟩ := Sk.dpa_atI ha e
  exact .inl ⟨p, xs, n, _, rfl, rfl, hp, h1, q u h2⟩
end
/-- builtins that no name of the text hides -/
structure Bu (mg : Str → Option Value) : Prop where
  z_len : mg "len" = none
  z_isinstance : mg "isinstance" = none
  z_abs : mg "abs" = none
  z_max : mg "max" = none
  z_min : mg "min" = none
  z_int : mg "int" = none
  z_bool : mg "bool" = none
  z_str : mg "str" = none
  z_tuple : mg "tuple" = none
  z_list : mg "list" = none
  z_range : mg "range" = none
  z_reversed : mg "reversed" = none
  z_gcd : mg "gcd" = some (.builtin "math.gcd")
def swap2 (zs : List V) : List V := match zs with | [a, b] => [b, a] | _ => zs
theorem swap2_eq (a b : V) : swap2 [a, b] = [b, a] := rfl
theorem len1 {ι : Type} {K : PySem.W.Frag} {args : ι → List PyData} {cond : ι → Prop} {res : ι → PyData} {n : Nat} (e : ∀ i, (args i).length = n) {vs : List V} {H : Hp} {Q : VK} {E : XK} (h : spF K args cond res vs H Q E) : vs.length = n := by
  obtain ⟨i, ha, _⟩ := h
  rw [dpa_len ha.dp, e]
theorem len2 {ι : Type} {K : PySem.W.Frag} {args : ι → List PyData} {cond : ι → Prop} {res : ι → PyData} {n : Nat} (e : ∀ i, (args i).length = n) {vs : List V} {H : Hp} {Q : VK} {E : XK} (h : spP K args cond res vs H Q E) : vs.length = n := by
  obtain ⟨i, ha, _⟩ := h
  rw [dpa_len ha, e]
theorem len3 {ι : Type} {K : PySem.W.Frag} {args : ι → List PyData} {cond : ι → Prop} {good : ι → PyData → Prop} {n : Nat} (e : ∀ i, (args i).length + 1 = n) {vs : List V} {H : Hp} {Q : VK} {E : XK} (h : spK K args cond good vs H Q E) : vs.length = n := by
  obtain ⟨i, a, vs', rfl, _, ha, _⟩ := h
  rw [List.length_cons, dpa_len ha.dp, e]
theorem len4 {ι : Type} {K : PySem.W.Frag} {args : ι → List PyData} {cond : ι → Prop} {good : ι → PyData → Prop} {n : Nat} (e : ∀ i, (args i).length + 1 = n) {vs : List V} {H : Hp} {Q : VK} {E : XK} (h : spKp K args cond good vs H Q E) : vs.length = n := by
  obtain ⟨i, a, vs', rfl, _, ha, _⟩ := h
  rw [List.length_cons, dpa_len ha.dp, e]
section
variable {K : PySem.W.Frag} {H : Hp} {vs : List V} {d1 d2 d3 : PyData}
theorem dpa1 (h : DpAll K H vs [d1]) : ∃ v, vs = [v] ∧ Dp K H v d1 := by
  cases h with | cons h1 h2 => cases h2; exact ⟨_, rfl, h1⟩
theorem dqa1 (h : DqAll K H vs [d1]) : ∃ v, vs = [v] ∧ Dq K H v d1 := by
  cases h with | cons h1 h2 => cases h2; exact ⟨_, rfl, h1⟩
theorem dqa2 (h : DqAll K H vs [d1, d2]) : ∃ v w, vs = [v, w] ∧ Dq K H v d1 ∧ Dq K H w d2 := by
  cases h with | cons h1 h2 => cases h2 with | cons h3 h4 => cases h4; exact ⟨_, _, rfl, h1, h3⟩
theorem dpa2 (h : DpAll K H vs [d1, d2]) : ∃ v w, vs = [v, w] ∧ Dp K H v d1 ∧ Dp K H w d2 := by
  cases h with | cons h1 h2 => cases h2 with | cons h3 h4 => cases h4; exact ⟨_, _, rfl, h1, h3⟩
end
end Sk

set_option maxHeartbeats 2000000
namespace Sk
open PySem PySem.Spec PyProof.Rows L2
open Evl (Ex ex_l ex_t)
section
variable {K : PySem.W.Frag} {H : Hp} {Q : VK} {v w : V} {σ : St} {te : TE} {tl th : TO} {D : Ends}
/-- a new list of data; a new tuple of data of any kind -/
theorem w_newLq {xs : List V} {ds : List PyData} (hl : xs.length ≤ 1000) (hd : DqAll K H xs ds) (h : ∀ p H', Ex H H' → H p = none → H' p = some (.lst xs) → DqAll K H' xs ds → Dq K H' (.ref p) (.list ds) → Q (.ref p) H') : NewL K xs Q H :=
  ⟨Nat.le_trans hl (by decide), fun p hp => h p _ (Evl.Ex.new hp) hp upd_same (hd.up (Evl.Ex.new hp)) (.lst (.inl (.inl upd_same)) (hd.up (Evl.Ex.new hp)))⟩
theorem w_newLp {xs : List V} {ds : List PyData} (hl : xs.length ≤ 1000) (hd : DpAll K H xs ds) (h : ∀ p H', Ex H H' → H p = none → H' p = some (.lst xs) → DpAll K H' xs ds → Dp K H' (.ref p) (.list ds) → Q (.ref p) H') : NewL K xs Q H :=
  ⟨Nat.le_trans hl (by decide), fun p hp => h p _ (Evl.Ex.new hp) hp upd_same (Sk.DpAll.up (Evl.Ex.new hp) hd) (.lst (.inl (.inl upd_same)) (Sk.DpAll.up (Evl.Ex.new hp) hd))⟩
theorem w_newTp {xs : List V} {ds : List PyData} (hl : xs.length ≤ 1000) (hd : DpAll K H xs ds) (h : ∀ p H', Ex H H' → Dp K H' (.ref p) (.tuple ds) → Q (.ref p) H') : NewT K xs Q H :=
  ⟨Nat.le_trans hl (by decide), fun p o hp ho => h p _ (Evl.Ex.new hp) (.tup (.inl (.inr ⟨o, upd_same⟩)) (Sk.DpAll.up (Evl.Ex.new hp) hd))⟩
theorem dqa_app : ∀ {xs ys : List V} {ds es : List PyData}, DqAll K H xs ds → DqAll K H ys es → DqAll K H (xs ++ ys) (ds ++ es)
  | _, _, _, _, .nil, s => s
  | _, _, _, _, .cons r t, s => .cons r (dqa_app t s)
theorem dpa_app : ∀ {xs ys : List V} {ds es : List PyData}, DpAll K H xs ds → DpAll K H ys es → DpAll K H (xs ++ ys) (ds ++ es)
  | _, _, _, _, .nil, s => s
  | _, _, _, _, .cons r t, s => .cons r (dpa_app t s)
theorem dpa_take : ∀ {xs : List V} {ds : List PyData} (n : Nat), DpAll K H xs ds → DpAll K H (xs.take n) (ds.take n)
  | _, _, 0, _ => .nil
  | _, _, _ + 1, .nil => .nil
  | _, _, n + 1, .cons r t => .cons r (dpa_take n t)
theorem dpa_drop : ∀ {xs : List V} {ds : List PyData} (n : Nat), DpAll K H xs ds → DpAll K H (xs.drop n) (ds.drop n)
  | _, _, 0, r => r
  | _, _, _ + 1, .nil => .nil
  | _, _, n + 1, .cons _ t => dpa_drop n t
theorem w_catQ {l b : Addr} {xs zs : List V} {ds es : List PyData} (h1 : H l = some (.lst xs)) (h2 : H b = some (.lst zs)) (g1 : DqAll K H xs ds) (g2 : DqAll K H zs es) (hl : ds.length + es.length ≤ 1000)
    (k : ∀ p H', Ex H H' → H' p = some (.lst (xs ++ zs)) → DqAll K H' (xs ++ zs) (ds ++ es) → Dq K H' (.ref p) (.list (ds ++ es)) → Q (.ref p) H') : rAddU K (.ref l) (.ref b) H Q := by
  have e1 := dpa_len g1.dp
  have e2 := dpa_len g2.dp
  refine .inr (.inl ⟨l, b, xs, zs, rfl, rfl, h1, h2, Nat.le_trans (by omega : xs.length + zs.length ≤ 1000) (by decide), fun p hp => ?_⟩)
  have g := (dqa_app g1 g2).up (Evl.Ex.new (o := .lst (xs ++ zs)) hp)
  exact k p _ (Evl.Ex.new hp) upd_same g (.lst (.inl (.inl upd_same)) g)
theorem w_catP {l b : Addr} {xs zs : List V} {ds es : List PyData} (h1 : H l = some (.lst xs)) (h2 : H b = some (.lst zs)) (g1 : DpAll K H xs ds) (g2 : DpAll K H zs es) (hl : ds.length + es.length ≤ 1000)
    (k : ∀ p H', Ex H H' → H' p = some (.lst (xs ++ zs)) → DpAll K H' (xs ++ zs) (ds ++ es) → Dp K H' (.ref p) (.list (ds ++ es)) → Q (.ref p) H') : rAddU K (.ref l) (.ref b) H Q := by
  have e1 := dpa_len g1
  have e2 := dpa_len g2
  refine .inr (.inl ⟨l, b, xs, zs, rfl, rfl, h1, h2, Nat.le_trans (by omega : xs.length + zs.length ≤ 1000) (by decide), fun p hp => ?_⟩)
  have g := Sk.DpAll.up (Evl.Ex.new (o := .lst (xs ++ zs)) hp) (dpa_app g1 g2)
  exact k p _ (Evl.Ex.new hp) upd_same g (.lst (.inl (.inl upd_same)) g)
/-- t + u of tuples -/
theorem w_catT {ds es : List PyData} (h1 : Dp K H v (.tuple ds)) (h2 : Dp K H w (.tuple es)) (hl : ds.length + es.length ≤ 1000) (k : ∀ v' H', Ex H H' → Dp K H' v' (.tuple (ds ++ es)) → Q v' H') : rAddU K v w H Q := by
  obtain ⟨p, xs, rfl, hp, ha⟩ := tup_inv h1
  obtain ⟨q, ys, rfl, hq, hb⟩ := tup_inv h2
  have e1 := dpa_len ha
  have e2 := dpa_len hb
  refine .inr (.inr ⟨p, q, xs, ys, rfl, rfl, hp, hq, Nat.le_trans (by omega : xs.length + ys.length ≤ 1000) (by decide), fun ex => ?_, fun ex ey => ?_, fun ex ey r hr => ?_⟩)
  · subst ex
    have : ds = [] := List.length_eq_zero_iff.mp e1.symm
    subst this
    exact k _ _ (Evl.Ex.refl H) h2
  · subst ey
    have : es = [] := List.length_eq_zero_iff.mp e2.symm
    subst this
    rw [List.append_nil] at k
    exact k _ _ (Evl.Ex.refl H) h1
  · exact k _ _ (Evl.Ex.new hr) (.tup (.inl (.inl upd_same)) (Sk.DpAll.up (Evl.Ex.new hr) (dpa_app ha hb)))
/-- t[lo:hi] -/
def cutD (ds : List PyData) (lo hi : Option Int) : List PyData := (ds.drop (HT.sIx ds.length 0 lo)).take (HT.sIx ds.length ds.length hi - HT.sIx ds.length 0 lo)
theorem w_slT {ds : List PyData} {lo hi : Option Int} (h1 : Dp K H v (.tuple ds)) (k : ∀ v' H', Ex H H' → Dp K H' v' (.tuple (cutD ds lo hi)) → Q v' H') : rSlU K v lo hi H Q := by
  obtain ⟨p, xs, rfl, hp, ha⟩ := tup_inv h1
  have e1 := dpa_len ha
  have hc : DpAll K H (cutV xs lo hi) (cutD ds lo hi) := by
    unfold cutV cutD
    rw [e1]
    exact dpa_take _ (dpa_drop _ ha)
  refine .inl ⟨p, xs, rfl, hp, fun hw => ?_, fun _ r hr => ?_⟩
  · refine k _ _ (Evl.Ex.refl H) (.tup hp ?_)
    have : cutV xs lo hi = xs := by
      unfold cutV
      rw [hw.1, hw.2, List.drop_zero, Nat.sub_zero, List.take_length]
    rw [this] at hc
    exact hc
  · exact k _ _ (Evl.Ex.new hr) (.tup (.inl (.inl upd_same)) (Sk.DpAll.up (Evl.Ex.new hr) hc))
def OptG (R : V → Hp → (Option Int → Hp → Prop) → Prop) := R
theorem w_sl {r : V → Option Int → Option Int → Hp → VK → Prop} (h : te σ H fun x H1 => tl σ H1 fun l H2 => th σ H2 fun u H3 => r x l u H3 Q) : tSl r te tl th σ H Q := h
theorem w_nopart {QO : Option Int → Hp → Prop} (h : QO none H) : tNoPart σ H QO := h
def PartG (QO : Option Int → Hp → Prop) (x : V) (H1 : Hp) : Prop := ∃ i, x = .int i ∧ QO (some i) H1
theorem w_part {QO : Option Int → Hp → Prop} (h : te σ H fun x H1 => PartG QO x H1) : tPart te σ H QO := h
theorem w_partg {QO : Option Int → Hp → Prop} {i : Int} (h : QO (some i) H) : PartG QO (.int i) H := ⟨i, rfl, h⟩
/-- an item of a list at a place that is not known -/
theorem w_ixany {p : Addr} {xs : List V} {ds : List PyData} {r : Int} (h : SqL K H p xs) (g : DqAll K H xs ds) (h0 : 0 ≤ r) (h1 : r < (ds.length : Nat)) (q : ∀ d v, d ∈ ds → Dq K H v d → Q v H) : rIx K (.ref p) (.int r) H Q := by
  have hx : ds[r.toNat]? = some (ds[r.toNat]'(by omega)) := List.getElem?_eq_getElem (by omega)
  have hat : atI ds r = some (ds[r.toNat]'(by omega)) := by
    have := atI_nat hx
    rwa [Int.toNat_of_nonneg h0] at this
  obtain ⟨u, e, hu⟩ := dqa_atQ g hat
  exact .inl ⟨p, xs, r, u, rfl, rfl, h, e, q _ _ (List.getElem_mem _) hu⟩
theorem w_ixanyp {p : Addr} {xs : List V} {ds : List PyData} {r : Int} (h : SqL K H p xs) (g : DpAll K H xs ds) (h0 : 0 ≤ r) (h1 : r < (ds.length : Nat)) (q : ∀ d v, d ∈ ds → Dp K H v d → Q v H) : rIx K (.ref p) (.int r) H Q := by
  have hx : ds[r.toNat]? = some (ds[r.toNat]'(by omega)) := List.getElem?_eq_getElem (by omega)
  have hat : atI ds r = some (ds[r.toNat]'(by omega)) := by
    have := atI_nat hx
    rwa [Int.toNat_of_nonneg h0] at this
  obtain ⟨u, e, hu⟩ := Sk.dpa_atI g hat
  exact .inl ⟨p, xs, r, u, rfl, rfl, h, e, q _ _ (List.getElem_mem _) hu⟩
/-- ints gathered by a comprehension over a range -/
theorem w_lcInts {g : TG} {te : TE} {vs : List Nat} {m : Nat} {p : Int → Prop} (hm : m ≤ 1000)
    (hs : ∀ (i : Nat) H' (Qy : V → Hp → Prop), i < m → Ex H H' → (∀ z H4, Ex H' H4 → p z → Qy (.int z) H4) → g (.int (0 + (i : Nat))) (wipe σ vs) H' fun σ2 H2 => wipe σ2 vs = wipe σ vs ∧ te σ2 H2 Qy)
    (hd : ∀ q (ns : List Int) H', Ex H H' → H' q = some (.lst (ns.map V.int)) → ns.length = m → (∀ z ∈ ns, p z) → Q (.ref q) H') : LcG 0 m g tYes te vs σ H Q := by
  have st : ∀ (i : Nat) acc (H' : Hp) (l : Addr) (xs ys : List V), H' l = some (.lst xs) → (∃ ns : List Int, acc = ns.map V.int ∧ ns.length = i ∧ ∀ z ∈ ns, p z) → (∃ ns : List Int, acc = ns.map V.int ∧ ns.length = i ∧ ∀ z ∈ ns, p z) := fun _ _ _ _ _ _ _ h => h
  refine w_lcg (fun i acc _ => ∃ ns : List Int, acc = ns.map V.int ∧ ns.length = i ∧ ∀ z ∈ ns, p z) hm (fun _ _ => ⟨[], rfl, rfl, fun _ z => nomatch z⟩) st (fun i acc _ h => by obtain ⟨ns, rfl, h2, _⟩ := h; rw [List.length_map]; omega) (fun Dl i acc H' hi hD h1 e1 hp => ?_) (fun q acc H' e h hp => ?_)
  · have := hs i H' (fun y H4 => ∃ acc, H4 Dl = some (.lst acc) ∧ acc.length < sizeLine ∧ LcW (fun i acc _ => ∃ ns : List Int, acc = ns.map V.int ∧ ns.length = i ∧ ∀ z ∈ ns, p z) H Dl (i + 1) (upd H4 Dl (.lst (acc ++ [y])))) hi e1 (fun z H4 e4 pz => ?_)
    · exact this
    · obtain ⟨ns, rfl, h2, h3⟩ := hp
      refine w_lct (P := fun i acc _ => ∃ ns : List Int, acc = ns.map V.int ∧ ns.length = i ∧ ∀ z ∈ ns, p z) hD h1 e1 e4 (by rw [List.length_map]; omega) st ⟨ns ++ [z], by rw [List.map_append]; rfl, by rw [List.length_append]; simp; omega, fun y hy => ?_⟩
      rcases List.mem_append.mp hy with hy | hy
      · exact h3 y hy
      · rw [List.mem_singleton.mp hy]; exact pz
  · obtain ⟨ns, rfl, h2, h3⟩ := hp
    exact hd q ns H' e h h2 h3
theorem pr_upd {a b : Int} {l : Addr} {xs ys : List V} (h : H l = some (.lst xs)) (hd : Dq K H v (pr a b)) : Dq K (upd H l (.lst ys)) v (pr a b) := by
  obtain ⟨p, zs, rfl, ⟨h1, h2⟩, ha⟩ := qtup_inv hd
  refine .tup (xs := zs) ⟨?_, ?_⟩ ?_
  · rcases h1 with (h1 | ⟨o, h1⟩) | h1
    · exact .inl (.inl (by rw [upd_ne (ne_of h1 h (by intro z; cases z))]; exact h1))
    · exact .inl (.inr ⟨o, by rw [upd_ne (ne_of h1 h (by intro z; cases z))]; exact h1⟩)
    · exact .inr h1
  · rcases h2 with ⟨o, u, e, d⟩ | h2
    · exact .inl ⟨o, u, by rw [upd_ne (ne_of e h (by intro z; cases z))]; exact e, d⟩
    · exact .inr h2
  · cases ha with
    | cons r1 r2 => cases r2 with
      | cons r3 r4 =>
        cases r4
        rw [qint_inv r1, qint_inv r3]
        exact .cons (.int a) (.cons (.int b) .nil)
/-- pairs gathered by a comprehension -/
theorem w_lcPairs {g : TG} {te : TE} {vs : List Nat} {m : Nat} {p : Int × Int → Prop} (hm : m ≤ 1000)
    (hs : ∀ (i : Nat) H' (Qy : V → Hp → Prop), i < m → Ex H H' → (∀ z v H4, Ex H' H4 → p z → Dq K H4 v (pr z.1 z.2) → Qy v H4) → g (.int (0 + (i : Nat))) (wipe σ vs) H' fun σ2 H2 => wipe σ2 vs = wipe σ vs ∧ te σ2 H2 Qy)
    (hd : ∀ q xs (ns : List (Int × Int)) H', Ex H H' → H' q = some (.lst xs) → DqAll K H' xs (ns.map fun z => pr z.1 z.2) → ns.length = m → (∀ z ∈ ns, p z) → Q (.ref q) H') : LcG 0 m g tYes te vs σ H Q := by
  have aux : ∀ (H' : Hp) (l : Addr) (xs ys : List V), H' l = some (.lst xs) → ∀ (ns : List (Int × Int)) acc, DqAll K H' acc (ns.map fun z => pr z.1 z.2) → DqAll K (upd H' l (.lst ys)) acc (ns.map fun z => pr z.1 z.2) := by
    intro H' l xs ys hl ns
    induction ns with
    | nil => intro acc h; cases h; exact .nil
    | cons n ns ih =>
      intro acc h
      cases h with
      | cons h1 h2 => exact .cons (pr_upd hl h1) (ih _ h2)
  have st : ∀ (i : Nat) acc (H' : Hp) (l : Addr) (xs ys : List V), H' l = some (.lst xs) → (∃ ns : List (Int × Int), DqAll K H' acc (ns.map fun z => pr z.1 z.2) ∧ ns.length = i ∧ ∀ z ∈ ns, p z) → (∃ ns : List (Int × Int), DqAll K (upd H' l (.lst ys)) acc (ns.map fun z => pr z.1 z.2) ∧ ns.length = i ∧ ∀ z ∈ ns, p z) :=
    fun _ _ _ _ _ _ hl ⟨ns, h1, h2⟩ => ⟨ns, aux _ _ _ _ hl _ _ h1, h2⟩
  refine w_lcg (fun i acc H' => ∃ ns : List (Int × Int), DqAll K H' acc (ns.map fun z => pr z.1 z.2) ∧ ns.length = i ∧ ∀ z ∈ ns, p z) hm (fun _ _ => ⟨[], .nil, rfl, fun _ z => nomatch z⟩) st (fun i acc _ h => by obtain ⟨ns, h1, h2, _⟩ := h; rw [dpa_len h1.dp, List.length_map]; omega) (fun Dl i acc H' hi hD h1 e1 hp => ?_) (fun q acc H' e h hp => ?_)
  · have := hs i H' (fun y H4 => ∃ acc, H4 Dl = some (.lst acc) ∧ acc.length < sizeLine ∧ LcW (fun i acc H' => ∃ ns : List (Int × Int), DqAll K H' acc (ns.map fun z => pr z.1 z.2) ∧ ns.length = i ∧ ∀ z ∈ ns, p z) H Dl (i + 1) (upd H4 Dl (.lst (acc ++ [y])))) hi e1 (fun z v H4 e4 pz hv => ?_)
    · exact this
    · obtain ⟨ns, ha, h2, h3⟩ := hp
      refine w_lct (P := fun i acc H' => ∃ ns : List (Int × Int), DqAll K H' acc (ns.map fun z => pr z.1 z.2) ∧ ns.length = i ∧ ∀ z ∈ ns, p z) hD h1 e1 e4 (by rw [dpa_len ha.dp, List.length_map]; omega) st ⟨ns ++ [z], ?_, by rw [List.length_append]; simp; omega, fun y hy => ?_⟩
      · rw [List.map_append]
        exact dqa_app (ha.up e4) (.cons hv .nil)
      · rcases List.mem_append.mp hy with hy | hy
        · exact h3 y hy
        · rw [List.mem_singleton.mp hy]; exact pz
  · obtain ⟨ns, ha, h2, h3⟩ := hp
    exact hd q acc ns H' e h ha h2 h3
/-- tuple(l) -/
theorem w_tupOf {p : Addr} {xs : List V} {ds : List PyData} (h : SqL K H p xs) (g : DqAll K H xs ds) (q : ∀ r H', Ex H H' → Dq K H' (.ref r) (.tuple ds) → Q (.ref r) H') : kTupF K (.ref p) H Q :=
  ⟨p, xs, rfl, h, fun r o hr ho => q r _ (Evl.Ex.new hr) (.tup ⟨.inl (.inr ⟨o, upd_same⟩), .inl ⟨o, _, upd_same, ho⟩⟩ (g.up (Evl.Ex.new hr)))⟩
/-- [x] * 2 -/
theorem w_rep2 {l : Addr} {x : V} (h : H l = some (.lst [x])) (q : ∀ p H', Ex H H' → H' p = some (.lst [x, x]) → Q (.ref p) H') : rMulU (.ref l) (.int 2) H Q :=
  .inr ⟨l, 2, [x], rfl, rfl, h, by decide, by decide, (show 2 ≤ sizeLine by decide), fun p hp => q p _ (Evl.Ex.new hp) upd_same⟩
theorem w_kw1 {sp : Sp} {n : Nat} (e : 1 = n) (h : sp [v] H Q noX) : [v].length = n ∧ sp ((fun zs => zs) [v]) H Q noX := ⟨e, h⟩
theorem w_kw2 {sp : Sp} {n : Nat} (e : 2 = n) (h : sp [w, v] H Q noX) : [v, w].length = n ∧ sp (swap2 [v, w]) H Q noX := ⟨e, h⟩
/-- l * n -/
theorem w_rep {l : Addr} {xs : List V} {ds : List PyData} {n : Int} (h : H l = some (.lst xs)) (g : DqAll K H xs ds) (h0 : 0 ≤ n) (h1 : n ≤ 100) (h2 : xs.length ≤ 100)
    (q : ∀ p H', Ex H H' → H' p = some (.lst (List.flatten (List.replicate n.toNat xs))) → DqAll K H' (List.flatten (List.replicate n.toNat xs)) (List.flatten (List.replicate n.toNat ds)) → Q (.ref p) H') : rMulU (.ref l) (.int n) H Q := by
  refine .inr ⟨l, n, xs, rfl, rfl, h, by omega, by omega, ?_, fun p hp => ?_⟩
  · have : xs.length * n.toNat ≤ 100 * 100 := Nat.mul_le_mul h2 (by omega)
    exact Nat.le_trans this (by decide)
  · have aux : ∀ k : Nat, DqAll K H (List.flatten (List.replicate k xs)) (List.flatten (List.replicate k ds)) := by
      intro k
      induction k with
      | zero => exact .nil
      | succ k ih =>
        rw [List.replicate_succ, List.replicate_succ, List.flatten_cons, List.flatten_cons]
        exact dqa_app g ih
    exact q p _ (Evl.Ex.new hp) upd_same ((aux _).up (Evl.Ex.new hp))
end
end Sk

namespace Sk
open PySem PySem.Spec PyProof.Rows L2
section
variable {P : Program} {w : World} {K : PySem.W.Frag} {mg : Str → Option Value} {base : Heap} {x : Str} {st : Stmt} {f : Addr} {fd : FuncData} {k : Nat} {ps : List Str} {sp : Sp} {p q : Str}
theorem cal_mk (F : Fun K x x st f fd) (G : FnOk P w K mg base CX0 k f fd ps sp) (m : mg x = some (.ref f)) (b : Binds K fd ps []) : Cal P w K mg base k x ps sp :=
  ⟨f, fd, G, m, F.kp, b⟩
theorem calk1 (F : Fun K x x st f fd) (G : FnOk P w K mg base CX0 k f fd [p] sp) (m : mg x = some (.ref f))
    (h : ∀ (kV doc pm : Value) (an : Option Addr) (cdv ct : Value) (u : Value), bindArgs (PySem.W.fnOf x x (defArgs st) (defBody st) (defScope st) .none kV doc pm an cdv ct) ⟨[], [(p, u)]⟩ = pure [(p, u)]) : CalK P w K mg base k x [p] [p] (fun zs => zs) sp := by
  obtain ⟨oc, od, kV, doc, pm, an, cdv, ct, osl, e, lk, hcd⟩ := F.ex
  refine ⟨f, fd, fun ws => ws, G, m, F.kp, fun s ws hl => ?_, fun zs ws _ r => r⟩
  subst e
  match ws, hl with
  | [u], _ => exact .of_eq (h kV doc pm an cdv ct u)
theorem calk2 (F : Fun K x x st f fd) (G : FnOk P w K mg base CX0 k f fd [p, q] sp) (m : mg x = some (.ref f))
    (h : ∀ (kV doc pm : Value) (an : Option Addr) (cdv ct : Value) (u v : Value), bindArgs (PySem.W.fnOf x x (defArgs st) (defBody st) (defScope st) .none kV doc pm an cdv ct) ⟨[], [(q, v), (p, u)]⟩ = pure [(p, u), (q, v)]) : CalK P w K mg base k x [p, q] [q, p] swap2 sp := by
  obtain ⟨oc, od, kV, doc, pm, an, cdv, ct, osl, e, lk, hcd⟩ := F.ex
  refine ⟨f, fd, fun ws => match ws with | [a, b] => [b, a] | _ => ws, G, m, F.kp, fun s ws hl => ?_, fun zs ws hl r => ?_⟩
  · subst e
    match ws, hl with
    | [v, u], _ => exact .of_eq (h kV doc pm an cdv ct u v)
  · match zs, ws, hl, r with
    | [_, _], [_, _], _, .cons a (.cons b .nil) => exact .cons b (.cons a .nil)
    | [_, _], [], _, r => cases r
    | [_, _], [_], _, r => cases r with | cons _ t => cases t
    | [_, _], _ :: _ :: _ :: _, _, r => cases r with | cons _ t => cases t with | cons _ t => cases t
/-- a pair of ints of the written part -/
theorem wr_pair {H : Hp} {a : Addr} {i j : Int} {t u : Tok} {n : Nat} {sl : Array (Option Value)} (h : K.lookup a = some ⟨.type "tuple", none, .seq #[.int i t, .int j u] n, sl⟩) : Dq K H (.ref a) (.tuple [.int i, .int j]) :=
  .tup (xs := [.int i, .int j]) ⟨.inr ⟨_, _, _, h, rfl, rfl, (show 2 ≤ sizeLine by decide), .cons ⟨t, rfl⟩ (.cons ⟨u, rfl⟩ .nil)⟩, .inr ⟨_, h, rfl⟩⟩ (.cons (.int i) (.cons (.int j) .nil))
theorem wr_two {H : Hp} {a b c : Addr} {d1 d2 : PyData} {n : Nat} {sl : Array (Option Value)} (h : K.lookup a = some ⟨.type "tuple", none, .seq #[.ref b, .ref c] n, sl⟩) (h1 : Dq K H (.ref b) d1) (h2 : Dq K H (.ref c) d2) : Dq K H (.ref a) (.tuple [d1, d2]) :=
  .tup (xs := [.ref b, .ref c]) ⟨.inr ⟨_, _, _, h, rfl, rfl, (show 2 ≤ sizeLine by decide), .cons rfl (.cons rfl .nil)⟩, .inr ⟨_, h, rfl⟩⟩ (.cons h1 (.cons h2 .nil))
end
end Sk

set_option maxHeartbeats 4000000
/-! an own exception class, made with one keyword and nothing else -/
namespace Sk
open PySem PySem.W PySem.Calls PyProof.Rows PySem.HandSPX
/-- a class of the text that descends from ValueError and is made by ValueError.__new__, as it lies in the heap h -/
structure Lies (h : Heap) (C : Addr) : Prop where
  obj : ∃ nm q N bs bm hd sn sub ab col dd k0 k1 k2 k3 k5, h.get? C = some (excClassObj nm q C N bs bm hd sn sub ab col dd k0 k1 k2 k3 k5 "ValueError.__new__") ∧ ∀ T : String, (Value.ref C :: bm).contains (.type T) = veTail.contains (.type T)
/-- the exception that is new in h, and its empty args -/
def fresh (h : Heap) (C : Addr) : Heap := (h.push (kdv_tup [])).push (excO C h.objs.size)
theorem fresh_keeps {h : Heap} {C b : Addr} {o : Obj} (e : h.get? b = some o) : (fresh h C).get? b = some o := Heap.get?_push_of_some _ (Heap.get?_push_of_some _ e)
theorem fresh_at {h : Heap} {C : Addr} : (fresh h C).get? (h.objs.size + 1) = some (excO C h.objs.size) := by
  unfold fresh
  heap_get
section
variable {prog : Program} {w : World} {A : Around} {E : Value → Shared → Prop} {R : Result → Shared → Prop} {h : Heap} {g : Array GenState} {d : Drawn} {t : Nat} {os : OsState} {C : Addr} {x : Str} {v : Value}
/-- the maker takes any keyword -/
theorem new_kw (L : Lies h C) (q : R (.ok (.ret (.ref (h.objs.size + 1)))) ⟨fresh h C, g, d, t, os⟩) : codeAny (model prog w) A (.call (.builtin "ValueError.__new__") ⟨[.ref C], [(x, v)]⟩) R ⟨h, g, d, t, os⟩ := by
  obtain ⟨nm, qn, N, bs, bm, hd, sn, sub, ab, col, dd, k0, k1, k2, k3, k5, hC, hT⟩ := L.obj
  have V := F.excBase_ValueError
  have own : (Value.ref C :: bm).contains (.type "ValueError") = true := (hT _).trans (by decide +kernel)
  have noA : (Value.ref C :: bm).contains (.type "AttributeError") = false := (hT _).trans (by decide +kernel)
  have noN : (Value.ref C :: bm).contains (.type "NameError") = false := (hT _).trans (by decide +kernel)
  have ends := V.ends
  have star := V.noStar
  have few : ([] : List Value).length ≤ sizeLine := Nat.zero_le _
  refine codeAny_call_builtin_code (Code.quiet_builtin _ V.quiet) ?_
  · simp only [checkBuiltinCall, V.newKind, V.newSplit, V.newRow]
    repeat (first | exact wpAny_pure trivial | refine wpAny_staticBase_exc hC ?_ | refine wpAny_madeBy_exc hC ?_ | refine wpAny_loadPart_at hC ?_ | (refine wpAny_isSubtype_exc hC ?_; rw [own]) | simp only [bne_self_eq_false, Bool.false_eq_true, if_false] | wp_step)
    refine codeAny_builtinAt V.entry ?_
    unfold Builtin.«BaseException.__new__»
    refine PySem.wpAt_bind (show PySem.wpAt _ _ _ (stack >>= _) _ _ _ from PySem.wpAt_bind (PySem.wpAt_stack fun _ _ => PySem.wpAt_of_wpAny ?_))
    wp_walk
    refine PySem.wpAt_of_wpAny ?_
    rw [V.owner]
    repeat (first | (with_reducible refine wpAny_isSubtype_exc hC ?_; first | rw [own] | rw [noA] | rw [noN]) | with_reducible refine wpAny_madeHere_exc V.canon hC ?_ | with_reducible refine wpAny_loadPart_at hC ?_ | wp_step)
    show R _ _
    rw [Heap.size_push]
    exact q
/-- the class called with one keyword: its __init__ (at fI) runs on the new exception -/
theorem call_kw {fI : Addr} (L : Lies h C) (li : W.Looks (model prog w) h (typeLookup (.ref C) "__init__") (some (.ref fI))) (lb : ∀ self, W.Looks (model prog w) h (bindSpecial (.ref fI) self) (.ref fI, [self]))
    (q : codeAny (model prog w) (A.under (.builtin "type.__call__" ⟨[.ref C], [(x, v)]⟩)) (.call (.ref fI) ⟨[.ref (h.objs.size + 1)], [(x, v)]⟩) (InitBack (h.objs.size + 1) R) ⟨fresh h C, g, d, t, os⟩) :
    codeAny (model prog w) A (.call (.ref C) ⟨[], [(x, v)]⟩) R ⟨h, g, d, t, os⟩ := by
  have L' := L
  obtain ⟨nm, qn, N, bs, bm, hd, sn, sub, ab, col, dd, k0, k1, k2, k3, k5, hC, -⟩ := L'
  have lk := tc_lookup
  have bd := tc_bind (.ref C)
  have sb := tc_sub
  have ty : (⟨h, g, d, t, os⟩ : Shared).TypeIs (.ref C) "type" := ⟨_, hC, rfl⟩
  refine codeAny_of_tree (show wpAny _ _ (callAny (.ref C) _) _ _ _ from ?_)
  repeat (any_goals (first | with_reducible refine wpAny_loadPart_at hC ?_ | assumption | wp_step))
  refine ⟨rfl, codeAny_call_builtin_at (Code.quiet_builtin _ (by decide +kernel)) entry_typeCall ?_⟩
  have body : ∀ {A' : Around} {E' : Value → Shared → Prop} {Q' : Fin → Shared → Prop},
      codeAny (model prog w) A' (.call (.ref fI) ⟨[.ref (h.objs.size + 1)], [(x, v)]⟩) (fun r s' => match r with | .ok (.ret u) => u = .none ∧ Q' (.done (.ret (.ref (h.objs.size + 1)))) s' | .ok _ => False | .error e => E' e s') ⟨fresh h C, g, d, t, os⟩ →
      wpAny (model prog w) A' (Builtin.«type.__call__» ⟨[.ref C], [(x, v)]⟩) Q' E' ⟨h, g, d, t, os⟩ := by
    intro A' E' Q' z
    have own : (Value.ref C :: bm).contains (.ref C) = true := by simp
    have hC2 := fresh_keeps (C := C) hC
    have li2 := li.keeps (h' := fresh h C) fun _ _ e => fresh_keeps e
    have lb2 := (lb (.ref (h.objs.size + 1))).keeps (h' := fresh h C) fun _ _ e => fresh_keeps e
    repeat (first | with_reducible refine wpAny_madeBy_exc hC ?_ | with_reducible refine wpAny_loadPart_at hC ?_ | wp_step)
    refine new_kw L (show wpAny _ _ _ _ _ _ from ?_)
    unfold isInstance
    repeat (first | (with_reducible refine wpAny_isSubtype_exc hC2 ?_; rw [own]) | with_reducible refine wpAny_loadPart_at fresh_at ?_ | wp_step)
    show wpAny _ _ (typeLookup (.ref C) _) _ _ _
    refine li2.at (wpAny_holding (wpAny_bind (lb2.at (wpAny_bind (wpAny_call (codeAny_mono z ?_))))))
    intro r s' hr
    match r, hr with
    | .error _, hr => exact hr
    | .ok (.ret _), ⟨e, hr⟩ =>
      subst e
      first
        | exact wpAny_pure (wpAny_pure hr)
        | (wp_walk; exact hr)
    | .ok .next, hr => exact hr.elim
    | .ok .brk, hr => exact hr.elim
    | .ok .cont, hr => exact hr.elim
  simp only [checkBuiltinCall, tc_kind, tc_split]
  repeat (any_goals (first | exact body (codeAny_mono q fun r s' hr => by rcases r with e | (u | _ | _ | _) <;> exact hr) | assumption | with_reducible refine wpAny_onRaise ?_ | with_reducible refine wpAny_map ?_ | with_reducible refine wpAny_loadPart_at hC ?_ | wp_step))
end
end Sk

set_option maxHeartbeats 2000000
namespace Sk
open PySem PySem.Spec PyProof.Rows L2
open Evl (Ex ex_l ex_t)

/-! ### an exception that is held as a value -/
/-- at a: an exception of the class cls, its dict at d -/
def ExHv (cls : Value) (d : Option Addr) (a : Addr) : HO := .ext fun h => ∃ (oe : Obj) (vs : Array Value), h.get? a = some oe ∧ Zc cls d oe ∧ oe.data = .fields vs
theorem exHv_ok {P : Program} {w : World} {H : Hp} {h : Heap} {a : Addr} {cls : Value} {d : Option Addr} {oe : Obj} {vs : Array Value} (e : h.get? a = some oe) (z : Zc cls d oe) (hd : oe.data = .fields vs) : ObjOk P w H h a (ExHv cls d a) :=
  ⟨⟨oe, vs, e, z, hd⟩, ⟨oe, e⟩, fun _ _ ⟨o, v, q, r⟩ k => ⟨o, v, k o q, r⟩⟩
section
variable {X : Cx} {pins : List (Addr × Obj)} {σ : St} {H : Hp} {s : Shared}
/-- an object that is not tracked as yet, new since the entry, is tracked from here on -/
theorem track {a : Addr} {cls : Value} {d : Option Addr} {oe : Obj} {vs : Array Value} (I : Inv X pins σ H s) (ha : s.heap.get? a = some oe) (hz : Zc cls d oe) (hd : oe.data = .fields vs) (na : H a = none) (n0 : X.s_0.heap.get? a = none)
    (nL : a ≠ X.env.locals) (np : ∀ p ∈ X.pn ++ pins, p.1 ≠ a) : Inv X pins σ (upd H a (ExHv cls d a)) s := by
  have ne0 : ∀ b o, X.s_0.heap.get? b = some o → b ≠ a := fun b o e z => by
    rw [z, n0] at e
    cases e
  refine ⟨I.ok, I.os, I.bare, ⟨I.base.keep, I.base.slot, fun b o e n hq => ?_, I.base.there, fun b xs e => ?_, fun b o u e => ?_, fun b ps e => ?_⟩, I.loc, I.cell, ?_, fun x c e => ?_, fun p hp => ?_, ?_, I.len⟩
  · rw [upd_ne (ne0 b o e)]
    exact I.base.free b o e n hq
  · have q := I.base.tups b xs e
    rw [upd_ne (ne_of_none q na)]
    exact q
  · have q := I.base.frzs b o u e
    rw [upd_ne (ne_of_none q na)]
    exact q
  · obtain ⟨m, q⟩ := I.base.tbls b ps e
    exact ⟨m, by rw [upd_ne (ne_of_none q na)]; exact q⟩
  · rw [upd_ne (Ne.symm nL)]
    exact I.free
  · obtain ⟨v, o, ho, hdc⟩ := I.cell x c e
    have hc : c ≠ a := fun z => by
      rw [z, ha] at ho
      cases ho
      rw [hd] at hdc
      cases hdc
    rw [upd_ne hc]
    exact I.freeC x c e
  · obtain ⟨e, n, ne, nf, dd⟩ := I.pin p hp
    exact ⟨e, by rw [upd_ne (np p hp)]; exact n, ne, nf, dd⟩
  · exact I.hok.laidN (fun _ _ e => e) na (exHv_ok ha hz hd)
end

/-- nothing but a plain end -/
def justNx (D : Ends) : Ends := { nx := D.nx, rt := fun _ _ => False, bk := fun _ _ => False, ct := fun _ _ => False }
/-- 'except x as n' that catches, and whose suite ends behind itself: the exception is held from there on -/
def wHold (K : PySem.W.Frag) (c : Value) (i : Nat) (ts : Addr → Value → Option Addr → TS) (D : Ends) : WX := fun cls d σ H =>
  PySem.W.exmOne K cls c = some true ∧ ∀ a, H a = none → ts a cls d (justNx { nx := fun σ' H' => H' a = none → D.nx (σ'.set i none) (upd H' a (ExHv cls d a)), rt := fun _ _ => False }) (σ.set i (some (.ref a))) H
/-- an exception in the air is none of the frames -/
theorem apart {B h : Heap} {l : List Env} {a : Addr} {cls : Value} {d : Option Addr} (f : HandSPX.FlyingZ B l a (Zc cls d) h) : a ∉ frs l := by
  intro m
  obtain ⟨oe, vs, he, -, hd⟩ := f.there
  obtain ⟨-, o, ho, no⟩ := f.2.2.1.mem m
  cases he.symm.trans ho
  exact no vs hd
/-- it is new since the entry, and none of what is held fast -/
structure Newly (X : Cx) (pins : List (Addr × Obj)) (a : Addr) : Prop where
  since : X.s_0.heap.get? a = none
  pin : ∀ p ∈ X.pn ++ pins, p.1 ≠ a
  loc : a ≠ X.env.locals
  fr : a ∉ X.fs
theorem newly {X : Cx} {pins : List (Addr × Obj)} {σ : St} {H : Hp} {sI : Shared} {B h : Heap} {a : Addr} {cls : Value} {d : Option Addr} (I : Inv X pins σ H sI) (hs : X.stack = X.env :: X.outer) (hf : X.env.frame = some X.env.locals) (hex : X.ex = [])
    (kept : ∀ b o, sI.heap.get? b = some o → b ∉ frs X.stack → B.get? b = some o) (f : HandSPX.FlyingZ B (X.env :: X.outer) a (Zc cls d) h) : Newly X pins a := by
  have ap := apart f
  have gone : sI.heap.get? a = none := Option.eq_none_iff_forall_ne_some.mpr fun o e => by
    have := kept a o e (hs ▸ ap)
    rw [f.2.1] at this
    exact nomatch this
  refine ⟨Option.eq_none_iff_forall_ne_some.mpr fun o e => ?_, fun p hp e => ?_, fun e => ap ?_, fun m => ap ?_⟩
  · obtain ⟨o', e'⟩ := I.base.there a o e (hex ▸ List.not_mem_nil)
    exact nomatch gone.symm.trans e'
  · have := (I.pin p hp).1
    rw [e, gone] at this
    exact nomatch this
  · exact List.mem_filterMap.mpr ⟨X.env, .head _, e ▸ hf⟩
  · obtain ⟨v, hv, q⟩ := List.mem_filterMap.mp m
    exact List.mem_filterMap.mpr ⟨v, .tail _ hv, q⟩
/-- the class that the clause names is read -/
theorem named {X : Cx} {pins : List (Addr × Obj)} {σ : St} {H : Hp} {s : Shared} {x : Str} {c : Value} {p : Pos} {Q : Value → Shared → Prop} {E : Value → Shared → Prop} (I : Inv X pins σ H s) (hc : Names X x c) (q : Q c s) : wpAny (model X.prog X.w) X.A (eval (.Name x p) X.env) Q E s := by
  obtain ⟨g, nd, own | ⟨no, blt, nn⟩⟩ := hc
  · exact ld_glob I g own q nd
  · exact ld_blt I g no blt q nn nd
section
variable {X : Cx} {x n : Str} {c : Value} {i : Nat} {body suite : List Stmt} {b₀ : Stmt} {np pos pos' : Pos} {tb : WX → TS} {ts : Addr → Value → Option Addr → TS}
theorem ps_try_hold (hs : X.stack = X.env :: X.outer) (hf : X.env.frame = some X.env.locals) (hex : X.ex = []) (hN : X.N.Nodup) (hi : X.N[i]? = some n) (hln : X.env.kindOf n = some .local) (hc : Names X x c)
    (hb : ∀ (W : WX) (pn : List (Addr × Obj)) (xe : Value → Shared → Prop), Takes (X.tr pn xe) W → PassesOwn (model X.prog X.w) X.A X.env xe → PSs (X.tr pn xe) body (tb W))
    (hsu : ∀ (a : Addr) (oe : Obj) (cls : Value) (d : Option Addr) (pn : List (Addr × Obj)), Zc cls d oe → (∃ vs, oe.data = .fields vs) → PSs (X.suite a ((a, oe) :: pn)) (b₀ :: suite) (ts a cls d)) :
    PS X (.Try body [.ExceptHandler (some (.Name x np)) (some n) (b₀ :: suite) pos'] [] [] pos) (fun D σ H => tb (wHold X.K c i ts D) (justNx D) σ H) := by
  refine ⟨fun pins s σ H D I h => wpAny_Try_except ?_⟩
  have ok := I.ok
  have frames : X.A.frames = some (X.env :: X.outer) := ok.frames.trans (congrArg some hs)
  refine wpAny_mono ((hb (wHold X.K c i ts D) (X.pn ++ pins) _ ?air PassesOwn.looking).run [] s σ H (justNx D) (I.toTry _) h) (fun f s1 z => ?ends) fun _ _ z => z
  case ends =>
    match f, z with
    | .next, ⟨σ1, H1, I1, q⟩ => exact wpAny_execs_nil ⟨σ1, H1, I1.ofTry ok, q⟩
    | .brk, ⟨_, _, _, q⟩ => exact q.elim
    | .cont, ⟨_, _, _, q⟩ => exact q.elim
    | .ret _, ⟨_, _, _, _, _, q⟩ => exact q.elim
  case air =>
    rintro _ s' ⟨a, B, sI, _, σ1, H1, cls, d, rfl, J', kept, up, sky, na, os, bare, hm, go⟩
    have J := J'.ofTry ok
    rw [show (X.tr (X.pn ++ pins) _).stack = X.env :: X.outer from hs] at sky
    refine Sky.land Zc.steady frames hf sky fun h3 f3 u3 => ?_
    have nw := newly J hs hf hex kept f3
    have up3 := up.trans u3
    have J3 : Inv X pins σ1 H1 { s' with heap := h3 } := J.landed kept f3.1 up3 os bare
    obtain ⟨o3, v3, e3, z3, d3⟩ := f3.there
    have type : PySem.W.Looks (model X.prog X.w) h3 (typeOf (.ref a)) cls := fun _ _ _ _ k q => wpAny_typeOf_ref (k _ _ e3) (z3.1 ▸ q)
    refine wpAny_handleBy_cons (codeAny_handlers_test ?_) nofun
    refine named (X := X.suite a ((a, o3) :: (X.pn ++ pins))) (J3.suite e3 d3 na nw.loc nw.fr) hc ((PySem.W.exm_one J3.kIn type hm).here (codeAny_handlers_suite_as (HandSPX.lands_againZ f3 fun h4 f4 u4 => ?_)))
    obtain ⟨o4, v4, e4, z4, d4⟩ := f4.there
    have J4 : Inv X pins σ1 H1 { s' with heap := h4 } := J.landed kept f4.1 (up3.trans u4) os bare
    refine store_ok (X := X.suite a ((a, o4) :: (X.pn ++ pins))) (v := .ref a) (J4.suite e4 d4 na nw.loc nw.fr) hN hi (.inl hln) rfl (fun s5 S5 => ?_) (.inr hln)
    refine wpAny_mono ((hsu a o4 cls d (X.pn ++ pins) z4 ⟨_, d4⟩).run [] s5 _ H1 _ S5 (go a na)) (fun f s6 z => ?_) fun _ _ z => z.elim
    match f, z with
    | .next, ⟨σ6, H6, S6, q⟩ =>
      have held := S6.pin (a, o4) (List.mem_append_left _ (.head _))
      exact gone_ok (track (S6.unsuite ok) held.1 z4 d4 held.2.1 nw.since nw.loc nw.pin) hN hi hln fun _ J7 => ⟨_, _, J7, q held.2.1⟩
    | .brk, ⟨_, _, _, q⟩ => exact q.elim
    | .cont, ⟨_, _, _, q⟩ => exact q.elim
    | .ret _, ⟨_, _, _, _, _, q⟩ => exact q.elim
end
end Sk

set_option maxHeartbeats 2000000
namespace Sk
open PySem PySem.Spec PyProof.Rows L2
open Evl (Ex ex_l ex_t)

/-- an own exception class whose __init__ (at fI) keeps its one argument as value -/
structure ExK (K : PySem.W.Frag) (fI C : Addr) : Prop where
  o : OexC K C
  it : PySem.W.findIn K (.ref C) "__init__" = some (some (.ref fI))
  no : PySem.W.findIn K (.ref C) "value" = some none
  xf : XfC K C
  xc : ExcC K C
/-- an exception of the class C at a, its value g -/
structure ExAt (H : Hp) (a C : Addr) (g : V) : Prop where
  ex : ∃ d, H a = some (ExHv (.ref C) (some d) a) ∧ H d = some (.xd [("value", g)])
theorem ExAt.up {H H' : Hp} {a C : Addr} {g : V} (h : ExAt H a C g) (e : Ex H H') : ExAt H' a C g := by
  obtain ⟨d, h1, h2⟩ := h.ex
  exact ⟨d, e _ _ h1, e _ _ h2⟩
/-- KitError.__init__ -/
def spIni (K : PySem.W.Frag) : Sp := fun vs H Q _ => ∃ (a C : Addr) (g : V), vs = [.ref a, g] ∧ OexC K C ∧ PySem.W.findIn K (.ref C) "value" = some none ∧ H a = some (exo a C none) ∧ ∀ dx, H dx = none → dx ≠ a → Q .non (upd (upd H dx (exd dx [("value", g)])) a (exo a C (some dx)))
/-- X(..) with the value g, raised: its class C -/
def MkE (H : Hp) (C : Addr) (g : V) (Q : XK) : Prop := ∀ d H', Ex H H' → H' d = some (.xd [("value", g)]) → Q (.ref C) (some d) H'
/-- an exception object is told of in the state s -/
theorem ex_inst {X : Cx} {pins : List (Addr × Obj)} {σ : St} {H : Hp} {s : Shared} {a C : Addr} {g : V} (I : Inv X pins σ H s) (h : ExAt H a C g) :
    ∃ oe od u, PySem.W.InstAt s.heap a oe C (some od) ∧ PySem.W.lookIn "value" od = some u ∧ RelO (some g) u := by
  obtain ⟨d, h1, h2⟩ := h.ex
  obtain ⟨⟨oe, vs, e, z, hd⟩, _⟩ := I.hok a _ h1
  have hx : ObjOk X.prog X.w H s.heap d (.xd [("value", g)]) := I.hok d _ h2
  obtain ⟨mA, hns, hr⟩ := hx
  obtain ⟨od, ho, hl⟩ := lookIn_ns hns
  have q := hr "value"
  exact ⟨oe, od, mA "value", ⟨e, z.1, by unfold PySem.W.notCls; rw [hd] <;> rfl, by rw [z.2]; exact ho⟩, hl _, q⟩
section
variable {X : Cx} {K : PySem.W.Frag} {pos p : Pos} {e : Expr} {te : TE} {x : Str} {C fI : Addr}
/-- e.value, e an exception that is held -/
def tXv (K : PySem.W.Frag) (fI : Addr) (te : TE) : TE := fun σ H Q => te σ H fun x H1 => ∃ a C g, x = .ref a ∧ ExAt H1 a C g ∧ ExK K fI C ∧ Q g H1
theorem pe_xv (he : PE X e te) (hb : attributeBase e "value" X.env (eval e X.env) = eval e X.env := by rfl) : PE X (.Attribute e "value" pos) (tXv X.K fI te) := by
  refine ⟨fun pins s σ H Q I h => ?_⟩
  refine attr_of hb (thn (he.run pins s σ H _ I h) fun u s1 hh => ?_)
  obtain ⟨x, H1, I1, rx, a, C, g, ex, hx, T, q⟩ := hh
  subst ex
  obtain rfl : u = Value.ref a := rx
  obtain ⟨oe, od, uu, J, hl, hr⟩ := ex_inst I1 hx
  cases uu with
  | none => exact hr.elim
  | some w =>
    exact HandSPX.exc_get I1.kIn J T.xf.ga T.xf.gg T.xf.exC (PySem.W.findObj_own T.xf.hdC T.no rfl hl) (handed_of hr) ⟨g, H1, I1.tok _, hr, q⟩
/-- isinstance(e, c), e an exception that is held -/
def rIsX (K : PySem.W.Frag) (fI : Addr) : List V → Hp → VK → Prop := fun xs H Q => ∃ (a C : Addr) (g c : V) (cv : Value) (b : Bool), xs = [.ref a, c] ∧ ExAt H a C g ∧ ExK K fI C ∧ (∀ u, RelV c u → u = cv) ∧ PySem.W.kitOne K (.ref C) cv = some b ∧ Q (.bl b) H
theorem call_isX : CallR X (.builtin "isinstance") (rIsX X.K fI) := by
  intro pins s σ H xs us Q I r h
  obtain ⟨a, C, g, c, cv, b, rfl, hx, T, hcv, e, q⟩ := h
  cases r with
  | cons rx rr =>
    cases rr with
    | cons rt rr =>
      cases rr
      cases rx
      have ec := hcv _ rt
      subst ec
      obtain ⟨oe, od, uu, J, _, _⟩ := ex_inst I hx
      have T := T.xc
      have hcl : (PySem.W.clsIn X.K C).isSome = true := by
        obtain ⟨cd, hc, _⟩ := PySem.W.any_some T.hd
        rw [hc]; rfl
      exact PySem.W.kia_one (PySem.W.kitx_exc (od := some od) hcl T.hg T.hk T.hs T.ha T.hn T.ht T.hm) I.kIn J e (fun z => nomatch z) fun tk => ⟨.bl b, H, I.kept (t' := tk) fun _ _ z => z, rfl, q⟩
/-- C(..) made and held -/
theorem pe_mk {t : St → Hp → XK → Prop} (he : PMk X e t) : PE X e (fun σ H Q => t σ H fun cls d H' => ∀ a, H' a = none → Q (.ref a) (upd H' a (ExHv cls d a))) := by
  refine ⟨fun pins s σ H Q I h => ?_⟩
  refine wpAny_mono (he pins s σ H _ I h) (fun u s1 hu => ?_) fun _ _ x => x
  obtain ⟨a, oe, vs, sI, H', cls, d, rfl, J, k, hne, ha, hz, hd, h1, na, os, ag, r, q⟩ := hu
  have J2 := J.laidN (t' := s1.toks) k hne na (exHv_ok ha hz hd)
  exact ⟨.ref a, _, ⟨J2.ok, os.trans J.os, ag, J2.base, J2.loc, J2.cell, J2.free, J2.freeC, J2.pin, J2.hok, J2.len⟩, rfl, q a na⟩
end
theorem lies_of {K : PySem.W.Frag} {h : Heap} {C : Addr} (T : OexC K C) (k : K.In h) : Lies h C := by
  obtain ⟨nm, q, N, bs, bm, sn, sub, ab, col, dd, k0, k1, k2, k3, k5, l, r⟩ := T.cls
  refine ⟨nm, q, N, bs, bm, true, sn, sub, ab, col, dd, k0, k1, k2, k3, k5, k _ _ l, fun Y => ?_⟩
  rw [List.contains_cons]
  exact PySem.HandSPX.refsVE_contains Y bm r
/-- C(e), C(value=e): the class's __init__ runs -/
def MkG (K : PySem.W.Frag) (C : Addr) (g : V) (Q : XK) (H1 : Hp) : Prop := [g].length ≤ 1000 ∧ ∀ a, H1 a = none → spIni K (.ref a :: ([g] ++ [])) (upd H1 a (exo a C none))
  (fun v H2 => v = .non ∧ ∃ (d : Addr) (fs : List (Str × V)), H2 a = some (exo a C (some d)) ∧ H2 d = some (exd d fs) ∧ H1 d = none ∧ Q (.ref C) (some d) (upd (del H2 a) d (.xd fs))) (fun _ _ _ => False)
def tMkV (K : PySem.W.Frag) (C : Addr) (te : TE) : St → Hp → XK → Prop := fun σ H Q => te σ H fun g H1 => MkG K C g Q H1
theorem mk_ini {H1 H2 : Hp} {a C dx : Addr} {g : V} (hn : H1 a = none) (hd : H1 dx = none) (hda : dx ≠ a) (e : H2 = upd (upd (upd H1 a (exo a C none)) dx (exd dx [("value", g)])) a (exo a C (some dx))) :
    H2 a = some (exo a C (some dx)) ∧ H2 dx = some (exd dx [("value", g)]) ∧ Ex H1 (upd (del H2 a) dx (.xd [("value", g)])) := by
  subst e
  refine ⟨upd_same, by rw [upd_ne hda, upd_same], fun b o hb => ?_⟩
  have h1 : b ≠ a := fun z => by rw [z, hn] at hb; cases hb
  have h2 : b ≠ dx := fun z => by rw [z, hd] at hb; cases hb
  rw [upd_ne h2, del_ne h1, upd_ne h1, upd_ne h2, upd_ne h1]
  exact hb
theorem w_mkg {K : PySem.W.Frag} {fI : Addr} {H1 : Hp} {C : Addr} {g : V} {Q : XK} (T : ExK K fI C) (q : MkE H1 C g Q) : MkG K C g Q H1 := by
  refine ⟨(by decide : 1 ≤ 1000), fun a hn => ⟨a, C, g, rfl, T.o, T.no, upd_same, fun dx hd hda => ?_⟩⟩
  have hd' : H1 dx = none := by rw [upd_ne hda] at hd; exact hd
  obtain ⟨z1, z2, z3⟩ := mk_ini (C := C) (g := g) hn hd' hda rfl
  exact ⟨rfl, dx, _, z1, z2, hd', q dx _ z3 upd_same⟩
section
variable {X : Cx} {CX : CXT} {x : Str} {p pos kp : Pos} {e : Expr} {te : TE} {C fI : Addr} {k j : Nat} {fd : FuncData}
/-- the text's KitError.__init__ is there -/
structure Ini (P : Program) (w : World) (K : PySem.W.Frag) (mg : Str → Option Value) (base : Heap) (j : Nat) (fI : Addr) : Prop where
  ex : ∃ fd, FnOk P w K mg base CX0 j fI fd ["self", "value"] (spIni K) ∧ Binds K fd ["self", "value"] [] ∧ ∀ (s : Shared) (a v : Value), BindsTo s fd ⟨[a], [("value", v)]⟩ [("self", a), ("value", v)]
  ty : PySem.W.typeIn K (.ref fI) = some (.type "function")
/-- X(e) -/
theorem pmk_pos (T : ExK X.K fI C) (N : Ini X.prog X.w X.K X.mg X.base j fI) (hr : Room k X.A) (hjk : j + 1 ≤ k)
    (hg : Gl X x) (hm : X.mg x = some (.ref C)) (he : PE X e te) (hdb : (x == ("__debug__" : Str)) = false := by decide)
    (hs : starEach [e] X.env = (false, eval e X.env) :: starEach [] X.env := by rfl) (hpl : (backTo pos (starEach [] X.env)).any (·.1) = false := by rfl) :
    PMk X (.Call (.Name x p) [e] [] pos) (tMkV X.K C te) := by
  obtain ⟨fd, F1, hb, _⟩ := N.ex
  intro pins s σ H Q I h
  exact pmk_oex T.o T.it N.ty F1 (hr.mono hjk) hb .nil (L2.pass0 (X := X)) hg hm (pa_cons he pa_nil hs) hdb hs hpl pins s σ H Q I h
/-- X(value=e) -/
theorem pmk_kw (T : ExK X.K fI C) (N : Ini X.prog X.w X.K X.mg X.base j fI) (hr : Room k X.A) (hjk : j + 1 ≤ k)
    (hg : Gl X x) (hm : X.mg x = some (.ref C)) (he : PE X e te) (hdb : (x == ("__debug__" : Str)) = false := by decide)
    (hall : (backToKw pos (keywordEach [⟨some "value", e, kp⟩] X.env)).all (·.1.isSome) = true := by rfl) (hks : (backToKw pos (keywordEach [⟨some "value", e, kp⟩] X.env)).filterMap (·.1) = [("value" : Str)] := by rfl)
    (hpl : ((backTo pos (starEach [] X.env)).any (·.1) || (backToKw pos (keywordEach [⟨some "value", e, kp⟩] X.env)).any (·.1.isNone)) = false := by rfl) :
    PMk X (.Call (.Name x p) [] [⟨some "value", e, kp⟩] pos) (tMkV X.K C te) := by
  obtain ⟨fd, F1, -, bw⟩ := N.ex
  intro pins s σ H Q I h
  refine wpAny_Call_Name_kw (ld_glob I hg hm (PySem.W.callWith_KW0 (h₀ := X.base) I.ok.mod.kin T.o.kC hall (thn ((pk_cons he pk_nil).run pos pins s σ H (fun zs H1 => match zs with | [g] => MkG X.K C g Q H1 | _ => False) I h) ?_) hpl) hdb)
  rw [hks]
  rintro ws ⟨hp, g1, dr, tk, os⟩ ⟨zs, H1, I1, rz, q⟩
  match zs, ws, rz, q with
  | [g], [u], .cons rg .nil, ⟨_, q⟩ =>
    have big : hp.objs.size ≤ hp.objs.size + 1 := Nat.le_succ _
    have n1 : H1 (hp.objs.size + 1) = none := I1.hok.fresh big
    have I2 : Inv X pins σ (upd H1 (hp.objs.size + 1) (exo (hp.objs.size + 1) C none)) ⟨fresh hp C, g1, dr, tk, os⟩ := I1.laid (t' := tk) (fun _ _ z => fresh_keeps z) big (exo_ok fresh_at)
    refine ⟨I1.kIn, wpAny_call (call_kw (lies_of T.o I1.kIn) (PySem.W.looks_findIn I1.kIn T.it) (fun self => PySem.W.bind_fn I1.kIn self N.ty) (codeAny_mono (F1.run _ X.stack _ _ ⟨[.ref (hp.objs.size + 1)], [("value", u)]⟩ [.ref (hp.objs.size + 1), u] [.ref (hp.objs.size + 1), g] _ (fun _ _ _ => False)
      ((hr.mono hjk).make C [] _) (I2.env0.make C [] _) (bw _ _ _) (.cons rfl (.cons rg .nil)) (q _ n1)) fun r s' z => ?_))⟩
    match r, z with
    | .ok (.ret _), ⟨_, H2, os2, bare, un, hok, rv, rfl, d, fs, ea, ed, hd, q2⟩ =>
      obtain ⟨h2, g2, d2, t2, o2⟩ := s'
      exact ⟨rv, mk_end (raises_own T.o.exC T.o.tyC) I1 big (fun _ _ z => fresh_keeps z) un hok os2 bare ea ed hd q2⟩
    | .error _, z => exact z.elim
    | .ok .next, z => exact z.elim
    | .ok .brk, z => exact z.elim
    | .ok .cont, z => exact z.elim
end
end Sk

set_option maxHeartbeats 2000000
namespace Sk
open PySem PySem.Spec PyProof.Rows L2
open Evl (Ex ex_l ex_t)
/-- builtins that no name of the text hides (without gcd) -/
structure Bu0 (mg : Str → Option Value) : Prop where
  z_len : mg "len" = none
  z_isinstance : mg "isinstance" = none
  z_max : mg "max" = none
  z_min : mg "min" = none
  z_int : mg "int" = none
  z_bool : mg "bool" = none
  z_str : mg "str" = none
  z_tuple : mg "tuple" = none
  z_list : mg "list" = none
  z_range : mg "range" = none
/-- a def of the text that may raise -/
structure CalX (P : Program) (w : World) (K : PySem.W.Frag) (mg : Str → Option Value) (base : Heap) (k : Nat) (x : Str) (ps : List Str) (sp : Sp) : Prop where
  ex : ∃ (f : Addr) (fd : FuncData), FnOk P w K mg base (L2.CX P w) k f fd ps sp ∧ mg x = some (.ref f) ∧ PySem.W.keepIn K (.ref f) = true ∧ Binds K fd ps []
theorem calx_mk {P : Program} {w : World} {K : PySem.W.Frag} {mg : Str → Option Value} {base : Heap} {x : Str} {st : Stmt} {f : Addr} {fd : FuncData} {k : Nat} {ps : List Str} {sp : Sp} (F : Fun K x x st f fd) (G : FnOk P w K mg base (L2.CX P w) k f fd ps sp) (m : mg x = some (.ref f)) (b : Binds K fd ps []) : CalX P w K mg base k x ps sp :=
  ⟨f, fd, G, m, F.kp, b⟩
def tCallX (W : WX) (sp : Sp) (t : TA) : TE := fun σ H Q => t σ H fun vs H1 => sp vs H1 Q fun cls d H' => W cls d σ H'
section
variable {X : Cx} {k j : Nat} {x : Str} {ps : List Str} {sp : Sp} {p pos : Pos} {e : Expr} {es : List Expr} {t : TA} {W : WX}
theorem pe_callX (C : CalX X.prog X.w X.K X.mg X.base j x ps sp) (hr : Room k X.A) (hjk : j ≤ k) (tk : Takes X W) (ha : PA X (e :: es) t) (hg : Gl X x := by rfl)
    (hdb : (x == ("__debug__" : Str)) = false := by decide) (he : starEach (e :: es) X.env = (false, eval e X.env) :: starEach es X.env := by rfl) (hpl : (backTo pos (starEach es X.env)).any (·.1) = false := by rfl) :
    PE X (.Call (.Name x p) (e :: es) [] pos) (tCallX W sp t) := by
  obtain ⟨f, fd, F, hm, hk, hb⟩ := C.ex
  refine ⟨fun pins s σ H Q I h => ?_⟩
  refine wpAny_Call_Name_kw (ld_glob I hg hm ?_ hdb)
  refine PySem.W.callWith_K (h₀ := X.base) I.ok.mod.kin hk (thn (ha.run pos pins s σ H _ I h) fun us s1 ⟨vs, H1, I1, r, q⟩ => ⟨I1.kIn, ?_⟩) he hpl
  show wpAny _ _ (call (.ref f) us) _ _ _
  have r2 : Vals vs (us ++ []) := by rw [List.append_nil]; exact r
  have hl : (us ++ []).length = ps.length := by rw [← r2.length]; exact F.len _ _ _ _ q
  refine wpAny_call (codeAny_mono (F.run X.A X.stack s1 H1 ⟨us, []⟩ (us ++ []) vs Q (fun cls d H' => W cls d σ H') (hr.mono hjk) I1.env0 (hb s1 us I1.kIn hl) r2 q) fun r s' hq => ?_)
  cases r with
  | error e => exact tk e s' (XE.of_call I1 (fun _ _ _ h => h) hq)
  | ok fl =>
    cases fl with
    | ret u => exact I1.after hq
    | next => exact False.elim hq
    | brk => exact False.elim hq
    | cont => exact False.elim hq
end
theorem takes_no {X : Cx} : Takes X (fun _ _ _ _ => False) := fun _ _ ⟨_, _, _, _, _, _, _, _, _, _, _, _, _, _, _, _, w⟩ => w.elim
/-- the 22 classes (by number), KitError (b), its __init__ (fI) -/
structure Kit (K : PySem.W.Frag) (fI b : Addr) (cs : Nat → Addr) : Prop where
  x : ∀ i, i < 22 → ExK K fI (cs i)
  xb : ExK K fI b
  kit : ∀ i j, i < 22 → j < 22 → PySem.W.kitOne K (.ref (cs i)) (.ref (cs j)) = some (decide (i = j))
  kitb : ∀ j, j < 22 → PySem.W.kitOne K (.ref b) (.ref (cs j)) = some false
  kv : ∀ i, i < 22 → PySem.W.kitOne K (.ref (cs i)) (.type "ValueError") = some true
  kvb : PySem.W.kitOne K (.ref b) (.type "ValueError") = some true
  em : ∀ i, i < 22 → PySem.W.exmOne K (.ref (cs i)) (.ref b) = some true
  emb : PySem.W.exmOne K (.ref b) (.ref b) = some true
/-- a raised one of the classes: from lo to hi -/
def spR (cs : Nat → Addr) (lo hi : Nat) : Sp := fun vs H Q E => ∃ (n : Nat) (g : V), vs = [.int n, g] ∧ lo ≤ n ∧ n < hi ∧ MkE H (cs n) g E
def spR3 (cs : Nat → Addr) : Sp := fun vs H Q E => ∃ (n : Nat) (g : V) (b : Bool), vs = [.int n, g, .bl b] ∧ n < 22 ∧ MkE H (cs n) g E
theorem lenR {cs : Nat → Addr} {lo hi : Nat} {vs : List V} {H : Hp} {Q : VK} {E : XK} (h : spR cs lo hi vs H Q E) : vs.length = 2 := by
  obtain ⟨n, g, rfl, _⟩ := h
  rfl
theorem lenR3 {cs : Nat → Addr} {vs : List V} {H : Hp} {Q : VK} {E : XK} (h : spR3 cs vs H Q E) : vs.length = 3 := by
  obtain ⟨n, g, b, rfl, _⟩ := h
  rfl
theorem lenI {K : PySem.W.Frag} {vs : List V} {H : Hp} {Q : VK} {E : XK} (h : spIni K vs H Q E) : vs.length = 2 := by
  obtain ⟨a, C, g, rfl, _⟩ := h
  rfl
/-- which == j -/
theorem w_eqN {K : PySem.W.Frag} {n : Nat} {j : Int} {H : Hp} {Q : VK} (q : Q (.bl (decide ((n : Int) = j))) H) : rEqU K (.int (n : Nat)) (.int j) H Q := w_eqI q
/-! ### with K told -/
section
variable {X : Cx} {pos : Pos} {e : Expr} {te : TE} {fI : Addr}
theorem pe_xvK (K : PySem.W.Frag) (h : X.K = K) (he : PE X e te) (hb : attributeBase e "value" X.env (eval e X.env) = eval e X.env := by rfl) : PE X (.Attribute e "value" pos) (tXv K fI te) := by subst h; exact pe_xv he hb
theorem call_isXK (K : PySem.W.Frag) (h : X.K = K) : CallR X (.builtin "isinstance") (rIsX K fI) := by subst h; exact call_isX
end
section
variable {K : PySem.W.Frag} {fI : Addr} {σ : St} {H : Hp} {Q : VK} {te : TE} {a C : Addr} {g : V} {cv : Value} {b : Bool}
def XvG (K : PySem.W.Frag) (fI : Addr) (x : V) (Q : VK) (H1 : Hp) : Prop := ∃ a C g, x = .ref a ∧ ExAt H1 a C g ∧ ExK K fI C ∧ Q g H1
theorem w_xv (h : te σ H fun x H1 => XvG K fI x Q H1) : tXv K fI te σ H Q := h
theorem w_xvg (h : ExAt H a C g) (T : ExK K fI C) (q : Q g H) : XvG K fI (.ref a) Q H := ⟨a, C, g, rfl, h, T, q⟩
theorem w_isxR {c : Addr} (h : ExAt H a C g) (T : ExK K fI C) (e : PySem.W.kitOne K (.ref C) (.ref c) = some b) (q : Q (.bl b) H) : rIsX K fI [.ref a, .ref c] H Q := ⟨a, C, g, .ref c, .ref c, b, rfl, h, T, fun u hu => hu, e, q⟩
theorem w_isxT {n : String} (h : ExAt H a C g) (T : ExK K fI C) (e : PySem.W.kitOne K (.ref C) (.type n) = some b) (q : Q (.bl b) H) : rIsX K fI [.ref a, .ty n] H Q := ⟨a, C, g, .ty n, .type n, b, rfl, h, T, fun u hu => hu, e, q⟩
theorem w_callX {W : WX} {sp : Sp} {t : TA} (h : t σ H fun vs H1 => sp vs H1 Q fun cls d H' => W cls d σ H') : tCallX W sp t σ H Q := h
theorem w_mkv {Q : XK} (h : te σ H fun g H1 => MkG K C g Q H1) : tMkV K C te σ H Q := h
/-- self.value = e, the first one -/
def OstG (K : PySem.W.Frag) (x y : V) (D : Ends) (σ : St) (H2 : Hp) : Prop := ∃ a C : Addr, x = .ref a ∧ OexC K C ∧ PySem.W.findIn K (.ref C) "value" = some none ∧
  ((H2 a = some (exo a C none) ∧ ∀ dx, H2 dx = none → dx ≠ a → D.nx σ (upd (upd H2 dx (exd dx [("value", y)])) a (exo a C (some dx)))) ∨
    ∃ (dx : Addr) (fs : List (Str × V)), H2 a = some (exo a C (some dx)) ∧ H2 dx = some (exd dx fs) ∧ fs.length ≤ 900 ∧ D.nx σ (upd H2 dx (exd dx (("value", y) :: fs))))
theorem w_ost {to : TE} {D : Ends} (h : te σ H fun y H1 => to σ H1 fun x H2 => OstG K x y D σ H2) : tOst K "value" to te D σ H := h
end
/-- whether an exception is of the classes, told as a list -/
def kinds (r : Nat → Bool) : PyData := .list ((List.range 22).map fun k => .bool (r k))
def spKi (K : PySem.W.Frag) (fI : Addr) (cs : Nat → Addr) : Sp := fun vs H Q _ => ∃ (a C : Addr) (g : V) (r : Nat → Bool), vs = [.ref a] ∧ ExAt H a C g ∧ ExK K fI C ∧ (∀ j, j < 22 → PySem.W.kitOne K (.ref C) (.ref (cs j)) = some (r j)) ∧ ∀ v H', Ex H H' → Dp K H' v (kinds r) → Q v H'
theorem lenKi {K : PySem.W.Frag} {fI : Addr} {cs : Nat → Addr} {vs : List V} {H : Hp} {Q : VK} {E : XK} (h : spKi K fI cs vs H Q E) : vs.length = 1 := by
  obtain ⟨a, C, g, r, rfl, _⟩ := h
  rfl
end Sk

set_option maxHeartbeats 2000000
namespace Sk
open PySem PySem.Spec PyProof.Rows L2
open Evl (Ex ex_l ex_t)
section
variable {K : PySem.W.Frag} {σ : St} {H : Hp} {Q : VK} {v : V}
theorem w_lcBs {g : TG} {te : TE} {vs : List Nat} {m : Nat} (f : Nat → Bool) (hm : m ≤ 1000)
    (hs : ∀ (i : Nat) H' (Qy : V → Hp → Prop), i < m → Ex H H' → (∀ H4, Ex H' H4 → Qy (.bl (f i)) H4) → g (.int (0 + (i : Nat))) (wipe σ vs) H' fun σ2 H2 => wipe σ2 vs = wipe σ vs ∧ te σ2 H2 Qy)
    (hd : ∀ q H', Ex H H' → H' q = some (.lst ((List.range m).map fun i => V.bl (f i))) → Q (.ref q) H') : LcG 0 m g tYes te vs σ H Q := by
  have st : ∀ (i : Nat) acc (H' : Hp) (l : Addr) (xs ys : List V), H' l = some (.lst xs) → acc = (List.range i).map (fun j => V.bl (f j)) → acc = (List.range i).map (fun j => V.bl (f j)) := fun _ _ _ _ _ _ _ h => h
  refine w_lcg (fun i acc _ => acc = (List.range i).map fun j => V.bl (f j)) hm (fun _ _ => rfl) st (fun i acc _ h => by rw [h, List.length_map, List.length_range]; exact Nat.le_refl _) (fun Dl i acc H' hi hD h1 e1 hp => ?_) (fun q acc H' e h hp => ?_)
  · have := hs i H' (fun y H4 => ∃ acc, H4 Dl = some (.lst acc) ∧ acc.length < sizeLine ∧ LcW (fun i acc _ => acc = (List.range i).map fun j => V.bl (f j)) H Dl (i + 1) (upd H4 Dl (.lst (acc ++ [y])))) hi e1 (fun H4 e4 => ?_)
    · exact this
    · subst hp
      exact w_lct (P := fun i acc _ => acc = (List.range i).map fun j => V.bl (f j)) hD h1 e1 e4 (by rw [List.length_map, List.length_range]; omega) st (by rw [List.range_succ, List.map_append]; rfl)
  · subst hp
    exact hd q H' e h
theorem dqa_bs (f : Nat → Bool) : ∀ l : List Nat, DqAll K H (l.map fun i => V.bl (f i)) (l.map fun i => PyData.bool (f i))
  | [] => .nil
  | _ :: l => .cons (.bl _) (dqa_bs f l)
theorem eqv_bs (f : Nat → Bool) : ∀ l : List Nat, PyData.eqvAll (l.map fun i => PyData.bool (f i)) (l.map fun i => PyData.bool (f i)) = true
  | [] => by simp [PyData.eqvAll]
  | i :: l => by
    have := eqv_bs f l
    simp [PyData.eqvAll, PyData.eqv, this]
theorem eqv_kinds (f g : Nat → Bool) (h : f = g) : PyData.eqv (kinds f) (.list ((List.range 22).map fun i => PyData.bool (g i))) = true := by
  subst h
  unfold kinds
  have := eqv_bs f (List.range 22)
  simpa [PyData.eqv] using this
theorem shaped_kinds (f : Nat → Bool) : SeqAt.shaped (kinds f) = true := by rfl
theorem shaped_bs (f : Nat → Bool) : SeqAt.shaped (.list ((List.range 22).map fun i => PyData.bool (f i))) = true := by rfl
theorem vals_bs (f : Nat → Bool) : ∀ (l : List Nat) (xs : List V), DpAll K H xs (l.map fun i => PyData.bool (f i)) → xs = l.map fun i => V.bl (f i)
  | [], _, .nil => rfl
  | _ :: l, _, .cons h t => by
    rw [bl_inv h, vals_bs f l _ t]
    rfl
theorem op_inK {X : Cx} (K : PySem.W.Frag) (h : X.K = K) : OpR X (compareOp .In) (L2.rIn K false) := by subst h; exact op_in_seq
theorem w_inB (hv : Dp K H v (kinds fun _ => false)) (q : Q (.bl false) H) : L2.rIn K false (.bl true) v H Q := by
  obtain ⟨p, xs, rfl, hp, ha⟩ := lst_inv hv
  have e := vals_bs (fun _ => false) (List.range 22) xs ha
  subst e
  refine ⟨p, _, rfl, .inl hp, rfl, by rfl, ?_⟩
  have e2 : inV (.bl true) ((List.range 22).map fun _ => V.bl false) = false := by decide
  show Q (.bl (inV (.bl true) ((List.range 22).map fun _ => V.bl false))) H
  rw [e2]
  exact q
/-- raise X(value=e) -/
theorem ps_rkw {X : Cx} {W : WX} (K : PySem.W.Frag) (hK : X.K = K) {x : Str} {p pos kp pos' : Pos} {e : Expr} {te : TE} {C fI : Addr} {k j : Nat} (tk : Takes X W) (hc : X.calm = true) (T : ExK X.K fI C) (N : Ini X.prog X.w X.K X.mg X.base j fI) (hr : Room k X.A) (hjk : j + 1 ≤ k)
    (hg : Gl X x) (hm : X.mg x = some (.ref C)) (he : PE X e te) (hdb : (x == ("__debug__" : Str)) = false := by decide)
    (hall : (backToKw pos (keywordEach [⟨some "value", e, kp⟩] X.env)).all (·.1.isSome) = true := by rfl) (hks : (backToKw pos (keywordEach [⟨some "value", e, kp⟩] X.env)).filterMap (·.1) = [("value" : Str)] := by rfl)
    (hpl : ((backTo pos (starEach [] X.env)).any (·.1) || (backToKw pos (keywordEach [⟨some "value", e, kp⟩] X.env)).any (·.1.isNone)) = false := by rfl) :
    PS X (.Raise (some (.Call (.Name x p) [] [⟨some "value", e, kp⟩] pos)) none pos') (fun _ σ H => tMkV K C te σ H fun cls d H' => W cls d σ H') := by
  subst hK
  exact ps_raise hc tk (pmk_kw T N hr hjk hg hm he hdb hall hks hpl)
/-- behind the try: the exception is held -/
theorem held {H1 : Hp} {a C d : Addr} {g : V} (e1 : Ex H H1) (hd : H1 d = some (.xd [("value", g)])) (na : H1 a = none) (R : Hp → Prop) (q : ∀ H2, Ex H H2 → ExAt H2 a C g → R H2) : R (upd H1 a (ExHv (.ref C) (some d) a)) :=
  q _ (e1.trans (Evl.Ex.new na)) ⟨d, upd_same, (Evl.Ex.new na) _ _ hd⟩
end
end Sk

set_option maxHeartbeats 2000000
namespace Sk
open PySem PySem.Spec PyProof.Rows L2 PySem.W
/-! ### what the written part says of the classes, told by one look -/
def clsB (K : Frag) (C : Addr) : Bool := match K.lookup C with
  | some ⟨.type "type", _, .cls cd, sl⟩ => (match cd.mro, sl.toList with
    | .ref C' :: bm, [_, _, _, _, some (.builtin n), _] => C' == C && n == "ValueError.__new__" && !cd.hasDel && cd.hasDict && PySem.HandSPX.refsVE bm
    | _, _ => false)
  | _ => false
theorem cls_of {K : Frag} {C : Addr} (q : clsB K C = true) : ∃ nm q N bs bm sn sub ab col dd k0 k1 k2 k3 k5, K.lookup C = some (excClassObj nm q C N bs bm true sn sub ab col dd k0 k1 k2 k3 k5 "ValueError.__new__") ∧ PySem.HandSPX.refsVE bm = true := by
  unfold clsB at q
  split at q
  · rename_i dd cd sl ho
    split at q
    · rename_i C' bm k0 k1 k2 k3 n k5 hm hs
      simp only [Bool.and_eq_true, beq_iff_eq, Bool.not_eq_true'] at q
      obtain ⟨⟨⟨⟨rfl, rfl⟩, hdel⟩, hdd⟩, ht⟩ := q
      obtain ⟨nm, bs, mro, ns, qn, hd, sn, sub, ab, col, del⟩ := cd
      dsimp only at hm hdel hdd
      subst hm hdel hdd
      have hsl : sl = #[k0, k1, k2, k3, some (.builtin "ValueError.__new__"), k5] := by
        obtain ⟨l⟩ := sl
        simp only at hs
        rw [hs]
      subst hsl
      exact ⟨nm, qn, ns, bs, bm, sn, sub, ab, col, dd, k0, k1, k2, k3, k5, ho, ht⟩
    · cases q
  · cases q
def exB (K : Frag) (fI C : Addr) : Bool := clsB K C && (decide (findIn K (.ref C) "__setattr__" = some (some (.builtin "object.__setattr__"))) && (decide (subIn K (.ref C) (.type "BaseException") = some true) && (decide (typeIn K (.ref C) = some (.type "type")) && (keepIn K (.ref C) &&
  (decide (findIn K (.ref C) "__init__" = some (some (.ref fI))) && (decide (findIn K (.ref C) "value" = some none) && (decide (findIn K (.ref C) "__getattribute__" = some (some (.builtin "BaseException.__getattribute__"))) && (decide (findIn K (.ref C) "__getattr__" = some none) && (hasDictIn K C &&
  (decide (findIn K (.ref C) "__class__" = some (some (.builtin "object.__class__"))) && (decide (specialIn K (.builtin "object.__class__") "__get__" = some (some (.builtin "getset_descriptor.__get__"))) && (decide (takesIn K (.builtin "object.__class__") = some true) && decide (mroIn K C (.type "object") = some true)))))))))))))
theorem ex_of {K : Frag} {fI C : Addr} (h : exB K fI C = true) : ExK K fI C := by
  unfold exB at h
  simp only [Bool.and_eq_true, decide_eq_true_eq] at h
  obtain ⟨h1, h2, h3, h4, h5, h6, h7, h8, h9, h10, h11, h12, h13, h14⟩ := h
  exact ⟨⟨cls_of h1, h2, h3, h4, h5⟩, h6, h7, ⟨h8, h9, h3, h10⟩, ⟨h8, h9, h3, h10, h11, h12, h13, h14⟩⟩
def kitB (K : Frag) (fI b : Addr) (cs : Nat → Addr) : Bool :=
  (List.range 22).all (fun i => exB K fI (cs i)) && (exB K fI b && ((List.range 22).all (fun i => (List.range 22).all fun j => decide (kitOne K (.ref (cs i)) (.ref (cs j)) = some (decide (i = j)))) &&
  ((List.range 22).all (fun j => decide (kitOne K (.ref b) (.ref (cs j)) = some false)) && ((List.range 22).all (fun i => decide (kitOne K (.ref (cs i)) (.type "ValueError") = some true)) && (decide (kitOne K (.ref b) (.type "ValueError") = some true) &&
  ((List.range 22).all (fun i => decide (exmOne K (.ref (cs i)) (.ref b) = some true)) && decide (exmOne K (.ref b) (.ref b) = some true)))))))
theorem kit_of {K : Frag} {fI b : Addr} {cs : Nat → Addr} (h : kitB K fI b cs = true) : Kit K fI b cs := by
  unfold kitB at h
  simp only [Bool.and_eq_true, decide_eq_true_eq, List.all_eq_true, List.mem_range] at h
  obtain ⟨h1, h2, h3, h4, h5, h6, h7, h8⟩ := h
  exact ⟨fun i hi => ex_of (h1 i hi), ex_of h2, fun i j hi hj => h3 i hi j hj, h4, h5, h6, h7, h8⟩
end Sk

set_option maxHeartbeats 1000000
namespace Sk
open PySem PySem.Spec PyProof.Rows L2
open Evl (Ex ex_l ex_t)
local macro_rules | `(tactic| lcg_sub) => `(tactic| first | exact Evl.Ex.refl _ | assumption | (refine Evl.Ex.trans ?_ (by assumption); lcg_sub))
local macro_rules | `(tactic| keq_rows) => `(tactic| first | with_reducible exact Dq.int _ | with_reducible exact Dq.bl _ | with_reducible exact Dq.non | with_reducible exact Dq.str _ | assumption | ((refine' Dq.up ?e ?h); (case e => assumption); (case h => keq_rows)))
local macro_rules | `(tactic| k_subL) => `(tactic| first | with_reducible exact DqAll.nil | assumption | ((with_reducible refine' DqAll.cons ?a ?b); (case a => (keq_rows)); (case b => (k_subL))) | ((refine' DqAll.up ?e ?h); (case e => assumption); (case h => assumption)) | ((refine' DqAll.up ?e (DqAll.up ?f ?h)); (case e => assumption); (case f => assumption); (case h => assumption)) | ((refine' DqAll.up ?e (DqAll.up ?f (DqAll.up ?g ?h))); (case e => assumption); (case f => assumption); (case g => assumption); (case h => assumption)))
local macro_rules | `(tactic| keq_hits) => `(tactic| first | with_reducible exact L2.Dp.int _ | with_reducible exact L2.Dp.bl _ | with_reducible exact L2.Dp.non | with_reducible exact L2.Dp.str _ | assumption | exact Dq.dp (by assumption) | ((refine' Sk.Dp.up ?e ?h); (case e => assumption); (case h => keq_hits)))
local macro_rules | `(tactic| k_clsL) => `(tactic| first | with_reducible exact L2.DpAll.nil | assumption | ((with_reducible refine' L2.DpAll.cons ?a ?b); (case a => (keq_hits)); (case b => (k_clsL))) | exact DqAll.dp (by assumption) | ((refine' Sk.DpAll.up ?e ?h); (case e => assumption); (case h => assumption)) | ((refine' Sk.DpAll.up ?e (Sk.DpAll.up ?f ?h)); (case e => assumption); (case f => assumption); (case h => assumption)) | ((refine' Sk.DpAll.up ?e (Sk.DpAll.up ?f (Sk.DpAll.up ?g ?h))); (case e => assumption); (case f => assumption); (case g => assumption); (case h => assumption)))
local macro_rules | `(tactic| k_offL) => `(tactic| first | assumption | ((refine' at_up ?e ?h); (case e => assumption); (case h => k_offL)))
local macro_rules | `(tactic| lcg_off) => `(tactic| first | assumption | exact .inl (.inl (by assumption)) | ((refine' Evl.ex_l ?e ?h); (case e => assumption); (case h => lcg_off)))
local macro_rules | `(tactic| kas_types) => `(tactic| first
  | ((with_reducible refine' w_var ?h ?q); (case h => exact rfl))
  | with_reducible refine w_mkv ?_ | with_reducible refine w_callX ?_ | with_reducible refine w_xv ?_ | with_reducible refine w_ost ?_
  | with_reducible refine w_op ?_ | with_reducible refine w_c ?_ | with_reducible refine w_I0 ?_ | with_reducible refine w_addI ?_ | with_reducible refine w_bl ?_
  | with_reducible refine w_cons ?_ | with_reducible refine w_nil ?_ | with_reducible refine w_seq ?_ | with_reducible refine w_ift ?_ | with_reducible refine w_iff ?_
  | with_reducible refine w_call ?_ | with_reducible refine w_cb ?_ | with_reducible refine w_asg ?_ | ((with_reducible refine w_gname ?_); (try dsimp only [List.set]))
  | with_reducible refine w_if ?_ | with_reducible refine w_test ?_ | with_reducible refine w_B ?_ | with_reducible refine w_not ?_ | with_reducible refine w_and ?_ | with_reducible refine w_or ?_
  | with_reducible refine w_ret ?_ | with_reducible refine w_drop ?_ | with_reducible refine w_next ?_ | with_reducible refine w_retN ?_ | with_reducible refine w_andV ?_ | with_reducible refine w_orV ?_ | with_reducible refine w_notV ?_ | with_reducible refine w_ifE ?_ | with_reducible refine w_chain ?_
  | with_reducible refine w_yes ?_ | with_reducible refine w_un ?_ | with_reducible refine w_neg ?_ | with_reducible refine w_eqI ?_ | with_reducible refine w_neI ?_ | with_reducible refine w_abs ?_ | with_reducible refine w_int ?_ | with_reducible refine w_gcd ?_
  | with_reducible refine w_max2 ?_ | with_reducible refine w_min2 ?_ | with_reducible refine w_shr ?_ | with_reducible refine w_bits ?_ | with_reducible refine w_isint ?_ | with_reducible refine w_isN ?_ | with_reducible refine w_notN ?_
  | with_reducible refine w_tupF ?_ | with_reducible refine w_lst ?_ | with_reducible refine w_then ?_ | with_reducible refine w_callW ?_ | with_reducible refine w_par ?_ | with_reducible refine w_cnt ?_ | with_reducible refine w_forrev ?_ | with_reducible refine w_for1 ?_ | with_reducible refine w_for2 ?_ | with_reducible refine w_lc1 ?_ | with_reducible refine w_tupP ?_
  | ((with_reducible refine w_two ?_); (try dsimp only [List.set]))
  | with_reducible refine w_sl ?_ | with_reducible refine w_nopart ?_ | with_reducible refine w_part ?_ | with_reducible refine w_partg ?_
  | with_reducible refine w_gsub ?_ | with_reducible refine w_neB ?_ | with_reducible refine w_eqB ?_ | with_reducible refine w_eqS ?_
  | with_reducible refine w_gcons ?_ | with_reducible refine w_gnil ?_
  | ((with_reducible refine w_itf ?e ?_); (case e => exact rfl))
  | ((with_reducible refine w_itt ?e ?_); (case e => exact rfl))
  | ((with_reducible refine' w_gtup_ii ?h ?_); (case h => (keq_rows)))
  | ((with_reducible refine' w_gtup_2 ?h ?_); (case h => (keq_rows)); intro _ _ _ _)
  | ((with_reducible refine' w_gtupp_ii ?h ?_); (case h => (keq_hits)))
  | ((with_reducible refine' w_gtupp_2 ?h ?_); (case h => (keq_hits)); intro _ _ _ _)
  | ((with_reducible refine' w_isi ?h ?_); (case h => (keq_hits)))
  | ((with_reducible refine' w_isiT ?h ?e ?_); (case h => (keq_hits)); (case e => (k_offL)))
  | ((with_reducible refine' w_lenT ?h ?_); (case h => (keq_hits)))
  | ((with_reducible refine' w_lenL ?h ?_); (case h => (keq_hits)))
  | ((with_reducible refine' w_ixi ?h ?e ?_); (case h => (keq_rows)); (case e => exact rfl))
  | ((with_reducible refine' w_ix ?h ?e ?_); (case h => (keq_rows)); (case e => exact rfl); intro _ _)
  | ((with_reducible refine' w_ixpi ?h ?e ?_); (case h => (keq_hits)); (case e => exact rfl))
  | ((with_reducible refine' w_ixp ?h ?e ?_); (case h => (keq_hits)); (case e => exact rfl); intro _ _)
  | ((with_reducible refine' w_ixl ?h ?e ?_); (case h => (lcg_off)); (case e => exact rfl))
  | ((with_reducible refine' w_lenS ?h ?_); (case h => (lcg_off)))
  | ((with_reducible refine' w_slT ?h ?_); (case h => (keq_hits)); intro _ _ _ _)
  | ((with_reducible refine' w_catT ?h1 ?h2 ?hl ?_); (case h1 => (keq_hits)); (case h2 => (keq_hits)); (case hl => exact Nat.le_of_ble_eq_true rfl); intro _ _ _ _)
  | ((with_reducible refine' w_kw1 ?e ?_); (case e => exact rfl))
  | ((with_reducible refine' w_kw2 ?e ?_); (case e => exact rfl))
  | ((with_reducible refine' w_rep2 ?h ?_); (case h => (k_offL)); intro _ _ _ _)
  | ((with_reducible refine' w_cntg ?h ?_); (case h => (keq_rows)))
  | ((with_reducible refine' w_newT ?l ?d ?_); (case l => exact Nat.le_of_ble_eq_true rfl); (case d => (k_subL)); intro _ _ _ _)
  | ((with_reducible refine' w_newTp ?l ?d ?_); (case l => exact Nat.le_of_ble_eq_true rfl); (case d => (k_clsL)); intro _ _ _ _)
  | ((with_reducible refine' w_newLq ?l ?d ?_); (case l => exact Nat.le_of_ble_eq_true rfl); (case d => (k_subL)); intro _ _ _ _ _ _ _)
  | ((with_reducible refine' w_newLp ?l ?d ?_); (case l => exact Nat.le_of_ble_eq_true rfl); (case d => (k_clsL)); intro _ _ _ _ _ _ _)
  | ((with_reducible refine' w_newTy ?l ?_); (case l => exact Nat.le_of_ble_eq_true rfl); intro _ _ _ _))
def top (i : Nat) : Stmt := PySem.Challenge.pw_selfkits_k00_errors.main.body.getD i (.Pass ⟨0, 0, 0, 0⟩)
abbrev s_law_deck : Stmt := top 25
theorem sc_law_deck : FnScope ["script", "k", "cell", "stir"] ["script", "k"] (defScope s_law_deck) := ⟨rfl, rfl, rfl, by decide +kernel, rfl, by decide +kernel, by decide +kernel⟩
abbrev s_law_take : Stmt := top 26
theorem sc_law_take : FnScope ["deck", "many", "taken"] ["deck", "many"] (defScope s_law_take) := ⟨rfl, rfl, rfl, by decide +kernel, rfl, by decide +kernel, by decide +kernel⟩
abbrev s_law_same : Stmt := top 27
theorem sc_law_same : FnScope ["found", "due", "k"] ["found", "due"] (defScope s_law_same) := ⟨rfl, rfl, rfl, by decide +kernel, rfl, by decide +kernel, by decide +kernel⟩
abbrev s_law_raise_first : Stmt := top 28
theorem sc_law_raise_first : FnScope ["which", "given"] ["which", "given"] (defScope s_law_raise_first) := ⟨rfl, rfl, rfl, by decide +kernel, rfl, by decide +kernel, by decide +kernel⟩
abbrev s_law_raise_second : Stmt := top 29
theorem sc_law_raise_second : FnScope ["which", "given"] ["which", "given"] (defScope s_law_raise_second) := ⟨rfl, rfl, rfl, by decide +kernel, rfl, by decide +kernel, by decide +kernel⟩
abbrev s_law_raise_named_first : Stmt := top 30
theorem sc_law_raise_named_first : FnScope ["which", "given"] ["which", "given"] (defScope s_law_raise_named_first) := ⟨rfl, rfl, rfl, by decide +kernel, rfl, by decide +kernel, by decide +kernel⟩
abbrev s_law_raise_named_second : Stmt := top 31
theorem sc_law_raise_named_second : FnScope ["which", "given"] ["which", "given"] (defScope s_law_raise_named_second) := ⟨rfl, rfl, rfl, by decide +kernel, rfl, by decide +kernel, by decide +kernel⟩
abbrev s_law_raised : Stmt := top 32
theorem sc_law_raised : FnScope ["which", "given", "named"] ["which", "given", "named"] (defScope s_law_raised) := ⟨rfl, rfl, rfl, by decide +kernel, rfl, by decide +kernel, by decide +kernel⟩
abbrev s_law_kinds : Stmt := top 33
theorem sc_law_kinds : FnScope ["e", "found"] ["e"] (defScope s_law_kinds) := ⟨rfl, rfl, rfl, by decide +kernel, rfl, by decide +kernel, by decide +kernel⟩
abbrev s_law_given : Stmt := top 34
theorem sc_law_given : FnScope ["deck", "far", "some"] ["deck"] (defScope s_law_given) := ⟨rfl, rfl, rfl, by decide +kernel, rfl, by decide +kernel, by decide +kernel⟩
abbrev s_law_right : Stmt := top 35
theorem sc_law_right : FnScope ["which", "given", "named", "caught", "e", "k"] ["which", "given", "named"] (defScope s_law_right) := ⟨rfl, rfl, rfl, by decide +kernel, rfl, by decide +kernel, by decide +kernel⟩
abbrev s_law_base_right : Stmt := top 36
theorem sc_law_base_right : FnScope ["given", "caught", "e"] ["given"] (defScope s_law_base_right) := ⟨rfl, rfl, rfl, by decide +kernel, rfl, by decide +kernel, by decide +kernel⟩
abbrev s_law : Stmt := top 37
theorem sc_law : FnScope ["script", "k", "which", "first", "second", "deck", "e", "named", "given", "other"] ["script"] (defScope s_law) := ⟨rfl, rfl, rfl, by decide +kernel, rfl, by decide +kernel, by decide +kernel⟩
/-- the names of the classes -/
structure Nms (mg : Str → Option Value) (b : Addr) (cs : Nat → Addr) : Prop where
  m_InvalidNumber : mg "InvalidNumber" = some (.ref (cs 0))
  m_InvalidPoint : mg "InvalidPoint" = some (.ref (cs 1))
  m_InvalidOffset : mg "InvalidOffset" = some (.ref (cs 2))
  m_InvalidTable : mg "InvalidTable" = some (.ref (cs 3))
  m_InvalidKit : mg "InvalidKit" = some (.ref (cs 4))
  m_InvalidState : mg "InvalidState" = some (.ref (cs 5))
  m_InvalidWalk : mg "InvalidWalk" = some (.ref (cs 6))
  m_InvalidAddress : mg "InvalidAddress" = some (.ref (cs 7))
  m_InvalidPaper : mg "InvalidPaper" = some (.ref (cs 8))
  m_InvalidPair : mg "InvalidPair" = some (.ref (cs 9))
  m_InvalidPower : mg "InvalidPower" = some (.ref (cs 10))
  m_InvalidZoom : mg "InvalidZoom" = some (.ref (cs 11))
  m_InvalidTurn : mg "InvalidTurn" = some (.ref (cs 12))
  m_InvalidWay : mg "InvalidWay" = some (.ref (cs 13))
  m_InvalidName : mg "InvalidName" = some (.ref (cs 14))
  m_UnknownName : mg "UnknownName" = some (.ref (cs 15))
  m_NoSquares : mg "NoSquares" = some (.ref (cs 16))
  m_NoMeeting : mg "NoMeeting" = some (.ref (cs 17))
  m_NoReturn : mg "NoReturn" = some (.ref (cs 18))
  m_NothingToUndo : mg "NothingToUndo" = some (.ref (cs 19))
  m_Unreadable : mg "Unreadable" = some (.ref (cs 20))
  m_Unorderly : mg "Unorderly" = some (.ref (cs 21))
  m_KitError : mg "KitError" = some (.ref b)
  z_ValueError : mg "ValueError" = none
section
variable {P : Program} {w : World} {K : PySem.W.Frag} {mg : Str → Option Value} {base : Heap} {f : Addr} {fd : FuncData} {fI b : Addr} {cs : Nat → Addr}
abbrev s_init : Stmt := inClass (top 1) 0
theorem sc_init : FnScope ["self", "value"] ["self", "value"] (defScope s_init) := ⟨rfl, rfl, rfl, by decide +kernel, rfl, by decide +kernel, by decide +kernel⟩
theorem ok_init (F : Fun K "__init__" "KitError.__init__" s_init f fd) : FnOk P w K mg base CX0 1 f fd ["self", "value"] (spIni K) := by
  refine F.ok sc_init (fun vs H Q E h => lenI h) (fun cdv A outer s H vs Q E hr h => ?_)
  obtain ⟨a, C, g, rfl, T, hno, ha, k⟩ := h
  refine ⟨_, pss_one (ps_ost (pv 0) (pv 1)), ?_⟩
  refine w_st (σ' := [some (.ref a), some g]) rfl ?_
  try simp only [cxK, cxK2]
  (repeat kas_types)
  exact ⟨a, C, rfl, T, hno, .inl ⟨ha, fun dx h1 h2 => k dx h1 h2⟩⟩

theorem ok_law_raise_first (F : Fun K "_law_raise_first" "_law_raise_first" s_law_raise_first f fd) (M : Bu0 mg) (N : Nms mg b cs) (KT : Kit K fI b cs) (NI : Ini P w K mg base 1 fI)  : FnOk P w K mg base (L2.CX P w) 3 f fd ["which", "given"] (spR cs 0 11) := by
  refine F.okX sc_law_raise_first (fun vs H Q E h => ?_) (fun cdv A outer s H vs Q E hr h => ?_)
  · exact lenR h
  · obtain ⟨n, g, rfl, hlo, hhi, q⟩ := h
    refine ⟨_, (pss_cons (ps_if (pt_cmpR (op_eqK K rfl hr.units) (pv 0) pe_int (nomark _)) (pss_one (ps_raise rfl (takes_of rfl rfl rfl rfl) (pmk_pos (KT.x 0 (by decide)) NI hr (by decide) rfl N.m_InvalidNumber (pv 1)))) pss_nil)
      (pss_cons (ps_if (pt_cmpR (op_eqK K rfl hr.units) (pv 0) pe_int (nomark _)) (pss_one (ps_raise rfl (takes_of rfl rfl rfl rfl) (pmk_pos (KT.x 1 (by decide)) NI hr (by decide) rfl N.m_InvalidPoint (pv 1)))) pss_nil)
      (pss_cons (ps_if (pt_cmpR (op_eqK K rfl hr.units) (pv 0) pe_int (nomark _)) (pss_one (ps_raise rfl (takes_of rfl rfl rfl rfl) (pmk_pos (KT.x 2 (by decide)) NI hr (by decide) rfl N.m_InvalidOffset (pv 1)))) pss_nil)
      (pss_cons (ps_if (pt_cmpR (op_eqK K rfl hr.units) (pv 0) pe_int (nomark _)) (pss_one (ps_raise rfl (takes_of rfl rfl rfl rfl) (pmk_pos (KT.x 3 (by decide)) NI hr (by decide) rfl N.m_InvalidTable (pv 1)))) pss_nil)
      (pss_cons (ps_if (pt_cmpR (op_eqK K rfl hr.units) (pv 0) pe_int (nomark _)) (pss_one (ps_raise rfl (takes_of rfl rfl rfl rfl) (pmk_pos (KT.x 4 (by decide)) NI hr (by decide) rfl N.m_InvalidKit (pv 1)))) pss_nil)
      (pss_cons (ps_if (pt_cmpR (op_eqK K rfl hr.units) (pv 0) pe_int (nomark _)) (pss_one (ps_raise rfl (takes_of rfl rfl rfl rfl) (pmk_pos (KT.x 5 (by decide)) NI hr (by decide) rfl N.m_InvalidState (pv 1)))) pss_nil)
      (pss_cons (ps_if (pt_cmpR (op_eqK K rfl hr.units) (pv 0) pe_int (nomark _)) (pss_one (ps_raise rfl (takes_of rfl rfl rfl rfl) (pmk_pos (KT.x 6 (by decide)) NI hr (by decide) rfl N.m_InvalidWalk (pv 1)))) pss_nil)
      (pss_cons (ps_if (pt_cmpR (op_eqK K rfl hr.units) (pv 0) pe_int (nomark _)) (pss_one (ps_raise rfl (takes_of rfl rfl rfl rfl) (pmk_pos (KT.x 7 (by decide)) NI hr (by decide) rfl N.m_InvalidAddress (pv 1)))) pss_nil)
      (pss_cons (ps_if (pt_cmpR (op_eqK K rfl hr.units) (pv 0) pe_int (nomark _)) (pss_one (ps_raise rfl (takes_of rfl rfl rfl rfl) (pmk_pos (KT.x 8 (by decide)) NI hr (by decide) rfl N.m_InvalidPaper (pv 1)))) pss_nil)
      (pss_cons (ps_if (pt_cmpR (op_eqK K rfl hr.units) (pv 0) pe_int (nomark _)) (pss_one (ps_raise rfl (takes_of rfl rfl rfl rfl) (pmk_pos (KT.x 9 (by decide)) NI hr (by decide) rfl N.m_InvalidPair (pv 1)))) pss_nil)
      (pss_one (ps_raise rfl (takes_of rfl rfl rfl rfl) (pmk_pos (KT.x 10 (by decide)) NI hr (by decide) rfl N.m_InvalidPower (pv 1)))))))))))))), ?_⟩
    try simp only [cxK, cxK2]
    refine w_st (σ' := [some (.int (n : Nat)), some g]) rfl ?_
    have hn : n = 0 ∨ n = 1 ∨ n = 2 ∨ n = 3 ∨ n = 4 ∨ n = 5 ∨ n = 6 ∨ n = 7 ∨ n = 8 ∨ n = 9 ∨ n = 10 := by omega
    rcases hn with rfl | rfl | rfl | rfl | rfl | rfl | rfl | rfl | rfl | rfl | rfl
    all_goals
      (repeat kas_types)
      exact w_mkg (KT.x _ (by decide)) q


theorem ok_law_raise_second (F : Fun K "_law_raise_second" "_law_raise_second" s_law_raise_second f fd) (M : Bu0 mg) (N : Nms mg b cs) (KT : Kit K fI b cs) (NI : Ini P w K mg base 1 fI)  : FnOk P w K mg base (L2.CX P w) 3 f fd ["which", "given"] (spR cs 11 22) := by
  refine F.okX sc_law_raise_second (fun vs H Q E h => ?_) (fun cdv A outer s H vs Q E hr h => ?_)
  · exact lenR h
  · obtain ⟨n, g, rfl, hlo, hhi, q⟩ := h
    refine ⟨_, (pss_cons (ps_if (pt_cmpR (op_eqK K rfl hr.units) (pv 0) pe_int (nomark _)) (pss_one (ps_raise rfl (takes_of rfl rfl rfl rfl) (pmk_pos (KT.x 11 (by decide)) NI hr (by decide) rfl N.m_InvalidZoom (pv 1)))) pss_nil)
      (pss_cons (ps_if (pt_cmpR (op_eqK K rfl hr.units) (pv 0) pe_int (nomark _)) (pss_one (ps_raise rfl (takes_of rfl rfl rfl rfl) (pmk_pos (KT.x 12 (by decide)) NI hr (by decide) rfl N.m_InvalidTurn (pv 1)))) pss_nil)
      (pss_cons (ps_if (pt_cmpR (op_eqK K rfl hr.units) (pv 0) pe_int (nomark _)) (pss_one (ps_raise rfl (takes_of rfl rfl rfl rfl) (pmk_pos (KT.x 13 (by decide)) NI hr (by decide) rfl N.m_InvalidWay (pv 1)))) pss_nil)
      (pss_cons (ps_if (pt_cmpR (op_eqK K rfl hr.units) (pv 0) pe_int (nomark _)) (pss_one (ps_raise rfl (takes_of rfl rfl rfl rfl) (pmk_pos (KT.x 14 (by decide)) NI hr (by decide) rfl N.m_InvalidName (pv 1)))) pss_nil)
      (pss_cons (ps_if (pt_cmpR (op_eqK K rfl hr.units) (pv 0) pe_int (nomark _)) (pss_one (ps_raise rfl (takes_of rfl rfl rfl rfl) (pmk_pos (KT.x 15 (by decide)) NI hr (by decide) rfl N.m_UnknownName (pv 1)))) pss_nil)
      (pss_cons (ps_if (pt_cmpR (op_eqK K rfl hr.units) (pv 0) pe_int (nomark _)) (pss_one (ps_raise rfl (takes_of rfl rfl rfl rfl) (pmk_pos (KT.x 16 (by decide)) NI hr (by decide) rfl N.m_NoSquares (pv 1)))) pss_nil)
      (pss_cons (ps_if (pt_cmpR (op_eqK K rfl hr.units) (pv 0) pe_int (nomark _)) (pss_one (ps_raise rfl (takes_of rfl rfl rfl rfl) (pmk_pos (KT.x 17 (by decide)) NI hr (by decide) rfl N.m_NoMeeting (pv 1)))) pss_nil)
      (pss_cons (ps_if (pt_cmpR (op_eqK K rfl hr.units) (pv 0) pe_int (nomark _)) (pss_one (ps_raise rfl (takes_of rfl rfl rfl rfl) (pmk_pos (KT.x 18 (by decide)) NI hr (by decide) rfl N.m_NoReturn (pv 1)))) pss_nil)
      (pss_cons (ps_if (pt_cmpR (op_eqK K rfl hr.units) (pv 0) pe_int (nomark _)) (pss_one (ps_raise rfl (takes_of rfl rfl rfl rfl) (pmk_pos (KT.x 19 (by decide)) NI hr (by decide) rfl N.m_NothingToUndo (pv 1)))) pss_nil)
      (pss_cons (ps_if (pt_cmpR (op_eqK K rfl hr.units) (pv 0) pe_int (nomark _)) (pss_one (ps_raise rfl (takes_of rfl rfl rfl rfl) (pmk_pos (KT.x 20 (by decide)) NI hr (by decide) rfl N.m_Unreadable (pv 1)))) pss_nil)
      (pss_one (ps_raise rfl (takes_of rfl rfl rfl rfl) (pmk_pos (KT.x 21 (by decide)) NI hr (by decide) rfl N.m_Unorderly (pv 1)))))))))))))), ?_⟩
    try simp only [cxK, cxK2]
    refine w_st (σ' := [some (.int (n : Nat)), some g]) rfl ?_
    have hn : n = 11 ∨ n = 12 ∨ n = 13 ∨ n = 14 ∨ n = 15 ∨ n = 16 ∨ n = 17 ∨ n = 18 ∨ n = 19 ∨ n = 20 ∨ n = 21 := by omega
    rcases hn with rfl | rfl | rfl | rfl | rfl | rfl | rfl | rfl | rfl | rfl | rfl
    all_goals
      (repeat kas_types)
      exact w_mkg (KT.x _ (by decide)) q


theorem ok_law_raise_named_first (F : Fun K "_law_raise_named_first" "_law_raise_named_first" s_law_raise_named_first f fd) (M : Bu0 mg) (N : Nms mg b cs) (KT : Kit K fI b cs) (NI : Ini P w K mg base 1 fI)  : FnOk P w K mg base (L2.CX P w) 3 f fd ["which", "given"] (spR cs 0 11) := by
  refine F.okX sc_law_raise_named_first (fun vs H Q E h => ?_) (fun cdv A outer s H vs Q E hr h => ?_)
  · exact lenR h
  · obtain ⟨n, g, rfl, hlo, hhi, q⟩ := h
    refine ⟨_, (pss_cons (ps_if (pt_cmpR (op_eqK K rfl hr.units) (pv 0) pe_int (nomark _)) (pss_one (ps_raise rfl (takes_of rfl rfl rfl rfl) (pmk_kw (KT.x 0 (by decide)) NI hr (by decide) rfl N.m_InvalidNumber (pv 1)))) pss_nil)
      (pss_cons (ps_if (pt_cmpR (op_eqK K rfl hr.units) (pv 0) pe_int (nomark _)) (pss_one (ps_raise rfl (takes_of rfl rfl rfl rfl) (pmk_kw (KT.x 1 (by decide)) NI hr (by decide) rfl N.m_InvalidPoint (pv 1)))) pss_nil)
      (pss_cons (ps_if (pt_cmpR (op_eqK K rfl hr.units) (pv 0) pe_int (nomark _)) (pss_one (ps_raise rfl (takes_of rfl rfl rfl rfl) (pmk_kw (KT.x 2 (by decide)) NI hr (by decide) rfl N.m_InvalidOffset (pv 1)))) pss_nil)
      (pss_cons (ps_if (pt_cmpR (op_eqK K rfl hr.units) (pv 0) pe_int (nomark _)) (pss_one (ps_raise rfl (takes_of rfl rfl rfl rfl) (pmk_kw (KT.x 3 (by decide)) NI hr (by decide) rfl N.m_InvalidTable (pv 1)))) pss_nil)
      (pss_cons (ps_if (pt_cmpR (op_eqK K rfl hr.units) (pv 0) pe_int (nomark _)) (pss_one (ps_raise rfl (takes_of rfl rfl rfl rfl) (pmk_kw (KT.x 4 (by decide)) NI hr (by decide) rfl N.m_InvalidKit (pv 1)))) pss_nil)
      (pss_cons (ps_if (pt_cmpR (op_eqK K rfl hr.units) (pv 0) pe_int (nomark _)) (pss_one (ps_raise rfl (takes_of rfl rfl rfl rfl) (pmk_kw (KT.x 5 (by decide)) NI hr (by decide) rfl N.m_InvalidState (pv 1)))) pss_nil)
      (pss_cons (ps_if (pt_cmpR (op_eqK K rfl hr.units) (pv 0) pe_int (nomark _)) (pss_one (ps_raise rfl (takes_of rfl rfl rfl rfl) (pmk_kw (KT.x 6 (by decide)) NI hr (by decide) rfl N.m_InvalidWalk (pv 1)))) pss_nil)
      (pss_cons (ps_if (pt_cmpR (op_eqK K rfl hr.units) (pv 0) pe_int (nomark _)) (pss_one (ps_raise rfl (takes_of rfl rfl rfl rfl) (pmk_kw (KT.x 7 (by decide)) NI hr (by decide) rfl N.m_InvalidAddress (pv 1)))) pss_nil)
      (pss_cons (ps_if (pt_cmpR (op_eqK K rfl hr.units) (pv 0) pe_int (nomark _)) (pss_one (ps_raise rfl (takes_of rfl rfl rfl rfl) (pmk_kw (KT.x 8 (by decide)) NI hr (by decide) rfl N.m_InvalidPaper (pv 1)))) pss_nil)
      (pss_cons (ps_if (pt_cmpR (op_eqK K rfl hr.units) (pv 0) pe_int (nomark _)) (pss_one (ps_raise rfl (takes_of rfl rfl rfl rfl) (pmk_kw (KT.x 9 (by decide)) NI hr (by decide) rfl N.m_InvalidPair (pv 1)))) pss_nil)
      (pss_one (ps_raise rfl (takes_of rfl rfl rfl rfl) (pmk_kw (KT.x 10 (by decide)) NI hr (by decide) rfl N.m_InvalidPower (pv 1)))))))))))))), ?_⟩
    try simp only [cxK, cxK2]
    refine w_st (σ' := [some (.int (n : Nat)), some g]) rfl ?_
    have hn : n = 0 ∨ n = 1 ∨ n = 2 ∨ n = 3 ∨ n = 4 ∨ n = 5 ∨ n = 6 ∨ n = 7 ∨ n = 8 ∨ n = 9 ∨ n = 10 := by omega
    rcases hn with rfl | rfl | rfl | rfl | rfl | rfl | rfl | rfl | rfl | rfl | rfl
    all_goals
      (repeat kas_types)
      exact w_mkg (KT.x _ (by decide)) q


theorem ok_law_raise_named_second (F : Fun K "_law_raise_named_second" "_law_raise_named_second" s_law_raise_named_second f fd) (M : Bu0 mg) (N : Nms mg b cs) (KT : Kit K fI b cs) (NI : Ini P w K mg base 1 fI)  : FnOk P w K mg base (L2.CX P w) 3 f fd ["which", "given"] (spR cs 11 22) := by
  refine F.okX sc_law_raise_named_second (fun vs H Q E h => ?_) (fun cdv A outer s H vs Q E hr h => ?_)
  · exact lenR h
  · obtain ⟨n, g, rfl, hlo, hhi, q⟩ := h
    refine ⟨_, (pss_cons (ps_if (pt_cmpR (op_eqK K rfl hr.units) (pv 0) pe_int (nomark _)) (pss_one (ps_raise rfl (takes_of rfl rfl rfl rfl) (pmk_kw (KT.x 11 (by decide)) NI hr (by decide) rfl N.m_InvalidZoom (pv 1)))) pss_nil)
      (pss_cons (ps_if (pt_cmpR (op_eqK K rfl hr.units) (pv 0) pe_int (nomark _)) (pss_one (ps_raise rfl (takes_of rfl rfl rfl rfl) (pmk_kw (KT.x 12 (by decide)) NI hr (by decide) rfl N.m_InvalidTurn (pv 1)))) pss_nil)
      (pss_cons (ps_if (pt_cmpR (op_eqK K rfl hr.units) (pv 0) pe_int (nomark _)) (pss_one (ps_raise rfl (takes_of rfl rfl rfl rfl) (pmk_kw (KT.x 13 (by decide)) NI hr (by decide) rfl N.m_InvalidWay (pv 1)))) pss_nil)
      (pss_cons (ps_if (pt_cmpR (op_eqK K rfl hr.units) (pv 0) pe_int (nomark _)) (pss_one (ps_raise rfl (takes_of rfl rfl rfl rfl) (pmk_kw (KT.x 14 (by decide)) NI hr (by decide) rfl N.m_InvalidName (pv 1)))) pss_nil)
      (pss_cons (ps_if (pt_cmpR (op_eqK K rfl hr.units) (pv 0) pe_int (nomark _)) (pss_one (ps_raise rfl (takes_of rfl rfl rfl rfl) (pmk_kw (KT.x 15 (by decide)) NI hr (by decide) rfl N.m_UnknownName (pv 1)))) pss_nil)
      (pss_cons (ps_if (pt_cmpR (op_eqK K rfl hr.units) (pv 0) pe_int (nomark _)) (pss_one (ps_raise rfl (takes_of rfl rfl rfl rfl) (pmk_kw (KT.x 16 (by decide)) NI hr (by decide) rfl N.m_NoSquares (pv 1)))) pss_nil)
      (pss_cons (ps_if (pt_cmpR (op_eqK K rfl hr.units) (pv 0) pe_int (nomark _)) (pss_one (ps_raise rfl (takes_of rfl rfl rfl rfl) (pmk_kw (KT.x 17 (by decide)) NI hr (by decide) rfl N.m_NoMeeting (pv 1)))) pss_nil)
      (pss_cons (ps_if (pt_cmpR (op_eqK K rfl hr.units) (pv 0) pe_int (nomark _)) (pss_one (ps_raise rfl (takes_of rfl rfl rfl rfl) (pmk_kw (KT.x 18 (by decide)) NI hr (by decide) rfl N.m_NoReturn (pv 1)))) pss_nil)
      (pss_cons (ps_if (pt_cmpR (op_eqK K rfl hr.units) (pv 0) pe_int (nomark _)) (pss_one (ps_raise rfl (takes_of rfl rfl rfl rfl) (pmk_kw (KT.x 19 (by decide)) NI hr (by decide) rfl N.m_NothingToUndo (pv 1)))) pss_nil)
      (pss_cons (ps_if (pt_cmpR (op_eqK K rfl hr.units) (pv 0) pe_int (nomark _)) (pss_one (ps_raise rfl (takes_of rfl rfl rfl rfl) (pmk_kw (KT.x 20 (by decide)) NI hr (by decide) rfl N.m_Unreadable (pv 1)))) pss_nil)
      (pss_one (ps_raise rfl (takes_of rfl rfl rfl rfl) (pmk_kw (KT.x 21 (by decide)) NI hr (by decide) rfl N.m_Unorderly (pv 1)))))))))))))), ?_⟩
    try simp only [cxK, cxK2]
    refine w_st (σ' := [some (.int (n : Nat)), some g]) rfl ?_
    have hn : n = 11 ∨ n = 12 ∨ n = 13 ∨ n = 14 ∨ n = 15 ∨ n = 16 ∨ n = 17 ∨ n = 18 ∨ n = 19 ∨ n = 20 ∨ n = 21 := by omega
    rcases hn with rfl | rfl | rfl | rfl | rfl | rfl | rfl | rfl | rfl | rfl | rfl
    all_goals
      (repeat kas_types)
      exact w_mkg (KT.x _ (by decide)) q


theorem ok_law_raised (F : Fun K "_law_raised" "_law_raised" s_law_raised f fd) (M : Bu0 mg) (N : Nms mg b cs) (KT : Kit K fI b cs) (NI : Ini P w K mg base 1 fI) (c_law_raise_named_first : CalX P w K mg base 3 "_law_raise_named_first" ["which", "given"] (spR cs 0 11)) (c_law_raise_first : CalX P w K mg base 3 "_law_raise_first" ["which", "given"] (spR cs 0 11)) (c_law_raise_named_second : CalX P w K mg base 3 "_law_raise_named_second" ["which", "given"] (spR cs 11 22)) (c_law_raise_second : CalX P w K mg base 3 "_law_raise_second" ["which", "given"] (spR cs 11 22)) : FnOk P w K mg base (L2.CX P w) 4 f fd ["which", "given", "named"] (spR3 cs) := by
  refine F.okX sc_law_raised (fun vs H Q E h => ?_) (fun cdv A outer s H vs Q E hr h => ?_)
  · exact lenR3 h
  · obtain ⟨n, g, c, rfl, h22, q⟩ := h
    refine ⟨_, (pss_one (ps_if (PW.pt (pw_and (pt_cmpR op_lt (pv 0) pe_int (nomark _)) (pw_and1 (pt_val (pv 2))))) (pss_one (ps_expr (pe_callX c_law_raise_named_first hr (by decide) (takes_of rfl rfl rfl rfl) (pa_cons (pv 0) (pa_cons (pv 1) pa_nil))))) (pss_one (ps_if (pt_cmpR op_lt (pv 0) pe_int (nomark _)) (pss_one (ps_expr (pe_callX c_law_raise_first hr (by decide) (takes_of rfl rfl rfl rfl) (pa_cons (pv 0) (pa_cons (pv 1) pa_nil))))) (pss_one (ps_if (pt_val (pv 2)) (pss_one (ps_expr (pe_callX c_law_raise_named_second hr (by decide) (takes_of rfl rfl rfl rfl) (pa_cons (pv 0) (pa_cons (pv 1) pa_nil))))) (pss_one (ps_expr (pe_callX c_law_raise_second hr (by decide) (takes_of rfl rfl rfl rfl) (pa_cons (pv 0) (pa_cons (pv 1) pa_nil))))))))))), ?_⟩
    try simp only [cxK, cxK2]
    refine w_st (σ' := [some (.int (n : Nat)), some g, some (.bl c)]) rfl ?_
    by_cases hn : n < 11
    · cases c
      · (repeat kas_types)
        refine w_itt (decide_eq_true (by omega)) ?_
        (repeat kas_types)
        refine w_itt (decide_eq_true (by omega)) ?_
        (repeat kas_types)
        exact ⟨n, g, rfl, Nat.zero_le _, hn, q⟩
      · (repeat kas_types)
        refine w_itt (decide_eq_true (by omega)) ?_
        (repeat kas_types)
        exact ⟨n, g, rfl, Nat.zero_le _, hn, q⟩
    · cases c
      · (repeat kas_types)
        refine w_itf (decide_eq_false (by omega)) ?_
        (repeat kas_types)
        refine w_itf (decide_eq_false (by omega)) ?_
        (repeat kas_types)
        exact ⟨n, g, rfl, by omega, h22, q⟩
      · (repeat kas_types)
        refine w_itf (decide_eq_false (by omega)) ?_
        (repeat kas_types)
        refine w_itf (decide_eq_false (by omega)) ?_
        (repeat kas_types)
        exact ⟨n, g, rfl, by omega, h22, q⟩

end
end Sk

set_option maxHeartbeats 1000000
namespace Sk
open PySem PySem.Spec PyProof.Rows L2
open Evl (Ex ex_l ex_t)
local macro_rules | `(tactic| lcg_sub) => `(tactic| first | exact Evl.Ex.refl _ | assumption | (refine Evl.Ex.trans ?_ (by assumption); lcg_sub))
local macro_rules | `(tactic| keq_rows) => `(tactic| first | with_reducible exact Dq.int _ | with_reducible exact Dq.bl _ | with_reducible exact Dq.non | with_reducible exact Dq.str _ | assumption | ((refine' Dq.up ?e ?h); (case e => assumption); (case h => keq_rows)))
local macro_rules | `(tactic| k_subL) => `(tactic| first | with_reducible exact DqAll.nil | assumption | ((with_reducible refine' DqAll.cons ?a ?b); (case a => (keq_rows)); (case b => (k_subL))) | ((refine' DqAll.up ?e ?h); (case e => assumption); (case h => assumption)) | ((refine' DqAll.up ?e (DqAll.up ?f ?h)); (case e => assumption); (case f => assumption); (case h => assumption)) | ((refine' DqAll.up ?e (DqAll.up ?f (DqAll.up ?g ?h))); (case e => assumption); (case f => assumption); (case g => assumption); (case h => assumption)))
local macro_rules | `(tactic| keq_hits) => `(tactic| first | with_reducible exact L2.Dp.int _ | with_reducible exact L2.Dp.bl _ | with_reducible exact L2.Dp.non | with_reducible exact L2.Dp.str _ | assumption | exact Dq.dp (by assumption) | ((refine' Sk.Dp.up ?e ?h); (case e => assumption); (case h => keq_hits)))
local macro_rules | `(tactic| k_clsL) => `(tactic| first | with_reducible exact L2.DpAll.nil | assumption | ((with_reducible refine' L2.DpAll.cons ?a ?b); (case a => (keq_hits)); (case b => (k_clsL))) | exact DqAll.dp (by assumption) | ((refine' Sk.DpAll.up ?e ?h); (case e => assumption); (case h => assumption)) | ((refine' Sk.DpAll.up ?e (Sk.DpAll.up ?f ?h)); (case e => assumption); (case f => assumption); (case h => assumption)) | ((refine' Sk.DpAll.up ?e (Sk.DpAll.up ?f (Sk.DpAll.up ?g ?h))); (case e => assumption); (case f => assumption); (case g => assumption); (case h => assumption)))
local macro_rules | `(tactic| k_offL) => `(tactic| first | assumption | ((refine' at_up ?e ?h); (case e => assumption); (case h => k_offL)))
local macro_rules | `(tactic| lcg_off) => `(tactic| first | assumption | exact .inl (.inl (by assumption)) | ((refine' Evl.ex_l ?e ?h); (case e => assumption); (case h => lcg_off)))
local macro_rules | `(tactic| kas_types) => `(tactic| first
  | ((with_reducible refine' w_var ?h ?q); (case h => exact rfl))
  | with_reducible refine w_op ?_ | with_reducible refine w_c ?_ | with_reducible refine w_I0 ?_ | with_reducible refine w_addI ?_ | with_reducible refine w_bl ?_
  | with_reducible refine w_cons ?_ | with_reducible refine w_nil ?_ | with_reducible refine w_seq ?_ | with_reducible refine w_ift ?_ | with_reducible refine w_iff ?_
  | with_reducible refine w_call ?_ | with_reducible refine w_cb ?_ | with_reducible refine w_asg ?_ | ((with_reducible refine w_gname ?_); (try dsimp only [List.set]))
  | with_reducible refine w_if ?_ | with_reducible refine w_test ?_ | with_reducible refine w_B ?_ | with_reducible refine w_not ?_ | with_reducible refine w_and ?_ | with_reducible refine w_or ?_
  | with_reducible refine w_ret ?_ | with_reducible refine w_drop ?_ | with_reducible refine w_next ?_ | with_reducible refine w_retN ?_ | with_reducible refine w_andV ?_ | with_reducible refine w_orV ?_ | with_reducible refine w_notV ?_ | with_reducible refine w_ifE ?_ | with_reducible refine w_chain ?_
  | with_reducible refine w_yes ?_ | with_reducible refine w_un ?_ | with_reducible refine w_neg ?_ | with_reducible refine w_eqI ?_ | with_reducible refine w_neI ?_ | with_reducible refine w_abs ?_ | with_reducible refine w_int ?_ | with_reducible refine w_gcd ?_
  | with_reducible refine w_max2 ?_ | with_reducible refine w_min2 ?_ | with_reducible refine w_shr ?_ | with_reducible refine w_bits ?_ | with_reducible refine w_isint ?_ | with_reducible refine w_isN ?_ | with_reducible refine w_notN ?_
  | with_reducible refine w_tupF ?_ | with_reducible refine w_lst ?_ | with_reducible refine w_then ?_ | with_reducible refine w_callW ?_ | with_reducible refine w_par ?_ | with_reducible refine w_cnt ?_ | with_reducible refine w_forrev ?_ | with_reducible refine w_for1 ?_ | with_reducible refine w_for2 ?_ | with_reducible refine w_lc1 ?_ | with_reducible refine w_tupP ?_
  | ((with_reducible refine w_two ?_); (try dsimp only [List.set]))
  | with_reducible refine w_sl ?_ | with_reducible refine w_nopart ?_ | with_reducible refine w_part ?_ | with_reducible refine w_partg ?_
  | with_reducible refine w_gsub ?_ | with_reducible refine w_neB ?_ | with_reducible refine w_eqB ?_ | with_reducible refine w_eqS ?_
  | with_reducible refine w_gcons ?_ | with_reducible refine w_gnil ?_
  | ((with_reducible refine w_itf ?e ?_); (case e => exact rfl))
  | ((with_reducible refine w_itt ?e ?_); (case e => exact rfl))
  | ((with_reducible refine' w_gtup_ii ?h ?_); (case h => (keq_rows)))
  | ((with_reducible refine' w_gtup_2 ?h ?_); (case h => (keq_rows)); intro _ _ _ _)
  | ((with_reducible refine' w_gtupp_ii ?h ?_); (case h => (keq_hits)))
  | ((with_reducible refine' w_gtupp_2 ?h ?_); (case h => (keq_hits)); intro _ _ _ _)
  | ((with_reducible refine' w_isi ?h ?_); (case h => (keq_hits)))
  | ((with_reducible refine' w_isiT ?h ?e ?_); (case h => (keq_hits)); (case e => (k_offL)))
  | ((with_reducible refine' w_lenT ?h ?_); (case h => (keq_hits)))
  | ((with_reducible refine' w_lenL ?h ?_); (case h => (keq_hits)))
  | ((with_reducible refine' w_ixi ?h ?e ?_); (case h => (keq_rows)); (case e => exact rfl))
  | ((with_reducible refine' w_ix ?h ?e ?_); (case h => (keq_rows)); (case e => exact rfl); intro _ _)
  | ((with_reducible refine' w_ixpi ?h ?e ?_); (case h => (keq_hits)); (case e => exact rfl))
  | ((with_reducible refine' w_ixp ?h ?e ?_); (case h => (keq_hits)); (case e => exact rfl); intro _ _)
  | ((with_reducible refine' w_ixl ?h ?e ?_); (case h => (lcg_off)); (case e => exact rfl))
  | ((with_reducible refine' w_lenS ?h ?_); (case h => (lcg_off)))
  | ((with_reducible refine' w_slT ?h ?_); (case h => (keq_hits)); intro _ _ _ _)
  | ((with_reducible refine' w_catT ?h1 ?h2 ?hl ?_); (case h1 => (keq_hits)); (case h2 => (keq_hits)); (case hl => exact Nat.le_of_ble_eq_true rfl); intro _ _ _ _)
  | ((with_reducible refine' w_kw1 ?e ?_); (case e => exact rfl))
  | ((with_reducible refine' w_kw2 ?e ?_); (case e => exact rfl))
  | ((with_reducible refine' w_rep2 ?h ?_); (case h => (k_offL)); intro _ _ _ _)
  | ((with_reducible refine' w_cntg ?h ?_); (case h => (keq_rows)))
  | ((with_reducible refine' w_newT ?l ?d ?_); (case l => exact Nat.le_of_ble_eq_true rfl); (case d => (k_subL)); intro _ _ _ _)
  | ((with_reducible refine' w_newTp ?l ?d ?_); (case l => exact Nat.le_of_ble_eq_true rfl); (case d => (k_clsL)); intro _ _ _ _)
  | ((with_reducible refine' w_newLq ?l ?d ?_); (case l => exact Nat.le_of_ble_eq_true rfl); (case d => (k_subL)); intro _ _ _ _ _ _ _)
  | ((with_reducible refine' w_newLp ?l ?d ?_); (case l => exact Nat.le_of_ble_eq_true rfl); (case d => (k_clsL)); intro _ _ _ _ _ _ _)
  | ((with_reducible refine' w_newTy ?l ?_); (case l => exact Nat.le_of_ble_eq_true rfl); intro _ _ _ _))
section
variable {P : Program} {w : World} {K : PySem.W.Frag} {mg : Str → Option Value} {base : Heap} {f : Addr} {fd : FuncData}
def sp_law_takeL (_ : PySem.W.Frag) : Sp := fun vs H Q _ => ∃ (a : Addr) (x s m : Int), vs = [.ref a, .int m] ∧ H a = some (.lst [.int x, .int s]) ∧ 0 ≤ s ∧ s < 2 ^ 64 ∧ 0 < m ∧ Bd 7900 m ∧ ∀ r x' s' : Int, 0 ≤ r → r < m → 0 ≤ s' → s' < 2 ^ 64 → Q (.int r) (upd H a (.lst [.int x', .int s']))
def drawn (m : Int) (d : PyData) : Prop := ∃ r : Int, d = .int r ∧ 0 ≤ r ∧ r < m
abbrev sp_law_take (K : PySem.W.Frag) : Sp := spK K (fun m : Int => [.int m]) (fun m => 0 < m ∧ Bd 7900 m) drawn
theorem len_law_take {K : PySem.W.Frag} {vs : List V} {H : Hp} {Q : VK} {E : XK} (h : sp_law_takeL K vs H Q E) : vs.length = 2 := by
  obtain ⟨a, x, z, m, rfl, _⟩ := h
  rfl
theorem ok_law_take (F : Fun K "_law_take" "_law_take" s_law_take f fd) (M : Bu0 mg)   : FnOk P w K mg base CX0 1 f fd ["deck", "many"] (sp_law_takeL K) := by
  refine F.ok sc_law_take (fun vs H Q E h => ?_) (fun cdv A outer s H vs Q E hr h => ?_)
  · exact len_law_take h
  · obtain ⟨a, x, z, m, rfl, hH, z0, z1, m0, mb, k⟩ := h
    refine ⟨_, (pss_cons (ps_if (pt_cmpR op_gt (pe_ix (ix_seqK K rfl) (pv 0) pe_int (fun _ _ => rfl)) pe_int (nomark _)) (pss_cons (ps_set (i := 2) sc_law_take.nd rfl (Or.inl rfl) (pe_op op_mod (pe_callTy call_intU (by rfl) M.z_int (by decide +kernel) (pa_cons (pe_ix (ix_seqK K rfl) (pv 0) pe_int (fun _ _ => rfl)) pa_nil)) (pv 1)))
      (pss_cons (ps_asg (pe_op op_fdivZ (pe_ix (ix_seqK K rfl) (pv 0) pe_int (fun _ _ => rfl)) (pv 1)) (pg_sub (pv 0) pe_int set_list))
      (pss_one (ps_ret (pv 2))))) pss_nil)
      (pss_cons (ps_asg (pe_op op_mod (pe_callTy call_intU (by rfl) M.z_int (by decide +kernel) (pa_cons (pe_op (op_addK K rfl) (pe_op op_mulU (pe_ix (ix_seqK K rfl) (pv 0) pe_int (fun _ _ => rfl)) pe_int) pe_int) pa_nil)) (pe_op op_pow pe_int pe_int)) (pg_sub (pv 0) pe_int set_list))
      (pss_one (ps_ret (pe_op op_mod (pe_op op_fdivZ (pe_ix (ix_seqK K rfl) (pv 0) pe_int (fun _ _ => rfl)) (pe_op op_pow pe_int pe_int)) (pv 1)))))), ?_⟩
    try simp only [cxK, cxK2]
    refine w_st (σ' := [some (.ref a), some (.int m), none]) rfl ?_
    have bz : Bd 64 z := (by unfold Bd; have h9 : ((2 : Int) ^ 64) = 18446744073709551616 := (by decide); have h8 : ((2 : Nat) ^ 64) = 18446744073709551616 := (by decide); omega)
    (repeat kas_types)
    refine w_ite (fun e => ?_) (fun e => ?_)
    · (repeat kas_types)
      refine w_I m0 ?_
      (repeat kas_types)
      refine w_I (divz (by omega) mb (by decide)) ?_
      (repeat kas_types)
      refine w_setl hH rfl fun H1 e1 h1 => ?_
      (repeat kas_types)
      rw [e1]
      exact k _ _ _ (Int.emod_nonneg _ (by omega)) (Int.emod_lt_of_pos _ m0) z0 z1
    · (repeat kas_types)
      refine w_mulI (mulx bz (show Bd 64 _ by unfold Bd; decide) (by decide)) ?_
      (repeat kas_types)
      refine w_I ⟨by decide, by decide, by decide⟩ ?_
      refine w_I (by decide) ?_
      (repeat kas_types)
      refine w_setl hH rfl fun H1 e1 h1 => ?_
      have h1' : H1 a = some (.lst [.int x, .int ((z * 6364136223846793005 + 1442695040888963407) % 2 ^ (64 : Int).toNat)]) := h1
      (repeat kas_types)
      refine w_I ⟨by decide, by decide, by decide⟩ ?_
      refine w_I (divz (n := 64) (by decide) (by unfold Bd; decide) (by decide)) ?_
      (repeat kas_types)
      refine w_I m0 ?_
      (repeat kas_types)
      rw [e1]
      exact k _ _ _ (Int.emod_nonneg _ (by omega)) (Int.emod_lt_of_pos _ m0) (Int.emod_nonneg _ (by decide)) (Int.emod_lt_of_pos _ (by decide))

theorem take_of (F : FnOk P w K mg base CX0 1 f fd ["deck", "many"] (sp_law_takeL K)) : FnOk P w K mg base CX0 1 f fd ["deck", "many"] (sp_law_take K) := by
  refine deck_in F fun vs H Q E h => ?_
  obtain ⟨m, a, vs', rfl, hd, ha, ⟨hc, hb⟩, k⟩ := h
  obtain ⟨v, rfl, hv⟩ := dqa1 ha
  rw [qint_inv hv]
  refine ⟨a, hd, fun x s h0 h1 => ⟨a, x, s, m, rfl, upd_same, h0, h1, hc, hb, fun r x' s' r0 r1 s0 s1 => ⟨x', s', upd_same, s0, s1, ?_⟩⟩⟩
  rw [upd_upd, upd_upd]
  refine k (.int r) (.int r) _ (fun b o e => ?_) ⟨r, rfl, r0, r1⟩ (.int r)
  by_cases hb : b = a
  · subst hb
    have hd' : H b = some (DeckO b) := hd
    rw [hd'] at e
    rw [upd_same]
    exact e
  · rw [upd_ne hb]
    exact e
/-- a draw -/
theorem w_take {H : Hp} {Q : VK} {E : XK} {a : Addr} {m : Int} (hd : DeckAt H a) (h0 : 0 < m) (hb : Bd 7900 m) (k : ∀ r H', Ex H H' → 0 ≤ r → r < m → Q (.int r) H') : sp_law_take K [.ref a, .int m] H Q E :=
  w_spK m hd (.cons (.int m) .nil) ⟨h0, hb⟩ fun d v H' e ⟨r, hr, r0, r1⟩ hv => by
    subst hr
    rw [qint_inv hv]
    exact k r H' e r0 r1
def sp_law_deckL (K : PySem.W.Frag) : Sp := fun vs H Q _ => ∃ (a : Addr) (ns : List Int) (j : Nat), vs = [.ref a, .int (j : Nat)] ∧ SqL K H a (ns.map V.int) ∧ j ≤ 1000 ∧ ∀ (p : Addr) (x s : Int) (H' : Hp), Ex H H' → H p = none → H' p = some (.lst [.int x, .int s]) → 0 ≤ s → s < 2 ^ 64 → Q (.ref p) H'
def sp_law_deck (K : PySem.W.Frag) : Sp := fun vs H Q _ => ∃ (a : Addr) (ns : List Int) (j : Nat), vs = [.ref a, .int (j : Nat)] ∧ SqL K H a (ns.map V.int) ∧ j ≤ 1000 ∧ ∀ (p : Addr) (H' : Hp), Ex H H' → DeckAt H' p → Q (.ref p) H'
theorem w_newLe {K : PySem.W.Frag} {xs : List V} {Q : VK} {H : Hp} (hl : xs.length ≤ 1000) (k : ∀ p, H p = none → Q (.ref p) (upd H p (.lst xs))) : NewL K xs Q H := ⟨Nat.le_trans hl (by decide), k⟩
theorem stir_ok (z : Int) (j : Int) : Bd 61 (z % 2305843009213693951) ∧ Bd 64 (31 : Int) ∧ (0 ≤ (z + j) % 2305843009213693951 ∧ (z + j) % 2305843009213693951 < 2 ^ 64) := by
  refine ⟨?_, by unfold Bd; decide, Int.emod_nonneg _ (by decide), Int.lt_trans (Int.emod_lt_of_pos _ (by decide)) (by decide)⟩
  unfold Bd
  have h1 := Int.emod_nonneg z (show (2305843009213693951 : Int) ≠ 0 by decide)
  have h2 := Int.emod_lt_of_pos z (show (0 : Int) < 2305843009213693951 by decide)
  have : (2 : Nat) ^ 61 = 2305843009213693952 := by decide
  omega
theorem len_law_deck {K : PySem.W.Frag} {vs : List V} {H : Hp} {Q : VK} {E : XK} (h : sp_law_deckL K vs H Q E) : vs.length = 2 := by
  obtain ⟨a, ns, j, rfl, _⟩ := h
  rfl
theorem ok_law_deck (F : Fun K "_law_deck" "_law_deck" s_law_deck f fd) (M : Bu0 mg)   : FnOk P w K mg base CX0 1 f fd ["script", "k"] (sp_law_deckL K) := by
  refine F.ok sc_law_deck (fun vs H Q E h => ?_) (fun cdv A outer s H vs Q E hr h => ?_)
  · exact len_law_deck h
  · obtain ⟨a, ns, j, rfl, hS, hj, k⟩ := h
    refine ⟨_, (pss_cons (ps_set (i := 2) sc_law_deck.nd rfl (Or.inl rfl) pe_int)
      (pss_cons (ps_if (pt_cmpR op_lt (pv 1) (pe_callB (call_lenK K rfl) (by rfl) M.z_len PySem.boot_len (pa_cons (pv 0) pa_nil)) (nomark _)) (pss_one (ps_set (i := 2) sc_law_deck.nd rfl (Or.inl rfl) (pe_ix (ix_seqK K rfl) (pv 0) (pv 1) (fun _ _ => rfl)))) pss_nil)
      (pss_cons (ps_set (i := 3) sc_law_deck.nd rfl (Or.inl rfl) (pe_op op_mod (pe_callTy call_intU (by rfl) M.z_int (by decide +kernel) (pa_cons (pe_op (op_addK K rfl) (pe_op (op_addK K rfl) (pv 2) (pe_op op_mulU pe_int (pv 1))) pe_int) pa_nil)) pe_int))
      (pss_cons (ps_set (i := 3) sc_law_deck.nd rfl (Or.inl rfl) (pe_op op_mod (pe_callTy call_intU (by rfl) M.z_int (by decide +kernel) (pa_cons (pe_op (op_addK K rfl) (pe_op (op_addK K rfl) (pe_op op_mulU (pe_op op_mulU (pv 3) (pv 3)) (pv 3)) (pe_op op_mulU pe_int (pv 1))) pe_int) pa_nil)) pe_int))
      (pss_cons (ps_if (pt_cmpR op_lt (pv 2) (pe_op op_pow pe_int pe_int) (nomark _)) (pss_one (ps_ret (pe_lstK K rfl (pa_cons pe_int (pa_cons (pv 3) pa_nil))))) pss_nil)
      (pss_one (ps_ret (pe_lstK K rfl (pa_cons (pe_op op_sub (pv 2) (pe_op op_pow pe_int pe_int)) (pa_cons (pv 3) pa_nil)))))))))), ?_⟩
    try simp only [cxK, cxK2]
    refine w_st (σ' := [some (.ref a), some (.int (j : Nat)), none, none]) rfl ?_
    have b7 : Bd 64 (7919 : Int) := by unfold Bd; decide
    have b31 : Bd 64 (31 : Int) := by unfold Bd; decide
    have bj : Bd 64 ((j : Nat) : Int) := (by unfold Bd; rw [Int.natAbs_natCast]; exact Nat.lt_of_le_of_lt hj (by decide))
    (repeat kas_types)
    refine w_ite (fun e => ?_) (fun e => ?_)
    · have e' := of_decide_eq_true e
      rw [List.length_map] at e'
      have hlt : j < ns.length := by omega
      (repeat kas_types)
      refine w_ixl (v := .int ns[j]) hS (atI_nat (by rw [List.getElem?_map, List.getElem?_eq_getElem hlt]; rfl)) ?_
      generalize ns[j] = cell
      (repeat kas_types)
      refine w_mulI (mulx b7 bj (by decide)) ?_
      (repeat kas_types)
      refine w_I (by decide) ?_
      (repeat kas_types)
      have hs1 := (stir_ok (cell + 7919 * (j : Nat) + 104729) 0).1
      generalize (cell + 7919 * (j : Nat) + 104729) % 2305843009213693951 = s1 at *
      refine w_mulI (mulx hs1 hs1 (by decide)) ?_
      (repeat kas_types)
      refine w_mulI (mulx (hs1.mul hs1) hs1 (by decide)) ?_
      (repeat kas_types)
      refine w_mulI (mulx b31 bj (by decide)) ?_
      (repeat kas_types)
      refine w_I (by decide) ?_
      (repeat kas_types)
      obtain ⟨-, -, q1, q2⟩ := stir_ok (s1 * s1 * s1 + 31 * (j : Nat)) 7
      refine w_I ⟨by decide, by decide, by decide⟩ ?_
      (repeat kas_types)
      refine w_ite (fun e2 => ?_) (fun e2 => ?_)
      · (repeat kas_types)
        exact k _ _ _ _ (by lcg_sub) (by assumption) (by assumption) q1 q2
      · (repeat kas_types)
        refine w_I ⟨by decide, by decide, by decide⟩ ?_
        (repeat kas_types)
        exact k _ _ _ _ (by lcg_sub) (by assumption) (by assumption) q1 q2
    · (repeat kas_types)
      refine w_mulI (mulx b7 bj (by decide)) ?_
      (repeat kas_types)
      refine w_I (by decide) ?_
      (repeat kas_types)
      have hs1 := (stir_ok ((0 : Int) + 7919 * (j : Nat) + 104729) 0).1
      generalize ((0 : Int) + 7919 * (j : Nat) + 104729) % 2305843009213693951 = s1 at *
      refine w_mulI (mulx hs1 hs1 (by decide)) ?_
      (repeat kas_types)
      refine w_mulI (mulx (hs1.mul hs1) hs1 (by decide)) ?_
      (repeat kas_types)
      refine w_mulI (mulx b31 bj (by decide)) ?_
      (repeat kas_types)
      refine w_I (by decide) ?_
      (repeat kas_types)
      obtain ⟨-, -, q1, q2⟩ := stir_ok (s1 * s1 * s1 + 31 * (j : Nat)) 7
      refine w_I ⟨by decide, by decide, by decide⟩ ?_
      (repeat kas_types)
      exact k _ _ _ _ (by lcg_sub) (by assumption) (by assumption) q1 q2

theorem deck_of (F : FnOk P w K mg base CX0 1 f fd ["script", "k"] (sp_law_deckL K)) : FnOk P w K mg base CX0 1 f fd ["script", "k"] (sp_law_deck K) := by
  refine deck_out F fun vs H Q E h => ?_
  obtain ⟨a, ns, j, rfl, hS, hj, k⟩ := h
  refine ⟨a, ns, j, rfl, hS, hj, fun p x s H' e hp hl h0 h1 => ⟨p, x, s, rfl, hp, hl, h0, h1, ?_⟩⟩
  exact k p _ (Evl.Ex.mut e hp) upd_same
/-- data to a depth, no dicts -/
def sdS : Nat → PyData → Bool
  | 0, _ => false
  | _ + 1, .none => true
  | _ + 1, .bool _ => true
  | _ + 1, .int _ => true
  | _ + 1, .str _ => true
  | n + 1, .list ds => decide (ds.length ≤ 1000) && ds.all (sdS n)
  | n + 1, .tuple ds => decide (ds.length ≤ 1000) && ds.all (sdS n)
  | _ + 1, .dict _ => false
abbrev sp_law_same (n : Nat) (K : PySem.W.Frag) : Sp := spP K (fun d : PyData => [d, d]) (fun d => sdS n d = true) (fun _ => .bool true)
theorem w_lcSame {H : Hp} {σ : St} {Q : VK} {g : TG} {tt : TT} {te : TE} {vs : List Nat} {m : Nat} (hm : m ≤ 1000)
    (hs : ∀ (i : Nat) H' (Qb : St → Bool → Hp → Prop), i < m → Ex H H' → (∀ σ2 H3, Ex H' H3 → Qb σ2 false H3) → g (.int (0 + (i : Nat))) (wipe σ vs) H' fun σ2 H2 => wipe σ2 vs = wipe σ vs ∧ tt σ2 H2 (Qb σ2))
    (hd : ∀ p H', Ex H H' → H' p = some (.lst []) → Q (.ref p) H') : LcG 0 m g tt te vs σ H Q := by
  refine w_lcg (fun _ acc _ => acc = []) hm (fun _ _ => rfl) (fun _ _ _ _ _ _ _ h => h) (fun i acc _ h => by rw [h]; exact Nat.zero_le _) (fun Dl i acc H' hi hD h1 e1 hp => ?_) (fun p acc H' e h hp => ?_)
  · refine hs i H' (fun σ2 b H3 => if b = true then te σ2 H3 fun y H4 => ∃ acc, H4 Dl = some (.lst acc) ∧ acc.length < sizeLine ∧ LcW (fun _ acc _ => acc = []) H Dl (i + 1) (upd H4 Dl (.lst (acc ++ [y]))) else LcW (fun _ acc _ => acc = []) H Dl (i + 1) H3) hi e1 fun σ2 H3 e3 => ?_
    exact w_iff (w_lcf (P := fun _ acc _ => acc = []) h1 e1 e3 hp)
  · subst hp
    exact hd p H' e h
theorem len_law_same {n : Nat} {K : PySem.W.Frag} {vs : List V} {H : Hp} {Q : VK} {E : XK} (h : sp_law_same n K vs H Q E) : vs.length = 2 := len2 (n := 2) (fun _ => rfl) h
theorem ok_law_same (F : Fun K "_law_same" "_law_same" s_law_same f fd) (M : Bu0 mg)  {n : Nat} (c_law_same : Cal P w K mg base n "_law_same" ["found", "due"] (sp_law_same n K)) : FnOk P w K mg base CX0 (n + 1) f fd ["found", "due"] (sp_law_same (n + 1) K) := by
  refine F.ok sc_law_same (fun vs H Q E h => ?_) (fun cdv A outer s H vs Q E hr h => ?_)
  · exact len_law_same h
  · obtain ⟨d, ha, hs, k⟩ := h
    dsimp only at ha k hs
    obtain ⟨v1, v2, rfl, hd1, hd2⟩ := dpa2 ha
    clear ha
    refine ⟨_, (pss_cons (ps_if (pt_val (pe_callB (call_isiTK K rfl) (by rfl) M.z_isinstance (by decide +kernel) (pa_cons (pv 1) (pa_cons (pe_tup (pa_cons (pe_bltn (v := .ty "tuple") (by rfl) M.z_tuple (by decide +kernel) rfl) (pa_cons (pe_bltn (v := .ty "list") (by rfl) M.z_list (by decide +kernel) rfl) pa_nil))) pa_nil)))) (pss_cons (ps_if (PW.pt (pw_or (pt_cmpR (op_neK K rfl hr.units) (pe_callB (call_isiK1 K rfl) (by rfl) M.z_isinstance (by decide +kernel) (pa_cons (pv 0) (pa_cons (pe_bltn (v := .ty "tuple") (by rfl) M.z_tuple (by decide +kernel) rfl) pa_nil))) (pe_callB (call_isiK1 K rfl) (by rfl) M.z_isinstance (by decide +kernel) (pa_cons (pv 1) (pa_cons (pe_bltn (v := .ty "tuple") (by rfl) M.z_tuple (by decide +kernel) rfl) pa_nil))) (nomark _)) (pw_or1 (pt_cmpR (op_neK K rfl hr.units) (pe_callB (call_isiK1 K rfl) (by rfl) M.z_isinstance (by decide +kernel) (pa_cons (pv 0) (pa_cons (pe_bltn (v := .ty "list") (by rfl) M.z_list (by decide +kernel) rfl) pa_nil))) (pe_callB (call_isiK1 K rfl) (by rfl) M.z_isinstance (by decide +kernel) (pa_cons (pv 1) (pa_cons (pe_bltn (v := .ty "list") (by rfl) M.z_list (by decide +kernel) rfl) pa_nil))) (nomark _))))) (pss_one (ps_ret pe_bl)) pss_nil)
      (pss_cons (ps_if (pt_cmpR (op_neK K rfl hr.units) (pe_callB (call_lenK K rfl) (by rfl) M.z_len PySem.boot_len (pa_cons (pv 0) pa_nil)) (pe_callB (call_lenK K rfl) (by rfl) M.z_len PySem.boot_len (pa_cons (pv 1) pa_nil)) (nomark _)) (pss_one (ps_ret pe_bl)) pss_nil)
      (pss_one (ps_ret (pe_cmpR (op_eqK K rfl hr.units) (pe_lc (own := [("k", 2)]) (g := gName 2) rfl sc_law_same.nd (pi_range1 rfl M.z_range (pa_cons (pe_callB (call_lenK K rfl) (by rfl) M.z_len PySem.boot_len (pa_cons (pv 1) pa_nil)) pa_nil)) (blkOk_by (N := ["found", "due", "k"]) (sc := defScope s_law_same) (by decide +kernel)) (fun _ _ _ _ _ => pg_name (i := 2) sc_law_same.nd rfl (Or.inl rfl)) (fun _ _ _ _ _ => pts_one (pt_not (pt_val (pe_callD c_law_same hr (Nat.le_refl _) (pa_cons (pe_ix (ix_seqK K rfl) (pv 0) (pv 2) (fun _ _ => rfl)) (pa_cons (pe_ix (ix_seqK K rfl) (pv 1) (pv 2) (fun _ _ => rfl)) pa_nil)))))) (fun _ _ _ _ _ => (pv 2))) (pe_lstK K rfl pa_nil) (nomark _)))))) pss_nil)
      (pss_cons (ps_if (pt_cmpR op_isNU (pv 1) pe_non (nomark _)) (pss_one (ps_ret (pe_cmpR op_isNU (pv 0) pe_non (nomark _)))) pss_nil)
      (pss_cons (ps_if (pt_val (pe_callB (call_isiK1 K rfl) (by rfl) M.z_isinstance (by decide +kernel) (pa_cons (pv 1) (pa_cons (pe_bltn (v := .ty "str") (by rfl) M.z_str (by decide +kernel) rfl) pa_nil)))) (pss_one (ps_ret (pe_and (pe_callB (call_isiK1 K rfl) (by rfl) M.z_isinstance (by decide +kernel) (pa_cons (pv 0) (pa_cons (pe_bltn (v := .ty "str") (by rfl) M.z_str (by decide +kernel) rfl) pa_nil))) (pe_one (pe_cmpR (op_eqK K rfl hr.units) (pv 0) (pv 1) (nomark _)))))) pss_nil)
      (pss_cons (ps_if (PW.pt (pw_or (pt_val (pe_callB (call_isiK1 K rfl) (by rfl) M.z_isinstance (by decide +kernel) (pa_cons (pv 1) (pa_cons (pe_bltn (v := .ty "bool") (by rfl) M.z_bool (by decide +kernel) rfl) pa_nil)))) (pw_or1 (pt_val (pe_callB (call_isiK1 K rfl) (by rfl) M.z_isinstance (by decide +kernel) (pa_cons (pv 0) (pa_cons (pe_bltn (v := .ty "bool") (by rfl) M.z_bool (by decide +kernel) rfl) pa_nil))))))) (pss_one (ps_ret (pe_and (pe_callB (call_isiK1 K rfl) (by rfl) M.z_isinstance (by decide +kernel) (pa_cons (pv 1) (pa_cons (pe_bltn (v := .ty "bool") (by rfl) M.z_bool (by decide +kernel) rfl) pa_nil))) (pe_and (pe_callB (call_isiK1 K rfl) (by rfl) M.z_isinstance (by decide +kernel) (pa_cons (pv 0) (pa_cons (pe_bltn (v := .ty "bool") (by rfl) M.z_bool (by decide +kernel) rfl) pa_nil))) (pe_one (pe_cmpR (op_eqK K rfl hr.units) (pv 0) (pv 1) (nomark _))))))) pss_nil)
      (pss_one (ps_ret (pe_and (pe_callB (call_isiK1 K rfl) (by rfl) M.z_isinstance (by decide +kernel) (pa_cons (pv 0) (pa_cons (pe_bltn (v := .ty "int") (by rfl) M.z_int (by decide +kernel) rfl) pa_nil))) (pe_one (pe_cmpR (op_eqK K rfl hr.units) (pv 0) (pv 1) (nomark _)))))))))), ?_⟩
    try simp only [cxK, cxK2]
    refine w_st (σ' := [some v1, some v2, none]) rfl ?_
    have seq : ∀ ds : List PyData, (decide (ds.length ≤ 1000) && ds.all (sdS n)) = true → ds.length ≤ 1000 ∧ ∀ (i : Nat) x, ds[i]? = some x → sdS n x = true := by
      intro ds h
      rw [Bool.and_eq_true, List.all_eq_true] at h
      exact ⟨of_decide_eq_true h.1, fun i x e => h.2 x (List.mem_of_getElem? e)⟩
    cases d with
    | dict kvs => cases hs
    | none =>
      obtain rfl := non_inv hd1
      obtain rfl := non_inv hd2
      (repeat kas_types)
      exact fin_b k (by lcg_sub) (decide_eq_true rfl)
    | bool b =>
      obtain rfl := bl_inv hd1
      obtain rfl := bl_inv hd2
      (repeat kas_types)
      exact fin_b k (by lcg_sub) (decide_eq_true rfl)
    | int z =>
      obtain rfl := int_inv hd1
      obtain rfl := int_inv hd2
      (repeat kas_types)
      exact fin_b k (by lcg_sub) (decide_eq_true rfl)
    | str z =>
      obtain rfl := str_inv hd1
      obtain rfl := str_inv hd2
      (repeat kas_types)
      exact k _ _ (by lcg_sub) (.bl _)
    | tuple ds =>
      obtain ⟨hl, hall⟩ := seq ds hs
      (repeat kas_types)
      refine w_itf (by simp) ?_
      (repeat kas_types)
      refine ⟨_, rfl, by omega, by omega, ?_⟩
      rw [Int.toNat_natCast]
      refine w_lcSame hl (fun i H2 Qb hi e2 kb => ?_) (fun p H2 e2 hp => ?_)
      · have hx : ds[i]? = some ds[i] := List.getElem?_eq_getElem hi
        have hat : atI ds (0 + (i : Nat) : Int) = some ds[i] := by rw [Int.zero_add]; exact atI_nat hx
        (repeat kas_types)
        refine ⟨rfl, ?_⟩
        (repeat kas_types)
        refine w_ixp (by keq_hits) hat fun u1 hu1 => ?_
        (repeat kas_types)
        refine w_ixp (by keq_hits) hat fun u2 hu2 => ?_
        (repeat kas_types)
        refine w_spPb (b := true) ds[i] (by k_clsL) rfl (hall i _ hx) fun H3 e3 => ?_
        (repeat kas_types)
        exact kb _ _ (by lcg_sub)
      · (repeat kas_types)
        refine w_eqD (d := .list []) (e := .list []) (.lst (SqL.of (by k_offL)) .nil) (by keq_hits) rfl rfl ?_
        exact k _ _ (by lcg_sub) (.bl _)
    | list ds =>
      obtain ⟨hl, hall⟩ := seq ds hs
      (repeat kas_types)
      refine w_itf (by simp) ?_
      (repeat kas_types)
      refine ⟨_, rfl, by omega, by omega, ?_⟩
      rw [Int.toNat_natCast]
      refine w_lcSame hl (fun i H2 Qb hi e2 kb => ?_) (fun p H2 e2 hp => ?_)
      · have hx : ds[i]? = some ds[i] := List.getElem?_eq_getElem hi
        have hat : atI ds (0 + (i : Nat) : Int) = some ds[i] := by rw [Int.zero_add]; exact atI_nat hx
        (repeat kas_types)
        refine ⟨rfl, ?_⟩
        (repeat kas_types)
        refine w_ixld (by keq_hits) hat fun u1 hu1 => ?_
        (repeat kas_types)
        refine w_ixld (by keq_hits) hat fun u2 hu2 => ?_
        (repeat kas_types)
        refine w_spPb (b := true) ds[i] (by k_clsL) rfl (hall i _ hx) fun H3 e3 => ?_
        (repeat kas_types)
        exact kb _ _ (by lcg_sub)
      · (repeat kas_types)
        refine w_eqD (d := .list []) (e := .list []) (.lst (SqL.of (by k_offL)) .nil) (by keq_hits) rfl rfl ?_
        exact k _ _ (by lcg_sub) (.bl _)

end
end Sk

set_option maxHeartbeats 1000000
namespace Sk
open PySem PySem.Spec PyProof.Rows L2
open Evl (Ex ex_l ex_t)
local macro_rules | `(tactic| lcg_sub) => `(tactic| first | exact Evl.Ex.refl _ | assumption | (refine Evl.Ex.trans ?_ (by assumption); lcg_sub))
local macro_rules | `(tactic| keq_rows) => `(tactic| first | with_reducible exact Dq.int _ | with_reducible exact Dq.bl _ | with_reducible exact Dq.non | with_reducible exact Dq.str _ | assumption | ((refine' Dq.up ?e ?h); (case e => assumption); (case h => keq_rows)))
local macro_rules | `(tactic| k_subL) => `(tactic| first | with_reducible exact DqAll.nil | assumption | ((with_reducible refine' DqAll.cons ?a ?b); (case a => (keq_rows)); (case b => (k_subL))) | ((refine' DqAll.up ?e ?h); (case e => assumption); (case h => assumption)) | ((refine' DqAll.up ?e (DqAll.up ?f ?h)); (case e => assumption); (case f => assumption); (case h => assumption)) | ((refine' DqAll.up ?e (DqAll.up ?f (DqAll.up ?g ?h))); (case e => assumption); (case f => assumption); (case g => assumption); (case h => assumption)))
local macro_rules | `(tactic| keq_hits) => `(tactic| first | with_reducible exact L2.Dp.int _ | with_reducible exact L2.Dp.bl _ | with_reducible exact L2.Dp.non | with_reducible exact L2.Dp.str _ | assumption | exact Dq.dp (by assumption) | ((refine' Sk.Dp.up ?e ?h); (case e => assumption); (case h => keq_hits)))
local macro_rules | `(tactic| k_clsL) => `(tactic| first | with_reducible exact L2.DpAll.nil | assumption | ((with_reducible refine' L2.DpAll.cons ?a ?b); (case a => (keq_hits)); (case b => (k_clsL))) | exact DqAll.dp (by assumption) | ((refine' Sk.DpAll.up ?e ?h); (case e => assumption); (case h => assumption)) | ((refine' Sk.DpAll.up ?e (Sk.DpAll.up ?f ?h)); (case e => assumption); (case f => assumption); (case h => assumption)) | ((refine' Sk.DpAll.up ?e (Sk.DpAll.up ?f (Sk.DpAll.up ?g ?h))); (case e => assumption); (case f => assumption); (case g => assumption); (case h => assumption)))
local macro_rules | `(tactic| k_offL) => `(tactic| first | assumption | ((refine' at_up ?e ?h); (case e => assumption); (case h => k_offL)))
local macro_rules | `(tactic| lcg_off) => `(tactic| first | assumption | exact .inl (.inl (by assumption)) | ((refine' Evl.ex_l ?e ?h); (case e => assumption); (case h => lcg_off)))
local macro_rules | `(tactic| kas_types) => `(tactic| first
  | ((with_reducible refine' w_var ?h ?q); (case h => exact rfl))
  | with_reducible refine w_mkv ?_ | with_reducible refine w_callX ?_ | with_reducible refine w_xv ?_ | with_reducible refine w_ost ?_
  | with_reducible refine w_op ?_ | with_reducible refine w_c ?_ | with_reducible refine w_I0 ?_ | with_reducible refine w_addI ?_ | with_reducible refine w_bl ?_
  | with_reducible refine w_cons ?_ | with_reducible refine w_nil ?_ | with_reducible refine w_seq ?_ | with_reducible refine w_ift ?_ | with_reducible refine w_iff ?_
  | with_reducible refine w_call ?_ | with_reducible refine w_cb ?_ | with_reducible refine w_asg ?_ | ((with_reducible refine w_gname ?_); (try dsimp only [List.set]))
  | with_reducible refine w_if ?_ | with_reducible refine w_test ?_ | with_reducible refine w_B ?_ | with_reducible refine w_not ?_ | with_reducible refine w_and ?_ | with_reducible refine w_or ?_
  | with_reducible refine w_ret ?_ | with_reducible refine w_drop ?_ | with_reducible refine w_next ?_ | with_reducible refine w_retN ?_ | with_reducible refine w_andV ?_ | with_reducible refine w_orV ?_ | with_reducible refine w_notV ?_ | with_reducible refine w_ifE ?_ | with_reducible refine w_chain ?_
  | with_reducible refine w_yes ?_ | with_reducible refine w_un ?_ | with_reducible refine w_neg ?_ | with_reducible refine w_eqI ?_ | with_reducible refine w_neI ?_ | with_reducible refine w_abs ?_ | with_reducible refine w_int ?_ | with_reducible refine w_gcd ?_
  | with_reducible refine w_max2 ?_ | with_reducible refine w_min2 ?_ | with_reducible refine w_shr ?_ | with_reducible refine w_bits ?_ | with_reducible refine w_isint ?_ | with_reducible refine w_isN ?_ | with_reducible refine w_notN ?_
  | with_reducible refine w_tupF ?_ | with_reducible refine w_lst ?_ | with_reducible refine w_then ?_ | with_reducible refine w_callW ?_ | with_reducible refine w_par ?_ | with_reducible refine w_cnt ?_ | with_reducible refine w_forrev ?_ | with_reducible refine w_for1 ?_ | with_reducible refine w_for2 ?_ | with_reducible refine w_lc1 ?_ | with_reducible refine w_tupP ?_
  | ((with_reducible refine w_two ?_); (try dsimp only [List.set]))
  | with_reducible refine w_sl ?_ | with_reducible refine w_nopart ?_ | with_reducible refine w_part ?_ | with_reducible refine w_partg ?_
  | with_reducible refine w_gsub ?_ | with_reducible refine w_neB ?_ | with_reducible refine w_eqB ?_ | with_reducible refine w_eqS ?_
  | with_reducible refine w_gcons ?_ | with_reducible refine w_gnil ?_
  | ((with_reducible refine w_itf ?e ?_); (case e => exact rfl))
  | ((with_reducible refine w_itt ?e ?_); (case e => exact rfl))
  | ((with_reducible refine' w_gtup_ii ?h ?_); (case h => (keq_rows)))
  | ((with_reducible refine' w_gtup_2 ?h ?_); (case h => (keq_rows)); intro _ _ _ _)
  | ((with_reducible refine' w_gtupp_ii ?h ?_); (case h => (keq_hits)))
  | ((with_reducible refine' w_gtupp_2 ?h ?_); (case h => (keq_hits)); intro _ _ _ _)
  | ((with_reducible refine' w_isi ?h ?_); (case h => (keq_hits)))
  | ((with_reducible refine' w_isiT ?h ?e ?_); (case h => (keq_hits)); (case e => (k_offL)))
  | ((with_reducible refine' w_lenT ?h ?_); (case h => (keq_hits)))
  | ((with_reducible refine' w_lenL ?h ?_); (case h => (keq_hits)))
  | ((with_reducible refine' w_ixi ?h ?e ?_); (case h => (keq_rows)); (case e => exact rfl))
  | ((with_reducible refine' w_ix ?h ?e ?_); (case h => (keq_rows)); (case e => exact rfl); intro _ _)
  | ((with_reducible refine' w_ixpi ?h ?e ?_); (case h => (keq_hits)); (case e => exact rfl))
  | ((with_reducible refine' w_ixp ?h ?e ?_); (case h => (keq_hits)); (case e => exact rfl); intro _ _)
  | ((with_reducible refine' w_ixl ?h ?e ?_); (case h => (lcg_off)); (case e => exact rfl))
  | ((with_reducible refine' w_lenS ?h ?_); (case h => (lcg_off)))
  | ((with_reducible refine' w_slT ?h ?_); (case h => (keq_hits)); intro _ _ _ _)
  | ((with_reducible refine' w_catT ?h1 ?h2 ?hl ?_); (case h1 => (keq_hits)); (case h2 => (keq_hits)); (case hl => exact Nat.le_of_ble_eq_true rfl); intro _ _ _ _)
  | ((with_reducible refine' w_kw1 ?e ?_); (case e => exact rfl))
  | ((with_reducible refine' w_kw2 ?e ?_); (case e => exact rfl))
  | ((with_reducible refine' w_rep2 ?h ?_); (case h => (k_offL)); intro _ _ _ _)
  | ((with_reducible refine' w_cntg ?h ?_); (case h => (keq_rows)))
  | ((with_reducible refine' w_newT ?l ?d ?_); (case l => exact Nat.le_of_ble_eq_true rfl); (case d => (k_subL)); intro _ _ _ _)
  | ((with_reducible refine' w_newTp ?l ?d ?_); (case l => exact Nat.le_of_ble_eq_true rfl); (case d => (k_clsL)); intro _ _ _ _)
  | ((with_reducible refine' w_newLq ?l ?d ?_); (case l => exact Nat.le_of_ble_eq_true rfl); (case d => (k_subL)); intro _ _ _ _ _ _ _)
  | ((with_reducible refine' w_newLp ?l ?d ?_); (case l => exact Nat.le_of_ble_eq_true rfl); (case d => (k_clsL)); intro _ _ _ _ _ _ _)
  | ((with_reducible refine' w_newTy ?l ?_); (case l => exact Nat.le_of_ble_eq_true rfl); intro _ _ _ _))
section
variable {P : Program} {w : World} {K : PySem.W.Frag} {mg : Str → Option Value} {base : Heap} {f : Addr} {fd : FuncData} {fI b : Addr} {cs : Nat → Addr}

theorem ok_law_kinds (F : Fun K "_law_kinds" "_law_kinds" s_law_kinds f fd) (M : Bu0 mg) (N : Nms mg b cs) (KT : Kit K fI b cs) (NI : Ini P w K mg base 1 fI)  : FnOk P w K mg base CX0 1 f fd ["e"] (spKi K fI cs) := by
  refine F.ok sc_law_kinds (fun vs H Q E h => ?_) (fun cdv A outer s H vs Q E hr h => ?_)
  · exact lenKi h
  · obtain ⟨a, C, g, r, rfl, hx, T, hk, k⟩ := h
    refine ⟨_, (pss_cons (ps_set (i := 1) sc_law_kinds.nd rfl (Or.inl rfl) (pe_lstK K rfl (pa_cons (pe_callB (call_isXK (fI := fI) K rfl) (by rfl) M.z_isinstance (by decide +kernel) (pa_cons (pv 0) (pa_cons (pe_glob (v := .ref (cs 0)) rfl N.m_InvalidNumber rfl) pa_nil))) (pa_cons (pe_callB (call_isXK (fI := fI) K rfl) (by rfl) M.z_isinstance (by decide +kernel) (pa_cons (pv 0) (pa_cons (pe_glob (v := .ref (cs 1)) rfl N.m_InvalidPoint rfl) pa_nil))) (pa_cons (pe_callB (call_isXK (fI := fI) K rfl) (by rfl) M.z_isinstance (by decide +kernel) (pa_cons (pv 0) (pa_cons (pe_glob (v := .ref (cs 2)) rfl N.m_InvalidOffset rfl) pa_nil))) pa_nil)))))
      (pss_cons (ps_set (i := 1) sc_law_kinds.nd rfl (Or.inl rfl) (pe_op (op_addK K rfl) (pv 1) (pe_lstK K rfl (pa_cons (pe_callB (call_isXK (fI := fI) K rfl) (by rfl) M.z_isinstance (by decide +kernel) (pa_cons (pv 0) (pa_cons (pe_glob (v := .ref (cs 3)) rfl N.m_InvalidTable rfl) pa_nil))) (pa_cons (pe_callB (call_isXK (fI := fI) K rfl) (by rfl) M.z_isinstance (by decide +kernel) (pa_cons (pv 0) (pa_cons (pe_glob (v := .ref (cs 4)) rfl N.m_InvalidKit rfl) pa_nil))) (pa_cons (pe_callB (call_isXK (fI := fI) K rfl) (by rfl) M.z_isinstance (by decide +kernel) (pa_cons (pv 0) (pa_cons (pe_glob (v := .ref (cs 5)) rfl N.m_InvalidState rfl) pa_nil))) pa_nil))))))
      (pss_cons (ps_set (i := 1) sc_law_kinds.nd rfl (Or.inl rfl) (pe_op (op_addK K rfl) (pv 1) (pe_lstK K rfl (pa_cons (pe_callB (call_isXK (fI := fI) K rfl) (by rfl) M.z_isinstance (by decide +kernel) (pa_cons (pv 0) (pa_cons (pe_glob (v := .ref (cs 6)) rfl N.m_InvalidWalk rfl) pa_nil))) (pa_cons (pe_callB (call_isXK (fI := fI) K rfl) (by rfl) M.z_isinstance (by decide +kernel) (pa_cons (pv 0) (pa_cons (pe_glob (v := .ref (cs 7)) rfl N.m_InvalidAddress rfl) pa_nil))) (pa_cons (pe_callB (call_isXK (fI := fI) K rfl) (by rfl) M.z_isinstance (by decide +kernel) (pa_cons (pv 0) (pa_cons (pe_glob (v := .ref (cs 8)) rfl N.m_InvalidPaper rfl) pa_nil))) pa_nil))))))
      (pss_cons (ps_set (i := 1) sc_law_kinds.nd rfl (Or.inl rfl) (pe_op (op_addK K rfl) (pv 1) (pe_lstK K rfl (pa_cons (pe_callB (call_isXK (fI := fI) K rfl) (by rfl) M.z_isinstance (by decide +kernel) (pa_cons (pv 0) (pa_cons (pe_glob (v := .ref (cs 9)) rfl N.m_InvalidPair rfl) pa_nil))) (pa_cons (pe_callB (call_isXK (fI := fI) K rfl) (by rfl) M.z_isinstance (by decide +kernel) (pa_cons (pv 0) (pa_cons (pe_glob (v := .ref (cs 10)) rfl N.m_InvalidPower rfl) pa_nil))) (pa_cons (pe_callB (call_isXK (fI := fI) K rfl) (by rfl) M.z_isinstance (by decide +kernel) (pa_cons (pv 0) (pa_cons (pe_glob (v := .ref (cs 11)) rfl N.m_InvalidZoom rfl) pa_nil))) pa_nil))))))
      (pss_cons (ps_set (i := 1) sc_law_kinds.nd rfl (Or.inl rfl) (pe_op (op_addK K rfl) (pv 1) (pe_lstK K rfl (pa_cons (pe_callB (call_isXK (fI := fI) K rfl) (by rfl) M.z_isinstance (by decide +kernel) (pa_cons (pv 0) (pa_cons (pe_glob (v := .ref (cs 12)) rfl N.m_InvalidTurn rfl) pa_nil))) (pa_cons (pe_callB (call_isXK (fI := fI) K rfl) (by rfl) M.z_isinstance (by decide +kernel) (pa_cons (pv 0) (pa_cons (pe_glob (v := .ref (cs 13)) rfl N.m_InvalidWay rfl) pa_nil))) (pa_cons (pe_callB (call_isXK (fI := fI) K rfl) (by rfl) M.z_isinstance (by decide +kernel) (pa_cons (pv 0) (pa_cons (pe_glob (v := .ref (cs 14)) rfl N.m_InvalidName rfl) pa_nil))) pa_nil))))))
      (pss_cons (ps_set (i := 1) sc_law_kinds.nd rfl (Or.inl rfl) (pe_op (op_addK K rfl) (pv 1) (pe_lstK K rfl (pa_cons (pe_callB (call_isXK (fI := fI) K rfl) (by rfl) M.z_isinstance (by decide +kernel) (pa_cons (pv 0) (pa_cons (pe_glob (v := .ref (cs 15)) rfl N.m_UnknownName rfl) pa_nil))) (pa_cons (pe_callB (call_isXK (fI := fI) K rfl) (by rfl) M.z_isinstance (by decide +kernel) (pa_cons (pv 0) (pa_cons (pe_glob (v := .ref (cs 16)) rfl N.m_NoSquares rfl) pa_nil))) (pa_cons (pe_callB (call_isXK (fI := fI) K rfl) (by rfl) M.z_isinstance (by decide +kernel) (pa_cons (pv 0) (pa_cons (pe_glob (v := .ref (cs 17)) rfl N.m_NoMeeting rfl) pa_nil))) pa_nil))))))
      (pss_cons (ps_set (i := 1) sc_law_kinds.nd rfl (Or.inl rfl) (pe_op (op_addK K rfl) (pv 1) (pe_lstK K rfl (pa_cons (pe_callB (call_isXK (fI := fI) K rfl) (by rfl) M.z_isinstance (by decide +kernel) (pa_cons (pv 0) (pa_cons (pe_glob (v := .ref (cs 18)) rfl N.m_NoReturn rfl) pa_nil))) (pa_cons (pe_callB (call_isXK (fI := fI) K rfl) (by rfl) M.z_isinstance (by decide +kernel) (pa_cons (pv 0) (pa_cons (pe_glob (v := .ref (cs 19)) rfl N.m_NothingToUndo rfl) pa_nil))) (pa_cons (pe_callB (call_isXK (fI := fI) K rfl) (by rfl) M.z_isinstance (by decide +kernel) (pa_cons (pv 0) (pa_cons (pe_glob (v := .ref (cs 20)) rfl N.m_Unreadable rfl) pa_nil))) pa_nil))))))
      (pss_one (ps_ret (pe_op (op_addK K rfl) (pv 1) (pe_lstK K rfl (pa_cons (pe_callB (call_isXK (fI := fI) K rfl) (by rfl) M.z_isinstance (by decide +kernel) (pa_cons (pv 0) (pa_cons (pe_glob (v := .ref (cs 21)) rfl N.m_Unorderly rfl) pa_nil))) pa_nil)))))))))))), ?_⟩
    try simp only [cxK, cxK2]
    refine w_st (σ' := [some (.ref a), none]) rfl ?_
    (repeat kas_types)
    refine w_isxR (hx.up (by lcg_sub)) T (hk 0 (by decide)) ?_
    (repeat kas_types)
    refine w_isxR (hx.up (by lcg_sub)) T (hk 1 (by decide)) ?_
    (repeat kas_types)
    refine w_isxR (hx.up (by lcg_sub)) T (hk 2 (by decide)) ?_
    (repeat kas_types)
    refine w_isxR (hx.up (by lcg_sub)) T (hk 3 (by decide)) ?_
    (repeat kas_types)
    refine w_isxR (hx.up (by lcg_sub)) T (hk 4 (by decide)) ?_
    (repeat kas_types)
    refine w_isxR (hx.up (by lcg_sub)) T (hk 5 (by decide)) ?_
    (repeat kas_types)
    refine w_catQ (by k_offL) (by k_offL) (by k_subL) (by k_subL) (by exact Nat.le_of_ble_eq_true rfl) fun p1 H1 e1 h1 d1 q1 => ?_
    (repeat kas_types)
    refine w_isxR (hx.up (by lcg_sub)) T (hk 6 (by decide)) ?_
    (repeat kas_types)
    refine w_isxR (hx.up (by lcg_sub)) T (hk 7 (by decide)) ?_
    (repeat kas_types)
    refine w_isxR (hx.up (by lcg_sub)) T (hk 8 (by decide)) ?_
    (repeat kas_types)
    refine w_catQ (by k_offL) (by k_offL) (by k_subL) (by k_subL) (by exact Nat.le_of_ble_eq_true rfl) fun p2 H2 e2 h2 d2 q2 => ?_
    (repeat kas_types)
    refine w_isxR (hx.up (by lcg_sub)) T (hk 9 (by decide)) ?_
    (repeat kas_types)
    refine w_isxR (hx.up (by lcg_sub)) T (hk 10 (by decide)) ?_
    (repeat kas_types)
    refine w_isxR (hx.up (by lcg_sub)) T (hk 11 (by decide)) ?_
    (repeat kas_types)
    refine w_catQ (by k_offL) (by k_offL) (by k_subL) (by k_subL) (by exact Nat.le_of_ble_eq_true rfl) fun p3 H3 e3 h3 d3 q3 => ?_
    (repeat kas_types)
    refine w_isxR (hx.up (by lcg_sub)) T (hk 12 (by decide)) ?_
    (repeat kas_types)
    refine w_isxR (hx.up (by lcg_sub)) T (hk 13 (by decide)) ?_
    (repeat kas_types)
    refine w_isxR (hx.up (by lcg_sub)) T (hk 14 (by decide)) ?_
    (repeat kas_types)
    refine w_catQ (by k_offL) (by k_offL) (by k_subL) (by k_subL) (by exact Nat.le_of_ble_eq_true rfl) fun p4 H4 e4 h4 d4 q4 => ?_
    (repeat kas_types)
    refine w_isxR (hx.up (by lcg_sub)) T (hk 15 (by decide)) ?_
    (repeat kas_types)
    refine w_isxR (hx.up (by lcg_sub)) T (hk 16 (by decide)) ?_
    (repeat kas_types)
    refine w_isxR (hx.up (by lcg_sub)) T (hk 17 (by decide)) ?_
    (repeat kas_types)
    refine w_catQ (by k_offL) (by k_offL) (by k_subL) (by k_subL) (by exact Nat.le_of_ble_eq_true rfl) fun p5 H5 e5 h5 d5 q5 => ?_
    (repeat kas_types)
    refine w_isxR (hx.up (by lcg_sub)) T (hk 18 (by decide)) ?_
    (repeat kas_types)
    refine w_isxR (hx.up (by lcg_sub)) T (hk 19 (by decide)) ?_
    (repeat kas_types)
    refine w_isxR (hx.up (by lcg_sub)) T (hk 20 (by decide)) ?_
    (repeat kas_types)
    refine w_catQ (by k_offL) (by k_offL) (by k_subL) (by k_subL) (by exact Nat.le_of_ble_eq_true rfl) fun p6 H6 e6 h6 d6 q6 => ?_
    (repeat kas_types)
    refine w_isxR (hx.up (by lcg_sub)) T (hk 21 (by decide)) ?_
    (repeat kas_types)
    refine w_catQ (by k_offL) (by k_offL) (by k_subL) (by k_subL) (by exact Nat.le_of_ble_eq_true rfl) fun p7 H7 e7 h7 d7 q7 => ?_
    (repeat kas_types)
    exact k _ _ (by lcg_sub) (Dq.dp q7)

abbrev sp_law_given (K : PySem.W.Frag) : Sp := spKp K (fun _ : Unit => []) (fun _ => True) (fun _ d => sdS 6 d = true)
theorem ok_law_given (F : Fun K "_law_given" "_law_given" s_law_given f fd) (M : Bu0 mg) (N : Nms mg b cs) (KT : Kit K fI b cs) (NI : Ini P w K mg base 1 fI) (c_law_take : Cal P w K mg base 1 "_law_take" ["deck", "many"] (sp_law_take K)) : FnOk P w K mg base CX0 2 f fd ["deck"] (sp_law_given K) := by
  refine F.ok sc_law_given (fun vs H Q E h => ?_) (fun cdv A outer s H vs Q E hr h => ?_)
  · exact len4 (n := 1) (fun _ => rfl) h
  · obtain ⟨u, a, vs, rfl, hdk, ha, -, k⟩ := h
    cases ha
    refine ⟨_, (pss_cons (ps_set (i := 1) sc_law_given.nd rfl (Or.inl rfl) (pe_op op_sub (pe_callD c_law_take hr (by decide) (pa_cons (pv 0) (pa_cons (pe_op op_pow pe_int pe_int) pa_nil))) (pe_op op_pow pe_int pe_int)))
      (pss_cons (ps_set (i := 2) sc_law_given.nd rfl (Or.inl rfl) (pe_lstK K rfl (pa_cons (pv 1) (pa_cons (pe_callD c_law_take hr (by decide) (pa_cons (pv 0) (pa_cons pe_int pa_nil))) (pa_cons pe_str (pa_cons pe_str (pa_cons pe_non (pa_cons pe_bl (pa_cons pe_bl (pa_cons (pe_tupK K rfl pa_nil) (pa_cons (pe_tupK K rfl (pa_cons (pv 1) (pa_cons pe_int pa_nil))) (pa_cons (pe_lstK K rfl (pa_cons (pv 1) (pa_cons pe_str pa_nil))) (pa_cons (pe_tupK K rfl (pa_cons (pe_tupK K rfl (pa_cons pe_int (pa_cons pe_int pa_nil))) (pa_cons (pe_tupK K rfl (pa_cons pe_str (pa_cons (pe_tupK K rfl pa_nil) pa_nil))) pa_nil))) (pa_cons (pe_lstK K rfl pa_nil) (pa_cons (pe_un un_neg pe_int) (pa_cons pe_int pa_nil))))))))))))))))
      (pss_one (ps_ret (pe_ix (ix_seqK K rfl) (pv 2) (pe_callD c_law_take hr (by decide) (pa_cons (pv 0) (pa_cons pe_int pa_nil))) (fun _ _ => rfl)))))), ?_⟩
    try simp only [cxK, cxK2]
    refine w_st (σ' := [some (.ref a), none, none]) rfl ?_
    (repeat kas_types)
    refine w_I ⟨by decide, by decide, by decide⟩ ?_
    (repeat kas_types)
    refine w_take (by show _ = _; k_offL) (by decide) ((show Bd 100 _ by unfold Bd; decide).mono (by decide)) fun r H1 e1 r0 r1 => ?_
    (repeat kas_types)
    refine w_I ⟨by decide, by decide, by decide⟩ ?_
    (repeat kas_types)
    refine w_take (by show _ = _; k_offL) (by decide) ((show Bd 100 _ by unfold Bd; decide).mono (by decide)) fun r2 H2 e2 s0 s1 => ?_
    (repeat kas_types)
    refine w_take (by show _ = _; k_offL) (by decide) ((show Bd 100 _ by unfold Bd; decide).mono (by decide)) fun z H3 e3 t0 t1 => ?_
    have hz : z = 0 ∨ z = 1 ∨ z = 2 ∨ z = 3 ∨ z = 4 ∨ z = 5 ∨ z = 6 ∨ z = 7 ∨ z = 8 ∨ z = 9 ∨ z = 10 ∨ z = 11 ∨ z = 12 ∨ z = 13 := by omega
    rcases hz with rfl | rfl | rfl | rfl | rfl | rfl | rfl | rfl | rfl | rfl | rfl | rfl | rfl | rfl
    all_goals
      refine w_ixld (by keq_hits) rfl fun u hu => ?_
      (repeat kas_types)
      exact k _ _ _ (by lcg_sub) rfl hu

end
end Sk

set_option maxHeartbeats 1000000
namespace Sk
open PySem PySem.Spec PyProof.Rows L2
open Evl (Ex ex_l ex_t)
local macro_rules | `(tactic| lcg_sub) => `(tactic| first | exact Evl.Ex.refl _ | assumption | (refine Evl.Ex.trans ?_ (by assumption); lcg_sub))
local macro_rules | `(tactic| keq_rows) => `(tactic| first | with_reducible exact Dq.int _ | with_reducible exact Dq.bl _ | with_reducible exact Dq.non | with_reducible exact Dq.str _ | assumption | ((refine' Dq.up ?e ?h); (case e => assumption); (case h => keq_rows)))
local macro_rules | `(tactic| k_subL) => `(tactic| first | with_reducible exact DqAll.nil | assumption | ((with_reducible refine' DqAll.cons ?a ?b); (case a => (keq_rows)); (case b => (k_subL))) | ((refine' DqAll.up ?e ?h); (case e => assumption); (case h => assumption)) | ((refine' DqAll.up ?e (DqAll.up ?f ?h)); (case e => assumption); (case f => assumption); (case h => assumption)) | ((refine' DqAll.up ?e (DqAll.up ?f (DqAll.up ?g ?h))); (case e => assumption); (case f => assumption); (case g => assumption); (case h => assumption)))
local macro_rules | `(tactic| keq_hits) => `(tactic| first | with_reducible exact L2.Dp.int _ | with_reducible exact L2.Dp.bl _ | with_reducible exact L2.Dp.non | with_reducible exact L2.Dp.str _ | assumption | exact Dq.dp (by assumption) | ((refine' Sk.Dp.up ?e ?h); (case e => assumption); (case h => keq_hits)))
local macro_rules | `(tactic| k_clsL) => `(tactic| first | with_reducible exact L2.DpAll.nil | assumption | ((with_reducible refine' L2.DpAll.cons ?a ?b); (case a => (keq_hits)); (case b => (k_clsL))) | exact DqAll.dp (by assumption) | ((refine' Sk.DpAll.up ?e ?h); (case e => assumption); (case h => assumption)) | ((refine' Sk.DpAll.up ?e (Sk.DpAll.up ?f ?h)); (case e => assumption); (case f => assumption); (case h => assumption)) | ((refine' Sk.DpAll.up ?e (Sk.DpAll.up ?f (Sk.DpAll.up ?g ?h))); (case e => assumption); (case f => assumption); (case g => assumption); (case h => assumption)))
local macro_rules | `(tactic| k_offL) => `(tactic| first | assumption | ((refine' at_up ?e ?h); (case e => assumption); (case h => k_offL)))
local macro_rules | `(tactic| lcg_off) => `(tactic| first | assumption | exact .inl (.inl (by assumption)) | ((refine' Evl.ex_l ?e ?h); (case e => assumption); (case h => lcg_off)))
local macro_rules | `(tactic| kas_types) => `(tactic| first
  | ((with_reducible refine' w_var ?h ?q); (case h => exact rfl))
  | with_reducible refine w_mkv ?_ | with_reducible refine w_callX ?_ | with_reducible refine w_xv ?_ | with_reducible refine w_ost ?_
  | with_reducible refine w_op ?_ | with_reducible refine w_c ?_ | with_reducible refine w_I0 ?_ | with_reducible refine w_addI ?_ | with_reducible refine w_bl ?_
  | with_reducible refine w_cons ?_ | with_reducible refine w_nil ?_ | with_reducible refine w_seq ?_ | with_reducible refine w_ift ?_ | with_reducible refine w_iff ?_
  | with_reducible refine w_call ?_ | with_reducible refine w_cb ?_ | with_reducible refine w_asg ?_ | ((with_reducible refine w_gname ?_); (try dsimp only [List.set]))
  | with_reducible refine w_if ?_ | with_reducible refine w_test ?_ | with_reducible refine w_B ?_ | with_reducible refine w_not ?_ | with_reducible refine w_and ?_ | with_reducible refine w_or ?_
  | with_reducible refine w_ret ?_ | with_reducible refine w_drop ?_ | with_reducible refine w_next ?_ | with_reducible refine w_retN ?_ | with_reducible refine w_andV ?_ | with_reducible refine w_orV ?_ | with_reducible refine w_notV ?_ | with_reducible refine w_ifE ?_ | with_reducible refine w_chain ?_
  | with_reducible refine w_yes ?_ | with_reducible refine w_un ?_ | with_reducible refine w_neg ?_ | with_reducible refine w_eqI ?_ | with_reducible refine w_neI ?_ | with_reducible refine w_abs ?_ | with_reducible refine w_int ?_ | with_reducible refine w_gcd ?_
  | with_reducible refine w_max2 ?_ | with_reducible refine w_min2 ?_ | with_reducible refine w_shr ?_ | with_reducible refine w_bits ?_ | with_reducible refine w_isint ?_ | with_reducible refine w_isN ?_ | with_reducible refine w_notN ?_
  | with_reducible refine w_tupF ?_ | with_reducible refine w_lst ?_ | with_reducible refine w_then ?_ | with_reducible refine w_callW ?_ | with_reducible refine w_par ?_ | with_reducible refine w_cnt ?_ | with_reducible refine w_forrev ?_ | with_reducible refine w_for1 ?_ | with_reducible refine w_for2 ?_ | with_reducible refine w_lc1 ?_ | with_reducible refine w_tupP ?_
  | ((with_reducible refine w_two ?_); (try dsimp only [List.set]))
  | with_reducible refine w_sl ?_ | with_reducible refine w_nopart ?_ | with_reducible refine w_part ?_ | with_reducible refine w_partg ?_
  | with_reducible refine w_gsub ?_ | with_reducible refine w_neB ?_ | with_reducible refine w_eqB ?_ | with_reducible refine w_eqS ?_
  | with_reducible refine w_gcons ?_ | with_reducible refine w_gnil ?_
  | ((with_reducible refine w_itf ?e ?_); (case e => exact rfl))
  | ((with_reducible refine w_itt ?e ?_); (case e => exact rfl))
  | ((with_reducible refine' w_gtup_ii ?h ?_); (case h => (keq_rows)))
  | ((with_reducible refine' w_gtup_2 ?h ?_); (case h => (keq_rows)); intro _ _ _ _)
  | ((with_reducible refine' w_gtupp_ii ?h ?_); (case h => (keq_hits)))
  | ((with_reducible refine' w_gtupp_2 ?h ?_); (case h => (keq_hits)); intro _ _ _ _)
  | ((with_reducible refine' w_isi ?h ?_); (case h => (keq_hits)))
  | ((with_reducible refine' w_isiT ?h ?e ?_); (case h => (keq_hits)); (case e => (k_offL)))
  | ((with_reducible refine' w_lenT ?h ?_); (case h => (keq_hits)))
  | ((with_reducible refine' w_lenL ?h ?_); (case h => (keq_hits)))
  | ((with_reducible refine' w_ixi ?h ?e ?_); (case h => (keq_rows)); (case e => exact rfl))
  | ((with_reducible refine' w_ix ?h ?e ?_); (case h => (keq_rows)); (case e => exact rfl); intro _ _)
  | ((with_reducible refine' w_ixpi ?h ?e ?_); (case h => (keq_hits)); (case e => exact rfl))
  | ((with_reducible refine' w_ixp ?h ?e ?_); (case h => (keq_hits)); (case e => exact rfl); intro _ _)
  | ((with_reducible refine' w_ixl ?h ?e ?_); (case h => (lcg_off)); (case e => exact rfl))
  | ((with_reducible refine' w_lenS ?h ?_); (case h => (lcg_off)))
  | ((with_reducible refine' w_slT ?h ?_); (case h => (keq_hits)); intro _ _ _ _)
  | ((with_reducible refine' w_catT ?h1 ?h2 ?hl ?_); (case h1 => (keq_hits)); (case h2 => (keq_hits)); (case hl => exact Nat.le_of_ble_eq_true rfl); intro _ _ _ _)
  | ((with_reducible refine' w_kw1 ?e ?_); (case e => exact rfl))
  | ((with_reducible refine' w_kw2 ?e ?_); (case e => exact rfl))
  | ((with_reducible refine' w_rep2 ?h ?_); (case h => (k_offL)); intro _ _ _ _)
  | ((with_reducible refine' w_cntg ?h ?_); (case h => (keq_rows)))
  | ((with_reducible refine' w_newT ?l ?d ?_); (case l => exact Nat.le_of_ble_eq_true rfl); (case d => (k_subL)); intro _ _ _ _)
  | ((with_reducible refine' w_newTp ?l ?d ?_); (case l => exact Nat.le_of_ble_eq_true rfl); (case d => (k_clsL)); intro _ _ _ _)
  | ((with_reducible refine' w_newLq ?l ?d ?_); (case l => exact Nat.le_of_ble_eq_true rfl); (case d => (k_subL)); intro _ _ _ _ _ _ _)
  | ((with_reducible refine' w_newLp ?l ?d ?_); (case l => exact Nat.le_of_ble_eq_true rfl); (case d => (k_clsL)); intro _ _ _ _ _ _ _)
  | ((with_reducible refine' w_newTy ?l ?_); (case l => exact Nat.le_of_ble_eq_true rfl); intro _ _ _ _))
section
variable {P : Program} {w : World} {K : PySem.W.Frag} {mg : Str → Option Value} {base : Heap} {f : Addr} {fd : FuncData} {fI b : Addr} {cs : Nat → Addr}
def sp_law_right (K : PySem.W.Frag) : Sp := fun vs H Q _ => ∃ (n : Nat) (g : V) (c : Bool) (d : PyData), vs = [.int n, g, .bl c] ∧ n < 22 ∧ Dp K H g d ∧ sdS 6 d = true ∧ ∀ H', Ex H H' → Q (.bl true) H'
theorem lenRi {vs : List V} {H : Hp} {Q : VK} {E : XK} (h : sp_law_right K vs H Q E) : vs.length = 3 := by
  obtain ⟨n, g, c, d, rfl, _⟩ := h
  rfl
def sp_law_base_right (K : PySem.W.Frag) : Sp := fun vs H Q _ => ∃ (g : V) (d : PyData), vs = [g] ∧ Dp K H g d ∧ sdS 6 d = true ∧ ∀ H', Ex H H' → Q (.bl true) H'
theorem lenBa {vs : List V} {H : Hp} {Q : VK} {E : XK} (h : sp_law_base_right K vs H Q E) : vs.length = 1 := by
  obtain ⟨g, d, rfl, _⟩ := h
  rfl
abbrev sp_law_kinds (fI : Addr) (cs : Nat → Addr) (K : PySem.W.Frag) : Sp := spKi K fI cs
abbrev sp_law_raised (cs : Nat → Addr) (_ : PySem.W.Frag) : Sp := spR3 cs

theorem ok_law_right (F : Fun K "_law_right" "_law_right" s_law_right f fd) (M : Bu0 mg) (N : Nms mg b cs) (KT : Kit K fI b cs) (NI : Ini P w K mg base 1 fI) (c_law_raised : CalX P w K mg base 4 "_law_raised" ["which", "given", "named"] (spR3 cs)) (c_law_same : Cal P w K mg base 6 "_law_same" ["found", "due"] (sp_law_same 6 K)) (c_law_kinds : Cal P w K mg base 1 "_law_kinds" ["e"] (spKi K fI cs)) : FnOk P w K mg base CX0 7 f fd ["which", "given", "named"] (sp_law_right K) := by
  refine F.ok sc_law_right (fun vs H Q E h => ?_) (fun cdv A outer s H vs Q E hr h => ?_)
  · exact lenRi h
  · obtain ⟨n, g, c, d, rfl, hn, hg, hsd, k⟩ := h
    refine ⟨_, (pss_cons (ps_set (i := 3) sc_law_right.nd rfl (Or.inl rfl) pe_non)
      (pss_cons (ps_try_hold (i := 4) rfl rfl rfl sc_law_right.nd rfl rfl ⟨rfl, by decide, .inl N.m_KitError⟩ (fun W pn xe tk _ => (pss_one (ps_expr (pe_callX c_law_raised hr (by decide) tk (pa_cons (pv 0) (pa_cons (pv 1) (pa_cons (pv 2) pa_nil))))))) (fun a oe cls d pn hz hf => (pss_one (ps_set (i := 3) sc_law_right.nd rfl (Or.inl rfl) (pv 4)))))
      (pss_cons (ps_if (PW.pt (pw_or (pt_cmpR op_isNU (pv 3) pe_non (nomark _)) (pw_or1 (pt_not (pt_val (pe_callB (call_isXK (fI := fI) K rfl) (by rfl) M.z_isinstance (by decide +kernel) (pa_cons (pv 3) (pa_cons (pe_bltn (v := .ty "ValueError") (by rfl) N.z_ValueError (by decide +kernel) rfl) pa_nil)))))))) (pss_one (ps_ret pe_bl)) pss_nil)
      (pss_one (ps_ret (pe_and (pe_cmpR (op_eqK K rfl hr.units) (pe_callD c_law_kinds hr (by decide) (pa_cons (pv 3) pa_nil)) (pe_lc (own := [("k", 5)]) (g := gName 5) rfl sc_law_right.nd (pi_range1 rfl M.z_range (pa_cons pe_int pa_nil)) (blkOk_by (N := ["which", "given", "named", "caught", "e", "k"]) (sc := defScope s_law_right) (by decide +kernel)) (fun _ _ _ _ _ => pg_name (i := 5) sc_law_right.nd rfl (Or.inl rfl)) (fun _ _ _ _ _ => pts_nil) (fun _ _ _ _ _ => (pe_cmpR (op_eqK K rfl hr.units) (pv 5) (pv 0) (nomark _)))) (nomark _)) (pe_one (pe_callD c_law_same hr (by decide) (pa_cons (pe_xvK (fI := fI) K rfl (pv 3)) (pa_cons (pv 1) pa_nil)))))))))), ?_⟩
    try simp only [cxK, cxK2]
    refine w_st (σ' := [some (.int (n : Nat)), some g, some (.bl c), none, none, none]) rfl ?_
    (repeat kas_types)
    refine ⟨n, g, c, rfl, hn, fun d0 H1 e1 hd => ⟨KT.em n hn, fun a na => ?_⟩⟩
    try dsimp only [List.set]
    (repeat kas_types)
    intro n1
    try dsimp only [List.set]
    refine held e1 hd na _ fun H2 e2 hx => ?_
    (repeat kas_types)
    refine w_isxT hx (KT.x n hn) (KT.kv n hn) ?_
    (repeat kas_types)
    refine ⟨a, cs n, g, fun j => decide (n = j), rfl, hx.up (by lcg_sub), KT.x n hn, fun j hj => KT.kit n j hn hj, fun v H3 e3 hv => ?_⟩
    (repeat kas_types)
    refine ⟨_, rfl, by omega, by omega, ?_⟩
    refine w_lcBs (m := 22) (fun j => decide (((j : Nat) : Int) = ((n : Nat) : Int))) (by omega) (fun i H4 Qy hi e4 ky => ?_) (fun q H4 e4 hq => ?_)
    · rw [show (0 + (i : Nat) : Int) = ((i : Nat) : Int) by omega]
      (repeat kas_types)
      refine ⟨rfl, ?_⟩
      (repeat kas_types)
      exact ky _ (by lcg_sub)
    · (repeat kas_types)
      refine w_eqD (d := kinds fun j => decide (n = j)) (e := .list ((List.range 22).map fun i => PyData.bool (decide (((i : Nat) : Int) = ((n : Nat) : Int))))) (by keq_hits) (Dq.dp (.lst (SqL.of hq) (dqa_bs _ _))) (shaped_kinds _) (shaped_bs _) ?_
      rw [eqv_kinds _ _ (by funext j; exact decide_eq_decide.mpr ⟨fun h => by omega, fun h => by omega⟩)]
      (repeat kas_types)
      refine w_xvg (hx.up (by lcg_sub)) (KT.x n hn) ?_
      (repeat kas_types)
      refine w_spPb (b := true) d (by k_clsL) rfl hsd fun H6 e6 => ?_
      exact k _ (by lcg_sub)


theorem ok_law_base_right (F : Fun K "_law_base_right" "_law_base_right" s_law_base_right f fd) (M : Bu0 mg) (N : Nms mg b cs) (KT : Kit K fI b cs) (NI : Ini P w K mg base 1 fI) (c_law_same : Cal P w K mg base 6 "_law_same" ["found", "due"] (sp_law_same 6 K)) (c_law_kinds : Cal P w K mg base 1 "_law_kinds" ["e"] (spKi K fI cs)) : FnOk P w K mg base CX0 7 f fd ["given"] (sp_law_base_right K) := by
  refine F.ok sc_law_base_right (fun vs H Q E h => ?_) (fun cdv A outer s H vs Q E hr h => ?_)
  · exact lenBa h
  · obtain ⟨g, d, rfl, hg, hsd, k⟩ := h
    refine ⟨_, (pss_cons (ps_set (i := 1) sc_law_base_right.nd rfl (Or.inl rfl) pe_non)
      (pss_cons (ps_try_hold (i := 2) rfl rfl rfl sc_law_base_right.nd rfl rfl ⟨rfl, by decide, .inl N.m_KitError⟩ (fun W pn xe tk _ => (pss_one (ps_rkw (x := "KitError") K rfl tk rfl KT.xb NI hr (by decide) rfl N.m_KitError (pv 0)))) (fun a oe cls d pn hz hf => (pss_one (ps_set (i := 1) sc_law_base_right.nd rfl (Or.inl rfl) (pv 2)))))
      (pss_cons (ps_if (PW.pt (pw_or (pt_not (pt_val (pe_callB (call_isXK (fI := fI) K rfl) (by rfl) M.z_isinstance (by decide +kernel) (pa_cons (pv 1) (pa_cons (pe_bltn (v := .ty "ValueError") (by rfl) N.z_ValueError (by decide +kernel) rfl) pa_nil))))) (pw_or1 (pt_cmpR (op_inK K rfl) pe_bl (pe_callD c_law_kinds hr (by decide) (pa_cons (pv 1) pa_nil)) (by rfl))))) (pss_one (ps_ret pe_bl)) pss_nil)
      (pss_one (ps_ret (pe_and (pe_callD c_law_same hr (by decide) (pa_cons (pe_xvK (fI := fI) K rfl (pv 1)) (pa_cons (pv 0) pa_nil))) (pe_one (pe_callD c_law_same hr (by decide) (pa_cons (pe_xvK (fI := fI) K rfl (pe_mk (pmk_pos KT.xb NI hr (by decide) rfl N.m_KitError (pv 0)))) (pa_cons (pv 0) pa_nil)))))))))), ?_⟩
    try simp only [cxK, cxK2]
    refine w_st (σ' := [some g, none, none]) rfl ?_
    (repeat kas_types)
    refine w_mkg KT.xb fun d0 H1 e1 hd => ⟨KT.emb, fun a na => ?_⟩
    try dsimp only [List.set]
    (repeat kas_types)
    intro n1
    try dsimp only [List.set]
    refine held e1 hd na _ fun H2 e2 hx => ?_
    (repeat kas_types)
    refine w_isxT hx KT.xb KT.kvb ?_
    (repeat kas_types)
    refine ⟨a, b, g, fun _ => false, rfl, hx.up (by lcg_sub), KT.xb, fun j hj => KT.kitb j hj, fun v H3 e3 hv => ?_⟩
    (repeat kas_types)
    refine w_inB hv ?_
    (repeat kas_types)
    refine w_xvg (hx.up (by lcg_sub)) KT.xb ?_
    (repeat kas_types)
    refine w_spPb (b := true) d (by k_clsL) rfl hsd fun H6 e6 => ?_
    (repeat kas_types)
    refine w_mkg KT.xb fun d1 H7 e7 hd1 a1 na1 => ?_
    refine held e7 hd1 na1 _ fun H8 e8 hx1 => ?_
    refine w_xvg hx1 KT.xb ?_
    (repeat kas_types)
    refine w_spPb (b := true) d (by k_clsL) rfl hsd fun H9 e9 => ?_
    exact k _ (by lcg_sub)

end
end Sk

set_option maxHeartbeats 1000000
namespace Sk
open PySem PySem.Spec PyProof.Rows L2
open Evl (Ex ex_l ex_t)
local macro_rules | `(tactic| lcg_sub) => `(tactic| first | exact Evl.Ex.refl _ | assumption | (refine Evl.Ex.trans ?_ (by assumption); lcg_sub))
local macro_rules | `(tactic| keq_rows) => `(tactic| first | with_reducible exact Dq.int _ | with_reducible exact Dq.bl _ | with_reducible exact Dq.non | with_reducible exact Dq.str _ | assumption | ((refine' Dq.up ?e ?h); (case e => assumption); (case h => keq_rows)))
local macro_rules | `(tactic| k_subL) => `(tactic| first | with_reducible exact DqAll.nil | assumption | ((with_reducible refine' DqAll.cons ?a ?b); (case a => (keq_rows)); (case b => (k_subL))) | ((refine' DqAll.up ?e ?h); (case e => assumption); (case h => assumption)) | ((refine' DqAll.up ?e (DqAll.up ?f ?h)); (case e => assumption); (case f => assumption); (case h => assumption)) | ((refine' DqAll.up ?e (DqAll.up ?f (DqAll.up ?g ?h))); (case e => assumption); (case f => assumption); (case g => assumption); (case h => assumption)))
local macro_rules | `(tactic| keq_hits) => `(tactic| first | with_reducible exact L2.Dp.int _ | with_reducible exact L2.Dp.bl _ | with_reducible exact L2.Dp.non | with_reducible exact L2.Dp.str _ | assumption | exact Dq.dp (by assumption) | ((refine' Sk.Dp.up ?e ?h); (case e => assumption); (case h => keq_hits)))
local macro_rules | `(tactic| k_clsL) => `(tactic| first | with_reducible exact L2.DpAll.nil | assumption | ((with_reducible refine' L2.DpAll.cons ?a ?b); (case a => (keq_hits)); (case b => (k_clsL))) | exact DqAll.dp (by assumption) | ((refine' Sk.DpAll.up ?e ?h); (case e => assumption); (case h => assumption)) | ((refine' Sk.DpAll.up ?e (Sk.DpAll.up ?f ?h)); (case e => assumption); (case f => assumption); (case h => assumption)) | ((refine' Sk.DpAll.up ?e (Sk.DpAll.up ?f (Sk.DpAll.up ?g ?h))); (case e => assumption); (case f => assumption); (case g => assumption); (case h => assumption)))
local macro_rules | `(tactic| k_offL) => `(tactic| first | assumption | ((refine' at_up ?e ?h); (case e => assumption); (case h => k_offL)))
local macro_rules | `(tactic| lcg_off) => `(tactic| first | assumption | exact .inl (.inl (by assumption)) | ((refine' Evl.ex_l ?e ?h); (case e => assumption); (case h => lcg_off)))
local macro_rules | `(tactic| kas_types) => `(tactic| first
  | ((with_reducible refine' w_var ?h ?q); (case h => exact rfl))
  | with_reducible refine w_mkv ?_ | with_reducible refine w_callX ?_ | with_reducible refine w_xv ?_ | with_reducible refine w_ost ?_
  | with_reducible refine w_op ?_ | with_reducible refine w_c ?_ | with_reducible refine w_I0 ?_ | with_reducible refine w_addI ?_ | with_reducible refine w_bl ?_
  | with_reducible refine w_cons ?_ | with_reducible refine w_nil ?_ | with_reducible refine w_seq ?_ | with_reducible refine w_ift ?_ | with_reducible refine w_iff ?_
  | with_reducible refine w_call ?_ | with_reducible refine w_cb ?_ | with_reducible refine w_asg ?_ | ((with_reducible refine w_gname ?_); (try dsimp only [List.set]))
  | with_reducible refine w_if ?_ | with_reducible refine w_test ?_ | with_reducible refine w_B ?_ | with_reducible refine w_not ?_ | with_reducible refine w_and ?_ | with_reducible refine w_or ?_
  | with_reducible refine w_ret ?_ | with_reducible refine w_drop ?_ | with_reducible refine w_next ?_ | with_reducible refine w_retN ?_ | with_reducible refine w_andV ?_ | with_reducible refine w_orV ?_ | with_reducible refine w_notV ?_ | with_reducible refine w_ifE ?_ | with_reducible refine w_chain ?_
  | with_reducible refine w_yes ?_ | with_reducible refine w_un ?_ | with_reducible refine w_neg ?_ | with_reducible refine w_eqI ?_ | with_reducible refine w_neI ?_ | with_reducible refine w_abs ?_ | with_reducible refine w_int ?_ | with_reducible refine w_gcd ?_
  | with_reducible refine w_max2 ?_ | with_reducible refine w_min2 ?_ | with_reducible refine w_shr ?_ | with_reducible refine w_bits ?_ | with_reducible refine w_isint ?_ | with_reducible refine w_isN ?_ | with_reducible refine w_notN ?_
  | with_reducible refine w_tupF ?_ | with_reducible refine w_lst ?_ | with_reducible refine w_then ?_ | with_reducible refine w_callW ?_ | with_reducible refine w_par ?_ | with_reducible refine w_cnt ?_ | with_reducible refine w_forrev ?_ | with_reducible refine w_for1 ?_ | with_reducible refine w_for2 ?_ | with_reducible refine w_lc1 ?_ | with_reducible refine w_tupP ?_
  | ((with_reducible refine w_two ?_); (try dsimp only [List.set]))
  | with_reducible refine w_sl ?_ | with_reducible refine w_nopart ?_ | with_reducible refine w_part ?_ | with_reducible refine w_partg ?_
  | with_reducible refine w_gsub ?_ | with_reducible refine w_neB ?_ | with_reducible refine w_eqB ?_ | with_reducible refine w_eqS ?_
  | with_reducible refine w_gcons ?_ | with_reducible refine w_gnil ?_
  | ((with_reducible refine w_itf ?e ?_); (case e => exact rfl))
  | ((with_reducible refine w_itt ?e ?_); (case e => exact rfl))
  | ((with_reducible refine' w_gtup_ii ?h ?_); (case h => (keq_rows)))
  | ((with_reducible refine' w_gtup_2 ?h ?_); (case h => (keq_rows)); intro _ _ _ _)
  | ((with_reducible refine' w_gtupp_ii ?h ?_); (case h => (keq_hits)))
  | ((with_reducible refine' w_gtupp_2 ?h ?_); (case h => (keq_hits)); intro _ _ _ _)
  | ((with_reducible refine' w_isi ?h ?_); (case h => (keq_hits)))
  | ((with_reducible refine' w_isiT ?h ?e ?_); (case h => (keq_hits)); (case e => (k_offL)))
  | ((with_reducible refine' w_lenT ?h ?_); (case h => (keq_hits)))
  | ((with_reducible refine' w_lenL ?h ?_); (case h => (keq_hits)))
  | ((with_reducible refine' w_ixi ?h ?e ?_); (case h => (keq_rows)); (case e => exact rfl))
  | ((with_reducible refine' w_ix ?h ?e ?_); (case h => (keq_rows)); (case e => exact rfl); intro _ _)
  | ((with_reducible refine' w_ixpi ?h ?e ?_); (case h => (keq_hits)); (case e => exact rfl))
  | ((with_reducible refine' w_ixp ?h ?e ?_); (case h => (keq_hits)); (case e => exact rfl); intro _ _)
  | ((with_reducible refine' w_ixl ?h ?e ?_); (case h => (lcg_off)); (case e => exact rfl))
  | ((with_reducible refine' w_lenS ?h ?_); (case h => (lcg_off)))
  | ((with_reducible refine' w_slT ?h ?_); (case h => (keq_hits)); intro _ _ _ _)
  | ((with_reducible refine' w_catT ?h1 ?h2 ?hl ?_); (case h1 => (keq_hits)); (case h2 => (keq_hits)); (case hl => exact Nat.le_of_ble_eq_true rfl); intro _ _ _ _)
  | ((with_reducible refine' w_kw1 ?e ?_); (case e => exact rfl))
  | ((with_reducible refine' w_kw2 ?e ?_); (case e => exact rfl))
  | ((with_reducible refine' w_rep2 ?h ?_); (case h => (k_offL)); intro _ _ _ _)
  | ((with_reducible refine' w_cntg ?h ?_); (case h => (keq_rows)))
  | ((with_reducible refine' w_newT ?l ?d ?_); (case l => exact Nat.le_of_ble_eq_true rfl); (case d => (k_subL)); intro _ _ _ _)
  | ((with_reducible refine' w_newTp ?l ?d ?_); (case l => exact Nat.le_of_ble_eq_true rfl); (case d => (k_clsL)); intro _ _ _ _)
  | ((with_reducible refine' w_newLq ?l ?d ?_); (case l => exact Nat.le_of_ble_eq_true rfl); (case d => (k_subL)); intro _ _ _ _ _ _ _)
  | ((with_reducible refine' w_newLp ?l ?d ?_); (case l => exact Nat.le_of_ble_eq_true rfl); (case d => (k_clsL)); intro _ _ _ _ _ _ _)
  | ((with_reducible refine' w_newTy ?l ?_); (case l => exact Nat.le_of_ble_eq_true rfl); intro _ _ _ _))
section
variable {P : Program} {w : World} {K : PySem.W.Frag} {mg : Str → Option Value} {base : Heap} {f : Addr} {fd : FuncData} {fI b : Addr} {cs : Nat → Addr}
def sp_law (K : PySem.W.Frag) : Sp := fun vs H Q _ => ∃ (a : Addr) (ns : List Int), vs = [.ref a] ∧ SqL K H a (ns.map V.int) ∧ ns.length ≤ 63 ∧ ∀ H', Q (.bl true) H'
theorem len_law {K : PySem.W.Frag} {vs : List V} {H : Hp} {Q : VK} {E : XK} (h : sp_law K vs H Q E) : vs.length = 1 := by
  obtain ⟨a, ns, rfl, _⟩ := h
  rfl

theorem ok_law (F : Fun K "law" "law" s_law f fd) (M : Bu0 mg) (N : Nms mg b cs) (KT : Kit K fI b cs) (NI : Ini P w K mg base 1 fI) (c_law_deck : Cal P w K mg base 1 "_law_deck" ["script", "k"] (sp_law_deck K)) (c_law_take : Cal P w K mg base 1 "_law_take" ["deck", "many"] (sp_law_take K)) (c_law_given : Cal P w K mg base 2 "_law_given" ["deck"] (sp_law_given K)) (c_law_raised : CalX P w K mg base 4 "_law_raised" ["which", "given", "named"] (spR3 cs)) (c_law_right : Cal P w K mg base 7 "_law_right" ["which", "given", "named"] (sp_law_right K)) (c_law_base_right : Cal P w K mg base 7 "_law_base_right" ["given"] (sp_law_base_right K)) (c_law_same : Cal P w K mg base 6 "_law_same" ["found", "due"] (sp_law_same 6 K)) : FnOk P w K mg base CX0 8 f fd ["script"] (sp_law K) := by
  refine F.ok sc_law (fun vs H Q E h => ?_) (fun cdv A outer s H vs Q E hr h => ?_)
  · exact len_law h
  · obtain ⟨a, ns, rfl, hS, hl, k⟩ := h
    refine ⟨_, (pss_cons (ps_asg (pe_tupK K rfl (pa_cons pe_non (pa_cons pe_non pa_nil))) (pg_tupK K rfl (n := 2) rfl (pgs_cons (pg_name (i := 3) sc_law.nd rfl (Or.inl rfl)) (pgs_cons (pg_name (i := 4) sc_law.nd rfl (Or.inl rfl)) pgs_nil))))
      (pss_cons (ps_for PassesOwn.never rfl (pi_range1 rfl M.z_range (pa_cons (pe_callB (call_maxU rfl) (by rfl) M.z_max (by decide +kernel) (pa_cons pe_int (pa_cons (pe_callB (call_minU rfl) (by rfl) M.z_min (by decide +kernel) (pa_cons (pe_callB (call_lenK K rfl) (by rfl) M.z_len PySem.boot_len (pa_cons (pv 0) pa_nil)) (pa_cons pe_int pa_nil))) pa_nil))) pa_nil)) (pg_name (i := 1) sc_law.nd rfl (Or.inl rfl)) (pss_cons (ps_set (i := 5) sc_law.nd rfl (Or.inl rfl) (pe_callD c_law_deck hr (by decide) (pa_cons (pv 0) (pa_cons (pv 1) pa_nil))))
      (pss_cons (ps_par (i := 2) (j := 7) (by rfl) sc_law.nd rfl rfl (by decide) rfl rfl (pa_cons (pe_callD c_law_take hr (by decide) (pa_cons (pv 5) (pa_cons pe_int pa_nil))) (pa_cons (pe_cmpR (op_eqK K rfl hr.units) (pe_callD c_law_take hr (by decide) (pa_cons (pv 5) (pa_cons pe_int pa_nil))) pe_int (nomark _)) pa_nil)) (by rfl))
      (pss_cons (ps_par (i := 8) (j := 9) (by rfl) sc_law.nd rfl rfl (by decide) rfl rfl (pa_cons (pe_callD c_law_given hr (by decide) (pa_cons (pv 5) pa_nil)) (pa_cons (pe_callD c_law_given hr (by decide) (pa_cons (pv 5) pa_nil)) pa_nil)) (by rfl))
      (pss_cons (ps_if (PW.pt (pw_or (pt_not (pt_val (pe_callD c_law_right hr (by decide) (pa_cons (pv 2) (pa_cons (pv 8) (pa_cons (pv 7) pa_nil)))))) (pw_or (pt_not (pt_val (pe_callD c_law_right hr (by decide) (pa_cons (pv 2) (pa_cons (pv 9) (pa_cons (pe_not (pv 7)) pa_nil)))))) (pw_or1 (pt_not (pt_val (pe_callD c_law_base_right hr (by decide) (pa_cons (pv 9) pa_nil)))))))) (pss_one (ps_ret pe_bl)) pss_nil)
      (pss_cons (ps_try_hold (i := 6) rfl rfl rfl sc_law.nd rfl rfl ⟨rfl, by decide, .inl N.m_KitError⟩ (fun W pn xe tk _ => (pss_one (ps_expr (pe_callX c_law_raised hr (by decide) tk (pa_cons (pv 2) (pa_cons (pv 8) (pa_cons (pv 7) pa_nil))))))) (fun a oe cls d pn hz hf => (pss_one (ps_set (i := 3) sc_law.nd rfl (Or.inl rfl) (pv 6)))))
      (pss_cons (ps_try_hold (i := 6) rfl rfl rfl sc_law.nd rfl rfl ⟨rfl, by decide, .inl N.m_KitError⟩ (fun W pn xe tk _ => (pss_one (ps_expr (pe_callX c_law_raised hr (by decide) tk (pa_cons (pv 2) (pa_cons (pv 9) (pa_cons (pv 7) pa_nil))))))) (fun a oe cls d pn hz hf => (pss_one (ps_set (i := 4) sc_law.nd rfl (Or.inl rfl) (pv 6)))))
      (pss_one (ps_if (PW.pt (pw_or (pt_not (pt_val (pe_callD c_law_same hr (by decide) (pa_cons (pe_xvK (fI := fI) K rfl (pv 3)) (pa_cons (pv 8) pa_nil))))) (pw_or1 (pt_not (pt_val (pe_callD c_law_same hr (by decide) (pa_cons (pe_xvK (fI := fI) K rfl (pv 4)) (pa_cons (pv 9) pa_nil)))))))) (pss_one (ps_ret pe_bl)) pss_nil)))))))))
      (pss_cons (ps_for PassesOwn.never rfl (pi_range1 rfl M.z_range (pa_cons pe_int pa_nil)) (pg_name (i := 2) sc_law.nd rfl (Or.inl rfl)) (pss_one (ps_if (PW.pt (pw_or (pt_not (pt_val (pe_callD c_law_right hr (by decide) (pa_cons (pv 2) (pa_cons (pv 2) (pa_cons pe_bl pa_nil)))))) (pw_or1 (pt_not (pt_val (pe_callD c_law_right hr (by decide) (pa_cons (pv 2) (pa_cons pe_str (pa_cons pe_bl pa_nil))))))))) (pss_one (ps_ret pe_bl)) pss_nil)))
      (pss_one (ps_ret pe_bl))))), ?_⟩
    try simp only [cxK, cxK2]
    refine w_st (σ' := [some (.ref a), none, none, none, none, none, none, none, none, none]) rfl ?_
    (repeat kas_types)
    rw [List.length_map]
    refine ⟨_, rfl, by omega, by omega, ?_⟩
    refine w_forg (fun i σ H' => ∃ (w1 w2 w3 w4 w5 w6 w7 w8 w9 : Option V), σ = [some (.ref a), w1, w2, w3, w4, w5, w6, w7, w8, w9] ∧ Ex H H') ⟨_, _, _, _, _, _, _, _, _, rfl, by lcg_sub⟩ ?_ ?_
    · rintro i σ H1 hi ⟨w1, w2, w3, w4, w5, w6, w7, w8, w9, rfl, e1⟩
      have hi : i < 40 := by omega
      rw [show (0 + (i : Nat) : Int) = ((i : Nat) : Int) by omega]
      (repeat kas_types)
      refine ⟨a, ns, i, rfl, by lcg_off, by omega, fun p H2 e2 hk => ?_⟩
      have hk0 : H2 p = some (DeckO p) := hk
      (repeat kas_types)
      refine w_take (by show _ = _; k_offL) (by decide) ((show Bd 100 _ by unfold Bd; decide).mono (by decide)) fun r H3 e3 r0 r1 => ?_
      (repeat kas_types)
      refine w_take (by show _ = _; k_offL) (by decide) ((show Bd 100 _ by unfold Bd; decide).mono (by decide)) fun r2 H4 e4 s0 s1 => ?_
      (repeat kas_types)
      refine w_spKp () (by show _ = _; k_offL) .nil trivial fun d1 v1 H5 e5 g1 hv1 => ?_
      (repeat kas_types)
      refine w_spKp () (by show _ = _; k_offL) .nil trivial fun d2 v2 H6 e6 g2 hv2 => ?_
      (repeat kas_types)
      have g1 : sdS 6 d1 = true := g1
      have g2 : sdS 6 d2 = true := g2
      obtain ⟨n, rfl⟩ : ∃ n : Nat, r = (n : Int) := ⟨r.toNat, by omega⟩
      have hn : n < 22 := by omega
      refine ⟨n, v1, _, d1, rfl, hn, by keq_hits, g1, fun H7 e7 => ?_⟩
      (repeat kas_types)
      refine ⟨n, v2, _, d2, rfl, hn, by keq_hits, g2, fun H8 e8 => ?_⟩
      (repeat kas_types)
      refine ⟨v2, d2, rfl, by keq_hits, g2, fun H9 e9 => ?_⟩
      (repeat kas_types)
      refine ⟨n, v1, _, rfl, hn, fun d0 H10 e10 hd => ⟨KT.em n hn, fun a1 na => ?_⟩⟩
      try dsimp only [List.set]
      (repeat kas_types)
      intro n1
      try dsimp only [List.set]
      refine held e10 hd na _ fun H11 e11 hx1 => ?_
      clear e10 hd na n1
      (repeat kas_types)
      refine ⟨n, v2, _, rfl, hn, fun d0 H12 e12 hd => ⟨KT.em n hn, fun a2 na => ?_⟩⟩
      try dsimp only [List.set]
      (repeat kas_types)
      intro n1
      try dsimp only [List.set]
      refine held e12 hd na _ fun H13 e13 hx2 => ?_
      clear e12 hd na n1
      (repeat kas_types)
      refine w_xvg (hx1.up (by lcg_sub)) (KT.x n hn) ?_
      (repeat kas_types)
      refine w_spPb (b := true) d1 (by k_clsL) rfl g1 fun H14 e14 => ?_
      (repeat kas_types)
      refine w_xvg (hx2.up (by lcg_sub)) (KT.x n hn) ?_
      (repeat kas_types)
      refine w_spPb (b := true) d2 (by k_clsL) rfl g2 fun H15 e15 => ?_
      (repeat kas_types)
      exact ⟨_, _, _, _, _, _, _, _, _, rfl, by lcg_sub⟩
    · rintro σ H1 ⟨w1, w2, w3, w4, w5, w6, w7, w8, w9, rfl, e1⟩
      (repeat kas_types)
      refine ⟨_, rfl, by omega, by omega, ?_⟩
      refine w_forg (n := 22) (fun i σ H' => ∃ (w1 w2 w3 w4 w5 w6 w7 w8 w9 : Option V), σ = [some (.ref a), w1, w2, w3, w4, w5, w6, w7, w8, w9] ∧ Ex H H') ⟨_, _, _, _, _, _, _, _, _, rfl, by lcg_sub⟩ ?_ ?_
      · rintro i σ H2 hi ⟨w1, w2, w3, w4, w5, w6, w7, w8, w9, rfl, e2⟩
        rw [show (0 + (i : Nat) : Int) = ((i : Nat) : Int) by omega]
        (repeat kas_types)
        refine ⟨i, .int i, false, .int i, rfl, hi, .int _, rfl, fun H3 e3 => ?_⟩
        (repeat kas_types)
        refine ⟨i, .str "a", true, .str "a", rfl, hi, .str _, rfl, fun H4 e4 => ?_⟩
        (repeat kas_types)
        exact ⟨_, _, _, _, _, _, _, _, _, rfl, by lcg_sub⟩
      · rintro σ H2 ⟨w1, w2, w3, w4, w5, w6, w7, w8, w9, rfl, e2⟩
        (repeat kas_types)
        exact k _

end
end Sk

set_option maxHeartbeats 4000000
namespace Sk
open PySem PySem.Spec PyProof.Rows L2
def csOf (l : List Addr) : Nat → Addr := fun i => l.getD i 0
theorem all_mk {l : PySem.W.OpenLaw} {w : World} {K : PySem.W.Frag} {h : Heap} {mg : Str → Option Value} {fa : Addr} (X : K.In h) (G : h.Ns mainGlobals mg) (hfa : mg "law" = some (.ref fa))
    {f_law_deck : Addr} {od_law_deck an_law_deck : Option Addr} {sl_law_deck : Array (Option Value)} {oc_law_deck kV_law_deck dc_law_deck pm_law_deck cd_law_deck ct_law_deck : Value}
    (a_law_deck : PySem.W.nsIn K mainGlobals "_law_deck" = some (some (.ref f_law_deck))) (l_law_deck : K.lookup f_law_deck = some ⟨oc_law_deck, od_law_deck, .func (PySem.W.fnOf "_law_deck" "_law_deck" (defArgs s_law_deck) (defBody s_law_deck) (defScope s_law_deck) .none kV_law_deck dc_law_deck pm_law_deck an_law_deck cd_law_deck ct_law_deck), sl_law_deck⟩) (c_law_deck : PySem.W.codeIn K cd_law_deck "_law_deck" = true) (k_law_deck : PySem.W.keepIn K (.ref f_law_deck) = true)
    {f_law_take : Addr} {od_law_take an_law_take : Option Addr} {sl_law_take : Array (Option Value)} {oc_law_take kV_law_take dc_law_take pm_law_take cd_law_take ct_law_take : Value}
    (a_law_take : PySem.W.nsIn K mainGlobals "_law_take" = some (some (.ref f_law_take))) (l_law_take : K.lookup f_law_take = some ⟨oc_law_take, od_law_take, .func (PySem.W.fnOf "_law_take" "_law_take" (defArgs s_law_take) (defBody s_law_take) (defScope s_law_take) .none kV_law_take dc_law_take pm_law_take an_law_take cd_law_take ct_law_take), sl_law_take⟩) (c_law_take : PySem.W.codeIn K cd_law_take "_law_take" = true) (k_law_take : PySem.W.keepIn K (.ref f_law_take) = true)
    {f_law_same : Addr} {od_law_same an_law_same : Option Addr} {sl_law_same : Array (Option Value)} {oc_law_same kV_law_same dc_law_same pm_law_same cd_law_same ct_law_same : Value}
    (a_law_same : PySem.W.nsIn K mainGlobals "_law_same" = some (some (.ref f_law_same))) (l_law_same : K.lookup f_law_same = some ⟨oc_law_same, od_law_same, .func (PySem.W.fnOf "_law_same" "_law_same" (defArgs s_law_same) (defBody s_law_same) (defScope s_law_same) .none kV_law_same dc_law_same pm_law_same an_law_same cd_law_same ct_law_same), sl_law_same⟩) (c_law_same : PySem.W.codeIn K cd_law_same "_law_same" = true) (k_law_same : PySem.W.keepIn K (.ref f_law_same) = true)
    {f_law_raise_first : Addr} {od_law_raise_first an_law_raise_first : Option Addr} {sl_law_raise_first : Array (Option Value)} {oc_law_raise_first kV_law_raise_first dc_law_raise_first pm_law_raise_first cd_law_raise_first ct_law_raise_first : Value}
    (a_law_raise_first : PySem.W.nsIn K mainGlobals "_law_raise_first" = some (some (.ref f_law_raise_first))) (l_law_raise_first : K.lookup f_law_raise_first = some ⟨oc_law_raise_first, od_law_raise_first, .func (PySem.W.fnOf "_law_raise_first" "_law_raise_first" (defArgs s_law_raise_first) (defBody s_law_raise_first) (defScope s_law_raise_first) .none kV_law_raise_first dc_law_raise_first pm_law_raise_first an_law_raise_first cd_law_raise_first ct_law_raise_first), sl_law_raise_first⟩) (c_law_raise_first : PySem.W.codeIn K cd_law_raise_first "_law_raise_first" = true) (k_law_raise_first : PySem.W.keepIn K (.ref f_law_raise_first) = true)
    {f_law_raise_second : Addr} {od_law_raise_second an_law_raise_second : Option Addr} {sl_law_raise_second : Array (Option Value)} {oc_law_raise_second kV_law_raise_second dc_law_raise_second pm_law_raise_second cd_law_raise_second ct_law_raise_second : Value}
    (a_law_raise_second : PySem.W.nsIn K mainGlobals "_law_raise_second" = some (some (.ref f_law_raise_second))) (l_law_raise_second : K.lookup f_law_raise_second = some ⟨oc_law_raise_second, od_law_raise_second, .func (PySem.W.fnOf "_law_raise_second" "_law_raise_second" (defArgs s_law_raise_second) (defBody s_law_raise_second) (defScope s_law_raise_second) .none kV_law_raise_second dc_law_raise_second pm_law_raise_second an_law_raise_second cd_law_raise_second ct_law_raise_second), sl_law_raise_second⟩) (c_law_raise_second : PySem.W.codeIn K cd_law_raise_second "_law_raise_second" = true) (k_law_raise_second : PySem.W.keepIn K (.ref f_law_raise_second) = true)
    {f_law_raise_named_first : Addr} {od_law_raise_named_first an_law_raise_named_first : Option Addr} {sl_law_raise_named_first : Array (Option Value)} {oc_law_raise_named_first kV_law_raise_named_first dc_law_raise_named_first pm_law_raise_named_first cd_law_raise_named_first ct_law_raise_named_first : Value}
    (a_law_raise_named_first : PySem.W.nsIn K mainGlobals "_law_raise_named_first" = some (some (.ref f_law_raise_named_first))) (l_law_raise_named_first : K.lookup f_law_raise_named_first = some ⟨oc_law_raise_named_first, od_law_raise_named_first, .func (PySem.W.fnOf "_law_raise_named_first" "_law_raise_named_first" (defArgs s_law_raise_named_first) (defBody s_law_raise_named_first) (defScope s_law_raise_named_first) .none kV_law_raise_named_first dc_law_raise_named_first pm_law_raise_named_first an_law_raise_named_first cd_law_raise_named_first ct_law_raise_named_first), sl_law_raise_named_first⟩) (c_law_raise_named_first : PySem.W.codeIn K cd_law_raise_named_first "_law_raise_named_first" = true) (k_law_raise_named_first : PySem.W.keepIn K (.ref f_law_raise_named_first) = true)
    {f_law_raise_named_second : Addr} {od_law_raise_named_second an_law_raise_named_second : Option Addr} {sl_law_raise_named_second : Array (Option Value)} {oc_law_raise_named_second kV_law_raise_named_second dc_law_raise_named_second pm_law_raise_named_second cd_law_raise_named_second ct_law_raise_named_second : Value}
    (a_law_raise_named_second : PySem.W.nsIn K mainGlobals "_law_raise_named_second" = some (some (.ref f_law_raise_named_second))) (l_law_raise_named_second : K.lookup f_law_raise_named_second = some ⟨oc_law_raise_named_second, od_law_raise_named_second, .func (PySem.W.fnOf "_law_raise_named_second" "_law_raise_named_second" (defArgs s_law_raise_named_second) (defBody s_law_raise_named_second) (defScope s_law_raise_named_second) .none kV_law_raise_named_second dc_law_raise_named_second pm_law_raise_named_second an_law_raise_named_second cd_law_raise_named_second ct_law_raise_named_second), sl_law_raise_named_second⟩) (c_law_raise_named_second : PySem.W.codeIn K cd_law_raise_named_second "_law_raise_named_second" = true) (k_law_raise_named_second : PySem.W.keepIn K (.ref f_law_raise_named_second) = true)
    {f_law_raised : Addr} {od_law_raised an_law_raised : Option Addr} {sl_law_raised : Array (Option Value)} {oc_law_raised kV_law_raised dc_law_raised pm_law_raised cd_law_raised ct_law_raised : Value}
    (a_law_raised : PySem.W.nsIn K mainGlobals "_law_raised" = some (some (.ref f_law_raised))) (l_law_raised : K.lookup f_law_raised = some ⟨oc_law_raised, od_law_raised, .func (PySem.W.fnOf "_law_raised" "_law_raised" (defArgs s_law_raised) (defBody s_law_raised) (defScope s_law_raised) .none kV_law_raised dc_law_raised pm_law_raised an_law_raised cd_law_raised ct_law_raised), sl_law_raised⟩) (c_law_raised : PySem.W.codeIn K cd_law_raised "_law_raised" = true) (k_law_raised : PySem.W.keepIn K (.ref f_law_raised) = true)
    {f_law_kinds : Addr} {od_law_kinds an_law_kinds : Option Addr} {sl_law_kinds : Array (Option Value)} {oc_law_kinds kV_law_kinds dc_law_kinds pm_law_kinds cd_law_kinds ct_law_kinds : Value}
    (a_law_kinds : PySem.W.nsIn K mainGlobals "_law_kinds" = some (some (.ref f_law_kinds))) (l_law_kinds : K.lookup f_law_kinds = some ⟨oc_law_kinds, od_law_kinds, .func (PySem.W.fnOf "_law_kinds" "_law_kinds" (defArgs s_law_kinds) (defBody s_law_kinds) (defScope s_law_kinds) .none kV_law_kinds dc_law_kinds pm_law_kinds an_law_kinds cd_law_kinds ct_law_kinds), sl_law_kinds⟩) (c_law_kinds : PySem.W.codeIn K cd_law_kinds "_law_kinds" = true) (k_law_kinds : PySem.W.keepIn K (.ref f_law_kinds) = true)
    {f_law_given : Addr} {od_law_given an_law_given : Option Addr} {sl_law_given : Array (Option Value)} {oc_law_given kV_law_given dc_law_given pm_law_given cd_law_given ct_law_given : Value}
    (a_law_given : PySem.W.nsIn K mainGlobals "_law_given" = some (some (.ref f_law_given))) (l_law_given : K.lookup f_law_given = some ⟨oc_law_given, od_law_given, .func (PySem.W.fnOf "_law_given" "_law_given" (defArgs s_law_given) (defBody s_law_given) (defScope s_law_given) .none kV_law_given dc_law_given pm_law_given an_law_given cd_law_given ct_law_given), sl_law_given⟩) (c_law_given : PySem.W.codeIn K cd_law_given "_law_given" = true) (k_law_given : PySem.W.keepIn K (.ref f_law_given) = true)
    {f_law_right : Addr} {od_law_right an_law_right : Option Addr} {sl_law_right : Array (Option Value)} {oc_law_right kV_law_right dc_law_right pm_law_right cd_law_right ct_law_right : Value}
    (a_law_right : PySem.W.nsIn K mainGlobals "_law_right" = some (some (.ref f_law_right))) (l_law_right : K.lookup f_law_right = some ⟨oc_law_right, od_law_right, .func (PySem.W.fnOf "_law_right" "_law_right" (defArgs s_law_right) (defBody s_law_right) (defScope s_law_right) .none kV_law_right dc_law_right pm_law_right an_law_right cd_law_right ct_law_right), sl_law_right⟩) (c_law_right : PySem.W.codeIn K cd_law_right "_law_right" = true) (k_law_right : PySem.W.keepIn K (.ref f_law_right) = true)
    {f_law_base_right : Addr} {od_law_base_right an_law_base_right : Option Addr} {sl_law_base_right : Array (Option Value)} {oc_law_base_right kV_law_base_right dc_law_base_right pm_law_base_right cd_law_base_right ct_law_base_right : Value}
    (a_law_base_right : PySem.W.nsIn K mainGlobals "_law_base_right" = some (some (.ref f_law_base_right))) (l_law_base_right : K.lookup f_law_base_right = some ⟨oc_law_base_right, od_law_base_right, .func (PySem.W.fnOf "_law_base_right" "_law_base_right" (defArgs s_law_base_right) (defBody s_law_base_right) (defScope s_law_base_right) .none kV_law_base_right dc_law_base_right pm_law_base_right an_law_base_right cd_law_base_right ct_law_base_right), sl_law_base_right⟩) (c_law_base_right : PySem.W.codeIn K cd_law_base_right "_law_base_right" = true) (k_law_base_right : PySem.W.keepIn K (.ref f_law_base_right) = true)
    {f_law : Addr} {od_law an_law : Option Addr} {sl_law : Array (Option Value)} {oc_law kV_law dc_law pm_law cd_law ct_law : Value}
    (a_law : PySem.W.nsIn K mainGlobals "law" = some (some (.ref f_law))) (l_law : K.lookup f_law = some ⟨oc_law, od_law, .func (PySem.W.fnOf "law" "law" (defArgs s_law) (defBody s_law) (defScope s_law) .none kV_law dc_law pm_law an_law cd_law ct_law), sl_law⟩) (c_law : PySem.W.codeIn K cd_law "law" = true) (k_law : PySem.W.keepIn K (.ref f_law) = true)
    (z_len : PySem.W.nsIn K mainGlobals "len" = some none)
    (z_isinstance : PySem.W.nsIn K mainGlobals "isinstance" = some none)
    (z_max : PySem.W.nsIn K mainGlobals "max" = some none)
    (z_min : PySem.W.nsIn K mainGlobals "min" = some none)
    (z_int : PySem.W.nsIn K mainGlobals "int" = some none)
    (z_bool : PySem.W.nsIn K mainGlobals "bool" = some none)
    (z_str : PySem.W.nsIn K mainGlobals "str" = some none)
    (z_tuple : PySem.W.nsIn K mainGlobals "tuple" = some none)
    (z_list : PySem.W.nsIn K mainGlobals "list" = some none)
    (z_range : PySem.W.nsIn K mainGlobals "range" = some none)
    (z_ValueError : PySem.W.nsIn K mainGlobals "ValueError" = some none)
    {c0 c1 c2 c3 c4 c5 c6 c7 c8 c9 c10 c11 c12 c13 c14 c15 c16 c17 c18 c19 c20 c21 b fI : Addr}
    (n0 : PySem.W.nsIn K mainGlobals "InvalidNumber" = some (some (.ref c0)))
    (n1 : PySem.W.nsIn K mainGlobals "InvalidPoint" = some (some (.ref c1)))
    (n2 : PySem.W.nsIn K mainGlobals "InvalidOffset" = some (some (.ref c2)))
    (n3 : PySem.W.nsIn K mainGlobals "InvalidTable" = some (some (.ref c3)))
    (n4 : PySem.W.nsIn K mainGlobals "InvalidKit" = some (some (.ref c4)))
    (n5 : PySem.W.nsIn K mainGlobals "InvalidState" = some (some (.ref c5)))
    (n6 : PySem.W.nsIn K mainGlobals "InvalidWalk" = some (some (.ref c6)))
    (n7 : PySem.W.nsIn K mainGlobals "InvalidAddress" = some (some (.ref c7)))
    (n8 : PySem.W.nsIn K mainGlobals "InvalidPaper" = some (some (.ref c8)))
    (n9 : PySem.W.nsIn K mainGlobals "InvalidPair" = some (some (.ref c9)))
    (n10 : PySem.W.nsIn K mainGlobals "InvalidPower" = some (some (.ref c10)))
    (n11 : PySem.W.nsIn K mainGlobals "InvalidZoom" = some (some (.ref c11)))
    (n12 : PySem.W.nsIn K mainGlobals "InvalidTurn" = some (some (.ref c12)))
    (n13 : PySem.W.nsIn K mainGlobals "InvalidWay" = some (some (.ref c13)))
    (n14 : PySem.W.nsIn K mainGlobals "InvalidName" = some (some (.ref c14)))
    (n15 : PySem.W.nsIn K mainGlobals "UnknownName" = some (some (.ref c15)))
    (n16 : PySem.W.nsIn K mainGlobals "NoSquares" = some (some (.ref c16)))
    (n17 : PySem.W.nsIn K mainGlobals "NoMeeting" = some (some (.ref c17)))
    (n18 : PySem.W.nsIn K mainGlobals "NoReturn" = some (some (.ref c18)))
    (n19 : PySem.W.nsIn K mainGlobals "NothingToUndo" = some (some (.ref c19)))
    (n20 : PySem.W.nsIn K mainGlobals "Unreadable" = some (some (.ref c20)))
    (n21 : PySem.W.nsIn K mainGlobals "Unorderly" = some (some (.ref c21)))
    (nb : PySem.W.nsIn K mainGlobals "KitError" = some (some (.ref b))) (ib : PySem.W.findIn K (.ref b) "__init__" = some (some (.ref fI)))
    {od_init an_init : Option Addr} {sl_init : Array (Option Value)} {oc_init kV_init dc_init pm_init cd_init ct_init : Value}
    (l_init : K.lookup fI = some ⟨oc_init, od_init, .func (PySem.W.fnOf "__init__" "KitError.__init__" (defArgs s_init) (defBody s_init) (defScope s_init) .none kV_init dc_init pm_init an_init cd_init ct_init), sl_init⟩) (c_init : PySem.W.codeIn K cd_init "KitError.__init__" = true) (k_init : PySem.W.keepIn K (.ref fI) = true) (t_init : PySem.W.typeIn K (.ref fI) = some (.type "function"))
    (hB : kitB K fI b (csOf [c0, c1, c2, c3, c4, c5, c6, c7, c8, c9, c10, c11, c12, c13, c14, c15, c16, c17, c18, c19, c20, c21]) = true)
    : ∃ fd : FuncData, (∀ (s : Shared) (v : Value), BindsTo s fd ⟨[v], []⟩ [("script", v)]) ∧ ∀ base : Heap, K.In base → base.Ns mainGlobals mg → FnOk l.prog w K mg base CX0 8 fa fd ["script"] (sp_law K) := by
  have e := hfa.symm.trans (PySem.W.mg_of X G a_law)
  cases e
  have M : Bu0 mg := ⟨PySem.W.mg_none_of X G z_len, PySem.W.mg_none_of X G z_isinstance, PySem.W.mg_none_of X G z_max, PySem.W.mg_none_of X G z_min, PySem.W.mg_none_of X G z_int, PySem.W.mg_none_of X G z_bool, PySem.W.mg_none_of X G z_str, PySem.W.mg_none_of X G z_tuple, PySem.W.mg_none_of X G z_list, PySem.W.mg_none_of X G z_range⟩
  have KT := kit_of hB
  have N : Nms mg b (csOf [c0, c1, c2, c3, c4, c5, c6, c7, c8, c9, c10, c11, c12, c13, c14, c15, c16, c17, c18, c19, c20, c21]) := ⟨PySem.W.mg_of X G n0, PySem.W.mg_of X G n1, PySem.W.mg_of X G n2, PySem.W.mg_of X G n3, PySem.W.mg_of X G n4, PySem.W.mg_of X G n5, PySem.W.mg_of X G n6, PySem.W.mg_of X G n7, PySem.W.mg_of X G n8, PySem.W.mg_of X G n9, PySem.W.mg_of X G n10, PySem.W.mg_of X G n11, PySem.W.mg_of X G n12, PySem.W.mg_of X G n13, PySem.W.mg_of X G n14, PySem.W.mg_of X G n15, PySem.W.mg_of X G n16, PySem.W.mg_of X G n17, PySem.W.mg_of X G n18, PySem.W.mg_of X G n19, PySem.W.mg_of X G n20, PySem.W.mg_of X G n21, PySem.W.mg_of X G nb, PySem.W.mg_none_of X G z_ValueError⟩
  have F_law_deck := fun_mk (st := s_law_deck) l_law_deck c_law_deck k_law_deck
  have F_law_take := fun_mk (st := s_law_take) l_law_take c_law_take k_law_take
  have F_law_same := fun_mk (st := s_law_same) l_law_same c_law_same k_law_same
  have F_law_raise_first := fun_mk (st := s_law_raise_first) l_law_raise_first c_law_raise_first k_law_raise_first
  have F_law_raise_second := fun_mk (st := s_law_raise_second) l_law_raise_second c_law_raise_second k_law_raise_second
  have F_law_raise_named_first := fun_mk (st := s_law_raise_named_first) l_law_raise_named_first c_law_raise_named_first k_law_raise_named_first
  have F_law_raise_named_second := fun_mk (st := s_law_raise_named_second) l_law_raise_named_second c_law_raise_named_second k_law_raise_named_second
  have F_law_raised := fun_mk (st := s_law_raised) l_law_raised c_law_raised k_law_raised
  have F_law_kinds := fun_mk (st := s_law_kinds) l_law_kinds c_law_kinds k_law_kinds
  have F_law_given := fun_mk (st := s_law_given) l_law_given c_law_given k_law_given
  have F_law_right := fun_mk (st := s_law_right) l_law_right c_law_right k_law_right
  have F_law_base_right := fun_mk (st := s_law_base_right) l_law_base_right c_law_base_right k_law_base_right
  have F_law := fun_mk (st := s_law) l_law c_law k_law
  have F_init := fun_mk (st := s_init) l_init c_init k_init
  refine ⟨PySem.W.fnOf "law" "law" (defArgs s_law) (defBody s_law) (defScope s_law) .none kV_law dc_law pm_law an_law cd_law ct_law, fun s v => .of_eq rfl, fun base _ _ => ?_⟩
  have NI : Ini l.prog w K mg base 1 fI := ⟨⟨_, ok_init (P := l.prog) (w := w) (mg := mg) (base := base) F_init, F_init.binds (ps := ["self", "value"]) fun _ _ _ _ _ _ us hl => match us, hl with | [_, _], _ => rfl, fun s a v => .of_eq rfl⟩, t_init⟩
  have O_law_deck := deck_of (ok_law_deck (P := l.prog) (w := w) (base := base) F_law_deck M)
  have C_law_deck := cal_mk F_law_deck O_law_deck (PySem.W.mg_of X G a_law_deck) (F_law_deck.binds (ps := ["script", "k"]) fun _ _ _ _ _ _ us hl => match us, hl with | [_, _], _ => rfl)
  have O_law_take := take_of (ok_law_take (P := l.prog) (w := w) (base := base) F_law_take M)
  have C_law_take := cal_mk F_law_take O_law_take (PySem.W.mg_of X G a_law_take) (F_law_take.binds (ps := ["deck", "many"]) fun _ _ _ _ _ _ us hl => match us, hl with | [_, _], _ => rfl)
  have b_law_same := F_law_same.binds (ps := ["found", "due"]) fun _ _ _ _ _ _ us hl => match us, hl with | [_, _], _ => rfl
  have same_all : ∀ n : Nat, FnOk l.prog w K mg base CX0 n f_law_same (PySem.W.fnOf "_law_same" "_law_same" (defArgs s_law_same) (defBody s_law_same) (defScope s_law_same) .none kV_law_same dc_law_same pm_law_same an_law_same cd_law_same ct_law_same) ["found", "due"] (sp_law_same n K) := by
    intro n
    induction n with
    | zero =>
      have no : ∀ vs H Q E, ¬ sp_law_same 0 K vs H Q E := fun vs H Q E ⟨d, _, h, _⟩ => by cases h
      exact ⟨fun vs H Q E h => absurd h (no vs H Q E), fun A outer s H args us vs Q E _ _ _ _ h => absurd h (no vs H Q E)⟩
    | succ n ih => exact ok_law_same F_law_same M (cal_mk F_law_same ih (PySem.W.mg_of X G a_law_same) b_law_same)
  have C_law_same := cal_mk (P := l.prog) (w := w) (base := base) F_law_same (same_all 6) (PySem.W.mg_of X G a_law_same) b_law_same
  have O_law_raise_first := ok_law_raise_first (P := l.prog) (w := w) (base := base) F_law_raise_first M N KT NI
  have C_law_raise_first := calx_mk F_law_raise_first O_law_raise_first (PySem.W.mg_of X G a_law_raise_first) (F_law_raise_first.binds (ps := ["which", "given"]) fun _ _ _ _ _ _ us hl => match us, hl with | [_, _], _ => rfl)
  have O_law_raise_second := ok_law_raise_second (P := l.prog) (w := w) (base := base) F_law_raise_second M N KT NI
  have C_law_raise_second := calx_mk F_law_raise_second O_law_raise_second (PySem.W.mg_of X G a_law_raise_second) (F_law_raise_second.binds (ps := ["which", "given"]) fun _ _ _ _ _ _ us hl => match us, hl with | [_, _], _ => rfl)
  have O_law_raise_named_first := ok_law_raise_named_first (P := l.prog) (w := w) (base := base) F_law_raise_named_first M N KT NI
  have C_law_raise_named_first := calx_mk F_law_raise_named_first O_law_raise_named_first (PySem.W.mg_of X G a_law_raise_named_first) (F_law_raise_named_first.binds (ps := ["which", "given"]) fun _ _ _ _ _ _ us hl => match us, hl with | [_, _], _ => rfl)
  have O_law_raise_named_second := ok_law_raise_named_second (P := l.prog) (w := w) (base := base) F_law_raise_named_second M N KT NI
  have C_law_raise_named_second := calx_mk F_law_raise_named_second O_law_raise_named_second (PySem.W.mg_of X G a_law_raise_named_second) (F_law_raise_named_second.binds (ps := ["which", "given"]) fun _ _ _ _ _ _ us hl => match us, hl with | [_, _], _ => rfl)
  have O_law_raised := ok_law_raised (P := l.prog) (w := w) (base := base) F_law_raised M N KT NI C_law_raise_named_first C_law_raise_first C_law_raise_named_second C_law_raise_second
  have C_law_raised := calx_mk F_law_raised O_law_raised (PySem.W.mg_of X G a_law_raised) (F_law_raised.binds (ps := ["which", "given", "named"]) fun _ _ _ _ _ _ us hl => match us, hl with | [_, _, _], _ => rfl)
  have O_law_kinds := ok_law_kinds (P := l.prog) (w := w) (base := base) F_law_kinds M N KT NI
  have C_law_kinds := cal_mk F_law_kinds O_law_kinds (PySem.W.mg_of X G a_law_kinds) (F_law_kinds.binds (ps := ["e"]) fun _ _ _ _ _ _ us hl => match us, hl with | [_], _ => rfl)
  have O_law_given := ok_law_given (P := l.prog) (w := w) (base := base) F_law_given M N KT NI C_law_take
  have C_law_given := cal_mk F_law_given O_law_given (PySem.W.mg_of X G a_law_given) (F_law_given.binds (ps := ["deck"]) fun _ _ _ _ _ _ us hl => match us, hl with | [_], _ => rfl)
  have O_law_right := ok_law_right (P := l.prog) (w := w) (base := base) F_law_right M N KT NI C_law_raised C_law_same C_law_kinds
  have C_law_right := cal_mk F_law_right O_law_right (PySem.W.mg_of X G a_law_right) (F_law_right.binds (ps := ["which", "given", "named"]) fun _ _ _ _ _ _ us hl => match us, hl with | [_, _, _], _ => rfl)
  have O_law_base_right := ok_law_base_right (P := l.prog) (w := w) (base := base) F_law_base_right M N KT NI C_law_same C_law_kinds
  have C_law_base_right := cal_mk F_law_base_right O_law_base_right (PySem.W.mg_of X G a_law_base_right) (F_law_base_right.binds (ps := ["given"]) fun _ _ _ _ _ _ us hl => match us, hl with | [_], _ => rfl)
  exact ok_law (P := l.prog) (w := w) (base := base) F_law M N KT NI C_law_deck C_law_take C_law_given C_law_raised C_law_right C_law_base_right C_law_same
theorem walk {l : PySem.W.OpenLaw} {q : Program} {loose : List Str} {XP : (Str → Option Value) → Heap → Prop} {YP : World → Heap → Prop} {d : DefRec} {K : Params → PySem.W.Frag} (hn : l.most = some 63) (hdf : d.params.defaults = [])
    (hY : ∀ (w : World) (h : Heap), YP w h → (K w.params).In h)
    (F : ∀ (w : World) (mg : Str → Option Value) (fa : Addr) (h : Heap), (K w.params).In h → h.Ns mainGlobals mg → mg d.name = some (.ref fa) →
      ∃ fd : FuncData, (∀ (s : Shared) (u : Value), BindsTo s fd ⟨[u], []⟩ [("script", u)]) ∧ ∀ base : Heap, (K w.params).In base → base.Ns mainGlobals mg → FnOk l.prog w (K w.params) mg base CX0 8 fa fd ["script"] (sp_law (K w.params))) :
    PySem.W.WalkO q loose XP YP l.row.toRowW d [] (fun f vs => PySem.call f vs) :=
  L2.walk_of (n := 63) (k := 8) (x := "script") (CX := fun _ => CX0) (sp := fun w => sp_law (K w.params)) hn (by decide) hdf ⟨rfl, by decide, by decide⟩ hY F (fun _ _ a ns hl _ hS => ⟨a, ns, rfl, hS, hl, fun _ => rfl⟩) fun _ _ _ _ _ z => z
end Sk

open PySem PySem.W PyProof.Rows
set_option maxRecDepth 100000 in
set_option maxHeartbeats 0 in
theorem PySem.Challenge.cw_selfkits_k00_errors_holds : PySem.Challenge.rw_selfkits_k00_errors.Holds := by
  w_on; o_law; k_head; (case hw => w_witness2)
  k_fill
  refine Sk.walk (l := PySem.Challenge.rw_selfkits_k00_errors) rfl rfl (fun w h Y => PySem.W.kIn_of Y) ?F
  case F =>
    intro w mg fa h KX G hmg
    refine' Sk.all_mk KX G hmg ?a_law_deck ?l_law_deck ?c_law_deck ?k_law_deck ?a_law_take ?l_law_take ?c_law_take ?k_law_take ?a_law_same ?l_law_same ?c_law_same ?k_law_same ?a_law_raise_first ?l_law_raise_first ?c_law_raise_first ?k_law_raise_first ?a_law_raise_second ?l_law_raise_second ?c_law_raise_second ?k_law_raise_second ?a_law_raise_named_first ?l_law_raise_named_first ?c_law_raise_named_first ?k_law_raise_named_first ?a_law_raise_named_second ?l_law_raise_named_second ?c_law_raise_named_second ?k_law_raise_named_second ?a_law_raised ?l_law_raised ?c_law_raised ?k_law_raised ?a_law_kinds ?l_law_kinds ?c_law_kinds ?k_law_kinds ?a_law_given ?l_law_given ?c_law_given ?k_law_given ?a_law_right ?l_law_right ?c_law_right ?k_law_right ?a_law_base_right ?l_law_base_right ?c_law_base_right ?k_law_base_right ?a_law ?l_law ?c_law ?k_law ?z_len ?z_isinstance ?z_max ?z_min ?z_int ?z_bool ?z_str ?z_tuple ?z_list ?z_range ?z_ValueError ?n0 ?n1 ?n2 ?n3 ?n4 ?n5 ?n6 ?n7 ?n8 ?n9 ?n10 ?n11 ?n12 ?n13 ?n14 ?n15 ?n16 ?n17 ?n18 ?n19 ?n20 ?n21 ?nb ?ib ?l_init ?c_init ?k_init ?t_init ?hB
    (case a_law_deck => k_is)
    (case l_law_deck => k_is)
    (case c_law_deck => k_is)
    (case k_law_deck => k_is)
    (case a_law_take => k_is)
    (case l_law_take => k_is)
    (case c_law_take => k_is)
    (case k_law_take => k_is)
    (case a_law_same => k_is)
    (case l_law_same => k_is)
    (case c_law_same => k_is)
    (case k_law_same => k_is)
    (case a_law_raise_first => k_is)
    (case l_law_raise_first => k_is)
    (case c_law_raise_first => k_is)
    (case k_law_raise_first => k_is)
    (case a_law_raise_second => k_is)
    (case l_law_raise_second => k_is)
    (case c_law_raise_second => k_is)
    (case k_law_raise_second => k_is)
    (case a_law_raise_named_first => k_is)
    (case l_law_raise_named_first => k_is)
    (case c_law_raise_named_first => k_is)
    (case k_law_raise_named_first => k_is)
    (case a_law_raise_named_second => k_is)
    (case l_law_raise_named_second => k_is)
    (case c_law_raise_named_second => k_is)
    (case k_law_raise_named_second => k_is)
    (case a_law_raised => k_is)
    (case l_law_raised => k_is)
    (case c_law_raised => k_is)
    (case k_law_raised => k_is)
    (case a_law_kinds => k_is)
    (case l_law_kinds => k_is)
    (case c_law_kinds => k_is)
    (case k_law_kinds => k_is)
    (case a_law_given => k_is)
    (case l_law_given => k_is)
    (case c_law_given => k_is)
    (case k_law_given => k_is)
    (case a_law_right => k_is)
    (case l_law_right => k_is)
    (case c_law_right => k_is)
    (case k_law_right => k_is)
    (case a_law_base_right => k_is)
    (case l_law_base_right => k_is)
    (case c_law_base_right => k_is)
    (case k_law_base_right => k_is)
    (case a_law => k_is)
    (case l_law => k_is)
    (case c_law => k_is)
    (case k_law => k_is)
    (case z_len => k_is)
    (case z_isinstance => k_is)
    (case z_max => k_is)
    (case z_min => k_is)
    (case z_int => k_is)
    (case z_bool => k_is)
    (case z_str => k_is)
    (case z_tuple => k_is)
    (case z_list => k_is)
    (case z_range => k_is)
    (case z_ValueError => k_is)
    (case n0 => k_is)
    (case n1 => k_is)
    (case n2 => k_is)
    (case n3 => k_is)
    (case n4 => k_is)
    (case n5 => k_is)
    (case n6 => k_is)
    (case n7 => k_is)
    (case n8 => k_is)
    (case n9 => k_is)
    (case n10 => k_is)
    (case n11 => k_is)
    (case n12 => k_is)
    (case n13 => k_is)
    (case n14 => k_is)
    (case n15 => k_is)
    (case n16 => k_is)
    (case n17 => k_is)
    (case n18 => k_is)
    (case n19 => k_is)
    (case n20 => k_is)
    (case n21 => k_is)
    (case nb => k_is)
    (case ib => k_is)
    (case l_init => k_is)
    (case c_init => k_is)
    (case k_init => k_is)
    (case t_init => k_is)
    (case hB => first | kernel_rfl | decide +kernel)
#print axioms PySem.Challenge.cw_selfkits_k00_errors_holds

