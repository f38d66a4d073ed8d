import PyProof.Rows.All
import Wide.All
import OpenK.AllK
import Wide.FinOn
import HandS.ForExc
import HandS.Comp
import HandS.Evl
import HandS.Wide
import HandS.WideBits
import HandS.Gcd
import HandS.IsInst
import HandS.RevRange
import HandS.Conv
import HandS.TupAny
import HandS.SetFor
import HandS.Flow
import PySem.Challenge.RW_selfkits_k01_whole_tables
set_option Elab.async false
set_option linter.all false
set_option maxRecDepth 100000
namespace Sk
set_option maxHeartbeats 2000000
open PySem PySem.Spec PyProof.Rows L2
abbrev St := L2.St
open Evl (Ex ex_l ex_t)

/-! ### data in a heap that grows -/
mutual
theorem dp_ex {K : PySem.W.Frag} {H H' : Hp} (e : Ex H H') : ∀ (d : PyData) (v : V), Dp K H v d → Dp K H' v d
  | .none, _, h => by cases h; exact .non
  | .bool b, _, h => by cases h; exact .bl b
  | .int i, _, h => by cases h; exact .int i
  | .str x, _, h => by cases h; exact .str x
  | .list ds, _, h => by
    cases h with
    | lst hs ha => exact .lst (ex_l e hs) (dpa_ex e ds _ ha)
  | .tuple ds, _, h => by
    cases h with
    | tup hs ha => exact .tup (ex_t e hs) (dpa_ex e ds _ ha)
  | .dict _, _, h => by cases h
theorem dpa_ex {K : PySem.W.Frag} {H H' : Hp} (e : Ex H H') : ∀ (ds : List PyData) (vs : List V), DpAll K H vs ds → DpAll K H' vs ds
  | [], _, h => by cases h; exact .nil
  | d :: ds, _, h => by
    cases h with
    | cons h1 h2 => exact .cons (dp_ex e d _ h1) (dpa_ex e ds _ h2)
end
section
variable {K : PySem.W.Frag} {H H' : Hp} {v : V} {d : PyData} {ds : List PyData} {vs : List V} {p : Addr} {o : HO}
theorem Dp.up (e : Ex H H') (h : Dp K H v d) : Dp K H' v d := dp_ex e d v h
theorem DpAll.up (e : Ex H H') (h : DpAll K H vs ds) : DpAll K H' vs ds := dpa_ex e ds vs h
theorem at_up (e : Ex H H') (h : H p = some o) : H' p = some o := e p o h
theorem tup_inv (h : Dp K H v (.tuple ds)) : ∃ p xs, v = .ref p ∧ SqT K H p xs ∧ DpAll K H xs ds := by
  cases h with
  | tup hs ha => exact ⟨_, _, rfl, hs, ha⟩
theorem lst_inv (h : Dp K H v (.list ds)) : ∃ p xs, v = .ref p ∧ SqL K H p xs ∧ DpAll K H xs ds := by
  cases h with
  | lst hs ha => exact ⟨_, _, rfl, hs, ha⟩
theorem int_inv {i : Int} (h : Dp K H v (.int i)) : v = .int i := by cases h; rfl
theorem bl_inv {b : Bool} (h : Dp K H v (.bool b)) : v = .bl b := by cases h; rfl
theorem non_inv (h : Dp K H v .none) : v = .non := by cases h; rfl
theorem str_inv {x : Str} (h : Dp K H v (.str x)) : v = .str x := by cases h; rfl
theorem dpa_len : ∀ {vs : List V} {ds : List PyData}, DpAll K H vs ds → vs.length = ds.length
  | _, _, .nil => rfl
  | _, _, .cons _ t => by rw [List.length_cons, List.length_cons, dpa_len t]
theorem dpa_at : ∀ {vs : List V} {ds : List PyData} {i : Nat} {d : PyData}, DpAll K H vs ds → ds[i]? = some d → ∃ v, vs[i]? = some v ∧ Dp K H v d
  | _, _, _, _, .nil, h => by simp at h
  | _, _, 0, _, .cons r _, h => by simp at h; subst h; exact ⟨_, rfl, r⟩
  | _, _, i + 1, d, .cons _ t, h => by
    obtain ⟨v, h1, h2⟩ := dpa_at (i := i) (d := d) t (by simpa using h)
    exact ⟨v, by simpa using h1, h2⟩
theorem dpa_atI {i : Int} (h : DpAll K H vs ds) (e : atI ds i = some d) : ∃ v, atI vs i = some v ∧ Dp K H v d := by
  unfold atI at e ⊢
  rw [dpa_len h]
  cases q : ixN ds.length i with
  | none => rw [q] at e; cases e
  | some j =>
    rw [q] at e
    obtain ⟨v, h1, h2⟩ := dpa_at h (show ds[j]? = some d from e)
    exact ⟨v, h1, h2⟩
theorem dpa_ints : ∀ (ns : List Int), DpAll K H (ns.map V.int) (ns.map PyData.int)
  | [] => .nil
  | n :: ns => .cons (.int n) (dpa_ints ns)
end
/-- a tuple without a dict of its own -/
def Pl (K : PySem.W.Frag) (H : Hp) (a : Addr) : Prop := (∃ o u, H a = some (.frz o u) ∧ o.dict = none) ∨ (∃ o, K.lookup a = some o ∧ o.dict = none)
def TupAt (K : PySem.W.Frag) (H : Hp) (a : Addr) (xs : List V) : Prop := SqT K H a xs ∧ Pl K H a
theorem TupAt.up {K : PySem.W.Frag} {H H' : Hp} {a : Addr} {xs : List V} (e : Ex H H') (h : TupAt K H a xs) : TupAt K H' a xs := by
  obtain ⟨h1, h2⟩ := h
  refine ⟨ex_t e h1, ?_⟩
  rcases h2 with ⟨o, u, q, r⟩ | q
  · exact .inl ⟨o, u, e _ _ q, r⟩
  · exact .inr q
mutual
inductive Dq (K : PySem.W.Frag) (H : Hp) : V → PyData → Prop
  | non : Dq K H .non .none
  | bl (b : Bool) : Dq K H (.bl b) (.bool b)
  | int (i : Int) : Dq K H (.int i) (.int i)
  | str (x : Str) : Dq K H (.str x) (.str x)
  | lst {a : Addr} {xs : List V} {ds : List PyData} : SqL K H a xs → DqAll K H xs ds → Dq K H (.ref a) (.list ds)
  | tup {a : Addr} {xs : List V} {ds : List PyData} : TupAt K H a xs → DqAll K H xs ds → Dq K H (.ref a) (.tuple ds)
inductive DqAll (K : PySem.W.Frag) (H : Hp) : List V → List PyData → Prop
  | nil : DqAll K H [] []
  | cons {v : V} {vs : List V} {d : PyData} {ds : List PyData} : Dq K H v d → DqAll K H vs ds → DqAll K H (v :: vs) (d :: ds)
end
mutual
theorem dq_ex {K : PySem.W.Frag} {H H' : Hp} (e : Ex H H') : ∀ (d : PyData) (v : V), Dq K H v d → Dq K H' v d
  | .none, _, h => by cases h; exact .non
  | .bool b, _, h => by cases h; exact .bl b
  | .int i, _, h => by cases h; exact .int i
  | .str x, _, h => by cases h; exact .str x
  | .list ds, _, h => by
    cases h with
    | lst hs ha => exact .lst (ex_l e hs) (dqa_ex e ds _ ha)
  | .tuple ds, _, h => by
    cases h with
    | tup hs ha => exact .tup (hs.up e) (dqa_ex e ds _ ha)
  | .dict _, _, h => by cases h
theorem dqa_ex {K : PySem.W.Frag} {H H' : Hp} (e : Ex H H') : ∀ (ds : List PyData) (vs : List V), DqAll K H vs ds → DqAll K H' vs ds
  | [], _, h => by cases h; exact .nil
  | d :: ds, _, h => by
    cases h with
    | cons h1 h2 => exact .cons (dq_ex e d _ h1) (dqa_ex e ds _ h2)
end
mutual
theorem dq_dp {K : PySem.W.Frag} {H : Hp} : ∀ (d : PyData) (v : V), Dq K H v d → Dp K H v d
  | .none, _, h => by cases h; exact .non
  | .bool b, _, h => by cases h; exact .bl b
  | .int i, _, h => by cases h; exact .int i
  | .str x, _, h => by cases h; exact .str x
  | .list ds, _, h => by
    cases h with
    | lst hs ha => exact .lst hs (dqa_dpa ds _ ha)
  | .tuple ds, _, h => by
    cases h with
    | tup hs ha => exact .tup hs.1 (dqa_dpa ds _ ha)
  | .dict _, _, h => by cases h
theorem dqa_dpa {K : PySem.W.Frag} {H : Hp} : ∀ (ds : List PyData) (vs : List V), DqAll K H vs ds → DpAll K H vs ds
  | [], _, h => by cases h; exact .nil
  | d :: ds, _, h => by
    cases h with
    | cons h1 h2 => exact .cons (dq_dp d _ h1) (dqa_dpa ds _ h2)
end
section
variable {K : PySem.W.Frag} {H H' : Hp} {v : V} {d : PyData} {ds : List PyData} {vs : List V} {p : Addr} {o : HO}
theorem Dq.up (e : Ex H H') (h : Dq K H v d) : Dq K H' v d := dq_ex e d v h
theorem DqAll.up (e : Ex H H') (h : DqAll K H vs ds) : DqAll K H' vs ds := dqa_ex e ds vs h
theorem Dq.dp (h : Dq K H v d) : Dp K H v d := dq_dp d v h
theorem DqAll.dp (h : DqAll K H vs ds) : DpAll K H vs ds := dqa_dpa ds vs h
theorem qtup_inv (h : Dq K H v (.tuple ds)) : ∃ p xs, v = .ref p ∧ TupAt K H p xs ∧ DqAll K H xs ds := by
  cases h with
  | tup hs ha => exact ⟨_, _, rfl, hs, ha⟩
theorem qlst_inv (h : Dq K H v (.list ds)) : ∃ p xs, v = .ref p ∧ SqL K H p xs ∧ DqAll K H xs ds := by
  cases h with
  | lst hs ha => exact ⟨_, _, rfl, hs, ha⟩
theorem qint_inv {i : Int} (h : Dq K H v (.int i)) : v = .int i := int_inv h.dp
theorem qbl_inv {b : Bool} (h : Dq K H v (.bool b)) : v = .bl b := bl_inv h.dp
theorem dqa_at : ∀ {vs : List V} {ds : List PyData} {i : Nat} {d : PyData}, DqAll K H vs ds → ds[i]? = some d → ∃ v, vs[i]? = some v ∧ Dq K H v d
  | _, _, _, _, .nil, h => by simp at h
  | _, _, 0, _, .cons r _, h => by simp at h; subst h; exact ⟨_, rfl, r⟩
  | _, _, i + 1, d, .cons _ t, h => by
    obtain ⟨v, h1, h2⟩ := dqa_at (i := i) (d := d) t (by simpa using h)
    exact ⟨v, by simpa using h1, h2⟩
theorem dqa_atI {i : Int} (h : DqAll K H vs ds) (e : atI ds i = some d) : ∃ v, atI vs i = some v ∧ Dq K H v d := by
  unfold atI at e ⊢
  rw [dpa_len h.dp]
  cases q : ixN ds.length i with
  | none => rw [q] at e; cases e
  | some j =>
    rw [q] at e
    obtain ⟨v, h1, h2⟩ := dqa_at h (show ds[j]? = some d from e)
    exact ⟨v, h1, h2⟩
theorem dqa_ints : ∀ (ns : List Int), DqAll K H (ns.map V.int) (ns.map PyData.int)
  | [] => .nil
  | n :: ns => .cons (.int n) (dqa_ints ns)
end
def pr (a b : Int) : PyData := .tuple [.int a, .int b]
def tb (a b c d : Int) : PyData := .tuple [.tuple [.int a, .int b], .tuple [.int c, .int d]]

/-! ### the deck: a list of two ints that draws change -/
def DeckH (a : Addr) (h : Heap) : Prop := ∃ (x s : Int) (t u : Tok) (n : Nat), h.get? a = some { cls := .type "list", data := .seq #[.int x t, .int s u] n } ∧ 0 ≤ s ∧ s < 2 ^ 64
def DeckO (a : Addr) : HO := .ext (DeckH a)
def DeckAt (H : Hp) (a : Addr) : Prop := H a = some (DeckO a)
section
variable {P : Program} {w : World} {K : PySem.W.Frag} {mg : Str → Option Value} {base : Heap} {k : Nat} {f : Addr} {fd : FuncData} {ps : List Str}
theorem deck_ok {H : Hp} {h : Heap} {a : Addr} {xs : List V} {x s : Int} (e : xs = [.int x, .int s]) (hk : ObjOk P w H h a (.lst xs)) (h0 : 0 ≤ s) (h1 : s < 2 ^ 64) {H' : Hp} : ObjOk P w H' h a (DeckO a) := by
  subst e
  obtain ⟨_, its, n, r, g⟩ := hk
  cases r with
  | cons r1 r2 =>
    obtain ⟨t, rfl⟩ := r1
    cases r2 with
    | cons r3 r4 =>
      obtain ⟨u, rfl⟩ := r3
      cases r4
      exact ⟨⟨x, s, t, u, n, g, h0, h1⟩, ⟨_, g⟩, fun g1 g2 ⟨x', s', t', u', n', e1, b0, b1⟩ q => ⟨x', s', t', u', n', q _ e1, b0, b1⟩⟩
theorem deck_lst {H : Hp} {h : Heap} {a : Addr} (hk : ObjOk P w H h a (DeckO a)) : ∃ x s : Int, 0 ≤ s ∧ s < 2 ^ 64 ∧ ∀ H', ObjOk P w H' h a (.lst [.int x, .int s]) := by
  obtain ⟨⟨x, s, t, u, n, g, h0, h1⟩, _, _⟩ := hk
  exact ⟨x, s, h0, h1, fun H' => ⟨by show 2 ≤ sizeLine; decide, _, n, .cons ⟨t, rfl⟩ (.cons ⟨u, rfl⟩ .nil), g⟩⟩
theorem hok_swap {H : Hp} {h : Heap} {a : Addr} {o o' : HO} (hk : HOk P w H h) (ha : H a = some o) (d1 : ∀ b, o ≠ .own b) (d2 : ∀ xs, o ≠ .tup xs) (n : ObjOk P w (upd H a o') h a o') : HOk P w (upd H a o') h := fun b u e => by
  by_cases hb : b = a
  · subst hb
    rw [upd_same] at e
    cases e
    exact n
  · rw [upd_ne hb] at e
    refine (hk b u e).stay (fun c v _ q => q) (fun c q => ?_) fun c xs q => ?_
    · rw [upd_ne]
      · exact q
      · rintro rfl
        rw [ha] at q
        cases q
        exact d1 _ rfl
    · rw [upd_ne]
      · exact q
      · rintro rfl
        rw [ha] at q
        cases q
        exact d2 _ rfl
/-- a def that is handed a deck, over the two ints in it -/
theorem deck_in {sp spL : Sp} (F : FnOk P w K mg base CX0 k f fd ps spL)
    (h : ∀ vs H Q E, sp vs H Q E → ∃ a, DeckAt H a ∧ ∀ x s : Int, 0 ≤ s → s < 2 ^ 64 →
      spL vs (upd H a (.lst [.int x, .int s])) (fun v H' => ∃ x' s' : Int, H' a = some (.lst [.int x', .int s']) ∧ 0 ≤ s' ∧ s' < 2 ^ 64 ∧ Q v (upd H' a (DeckO a))) E) : FnOk P w K mg base CX0 k f fd ps sp := by
  refine ⟨fun vs H Q E q => ?_, fun A outer s H args us vs Q E hr e0 hb r hs => ?_⟩
  · obtain ⟨a, _, g⟩ := h vs H Q E q
    exact F.len _ _ _ _ (g 0 0 (by decide) (by decide))
  · obtain ⟨a, ha, g⟩ := h vs H Q E hs
    have ha' : H a = some (DeckO a) := ha
    obtain ⟨x, z, h0, h1, ho⟩ := deck_lst (e0.hok a _ ha')
    have hn : ∀ b, H b = none → b ≠ a := fun b e z => by subst z; rw [ha'] at e; cases e
    have e1 : Env0 P w K mg base A outer s (upd H a (.lst [.int x, .int z])) := by
      refine ⟨e0.frames, e0.mod, fun b o e => ⟨(e0.bs b o e).1, ?_⟩, e0.bsz, e0.funs, fun b e => ?_, hok_swap e0.hok ha' (fun _ q => HO.noConfusion q) (fun _ q => HO.noConfusion q) (ho _), e0.bare⟩
      · rw [upd_ne (hn b (e0.bs b o e).2)]; exact (e0.bs b o e).2
      · rw [upd_ne (hn b (e0.frf b e))]; exact e0.frf b e
    refine codeAny_mono (F.run A outer s _ args us vs _ E hr e1 hb r (g x z h0 h1)) fun r s' hq => ?_
    cases r with
    | error e => exact hq
    | ok fl =>
      cases fl with
      | next => exact hq
      | brk => exact hq
      | cont => exact hq
      | ret u =>
        obtain ⟨v, H', os, bare, un, hok, rv, x', z', hl, b0, b1, q⟩ := hq
        refine ⟨v, upd H' a (DeckO a), os, bare, ⟨fun b o e n hf hx => ?_, fun b o e n hf hx => ?_, fun b o e n hx => ?_, un.there, fun b xs e => ?_, fun b o u e => ?_, fun b ps e => ?_⟩, hok_swap hok hl (fun _ q => HO.noConfusion q) (fun _ q => HO.noConfusion q) (deck_ok rfl (hok a _ hl) b0 b1), rv, q⟩
        · exact un.keep b o e (by rw [upd_ne (hn b n)]; exact n) hf hx
        · exact un.slot b o e (by rw [upd_ne (hn b n)]; exact n) hf hx
        · rw [upd_ne (hn b n)]; exact un.free b o e (by rw [upd_ne (hn b n)]; exact n) hx
        · have ne : b ≠ a := fun z => by subst z; rw [ha'] at e; cases e
          rw [upd_ne ne]; exact un.tups b xs (by rw [upd_ne ne]; exact e)
        · have ne : b ≠ a := fun z => by subst z; rw [ha'] at e; cases e
          rw [upd_ne ne]; exact un.frzs b o u (by rw [upd_ne ne]; exact e)
        · have ne : b ≠ a := fun z => by subst z; rw [ha'] at e; cases e
          obtain ⟨m, q2⟩ := un.tbls b ps (by rw [upd_ne ne]; exact e)
          exact ⟨m, by rw [upd_ne ne]; exact q2⟩
/-- a def that makes a deck -/
theorem deck_out {sp spL : Sp} (F : FnOk P w K mg base CX0 k f fd ps spL)
    (h : ∀ vs H Q E, sp vs H Q E → spL vs H (fun v H' => ∃ (a : Addr) (x s : Int), v = .ref a ∧ H a = none ∧ H' a = some (.lst [.int x, .int s]) ∧ 0 ≤ s ∧ s < 2 ^ 64 ∧ Q v (upd H' a (DeckO a))) E) : FnOk P w K mg base CX0 k f fd ps sp := by
  refine ⟨fun vs H Q E q => F.len _ _ _ _ (h vs H Q E q), fun A outer s H args us vs Q E hr e0 hb r hs => ?_⟩
  refine codeAny_mono (F.run A outer s _ args us vs _ E hr e0 hb r (h vs H Q E hs)) fun r s' hq => ?_
  cases r with
  | error e => exact hq
  | ok fl =>
    cases fl with
    | next => exact hq
    | brk => exact hq
    | cont => exact hq
    | ret u =>
      obtain ⟨v, H', os, bare, un, hok, rv, a, x', z', ev, hn, hl, b0, b1, q⟩ := hq
      refine ⟨v, upd H' a (DeckO a), os, bare, ⟨un.keep, un.slot, fun b o e n hx => ?_, un.there, fun b xs e => ?_, fun b o u e => ?_, fun b ps e => ?_⟩, hok_swap hok hl (fun _ q => HO.noConfusion q) (fun _ q => HO.noConfusion q) (deck_ok rfl (hok a _ hl) b0 b1), rv, q⟩
      · have q1 := un.free b o e n hx
        rw [upd_ne (fun z => by subst z; rw [hl] at q1; cases q1)]; exact q1
      · rw [upd_ne (ne_of_none e hn)]; exact un.tups b xs e
      · rw [upd_ne (ne_of_none e hn)]; exact un.frzs b o u e
      · rw [upd_ne (ne_of_none e hn)]; exact un.tbls b ps e
end

/-! ### rules that the layer lacks -/
section
variable {X : Cx}
theorem OpR.or {f : Value → Value → Sem Value} {r r' : R2} (h : OpR X f r) (h' : OpR X f r') : OpR X f (fun x y H Q => r x y H Q ∨ r' x y H Q) := fun pins s σ H x y v u Q I rx ry q => by
  rcases q with q | q
  · exact h pins s σ H x y v u Q I rx ry q
  · exact h' pins s σ H x y v u Q I rx ry q
/-- + of ints, lists, tuples -/
def rAddU (K : PySem.W.Frag) : R2 := fun x y H Q => rI0 (fun i j => .int (i + j)) x y H Q ∨ (rCat x y H Q ∨ rCatA K x y H Q)
theorem op_addU : OpR X (binaryOp .Add) (rAddU X.K) := OpR.or op_add (OpR.or op_cat op_catA)
def rMulU : R2 := fun x y H Q => rI CMulX (fun i j => .int (i * j)) x y H Q ∨ rRep x y H Q
theorem op_mulU : OpR X (binaryOp .Mult) rMulU := OpR.or op_mulX op_rep
def CDivZ (_ j : Int) : Prop := j ≠ 0 ∧ j.natAbs.log2 < 9000
theorem op_fdivZ : OpR X (binaryOp .FloorDiv) (rI CDivZ fun i j => .int (i.fdiv j)) := opI fun i j _ _ _ _ _ hc q => floordiv_int hc.1 q (.inl (PyProof.noPylong_of_log2 hc.2))
def rEqU (K : PySem.W.Frag) : R2 := fun x y H Q => rEq x y H Q ∨ rEqD K x y H Q
theorem op_eqU (hu : X.A.units + 64 < cLine) : OpR X (compareOp .Eq) (rEqU X.K) := OpR.or op_eq (op_eqD hu)
def rNeU (K : PySem.W.Frag) : R2 := fun x y H Q => rNe x y H Q ∨ rNeD K x y H Q
theorem op_neU (hu : X.A.units + 64 < cLine) : OpR X (compareOp .NotEq) (rNeU X.K) := OpR.or op_ne (op_neD hu)
/-- int(n) of an int -/
def rInt : List V → Hp → VK → Prop := fun xs H Q => ∃ i, xs = [.int i] ∧ Q (.int i) H
theorem call_intU : CallR X (.type "int") rInt := by
  intro pins s σ H vs us Q I r h
  obtain ⟨i, rfl, q⟩ := h
  obtain ⟨u, rfl, rx⟩ := vals1 r
  obtain ⟨t, rfl⟩ := rx
  exact call_int_int ⟨.int i, H, I, ⟨t, rfl⟩, q⟩
/-- slices of tuples, of lists -/
def rSlU (K : PySem.W.Frag) : V → Option Int → Option Int → Hp → VK → Prop := fun x lo hi H Q => rSlA K x lo hi H Q ∨ rSlL K x lo hi H Q
theorem sl_U : SlR X (rSlU X.K) := SlR.or sl_tupA sl_list

/-- a display: the tuple's object is known to have no dict -/
def tTupF (_ : PySem.W.Frag) (t : TA) : TE := fun σ H Q => t σ H fun xs H1 => xs.length ≤ sizeLine ∧ ∀ (p : Addr) (o : Obj), H1 p = none → o.dict = none → Q (.ref p) (upd H1 p (.frz o (.tup xs)))
theorem pe_tupF {es : List Expr} {t : TA} {x1} {pos : Pos} (h : PA X es t) : PE X (.Tuple es x1 pos) (tTupF X.K t) := by
  refine ⟨fun pins s σ H Q I hq => ?_⟩
  refine wpAny_Tuple_spliced (thn (h.run pos pins s σ H _ I hq) fun us s1 ⟨xs, H1, I1, r, z, q⟩ => ⟨by rw [← r.length]; exact z, ?_⟩)
  have hf : H1 s1.heap.objs.size = none := I1.hok.fresh (Nat.le_refl _)
  refine ⟨.ref s1.heap.objs.size, upd H1 s1.heap.objs.size (.frz { cls := .type "tuple", data := .seq us.toArray } (.tup xs)), I1.laid (t' := s1.toks) (fun b u e => Heap.get?_push_of_some _ e) (Nat.le_refl _) ?_, rfl, q _ _ hf rfl⟩
  exact ⟨Heap.get?_push_size _ rfl, z, us, r, ⟨_, Heap.get?_push_size _ rfl, rfl, _, rfl⟩⟩
def tLstU (_ : PySem.W.Frag) (t : TA) : TE := tLst t
theorem pe_lstU {es : List Expr} {t : TA} {pos : Pos} (h : PA X es t) : PE X (.List es pos) (tLstU X.K t) := pe_lst h
/-- tuple(x) of a list -/
def kTupF (K : PySem.W.Frag) (x : V) (H : Hp) (Q : VK) : Prop := ∃ p xs, x = .ref p ∧ SqL K H p xs ∧ ∀ (q : Addr) (o : Obj), H q = none → o.dict = none → Q (.ref q) (upd H q (.frz o (.tup xs)))
theorem pe_tupleF {a : Expr} {ta : TE} {p pos : Pos} (hg : Gl X "tuple") (hm : X.mg "tuple" = none) (ha : PE X a ta) (na : starEach [a] X.env = (false, eval a X.env) :: starEach [] X.env := by rfl) :
    PE X (.Call (.Name "tuple" p) [a] [] pos) (tThen ta (kTupF X.K)) := by
  refine ⟨fun pins s σ H Q I h => ?_⟩
  refine Call_ (ld_blt I hg hm boot_tuple (PyProof.Rows.callWith_type1 (one_arg ha I h (fun v s2 x H2 I2 r q => ?_) na) na))
  obtain ⟨p, xs, rfl, hs, q⟩ := q
  obtain rfl : v = .ref p := r
  obtain ⟨its, rv, pl, hz⟩ := I2.list hs
  refine call_tuple_list pl.isList (fun h' hk => ?_) (by rw [List.size_toArray, ← rv.length]; exact hz)
  have I3 : Inv X pins σ H2 { s2 with heap := h' } := I2.kept (t' := s2.toks) hk
  have I4 : Inv X pins σ (upd H2 h'.objs.size (.frz { cls := .type "tuple", data := .seq its.toArray } (.tup xs))) { s2 with heap := h'.push { cls := .type "tuple", data := .seq its.toArray } } :=
    I3.laid (t' := s2.toks) (fun b o e => Heap.get?_push_of_some _ e) (Nat.le_refl _) ⟨Heap.get?_push_size _ rfl, hz, its, rv, IsTup.new _ _⟩
  exact ⟨.ref h'.objs.size, _, I4, rfl, q _ _ (I3.hok.fresh (Nat.le_refl _)) rfl⟩
/-- t.count(k), t a tuple of ints -/
def tCnt (K : PySem.W.Frag) (to : TE) (t : TA) : TE := fun σ H Q => to σ H fun x H1 => ∃ (p : Addr) (ns : List Int), x = .ref p ∧ TupAt K H1 p (ns.map V.int) ∧ t σ H1 fun xs H2 => ∃ k, xs = [.int k] ∧ TupAt K H2 p (ns.map V.int) ∧ Q (.int (ns.count k : Nat)) H2
theorem inv_pl {pins : List (Addr × Obj)} {σ : L2.St} {H : Hp} {s : Shared} {a : Addr} (I : L2.Inv X pins σ H s) (h : Pl X.K H a) : ∃ o, s.heap.get? a = some o ∧ o.dict = none := by
  rcases h with ⟨o, u, e, d⟩ | ⟨o, e, d⟩
  · exact ⟨o, (I.hok _ _ e).1, d⟩
  · exact ⟨o, I.kIn _ o e, d⟩
theorem mt_tcount {pins : List (Addr × Obj)} {σ : L2.St} {H : Hp} {s : Shared} {p : Addr} {ns : List Int} {k : Int} {u : Value} {Q : VK} (I : Inv X pins σ H s) (hs : SqT X.K H p (ns.map V.int)) (ru : RelV (.int k) u) (q : Q (.int (ns.count k : Nat)) H) :
    wpAny (model X.prog X.w) X.A (call (.builtin "tuple.count") [.ref p, u]) (EP X pins σ Q) X.xe s := by
  obtain ⟨t, rfl⟩ := ru
  obtain ⟨its, rv, ⟨⟨cls, dd, data, sl⟩, ho, hc, n, hd⟩, hlen⟩ := I.tuple hs
  simp only at hc hd
  subst hc hd
  have hi := ints_of_vals rv
  refine call_meets PySem.F.slot_tuple_count ⟨_, ho, rfl⟩ PySem.F.entry_tuple_count (PySem.F.args_tuple_count_2 _ _)
    (SeqAt.tuple_countAt p its.toArray n dd sl (.int k t) (eqk k)) ⟨ho, fun y hy => (eqk_gives hi y (by simpa using hy)).at _ _, ?_⟩
  have ec : its.toArray.toList.countP (eqk k) = ns.count k := eqk_count hi
  refine ⟨.int (ns.count k : Nat), H, I.tok _, ⟨s.toks, ?_⟩, q⟩
  show Value.int ((its.toArray.toList.countP (eqk k) : Nat) : Int) s.toks = Value.int ((ns.count k : Nat) : Int) s.toks
  rw [ec]
theorem pe_tcount {o e : Expr} {to : TE} {t : TA} {apos cpos : Pos} (ho : PE X o to) (ha : PA X [e] t)
    (hbase : attributeBase o "count" X.env (eval o X.env) = eval o X.env := by rfl)
    (hfew : ((backTo cpos (starEach [e] X.env)).all (fun x => !x.1) && (backToKw cpos (keywordEach [] X.env)).all (fun x => x.1.isSome)
      && decide ([e].length + ([] : List Keyword).length + (if ([] : List Keyword).isEmpty then 0 else 1) < 30)) = true := by rfl)
    (hline : (apos.endLine == cpos.line) = true := by rfl) (hs : starEach [e] X.env = (false, eval e X.env) :: starEach [] X.env := by rfl) (hplain : (backTo cpos (starEach [] X.env)).any (·.1) = false := by rfl) :
    PE X (.Call (.Attribute o "count" apos) [e] [] cpos) (tCnt X.K to t) := by
  refine ⟨fun pins s σ H Q I h => ?_⟩
  refine wpAny_Call_method_late hbase hfew hline rfl (thn (ho.run pins s σ H _ I h) fun v s1 ⟨x, H1, I1, r1, p, ns, ex, hp, q1⟩ => ?_)
  subst ex
  obtain rfl : v = .ref p := r1
  obtain ⟨its, rv, ht, hlen⟩ := I1.tuple hp.1
  refine ⟨"tuple", "tuple.count", PySem.F.plainAttrs_tuple, PySem.F.slot_tuple_count, PySem.F.type_tuple_count, ht.typeIs, fun a e => ?_, ?_⟩
  · cases e
    exact inv_pl I1 hp.2
  have hA := ha.run cpos pins s1 σ H1 _ I1 q1
  rw [hs] at hA ⊢
  refine Calls.callWith_builtin (by show (false || (backTo cpos (starEach [] X.env)).any (·.1)) = false; rw [hplain] <;> rfl) (Calls.evalArgs_plain ?_)
  refine thn hA fun us s2 ⟨vs, H2, I2, r2, k, ev, hp2, q2⟩ => ?_
  subst ev
  obtain ⟨u, rfl, ru⟩ := vals1 r2
  exact mt_tcount I2 hp2.1 ru q2

def rLenU (K : PySem.W.Frag) : List V → Hp → VK → Prop := fun xs H Q => ∃ p ys, xs = [.ref p] ∧ (SqL K H p ys ∨ SqT K H p ys) ∧ Q (.int ys.length) H
theorem call_lenU : CallR X (.builtin "len") (rLenU X.K) := call_len_seq
def rAbsU : List V → Hp → VK → Prop := fun xs H Q => ∃ i, xs = [.int i] ∧ Q (.int (if i < 0 then -i else i)) H
theorem call_absU : CallR X (.builtin "abs") rAbsU := call_abs
def rMaxU : List V → Hp → VK → Prop := fun xs H Q => ∃ i j, xs = [.int i, .int j] ∧ Q (.int (if j > i then j else i)) H
theorem call_maxU (hc : X.calm = true) : CallR X (.builtin "max") rMaxU := call_max2 hc
def rMinU : List V → Hp → VK → Prop := fun xs H Q => ∃ i j, xs = [.int i, .int j] ∧ Q (.int (if j < i then j else i)) H
theorem call_minU (hc : X.calm = true) : CallR X (.builtin "min") rMinU := call_min2 hc
def rIsNU : R2 := fun x y H Q => y = .non ∧ Q (.bl (decide (x = .non))) H
theorem op_isNU : OpR X (compareOp .Is) rIsNU := op_isN
def rNotNU : R2 := fun x y H Q => y = .non ∧ Q (.bl (!decide (x = .non))) H
theorem op_notNU : OpR X (compareOp .IsNot) rNotNU := op_notN
def rShrU : R2 := fun x y H Q => ∃ (i : Int) (k : Nat), x = .int i ∧ y = .int (k : Int) ∧ Q (.int (i / 2 ^ k)) H
theorem op_shrU : OpR X (binaryOp .RShift) rShrU := op_shrN
def rOddU : R2 := fun x y H Q => ∃ n : Nat, x = .int (n : Int) ∧ y = .int 1 ∧ Q (.int ((n % 2 : Nat) : Int)) H
theorem op_oddU : OpR X (binaryOp .BitAnd) rOddU := op_odd

/-! the same, the written part told -/
theorem ix_seqK (K : PySem.W.Frag) (h : X.K = K) : IxR X (rIx K) := by subst h; exact ix_seq
theorem op_addK (K : PySem.W.Frag) (h : X.K = K) : OpR X (binaryOp .Add) (rAddU K) := by subst h; exact op_addU
theorem op_eqK (K : PySem.W.Frag) (h : X.K = K) (hu : X.A.units + 64 < cLine) : OpR X (compareOp .Eq) (rEqU K) := by subst h; exact op_eqU hu
theorem op_neK (K : PySem.W.Frag) (h : X.K = K) (hu : X.A.units + 64 < cLine) : OpR X (compareOp .NotEq) (rNeU K) := by subst h; exact op_neU hu
theorem sl_K (K : PySem.W.Frag) (h : X.K = K) : SlR X (rSlU K) := by subst h; exact sl_U
theorem call_lenK (K : PySem.W.Frag) (h : X.K = K) : CallR X (.builtin "len") (rLenU K) := by subst h; exact call_lenU
theorem call_isiK1 (K : PySem.W.Frag) (h : X.K = K) : CallR X (.builtin "isinstance") (rIsi K) := by subst h; exact call_isi
theorem call_isiTK (K : PySem.W.Frag) (h : X.K = K) : CallR X (.builtin "isinstance") (rIsiT K) := by subst h; exact call_isiT
theorem pe_tupK (K : PySem.W.Frag) (hK : X.K = K) {es : List Expr} {t : TA} {x1} {pos : Pos} (h : PA X es t) : PE X (.Tuple es x1 pos) (tTupF K t) := by subst hK; exact pe_tupF h
theorem pe_lstK (K : PySem.W.Frag) (hK : X.K = K) {es : List Expr} {t : TA} {pos : Pos} (h : PA X es t) : PE X (.List es pos) (tLstU K t) := by subst hK; exact pe_lstU h
theorem pe_tupleK (K : PySem.W.Frag) (hK : X.K = K) {a : Expr} {ta : TE} {p pos : Pos} (hg : Gl X "tuple") (hm : X.mg "tuple" = none) (ha : PE X a ta) (na : starEach [a] X.env = (false, eval a X.env) :: starEach [] X.env := by rfl) :
    PE X (.Call (.Name "tuple" p) [a] [] pos) (tThen ta (kTupF K)) := by subst hK; exact pe_tupleF hg hm ha na
theorem pe_tcountK (K : PySem.W.Frag) (hK : X.K = K) {o e : Expr} {to : TE} {t : TA} {apos cpos : Pos} (ho : PE X o to) (ha : PA X [e] t)
    (hbase : attributeBase o "count" X.env (eval o X.env) = eval o X.env := by rfl)
    (hfew : ((backTo cpos (starEach [e] X.env)).all (fun x => !x.1) && (backToKw cpos (keywordEach [] X.env)).all (fun x => x.1.isSome)
      && decide ([e].length + ([] : List Keyword).length + (if ([] : List Keyword).isEmpty then 0 else 1) < 30)) = true := by rfl)
    (hline : (apos.endLine == cpos.line) = true := by rfl) (hs : starEach [e] X.env = (false, eval e X.env) :: starEach [] X.env := by rfl) (hplain : (backTo cpos (starEach [] X.env)).any (·.1) = false := by rfl) :
    PE X (.Call (.Attribute o "count" apos) [e] [] cpos) (tCnt K to t) := by subst hK; exact pe_tcount ho ha hbase hfew hline hs hplain
theorem pi_tupK (K : PySem.W.Frag) (hK : X.K = K) {tg l : Expr} {tl : TE} (hl : PE X l tl) : PI X tg l (iTup K tl) := by subst hK; exact pi_tup hl
theorem pi_listK (K : PySem.W.Frag) (hK : X.K = K) {tg l : Expr} {tl : TE} (hl : PE X l tl) : PI X tg l (iList K tl) := by subst hK; exact pi_list hl
theorem pg_tupK (K : PySem.W.Frag) (hK : X.K = K) {es : List Expr} {k : Nat} {pos : Pos} {t : TGs} {n : Nat} (hc : X.calm = true) (h : PGs X es t)
    (hn : (assignEach es X.env).length = n := by rfl) (hst : (assignEach es X.env).findIdx? (·.1) = none := by rfl) : PG X (.Tuple es k pos) (gTup K n t) := by subst hK; exact pg_tup hc h hn hst
end

set_option maxHeartbeats 2000000
open PySem PySem.Spec PyProof.Rows L2
open Evl (Ex ex_l ex_t)

/-! ### calls of the text's own defs -/
/-- the def x is there and keeps its promise -/
structure Cal (P : Program) (w : World) (K : PySem.W.Frag) (mg : Str → Option Value) (base : Heap) (k : Nat) (x : Str) (ps : List Str) (sp : Sp) : Prop where
  ex : ∃ (f : Addr) (fd : FuncData), FnOk P w K mg base CX0 k f fd ps sp ∧ mg x = some (.ref f) ∧ PySem.W.keepIn K (.ref f) = true ∧ Binds K fd ps []
/-- .. with the keywords ks, which g puts into the parameters' order -/
structure CalK (P : Program) (w : World) (K : PySem.W.Frag) (mg : Str → Option Value) (base : Heap) (k : Nat) (x : Str) (ps ks : List Str) (gV : List V → List V) (sp : Sp) : Prop where
  ex : ∃ (f : Addr) (fd : FuncData) (g : List Value → List Value), FnOk P w K mg base CX0 k f fd ps sp ∧ mg x = some (.ref f) ∧ PySem.W.keepIn K (.ref f) = true ∧
    (∀ (s : Shared) (ws : List Value), ws.length = ks.length → BindsTo s fd ⟨[], ks.zip ws⟩ (ps.zip (g ws))) ∧ (∀ (zs : List V) (ws : List Value), zs.length = ks.length → Vals zs ws → Vals (gV zs) (g ws))
def noX : XK := fun _ _ _ => False
def tCallD (sp : Sp) (t : TA) : TE := fun σ H Q => t σ H fun vs H1 => sp vs H1 Q noX
def tCallW (sp : Sp) (n : Nat) (gV : List V → List V) (t : TA) : TE := fun σ H Q => t σ H fun zs H1 => zs.length = n ∧ sp (gV zs) H1 Q noX
section
variable {X : Cx} {k j : Nat} {x : Str} {ps ks : List Str} {gV : List V → List V} {sp : Sp} {p pos : Pos} {e : Expr} {es : List Expr} {kws : List Keyword} {t tk : TA}
theorem pe_callD (C : Cal X.prog X.w X.K X.mg X.base j x ps sp) (hr : Room k X.A) (hjk : j ≤ k) (ha : PA X (e :: es) t) (hg : Gl X x := by rfl)
    (hdb : (x == ("__debug__" : Str)) = false := by decide) (he : starEach (e :: es) X.env = (false, eval e X.env) :: starEach es X.env := by rfl) (hpl : (backTo pos (starEach es X.env)).any (·.1) = false := by rfl) :
    PE X (.Call (.Name x p) (e :: es) [] pos) (tCallD sp t) := by
  obtain ⟨f, fd, F, hm, hk, hb⟩ := C.ex
  have h := pe_call (p := p) (E := noX) F (hr.mono hjk) hg hm hk hb .nil L2.pass0 ha hdb he hpl
  refine ⟨fun pins s σ H Q I q => h.run pins s σ H Q I ?_⟩
  have e2 : (fun (vs : List V) (H1 : Hp) => sp (vs ++ []) H1 Q noX) = fun vs H1 => sp vs H1 Q noX := by funext vs H1; rw [List.append_nil]
  show t σ H fun vs H1 => sp (vs ++ []) H1 Q noX
  rw [e2]
  exact q
theorem pe_callW (C : CalK X.prog X.w X.K X.mg X.base j x ps ks gV sp) (hr : Room k X.A) (hjk : j ≤ k) (hkw : PK X kws tk) (hg : Gl X x := by rfl)
    (hall : (backToKw pos (keywordEach kws X.env)).all (·.1.isSome) = true := by rfl) (hks : (backToKw pos (keywordEach kws X.env)).filterMap (·.1) = ks := by rfl)
    (hdb : (x == ("__debug__" : Str)) = false := by decide)
    (hpl : ((backTo pos (starEach [] X.env)).any (·.1) || (backToKw pos (keywordEach kws X.env)).any (·.1.isNone)) = false := by rfl) :
    PE X (.Call (.Name x p) [] kws pos) (tCallW sp ks.length gV tk) := by
  obtain ⟨f, fd, g, F, hm, hk, hb, hv⟩ := C.ex
  refine ⟨fun pins s σ H Q I h => ?_⟩
  refine wpAny_Call_Name_kw (ld_glob I hg hm ?_ hdb)
  refine PySem.W.callWith_KW0 (h₀ := X.base) I.ok.mod.kin hk hall (thn (hkw.run pos pins s σ H _ I h) fun ws s2 ⟨zs, H2, I2, rz, hn, q2⟩ => ⟨I2.kIn, ?_⟩) hpl
  rw [hks]
  have r2 := hv zs ws hn rz
  have hl : ws.length = ks.length := by rw [← rz.length]; exact hn
  refine wpAny_call (codeAny_mono (F.run X.A X.stack s2 H2 ⟨[], ks.zip ws⟩ (g ws) (gV zs) Q noX (hr.mono hjk) I2.env0 (hb s2 ws hl) r2 q2) fun r s' hq => ?_)
  cases r with
  | error e => exact hq.elim
  | ok fl =>
    cases fl with
    | ret u => exact I2.after hq
    | next => exact False.elim hq
    | brk => exact False.elim hq
    | cont => exact False.elim hq
end

/-! ### promises -/
section
variable {ι : Type} {K : PySem.W.Frag}
/-- data in, data out -/
def spF (K : PySem.W.Frag) (args : ι → List PyData) (cond : ι → Prop) (res : ι → PyData) : Sp := fun vs H Q _ => ∃ i, DqAll K H vs (args i) ∧ cond i ∧ ∀ v H', Ex H H' → Dq K H' v (res i) → Q v H'
/-- the same; of the data in it is not known that tuples have no dict -/
def spP (K : PySem.W.Frag) (args : ι → List PyData) (cond : ι → Prop) (res : ι → PyData) : Sp := fun vs H Q _ => ∃ i, DpAll K H vs (args i) ∧ cond i ∧ ∀ v H', Ex H H' → Dq K H' v (res i) → Q v H'
/-- a deck first; what comes is one of the good -/
def spK (K : PySem.W.Frag) (args : ι → List PyData) (cond : ι → Prop) (good : ι → PyData → Prop) : Sp := fun vs H Q _ => ∃ i a vs', vs = .ref a :: vs' ∧ DeckAt H a ∧ DqAll K H vs' (args i) ∧ cond i ∧ ∀ d v H', Ex H H' → good i d → Dq K H' v d → Q v H'
def spKp (K : PySem.W.Frag) (args : ι → List PyData) (cond : ι → Prop) (good : ι → PyData → Prop) : Sp := fun vs H Q _ => ∃ i a vs', vs = .ref a :: vs' ∧ DeckAt H a ∧ DqAll K H vs' (args i) ∧ cond i ∧ ∀ d v H', Ex H H' → good i d → Dp K H' v d → Q v H'
variable {args : ι → List PyData} {cond : ι → Prop} {res : ι → PyData} {good : ι → PyData → Prop} {vs : List V} {H : Hp} {Q : VK} {E : XK} {a : Addr}
theorem w_spF (i : ι) (h : DqAll K H vs (args i)) (c : cond i) (k : ∀ v H', Ex H H' → Dq K H' v (res i) → Q v H') : spF K args cond res vs H Q E := ⟨i, h, c, k⟩
theorem w_spFi (i : ι) {n : Int} (h : DqAll K H vs (args i)) (e : res i = .int n) (c : cond i) (k : ∀ H', Ex H H' → Q (.int n) H') : spF K args cond res vs H Q E := ⟨i, h, c, fun v H' e1 hd => by
  rw [e] at hd
  rw [qint_inv hd]
  exact k H' e1⟩
theorem w_spFb (i : ι) {b : Bool} (h : DqAll K H vs (args i)) (e : res i = .bool b) (c : cond i) (k : ∀ H', Ex H H' → Q (.bl b) H') : spF K args cond res vs H Q E := ⟨i, h, c, fun v H' e1 hd => by
  rw [e] at hd
  rw [qbl_inv hd]
  exact k H' e1⟩
theorem w_spP (i : ι) (h : DpAll K H vs (args i)) (c : cond i) (k : ∀ v H', Ex H H' → Dq K H' v (res i) → Q v H') : spP K args cond res vs H Q E := ⟨i, h, c, k⟩
theorem w_spPb (i : ι) {b : Bool} (h : DpAll K H vs (args i)) (e : res i = .bool b) (c : cond i) (k : ∀ H', Ex H H' → Q (.bl b) H') : spP K args cond res vs H Q E := ⟨i, h, c, fun v H' e1 hd => by
  rw [e] at hd
  rw [qbl_inv hd]
  exact k H' e1⟩
theorem w_spK (i : ι) (hd : DeckAt H a) (h : DqAll K H vs (args i)) (c : cond i) (k : ∀ d v H', Ex H H' → good i d → Dq K H' v d → Q v H') : spK K args cond good (.ref a :: vs) H Q E := ⟨i, a, vs, rfl, hd, h, c, k⟩
theorem w_spKp (i : ι) (hd : DeckAt H a) (h : DqAll K H vs (args i)) (c : cond i) (k : ∀ d v H', Ex H H' → good i d → Dp K H' v d → Q v H') : spKp K args cond good (.ref a :: vs) H Q E := ⟨i, a, vs, rfl, hd, h, c, k⟩
end

/-! ### steps -/
section
variable {K : PySem.W.Frag} {σ : St} {H : Hp} {D : Ends} {t u : TS} {te ta tb tc : TE} {g : TG} {gs : TGs} {c c' : TT} {Q : VK} {QB : Bool → Hp → Prop} {v w : V} {b : Bool} {i j : Nat} {QA : List V → Hp → Prop} {tr : TA} {r r' : R2}
theorem w_st {σ' : St} (e : σ = σ') (h : t D σ' H) : t D σ H := by rw [e]; exact h
theorem w_seq (h : t { D with nx := u D } σ H) : tSeq t u D σ H := h
theorem w_next (h : D.nx σ H) : tNext D σ H := h
theorem w_brk (h : D.bk σ H) : tBreak D σ H := h
theorem w_cont (h : D.ct σ H) : tCont D σ H := h
theorem w_ret (h : te σ H D.rt) : tRet te D σ H := h
theorem w_retN (h : D.rt .non H) : tRetN D σ H := h
theorem w_drop (h : te σ H fun _ H1 => D.nx σ H1) : tDrop te D σ H := h
theorem w_if (h : c σ H fun b H1 => if b = true then t D σ H1 else u D σ H1) : tIfS c t u D σ H := h
theorem w_asg (h : te σ H fun x H1 => g x σ H1 D.nx) : tAsg te g D σ H := h
def ParG (i j : Nat) (D : Ends) (σ : St) (vs : List V) (H : Hp) : Prop := ∃ v w, vs = [v, w] ∧ D.nx ((σ.set i (some v)).set j (some w)) H
theorem w_par (h : tr σ H fun vs H1 => ParG i j D σ vs H1) : tPar i j tr D σ H := h
theorem w_two (h : D.nx ((σ.set i (some v)).set j (some w)) H) : ParG i j D σ [v, w] H := ⟨v, w, rfl, h⟩
theorem w_gname {QS : St → Hp → Prop} (h : QS (σ.set i (some v)) H) : gName i v σ H QS := h
theorem w_gnil {QS : St → Hp → Prop} (h : QS σ H) : gNil [] σ H QS := ⟨rfl, h⟩
theorem w_gcons {QS : St → Hp → Prop} {vs : List V} (h : g v σ H fun σ' H' => gs vs σ' H' QS) : gCons g gs (v :: vs) σ H QS := ⟨v, vs, rfl, h⟩
theorem w_gtup {QS : St → Hp → Prop} {n : Nat} {ds : List PyData} (hd : Dq K H v (.tuple ds)) (hn : ds.length = n) (h : ∀ xs, DqAll K H xs ds → gs xs σ H QS) : gTup K n gs v σ H QS := by
  obtain ⟨p, xs, rfl, hp, ha⟩ := qtup_inv hd
  exact ⟨p, xs, rfl, hp.1, (dpa_len ha.dp).trans hn, h xs ha⟩
theorem w_gtup_ii {QS : St → Hp → Prop} {a b : Int} (hd : Dq K H v (.tuple [.int a, .int b])) (h : gs [.int a, .int b] σ H QS) : gTup K 2 gs v σ H QS := w_gtup hd rfl fun xs ha => by
  cases ha with
  | cons h1 h2 => cases h2 with
    | cons h3 h4 =>
      cases h4
      rw [qint_inv h1, qint_inv h3]
      exact h
theorem w_gtup_2 {QS : St → Hp → Prop} {d1 d2 : PyData} (hd : Dq K H v (.tuple [d1, d2])) (h : ∀ v1 v2, Dq K H v1 d1 → Dq K H v2 d2 → gs [v1, v2] σ H QS) : gTup K 2 gs v σ H QS := w_gtup hd rfl fun xs ha => by
  cases ha with
  | cons h1 h2 => cases h2 with
    | cons h3 h4 =>
      cases h4
      exact h _ _ h1 h3
theorem w_gtupp {QS : St → Hp → Prop} {n : Nat} {ds : List PyData} (hd : Dp K H v (.tuple ds)) (hn : ds.length = n) (h : ∀ xs, DpAll K H xs ds → gs xs σ H QS) : gTup K n gs v σ H QS := by
  obtain ⟨p, xs, rfl, hp, ha⟩ := tup_inv hd
  exact ⟨p, xs, rfl, hp, (dpa_len ha).trans hn, h xs ha⟩
theorem w_gtupp_ii {QS : St → Hp → Prop} {a b : Int} (hd : Dp K H v (.tuple [.int a, .int b])) (h : gs [.int a, .int b] σ H QS) : gTup K 2 gs v σ H QS := w_gtupp hd rfl fun xs ha => by
  cases ha with
  | cons h1 h2 => cases h2 with
    | cons h3 h4 =>
      cases h4
      rw [int_inv h1, int_inv h3]
      exact h
theorem w_gtupp_2 {QS : St → Hp → Prop} {d1 d2 : PyData} (hd : Dp K H v (.tuple [d1, d2])) (h : ∀ v1 v2, Dp K H v1 d1 → Dp K H v2 d2 → gs [v1, v2] σ H QS) : gTup K 2 gs v σ H QS := w_gtupp hd rfl fun xs ha => by
  cases ha with
  | cons h1 h2 => cases h2 with
    | cons h3 h4 =>
      cases h4
      exact h _ _ h1 h3
theorem w_var (h : σ[i]? = some (some v)) (q : Q v H) : tVar i σ H Q := ⟨v, h, q⟩
theorem w_c (q : Q v H) : tC v σ H Q := q
theorem w_op (h : ta σ H fun x H1 => tb σ H1 fun y H2 => r x y H2 Q) : tOp r ta tb σ H Q := h
theorem w_un {f : V → Hp → VK → Prop} (h : ta σ H fun x H1 => f x H1 Q) : tUn f ta σ H Q := h
theorem w_neg {n : Int} (q : Q (.int (-n)) H) : rU (fun i => .int (-i)) (.int n) H Q := ⟨n, rfl, q⟩
theorem w_test (h : te σ H fun x H' => ∃ k, x = .bl k ∧ QB k H') : tTest te σ H QB := h
theorem w_B (h : te σ H fun x H1 => ∃ c, x = .bl c ∧ QB c H1) : tB te σ H QB := h
theorem w_bl {R : Bool → Prop} (h : R b) : ∃ k, V.bl b = .bl k ∧ R k := ⟨b, rfl, h⟩
theorem w_not (h : c σ H fun b H1 => QB (!b) H1) : tNot c σ H QB := h
theorem w_and (h : c σ H fun b H1 => if b = true then c' σ H1 QB else QB false H1) : tAnd c c' σ H QB := h
theorem w_or (h : c σ H fun b H1 => if b = true then QB true H1 else c' σ H1 QB) : tOr c c' σ H QB := h
theorem w_yes (h : QB true H) : tYes σ H QB := h
theorem w_andV (h : ta σ H fun x H1 => ∃ c, x = .bl c ∧ if c = true then tb σ H1 Q else Q (.bl false) H1) : tAndV ta tb σ H Q := h
theorem w_orV (h : ta σ H fun x H1 => ∃ c, x = .bl c ∧ if c = true then Q (.bl true) H1 else tb σ H1 Q) : tOrV ta tb σ H Q := h
theorem w_notV (h : ta σ H fun x H1 => ∃ c, x = .bl c ∧ Q (.bl (!c)) H1) : tNotV ta σ H Q := h
theorem w_ifE (h : c σ H fun b H1 => if b = true then ta σ H1 Q else tb σ H1 Q) : tIf c ta tb σ H Q := h
theorem w_chain (h : ta σ H fun x H1 => tb σ H1 fun y H2 => r x y H2 fun z H3 => ∃ k, z = .bl k ∧ (if k = true then tc σ H3 fun w' H4 => r' y w' H4 Q else Q (.bl false) H3)) : tChain r r' ta tb tc σ H Q := h
theorem w_nil (h : QA [] H) : tNil σ H QA := h
theorem w_cons (h : te σ H fun x H1 => tr σ H1 fun xs H2 => QA (x :: xs) H2) : tCons te tr σ H QA := h
theorem w_call {sp : Sp} (h : tr σ H fun vs H1 => sp vs H1 Q noX) : tCallD sp tr σ H Q := h
theorem w_callW {sp : Sp} {n : Nat} {gV : List V → List V} (h : tr σ H fun zs H1 => zs.length = n ∧ sp (gV zs) H1 Q noX) : tCallW sp n gV tr σ H Q := h
theorem w_cb {f : List V → Hp → VK → Prop} (h : tr σ H fun vs H1 => f vs H1 Q) : tCB f tr σ H Q := h
theorem w_then {k : V → Hp → VK → Prop} (h : ta σ H fun x H1 => k x H1 Q) : tThen ta k σ H Q := h
def NewT (_ : PySem.W.Frag) (xs : List V) (Q : VK) (H1 : Hp) : Prop := xs.length ≤ sizeLine ∧ ∀ (p : Addr) (o : Obj), H1 p = none → o.dict = none → Q (.ref p) (upd H1 p (.frz o (.tup xs)))
def NewL (_ : PySem.W.Frag) (xs : List V) (Q : VK) (H1 : Hp) : Prop := xs.length ≤ sizeLine ∧ ∀ p, H1 p = none → Q (.ref p) (upd H1 p (.lst xs))
theorem w_tupF (h : tr σ H fun xs H1 => NewT K xs Q H1) : tTupF K tr σ H Q := h
theorem w_lst (h : tr σ H fun xs H1 => NewL K xs Q H1) : tLstU K tr σ H Q := h
/-- a new tuple, of n data; a new list -/
theorem w_newT {xs : List V} {ds : List PyData} (hl : xs.length ≤ 1000) (hd : DqAll K H xs ds) (h : ∀ p H', Ex H H' → Dq K H' (.ref p) (.tuple ds) → Q (.ref p) H') : NewT K xs Q H :=
  ⟨Nat.le_trans hl (by decide), fun p o hp ho => h p _ (Evl.Ex.new hp) (.tup ⟨.inl (.inr ⟨o, upd_same⟩), .inl ⟨o, _, upd_same, ho⟩⟩ (hd.up (Evl.Ex.new hp)))⟩
theorem w_newL {xs : List V} {ds : List PyData} (hl : xs.length ≤ 1000) (hd : DpAll K H xs ds) (h : ∀ p H', Ex H H' → H p = none → H' p = some (.lst xs) → Dp K H' (.ref p) (.list ds) → Q (.ref p) H') : NewL K xs Q H :=
  ⟨Nat.le_trans hl (by decide), fun p hp => h p _ (Evl.Ex.new hp) hp upd_same (.lst (.inl (.inl upd_same)) (Sk.DpAll.up (Evl.Ex.new hp) hd))⟩
/-! operators -/
theorem w_I0 {f : Int → Int → V} {a b : Int} (q : Q (f a b) H) : rI0 f (.int a) (.int b) H Q := ⟨a, b, rfl, rfl, q⟩
theorem w_I {C : Int → Int → Prop} {f : Int → Int → V} {a b : Int} (h : C a b) (q : Q (f a b) H) : rI C f (.int a) (.int b) H Q := ⟨a, b, rfl, rfl, h, q⟩
theorem w_addI {a b : Int} (q : Q (.int (a + b)) H) : rAddU K (.int a) (.int b) H Q := .inl ⟨a, b, rfl, rfl, q⟩
theorem w_mulI {a b : Int} (h : CMulX a b) (q : Q (.int (a * b)) H) : rMulU (.int a) (.int b) H Q := .inl ⟨a, b, rfl, rfl, h, q⟩
theorem w_eqI {a b : Int} (q : Q (.bl (decide (a = b))) H) : rEqU K (.int a) (.int b) H Q := by
  refine .inl ⟨rfl, ?_⟩
  have e : decide (V.int a = V.int b) = decide (a = b) := by
    by_cases h : a = b
    · subst h; simp
    · rw [decide_eq_false h, decide_eq_false (fun z => h (V.int.inj z))]
  rw [e]
  exact q
theorem w_neI {a b : Int} (q : Q (.bl (!decide (a = b))) H) : rNeU K (.int a) (.int b) H Q := by
  refine .inl ⟨rfl, ?_⟩
  have e : decide (V.int a = V.int b) = decide (a = b) := by
    by_cases h : a = b
    · subst h; simp
    · rw [decide_eq_false h, decide_eq_false (fun z => h (V.int.inj z))]
  rw [e]
  exact q
theorem w_eqD {d e : PyData} (h1 : Dp K H v d) (h2 : Dp K H w e) (s1 : SeqAt.shaped d = true) (s2 : SeqAt.shaped e = true) (q : Q (.bl (PyData.eqv d e)) H) : rEqU K v w H Q := .inr ⟨d, e, h1, h2, s1, s2, q⟩
/-- t[i] -/
theorem w_ixi {ds : List PyData} {n a : Int} (h : Dq K H v (.tuple ds)) (e : atI ds n = some (.int a)) (q : Q (.int a) H) : rIx K v (.int n) H Q := by
  obtain ⟨p, xs, rfl, hp, ha⟩ := qtup_inv h
  obtain ⟨u, h1, h2⟩ := Sk.dpa_atI ha.dp e
  rw [int_inv h2] at h1
  exact .inr (.inl ⟨p, xs, n, _, rfl, rfl, hp.1, h1, q⟩)
theorem dqa_atQ {vs : List V} {ds : List PyData} {n : Int} {d : PyData} (h : DqAll K H vs ds) (e : atI ds n = some d) : ∃ v, atI vs n = some v ∧ Dq K H v d := by
  have aux : ∀ {vs : List V} {ds : List PyData} {i : Nat} {d : PyData}, DqAll K H vs ds → ds[i]? = some d → ∃ v, vs[i]? = some v ∧ Dq K H v d := by
    intro vs ds i d h
    induction i generalizing vs ds with
    | zero =>
      intro e
      cases h with
      | nil => simp at e
      | cons r t => simp at e; subst e; exact ⟨_, rfl, r⟩
    | succ i ih =>
      intro e
      cases h with
      | nil => simp at e
      | cons r t =>
        obtain ⟨v, h1, h2⟩ := ih t (by simpa using e)
        exact ⟨v, by simpa using h1, h2⟩
  unfold atI at e ⊢
  rw [dpa_len h.dp]
  cases q : ixN ds.length n with
  | none => rw [q] at e; cases e
  | some j =>
    rw [q] at e
    obtain ⟨v, h1, h2⟩ := aux h (show ds[j]? = some d from e)
    exact ⟨v, h1, h2⟩
theorem w_ix {ds : List PyData} {n : Int} {d : PyData} (h : Dq K H v (.tuple ds)) (e : atI ds n = some d) (q : ∀ v', Dq K H v' d → Q v' H) : rIx K v (.int n) H Q := by
  obtain ⟨p, xs, rfl, hp, ha⟩ := qtup_inv h
  obtain ⟨u, h1, h2⟩ := dqa_atQ ha e
  exact .inr (.inl ⟨p, xs, n, _, rfl, rfl, hp.1, h1, q u h2⟩)
theorem w_ixpi {ds : List PyData} {n a : Int} (h : Dp K H v (.tuple ds)) (e : atI ds n = some (.int a)) (q : Q (.int a) H) : rIx K v (.int n) H Q := by
  obtain ⟨p, xs, rfl, hp, ha⟩ := tup_inv h
  obtain ⟨u, h1, h2⟩ := Sk.dpa_atI ha e
  rw [int_inv h2] at h1
  exact .inr (.inl ⟨p, xs, n, _, rfl, rfl, hp, h1, q⟩)
theorem w_ixp {ds : List PyData} {n : Int} {d : PyData} (h : Dp K H v (.tuple ds)) (e : atI ds n = some d) (q : ∀ v', Dp K H v' d → Q v' H) : rIx K v (.int n) H Q := by
  obtain ⟨p, xs, rfl, hp, ha⟩ := tup_inv h
  obtain ⟨u, h1, h2⟩ := Sk.dpa_atI ha e
  exact .inr (.inl ⟨p, xs, n, _, rfl, rfl, hp, h1, q u h2⟩)
/-- xs[i], a list -/
theorem w_ixl {xs : List V} {n : Int} {p : Addr} (h : SqL K H p xs) (e : atI xs n = some v) (q : Q v H) : rIx K (.ref p) (.int n) H Q := .inl ⟨p, xs, n, _, rfl, rfl, h, e, q⟩
theorem w_abs {n : Int} (q : Q (.int ((n.natAbs : Nat) : Int)) H) : rAbsU [.int n] H Q := by
  refine ⟨n, rfl, ?_⟩
  have e : (if n < 0 then -n else n) = ((n.natAbs : Nat) : Int) := by split <;> omega
  rw [e]
  exact q
theorem w_int {n : Int} (q : Q (.int n) H) : rInt [.int n] H Q := ⟨n, rfl, q⟩
theorem w_gcd {a b : Int} (q : Q (.int ((Nat.gcd a.natAbs b.natAbs : Nat) : Int)) H) : rGcd [.int a, .int b] H Q := ⟨a, b, rfl, q⟩
end

/-! ### loops, comprehensions, count -/
section
variable {K : PySem.W.Frag} {σ : St} {H : Hp} {D : Ends} {tb : TS} {te ta to : TE} {g : TG} {Q : VK} {v : V} {tr : TA} {tt : TT} {vs : List Nat}
theorem w_ift {A B : Prop} (h : A) : if true = true then A else B := by rw [if_pos rfl]; exact h
theorem w_iff {A B : Prop} (h : B) : if false = true then A else B := by rw [if_neg Bool.false_ne_true]; exact h
theorem w_itt {A B : Prop} {b : Bool} (e : b = true) (h : A) : if b = true then A else B := by rw [if_pos e]; exact h
theorem w_itf {A B : Prop} {b : Bool} (e : b = false) (h : B) : if b = true then A else B := by rw [if_neg (by rw [e]; decide)]; exact h
theorem w_ite {A B : Prop} {b : Bool} (h1 : b = true → A) (h2 : b = false → B) : if b = true then A else B := by
  cases b with
  | true => rw [if_pos rfl]; exact h1 rfl
  | false => rw [if_neg Bool.false_ne_true]; exact h2 rfl
def CntG (K : PySem.W.Frag) (x : V) (k : Int) (Q : VK) (H : Hp) : Prop := ∃ (p : Addr) (ns : List Int), x = .ref p ∧ TupAt K H p (ns.map V.int) ∧ ∃ k', [V.int k] = [.int k'] ∧ TupAt K H p (ns.map V.int) ∧ Q (.int (ns.count k' : Nat)) H
theorem w_cnt {k : Int} (h : to σ H fun x H1 => CntG K x k Q H1) : tCnt K to (tCons (tC (.int k)) tNil) σ H Q := h
theorem w_cntg {a b k : Int} (h : Dq K H v (.tuple [.int a, .int b])) (q : Q (.int (([a, b] : List Int).count k : Nat)) H) : CntG K v k Q H := by
  obtain ⟨p, xs, rfl, hp, ha⟩ := qtup_inv h
  cases ha with
  | cons h1 h2 => cases h2 with
    | cons h3 h4 =>
      cases h4
      rw [qint_inv h1, qint_inv h3] at hp
      exact ⟨p, [a, b], rfl, hp, k, rfl, hp, q⟩
/-- a for over lo, lo + 1, .. (n of them) -/
def ForG (lo : Int) (n : Nat) (g : TG) (tb : TS) (D : Ends) (σ : St) (H : Hp) : Prop := ∃ W : Nat → Nat → St → Hp → Prop, (∃ m, W 0 m σ H) ∧ ∀ i m σ H, W i m σ H →
  ((Itr lo n).stop i H ∧ D.nx σ H) ∨ ((Itr lo n).go i H ∧ ∃ N : St → Hp → Prop, (∀ σ' H', N σ' H' → ∃ m', m' < m ∧ W (i + 1) m' σ' H') ∧ ∀ x H', (Itr lo n).yld i H x H' → g x σ H' fun σ2 H2 => tb { D with nx := N, ct := N, bk := D.nx } σ2 H2)
theorem w_for1 (h : tr σ H fun vs H1 => ∃ j : Int, vs = [.int j] ∧ -(2 ^ 62) ≤ j ∧ j < 2 ^ 62 ∧ ForG 0 j.toNat g tb D σ H1) : tFor (iRng1 tr) g tb D σ H := h
theorem w_for2 (h : tr σ H fun vs H1 => ∃ i j : Int, vs = [.int i, .int j] ∧ (-(2 ^ 62) ≤ i ∧ i < 2 ^ 62 ∧ -(2 ^ 62) ≤ j ∧ j < 2 ^ 62) ∧ ForG i (j - i).toNat g tb D σ H1) : tFor (iRng2 tr) g tb D σ H := h
theorem w_rg1 {j : Int} {R : Nat → Prop} (h1 : -(2 ^ 62) ≤ j) (h2 : j < 2 ^ 62) (h : R j.toNat) : ∃ j' : Int, [V.int j] = [.int j'] ∧ -(2 ^ 62) ≤ j' ∧ j' < 2 ^ 62 ∧ R j'.toNat := ⟨j, rfl, h1, h2, h⟩
theorem w_forg {lo : Int} {n : Nat} (Pv : Nat → St → Hp → Prop) (h0 : Pv 0 σ H)
    (hs : ∀ i σ H, i < n → Pv i σ H → g (.int (lo + (i : Nat))) σ H fun σ2 H2 => tb { D with nx := Pv (i + 1), ct := Pv (i + 1), bk := D.nx } σ2 H2) (hd : ∀ σ H, Pv n σ H → D.nx σ H) : ForG lo n g tb D σ H := for_range Pv h0 hs hd
/-- a for over lo, lo + c, .. (n of them) -/
def ForC (lo c : Int) (n : Nat) (g : TG) (tb : TS) (D : Ends) (σ : St) (H : Hp) : Prop := ∃ W : Nat → Nat → St → Hp → Prop, (∃ m, W 0 m σ H) ∧ ∀ i m σ H, W i m σ H →
  ((Itc lo c n).stop i H ∧ D.nx σ H) ∨ ((Itc lo c n).go i H ∧ ∃ N : St → Hp → Prop, (∀ σ' H', N σ' H' → ∃ m', m' < m ∧ W (i + 1) m' σ' H') ∧ ∀ x H', (Itc lo c n).yld i H x H' → g x σ H' fun σ2 H2 => tb { D with nx := N, ct := N, bk := D.nx } σ2 H2)
theorem w_forc {lo c : Int} {n : Nat} (Pv : Nat → St → Hp → Prop) (h0 : Pv 0 σ H)
    (hs : ∀ i σ H, i < n → Pv i σ H → g (.int (lo + (i : Nat) * c)) σ H fun σ2 H2 => tb { D with nx := Pv (i + 1), ct := Pv (i + 1), bk := D.nx } σ2 H2) (hd : ∀ σ H, Pv n σ H → D.nx σ H) : ForC lo c n g tb D σ H := for_rangeC Pv h0 hs hd
def RevG (x : V) (g : TG) (tb : TS) (D : Ends) (σ : St) (H : Hp) : Prop := ∃ n, x = .int n ∧ -(2 ^ 62) ≤ (0 : Int) ∧ (0 : Int) < 2 ^ 62 ∧ -(2 ^ 62) ≤ n ∧ n < 2 ^ 62 ∧ ForC (0 + (((n - 0).toNat : Nat) : Int) - 1) (-1) (n - 0).toNat g tb D σ H
theorem w_forrev (h : te σ H fun x H1 => RevG x g tb D σ H1) : tFor (iRevR (tRg1 te)) g tb D σ H := h
theorem w_revg {n : Int} (h1 : -(2 ^ 62) ≤ n) (h2 : n < 2 ^ 62) (h : ForC (0 + (((n - 0).toNat : Nat) : Int) - 1) (-1) (n - 0).toNat g tb D σ H) : RevG (.int n) g tb D σ H := ⟨n, rfl, by decide, by decide, h1, h2, h⟩
/-- [te for x in range ..] -/
def LcG (lo : Int) (n : Nat) (g : TG) (tt : TT) (te : TE) (vs : List Nat) (σ : St) (H1 : Hp) (Q : VK) : Prop := ∀ D, H1 D = none → ∃ W : Nat → Nat → Hp → Prop, (∃ m, W 0 m (upd H1 D (.lst []))) ∧ ∀ i m H, W i m H →
  ((Itr lo n).stop i H ∧ Q (.ref D) H) ∨ ((Itr lo n).go i H ∧ ∃ Nx : Hp → Prop, (∀ H', Nx H' → ∃ m', m' < m ∧ W (i + 1) m' H') ∧ ∀ x H', (Itr lo n).yld i H x H' → g x (wipe σ vs) H' fun σ2 H2 => wipe σ2 vs = wipe σ vs ∧ tt σ2 H2 fun b H3 =>
    if b = true then te σ2 H3 fun y H4 => ∃ acc, H4 D = some (.lst acc) ∧ acc.length < sizeLine ∧ Nx (upd H4 D (.lst (acc ++ [y]))) else Nx H3)
theorem w_lc1 (h : tr σ H fun ws H1 => ∃ j : Int, ws = [.int j] ∧ -(2 ^ 62) ≤ j ∧ j < 2 ^ 62 ∧ LcG 0 j.toNat g tt te vs σ H1 Q) : tLc (iRng1 tr) g tt te vs σ H Q := h
/-- behind a turn: y is put to the list -/
def LcW (P : Nat → List V → Hp → Prop) (H : Hp) (Dl : Addr) (i : Nat) (H' : Hp) : Prop := ∃ acc, H' Dl = some (.lst acc) ∧ Ex H H' ∧ P i acc H'
/-- the elements one by one; P i acc: what is known of the list so far -/
theorem w_lcg {lo : Int} {n : Nat} (P : Nat → List V → Hp → Prop) (hn : n ≤ 1000) (h0 : ∀ H', Ex H H' → P 0 [] H')
    (st : ∀ i acc H' l xs ys, H' l = some (.lst xs) → P i acc H' → P i acc (upd H' l (.lst ys))) (hl : ∀ i acc H', P i acc H' → acc.length ≤ i)
    (hs : ∀ Dl i acc H', i < n → H Dl = none → H' Dl = some (.lst acc) → Ex H H' → P i acc H' →
      g (.int (lo + (i : Nat))) (wipe σ vs) H' fun σ2 H2 => wipe σ2 vs = wipe σ vs ∧ tt σ2 H2 fun b H3 => if b = true then te σ2 H3 fun y H4 => ∃ acc, H4 Dl = some (.lst acc) ∧ acc.length < sizeLine ∧ LcW P H Dl (i + 1) (upd H4 Dl (.lst (acc ++ [y]))) else LcW P H Dl (i + 1) H3)
    (hd : ∀ p acc H', Ex H H' → H' p = some (.lst acc) → P n acc H' → Q (.ref p) H') : LcG lo n g tt te vs σ H Q := by
  intro Dl hD
  refine lc_range (LcW P H Dl) ⟨[], upd_same, Evl.Ex.new hD, h0 _ (Evl.Ex.new hD)⟩ ?_ ?_
  · rintro i H' hi ⟨acc, h1, h2, h3⟩
    exact hs Dl i acc H' hi hD h1 h2 h3
  · rintro H' ⟨acc, h1, h2, h3⟩
    exact hd Dl acc H' h2 h1 h3
theorem w_lct {P : Nat → List V → Hp → Prop} {Dl : Addr} {i : Nat} {acc : List V} {H H' H4 : Hp} {y : V} (hD : H Dl = none) (h1 : H' Dl = some (.lst acc)) (e1 : Ex H H') (e : Ex H' H4) (hi : acc.length ≤ 1000)
    (st : ∀ i acc H' l xs ys, H' l = some (.lst xs) → P i acc H' → P i acc (upd H' l (.lst ys))) (p : P (i + 1) (acc ++ [y]) H4) :
    ∃ acc, H4 Dl = some (.lst acc) ∧ acc.length < sizeLine ∧ LcW P H Dl (i + 1) (upd H4 Dl (.lst (acc ++ [y]))) :=
  ⟨acc, e _ _ h1, Nat.lt_of_le_of_lt hi (by decide), _, upd_same, Evl.Ex.mut (e1.trans e) hD, st _ _ _ _ _ _ (e _ _ h1) p⟩
theorem w_lcf {P : Nat → List V → Hp → Prop} {Dl : Addr} {i : Nat} {acc : List V} {H H' H4 : Hp} (h1 : H' Dl = some (.lst acc)) (e1 : Ex H H') (e : Ex H' H4) (p : P (i + 1) acc H4) : LcW P H Dl (i + 1) H4 := ⟨acc, e _ _ h1, e1.trans e, p⟩
end

/-! ### conditions on numbers -/
/-- below 2 ^ n -/
def Bd (n : Nat) (x : Int) : Prop := x.natAbs < 2 ^ n
theorem Bd.mono {m n : Nat} {x : Int} (h : Bd m x) (l : m ≤ n) : Bd n x := Nat.lt_of_lt_of_le h (Nat.pow_le_pow_right (by decide) l)
theorem Bd.mul {m n : Nat} {x y : Int} (h : Bd m x) (h' : Bd n y) : Bd (m + n) (x * y) := wide_lt h h'
theorem Bd.neg {m : Nat} {x : Int} (h : Bd m x) : Bd m (-x) := by unfold Bd at *; rw [Int.natAbs_neg]; exact h
theorem Bd.add {m : Nat} {x y : Int} (h : Bd m x) (h' : Bd m y) : Bd (m + 1) (x + y) := by
  unfold Bd at *
  have := Int.natAbs_add_le x y
  rw [Nat.pow_succ]
  omega
theorem Bd.sub {m : Nat} {x y : Int} (h : Bd m x) (h' : Bd m y) : Bd (m + 1) (x - y) := by
  rw [Int.sub_eq_add_neg]
  exact h.add h'.neg
theorem Bd.addm {m n : Nat} {x y : Int} (h : Bd m x) (h' : Bd n y) : Bd (max m n + 1) (x + y) := (h.mono (Nat.le_max_left _ _)).add (h'.mono (Nat.le_max_right _ _))
theorem Bd.subm {m n : Nat} {x y : Int} (h : Bd m x) (h' : Bd n y) : Bd (max m n + 1) (x - y) := (h.mono (Nat.le_max_left _ _)).sub (h'.mono (Nat.le_max_right _ _))
theorem mulx {m n : Nat} {x y : Int} (h : Bd m x) (h' : Bd n y) (l : m + n ≤ 134217728) : CMulX x y := mulx_ok h h' l
theorem divz {n : Nat} {x y : Int} (h0 : y ≠ 0) (h : Bd n y) (l : n ≤ 8000) : CDivZ x y := by
  refine ⟨h0, ?_⟩
  have : y.natAbs < 2 ^ (n + 1) := Nat.lt_trans h (Nat.pow_lt_pow_right (by decide) (Nat.lt_succ_self _))
  have := PySem.Flt.log2_lt_of (Nat.succ_pos n) this
  omega

set_option maxHeartbeats 2000000
open PySem PySem.Spec PyProof.Rows L2
open Evl (Ex ex_l ex_t)

/-! ### isinstance of data -/
def tyN : PyData → String
  | .none => "NoneType" | .bool _ => "bool" | .int _ => "int" | .str _ => "str" | .list _ => "list" | .tuple _ => "tuple" | .dict _ => "dict"
def isiS (a n : String) : Bool := a == n || (a == "bool" && n == "int")
def isi (d : PyData) (n : String) : Bool := isiS (tyN d) n
theorem kit_tab : ∀ a ∈ ["NoneType", "bool", "int", "str", "list", "tuple"], ∀ n ∈ ["int", "bool", "tuple", "list", "str"], kitB a n = some (isiS a n) := by decide +kernel
section
variable {K : PySem.W.Frag} {H : Hp} {v : V} {d : PyData} {Q : VK} {n : String}
theorem ty_dp (h : Dp K H v d) : TyX K H v (.type (tyN d)) := by
  cases h with
  | non => exact .base .non
  | bl b => exact .base (.bl b)
  | int i => exact .base (.int i)
  | str x => exact .base (.str x)
  | lst hs ha =>
    rcases hs with (hs | ⟨o, hs⟩) | ⟨o, _, _, hk, hc, _⟩
    · exact .base (.lst hs)
    · exact .base (.frz hs)
    · exact .kList hk hc
  | tup hs ha =>
    rcases hs with (hs | ⟨o, hs⟩) | ⟨o, _, _, hk, hc, _⟩
    · exact .base (.tup hs)
    · exact .fTuple hs
    · exact .kTuple hk hc
theorem kit_isi (hn : n ∈ ["int", "bool", "tuple", "list", "str"]) (h : Dp K H v d) : kitB (tyN d) n = some (isi d n) := by
  refine kit_tab _ ?_ n hn
  cases h <;> simp [tyN]
theorem w_isi (h : Dp K H v d) (q : Q (.bl (isi d n)) H) (hn : n ∈ ["int", "bool", "tuple", "list", "str"] := by decide) : rIsi K [v, .ty n] H Q :=
  ⟨v, .ty n, _, _, _, rfl, .ty n, ty_dp h, kit_ty (kit_isi hn h), q⟩
theorem w_isiT {p : Addr} (h : Dp K H v d) (hp : H p = some (.tup [.ty "tuple", .ty "list"])) (q : Q (.bl (isi d "tuple" || isi d "list")) H) : rIsiT K [v, .ref p] H Q := by
  refine ⟨v, p, _, _, [.type "tuple", .type "list"], _, rfl, hp, .cons (.ty _) (.cons (.ty _) .nil), ty_dp h, ?_, q⟩
  refine kitAny_cons (kit_ty (kit_isi (by decide) h)) (fun e => ?_) (fun e => by rw [e]; rfl)
  refine kitAny_cons (kit_ty (kit_isi (by decide) h)) (fun e2 => ?_) (fun e2 => by rw [e2, Bool.or_true])
  rw [e, e2]
  exact kitAny_nil
def NewP (xs : List V) (Q : VK) (H1 : Hp) : Prop := xs.length ≤ sizeLine ∧ ∀ p, H1 p = none → Q (.ref p) (upd H1 p (.tup xs))
theorem w_tupP {σ : St} {tr : TA} (h : tr σ H fun xs H1 => NewP xs Q H1) : tTup tr σ H Q := h
theorem w_newTy {xs : List V} (hl : xs.length ≤ 1000) (h : ∀ p H', Ex H H' → H' p = some (.tup xs) → Q (.ref p) H') : NewP xs Q H :=
  ⟨Nat.le_trans hl (by decide), fun p hp => h p _ (Evl.Ex.new hp) upd_same⟩
theorem isi_ti {ds : List PyData} : isi (.tuple ds) "int" = false := by show isiS "tuple" "int" = false; decide
theorem isi_tt {ds : List PyData} : isi (.tuple ds) "tuple" = true := by show isiS "tuple" "tuple" = true; decide
theorem isi_tl {ds : List PyData} : isi (.tuple ds) "list" = false := by show isiS "tuple" "list" = false; decide
theorem isi_tb {ds : List PyData} : isi (.tuple ds) "bool" = false := by show isiS "tuple" "bool" = false; decide
theorem isi_ts {ds : List PyData} : isi (.tuple ds) "str" = false := by show isiS "tuple" "str" = false; decide
theorem isi_li {ds : List PyData} : isi (.list ds) "int" = false := by show isiS "list" "int" = false; decide
theorem isi_lt {ds : List PyData} : isi (.list ds) "tuple" = false := by show isiS "list" "tuple" = false; decide
theorem isi_ll {ds : List PyData} : isi (.list ds) "list" = true := by show isiS "list" "list" = true; decide
theorem isi_lb {ds : List PyData} : isi (.list ds) "bool" = false := by show isiS "list" "bool" = false; decide
theorem isi_ii {i : Int} : isi (.int i) "int" = true := by show isiS "int" "int" = true; decide
theorem isi_ib {i : Int} : isi (.int i) "bool" = false := by show isiS "int" "bool" = false; decide
theorem isi_it {i : Int} : isi (.int i) "tuple" = false := by show isiS "int" "tuple" = false; decide
theorem isi_il {i : Int} : isi (.int i) "list" = false := by show isiS "int" "list" = false; decide
theorem isi_is {i : Int} : isi (.int i) "str" = false := by show isiS "int" "str" = false; decide
theorem isi_bi {i : Bool} : isi (.bool i) "int" = true := by show isiS "bool" "int" = true; decide
theorem isi_bb {i : Bool} : isi (.bool i) "bool" = true := by show isiS "bool" "bool" = true; decide
theorem isi_bt {i : Bool} : isi (.bool i) "tuple" = false := by show isiS "bool" "tuple" = false; decide
theorem isi_bl {i : Bool} : isi (.bool i) "list" = false := by show isiS "bool" "list" = false; decide
theorem isi_bs {i : Bool} : isi (.bool i) "str" = false := by show isiS "bool" "str" = false; decide
theorem isi_ni : isi .none "int" = false := by decide
theorem isi_nt : isi .none "tuple" = false := by decide
theorem isi_nl : isi .none "list" = false := by decide
theorem isi_nb : isi .none "bool" = false := by decide
theorem isi_ns : isi .none "str" = false := by decide
theorem isi_si {x : Str} : isi (.str x) "int" = false := by show isiS "str" "int" = false; decide
theorem isi_st {x : Str} : isi (.str x) "tuple" = false := by show isiS "str" "tuple" = false; decide
theorem isi_sl {x : Str} : isi (.str x) "list" = false := by show isiS "str" "list" = false; decide
theorem isi_sb {x : Str} : isi (.str x) "bool" = false := by show isiS "str" "bool" = false; decide
theorem isi_ss {x : Str} : isi (.str x) "str" = true := by show isiS "str" "str" = true; decide
/-- len of data -/
def dlen : PyData → Nat
  | .list xs => xs.length
  | .tuple xs => xs.length
  | _ => 0
theorem w_lenT {ds : List PyData} (h : Dp K H v (.tuple ds)) (q : Q (.int (ds.length : Nat)) H) : rLenU K [v] H Q := by
  obtain ⟨p, xs, rfl, hp, ha⟩ := tup_inv h
  rw [← dpa_len ha] at q
  exact ⟨p, xs, rfl, .inr hp, q⟩
theorem w_lenL {ds : List PyData} (h : Dp K H v (.list ds)) (q : Q (.int (ds.length : Nat)) H) : rLenU K [v] H Q := by
  obtain ⟨p, xs, rfl, hp, ha⟩ := lst_inv h
  rw [← dpa_len ha] at q
  exact ⟨p, xs, rfl, .inl hp, q⟩
theorem w_lenS {p : Addr} {ys : List V} (h : SqL K H p ys) (q : Q (.int (ys.length : Nat)) H) : rLenU K [.ref p] H Q := ⟨p, ys, rfl, .inl h, q⟩
theorem w_isN (q : Q (.bl (decide (v = .non))) H) : rIsNU v .non H Q := ⟨rfl, q⟩
theorem w_notN (q : Q (.bl (!decide (v = .non))) H) : rNotNU v .non H Q := ⟨rfl, q⟩
theorem w_max2 {i j : Int} (q : Q (.int (max i j)) H) : rMaxU [.int i, .int j] H Q := by
  refine ⟨i, j, rfl, ?_⟩
  have e : (if j > i then j else i) = max i j := by split <;> omega
  rw [e]
  exact q
theorem w_min2 {i j : Int} (q : Q (.int (min i j)) H) : rMinU [.int i, .int j] H Q := by
  refine ⟨i, j, rfl, ?_⟩
  have e : (if j < i then j else i) = min i j := by split <;> omega
  rw [e]
  exact q
theorem w_shr {i : Int} {k : Nat} (q : Q (.int (i / 2 ^ k)) H) : rShrU (.int i) (.int (k : Int)) H Q := ⟨i, k, rfl, rfl, q⟩
theorem w_odd {i : Int} (h : 0 ≤ i) (q : Q (.int (i % 2)) H) : rOddU (.int i) (.int 1) H Q := ⟨i.toNat, by rw [Int.toNat_of_nonneg h], rfl, by
  have e : ((i.toNat % 2 : Nat) : Int) = i % 2 := by omega
  rw [e]; exact q⟩
theorem w_bits {σ : St} {to : TE} (h : to σ H fun x H1 => ∃ i, x = .int i ∧ Q (.int (Builtin.Int.intBits i : Nat)) H1) : tBits to σ H Q := h
theorem w_isint {R : Int → Prop} {i : Int} (h : R i) : ∃ i', V.int i = .int i' ∧ R i' := ⟨i, rfl, h⟩
end
theorem cxK {CX : CXT} {P : Program} {w : World} {K : PySem.W.Frag} {mg : Str → Option Value} {base : Heap} {N : List Str} {qual : Str} {scope : Scope} {f : Addr} {cd : Value} {A : Around} {outer : List Env} {s : Shared} {H : Hp} {E : XK} :
    (cxOf CX P w K mg base N qual scope f cd A outer s H E).nox.K = K := rfl
theorem cxK2 {CX : CXT} {P : Program} {w : World} {K : PySem.W.Frag} {mg : Str → Option Value} {base : Heap} {N : List Str} {qual : Str} {scope : Scope} {f : Addr} {cd : Value} {A : Around} {outer : List Env} {s : Shared} {H : Hp} {E : XK} :
    (cxOf CX P w K mg base N qual scope f cd A outer s H E).K = K := rfl
section
variable {K : PySem.W.Frag} {H H1 : Hp} {Q : VK} {v : V} {d d' : PyData}
theorem fin_b {b b' : Bool} (k : ∀ v H', Ex H H' → Dq K H' v (.bool b) → Q v H') (e : Ex H H1) (h : b' = b) : Q (.bl b') H1 := k _ _ e (by rw [h]; exact .bl _)
theorem fin_i {b b' : Int} (k : ∀ v H', Ex H H' → Dq K H' v (.int b) → Q v H') (e : Ex H H1) (h : b' = b) : Q (.int b') H1 := k _ _ e (by rw [h]; exact .int _)
theorem fin_d (k : ∀ v H', Ex H H' → Dq K H' v d → Q v H') (e : Ex H H1) (h : d' = d) (hd : Dq K H1 v d') : Q v H1 := k _ _ e (by rw [← h]; exact hd)
end
section
variable {K : PySem.W.Frag} {H : Hp} {Q : VK} {v o i : V} {σ : St} {to ti : TE} {QS : St → Hp → Prop}
def SetG (o i v : V) (QS : St → Hp → Prop) (σ : St) (H : Hp) : Prop := rSetL o i v H fun H3 => QS σ H3
theorem w_gsub (h : to σ H fun o H1 => ti σ H1 fun i H2 => SetG o i v QS σ H2) : gSub to ti rSetL v σ H QS := h
theorem w_setl {p : Addr} {xs : List V} {k : Int} {j : Nat} (h : H p = some (.lst xs)) (e : ixN xs.length k = some j) (q : ∀ H', H' = upd H p (.lst (xs.set j v)) → H' p = some (.lst (xs.set j v)) → QS σ H') : SetG (.ref p) (.int k) v QS σ H := ⟨p, xs, k, j, rfl, rfl, h, e, q _ rfl upd_same⟩
theorem w_neB {a b : Bool} (q : Q (.bl (!decide (a = b))) H) : rNeU K (.bl a) (.bl b) H Q := by
  refine .inl ⟨rfl, ?_⟩
  have e : decide (V.bl a = V.bl b) = decide (a = b) := by cases a <;> cases b <;> rfl
  rw [e]; exact q
theorem w_eqB {a b : Bool} (q : Q (.bl (decide (a = b))) H) : rEqU K (.bl a) (.bl b) H Q := by
  refine .inl ⟨rfl, ?_⟩
  have e : decide (V.bl a = V.bl b) = decide (a = b) := by cases a <;> cases b <;> rfl
  rw [e]; exact q
theorem w_eqS {a : Str} (q : Q (.bl true) H) : rEqU K (.str a) (.str a) H Q := by
  refine .inl ⟨rfl, ?_⟩
  rw [decide_eq_true rfl]; exact q
/-- xs[i] of a list of data -/
theorem w_ixld {ds : List PyData} {n : Int} {d : PyData} (h : Dp K H v (.list ds)) (e : atI ds n = some d) (q : ∀ v', Dp K H v' d → Q v' H) : rIx K v (.int n) H Q := by
  obtain ⟨p, xs, rfl, hp, ha⟩ := lst_inv h
  obtain ⟨u, h1, h2⟩ := Sk.dpa_atI ha e
  exact .inl ⟨p, xs, n, _, rfl, rfl, hp, h1, q u h2⟩
end
/-- builtins that no name of the text hides -/
structure Bu (mg : Str → Option Value) : Prop where
  z_len : mg "len" = none
  z_isinstance : mg "isinstance" = none
  z_abs : mg "abs" = none
  z_max : mg "max" = none
  z_min : mg "min" = none
  z_int : mg "int" = none
  z_bool : mg "bool" = none
  z_str : mg "str" = none
  z_tuple : mg "tuple" = none
  z_list : mg "list" = none
  z_range : mg "range" = none
  z_reversed : mg "reversed" = none
  z_gcd : mg "gcd" = some (.builtin "math.gcd")
def swap2 (zs : List V) : List V := match zs with | [a, b] => [b, a] | _ => zs
theorem swap2_eq (a b : V) : swap2 [a, b] = [b, a] := rfl
theorem len1 {ι : Type} {K : PySem.W.Frag} {args : ι → List PyData} {cond : ι → Prop} {res : ι → PyData} {n : Nat} (e : ∀ i, (args i).length = n) {vs : List V} {H : Hp} {Q : VK} {E : XK} (h : spF K args cond res vs H Q E) : vs.length = n := by
  obtain ⟨i, ha, _⟩ := h
  rw [dpa_len ha.dp, e]
theorem len2 {ι : Type} {K : PySem.W.Frag} {args : ι → List PyData} {cond : ι → Prop} {res : ι → PyData} {n : Nat} (e : ∀ i, (args i).length = n) {vs : List V} {H : Hp} {Q : VK} {E : XK} (h : spP K args cond res vs H Q E) : vs.length = n := by
  obtain ⟨i, ha, _⟩ := h
  rw [dpa_len ha, e]
theorem len3 {ι : Type} {K : PySem.W.Frag} {args : ι → List PyData} {cond : ι → Prop} {good : ι → PyData → Prop} {n : Nat} (e : ∀ i, (args i).length + 1 = n) {vs : List V} {H : Hp} {Q : VK} {E : XK} (h : spK K args cond good vs H Q E) : vs.length = n := by
  obtain ⟨i, a, vs', rfl, _, ha, _⟩ := h
  rw [List.length_cons, dpa_len ha.dp, e]
theorem len4 {ι : Type} {K : PySem.W.Frag} {args : ι → List PyData} {cond : ι → Prop} {good : ι → PyData → Prop} {n : Nat} (e : ∀ i, (args i).length + 1 = n) {vs : List V} {H : Hp} {Q : VK} {E : XK} (h : spKp K args cond good vs H Q E) : vs.length = n := by
  obtain ⟨i, a, vs', rfl, _, ha, _⟩ := h
  rw [List.length_cons, dpa_len ha.dp, e]
section
variable {K : PySem.W.Frag} {H : Hp} {vs : List V} {d1 d2 d3 : PyData}
theorem dpa1 (h : DpAll K H vs [d1]) : ∃ v, vs = [v] ∧ Dp K H v d1 := by
  cases h with | cons h1 h2 => cases h2; exact ⟨_, rfl, h1⟩
theorem dqa1 (h : DqAll K H vs [d1]) : ∃ v, vs = [v] ∧ Dq K H v d1 := by
  cases h with | cons h1 h2 => cases h2; exact ⟨_, rfl, h1⟩
theorem dqa2 (h : DqAll K H vs [d1, d2]) : ∃ v w, vs = [v, w] ∧ Dq K H v d1 ∧ Dq K H w d2 := by
  cases h with | cons h1 h2 => cases h2 with | cons h3 h4 => cases h4; exact ⟨_, _, rfl, h1, h3⟩
theorem dpa2 (h : DpAll K H vs [d1, d2]) : ∃ v w, vs = [v, w] ∧ Dp K H v d1 ∧ Dp K H w d2 := by
  cases h with | cons h1 h2 => cases h2 with | cons h3 h4 => cases h4; exact ⟨_, _, rfl, h1, h3⟩
end

set_option maxHeartbeats 2000000
open PySem PySem.Spec PyProof.Rows L2
open Evl (Ex ex_l ex_t)
section
variable {K : PySem.W.Frag} {H : Hp} {Q : VK} {v w : V} {σ : St} {te : TE} {tl th : TO} {D : Ends}
/-- a new list of data; a new tuple of data of any kind -/
theorem w_newLq {xs : List V} {ds : List PyData} (hl : xs.length ≤ 1000) (hd : DqAll K H xs ds) (h : ∀ p H', Ex H H' → H p = none → H' p = some (.lst xs) → DqAll K H' xs ds → Dq K H' (.ref p) (.list ds) → Q (.ref p) H') : NewL K xs Q H :=
  ⟨Nat.le_trans hl (by decide), fun p hp => h p _ (Evl.Ex.new hp) hp upd_same (hd.up (Evl.Ex.new hp)) (.lst (.inl (.inl upd_same)) (hd.up (Evl.Ex.new hp)))⟩
theorem w_newLp {xs : List V} {ds : List PyData} (hl : xs.length ≤ 1000) (hd : DpAll K H xs ds) (h : ∀ p H', Ex H H' → H p = none → H' p = some (.lst xs) → DpAll K H' xs ds → Dp K H' (.ref p) (.list ds) → Q (.ref p) H') : NewL K xs Q H :=
  ⟨Nat.le_trans hl (by decide), fun p hp => h p _ (Evl.Ex.new hp) hp upd_same (Sk.DpAll.up (Evl.Ex.new hp) hd) (.lst (.inl (.inl upd_same)) (Sk.DpAll.up (Evl.Ex.new hp) hd))⟩
theorem w_newTp {xs : List V} {ds : List PyData} (hl : xs.length ≤ 1000) (hd : DpAll K H xs ds) (h : ∀ p H', Ex H H' → Dp K H' (.ref p) (.tuple ds) → Q (.ref p) H') : NewT K xs Q H :=
  ⟨Nat.le_trans hl (by decide), fun p o hp ho => h p _ (Evl.Ex.new hp) (.tup (.inl (.inr ⟨o, upd_same⟩)) (Sk.DpAll.up (Evl.Ex.new hp) hd))⟩
theorem dqa_app : ∀ {xs ys : List V} {ds es : List PyData}, DqAll K H xs ds → DqAll K H ys es → DqAll K H (xs ++ ys) (ds ++ es)
  | _, _, _, _, .nil, s => s
  | _, _, _, _, .cons r t, s => .cons r (dqa_app t s)
theorem dpa_app : ∀ {xs ys : List V} {ds es : List PyData}, DpAll K H xs ds → DpAll K H ys es → DpAll K H (xs ++ ys) (ds ++ es)
  | _, _, _, _, .nil, s => s
  | _, _, _, _, .cons r t, s => .cons r (dpa_app t s)
theorem dpa_take : ∀ {xs : List V} {ds : List PyData} (n : Nat), DpAll K H xs ds → DpAll K H (xs.take n) (ds.take n)
  | _, _, 0, _ => .nil
  | _, _, _ + 1, .nil => .nil
  | _, _, n + 1, .cons r t => .cons r (dpa_take n t)
theorem dpa_drop : ∀ {xs : List V} {ds : List PyData} (n : Nat), DpAll K H xs ds → DpAll K H (xs.drop n) (ds.drop n)
  | _, _, 0, r => r
  | _, _, _ + 1, .nil => .nil
  | _, _, n + 1, .cons _ t => dpa_drop n t
theorem w_catQ {l b : Addr} {xs zs : List V} {ds es : List PyData} (h1 : H l = some (.lst xs)) (h2 : H b = some (.lst zs)) (g1 : DqAll K H xs ds) (g2 : DqAll K H zs es) (hl : ds.length + es.length ≤ 1000)
    (k : ∀ p H', Ex H H' → H' p = some (.lst (xs ++ zs)) → DqAll K H' (xs ++ zs) (ds ++ es) → Dq K H' (.ref p) (.list (ds ++ es)) → Q (.ref p) H') : rAddU K (.ref l) (.ref b) H Q := by
  have e1 := dpa_len g1.dp
  have e2 := dpa_len g2.dp
  refine .inr (.inl ⟨l, b, xs, zs, rfl, rfl, h1, h2, Nat.le_trans (by omega : xs.length + zs.length ≤ 1000) (by decide), fun p hp => ?_⟩)
  have g := (dqa_app g1 g2).up (Evl.Ex.new (o := .lst (xs ++ zs)) hp)
  exact k p _ (Evl.Ex.new hp) upd_same g (.lst (.inl (.inl upd_same)) g)
theorem w_catP {l b : Addr} {xs zs : List V} {ds es : List PyData} (h1 : H l = some (.lst xs)) (h2 : H b = some (.lst zs)) (g1 : DpAll K H xs ds) (g2 : DpAll K H zs es) (hl : ds.length + es.length ≤ 1000)
    (k : ∀ p H', Ex H H' → H' p = some (.lst (xs ++ zs)) → DpAll K H' (xs ++ zs) (ds ++ es) → Dp K H' (.ref p) (.list (ds ++ es)) → Q (.ref p) H') : rAddU K (.ref l) (.ref b) H Q := by
  have e1 := dpa_len g1
  have e2 := dpa_len g2
  refine .inr (.inl ⟨l, b, xs, zs, rfl, rfl, h1, h2, Nat.le_trans (by omega : xs.length + zs.length ≤ 1000) (by decide), fun p hp => ?_⟩)
  have g := Sk.DpAll.up (Evl.Ex.new (o := .lst (xs ++ zs)) hp) (dpa_app g1 g2)
  exact k p _ (Evl.Ex.new hp) upd_same g (.lst (.inl (.inl upd_same)) g)
/-- t + u of tuples -/
theorem w_catT {ds es : List PyData} (h1 : Dp K H v (.tuple ds)) (h2 : Dp K H w (.tuple es)) (hl : ds.length + es.length ≤ 1000) (k : ∀ v' H', Ex H H' → Dp K H' v' (.tuple (ds ++ es)) → Q v' H') : rAddU K v w H Q := by
  obtain ⟨p, xs, rfl, hp, ha⟩ := tup_inv h1
  obtain ⟨q, ys, rfl, hq, hb⟩ := tup_inv h2
  have e1 := dpa_len ha
  have e2 := dpa_len hb
  refine .inr (.inr ⟨p, q, xs, ys, rfl, rfl, hp, hq, Nat.le_trans (by omega : xs.length + ys.length ≤ 1000) (by decide), fun ex => ?_, fun ex ey => ?_, fun ex ey r hr => ?_⟩)
  · subst ex
    have : ds = [] := List.length_eq_zero_iff.mp e1.symm
    subst this
    exact k _ _ (Evl.Ex.refl H) h2
  · subst ey
    have : es = [] := List.length_eq_zero_iff.mp e2.symm
    subst this
    rw [List.append_nil] at k
    exact k _ _ (Evl.Ex.refl H) h1
  · exact k _ _ (Evl.Ex.new hr) (.tup (.inl (.inl upd_same)) (Sk.DpAll.up (Evl.Ex.new hr) (dpa_app ha hb)))
/-- t[lo:hi] -/
def cutD (ds : List PyData) (lo hi : Option Int) : List PyData := (ds.drop (HT.sIx ds.length 0 lo)).take (HT.sIx ds.length ds.length hi - HT.sIx ds.length 0 lo)
theorem w_slT {ds : List PyData} {lo hi : Option Int} (h1 : Dp K H v (.tuple ds)) (k : ∀ v' H', Ex H H' → Dp K H' v' (.tuple (cutD ds lo hi)) → Q v' H') : rSlU K v lo hi H Q := by
  obtain ⟨p, xs, rfl, hp, ha⟩ := tup_inv h1
  have e1 := dpa_len ha
  have hc : DpAll K H (cutV xs lo hi) (cutD ds lo hi) := by
    unfold cutV cutD
    rw [e1]
    exact dpa_take _ (dpa_drop _ ha)
  refine .inl ⟨p, xs, rfl, hp, fun hw => ?_, fun _ r hr => ?_⟩
  · refine k _ _ (Evl.Ex.refl H) (.tup hp ?_)
    have : cutV xs lo hi = xs := by
      unfold cutV
      rw [hw.1, hw.2, List.drop_zero, Nat.sub_zero, List.take_length]
    rw [this] at hc
    exact hc
  · exact k _ _ (Evl.Ex.new hr) (.tup (.inl (.inl upd_same)) (Sk.DpAll.up (Evl.Ex.new hr) hc))
def OptG (R : V → Hp → (Option Int → Hp → Prop) → Prop) := R
theorem w_sl {r : V → Option Int → Option Int → Hp → VK → Prop} (h : te σ H fun x H1 => tl σ H1 fun l H2 => th σ H2 fun u H3 => r x l u H3 Q) : tSl r te tl th σ H Q := h
theorem w_nopart {QO : Option Int → Hp → Prop} (h : QO none H) : tNoPart σ H QO := h
def PartG (QO : Option Int → Hp → Prop) (x : V) (H1 : Hp) : Prop := ∃ i, x = .int i ∧ QO (some i) H1
theorem w_part {QO : Option Int → Hp → Prop} (h : te σ H fun x H1 => PartG QO x H1) : tPart te σ H QO := h
theorem w_partg {QO : Option Int → Hp → Prop} {i : Int} (h : QO (some i) H) : PartG QO (.int i) H := ⟨i, rfl, h⟩
/-- an item of a list at a place that is not known -/
theorem w_ixany {p : Addr} {xs : List V} {ds : List PyData} {r : Int} (h : SqL K H p xs) (g : DqAll K H xs ds) (h0 : 0 ≤ r) (h1 : r < (ds.length : Nat)) (q : ∀ d v, d ∈ ds → Dq K H v d → Q v H) : rIx K (.ref p) (.int r) H Q := by
  have hx : ds[r.toNat]? = some (ds[r.toNat]'(by omega)) := List.getElem?_eq_getElem (by omega)
  have hat : atI ds r = some (ds[r.toNat]'(by omega)) := by
    have := atI_nat hx
    rwa [Int.toNat_of_nonneg h0] at this
  obtain ⟨u, e, hu⟩ := dqa_atQ g hat
  exact .inl ⟨p, xs, r, u, rfl, rfl, h, e, q _ _ (List.getElem_mem _) hu⟩
theorem w_ixanyp {p : Addr} {xs : List V} {ds : List PyData} {r : Int} (h : SqL K H p xs) (g : DpAll K H xs ds) (h0 : 0 ≤ r) (h1 : r < (ds.length : Nat)) (q : ∀ d v, d ∈ ds → Dp K H v d → Q v H) : rIx K (.ref p) (.int r) H Q := by
  have hx : ds[r.toNat]? = some (ds[r.toNat]'(by omega)) := List.getElem?_eq_getElem (by omega)
  have hat : atI ds r = some (ds[r.toNat]'(by omega)) := by
    have := atI_nat hx
    rwa [Int.toNat_of_nonneg h0] at this
  obtain ⟨u, e, hu⟩ := Sk.dpa_atI g hat
  exact .inl ⟨p, xs, r, u, rfl, rfl, h, e, q _ _ (List.getElem_mem _) hu⟩
/-- ints gathered by a comprehension over a range -/
theorem w_lcInts {g : TG} {te : TE} {vs : List Nat} {m : Nat} {p : Int → Prop} (hm : m ≤ 1000)
    (hs : ∀ (i : Nat) H' (Qy : V → Hp → Prop), i < m → Ex H H' → (∀ z H4, Ex H' H4 → p z → Qy (.int z) H4) → g (.int (0 + (i : Nat))) (wipe σ vs) H' fun σ2 H2 => wipe σ2 vs = wipe σ vs ∧ te σ2 H2 Qy)
    (hd : ∀ q (ns : List Int) H', Ex H H' → H' q = some (.lst (ns.map V.int)) → ns.length = m → (∀ z ∈ ns, p z) → Q (.ref q) H') : LcG 0 m g tYes te vs σ H Q := by
  have st : ∀ (i : Nat) acc (H' : Hp) (l : Addr) (xs ys : List V), H' l = some (.lst xs) → (∃ ns : List Int, acc = ns.map V.int ∧ ns.length = i ∧ ∀ z ∈ ns, p z) → (∃ ns : List Int, acc = ns.map V.int ∧ ns.length = i ∧ ∀ z ∈ ns, p z) := fun _ _ _ _ _ _ _ h => h
  refine w_lcg (fun i acc _ => ∃ ns : List Int, acc = ns.map V.int ∧ ns.length = i ∧ ∀ z ∈ ns, p z) hm (fun _ _ => ⟨[], rfl, rfl, fun _ z => nomatch z⟩) st (fun i acc _ h => by obtain ⟨ns, rfl, h2, _⟩ := h; rw [List.length_map]; omega) (fun Dl i acc H' hi hD h1 e1 hp => ?_) (fun q acc H' e h hp => ?_)
  · have := hs i H' (fun y H4 => ∃ acc, H4 Dl = some (.lst acc) ∧ acc.length < sizeLine ∧ LcW (fun i acc _ => ∃ ns : List Int, acc = ns.map V.int ∧ ns.length = i ∧ ∀ z ∈ ns, p z) H Dl (i + 1) (upd H4 Dl (.lst (acc ++ [y])))) hi e1 (fun z H4 e4 pz => ?_)
    · exact this
    · obtain ⟨ns, rfl, h2, h3⟩ := hp
      refine w_lct (P := fun i acc _ => ∃ ns : List Int, acc = ns.map V.int ∧ ns.length = i ∧ ∀ z ∈ ns, p z) hD h1 e1 e4 (by rw [List.length_map]; omega) st ⟨ns ++ [z], by rw [List.map_append]; rfl, by rw [List.length_append]; simp; omega, fun y hy => ?_⟩
      rcases List.mem_append.mp hy with hy | hy
      · exact h3 y hy
      · rw [List.mem_singleton.mp hy]; exact pz
  · obtain ⟨ns, rfl, h2, h3⟩ := hp
    exact hd q ns H' e h h2 h3
theorem pr_upd {a b : Int} {l : Addr} {xs ys : List V} (h : H l = some (.lst xs)) (hd : Dq K H v (pr a b)) : Dq K (upd H l (.lst ys)) v (pr a b) := by
  obtain ⟨p, zs, rfl, ⟨h1, h2⟩, ha⟩ := qtup_inv hd
  refine .tup (xs := zs) ⟨?_, ?_⟩ ?_
  · rcases h1 with (h1 | ⟨o, h1⟩) | h1
    · exact .inl (.inl (by rw [upd_ne (ne_of h1 h (by intro z; cases z))]; exact h1))
    · exact .inl (.inr ⟨o, by rw [upd_ne (ne_of h1 h (by intro z; cases z))]; exact h1⟩)
    · exact .inr h1
  · rcases h2 with ⟨o, u, e, d⟩ | h2
    · exact .inl ⟨o, u, by rw [upd_ne (ne_of e h (by intro z; cases z))]; exact e, d⟩
    · exact .inr h2
  · cases ha with
    | cons r1 r2 => cases r2 with
      | cons r3 r4 =>
        cases r4
        rw [qint_inv r1, qint_inv r3]
        exact .cons (.int a) (.cons (.int b) .nil)
/-- pairs gathered by a comprehension -/
theorem w_lcPairs {g : TG} {te : TE} {vs : List Nat} {m : Nat} {p : Int × Int → Prop} (hm : m ≤ 1000)
    (hs : ∀ (i : Nat) H' (Qy : V → Hp → Prop), i < m → Ex H H' → (∀ z v H4, Ex H' H4 → p z → Dq K H4 v (pr z.1 z.2) → Qy v H4) → g (.int (0 + (i : Nat))) (wipe σ vs) H' fun σ2 H2 => wipe σ2 vs = wipe σ vs ∧ te σ2 H2 Qy)
    (hd : ∀ q xs (ns : List (Int × Int)) H', Ex H H' → H' q = some (.lst xs) → DqAll K H' xs (ns.map fun z => pr z.1 z.2) → ns.length = m → (∀ z ∈ ns, p z) → Q (.ref q) H') : LcG 0 m g tYes te vs σ H Q := by
  have aux : ∀ (H' : Hp) (l : Addr) (xs ys : List V), H' l = some (.lst xs) → ∀ (ns : List (Int × Int)) acc, DqAll K H' acc (ns.map fun z => pr z.1 z.2) → DqAll K (upd H' l (.lst ys)) acc (ns.map fun z => pr z.1 z.2) := by
    intro H' l xs ys hl ns
    induction ns with
    | nil => intro acc h; cases h; exact .nil
    | cons n ns ih =>
      intro acc h
      cases h with
      | cons h1 h2 => exact .cons (pr_upd hl h1) (ih _ h2)
  have st : ∀ (i : Nat) acc (H' : Hp) (l : Addr) (xs ys : List V), H' l = some (.lst xs) → (∃ ns : List (Int × Int), DqAll K H' acc (ns.map fun z => pr z.1 z.2) ∧ ns.length = i ∧ ∀ z ∈ ns, p z) → (∃ ns : List (Int × Int), DqAll K (upd H' l (.lst ys)) acc (ns.map fun z => pr z.1 z.2) ∧ ns.length = i ∧ ∀ z ∈ ns, p z) :=
    fun _ _ _ _ _ _ hl ⟨ns, h1, h2⟩ => ⟨ns, aux _ _ _ _ hl _ _ h1, h2⟩
  refine w_lcg (fun i acc H' => ∃ ns : List (Int × Int), DqAll K H' acc (ns.map fun z => pr z.1 z.2) ∧ ns.length = i ∧ ∀ z ∈ ns, p z) hm (fun _ _ => ⟨[], .nil, rfl, fun _ z => nomatch z⟩) st (fun i acc _ h => by obtain ⟨ns, h1, h2, _⟩ := h; rw [dpa_len h1.dp, List.length_map]; omega) (fun Dl i acc H' hi hD h1 e1 hp => ?_) (fun q acc H' e h hp => ?_)
  · have := hs i H' (fun y H4 => ∃ acc, H4 Dl = some (.lst acc) ∧ acc.length < sizeLine ∧ LcW (fun i acc H' => ∃ ns : List (Int × Int), DqAll K H' acc (ns.map fun z => pr z.1 z.2) ∧ ns.length = i ∧ ∀ z ∈ ns, p z) H Dl (i + 1) (upd H4 Dl (.lst (acc ++ [y])))) hi e1 (fun z v H4 e4 pz hv => ?_)
    · exact this
    · obtain ⟨ns, ha, h2, h3⟩ := hp
      refine w_lct (P := fun i acc H' => ∃ ns : List (Int × Int), DqAll K H' acc (ns.map fun z => pr z.1 z.2) ∧ ns.length = i ∧ ∀ z ∈ ns, p z) hD h1 e1 e4 (by rw [dpa_len ha.dp, List.length_map]; omega) st ⟨ns ++ [z], ?_, by rw [List.length_append]; simp; omega, fun y hy => ?_⟩
      · rw [List.map_append]
        exact dqa_app (ha.up e4) (.cons hv .nil)
      · rcases List.mem_append.mp hy with hy | hy
        · exact h3 y hy
        · rw [List.mem_singleton.mp hy]; exact pz
  · obtain ⟨ns, ha, h2, h3⟩ := hp
    exact hd q acc ns H' e h ha h2 h3
/-- tuple(l) -/
theorem w_tupOf {p : Addr} {xs : List V} {ds : List PyData} (h : SqL K H p xs) (g : DqAll K H xs ds) (q : ∀ r H', Ex H H' → Dq K H' (.ref r) (.tuple ds) → Q (.ref r) H') : kTupF K (.ref p) H Q :=
  ⟨p, xs, rfl, h, fun r o hr ho => q r _ (Evl.Ex.new hr) (.tup ⟨.inl (.inr ⟨o, upd_same⟩), .inl ⟨o, _, upd_same, ho⟩⟩ (g.up (Evl.Ex.new hr)))⟩
/-- [x] * 2 -/
theorem w_rep2 {l : Addr} {x : V} (h : H l = some (.lst [x])) (q : ∀ p H', Ex H H' → H' p = some (.lst [x, x]) → Q (.ref p) H') : rMulU (.ref l) (.int 2) H Q :=
  .inr ⟨l, 2, [x], rfl, rfl, h, by decide, by decide, (show 2 ≤ sizeLine by decide), fun p hp => q p _ (Evl.Ex.new hp) upd_same⟩
theorem w_kw1 {sp : Sp} {n : Nat} (e : 1 = n) (h : sp [v] H Q noX) : [v].length = n ∧ sp ((fun zs => zs) [v]) H Q noX := ⟨e, h⟩
theorem w_kw2 {sp : Sp} {n : Nat} (e : 2 = n) (h : sp [w, v] H Q noX) : [v, w].length = n ∧ sp (swap2 [v, w]) H Q noX := ⟨e, h⟩
/-- l * n -/
theorem w_rep {l : Addr} {xs : List V} {ds : List PyData} {n : Int} (h : H l = some (.lst xs)) (g : DqAll K H xs ds) (h0 : 0 ≤ n) (h1 : n ≤ 100) (h2 : xs.length ≤ 100)
    (q : ∀ p H', Ex H H' → H' p = some (.lst (List.flatten (List.replicate n.toNat xs))) → DqAll K H' (List.flatten (List.replicate n.toNat xs)) (List.flatten (List.replicate n.toNat ds)) → Q (.ref p) H') : rMulU (.ref l) (.int n) H Q := by
  refine .inr ⟨l, n, xs, rfl, rfl, h, by omega, by omega, ?_, fun p hp => ?_⟩
  · have : xs.length * n.toNat ≤ 100 * 100 := Nat.mul_le_mul h2 (by omega)
    exact Nat.le_trans this (by decide)
  · have aux : ∀ k : Nat, DqAll K H (List.flatten (List.replicate k xs)) (List.flatten (List.replicate k ds)) := by
      intro k
      induction k with
      | zero => exact .nil
      | succ k ih =>
        rw [List.replicate_succ, List.replicate_succ, List.flatten_cons, List.flatten_cons]
        exact dqa_app g ih
    exact q p _ (Evl.Ex.new hp) upd_same ((aux _).up (Evl.Ex.new hp))
end

open PySem PySem.Spec PyProof.Rows L2
section
variable {P : Program} {w : World} {K : PySem.W.Frag} {mg : Str → Option Value} {base : Heap} {x : Str} {st : Stmt} {f : Addr} {fd : FuncData} {k : Nat} {ps : List Str} {sp : Sp} {p q : Str}
theorem cal_mk (F : Fun K x x st f fd) (G : FnOk P w K mg base CX0 k f fd ps sp) (m : mg x = some (.ref f)) (b : Binds K fd ps []) : Cal P w K mg base k x ps sp :=
  ⟨f, fd, G, m, F.kp, b⟩
theorem calk1 (F : Fun K x x st f fd) (G : FnOk P w K mg base CX0 k f fd [p] sp) (m : mg x = some (.ref f))
    (h : ∀ (kV doc pm : Value) (an : Option Addr) (cdv ct : Value) (u : Value), bindArgs (PySem.W.fnOf x x (defArgs st) (defBody st) (defScope st) .none kV doc pm an cdv ct) ⟨[], [(p, u)]⟩ = pure [(p, u)]) : CalK P w K mg base k x [p] [p] (fun zs => zs) sp := by
  obtain ⟨oc, od, kV, doc, pm, an, cdv, ct, osl, e, lk, hcd⟩ := F.ex
  refine ⟨f, fd, fun ws => ws, G, m, F.kp, fun s ws hl => ?_, fun zs ws _ r => r⟩
  subst e
  match ws, hl with
  | [u], _ => exact .of_eq (h kV doc pm an cdv ct u)
theorem calk2 (F : Fun K x x st f fd) (G : FnOk P w K mg base CX0 k f fd [p, q] sp) (m : mg x = some (.ref f))
    (h : ∀ (kV doc pm : Value) (an : Option Addr) (cdv ct : Value) (u v : Value), bindArgs (PySem.W.fnOf x x (defArgs st) (defBody st) (defScope st) .none kV doc pm an cdv ct) ⟨[], [(q, v), (p, u)]⟩ = pure [(p, u), (q, v)]) : CalK P w K mg base k x [p, q] [q, p] swap2 sp := by
  obtain ⟨oc, od, kV, doc, pm, an, cdv, ct, osl, e, lk, hcd⟩ := F.ex
  refine ⟨f, fd, fun ws => match ws with | [a, b] => [b, a] | _ => ws, G, m, F.kp, fun s ws hl => ?_, fun zs ws hl r => ?_⟩
  · subst e
    match ws, hl with
    | [v, u], _ => exact .of_eq (h kV doc pm an cdv ct u v)
  · match zs, ws, hl, r with
    | [_, _], [_, _], _, .cons a (.cons b .nil) => exact .cons b (.cons a .nil)
    | [_, _], [], _, r => cases r
    | [_, _], [_], _, r => cases r with | cons _ t => cases t
    | [_, _], _ :: _ :: _ :: _, _, r => cases r with | cons _ t => cases t with | cons _ t => cases t
/-- a pair of ints of the written part -/
theorem wr_pair {H : Hp} {a : Addr} {i j : Int} {t u : Tok} {n : Nat} {sl : Array (Option Value)} (h : K.lookup a = some ⟨.type "tuple", none, .seq #[.int i t, .int j u] n, sl⟩) : Dq K H (.ref a) (.tuple [.int i, .int j]) :=
  .tup (xs := [.int i, .int j]) ⟨.inr ⟨_, _, _, h, rfl, rfl, (show 2 ≤ sizeLine by decide), .cons ⟨t, rfl⟩ (.cons ⟨u, rfl⟩ .nil)⟩, .inr ⟨_, h, rfl⟩⟩ (.cons (.int i) (.cons (.int j) .nil))
theorem wr_two {H : Hp} {a b c : Addr} {d1 d2 : PyData} {n : Nat} {sl : Array (Option Value)} (h : K.lookup a = some ⟨.type "tuple", none, .seq #[.ref b, .ref c] n, sl⟩) (h1 : Dq K H (.ref b) d1) (h2 : Dq K H (.ref c) d2) : Dq K H (.ref a) (.tuple [d1, d2]) :=
  .tup (xs := [.ref b, .ref c]) ⟨.inr ⟨_, _, _, h, rfl, rfl, (show 2 ≤ sizeLine by decide), .cons rfl (.cons rfl .nil)⟩, .inr ⟨_, h, rfl⟩⟩ (.cons h1 (.cons h2 .nil))
end

set_option maxHeartbeats 1000000
open PySem PySem.Spec PyProof.Rows L2
open Evl (Ex ex_l ex_t)
local macro_rules | `(tactic| lcg_sub) => `(tactic| first | exact Evl.Ex.refl _ | assumption | (refine Evl.Ex.trans ?_ (by assumption); lcg_sub))
local macro_rules | `(tactic| keq_rows) => `(tactic| first | with_reducible exact Dq.int _ | with_reducible exact Dq.bl _ | with_reducible exact Dq.non | with_reducible exact Dq.str _ | assumption | ((refine' Dq.up ?e ?h); (case e => assumption); (case h => keq_rows)))
local macro_rules | `(tactic| k_subL) => `(tactic| first | with_reducible exact DqAll.nil | assumption | ((with_reducible refine' DqAll.cons ?a ?b); (case a => (keq_rows)); (case b => (k_subL))) | ((refine' DqAll.up ?e ?h); (case e => assumption); (case h => assumption)) | ((refine' DqAll.up ?e (DqAll.up ?f ?h)); (case e => assumption); (case f => assumption); (case h => assumption)) | ((refine' DqAll.up ?e (DqAll.up ?f (DqAll.up ?g ?h))); (case e => assumption); (case f => assumption); (case g => assumption); (case h => assumption)))
local macro_rules | `(tactic| keq_hits) => `(tactic| first | with_reducible exact L2.Dp.int _ | with_reducible exact L2.Dp.bl _ | with_reducible exact L2.Dp.non | with_reducible exact L2.Dp.str _ | assumption | exact Dq.dp (by assumption) | ((refine' Sk.Dp.up ?e ?h); (case e => assumption); (case h => keq_hits)))
local macro_rules | `(tactic| k_clsL) => `(tactic| first | with_reducible exact L2.DpAll.nil | assumption | ((with_reducible refine' L2.DpAll.cons ?a ?b); (case a => (keq_hits)); (case b => (k_clsL))) | exact DqAll.dp (by assumption) | ((refine' Sk.DpAll.up ?e ?h); (case e => assumption); (case h => assumption)) | ((refine' Sk.DpAll.up ?e (Sk.DpAll.up ?f ?h)); (case e => assumption); (case f => assumption); (case h => assumption)) | ((refine' Sk.DpAll.up ?e (Sk.DpAll.up ?f (Sk.DpAll.up ?g ?h))); (case e => assumption); (case f => assumption); (case g => assumption); (case h => assumption)))
local macro_rules | `(tactic| k_offL) => `(tactic| first | assumption | ((refine' at_up ?e ?h); (case e => assumption); (case h => k_offL)))
local macro_rules | `(tactic| lcg_off) => `(tactic| first | assumption | exact .inl (.inl (by assumption)) | ((refine' Evl.ex_l ?e ?h); (case e => assumption); (case h => lcg_off)))
local macro_rules | `(tactic| kas_types) => `(tactic| first
  | ((with_reducible refine' w_var ?h ?q); (case h => exact rfl))
  | with_reducible refine w_op ?_ | with_reducible refine w_c ?_ | with_reducible refine w_I0 ?_ | with_reducible refine w_addI ?_ | with_reducible refine w_bl ?_
  | with_reducible refine w_cons ?_ | with_reducible refine w_nil ?_ | with_reducible refine w_seq ?_ | with_reducible refine w_ift ?_ | with_reducible refine w_iff ?_
  | with_reducible refine w_call ?_ | with_reducible refine w_cb ?_ | with_reducible refine w_asg ?_ | ((with_reducible refine w_gname ?_); (try dsimp only [List.set]))
  | with_reducible refine w_if ?_ | with_reducible refine w_test ?_ | with_reducible refine w_B ?_ | with_reducible refine w_not ?_ | with_reducible refine w_and ?_ | with_reducible refine w_or ?_
  | with_reducible refine w_ret ?_ | with_reducible refine w_drop ?_ | with_reducible refine w_next ?_ | with_reducible refine w_retN ?_ | with_reducible refine w_andV ?_ | with_reducible refine w_orV ?_ | with_reducible refine w_notV ?_ | with_reducible refine w_ifE ?_ | with_reducible refine w_chain ?_
  | with_reducible refine w_yes ?_ | with_reducible refine w_un ?_ | with_reducible refine w_neg ?_ | with_reducible refine w_eqI ?_ | with_reducible refine w_neI ?_ | with_reducible refine w_abs ?_ | with_reducible refine w_int ?_ | with_reducible refine w_gcd ?_
  | with_reducible refine w_max2 ?_ | with_reducible refine w_min2 ?_ | with_reducible refine w_shr ?_ | with_reducible refine w_bits ?_ | with_reducible refine w_isint ?_ | with_reducible refine w_isN ?_ | with_reducible refine w_notN ?_
  | with_reducible refine w_tupF ?_ | with_reducible refine w_lst ?_ | with_reducible refine w_then ?_ | with_reducible refine w_callW ?_ | with_reducible refine w_par ?_ | with_reducible refine w_cnt ?_ | with_reducible refine w_forrev ?_ | with_reducible refine w_for1 ?_ | with_reducible refine w_for2 ?_ | with_reducible refine w_lc1 ?_ | with_reducible refine w_tupP ?_
  | ((with_reducible refine w_two ?_); (try dsimp only [List.set]))
  | with_reducible refine w_sl ?_ | with_reducible refine w_nopart ?_ | with_reducible refine w_part ?_ | with_reducible refine w_partg ?_
  | with_reducible refine w_gsub ?_ | with_reducible refine w_neB ?_ | with_reducible refine w_eqB ?_ | with_reducible refine w_eqS ?_
  | with_reducible refine w_gcons ?_ | with_reducible refine w_gnil ?_
  | ((with_reducible refine w_itf ?e ?_); (case e => exact rfl))
  | ((with_reducible refine w_itt ?e ?_); (case e => exact rfl))
  | ((with_reducible refine' w_gtup_ii ?h ?_); (case h => (keq_rows)))
  | ((with_reducible refine' w_gtup_2 ?h ?_); (case h => (keq_rows)); intro _ _ _ _)
  | ((with_reducible refine' w_gtupp_ii ?h ?_); (case h => (keq_hits)))
  | ((with_reducible refine' w_gtupp_2 ?h ?_); (case h => (keq_hits)); intro _ _ _ _)
  | ((with_reducible refine' w_isi ?h ?_); (case h => (keq_hits)))
  | ((with_reducible refine' w_isiT ?h ?e ?_); (case h => (keq_hits)); (case e => (k_offL)))
  | ((with_reducible refine' w_lenT ?h ?_); (case h => (keq_hits)))
  | ((with_reducible refine' w_lenL ?h ?_); (case h => (keq_hits)))
  | ((with_reducible refine' w_ixi ?h ?e ?_); (case h => (keq_rows)); (case e => exact rfl))
  | ((with_reducible refine' w_ix ?h ?e ?_); (case h => (keq_rows)); (case e => exact rfl); intro _ _)
  | ((with_reducible refine' w_ixpi ?h ?e ?_); (case h => (keq_hits)); (case e => exact rfl))
  | ((with_reducible refine' w_ixp ?h ?e ?_); (case h => (keq_hits)); (case e => exact rfl); intro _ _)
  | ((with_reducible refine' w_ixl ?h ?e ?_); (case h => (lcg_off)); (case e => exact rfl))
  | ((with_reducible refine' w_lenS ?h ?_); (case h => (lcg_off)))
  | ((with_reducible refine' w_slT ?h ?_); (case h => (keq_hits)); intro _ _ _ _)
  | ((with_reducible refine' w_catT ?h1 ?h2 ?hl ?_); (case h1 => (keq_hits)); (case h2 => (keq_hits)); (case hl => exact Nat.le_of_ble_eq_true rfl); intro _ _ _ _)
  | ((with_reducible refine' w_kw1 ?e ?_); (case e => exact rfl))
  | ((with_reducible refine' w_kw2 ?e ?_); (case e => exact rfl))
  | ((with_reducible refine' w_rep2 ?h ?_); (case h => (k_offL)); intro _ _ _ _)
  | ((with_reducible refine' w_cntg ?h ?_); (case h => (keq_rows)))
  | ((with_reducible refine' w_newT ?l ?d ?_); (case l => exact Nat.le_of_ble_eq_true rfl); (case d => (k_subL)); intro _ _ _ _)
  | ((with_reducible refine' w_newTp ?l ?d ?_); (case l => exact Nat.le_of_ble_eq_true rfl); (case d => (k_clsL)); intro _ _ _ _)
  | ((with_reducible refine' w_newLq ?l ?d ?_); (case l => exact Nat.le_of_ble_eq_true rfl); (case d => (k_subL)); intro _ _ _ _ _ _ _)
  | ((with_reducible refine' w_newLp ?l ?d ?_); (case l => exact Nat.le_of_ble_eq_true rfl); (case d => (k_clsL)); intro _ _ _ _ _ _ _)
  | ((with_reducible refine' w_newTy ?l ?_); (case l => exact Nat.le_of_ble_eq_true rfl); intro _ _ _ _))
def top (i : Nat) : Stmt := PySem.Challenge.pw_selfkits_k01_whole_tables.main.body.getD i (.Pass ⟨0, 0, 0, 0⟩)
abbrev s_is_integer : Stmt := top 8
theorem sc_is_integer : FnScope ["told"] ["told"] (defScope s_is_integer) := ⟨rfl, rfl, rfl, by decide +kernel, rfl, by decide +kernel, by decide +kernel⟩
abbrev s_is_pair : Stmt := top 9
theorem sc_is_pair : FnScope ["told"] ["told"] (defScope s_is_pair) := ⟨rfl, rfl, rfl, by decide +kernel, rfl, by decide +kernel, by decide +kernel⟩
abbrev s_is_offset : Stmt := top 10
theorem sc_is_offset : FnScope ["told"] ["told"] (defScope s_is_offset) := ⟨rfl, rfl, rfl, by decide +kernel, rfl, by decide +kernel, by decide +kernel⟩
abbrev s_is_number : Stmt := top 11
theorem sc_is_number : FnScope ["told"] ["told"] (defScope s_is_number) := ⟨rfl, rfl, rfl, by decide +kernel, rfl, by decide +kernel, by decide +kernel⟩
abbrev s_is_point : Stmt := top 12
theorem sc_is_point : FnScope ["told"] ["told"] (defScope s_is_point) := ⟨rfl, rfl, rfl, by decide +kernel, rfl, by decide +kernel, by decide +kernel⟩
abbrev s_lowest : Stmt := top 13
theorem sc_lowest : FnScope ["top", "bottom", "part"] ["top", "bottom"] (defScope s_lowest) := ⟨rfl, rfl, rfl, by decide +kernel, rfl, by decide +kernel, by decide +kernel⟩
abbrev s_is_table : Stmt := top 16
theorem sc_is_table : FnScope ["told"] ["told"] (defScope s_is_table) := ⟨rfl, rfl, rfl, by decide +kernel, rfl, by decide +kernel, by decide +kernel⟩
abbrev s_is_growing : Stmt := top 17
theorem sc_is_growing : FnScope ["told", "area"] ["told"] (defScope s_is_growing) := ⟨rfl, rfl, rfl, by decide +kernel, rfl, by decide +kernel, by decide +kernel⟩
abbrev s_determinant : Stmt := top 18
theorem sc_determinant : FnScope ["table", "a", "b", "c", "d"] ["table"] (defScope s_determinant) := ⟨rfl, rfl, rfl, by decide +kernel, rfl, by decide +kernel, by decide +kernel⟩
abbrev s_trace : Stmt := top 19
theorem sc_trace : FnScope ["table"] ["table"] (defScope s_trace) := ⟨rfl, rfl, rfl, by decide +kernel, rfl, by decide +kernel, by decide +kernel⟩
abbrev s_times : Stmt := top 20
theorem sc_times : FnScope ["table", "offset", "x", "y", "a", "b", "c", "d"] ["table", "offset"] (defScope s_times) := ⟨rfl, rfl, rfl, by decide +kernel, rfl, by decide +kernel, by decide +kernel⟩
abbrev s_product : Stmt := top 21
theorem sc_product : FnScope ["one", "other", "a", "b", "c", "d", "p", "q", "r", "s"] ["one", "other"] (defScope s_product) := ⟨rfl, rfl, rfl, by decide +kernel, rfl, by decide +kernel, by decide +kernel⟩
abbrev s_power : Stmt := top 22
theorem sc_power : FnScope ["table", "n", "told", "at"] ["table", "n"] (defScope s_power) := ⟨rfl, rfl, rfl, by decide +kernel, rfl, by decide +kernel, by decide +kernel⟩
abbrev s_undone : Stmt := top 23
theorem sc_undone : FnScope ["table", "point", "bottom", "x", "y", "a", "b", "c", "d", "x_bottom", "y_bottom"] ["table", "point"] (defScope s_undone) := ⟨rfl, rfl, rfl, by decide +kernel, rfl, by decide +kernel, by decide +kernel⟩
abbrev s_axes : Stmt := top 24
theorem sc_axes : FnScope ["table", "here", "n"] ["table"] (defScope s_axes) := ⟨rfl, rfl, rfl, by decide +kernel, rfl, by decide +kernel, by decide +kernel⟩
abbrev s_check_table : Stmt := top 25
theorem sc_check_table : FnScope ["table"] ["table"] (defScope s_check_table) := ⟨rfl, rfl, rfl, by decide +kernel, rfl, by decide +kernel, by decide +kernel⟩
abbrev s_check_growing : Stmt := top 26
theorem sc_check_growing : FnScope ["table"] ["table"] (defScope s_check_growing) := ⟨rfl, rfl, rfl, by decide +kernel, rfl, by decide +kernel, by decide +kernel⟩
abbrev s_check_offset : Stmt := top 27
theorem sc_check_offset : FnScope ["offset"] ["offset"] (defScope s_check_offset) := ⟨rfl, rfl, rfl, by decide +kernel, rfl, by decide +kernel, by decide +kernel⟩
abbrev s_law_deck : Stmt := top 29
theorem sc_law_deck : FnScope ["script", "at", "cell", "stir"] ["script", "at"] (defScope s_law_deck) := ⟨rfl, rfl, rfl, by decide +kernel, rfl, by decide +kernel, by decide +kernel⟩
abbrev s_law_take : Stmt := top 30
theorem sc_law_take : FnScope ["deck", "many", "taken"] ["deck", "many"] (defScope s_law_take) := ⟨rfl, rfl, rfl, by decide +kernel, rfl, by decide +kernel, by decide +kernel⟩
abbrev s_law_gcd : Stmt := top 31
theorem sc_law_gcd : FnScope ["u", "v"] ["u", "v"] (defScope s_law_gcd) := ⟨rfl, rfl, rfl, by decide +kernel, rfl, by decide +kernel, by decide +kernel⟩
abbrev s_law_pair : Stmt := top 32
theorem sc_law_pair : FnScope ["upper", "lower", "common"] ["upper", "lower"] (defScope s_law_pair) := ⟨rfl, rfl, rfl, by decide +kernel, rfl, by decide +kernel, by decide +kernel⟩
abbrev s_law_plus : Stmt := top 33
theorem sc_law_plus : FnScope ["u", "v"] ["u", "v"] (defScope s_law_plus) := ⟨rfl, rfl, rfl, by decide +kernel, rfl, by decide +kernel, by decide +kernel⟩
abbrev s_law_times : Stmt := top 34
theorem sc_law_times : FnScope ["u", "v"] ["u", "v"] (defScope s_law_times) := ⟨rfl, rfl, rfl, by decide +kernel, rfl, by decide +kernel, by decide +kernel⟩
abbrev s_law_less : Stmt := top 35
theorem sc_law_less : FnScope ["u", "v"] ["u", "v"] (defScope s_law_less) := ⟨rfl, rfl, rfl, by decide +kernel, rfl, by decide +kernel, by decide +kernel⟩
abbrev s_law_same : Stmt := top 36
theorem sc_law_same : FnScope ["found", "due", "at"] ["found", "due"] (defScope s_law_same) := ⟨rfl, rfl, rfl, by decide +kernel, rfl, by decide +kernel, by decide +kernel⟩
abbrev s_law_det : Stmt := top 37
theorem sc_law_det : FnScope ["grid"] ["grid"] (defScope s_law_det) := ⟨rfl, rfl, rfl, by decide +kernel, rfl, by decide +kernel, by decide +kernel⟩
abbrev s_law_growing : Stmt := top 38
theorem sc_law_growing : FnScope ["grid", "size", "corners"] ["grid"] (defScope s_law_growing) := ⟨rfl, rfl, rfl, by decide +kernel, rfl, by decide +kernel, by decide +kernel⟩
abbrev s_law_grid : Stmt := top 39
theorem sc_law_grid : FnScope ["deck", "some", "grid", "cells", "drawn", "j"] ["deck"] (defScope s_law_grid) := ⟨rfl, rfl, rfl, by decide +kernel, rfl, by decide +kernel, by decide +kernel⟩
abbrev s_law_ahead : Stmt := top 40
theorem sc_law_ahead : FnScope ["grid", "away"] ["grid", "away"] (defScope s_law_ahead) := ⟨rfl, rfl, rfl, by decide +kernel, rfl, by decide +kernel, by decide +kernel⟩
abbrev s_law_add : Stmt := top 41
theorem sc_law_add : FnScope ["first", "second"] ["first", "second"] (defScope s_law_add) := ⟨rfl, rfl, rfl, by decide +kernel, rfl, by decide +kernel, by decide +kernel⟩
abbrev s_law_solved : Stmt := top 42
theorem sc_law_solved : FnScope ["grid", "spot", "size", "first", "second"] ["grid", "spot"] (defScope s_law_solved) := ⟨rfl, rfl, rfl, by decide +kernel, rfl, by decide +kernel, by decide +kernel⟩
abbrev s_law_any : Stmt := top 43
theorem sc_law_any : FnScope ["deck", "far", "cells", "j"] ["deck"] (defScope s_law_any) := ⟨rfl, rfl, rfl, by decide +kernel, rfl, by decide +kernel, by decide +kernel⟩
abbrev s_law_bent : Stmt := top 44
theorem sc_law_bent : FnScope ["deck", "grid", "some", "first", "second"] ["deck", "grid"] (defScope s_law_bent) := ⟨rfl, rfl, rfl, by decide +kernel, rfl, by decide +kernel, by decide +kernel⟩
abbrev s_law_product : Stmt := top 45
theorem sc_law_product : FnScope ["first", "second", "left", "right"] ["first", "second"] (defScope s_law_product) := ⟨rfl, rfl, rfl, by decide +kernel, rfl, by decide +kernel, by decide +kernel⟩
abbrev s_law_power : Stmt := top 46
theorem sc_law_power : FnScope ["grid", "many", "found", "j"] ["grid", "many"] (defScope s_law_power) := ⟨rfl, rfl, rfl, by decide +kernel, rfl, by decide +kernel, by decide +kernel⟩
abbrev s_law_shrinks : Stmt := top 47
theorem sc_law_shrinks : FnScope ["grid", "j", "bottom", "bound", "rows"] ["grid"] (defScope s_law_shrinks) := ⟨rfl, rfl, rfl, by decide +kernel, rfl, by decide +kernel, by decide +kernel⟩
abbrev s_law_axes : Stmt := top 48
theorem sc_law_axes : FnScope ["grid", "j", "cells"] ["grid"] (defScope s_law_axes) := ⟨rfl, rfl, rfl, by decide +kernel, rfl, by decide +kernel, by decide +kernel⟩
abbrev s_law_told_right : Stmt := top 49
theorem sc_law_told_right : FnScope ["deck", "grid", "due", "ends", "turn", "away", "other_grid", "many"] ["deck", "grid"] (defScope s_law_told_right) := ⟨rfl, rfl, rfl, by decide +kernel, rfl, by decide +kernel, by decide +kernel⟩
abbrev s_law_grown_right : Stmt := top 50
theorem sc_law_grown_right : FnScope ["deck", "grid", "due", "lower", "place", "turn", "wide", "j"] ["deck", "grid"] (defScope s_law_grown_right) := ⟨rfl, rfl, rfl, by decide +kernel, rfl, by decide +kernel, by decide +kernel⟩
abbrev s_law : Stmt := top 51
theorem sc_law : FnScope ["script", "at", "deck", "grid", "bent", "due"] ["script"] (defScope s_law) := ⟨rfl, rfl, rfl, by decide +kernel, rfl, by decide +kernel, by decide +kernel⟩
section
variable {P : Program} {w : World} {K : PySem.W.Frag} {mg : Str → Option Value} {base : Heap} {f : Addr} {fd : FuncData}
def isInt (d : PyData) : Bool := isi d "int" && !isi d "bool"
abbrev sp_is_integer (K : PySem.W.Frag) : Sp := spP K (fun d : PyData => [d]) (fun _ => True) (fun d => .bool (isInt d))
theorem len_is_integer {K : PySem.W.Frag} {vs : List V} {H : Hp} {Q : VK} {E : XK} (h : sp_is_integer K vs H Q E) : vs.length = 1 := by
  first | exact len1 (n := 1) (fun _ => rfl) h | exact len2 (n := 1) (fun _ => rfl) h | exact len3 (n := 1) (fun _ => rfl) h | exact len4 (n := 1) (fun _ => rfl) h
theorem ok_is_integer (F : Fun K "is_integer" "is_integer" s_is_integer f fd) (M : Bu mg)   : FnOk P w K mg base CX0 1 f fd ["told"] (sp_is_integer K) := by
  refine F.ok sc_is_integer (fun vs H Q E h => ?_) (fun cdv A outer s H vs Q E hr h => ?_)
  · exact len_is_integer h
  · obtain ⟨d, ha, -, k⟩ := h
    (try dsimp only at ha k)
    obtain ⟨v, rfl, hd⟩ := dpa1 ha
    refine ⟨_, (pss_one (ps_ret (pe_and (pe_callB (call_isiK1 K rfl) (by rfl) M.z_isinstance (by decide +kernel) (pa_cons (pv 0) (pa_cons (pe_bltn (v := .ty "int") (by rfl) M.z_int (by decide +kernel) rfl) pa_nil))) (pe_one (pe_not (pe_callB (call_isiK1 K rfl) (by rfl) M.z_isinstance (by decide +kernel) (pa_cons (pv 0) (pa_cons (pe_bltn (v := .ty "bool") (by rfl) M.z_bool (by decide +kernel) rfl) pa_nil)))))))), ?_⟩
    try simp only [cxK, cxK2]
    refine w_st (σ' := [some v]) rfl ?_
    (repeat kas_types)
    refine w_ite (fun e => ?_) (fun e => ?_)
    · (repeat kas_types)
      exact fin_b k (by lcg_sub) (by rw [isInt, e, Bool.true_and])
    · (repeat kas_types)
      exact fin_b k (by lcg_sub) (by rw [isInt, e, Bool.false_and])

def isPair (d : PyData) : Bool := match d with | .tuple [_, _] => true | _ => false
theorem pair_is {d : PyData} (h : isPair d = true) : ∃ a b, d = .tuple [a, b] := by
  unfold isPair at h
  split at h
  · exact ⟨_, _, rfl⟩
  · cases h
theorem isi_tuple {d : PyData} (h : isi d "tuple" = true) : ∃ ds, d = .tuple ds := by
  cases d with
  | tuple ds => exact ⟨ds, rfl⟩
  | none => rw [isi_nt] at h; cases h
  | bool => rw [isi_bt] at h; cases h
  | int => rw [isi_it] at h; cases h
  | str => rw [isi_st] at h; cases h
  | list => rw [isi_lt] at h; cases h
  | dict kvs => exact absurd h (by show ¬ isiS "dict" "tuple" = true; decide)
theorem pair_no {d : PyData} (h : isi d "tuple" = false) : isPair d = false := by
  cases d with
  | tuple ds => rw [isi_tt] at h; cases h
  | _ => rfl
theorem pair_len (ds : List PyData) : isPair (.tuple ds) = decide (((ds.length : Nat) : Int) = 2) := by
  match ds with
  | [] => rfl
  | [_] => rfl
  | [_, _] => rfl
  | _ :: _ :: _ :: r =>
    show false = _
    rw [decide_eq_false]
    simp only [List.length_cons]
    omega
abbrev sp_is_pair (K : PySem.W.Frag) : Sp := spP K (fun d : PyData => [d]) (fun _ => True) (fun d => .bool (isPair d))
theorem len_is_pair {K : PySem.W.Frag} {vs : List V} {H : Hp} {Q : VK} {E : XK} (h : sp_is_pair K vs H Q E) : vs.length = 1 := by
  first | exact len1 (n := 1) (fun _ => rfl) h | exact len2 (n := 1) (fun _ => rfl) h | exact len3 (n := 1) (fun _ => rfl) h | exact len4 (n := 1) (fun _ => rfl) h
theorem ok_is_pair (F : Fun K "is_pair" "is_pair" s_is_pair f fd) (M : Bu mg)   : FnOk P w K mg base CX0 1 f fd ["told"] (sp_is_pair K) := by
  refine F.ok sc_is_pair (fun vs H Q E h => ?_) (fun cdv A outer s H vs Q E hr h => ?_)
  · exact len_is_pair h
  · obtain ⟨d, ha, -, k⟩ := h
    (try dsimp only at ha k)
    obtain ⟨v, rfl, hd⟩ := dpa1 ha
    refine ⟨_, (pss_one (ps_ret (pe_and (pe_callB (call_isiK1 K rfl) (by rfl) M.z_isinstance (by decide +kernel) (pa_cons (pv 0) (pa_cons (pe_bltn (v := .ty "tuple") (by rfl) M.z_tuple (by decide +kernel) rfl) pa_nil))) (pe_one (pe_cmpR (op_eqK K rfl hr.units) (pe_callB (call_lenK K rfl) (by rfl) M.z_len PySem.boot_len (pa_cons (pv 0) pa_nil)) pe_int (nomark _)))))), ?_⟩
    try simp only [cxK, cxK2]
    refine w_st (σ' := [some v]) rfl ?_
    (repeat kas_types)
    refine w_ite (fun e => ?_) (fun e => ?_)
    · obtain ⟨ds, rfl⟩ := isi_tuple e
      (repeat kas_types)
      exact fin_b k (by lcg_sub) (by rw [pair_len])
    · (repeat kas_types)
      exact fin_b k (by lcg_sub) (by rw [pair_no e])

def isOff (d : PyData) : Bool := match d with | .tuple [a, b] => isInt a && isInt b | _ => false
theorem off_no {d : PyData} (h : isPair d = false) : isOff d = false := by
  unfold isOff
  split
  · cases h
  · rfl
abbrev sp_is_offset (K : PySem.W.Frag) : Sp := spP K (fun d : PyData => [d]) (fun _ => True) (fun d => .bool (isOff d))
theorem len_is_offset {K : PySem.W.Frag} {vs : List V} {H : Hp} {Q : VK} {E : XK} (h : sp_is_offset K vs H Q E) : vs.length = 1 := by
  first | exact len1 (n := 1) (fun _ => rfl) h | exact len2 (n := 1) (fun _ => rfl) h | exact len3 (n := 1) (fun _ => rfl) h | exact len4 (n := 1) (fun _ => rfl) h
theorem ok_is_offset (F : Fun K "is_offset" "is_offset" s_is_offset f fd) (M : Bu mg) (c_is_pair : Cal P w K mg base 1 "is_pair" ["told"] (sp_is_pair K)) (c_is_integer : Cal P w K mg base 1 "is_integer" ["told"] (sp_is_integer K))  : FnOk P w K mg base CX0 2 f fd ["told"] (sp_is_offset K) := by
  refine F.ok sc_is_offset (fun vs H Q E h => ?_) (fun cdv A outer s H vs Q E hr h => ?_)
  · exact len_is_offset h
  · obtain ⟨d, ha, -, k⟩ := h
    (try dsimp only at ha k)
    obtain ⟨v, rfl, hd⟩ := dpa1 ha
    refine ⟨_, (pss_one (ps_ret (pe_and (pe_callD c_is_pair hr (by decide) (pa_cons (pv 0) pa_nil)) (pe_and (pe_callD c_is_integer hr (by decide) (pa_cons (pe_ix (ix_seqK K rfl) (pv 0) pe_int (fun _ _ => rfl)) pa_nil)) (pe_one (pe_callD c_is_integer hr (by decide) (pa_cons (pe_ix (ix_seqK K rfl) (pv 0) pe_int (fun _ _ => rfl)) pa_nil))))))), ?_⟩
    try simp only [cxK, cxK2]
    refine w_st (σ' := [some v]) rfl ?_
    (repeat kas_types)
    refine w_spPb d (by k_clsL) rfl trivial fun H1 e1 => ?_
    (repeat kas_types)
    refine w_ite (fun e => ?_) (fun e => ?_)
    · obtain ⟨a, b, rfl⟩ := pair_is e
      (repeat kas_types)
      refine w_spPb a (by k_clsL) rfl trivial fun H2 e2 => ?_
      (repeat kas_types)
      refine w_ite (fun e => ?_) (fun e => ?_)
      · (repeat kas_types)
        refine w_spPb b (by k_clsL) rfl trivial fun H3 e3 => ?_
        exact fin_b k (by lcg_sub) (by rw [isOff, e, Bool.true_and])
      · (repeat kas_types)
        exact fin_b k (by lcg_sub) (by rw [isOff, e, Bool.false_and])
    · (repeat kas_types)
      exact fin_b k (by lcg_sub) (by rw [off_no e])

def isNum (a b : Int) : Bool := decide (0 < b) && decide (((Nat.gcd a.natAbs b.natAbs : Nat) : Int) = 1)
theorem isInt_i (i : Int) : isInt (.int i) = true := by rw [isInt, isi_ii, isi_ib]; rfl
theorem isOff_pr (a b : Int) : isOff (pr a b) = true := by show (isInt (.int a) && isInt (.int b)) = true; rw [isInt_i, isInt_i]; rfl
abbrev sp_is_number (K : PySem.W.Frag) : Sp := spP K (fun i : Int × Int => [pr i.1 i.2]) (fun _ => True) (fun i => .bool (isNum i.1 i.2))
theorem len_is_number {K : PySem.W.Frag} {vs : List V} {H : Hp} {Q : VK} {E : XK} (h : sp_is_number K vs H Q E) : vs.length = 1 := by
  first | exact len1 (n := 1) (fun _ => rfl) h | exact len2 (n := 1) (fun _ => rfl) h | exact len3 (n := 1) (fun _ => rfl) h | exact len4 (n := 1) (fun _ => rfl) h
theorem ok_is_number (F : Fun K "is_number" "is_number" s_is_number f fd) (M : Bu mg) (c_is_offset : Cal P w K mg base 2 "is_offset" ["told"] (sp_is_offset K))  : FnOk P w K mg base CX0 3 f fd ["told"] (sp_is_number K) := by
  refine F.ok sc_is_number (fun vs H Q E h => ?_) (fun cdv A outer s H vs Q E hr h => ?_)
  · exact len_is_number h
  · obtain ⟨⟨a, b⟩, ha, -, k⟩ := h
    (try dsimp only at ha k)
    obtain ⟨v, rfl, hd⟩ := dpa1 ha
    refine ⟨_, (pss_one (ps_ret (pe_and (pe_callD c_is_offset hr (by decide) (pa_cons (pv 0) pa_nil)) (pe_and (pe_cmpR op_gt (pe_ix (ix_seqK K rfl) (pv 0) pe_int (fun _ _ => rfl)) pe_int (nomark _)) (pe_one (pe_cmpR (op_eqK K rfl hr.units) (pe_callBfun cr_gcd (by rfl) M.z_gcd (pa_cons (pe_ix (ix_seqK K rfl) (pv 0) pe_int (fun _ _ => rfl)) (pa_cons (pe_ix (ix_seqK K rfl) (pv 0) pe_int (fun _ _ => rfl)) pa_nil))) pe_int (nomark _))))))), ?_⟩
    try simp only [cxK, cxK2]
    refine w_st (σ' := [some v]) rfl ?_
    (repeat kas_types)
    refine w_spPb (b := true) (pr a b) (by k_clsL) (by rw [isOff_pr]) trivial fun H1 e1 => ?_
    (repeat kas_types)
    refine w_ite (fun e => ?_) (fun e => ?_)
    · (repeat kas_types)
      exact fin_b k (by lcg_sub) (by rw [isNum, e, Bool.true_and])
    · (repeat kas_types)
      exact fin_b k (by lcg_sub) (by rw [isNum, e, Bool.false_and])

abbrev sp_is_point (K : PySem.W.Frag) : Sp := spP K (fun i : Int × Int × Int × Int => [tb i.1 i.2.1 i.2.2.1 i.2.2.2]) (fun _ => True) (fun i => .bool (isNum i.1 i.2.1 && isNum i.2.2.1 i.2.2.2))
theorem len_is_point {K : PySem.W.Frag} {vs : List V} {H : Hp} {Q : VK} {E : XK} (h : sp_is_point K vs H Q E) : vs.length = 1 := by
  first | exact len1 (n := 1) (fun _ => rfl) h | exact len2 (n := 1) (fun _ => rfl) h | exact len3 (n := 1) (fun _ => rfl) h | exact len4 (n := 1) (fun _ => rfl) h
theorem ok_is_point (F : Fun K "is_point" "is_point" s_is_point f fd) (M : Bu mg) (c_is_pair : Cal P w K mg base 1 "is_pair" ["told"] (sp_is_pair K)) (c_is_number : Cal P w K mg base 3 "is_number" ["told"] (sp_is_number K))  : FnOk P w K mg base CX0 4 f fd ["told"] (sp_is_point K) := by
  refine F.ok sc_is_point (fun vs H Q E h => ?_) (fun cdv A outer s H vs Q E hr h => ?_)
  · exact len_is_point h
  · obtain ⟨⟨a, b, c, q⟩, ha, -, k⟩ := h
    (try dsimp only at ha k)
    obtain ⟨v, rfl, hd⟩ := dpa1 ha
    refine ⟨_, (pss_one (ps_ret (pe_and (pe_callD c_is_pair hr (by decide) (pa_cons (pv 0) pa_nil)) (pe_and (pe_callD c_is_number hr (by decide) (pa_cons (pe_ix (ix_seqK K rfl) (pv 0) pe_int (fun _ _ => rfl)) pa_nil)) (pe_one (pe_callD c_is_number hr (by decide) (pa_cons (pe_ix (ix_seqK K rfl) (pv 0) pe_int (fun _ _ => rfl)) pa_nil))))))), ?_⟩
    try simp only [cxK, cxK2]
    refine w_st (σ' := [some v]) rfl ?_
    (repeat kas_types)
    refine w_spPb (b := true) (tb a b c q) (by k_clsL) rfl trivial fun H1 e1 => ?_
    (repeat kas_types)
    refine w_spPb (a, b) (by k_clsL) rfl trivial fun H2 e2 => ?_
    (repeat kas_types)
    refine w_ite (fun e => ?_) (fun e => ?_)
    · (repeat kas_types)
      refine w_spPb (c, q) (by k_clsL) rfl trivial fun H3 e3 => ?_
      exact fin_b k (by lcg_sub) (by rw [e, Bool.true_and])
    · (repeat kas_types)
      exact fin_b k (by lcg_sub) (by rw [e, Bool.false_and])

def sgn (t b : Int) : Int := if b < 0 then -((Nat.gcd t.natAbs b.natAbs : Nat) : Int) else ((Nat.gcd t.natAbs b.natAbs : Nat) : Int)
def low (t b : Int) : Int × Int := (t.fdiv (sgn t b), b.fdiv (sgn t b))
theorem sgn_ne {t b : Int} (h : b ≠ 0) : sgn t b ≠ 0 := by
  have : Nat.gcd t.natAbs b.natAbs ≠ 0 := fun e => h (Int.natAbs_eq_zero.mp (Nat.eq_zero_of_gcd_eq_zero_right e))
  unfold sgn
  split <;> omega
theorem sgn_bd {t b : Int} {n : Nat} (h : b ≠ 0) (hb : Bd n b) : Bd n (sgn t b) := by
  have h1 : Nat.gcd t.natAbs b.natAbs ≤ b.natAbs := Nat.gcd_le_right _ (Nat.pos_of_ne_zero fun e => h (Int.natAbs_eq_zero.mp e))
  unfold Bd at *
  unfold sgn
  split
  · rw [Int.natAbs_neg, Int.natAbs_natCast]; omega
  · rw [Int.natAbs_natCast]; omega
def prI (x : Int × Int) : PyData := pr x.1 x.2
abbrev sp_lowest (K : PySem.W.Frag) : Sp := spP K (fun i : Int × Int => [.int i.1, .int i.2]) (fun i => i.2 ≠ 0 ∧ Bd 8000 i.2) (fun i => prI (low i.1 i.2))
theorem len_lowest {K : PySem.W.Frag} {vs : List V} {H : Hp} {Q : VK} {E : XK} (h : sp_lowest K vs H Q E) : vs.length = 2 := by
  first | exact len1 (n := 2) (fun _ => rfl) h | exact len2 (n := 2) (fun _ => rfl) h | exact len3 (n := 2) (fun _ => rfl) h | exact len4 (n := 2) (fun _ => rfl) h
theorem ok_lowest (F : Fun K "lowest" "lowest" s_lowest f fd) (M : Bu mg)   : FnOk P w K mg base CX0 1 f fd ["top", "bottom"] (sp_lowest K) := by
  refine F.ok sc_lowest (fun vs H Q E h => ?_) (fun cdv A outer s H vs Q E hr h => ?_)
  · exact len_lowest h
  · obtain ⟨⟨t, b⟩, ha, ⟨h0, hb⟩, k⟩ := h
    (try dsimp only at ha k h0 hb)
    obtain ⟨v1, v2, rfl, hd1, hd2⟩ := dpa2 ha
    rw [int_inv hd1, int_inv hd2]
    refine ⟨_, (pss_cons (ps_set (i := 2) sc_lowest.nd rfl (Or.inl rfl) (pe_callBfun cr_gcd (by rfl) M.z_gcd (pa_cons (pv 0) (pa_cons (pv 1) pa_nil))))
      (pss_cons (ps_if (pt_cmpR op_lt (pv 1) pe_int (nomark _)) (pss_one (ps_set (i := 2) sc_lowest.nd rfl (Or.inl rfl) (pe_un un_neg (pv 2)))) pss_nil)
      (pss_one (ps_ret (pe_tupK K rfl (pa_cons (pe_op op_fdivZ (pv 0) (pv 2)) (pa_cons (pe_op op_fdivZ (pv 1) (pv 2)) pa_nil))))))), ?_⟩
    try simp only [cxK, cxK2]
    refine w_st (σ' := [some (.int t), some (.int b), none]) rfl ?_
    (repeat kas_types)
    refine w_ite (fun e => ?_) (fun e => ?_)
    · have es : sgn t b = -((Nat.gcd t.natAbs b.natAbs : Nat) : Int) := if_pos (of_decide_eq_true e)
      (repeat kas_types)
      rw [← es]
      refine w_I (divz (sgn_ne h0) (sgn_bd h0 hb) (by decide)) ?_
      (repeat kas_types)
      refine w_I (divz (sgn_ne h0) (sgn_bd h0 hb) (by decide)) ?_
      (repeat kas_types)
      exact k _ _ (by lcg_sub) (by keq_rows)
    · have es : sgn t b = ((Nat.gcd t.natAbs b.natAbs : Nat) : Int) := if_neg (of_decide_eq_false e)
      (repeat kas_types)
      rw [← es]
      refine w_I (divz (sgn_ne h0) (sgn_bd h0 hb) (by decide)) ?_
      (repeat kas_types)
      refine w_I (divz (sgn_ne h0) (sgn_bd h0 hb) (by decide)) ?_
      (repeat kas_types)
      exact k _ _ (by lcg_sub) (by keq_rows)

def isTab (d : PyData) : Bool := match d with | .tuple [a, b] => isOff a && isOff b | _ => false
theorem tab_no {d : PyData} (h : isPair d = false) : isTab d = false := by
  unfold isPair at h
  unfold isTab
  split
  · cases h
  · rfl
abbrev sp_is_table (K : PySem.W.Frag) : Sp := spP K (fun d : PyData => [d]) (fun _ => True) (fun d => .bool (isTab d))
theorem len_is_table {K : PySem.W.Frag} {vs : List V} {H : Hp} {Q : VK} {E : XK} (h : sp_is_table K vs H Q E) : vs.length = 1 := by
  first | exact len1 (n := 1) (fun _ => rfl) h | exact len2 (n := 1) (fun _ => rfl) h | exact len3 (n := 1) (fun _ => rfl) h | exact len4 (n := 1) (fun _ => rfl) h
theorem ok_is_table (F : Fun K "is_table" "is_table" s_is_table f fd) (M : Bu mg) (c_is_pair : Cal P w K mg base 1 "is_pair" ["told"] (sp_is_pair K)) (c_is_offset : Cal P w K mg base 2 "is_offset" ["told"] (sp_is_offset K))  : FnOk P w K mg base CX0 3 f fd ["told"] (sp_is_table K) := by
  refine F.ok sc_is_table (fun vs H Q E h => ?_) (fun cdv A outer s H vs Q E hr h => ?_)
  · exact len_is_table h
  · obtain ⟨d, ha, -, k⟩ := h
    (try dsimp only at ha k)
    obtain ⟨v, rfl, hd⟩ := dpa1 ha
    refine ⟨_, (pss_one (ps_ret (pe_and (pe_callD c_is_pair hr (by decide) (pa_cons (pv 0) pa_nil)) (pe_and (pe_callD c_is_offset hr (by decide) (pa_cons (pe_ix (ix_seqK K rfl) (pv 0) pe_int (fun _ _ => rfl)) pa_nil)) (pe_one (pe_callD c_is_offset hr (by decide) (pa_cons (pe_ix (ix_seqK K rfl) (pv 0) pe_int (fun _ _ => rfl)) pa_nil))))))), ?_⟩
    try simp only [cxK, cxK2]
    refine w_st (σ' := [some v]) rfl ?_
    (repeat kas_types)
    refine w_spPb d (by k_clsL) rfl trivial fun H1 e1 => ?_
    (repeat kas_types)
    refine w_ite (fun e => ?_) (fun e => ?_)
    · obtain ⟨a, b, rfl⟩ := pair_is e
      (repeat kas_types)
      refine w_spPb a (by k_clsL) rfl trivial fun H2 e2 => ?_
      (repeat kas_types)
      refine w_ite (fun e => ?_) (fun e => ?_)
      · (repeat kas_types)
        refine w_spPb b (by k_clsL) rfl trivial fun H3 e3 => ?_
        exact fin_b k (by lcg_sub) (by rw [isTab, e, Bool.true_and])
      · (repeat kas_types)
        exact fin_b k (by lcg_sub) (by rw [isTab, e, Bool.false_and])
    · (repeat kas_types)
      exact fin_b k (by lcg_sub) (by rw [tab_no e])

abbrev sp_check_table (K : PySem.W.Frag) : Sp := spP K (fun d : PyData => [d]) (fun d => isTab d = true) (fun _ => .none)
theorem len_check_table {K : PySem.W.Frag} {vs : List V} {H : Hp} {Q : VK} {E : XK} (h : sp_check_table K vs H Q E) : vs.length = 1 := by
  first | exact len1 (n := 1) (fun _ => rfl) h | exact len2 (n := 1) (fun _ => rfl) h | exact len3 (n := 1) (fun _ => rfl) h | exact len4 (n := 1) (fun _ => rfl) h
theorem ok_check_table (F : Fun K "check_table" "check_table" s_check_table f fd) (M : Bu mg) (c_is_table : Cal P w K mg base 3 "is_table" ["told"] (sp_is_table K))  : FnOk P w K mg base CX0 4 f fd ["table"] (sp_check_table K) := by
  refine F.ok sc_check_table (fun vs H Q E h => ?_) (fun cdv A outer s H vs Q E hr h => ?_)
  · exact len_check_table h
  · obtain ⟨d, ha, ht, k⟩ := h
    (try dsimp only at ha k ht)
    obtain ⟨v, rfl, hd⟩ := dpa1 ha
    refine ⟨_, (pss_one (ps_if (pt_not (pt_val (pe_callD c_is_table hr (by decide) (pa_cons (pv 0) pa_nil)))) (pss_one ps_never) pss_nil)), ?_⟩
    try simp only [cxK, cxK2]
    refine w_st (σ' := [some v]) rfl ?_
    (repeat kas_types)
    refine w_spPb (b := true) d (by k_clsL) (by rw [ht]) trivial fun H1 e1 => ?_
    (repeat kas_types)
    exact k _ _ (by lcg_sub) .non

abbrev sp_check_offset (K : PySem.W.Frag) : Sp := spP K (fun d : PyData => [d]) (fun d => isOff d = true) (fun _ => .none)
theorem len_check_offset {K : PySem.W.Frag} {vs : List V} {H : Hp} {Q : VK} {E : XK} (h : sp_check_offset K vs H Q E) : vs.length = 1 := by
  first | exact len1 (n := 1) (fun _ => rfl) h | exact len2 (n := 1) (fun _ => rfl) h | exact len3 (n := 1) (fun _ => rfl) h | exact len4 (n := 1) (fun _ => rfl) h
theorem ok_check_offset (F : Fun K "check_offset" "check_offset" s_check_offset f fd) (M : Bu mg) (c_is_offset : Cal P w K mg base 2 "is_offset" ["told"] (sp_is_offset K))  : FnOk P w K mg base CX0 3 f fd ["offset"] (sp_check_offset K) := by
  refine F.ok sc_check_offset (fun vs H Q E h => ?_) (fun cdv A outer s H vs Q E hr h => ?_)
  · exact len_check_offset h
  · obtain ⟨d, ha, ht, k⟩ := h
    (try dsimp only at ha k ht)
    obtain ⟨v, rfl, hd⟩ := dpa1 ha
    refine ⟨_, (pss_one (ps_if (pt_not (pt_val (pe_callD c_is_offset hr (by decide) (pa_cons (pv 0) pa_nil)))) (pss_one ps_never) pss_nil)), ?_⟩
    try simp only [cxK, cxK2]
    refine w_st (σ' := [some v]) rfl ?_
    (repeat kas_types)
    refine w_spPb (b := true) d (by k_clsL) (by rw [ht]) trivial fun H1 e1 => ?_
    (repeat kas_types)
    exact k _ _ (by lcg_sub) .non

structure M4 where
  (a b c d : Int)
def M4.D (m : M4) : PyData := tb m.a m.b m.c m.d
def M4.det (m : M4) : Int := m.a * m.d - m.b * m.c
def M4.tr (m : M4) : Int := m.a + m.d
def M4.mul (x y : M4) : M4 := ⟨x.a * y.a + x.b * y.c, x.a * y.b + x.b * y.d, x.c * y.a + x.d * y.c, x.c * y.b + x.d * y.d⟩
def M4.one : M4 := ⟨1, 0, 0, 1⟩
def M4.pw (m : M4) : Nat → M4 | 0 => M4.one | n + 1 => (m.pw n).mul m
def Bm (n : Nat) (m : M4) : Prop := Bd n m.a ∧ Bd n m.b ∧ Bd n m.c ∧ Bd n m.d
theorem isTab_D (m : M4) : isTab m.D = true := by show (isOff (pr m.a m.b) && isOff (pr m.c m.d)) = true; rw [isOff_pr, isOff_pr]; rfl
theorem isInt_is {d : PyData} (h : isInt d = true) : ∃ i, d = .int i := by
  unfold isInt at h
  cases d with
  | int i => exact ⟨i, rfl⟩
  | none => rw [isi_ni] at h; cases h
  | bool b => rw [isi_bi, isi_bb] at h; cases h
  | str => rw [isi_si] at h; cases h
  | list => rw [isi_li] at h; cases h
  | tuple => rw [isi_ti] at h; cases h
  | dict kvs => exact absurd h (by show ¬ (isiS "dict" "int" && !isiS "dict" "bool") = true; decide)
theorem isOff_is {d : PyData} (h : isOff d = true) : ∃ a b, d = pr a b := by
  unfold isOff at h
  split at h
  · rw [Bool.and_eq_true] at h
    obtain ⟨a, rfl⟩ := isInt_is h.1
    obtain ⟨b, rfl⟩ := isInt_is h.2
    exact ⟨a, b, rfl⟩
  · cases h
theorem isTab_is {d : PyData} (h : isTab d = true) : ∃ m : M4, d = m.D := by
  unfold isTab at h
  split at h
  · rw [Bool.and_eq_true] at h
    obtain ⟨a, b, rfl⟩ := isOff_is h.1
    obtain ⟨c, e, rfl⟩ := isOff_is h.2
    exact ⟨⟨a, b, c, e⟩, rfl⟩
  · cases h
abbrev sp_determinant (K : PySem.W.Frag) : Sp := spP K (fun i : Nat × M4 => [i.2.D]) (fun i => i.1 ≤ 60000000 ∧ Bm i.1 i.2) (fun i => .int i.2.det)
theorem len_determinant {K : PySem.W.Frag} {vs : List V} {H : Hp} {Q : VK} {E : XK} (h : sp_determinant K vs H Q E) : vs.length = 1 := by
  first | exact len1 (n := 1) (fun _ => rfl) h | exact len2 (n := 1) (fun _ => rfl) h | exact len3 (n := 1) (fun _ => rfl) h | exact len4 (n := 1) (fun _ => rfl) h
theorem ok_determinant (F : Fun K "determinant" "determinant" s_determinant f fd) (M : Bu mg) (c_check_table : Cal P w K mg base 4 "check_table" ["table"] (sp_check_table K))  : FnOk P w K mg base CX0 5 f fd ["table"] (sp_determinant K) := by
  refine F.ok sc_determinant (fun vs H Q E h => ?_) (fun cdv A outer s H vs Q E hr h => ?_)
  · exact len_determinant h
  · obtain ⟨⟨n, m⟩, ha, ⟨hn, h1, h2, h3, h4⟩, k⟩ := h
    (try dsimp only at ha k hn h1 h2 h3 h4)
    obtain ⟨v, rfl, hd⟩ := dpa1 ha
    refine ⟨_, (pss_cons (ps_expr (pe_callD c_check_table hr (by decide) (pa_cons (pv 0) pa_nil)))
      (pss_cons (ps_asg (pv 0) (pg_tupK K rfl (n := 2) rfl (pgs_cons (pg_tupK K rfl (n := 2) rfl (pgs_cons (pg_name (i := 1) sc_determinant.nd rfl (Or.inl rfl)) (pgs_cons (pg_name (i := 2) sc_determinant.nd rfl (Or.inl rfl)) pgs_nil))) (pgs_cons (pg_tupK K rfl (n := 2) rfl (pgs_cons (pg_name (i := 3) sc_determinant.nd rfl (Or.inl rfl)) (pgs_cons (pg_name (i := 4) sc_determinant.nd rfl (Or.inl rfl)) pgs_nil))) pgs_nil))))
      (pss_one (ps_ret (pe_op op_sub (pe_op op_mulU (pv 1) (pv 4)) (pe_op op_mulU (pv 2) (pv 3))))))), ?_⟩
    try simp only [cxK, cxK2]
    refine w_st (σ' := [some v, none, none, none, none]) rfl ?_
    (repeat kas_types)
    
    refine w_spP m.D (by k_clsL) (isTab_D m) fun v1 H1 e1 _ => ?_
    (repeat kas_types)
    refine w_mulI (mulx h1 h4 (by omega)) ?_
    (repeat kas_types)
    refine w_mulI (mulx h2 h3 (by omega)) ?_
    (repeat kas_types)
    exact fin_i k (by lcg_sub) rfl

abbrev sp_trace (K : PySem.W.Frag) : Sp := spP K (fun m : M4 => [m.D]) (fun _ => True) (fun m => .int m.tr)
theorem len_trace {K : PySem.W.Frag} {vs : List V} {H : Hp} {Q : VK} {E : XK} (h : sp_trace K vs H Q E) : vs.length = 1 := by
  first | exact len1 (n := 1) (fun _ => rfl) h | exact len2 (n := 1) (fun _ => rfl) h | exact len3 (n := 1) (fun _ => rfl) h | exact len4 (n := 1) (fun _ => rfl) h
theorem ok_trace (F : Fun K "trace" "trace" s_trace f fd) (M : Bu mg) (c_check_table : Cal P w K mg base 4 "check_table" ["table"] (sp_check_table K))  : FnOk P w K mg base CX0 5 f fd ["table"] (sp_trace K) := by
  refine F.ok sc_trace (fun vs H Q E h => ?_) (fun cdv A outer s H vs Q E hr h => ?_)
  · exact len_trace h
  · obtain ⟨m, ha, -, k⟩ := h
    (try dsimp only at ha k)
    obtain ⟨v, rfl, hd⟩ := dpa1 ha
    refine ⟨_, (pss_cons (ps_expr (pe_callD c_check_table hr (by decide) (pa_cons (pv 0) pa_nil)))
      (pss_one (ps_ret (pe_op (op_addK K rfl) (pe_ix (ix_seqK K rfl) (pe_ix (ix_seqK K rfl) (pv 0) pe_int (fun _ _ => rfl)) pe_int (fun _ _ => rfl)) (pe_ix (ix_seqK K rfl) (pe_ix (ix_seqK K rfl) (pv 0) pe_int (fun _ _ => rfl)) pe_int (fun _ _ => rfl)))))), ?_⟩
    try simp only [cxK, cxK2]
    refine w_st (σ' := [some v]) rfl ?_
    (repeat kas_types)
    refine w_spP m.D (by k_clsL) (isTab_D m) fun v1 H1 e1 _ => ?_
    (repeat kas_types)
    exact fin_i k (by lcg_sub) rfl

def M4.grows (m : M4) : Bool := if 0 < m.det then decide (2 ≤ m.det) && (decide (-m.det ≤ m.tr) && decide (m.tr ≤ m.det)) else decide (m.det ≤ -2) && (decide (m.det + 2 ≤ m.tr) && decide (m.tr ≤ -m.det - 2))
def isGrow (d : PyData) : Bool := match d with | .tuple [.tuple [.int a, .int b], .tuple [.int c, .int d]] => M4.grows ⟨a, b, c, d⟩ | _ => false
theorem isGrow_D (m : M4) : isGrow m.D = m.grows := rfl
theorem grow_no {d : PyData} (h : isTab d = false) : isGrow d = false := by
  unfold isGrow
  split
  · rename_i a b c d
    have := isTab_D ⟨a, b, c, d⟩
    rw [show M4.D ⟨a, b, c, d⟩ = .tuple [.tuple [.int a, .int b], .tuple [.int c, .int d]] from rfl, h] at this
    cases this
  · rfl
abbrev sp_is_growing (K : PySem.W.Frag) : Sp := spP K (fun i : Nat × PyData => [i.2]) (fun i => i.1 ≤ 60000000 ∧ ∀ m, i.2 = M4.D m → Bm i.1 m) (fun i => .bool (isGrow i.2))
theorem len_is_growing {K : PySem.W.Frag} {vs : List V} {H : Hp} {Q : VK} {E : XK} (h : sp_is_growing K vs H Q E) : vs.length = 1 := by
  first | exact len1 (n := 1) (fun _ => rfl) h | exact len2 (n := 1) (fun _ => rfl) h | exact len3 (n := 1) (fun _ => rfl) h | exact len4 (n := 1) (fun _ => rfl) h
theorem ok_is_growing (F : Fun K "is_growing" "is_growing" s_is_growing f fd) (M : Bu mg) (c_determinant : Cal P w K mg base 5 "determinant" ["table"] (sp_determinant K)) (c_is_table : Cal P w K mg base 3 "is_table" ["told"] (sp_is_table K)) (c_trace : Cal P w K mg base 5 "trace" ["table"] (sp_trace K))  : FnOk P w K mg base CX0 6 f fd ["told"] (sp_is_growing K) := by
  refine F.ok sc_is_growing (fun vs H Q E h => ?_) (fun cdv A outer s H vs Q E hr h => ?_)
  · exact len_is_growing h
  · obtain ⟨⟨n, d⟩, ha, ⟨hn, hb⟩, k⟩ := h
    (try dsimp only at ha k hn hb)
    obtain ⟨v, rfl, hd⟩ := dpa1 ha
    refine ⟨_, (pss_cons (ps_if (pt_not (pt_val (pe_callD c_is_table hr (by decide) (pa_cons (pv 0) pa_nil)))) (pss_one (ps_ret pe_bl)) pss_nil)
      (pss_cons (ps_set (i := 1) sc_is_growing.nd rfl (Or.inl rfl) (pe_callD c_determinant hr (by decide) (pa_cons (pv 0) pa_nil)))
      (pss_cons (ps_if (pt_cmpR op_gt (pv 1) pe_int (nomark _)) (pss_one (ps_ret (pe_and (pe_cmpR op_ge (pv 1) pe_int (nomark _)) (pe_one (pe_chain op_le op_le (pe_un un_neg (pv 1)) (pe_callD c_trace hr (by decide) (pa_cons (pv 0) pa_nil)) (pv 1)))))) pss_nil)
      (pss_one (ps_ret (pe_and (pe_cmpR op_le (pv 1) (pe_un un_neg pe_int) (nomark _)) (pe_one (pe_chain op_le op_le (pe_op (op_addK K rfl) (pv 1) pe_int) (pe_callD c_trace hr (by decide) (pa_cons (pv 0) pa_nil)) (pe_op op_sub (pe_un un_neg (pv 1)) pe_int))))))))), ?_⟩
    try simp only [cxK, cxK2]
    refine w_st (σ' := [some v, none]) rfl ?_
    (repeat kas_types)
    refine w_spPb d (by k_clsL) rfl trivial fun H1 e1 => ?_
    (repeat kas_types)
    cases e : isTab d with
    | false =>
      (repeat kas_types)
      exact fin_b k (by lcg_sub) (by rw [grow_no e])
    | true =>
      (repeat kas_types)
      obtain ⟨m, rfl⟩ := isTab_is e
      rw [isGrow_D] at k
      refine w_spP (n, m) (by k_clsL) ⟨hn, hb m rfl⟩ fun v1 H2 e2 hv => ?_
      rw [qint_inv hv]
      (repeat kas_types)
      refine w_ite (fun e => ?_) (fun e => ?_)
      · have e' := of_decide_eq_true e
        (repeat kas_types)
        refine w_ite (fun e3 => ?_) (fun e3 => ?_)
        · (repeat kas_types)
          refine w_spP m (by k_clsL) trivial fun v1 H3 e9 hv => ?_
          rw [qint_inv hv]
          (repeat kas_types)
          refine w_ite (fun e4 => ?_) (fun e4 => ?_)
          · (repeat kas_types)
            exact fin_b k (by lcg_sub) (by rw [M4.grows, if_pos e', e3, e4]; rfl)
          · (repeat kas_types)
            exact fin_b k (by lcg_sub) (by rw [M4.grows, if_pos e', e3, e4]; rfl)
        · (repeat kas_types)
          exact fin_b k (by lcg_sub) (by rw [M4.grows, if_pos e', e3]; rfl)
      · have e' := of_decide_eq_false e
        (repeat kas_types)
        refine w_ite (fun e3 => ?_) (fun e3 => ?_)
        · (repeat kas_types)
          refine w_spP m (by k_clsL) trivial fun v1 H3 e9 hv => ?_
          rw [qint_inv hv]
          (repeat kas_types)
          refine w_ite (fun e4 => ?_) (fun e4 => ?_)
          · (repeat kas_types)
            exact fin_b k (by lcg_sub) (by rw [M4.grows, if_neg e', e3, e4]; rfl)
          · (repeat kas_types)
            exact fin_b k (by lcg_sub) (by rw [M4.grows, if_neg e', e3, e4]; rfl)
        · (repeat kas_types)
          exact fin_b k (by lcg_sub) (by rw [M4.grows, if_neg e', e3]; rfl)

abbrev sp_check_growing (K : PySem.W.Frag) : Sp := spP K (fun i : Nat × M4 => [i.2.D]) (fun i => i.1 ≤ 60000000 ∧ Bm i.1 i.2 ∧ i.2.grows = true) (fun _ => .none)
theorem D_inj {m m' : M4} (h : m.D = m'.D) : m = m' := by
  cases m; cases m'
  simp only [M4.D, tb, PyData.tuple.injEq, List.cons.injEq, PyData.int.injEq] at h
  obtain ⟨⟨h1, h2, _⟩, ⟨h3, h4, _⟩, _⟩ := h
  subst h1 h2 h3 h4
  rfl
theorem len_check_growing {K : PySem.W.Frag} {vs : List V} {H : Hp} {Q : VK} {E : XK} (h : sp_check_growing K vs H Q E) : vs.length = 1 := by
  first | exact len1 (n := 1) (fun _ => rfl) h | exact len2 (n := 1) (fun _ => rfl) h | exact len3 (n := 1) (fun _ => rfl) h | exact len4 (n := 1) (fun _ => rfl) h
theorem ok_check_growing (F : Fun K "check_growing" "check_growing" s_check_growing f fd) (M : Bu mg) (c_is_growing : Cal P w K mg base 6 "is_growing" ["told"] (sp_is_growing K))  : FnOk P w K mg base CX0 7 f fd ["table"] (sp_check_growing K) := by
  refine F.ok sc_check_growing (fun vs H Q E h => ?_) (fun cdv A outer s H vs Q E hr h => ?_)
  · exact len_check_growing h
  · obtain ⟨⟨n, m⟩, ha, ⟨hn, hb, ht⟩, k⟩ := h
    (try dsimp only at ha k ht hn hb)
    obtain ⟨v, rfl, hd⟩ := dpa1 ha
    refine ⟨_, (pss_one (ps_if (pt_not (pt_val (pe_callD c_is_growing hr (by decide) (pa_cons (pv 0) pa_nil)))) (pss_one ps_never) pss_nil)), ?_⟩
    try simp only [cxK, cxK2]
    refine w_st (σ' := [some v]) rfl ?_
    (repeat kas_types)
    refine w_spPb (b := true) (n, m.D) (by k_clsL) (by rw [isGrow_D, ht]) ⟨hn, fun m' e => by rw [← D_inj e]; exact hb⟩ fun H1 e1 => ?_
    (repeat kas_types)
    exact k _ _ (by lcg_sub) .non

abbrev sp_times (K : PySem.W.Frag) : Sp := spP K (fun i : Nat × M4 × Int × Int => [i.2.1.D, pr i.2.2.1 i.2.2.2]) (fun i => i.1 ≤ 60000000 ∧ Bm i.1 i.2.1 ∧ Bd i.1 i.2.2.1 ∧ Bd i.1 i.2.2.2) (fun i => pr (i.2.1.a * i.2.2.1 + i.2.1.b * i.2.2.2) (i.2.1.c * i.2.2.1 + i.2.1.d * i.2.2.2))
theorem len_times {K : PySem.W.Frag} {vs : List V} {H : Hp} {Q : VK} {E : XK} (h : sp_times K vs H Q E) : vs.length = 2 := by
  first | exact len1 (n := 2) (fun _ => rfl) h | exact len2 (n := 2) (fun _ => rfl) h | exact len3 (n := 2) (fun _ => rfl) h | exact len4 (n := 2) (fun _ => rfl) h
theorem ok_times (F : Fun K "times" "times" s_times f fd) (M : Bu mg) (c_check_table : Cal P w K mg base 4 "check_table" ["table"] (sp_check_table K)) (c_check_offset : Cal P w K mg base 3 "check_offset" ["offset"] (sp_check_offset K))  : FnOk P w K mg base CX0 5 f fd ["table", "offset"] (sp_times K) := by
  refine F.ok sc_times (fun vs H Q E h => ?_) (fun cdv A outer s H vs Q E hr h => ?_)
  · exact len_times h
  · obtain ⟨⟨n, m, x, y⟩, ha, ⟨hn, ⟨h1, h2, h3, h4⟩, h5, h6⟩, k⟩ := h
    (try dsimp only at ha k hn h1 h2 h3 h4 h5 h6)
    obtain ⟨v1, v2, rfl, hd1, hd2⟩ := dpa2 ha
    refine ⟨_, (pss_cons (ps_expr (pe_callD c_check_table hr (by decide) (pa_cons (pv 0) pa_nil)))
      (pss_cons (ps_expr (pe_callD c_check_offset hr (by decide) (pa_cons (pv 1) pa_nil)))
      (pss_cons (ps_asg (pv 0) (pg_tupK K rfl (n := 2) rfl (pgs_cons (pg_tupK K rfl (n := 2) rfl (pgs_cons (pg_name (i := 4) sc_times.nd rfl (Or.inl rfl)) (pgs_cons (pg_name (i := 5) sc_times.nd rfl (Or.inl rfl)) pgs_nil))) (pgs_cons (pg_tupK K rfl (n := 2) rfl (pgs_cons (pg_name (i := 6) sc_times.nd rfl (Or.inl rfl)) (pgs_cons (pg_name (i := 7) sc_times.nd rfl (Or.inl rfl)) pgs_nil))) pgs_nil))))
      (pss_cons (ps_asg (pv 1) (pg_tupK K rfl (n := 2) rfl (pgs_cons (pg_name (i := 2) sc_times.nd rfl (Or.inl rfl)) (pgs_cons (pg_name (i := 3) sc_times.nd rfl (Or.inl rfl)) pgs_nil))))
      (pss_one (ps_ret (pe_tupK K rfl (pa_cons (pe_op (op_addK K rfl) (pe_op op_mulU (pv 4) (pv 2)) (pe_op op_mulU (pv 5) (pv 3))) (pa_cons (pe_op (op_addK K rfl) (pe_op op_mulU (pv 6) (pv 2)) (pe_op op_mulU (pv 7) (pv 3))) pa_nil))))))))), ?_⟩
    try simp only [cxK, cxK2]
    refine w_st (σ' := [some v1, some v2, none, none, none, none, none, none]) rfl ?_
    (repeat kas_types)
    refine w_spP m.D (by k_clsL) (isTab_D m) fun _ H1 e1 _ => ?_
    (repeat kas_types)
    refine w_spP (pr x y) (by k_clsL) (isOff_pr x y) fun _ H2 e2 _ => ?_
    (repeat kas_types)
    refine w_mulI (mulx h1 h5 (by omega)) ?_
    (repeat kas_types)
    refine w_mulI (mulx h2 h6 (by omega)) ?_
    (repeat kas_types)
    refine w_mulI (mulx h3 h5 (by omega)) ?_
    (repeat kas_types)
    refine w_mulI (mulx h4 h6 (by omega)) ?_
    (repeat kas_types)
    exact k _ _ (by lcg_sub) (by keq_rows)

abbrev sp_product (K : PySem.W.Frag) : Sp := spP K (fun i : Nat × M4 × M4 => [i.2.1.D, i.2.2.D]) (fun i => i.1 ≤ 60000000 ∧ Bm i.1 i.2.1 ∧ Bm i.1 i.2.2) (fun i => (i.2.1.mul i.2.2).D)
theorem len_product {K : PySem.W.Frag} {vs : List V} {H : Hp} {Q : VK} {E : XK} (h : sp_product K vs H Q E) : vs.length = 2 := by
  first | exact len1 (n := 2) (fun _ => rfl) h | exact len2 (n := 2) (fun _ => rfl) h | exact len3 (n := 2) (fun _ => rfl) h | exact len4 (n := 2) (fun _ => rfl) h
theorem ok_product (F : Fun K "product" "product" s_product f fd) (M : Bu mg) (c_check_table : Cal P w K mg base 4 "check_table" ["table"] (sp_check_table K))  : FnOk P w K mg base CX0 5 f fd ["one", "other"] (sp_product K) := by
  refine F.ok sc_product (fun vs H Q E h => ?_) (fun cdv A outer s H vs Q E hr h => ?_)
  · exact len_product h
  · obtain ⟨⟨n, x, y⟩, ha, ⟨hn, ⟨h1, h2, h3, h4⟩, g1, g2, g3, g4⟩, k⟩ := h
    (try dsimp only at ha k hn h1 h2 h3 h4 g1 g2 g3 g4)
    obtain ⟨v1, v2, rfl, hd1, hd2⟩ := dpa2 ha
    refine ⟨_, (pss_cons (ps_expr (pe_callD c_check_table hr (by decide) (pa_cons (pv 0) pa_nil)))
      (pss_cons (ps_expr (pe_callD c_check_table hr (by decide) (pa_cons (pv 1) pa_nil)))
      (pss_cons (ps_asg (pv 0) (pg_tupK K rfl (n := 2) rfl (pgs_cons (pg_tupK K rfl (n := 2) rfl (pgs_cons (pg_name (i := 2) sc_product.nd rfl (Or.inl rfl)) (pgs_cons (pg_name (i := 3) sc_product.nd rfl (Or.inl rfl)) pgs_nil))) (pgs_cons (pg_tupK K rfl (n := 2) rfl (pgs_cons (pg_name (i := 4) sc_product.nd rfl (Or.inl rfl)) (pgs_cons (pg_name (i := 5) sc_product.nd rfl (Or.inl rfl)) pgs_nil))) pgs_nil))))
      (pss_cons (ps_asg (pv 1) (pg_tupK K rfl (n := 2) rfl (pgs_cons (pg_tupK K rfl (n := 2) rfl (pgs_cons (pg_name (i := 6) sc_product.nd rfl (Or.inl rfl)) (pgs_cons (pg_name (i := 7) sc_product.nd rfl (Or.inl rfl)) pgs_nil))) (pgs_cons (pg_tupK K rfl (n := 2) rfl (pgs_cons (pg_name (i := 8) sc_product.nd rfl (Or.inl rfl)) (pgs_cons (pg_name (i := 9) sc_product.nd rfl (Or.inl rfl)) pgs_nil))) pgs_nil))))
      (pss_one (ps_ret (pe_tupK K rfl (pa_cons (pe_tupK K rfl (pa_cons (pe_op (op_addK K rfl) (pe_op op_mulU (pv 2) (pv 6)) (pe_op op_mulU (pv 3) (pv 8))) (pa_cons (pe_op (op_addK K rfl) (pe_op op_mulU (pv 2) (pv 7)) (pe_op op_mulU (pv 3) (pv 9))) pa_nil))) (pa_cons (pe_tupK K rfl (pa_cons (pe_op (op_addK K rfl) (pe_op op_mulU (pv 4) (pv 6)) (pe_op op_mulU (pv 5) (pv 8))) (pa_cons (pe_op (op_addK K rfl) (pe_op op_mulU (pv 4) (pv 7)) (pe_op op_mulU (pv 5) (pv 9))) pa_nil))) pa_nil))))))))), ?_⟩
    try simp only [cxK, cxK2]
    refine w_st (σ' := [some v1, some v2, none, none, none, none, none, none, none, none]) rfl ?_
    (repeat kas_types)
    refine w_spP x.D (by k_clsL) (isTab_D x) fun _ H1 e1 _ => ?_
    (repeat kas_types)
    refine w_spP y.D (by k_clsL) (isTab_D y) fun _ H2 e2 _ => ?_
    (repeat kas_types)
    refine w_mulI (mulx h1 g1 (by omega)) ?_
    (repeat kas_types)
    refine w_mulI (mulx h2 g3 (by omega)) ?_
    (repeat kas_types)
    refine w_mulI (mulx h1 g2 (by omega)) ?_
    (repeat kas_types)
    refine w_mulI (mulx h2 g4 (by omega)) ?_
    (repeat kas_types)
    refine w_mulI (mulx h3 g1 (by omega)) ?_
    (repeat kas_types)
    refine w_mulI (mulx h4 g3 (by omega)) ?_
    (repeat kas_types)
    refine w_mulI (mulx h3 g2 (by omega)) ?_
    (repeat kas_types)
    refine w_mulI (mulx h4 g4 (by omega)) ?_
    (repeat kas_types)
    exact k _ _ (by lcg_sub) (by keq_rows)

theorem M4.mul_assoc (x y z : M4) : (x.mul y).mul z = x.mul (y.mul z) := by
  simp only [M4.mul, M4.mk.injEq, Int.add_mul, Int.mul_add, Int.mul_assoc]
  refine ⟨?_, ?_, ?_, ?_⟩ <;> omega
theorem M4.one_mul (x : M4) : M4.one.mul x = x := by
  cases x; simp [M4.mul, M4.one]
theorem M4.mul_one (x : M4) : x.mul M4.one = x := by
  cases x; simp [M4.mul, M4.one]
theorem M4.pw_add (m : M4) (i j : Nat) : m.pw (i + j) = (m.pw i).mul (m.pw j) := by
  induction j with
  | zero => rw [Nat.add_zero, M4.pw, M4.mul_one]
  | succ j ih => rw [← Nat.add_assoc, M4.pw, M4.pw, ih, M4.mul_assoc]
theorem M4.pw_one (m : M4) : m.pw 1 = m := by rw [M4.pw, M4.pw, M4.one_mul]
theorem M4.pw_succ' (m : M4) (i : Nat) : m.pw (i + 1) = m.mul (m.pw i) := by rw [Nat.add_comm, M4.pw_add, M4.pw_one]
theorem Bm.mul {x y : M4} {i j : Nat} (h : Bm i x) (g : Bm j y) : Bm (i + j + 1) (x.mul y) := by
  obtain ⟨h1, h2, h3, h4⟩ := h
  obtain ⟨g1, g2, g3, g4⟩ := g
  exact ⟨(h1.mul g1).add (h2.mul g3), (h1.mul g2).add (h2.mul g4), (h3.mul g1).add (h4.mul g3), (h3.mul g2).add (h4.mul g4)⟩
theorem Bm.mono {x : M4} {i j : Nat} (h : Bm i x) (l : i ≤ j) : Bm j x := ⟨h.1.mono l, h.2.1.mono l, h.2.2.1.mono l, h.2.2.2.mono l⟩
theorem Bm.one : Bm 1 M4.one := ⟨by unfold Bd M4.one; decide, by unfold Bd M4.one; decide, by unfold Bd M4.one; decide, by unfold Bd M4.one; decide⟩
theorem Bm.pw {m : M4} {e : Nat} (h : Bm e m) : ∀ k, Bm ((e + 1) * k + 1) (m.pw k)
  | 0 => Bm.one
  | k + 1 => by
    have := (Bm.pw h k).mul h
    refine this.mono ?_
    rw [Nat.mul_add]
    omega
/-- the table's bits are gone through from the highest on -/
theorem bits_top (n : Nat) : n / 2 ^ (Builtin.Int.intBits (n : Int)) = 0 := by
  apply Nat.div_eq_of_lt
  unfold Builtin.Int.intBits
  split
  · rename_i h; simp at h; subst h; decide
  · rw [Int.natAbs_natCast]; exact Nat.lt_log2_self
theorem bits_step (n i : Nat) : n / 2 ^ i = n / 2 ^ (i + 1) + n / 2 ^ (i + 1) + (n / 2 ^ i) % 2 := by
  rw [Nat.pow_succ, ← Nat.div_div_eq_div_mul]; omega
abbrev sp_power (K : PySem.W.Frag) : Sp := spP K (fun i : Nat × M4 × Nat => [i.2.1.D, .int (i.2.2 : Nat)]) (fun i => i.1 ≤ 100000 ∧ Bm i.1 i.2.1 ∧ i.2.2 ≤ 100) (fun i => (i.2.1.pw i.2.2).D)
theorem len_power {K : PySem.W.Frag} {vs : List V} {H : Hp} {Q : VK} {E : XK} (h : sp_power K vs H Q E) : vs.length = 2 := by
  first | exact len1 (n := 2) (fun _ => rfl) h | exact len2 (n := 2) (fun _ => rfl) h | exact len3 (n := 2) (fun _ => rfl) h | exact len4 (n := 2) (fun _ => rfl) h
theorem ok_power (F : Fun K "power" "power" s_power f fd) (M : Bu mg) (c_check_table : Cal P w K mg base 4 "check_table" ["table"] (sp_check_table K)) (c_product : Cal P w K mg base 5 "product" ["one", "other"] (sp_product K)) (c_is_integer : Cal P w K mg base 1 "is_integer" ["told"] (sp_is_integer K)) {a_UNCHANGED : Addr} (m_UNCHANGED : mg "UNCHANGED" = some (.ref a_UNCHANGED)) (hU : ∀ H : Hp, Dq K H (.ref a_UNCHANGED) M4.one.D) : FnOk P w K mg base CX0 6 f fd ["table", "n"] (sp_power K) := by
  refine F.ok sc_power (fun vs H Q E h => ?_) (fun cdv A outer s H vs Q E hr h => ?_)
  · exact len_power h
  · obtain ⟨⟨n, m, z⟩, ha, ⟨hn, hb, hz⟩, k⟩ := h
    (try dsimp only at ha k hn hb hz)
    obtain ⟨v1, v2, rfl, hd1, hd2⟩ := dpa2 ha
    rw [int_inv hd2]
    clear ha hd2
    refine ⟨_, (pss_cons (ps_expr (pe_callD c_check_table hr (by decide) (pa_cons (pv 0) pa_nil)))
      (pss_cons (ps_if (PW.pt (pw_or (pt_not (pt_val (pe_callD c_is_integer hr (by decide) (pa_cons (pv 1) pa_nil)))) (pw_or1 (pt_cmpR op_lt (pv 1) pe_int (nomark _))))) (pss_one ps_never) pss_nil)
      (pss_cons (ps_set (i := 2) sc_power.nd rfl (Or.inl rfl) (pe_glob (v := .ref a_UNCHANGED) rfl m_UNCHANGED rfl))
      (pss_cons (ps_for PassesOwn.never rfl (pi_revR rfl M.z_reversed (prg_1 rfl M.z_range (pe_bits (pv 1)))) (pg_name (i := 3) sc_power.nd rfl (Or.inl rfl)) (pss_cons (ps_set (i := 2) sc_power.nd rfl (Or.inl rfl) (pe_callD c_product hr (by decide) (pa_cons (pv 2) (pa_cons (pv 2) pa_nil))))
      (pss_one (ps_if (pt_cmpR (op_eqK K rfl hr.units) (pe_op op_oddU (pe_op op_shrU (pv 1) (pv 3)) pe_int) pe_int (nomark _)) (pss_one (ps_set (i := 2) sc_power.nd rfl (Or.inl rfl) (pe_callD c_product hr (by decide) (pa_cons (pv 2) (pa_cons (pv 0) pa_nil))))) pss_nil))))
      (pss_one (ps_ret (pv 2))))))), ?_⟩
    try simp only [cxK, cxK2]
    refine w_st (σ' := [some v1, some (.int (z : Nat)), none, none]) rfl ?_
    (repeat kas_types)
    refine w_spP m.D (by k_clsL) (isTab_D m) fun _ H1 e1 _ => ?_
    (repeat kas_types)
    refine w_spPb (b := true) (.int (z : Nat)) (by k_clsL) (by show PyData.bool (isInt _) = _; rw [isInt_i]) trivial fun H2 e2 => ?_
    (repeat kas_types)
    have hL : Builtin.Int.intBits (z : Int) ≤ 8 := by
      unfold Builtin.Int.intBits
      split
      · omega
      · rw [Int.natAbs_natCast]
        have : z.log2 < 7 := by
          rcases Nat.eq_zero_or_pos z with h | h
          · subst h; decide
          · exact (Nat.log2_lt (by omega)).mpr (by omega)
        omega
    refine w_revg (by omega) (by omega) ?_
    have hbig : ∀ q, q ≤ z → Bm ((n + 1) * 100 + 1) (m.pw q) := fun q hq => (hb.pw q).mono (by have := Nat.mul_le_mul_left (n + 1) (Nat.le_trans hq hz); omega)
    generalize eL : Builtin.Int.intBits (z : Int) = L at hL
    have htop : z / 2 ^ L = 0 := by rw [← eL]; exact bits_top z
    refine w_forc (fun i σ H' => ∃ u t, σ = [some v1, some (.int (z : Nat)), some t, u] ∧ Ex H H' ∧ Dq K H' t (m.pw (z / 2 ^ (L - i))).D) ⟨none, _, rfl, by lcg_sub, ?_⟩ ?_ ?_
    · rw [Nat.sub_zero, htop]
      exact hU _
    · rintro i σ H3 hi ⟨u, t, rfl, e3, ht⟩
      have hd3 : Dp K H3 v1 m.D := Sk.Dp.up e3 hd1
      have hi' : i < L := by omega
      have ec : (0 + ((((L : Nat) : Int) - 0).toNat : Nat) - 1 + (i : Nat) * (-1) : Int) = ((L - (i + 1) : Nat) : Int) := by omega
      rw [ec]
      have es : L - i = L - (i + 1) + 1 := by omega
      have hst := bits_step z (L - (i + 1))
      have hle : z / 2 ^ (L - (i + 1)) ≤ z := Nat.div_le_self _ _
      rw [es] at ht
      generalize L - (i + 1) = j at *
      have hle2 : z / 2 ^ (j + 1) ≤ z := Nat.div_le_self _ _
      (repeat kas_types)
      refine w_spP ((n + 1) * 100 + 1, m.pw (z / 2 ^ (j + 1)), m.pw (z / 2 ^ (j + 1))) (by k_clsL) ⟨by show (n + 1) * 100 + 1 ≤ 60000000; omega, hbig _ hle2, hbig _ hle2⟩ fun t2 H4 e4 ht2 => ?_
      dsimp only at ht2
      rw [← M4.pw_add] at ht2
      (repeat kas_types)
      have h0 : (0 : Int) ≤ (z : Nat) / 2 ^ j := Int.ediv_nonneg (by omega) (Int.pow_nonneg (by decide))
      refine w_odd h0 ?_
      have eo : ((z : Nat) : Int) / 2 ^ j % 2 = ((z / 2 ^ j % 2 : Nat) : Int) := by
        rw [Int.natCast_emod, Int.natCast_ediv, Int.natCast_pow]; rfl
      rw [eo]
      (repeat kas_types)
      refine w_ite (fun e => ?_) (fun e => ?_)
      · have e' := of_decide_eq_true e
        (repeat kas_types)
        refine w_spP ((n + 1) * 100 + 1, m.pw (z / 2 ^ (j + 1) + z / 2 ^ (j + 1)), m) (by k_clsL) ⟨by show (n + 1) * 100 + 1 ≤ 60000000; omega, hbig _ (by omega), hb.mono (by omega)⟩ fun t3 H5 e5 ht3 => ?_
        (repeat kas_types)
        refine ⟨_, _, rfl, by lcg_sub, ?_⟩
        rw [hst, show z / 2 ^ j % 2 = 1 by omega, M4.pw]
        exact ht3
      · have e' := of_decide_eq_false e
        (repeat kas_types)
        refine ⟨_, _, rfl, by lcg_sub, ?_⟩
        rw [hst, show z / 2 ^ j % 2 = 0 by omega, Nat.add_zero]
        exact ht2
    · rintro σ H3 ⟨u, t, rfl, e3, ht⟩
      rw [show L - (((L : Nat) : Int) - 0).toNat = 0 by omega, Nat.pow_zero, Nat.div_one] at ht
      (repeat kas_types)
      exact k _ _ (by lcg_sub) ht

end

set_option maxHeartbeats 1000000
open PySem PySem.Spec PyProof.Rows L2
open Evl (Ex ex_l ex_t)
section
variable {P : Program} {w : World} {K : PySem.W.Frag} {mg : Str → Option Value} {base : Heap} {f : Addr} {fd : FuncData}
theorem M4.det_ne {m : M4} (h : m.grows = true) : m.det ≠ 0 := by
  intro e
  unfold M4.grows at h
  rw [e] at h
  simp at h
theorem isNum_pos {a b : Int} (h : isNum a b = true) : 0 < b := by
  unfold isNum at h
  rw [Bool.and_eq_true] at h
  exact of_decide_eq_true h.1
theorem Bm.det {m : M4} {n : Nat} (h : Bm n m) : Bd (2 * n + 1) m.det := by
  obtain ⟨h1, h2, h3, h4⟩ := h
  exact ((h1.mul h4).sub (h2.mul h3)).mono (by omega)
def und (m : M4) (x xb y yb : Int) : PyData := .tuple [prI (low (m.d * (x * yb) - m.b * (y * xb)) (xb * yb * m.det)), prI (low (m.a * (y * xb) - m.c * (x * yb)) (xb * yb * m.det))]
structure Spot where
  (x xb y yb : Int)
def Spot.D (p : Spot) : PyData := tb p.x p.xb p.y p.yb
def Spot.ok (p : Spot) : Bool := isNum p.x p.xb && isNum p.y p.yb
def Bs (n : Nat) (p : Spot) : Prop := Bd n p.x ∧ Bd n p.xb ∧ Bd n p.y ∧ Bd n p.yb
def Spot.und (p : Spot) (m : M4) : PyData := Sk.und m p.x p.xb p.y p.yb
theorem bot_ne {m : M4} {p : Spot} (h : m.grows = true) (ho : p.ok = true) : p.xb * p.yb * m.det ≠ 0 := by
  unfold Spot.ok at ho
  rw [Bool.and_eq_true] at ho
  have h1 := isNum_pos ho.1
  have h2 := isNum_pos ho.2
  exact Int.mul_ne_zero (Int.mul_ne_zero (by omega) (by omega)) (M4.det_ne h)
abbrev sp_undone (K : PySem.W.Frag) : Sp := spP K (fun i : Nat × M4 × Spot => [i.2.1.D, i.2.2.D]) (fun i => i.1 ≤ 1900 ∧ Bm i.1 i.2.1 ∧ Bs i.1 i.2.2 ∧ i.2.1.grows = true ∧ i.2.2.ok = true) (fun i => i.2.2.und i.2.1)
theorem len_undone {K : PySem.W.Frag} {vs : List V} {H : Hp} {Q : VK} {E : XK} (h : sp_undone K vs H Q E) : vs.length = 2 := by
  first | exact len1 (n := 2) (fun _ => rfl) h | exact len2 (n := 2) (fun _ => rfl) h | exact len3 (n := 2) (fun _ => rfl) h | exact len4 (n := 2) (fun _ => rfl) h
theorem ok_undone (F : Fun K "undone" "undone" s_undone f fd) (M : Bu mg) (c_check_growing : Cal P w K mg base 7 "check_growing" ["table"] (sp_check_growing K)) (c_is_point : Cal P w K mg base 4 "is_point" ["told"] (sp_is_point K)) (c_determinant : Cal P w K mg base 5 "determinant" ["table"] (sp_determinant K)) (c_lowest : Cal P w K mg base 1 "lowest" ["top", "bottom"] (sp_lowest K))  : FnOk P w K mg base CX0 8 f fd ["table", "point"] (sp_undone K) := by
  refine F.ok sc_undone (fun vs H Q E h => ?_) (fun cdv A outer s H vs Q E hr h => ?_)
  · exact len_undone h
  · obtain ⟨⟨n, m, p⟩, ha, ⟨hn, hb, ⟨g1, g2, g3, g4⟩, hg, ho⟩, k⟩ := h
    (try dsimp only at ha k hn hb g1 g2 g3 g4 hg ho)
    obtain ⟨v1, v2, rfl, hd1, hd2⟩ := dpa2 ha
    obtain ⟨h1, h2, h3, h4⟩ := id hb
    have hne := bot_ne hg ho
    obtain ⟨m1, m2, m3, m4⟩ := m
    obtain ⟨x, xb, y, yb⟩ := p
    dsimp only at *
    refine ⟨_, (pss_cons (ps_expr (pe_callD c_check_growing hr (by decide) (pa_cons (pv 0) pa_nil)))
      (pss_cons (ps_if (pt_not (pt_val (pe_callD c_is_point hr (by decide) (pa_cons (pv 1) pa_nil)))) (pss_one ps_never) pss_nil)
      (pss_cons (ps_asg (pv 0) (pg_tupK K rfl (n := 2) rfl (pgs_cons (pg_tupK K rfl (n := 2) rfl (pgs_cons (pg_name (i := 5) sc_undone.nd rfl (Or.inl rfl)) (pgs_cons (pg_name (i := 6) sc_undone.nd rfl (Or.inl rfl)) pgs_nil))) (pgs_cons (pg_tupK K rfl (n := 2) rfl (pgs_cons (pg_name (i := 7) sc_undone.nd rfl (Or.inl rfl)) (pgs_cons (pg_name (i := 8) sc_undone.nd rfl (Or.inl rfl)) pgs_nil))) pgs_nil))))
      (pss_cons (ps_asg (pv 1) (pg_tupK K rfl (n := 2) rfl (pgs_cons (pg_tupK K rfl (n := 2) rfl (pgs_cons (pg_name (i := 3) sc_undone.nd rfl (Or.inl rfl)) (pgs_cons (pg_name (i := 9) sc_undone.nd rfl (Or.inl rfl)) pgs_nil))) (pgs_cons (pg_tupK K rfl (n := 2) rfl (pgs_cons (pg_name (i := 4) sc_undone.nd rfl (Or.inl rfl)) (pgs_cons (pg_name (i := 10) sc_undone.nd rfl (Or.inl rfl)) pgs_nil))) pgs_nil))))
      (pss_cons (ps_par (i := 3) (j := 4) (by rfl) sc_undone.nd rfl rfl (by decide) rfl rfl (pa_cons (pe_op op_mulU (pv 3) (pv 10)) (pa_cons (pe_op op_mulU (pv 4) (pv 9)) pa_nil)) (by rfl))
      (pss_cons (ps_set (i := 2) sc_undone.nd rfl (Or.inl rfl) (pe_op op_mulU (pe_op op_mulU (pv 9) (pv 10)) (pe_callD c_determinant hr (by decide) (pa_cons (pv 0) pa_nil))))
      (pss_one (ps_ret (pe_tupK K rfl (pa_cons (pe_callD c_lowest hr (by decide) (pa_cons (pe_op op_sub (pe_op op_mulU (pv 8) (pv 3)) (pe_op op_mulU (pv 6) (pv 4))) (pa_cons (pv 2) pa_nil))) (pa_cons (pe_callD c_lowest hr (by decide) (pa_cons (pe_op op_sub (pe_op op_mulU (pv 5) (pv 4)) (pe_op op_mulU (pv 7) (pv 3))) (pa_cons (pv 2) pa_nil))) pa_nil))))))))))), ?_⟩
    try simp only [cxK, cxK2]
    refine w_st (σ' := [some v1, some v2, none, none, none, none, none, none, none, none, none]) rfl ?_
    (repeat kas_types)
    refine w_spP (n, M4.mk m1 m2 m3 m4) (by k_clsL) ⟨by show n ≤ _; omega, hb, hg⟩ fun _ H1 e1 _ => ?_
    (repeat kas_types)
    refine w_spPb (b := true) (x, xb, y, yb) (by k_clsL) (by show PyData.bool (Spot.ok ⟨x, xb, y, yb⟩) = _; rw [ho]) trivial fun H2 e2 => ?_
    (repeat kas_types)
    have hdet := hb.det
    refine w_mulI (mulx g1 g4 (by omega)) ?_
    (repeat kas_types)
    refine w_mulI (mulx g3 g2 (by omega)) ?_
    (repeat kas_types)
    refine w_mulI (mulx g2 g4 (by omega)) ?_
    (repeat kas_types)
    refine w_spP (n, M4.mk m1 m2 m3 m4) (by k_clsL) ⟨by show n ≤ _; omega, hb⟩ fun vd H3 e3 hv => ?_
    rw [qint_inv hv]
    (repeat kas_types)
    refine w_mulI (mulx (g2.mul g4) hdet (by omega)) ?_
    have hB : Bd 8000 (xb * yb * M4.det ⟨m1, m2, m3, m4⟩) := ((g2.mul g4).mul hdet).mono (by omega)
    (repeat kas_types)
    refine w_mulI (mulx h4 (g1.mul g4) (by omega)) ?_
    (repeat kas_types)
    refine w_mulI (mulx h2 (g3.mul g2) (by omega)) ?_
    (repeat kas_types)
    refine w_spP (m4 * (x * yb) - m2 * (y * xb), xb * yb * M4.det ⟨m1, m2, m3, m4⟩) (by k_clsL) ⟨hne, hB⟩ fun u1 H4 e4 hu1 => ?_
    (repeat kas_types)
    refine w_mulI (mulx h1 (g3.mul g2) (by omega)) ?_
    (repeat kas_types)
    refine w_mulI (mulx h3 (g1.mul g4) (by omega)) ?_
    (repeat kas_types)
    refine w_spP (m1 * (y * xb) - m3 * (x * yb), xb * yb * M4.det ⟨m1, m2, m3, m4⟩) (by k_clsL) ⟨hne, hB⟩ fun u2 H5 e5 hu2 => ?_
    (repeat kas_types)
    exact k _ _ (by lcg_sub) (by keq_rows)

def M4.axq (m : M4) : Bool := decide (((([m.a, m.b] : List Int).count 0 : Nat) : Int) = 1) && decide (((([m.c, m.d] : List Int).count 0 : Nat) : Int) = 1)
def axF (m : M4) : Nat → Nat → PyData
  | 0, _ => .none
  | f + 1, j => if (m.pw j).axq then .int (j : Nat) else axF m f (j + 1)
abbrev sp_axes (K : PySem.W.Frag) : Sp := spF K (fun i : Nat × M4 => [i.2.D]) (fun i => i.1 ≤ 100000 ∧ Bm i.1 i.2 ∧ i.2.grows = true) (fun i => axF i.2 8 1)
theorem len_axes {K : PySem.W.Frag} {vs : List V} {H : Hp} {Q : VK} {E : XK} (h : sp_axes K vs H Q E) : vs.length = 1 := by
  first | exact len1 (n := 1) (fun _ => rfl) h | exact len2 (n := 1) (fun _ => rfl) h | exact len3 (n := 1) (fun _ => rfl) h | exact len4 (n := 1) (fun _ => rfl) h
theorem ok_axes (F : Fun K "axes" "axes" s_axes f fd) (M : Bu mg) (c_check_growing : Cal P w K mg base 7 "check_growing" ["table"] (sp_check_growing K)) (c_product : Cal P w K mg base 5 "product" ["one", "other"] (sp_product K))  : FnOk P w K mg base CX0 8 f fd ["table"] (sp_axes K) := by
  refine F.ok sc_axes (fun vs H Q E h => ?_) (fun cdv A outer s H vs Q E hr h => ?_)
  · exact len_axes h
  · obtain ⟨⟨n, m⟩, ha, ⟨hn, hb, hg⟩, k⟩ := h
    (try dsimp only at ha k hn hb hg)
    obtain ⟨v, rfl, hd⟩ := dqa1 ha
    clear ha
    refine ⟨_, (pss_cons (ps_expr (pe_callD c_check_growing hr (by decide) (pa_cons (pv 0) pa_nil)))
      (pss_cons (ps_set (i := 1) sc_axes.nd rfl (Or.inl rfl) (pv 0))
      (pss_cons (ps_for PassesOwn.never rfl (pi_range2 rfl M.z_range (pa_cons pe_int (pa_cons pe_int pa_nil))) (pg_name (i := 2) sc_axes.nd rfl (Or.inl rfl)) (pss_cons (ps_if (PW.pt (pw_and (pt_cmpR (op_eqK K rfl hr.units) (pe_tcountK K rfl (pe_ix (ix_seqK K rfl) (pv 1) pe_int (fun _ _ => rfl)) (pa_cons pe_int pa_nil)) pe_int (nomark _)) (pw_and1 (pt_cmpR (op_eqK K rfl hr.units) (pe_tcountK K rfl (pe_ix (ix_seqK K rfl) (pv 1) pe_int (fun _ _ => rfl)) (pa_cons pe_int pa_nil)) pe_int (nomark _))))) (pss_one (ps_ret (pv 2))) pss_nil)
      (pss_one (ps_set (i := 1) sc_axes.nd rfl (Or.inl rfl) (pe_callD c_product hr (by decide) (pa_cons (pv 1) (pa_cons (pv 0) pa_nil)))))))
      (pss_one (ps_ret pe_non))))), ?_⟩
    try simp only [cxK, cxK2]
    refine w_st (σ' := [some v, none, none]) rfl ?_
    (repeat kas_types)
    refine w_spP (n, m) (by k_clsL) ⟨by show n ≤ _; omega, hb, hg⟩ fun _ H1 e1 _ => ?_
    (repeat kas_types)
    refine ⟨_, _, rfl, by decide, ?_⟩
    have hbig : ∀ q, q ≤ 100 → Bm ((n + 1) * 100 + 1) (m.pw q) := fun q hq => (hb.pw q).mono (by have := Nat.mul_le_mul_left (n + 1) hq; omega)
    refine w_forg (fun i σ H' => ∃ u t, σ = [some v, some t, u] ∧ Ex H H' ∧ Dq K H' t (m.pw (i + 1)).D ∧ axF m 8 1 = axF m (8 - i) (i + 1)) ⟨none, _, rfl, by lcg_sub, by rw [M4.pw_one]; exact hd.up (by lcg_sub), rfl⟩ ?_ ?_
    · rintro i σ H3 hi ⟨u, t, rfl, e3, ht, hx⟩
      have hi : i < 8 := hi
      have hd3 : Dq K H3 v m.D := hd.up e3
      rw [show (1 + (i : Nat) : Int) = ((i + 1 : Nat) : Int) by omega]
      have ht' : Dq K H3 t (tb (m.pw (i + 1)).a (m.pw (i + 1)).b (m.pw (i + 1)).c (m.pw (i + 1)).d) := ht
      (repeat kas_types)
      refine w_ite (fun e => ?_) (fun e => ?_)
      · (repeat kas_types)
        refine w_ite (fun e9 => ?_) (fun e9 => ?_)
        · (repeat kas_types)
          rw [hx, show 8 - i = (8 - (i + 1)) + 1 by omega, axF, if_pos (by rw [M4.axq, e, e9]; rfl)] at k
          exact fin_i k (by lcg_sub) rfl
        · (repeat kas_types)
          refine w_spP ((n + 1) * 100 + 1, m.pw (i + 1), m) (by k_clsL) ⟨by show (n + 1) * 100 + 1 ≤ 60000000; omega, hbig _ (by omega), hb.mono (by omega)⟩ fun t2 H4 e4 ht2 => ?_
          (repeat kas_types)
          refine ⟨_, _, rfl, by lcg_sub, ht2, ?_⟩
          rw [hx, show 8 - i = (8 - (i + 1)) + 1 by omega, axF, if_neg (by rw [M4.axq, e, e9]; decide)]
      · (repeat kas_types)
        refine w_spP ((n + 1) * 100 + 1, m.pw (i + 1), m) (by k_clsL) ⟨by show (n + 1) * 100 + 1 ≤ 60000000; omega, hbig _ (by omega), hb.mono (by omega)⟩ fun t2 H4 e4 ht2 => ?_
        (repeat kas_types)
        refine ⟨_, _, rfl, by lcg_sub, ht2, ?_⟩
        rw [hx, show 8 - i = (8 - (i + 1)) + 1 by omega, axF, if_neg (by rw [M4.axq, e, Bool.false_and]; decide)]
    · rintro σ H3 ⟨u, t, rfl, e3, ht, hx⟩
      (repeat kas_types)
      rw [hx] at k
      exact k _ _ e3 .non

end

open PySem L2
theorem low_spec {t b : Int} (h : b ≠ 0) : ∃ p q s : Int, low t b = (p, q) ∧ t = s * p ∧ b = s * q ∧ 0 < q ∧ s ≠ 0 ∧ Nat.gcd p.natAbs q.natAbs = 1 := by
  have hs := sgn_ne (t := t) h
  have hg : ((Nat.gcd t.natAbs b.natAbs : Nat) : Int) ∣ t := Int.ofNat_dvd_left.mpr (Nat.gcd_dvd_left _ _)
  have hg2 : ((Nat.gcd t.natAbs b.natAbs : Nat) : Int) ∣ b := Int.ofNat_dvd_left.mpr (Nat.gcd_dvd_right _ _)
  have ha : (sgn t b).natAbs = Nat.gcd t.natAbs b.natAbs := by
    unfold sgn; split <;> simp
  have d1 : sgn t b ∣ t := by
    unfold sgn; split
    · exact Int.neg_dvd.mpr hg
    · exact hg
  have d2 : sgn t b ∣ b := by
    unfold sgn; split
    · exact Int.neg_dvd.mpr hg2
    · exact hg2
  obtain ⟨p, hp⟩ := d1
  obtain ⟨q, hq⟩ := d2
  refine ⟨p, q, sgn t b, ?_, hp, hq, ?_, hs, ?_⟩
  · have e1 : t.fdiv (sgn t b) = p := by
      generalize sgn t b = s at *
      rw [hp, Int.mul_comm, Int.mul_fdiv_cancel _ hs]
    have e2 : b.fdiv (sgn t b) = q := by
      generalize sgn t b = s at *
      rw [hq, Int.mul_comm, Int.mul_fdiv_cancel _ hs]
    unfold low
    rw [e1, e2]
  · have sg : (b < 0 → sgn t b < 0) ∧ (0 < b → 0 < sgn t b) := by
      have : Nat.gcd t.natAbs b.natAbs ≠ 0 := fun e => h (Int.natAbs_eq_zero.mp (Nat.eq_zero_of_gcd_eq_zero_right e))
      unfold sgn
      constructor
      · intro hb; rw [if_pos hb]; omega
      · intro hb; rw [if_neg (by omega)]; omega
    generalize sgn t b = s at *
    rcases Int.lt_or_gt_of_ne h with hb | hb
    · have := sg.1 hb
      rcases (show 0 < q ∨ q ≤ 0 by omega) with h' | h'
      · exact h'
      · have := Int.mul_nonneg_of_nonpos_of_nonpos (Int.le_of_lt this) h'
        omega
    · have := sg.2 hb
      rcases (show 0 < q ∨ q ≤ 0 by omega) with h' | h'
      · exact h'
      · have := Int.mul_nonpos_of_nonneg_of_nonpos (Int.le_of_lt this) h'
        omega
  · have e1 : t.natAbs = (sgn t b).natAbs * p.natAbs := by rw [← Int.natAbs_mul, ← hp]
    have e2 : b.natAbs = (sgn t b).natAbs * q.natAbs := by rw [← Int.natAbs_mul, ← hq]
    have hpos : 0 < (sgn t b).natAbs := Int.natAbs_pos.mpr hs
    have e3 : (sgn t b).natAbs = Nat.gcd ((sgn t b).natAbs * p.natAbs) ((sgn t b).natAbs * q.natAbs) := by rw [← e1, ← e2]; exact ha
    rw [Nat.gcd_mul_left] at e3
    generalize (sgn t b).natAbs = g at *
    have : g * 1 = g * Nat.gcd p.natAbs q.natAbs := by rw [Nat.mul_one]; exact e3
    exact (Nat.eq_of_mul_eq_mul_left hpos this).symm
theorem red_unique {p q p' q' : Int} (hq : 0 < q) (hq' : 0 < q') (c : Nat.gcd p.natAbs q.natAbs = 1) (c' : Nat.gcd p'.natAbs q'.natAbs = 1) (h : p * q' = p' * q) : p = p' ∧ q = q' := by
  have h2 : p.natAbs * q'.natAbs = p'.natAbs * q.natAbs := by rw [← Int.natAbs_mul, ← Int.natAbs_mul, h]
  have d1 : q.natAbs ∣ q'.natAbs := by
    have : q.natAbs ∣ p.natAbs * q'.natAbs := ⟨p'.natAbs, by rw [h2, Nat.mul_comm]⟩
    exact Nat.Coprime.dvd_of_dvd_mul_left (Nat.Coprime.symm c) this
  have d2 : q'.natAbs ∣ q.natAbs := by
    have : q'.natAbs ∣ p'.natAbs * q.natAbs := ⟨p.natAbs, by rw [← h2, Nat.mul_comm]⟩
    exact Nat.Coprime.dvd_of_dvd_mul_left (Nat.Coprime.symm c') this
  have e : q.natAbs = q'.natAbs := Nat.dvd_antisymm d1 d2
  have e2 : q = q' := by omega
  subst e2
  exact ⟨Int.eq_of_mul_eq_mul_right (by omega) h, rfl⟩
theorem low_eq {t b t' b' : Int} (h : b ≠ 0) (h' : b' ≠ 0) (e : t * b' = t' * b) : low t b = low t' b' := by
  obtain ⟨p, q, s, e1, et, eb, hq, hs, hc⟩ := low_spec (t := t) h
  obtain ⟨p', q', s', e1', et', eb', hq', hs', hc'⟩ := low_spec (t := t') h'
  rw [e1, e1']
  have e2 : p * q' = p' * q := by
    rw [et, eb, et', eb'] at e
    have : (s * s') * (p * q') = (s * s') * (p' * q) := by
      rw [show (s * s') * (p * q') = s * p * (s' * q') by ac_rfl, e]; ac_rfl
    exact Int.eq_of_mul_eq_mul_left (Int.mul_ne_zero hs hs') this
  obtain ⟨a, b⟩ := red_unique hq hq' hc hc' e2
  rw [a, b]
theorem low_pos {t b : Int} (h : b ≠ 0) : 0 < (low t b).2 := by
  obtain ⟨p, q, s, e1, et, eb, hq, hs, hc⟩ := low_spec (t := t) h
  rw [e1]; exact hq
theorem low_mul {t b : Int} (h : b ≠ 0) : (low t b).1 * b = t * (low t b).2 := by
  obtain ⟨p, q, s, e1, et, eb, hq, hs, hc⟩ := low_spec (t := t) h
  rw [e1, et, eb]
  show p * (s * q) = s * p * q
  ac_rfl
theorem low_num {t b : Int} (h : b ≠ 0) : isNum (low t b).1 (low t b).2 = true := by
  obtain ⟨p, q, s, e1, et, eb, hq, hs, hc⟩ := low_spec (t := t) h
  rw [e1]
  unfold isNum
  rw [Bool.and_eq_true]
  exact ⟨decide_eq_true hq, decide_eq_true (by show ((Nat.gcd p.natAbs q.natAbs : Nat) : Int) = 1; rw [hc]; rfl)⟩
theorem low_bd {t b : Int} {n : Nat} (h : b ≠ 0) (h1 : Bd n t) (h2 : Bd n b) : Bd n (low t b).1 ∧ Bd n (low t b).2 := by
  obtain ⟨p, q, s, e1, et, eb, hq, hs, hc⟩ := low_spec (t := t) h
  rw [e1]
  unfold Bd at *
  have hp : 0 < s.natAbs := Int.natAbs_pos.mpr hs
  rw [et, Int.natAbs_mul] at h1
  rw [eb, Int.natAbs_mul] at h2
  have a1 : p.natAbs ≤ s.natAbs * p.natAbs := Nat.le_mul_of_pos_left _ hp
  have a2 : q.natAbs ≤ s.natAbs * q.natAbs := Nat.le_mul_of_pos_left _ hp
  exact ⟨by show p.natAbs < _; omega, by show q.natAbs < _; omega⟩
/-- the law's own way to a fraction comes to the same -/
def addL (u v : Int × Int) : Int × Int := low (u.1 * v.2 + v.1 * u.2) (u.2 * v.2)
def mulL (u v : Int × Int) : Int × Int := low (u.1 * v.1) (u.2 * v.2)
def solL (k l z : Int) (u v : Int × Int) : Int × Int := let s := addL (mulL (k, 1) u) (mulL (l, 1) v); low s.1 (s.2 * z)
theorem solL_eq {k l z x xb y yb : Int} (hx : xb ≠ 0) (hy : yb ≠ 0) (hz : z ≠ 0) : solL k l z (x, xb) (y, yb) = low (k * (x * yb) + l * (y * xb)) (xb * yb * z) := by
  have h1 : (1 : Int) * xb ≠ 0 := by rw [Int.one_mul]; exact hx
  have h2 : (1 : Int) * yb ≠ 0 := by rw [Int.one_mul]; exact hy
  have p1 := low_pos (t := k * x) h1
  have p2 := low_pos (t := l * y) h2
  have m1 := low_mul (t := k * x) h1
  have m2 := low_mul (t := l * y) h2
  unfold solL addL mulL
  dsimp only
  generalize low (k * x) (1 * xb) = u at *
  generalize low (l * y) (1 * yb) = v at *
  obtain ⟨u1, u2⟩ := u
  obtain ⟨v1, v2⟩ := v
  dsimp only at *
  rw [Int.one_mul] at m1 m2
  have h3 : u2 * v2 ≠ 0 := Int.mul_ne_zero (by omega) (by omega)
  have p3 := low_pos (t := u1 * v2 + v1 * u2) h3
  have m3 := low_mul (t := u1 * v2 + v1 * u2) h3
  generalize low (u1 * v2 + v1 * u2) (u2 * v2) = s at *
  obtain ⟨s1, s2⟩ := s
  dsimp only at *
  refine low_eq (Int.mul_ne_zero (by omega) hz) (Int.mul_ne_zero (Int.mul_ne_zero hx hy) hz) ?_
  -- s1 / s2 = u1 / u2 + v1 / v2 = k x / xb + l y / yb
  have key : s1 * (xb * yb) * (u2 * v2) = (k * (x * yb) + l * (y * xb)) * s2 * (u2 * v2) := by
    calc s1 * (xb * yb) * (u2 * v2) = (s1 * (u2 * v2)) * (xb * yb) := by ac_rfl
      _ = ((u1 * v2 + v1 * u2) * s2) * (xb * yb) := by rw [m3]
      _ = (u1 * xb) * (v2 * s2 * yb) + (v1 * yb) * (u2 * s2 * xb) := by
        rw [Int.add_mul, Int.add_mul]; congr 1 <;> ac_rfl
      _ = (k * x * u2) * (v2 * s2 * yb) + (l * y * v2) * (u2 * s2 * xb) := by rw [m1, m2]
      _ = (k * (x * yb) + l * (y * xb)) * s2 * (u2 * v2) := by
        rw [Int.add_mul, Int.add_mul]; congr 1 <;> ac_rfl
  have key2 := Int.eq_of_mul_eq_mul_right h3 key
  calc s1 * (xb * yb * z) = (s1 * (xb * yb)) * z := by ac_rfl
    _ = ((k * (x * yb) + l * (y * xb)) * s2) * z := by rw [key2]
    _ = (k * (x * yb) + l * (y * xb)) * (s2 * z) := by ac_rfl

set_option maxHeartbeats 1000000
open PySem PySem.Spec PyProof.Rows L2
open Evl (Ex ex_l ex_t)
section
variable {P : Program} {w : World} {K : PySem.W.Frag} {mg : Str → Option Value} {base : Heap} {f : Addr} {fd : FuncData}
abbrev sp_law_gcd (K : PySem.W.Frag) : Sp := spP K (fun i : Nat × Nat => [.int (i.1 : Nat), .int (i.2 : Nat)]) (fun _ => True) (fun i => .int (Nat.gcd i.1 i.2 : Nat))
theorem w_while {c : TT} {tb : TS} {D : Ends} {σ : St} {H : Hp} (W : Nat → St → Hp → Prop) (m0 : Nat) (h0 : W m0 σ H) (hs : ∀ m σ H, W m σ H →
  c σ H fun b H1 => if b = true then ∃ N : St → Hp → Prop, (∀ σ' H', N σ' H' → ∃ m', m' < m ∧ W m' σ' H') ∧ tb { D with nx := N, ct := N, bk := D.nx } σ H1 else D.nx σ H1) : tWhile c tb D σ H := ⟨W, ⟨m0, h0⟩, hs⟩
theorem len_law_gcd {K : PySem.W.Frag} {vs : List V} {H : Hp} {Q : VK} {E : XK} (h : sp_law_gcd K vs H Q E) : vs.length = 2 := by
  first | exact len1 (n := 2) (fun _ => rfl) h | exact len2 (n := 2) (fun _ => rfl) h | exact len3 (n := 2) (fun _ => rfl) h | exact len4 (n := 2) (fun _ => rfl) h
theorem ok_law_gcd (F : Fun K "_law_gcd" "_law_gcd" s_law_gcd f fd) (M : Bu mg)   : FnOk P w K mg base CX0 1 f fd ["u", "v"] (sp_law_gcd K) := by
  refine F.ok sc_law_gcd (fun vs H Q E h => ?_) (fun cdv A outer s H vs Q E hr h => ?_)
  · exact len_law_gcd h
  · obtain ⟨⟨a0, b0⟩, ha, -, k⟩ := h
    (try dsimp only at ha k)
    obtain ⟨v1, v2, rfl, hd1, hd2⟩ := dpa2 ha
    rw [int_inv hd1, int_inv hd2]
    clear ha hd1 hd2
    refine ⟨_, (pss_cons (ps_while PassesOwn.never (pt_cmpR (op_neK K rfl hr.units) (pv 1) pe_int (nomark _)) (pss_one (ps_par (i := 0) (j := 1) (by rfl) sc_law_gcd.nd rfl rfl (by decide) rfl rfl (pa_cons (pv 1) (pa_cons (pe_op op_mod (pe_callTy call_intU (by rfl) M.z_int (by decide +kernel) (pa_cons (pv 0) pa_nil)) (pv 1)) pa_nil)) (by rfl))))
      (pss_one (ps_ret (pv 0)))), ?_⟩
    try simp only [cxK, cxK2]
    refine w_st (σ' := [some (.int (a0 : Nat)), some (.int (b0 : Nat))]) rfl ?_
    (repeat kas_types)
    refine w_while (fun m σ H' => ∃ a b : Nat, σ = [some (.int (a : Nat)), some (.int (b : Nat))] ∧ Ex H H' ∧ m = b ∧ Nat.gcd a b = Nat.gcd a0 b0) b0 ⟨a0, b0, rfl, by lcg_sub, rfl, rfl⟩ ?_
    rintro m σ H' ⟨a, b, rfl, e, rfl, hg⟩
    (repeat kas_types)
    refine w_ite (fun e2 => ?_) (fun e2 => ?_)
    · have hb : m ≠ 0 := by intro z; subst z; exact absurd e2 (by decide)
      refine ⟨fun σ2 H2 => ∃ m', m' < m ∧ ∃ a b : Nat, σ2 = [some (.int (a : Nat)), some (.int (b : Nat))] ∧ Ex H H2 ∧ m' = b ∧ Nat.gcd a b = Nat.gcd a0 b0, fun _ _ z => z, ?_⟩
      (repeat kas_types)
      refine w_I (by omega) ?_
      (repeat kas_types)
      refine ⟨a % m, Nat.mod_lt _ (by omega), m, a % m, by rw [Int.natCast_emod], by lcg_sub, rfl, ?_⟩
      rw [← hg, Nat.gcd_comm a m, Nat.gcd_rec m a, Nat.gcd_comm]
    · have hb : m = 0 := by
        rcases Nat.eq_zero_or_pos m with z | z
        · exact z
        · have : ¬ ((m : Int) = 0) := by omega
          rw [decide_eq_false this] at e2
          cases e2
      subst hb
      rw [Nat.gcd_zero_right] at hg
      (repeat kas_types)
      exact fin_i k (by lcg_sub) (by rw [hg])

abbrev sp_law_pair (K : PySem.W.Frag) : Sp := spP K (fun i : Int × Int => [.int i.1, .int i.2]) (fun i => i.2 ≠ 0 ∧ Bd 8000 i.2) (fun i => prI (low i.1 i.2))
theorem len_law_pair {K : PySem.W.Frag} {vs : List V} {H : Hp} {Q : VK} {E : XK} (h : sp_law_pair K vs H Q E) : vs.length = 2 := by
  first | exact len1 (n := 2) (fun _ => rfl) h | exact len2 (n := 2) (fun _ => rfl) h | exact len3 (n := 2) (fun _ => rfl) h | exact len4 (n := 2) (fun _ => rfl) h
theorem ok_law_pair (F : Fun K "_law_pair" "_law_pair" s_law_pair f fd) (M : Bu mg) (c_law_gcd : Cal P w K mg base 1 "_law_gcd" ["u", "v"] (sp_law_gcd K))  : FnOk P w K mg base CX0 2 f fd ["upper", "lower"] (sp_law_pair K) := by
  refine F.ok sc_law_pair (fun vs H Q E h => ?_) (fun cdv A outer s H vs Q E hr h => ?_)
  · exact len_law_pair h
  · obtain ⟨⟨t, b⟩, ha, ⟨h0, hb⟩, k⟩ := h
    dsimp only at ha k h0 hb
    obtain ⟨v1, v2, rfl, hd1, hd2⟩ := dpa2 ha
    rw [int_inv hd1, int_inv hd2]
    refine ⟨_, (pss_cons (ps_set (i := 2) sc_law_pair.nd rfl (Or.inl rfl) (pe_callD c_law_gcd hr (by decide) (pa_cons (pe_callB call_absU (by rfl) M.z_abs (by decide +kernel) (pa_cons (pv 0) pa_nil)) (pa_cons (pe_callB call_absU (by rfl) M.z_abs (by decide +kernel) (pa_cons (pv 1) pa_nil)) pa_nil))))
      (pss_cons (ps_if (pt_cmpR op_lt (pv 1) pe_int (nomark _)) (pss_one (ps_set (i := 2) sc_law_pair.nd rfl (Or.inl rfl) (pe_un un_neg (pv 2)))) pss_nil)
      (pss_one (ps_ret (pe_tupK K rfl (pa_cons (pe_op op_fdivZ (pv 0) (pv 2)) (pa_cons (pe_op op_fdivZ (pv 1) (pv 2)) pa_nil))))))), ?_⟩
    try simp only [cxK, cxK2]
    refine w_st (σ' := [some (.int t), some (.int b), none]) rfl ?_
    (repeat kas_types)
    refine w_spP (t.natAbs, b.natAbs) (by k_clsL) trivial fun v H1 e1 hv => ?_
    rw [qint_inv hv]
    (repeat kas_types)
    refine w_ite (fun e => ?_) (fun e => ?_)
    · have es : sgn t b = -((Nat.gcd t.natAbs b.natAbs : Nat) : Int) := if_pos (of_decide_eq_true e)
      (repeat kas_types)
      rw [← es]
      refine w_I (divz (sgn_ne h0) (sgn_bd h0 hb) (by decide)) ?_
      (repeat kas_types)
      refine w_I (divz (sgn_ne h0) (sgn_bd h0 hb) (by decide)) ?_
      (repeat kas_types)
      exact k _ _ (by lcg_sub) (by keq_rows)
    · have es : sgn t b = ((Nat.gcd t.natAbs b.natAbs : Nat) : Int) := if_neg (of_decide_eq_false e)
      (repeat kas_types)
      dsimp only at *
      rw [← es]
      refine w_I (divz (sgn_ne h0) (sgn_bd h0 hb) (by decide)) ?_
      (repeat kas_types)
      refine w_I (divz (sgn_ne h0) (sgn_bd h0 hb) (by decide)) ?_
      (repeat kas_types)
      exact k _ _ (by lcg_sub) (by keq_rows)

abbrev sp_law_plus (K : PySem.W.Frag) : Sp := spP K (fun i : Nat × (Int × Int) × (Int × Int) => [prI i.2.1, prI i.2.2]) (fun i => i.1 ≤ 3900 ∧ Bd i.1 i.2.1.1 ∧ Bd i.1 i.2.1.2 ∧ Bd i.1 i.2.2.1 ∧ Bd i.1 i.2.2.2 ∧ i.2.1.2 ≠ 0 ∧ i.2.2.2 ≠ 0) (fun i => prI (addL i.2.1 i.2.2))
theorem len_law_plus {K : PySem.W.Frag} {vs : List V} {H : Hp} {Q : VK} {E : XK} (h : sp_law_plus K vs H Q E) : vs.length = 2 := by
  first | exact len1 (n := 2) (fun _ => rfl) h | exact len2 (n := 2) (fun _ => rfl) h | exact len3 (n := 2) (fun _ => rfl) h | exact len4 (n := 2) (fun _ => rfl) h
theorem ok_law_plus (F : Fun K "_law_plus" "_law_plus" s_law_plus f fd) (M : Bu mg) (c_law_pair : Cal P w K mg base 2 "_law_pair" ["upper", "lower"] (sp_law_pair K))  : FnOk P w K mg base CX0 3 f fd ["u", "v"] (sp_law_plus K) := by
  refine F.ok sc_law_plus (fun vs H Q E h => ?_) (fun cdv A outer s H vs Q E hr h => ?_)
  · exact len_law_plus h
  · obtain ⟨⟨n, ⟨a, b⟩, ⟨c, q⟩⟩, ha, ⟨hn, h1, h2, h3, h4, z1, z2⟩, k⟩ := h
    dsimp only at ha k hn h1 h2 h3 h4 z1 z2
    obtain ⟨v1, v2, rfl, hd1, hd2⟩ := dpa2 ha
    have hd1 : Dp K H v1 (pr a b) := hd1
    have hd2 : Dp K H v2 (pr c q) := hd2
    refine ⟨_, (pss_one (ps_ret (pe_callD c_law_pair hr (by decide) (pa_cons (pe_op (op_addK K rfl) (pe_op op_mulU (pe_ix (ix_seqK K rfl) (pv 0) pe_int (fun _ _ => rfl)) (pe_ix (ix_seqK K rfl) (pv 1) pe_int (fun _ _ => rfl))) (pe_op op_mulU (pe_ix (ix_seqK K rfl) (pv 1) pe_int (fun _ _ => rfl)) (pe_ix (ix_seqK K rfl) (pv 0) pe_int (fun _ _ => rfl)))) (pa_cons (pe_op op_mulU (pe_ix (ix_seqK K rfl) (pv 0) pe_int (fun _ _ => rfl)) (pe_ix (ix_seqK K rfl) (pv 1) pe_int (fun _ _ => rfl))) pa_nil))))), ?_⟩
    try simp only [cxK, cxK2]
    refine w_st (σ' := [some v1, some v2]) rfl ?_
    (repeat kas_types)
    refine w_mulI (mulx h1 h4 (by omega)) ?_
    (repeat kas_types)
    refine w_mulI (mulx h3 h2 (by omega)) ?_
    (repeat kas_types)
    refine w_mulI (mulx h2 h4 (by omega)) ?_
    (repeat kas_types)
    refine w_spP (a * q + c * b, b * q) (by k_clsL) ⟨Int.mul_ne_zero z1 z2, (h2.mul h4).mono (by omega)⟩ fun v H1 e1 hv => ?_
    exact k _ _ (by lcg_sub) hv

abbrev sp_law_times (K : PySem.W.Frag) : Sp := spP K (fun i : Nat × (Int × Int) × (Int × Int) => [prI i.2.1, prI i.2.2]) (fun i => i.1 ≤ 3900 ∧ Bd i.1 i.2.1.1 ∧ Bd i.1 i.2.1.2 ∧ Bd i.1 i.2.2.1 ∧ Bd i.1 i.2.2.2 ∧ i.2.1.2 ≠ 0 ∧ i.2.2.2 ≠ 0) (fun i => prI (mulL i.2.1 i.2.2))
theorem len_law_times {K : PySem.W.Frag} {vs : List V} {H : Hp} {Q : VK} {E : XK} (h : sp_law_times K vs H Q E) : vs.length = 2 := by
  first | exact len1 (n := 2) (fun _ => rfl) h | exact len2 (n := 2) (fun _ => rfl) h | exact len3 (n := 2) (fun _ => rfl) h | exact len4 (n := 2) (fun _ => rfl) h
theorem ok_law_times (F : Fun K "_law_times" "_law_times" s_law_times f fd) (M : Bu mg) (c_law_pair : Cal P w K mg base 2 "_law_pair" ["upper", "lower"] (sp_law_pair K))  : FnOk P w K mg base CX0 3 f fd ["u", "v"] (sp_law_times K) := by
  refine F.ok sc_law_times (fun vs H Q E h => ?_) (fun cdv A outer s H vs Q E hr h => ?_)
  · exact len_law_times h
  · obtain ⟨⟨n, ⟨a, b⟩, ⟨c, q⟩⟩, ha, ⟨hn, h1, h2, h3, h4, z1, z2⟩, k⟩ := h
    dsimp only at ha k hn h1 h2 h3 h4 z1 z2
    obtain ⟨v1, v2, rfl, hd1, hd2⟩ := dpa2 ha
    have hd1 : Dp K H v1 (pr a b) := hd1
    have hd2 : Dp K H v2 (pr c q) := hd2
    refine ⟨_, (pss_one (ps_ret (pe_callD c_law_pair hr (by decide) (pa_cons (pe_op op_mulU (pe_ix (ix_seqK K rfl) (pv 0) pe_int (fun _ _ => rfl)) (pe_ix (ix_seqK K rfl) (pv 1) pe_int (fun _ _ => rfl))) (pa_cons (pe_op op_mulU (pe_ix (ix_seqK K rfl) (pv 0) pe_int (fun _ _ => rfl)) (pe_ix (ix_seqK K rfl) (pv 1) pe_int (fun _ _ => rfl))) pa_nil))))), ?_⟩
    try simp only [cxK, cxK2]
    refine w_st (σ' := [some v1, some v2]) rfl ?_
    (repeat kas_types)
    refine w_mulI (mulx h1 h3 (by omega)) ?_
    (repeat kas_types)
    refine w_mulI (mulx h2 h4 (by omega)) ?_
    (repeat kas_types)
    refine w_spP (a * c, b * q) (by k_clsL) ⟨Int.mul_ne_zero z1 z2, (h2.mul h4).mono (by omega)⟩ fun v H1 e1 hv => ?_
    exact k _ _ (by lcg_sub) hv

abbrev sp_law_det (K : PySem.W.Frag) : Sp := spP K (fun i : Nat × M4 => [i.2.D]) (fun i => i.1 ≤ 60000000 ∧ Bm i.1 i.2) (fun i => .int i.2.det)
theorem len_law_det {K : PySem.W.Frag} {vs : List V} {H : Hp} {Q : VK} {E : XK} (h : sp_law_det K vs H Q E) : vs.length = 1 := by
  first | exact len1 (n := 1) (fun _ => rfl) h | exact len2 (n := 1) (fun _ => rfl) h | exact len3 (n := 1) (fun _ => rfl) h | exact len4 (n := 1) (fun _ => rfl) h
theorem ok_law_det (F : Fun K "_law_det" "_law_det" s_law_det f fd) (M : Bu mg)   : FnOk P w K mg base CX0 1 f fd ["grid"] (sp_law_det K) := by
  refine F.ok sc_law_det (fun vs H Q E h => ?_) (fun cdv A outer s H vs Q E hr h => ?_)
  · exact len_law_det h
  · obtain ⟨⟨n, m⟩, ha, ⟨hn, hb⟩, k⟩ := h
    dsimp only at ha k hn hb
    obtain ⟨v, rfl, hd⟩ := dpa1 ha
    obtain ⟨h1, h2, h3, h4⟩ := id hb
    refine ⟨_, (pss_one (ps_ret (pe_op op_sub (pe_op op_mulU (pe_ix (ix_seqK K rfl) (pe_ix (ix_seqK K rfl) (pv 0) pe_int (fun _ _ => rfl)) pe_int (fun _ _ => rfl)) (pe_ix (ix_seqK K rfl) (pe_ix (ix_seqK K rfl) (pv 0) pe_int (fun _ _ => rfl)) pe_int (fun _ _ => rfl))) (pe_op op_mulU (pe_ix (ix_seqK K rfl) (pe_ix (ix_seqK K rfl) (pv 0) pe_int (fun _ _ => rfl)) pe_int (fun _ _ => rfl)) (pe_ix (ix_seqK K rfl) (pe_ix (ix_seqK K rfl) (pv 0) pe_int (fun _ _ => rfl)) pe_int (fun _ _ => rfl)))))), ?_⟩
    try simp only [cxK, cxK2]
    refine w_st (σ' := [some v]) rfl ?_
    (repeat kas_types)
    refine w_mulI (mulx h1 h4 (by omega)) ?_
    (repeat kas_types)
    refine w_mulI (mulx h2 h3 (by omega)) ?_
    (repeat kas_types)
    exact fin_i k (by lcg_sub) rfl

abbrev sp_law_growing (K : PySem.W.Frag) : Sp := spP K (fun i : Nat × M4 => [i.2.D]) (fun i => i.1 ≤ 60000000 ∧ Bm i.1 i.2) (fun i => .bool i.2.grows)
theorem len_law_growing {K : PySem.W.Frag} {vs : List V} {H : Hp} {Q : VK} {E : XK} (h : sp_law_growing K vs H Q E) : vs.length = 1 := by
  first | exact len1 (n := 1) (fun _ => rfl) h | exact len2 (n := 1) (fun _ => rfl) h | exact len3 (n := 1) (fun _ => rfl) h | exact len4 (n := 1) (fun _ => rfl) h
theorem ok_law_growing (F : Fun K "_law_growing" "_law_growing" s_law_growing f fd) (M : Bu mg) (c_law_det : Cal P w K mg base 1 "_law_det" ["grid"] (sp_law_det K))  : FnOk P w K mg base CX0 2 f fd ["grid"] (sp_law_growing K) := by
  refine F.ok sc_law_growing (fun vs H Q E h => ?_) (fun cdv A outer s H vs Q E hr h => ?_)
  · exact len_law_growing h
  · obtain ⟨⟨n, m⟩, ha, ⟨hn, hb⟩, k⟩ := h
    dsimp only at ha k hn hb
    obtain ⟨v, rfl, hd⟩ := dpa1 ha
    obtain ⟨h1, h2, h3, h4⟩ := id hb
    refine ⟨_, (pss_cons (ps_par (i := 1) (j := 2) (by rfl) sc_law_growing.nd rfl rfl (by decide) rfl rfl (pa_cons (pe_callD c_law_det hr (by decide) (pa_cons (pv 0) pa_nil)) (pa_cons (pe_op (op_addK K rfl) (pe_ix (ix_seqK K rfl) (pe_ix (ix_seqK K rfl) (pv 0) pe_int (fun _ _ => rfl)) pe_int (fun _ _ => rfl)) (pe_ix (ix_seqK K rfl) (pe_ix (ix_seqK K rfl) (pv 0) pe_int (fun _ _ => rfl)) pe_int (fun _ _ => rfl))) pa_nil)) (by rfl))
      (pss_cons (ps_if (pt_cmpR op_gt (pv 1) pe_int (nomark _)) (pss_one (ps_ret (pe_and (pe_cmpR op_gt (pv 1) pe_int (nomark _)) (pe_one (pe_cmpR op_le (pe_callB call_absU (by rfl) M.z_abs (by decide +kernel) (pa_cons (pv 2) pa_nil)) (pv 1) (nomark _)))))) pss_nil)
      (pss_one (ps_ret (pe_and (pe_cmpR op_lt (pv 1) (pe_un un_neg pe_int) (nomark _)) (pe_one (pe_cmpR op_le (pe_callB call_absU (by rfl) M.z_abs (by decide +kernel) (pa_cons (pv 2) pa_nil)) (pe_op op_sub (pe_un un_neg (pv 1)) pe_int) (nomark _)))))))), ?_⟩
    try simp only [cxK, cxK2]
    refine w_st (σ' := [some v, none, none]) rfl ?_
    (repeat kas_types)
    refine w_spP (n, m) (by k_clsL) ⟨hn, hb⟩ fun v1 H1 e1 hv => ?_
    rw [qint_inv hv]
    (repeat kas_types)
    refine w_ite (fun e => ?_) (fun e => ?_)
    · have e' := of_decide_eq_true e
      (repeat kas_types)
      refine w_ite (fun e2 => ?_) (fun e2 => ?_)
      · have e2' := of_decide_eq_true e2
        (repeat kas_types)
        refine fin_b k (by lcg_sub) ?_
        rw [M4.grows, if_pos e', decide_eq_true (show 2 ≤ m.det by omega), Bool.true_and, ← Bool.decide_and]
        refine decide_eq_decide.mpr ?_
        show ((((m.a + m.d).natAbs : Nat) : Int) ≤ m.det) ↔ (-m.det ≤ m.tr ∧ m.tr ≤ m.det)
        unfold M4.tr
        omega
      · have e2' := of_decide_eq_false e2
        (repeat kas_types)
        refine fin_b k (by lcg_sub) ?_
        rw [M4.grows, if_pos e', decide_eq_false (show ¬ 2 ≤ m.det by omega), Bool.false_and]
    · have e' := of_decide_eq_false e
      (repeat kas_types)
      refine w_ite (fun e2 => ?_) (fun e2 => ?_)
      · have e2' := of_decide_eq_true e2
        (repeat kas_types)
        refine fin_b k (by lcg_sub) ?_
        rw [M4.grows, if_neg e', decide_eq_true (show m.det ≤ -2 by omega), Bool.true_and, ← Bool.decide_and]
        refine decide_eq_decide.mpr ?_
        show ((((m.a + m.d).natAbs : Nat) : Int) ≤ -m.det - 2) ↔ (m.det + 2 ≤ m.tr ∧ m.tr ≤ -m.det - 2)
        unfold M4.tr
        omega
      · have e2' := of_decide_eq_false e2
        (repeat kas_types)
        refine fin_b k (by lcg_sub) ?_
        rw [M4.grows, if_neg e', decide_eq_false (show ¬ m.det ≤ -2 by omega), Bool.false_and]

abbrev sp_law_ahead (K : PySem.W.Frag) : Sp := spP K (fun i : Nat × M4 × Int × Int => [i.2.1.D, pr i.2.2.1 i.2.2.2]) (fun i => i.1 ≤ 60000000 ∧ Bm i.1 i.2.1 ∧ Bd i.1 i.2.2.1 ∧ Bd i.1 i.2.2.2) (fun i => pr (i.2.1.a * i.2.2.1 + i.2.1.b * i.2.2.2) (i.2.1.c * i.2.2.1 + i.2.1.d * i.2.2.2))
theorem len_law_ahead {K : PySem.W.Frag} {vs : List V} {H : Hp} {Q : VK} {E : XK} (h : sp_law_ahead K vs H Q E) : vs.length = 2 := by
  first | exact len1 (n := 2) (fun _ => rfl) h | exact len2 (n := 2) (fun _ => rfl) h | exact len3 (n := 2) (fun _ => rfl) h | exact len4 (n := 2) (fun _ => rfl) h
theorem ok_law_ahead (F : Fun K "_law_ahead" "_law_ahead" s_law_ahead f fd) (M : Bu mg)   : FnOk P w K mg base CX0 1 f fd ["grid", "away"] (sp_law_ahead K) := by
  refine F.ok sc_law_ahead (fun vs H Q E h => ?_) (fun cdv A outer s H vs Q E hr h => ?_)
  · exact len_law_ahead h
  · obtain ⟨⟨n, m, x, y⟩, ha, ⟨hn, ⟨h1, h2, h3, h4⟩, h5, h6⟩, k⟩ := h
    dsimp only at ha k hn h1 h2 h3 h4 h5 h6
    obtain ⟨v1, v2, rfl, hd1, hd2⟩ := dpa2 ha
    refine ⟨_, (pss_one (ps_ret (pe_tupK K rfl (pa_cons (pe_op (op_addK K rfl) (pe_op op_mulU (pe_ix (ix_seqK K rfl) (pe_ix (ix_seqK K rfl) (pv 0) pe_int (fun _ _ => rfl)) pe_int (fun _ _ => rfl)) (pe_ix (ix_seqK K rfl) (pv 1) pe_int (fun _ _ => rfl))) (pe_op op_mulU (pe_ix (ix_seqK K rfl) (pe_ix (ix_seqK K rfl) (pv 0) pe_int (fun _ _ => rfl)) pe_int (fun _ _ => rfl)) (pe_ix (ix_seqK K rfl) (pv 1) pe_int (fun _ _ => rfl)))) (pa_cons (pe_op (op_addK K rfl) (pe_op op_mulU (pe_ix (ix_seqK K rfl) (pe_ix (ix_seqK K rfl) (pv 0) pe_int (fun _ _ => rfl)) pe_int (fun _ _ => rfl)) (pe_ix (ix_seqK K rfl) (pv 1) pe_int (fun _ _ => rfl))) (pe_op op_mulU (pe_ix (ix_seqK K rfl) (pe_ix (ix_seqK K rfl) (pv 0) pe_int (fun _ _ => rfl)) pe_int (fun _ _ => rfl)) (pe_ix (ix_seqK K rfl) (pv 1) pe_int (fun _ _ => rfl)))) pa_nil))))), ?_⟩
    try simp only [cxK, cxK2]
    refine w_st (σ' := [some v1, some v2]) rfl ?_
    (repeat kas_types)
    refine w_mulI (mulx h1 h5 (by omega)) ?_
    (repeat kas_types)
    refine w_mulI (mulx h2 h6 (by omega)) ?_
    (repeat kas_types)
    refine w_mulI (mulx h3 h5 (by omega)) ?_
    (repeat kas_types)
    refine w_mulI (mulx h4 h6 (by omega)) ?_
    (repeat kas_types)
    exact k _ _ (by lcg_sub) (by keq_rows)

theorem Bm.le {n j : Nat} {m : M4} (h : Bm n m) (l : n ≤ j) : Bm j m := h.mono l
abbrev sp_law_solved (K : PySem.W.Frag) : Sp := spP K (fun i : Nat × M4 × Spot => [i.2.1.D, i.2.2.D]) (fun i => i.1 ≤ 1330 ∧ 1 ≤ i.1 ∧ Bm i.1 i.2.1 ∧ Bs i.1 i.2.2 ∧ i.2.1.det ≠ 0 ∧ i.2.2.ok = true) (fun i => i.2.2.und i.2.1)
theorem len_law_solved {K : PySem.W.Frag} {vs : List V} {H : Hp} {Q : VK} {E : XK} (h : sp_law_solved K vs H Q E) : vs.length = 2 := by
  first | exact len1 (n := 2) (fun _ => rfl) h | exact len2 (n := 2) (fun _ => rfl) h | exact len3 (n := 2) (fun _ => rfl) h | exact len4 (n := 2) (fun _ => rfl) h
theorem ok_law_solved (F : Fun K "_law_solved" "_law_solved" s_law_solved f fd) (M : Bu mg) (c_law_det : Cal P w K mg base 1 "_law_det" ["grid"] (sp_law_det K)) (c_law_plus : Cal P w K mg base 3 "_law_plus" ["u", "v"] (sp_law_plus K)) (c_law_times : Cal P w K mg base 3 "_law_times" ["u", "v"] (sp_law_times K)) (c_law_pair : Cal P w K mg base 2 "_law_pair" ["upper", "lower"] (sp_law_pair K))  : FnOk P w K mg base CX0 4 f fd ["grid", "spot"] (sp_law_solved K) := by
  refine F.ok sc_law_solved (fun vs H Q E h => ?_) (fun cdv A outer s H vs Q E hr h => ?_)
  · exact len_law_solved h
  · obtain ⟨⟨n, m, p⟩, ha, ⟨hn, h0, hb, ⟨g1, g2, g3, g4⟩, hg, ho⟩, k⟩ := h
    (try dsimp only at ha k hn h0 hb g1 g2 g3 g4 hg ho)
    obtain ⟨v1, v2, rfl, hd1, hd2⟩ := dpa2 ha
    obtain ⟨h1, h2, h3, h4⟩ := id hb
    have hxb : p.xb ≠ 0 := by unfold Spot.ok at ho; rw [Bool.and_eq_true] at ho; have := isNum_pos ho.1; omega
    have hyb : p.yb ≠ 0 := by unfold Spot.ok at ho; rw [Bool.and_eq_true] at ho; have := isNum_pos ho.2; omega
    obtain ⟨m1, m2, m3, m4⟩ := m
    obtain ⟨x, xb, y, yb⟩ := p
    dsimp only at *
    refine ⟨_, (pss_cons (ps_set (i := 2) sc_law_solved.nd rfl (Or.inl rfl) (pe_callD c_law_det hr (by decide) (pa_cons (pv 0) pa_nil)))
      (pss_cons (ps_set (i := 3) sc_law_solved.nd rfl (Or.inl rfl) (pe_callD c_law_plus hr (by decide) (pa_cons (pe_callD c_law_times hr (by decide) (pa_cons (pe_tupK K rfl (pa_cons (pe_ix (ix_seqK K rfl) (pe_ix (ix_seqK K rfl) (pv 0) pe_int (fun _ _ => rfl)) pe_int (fun _ _ => rfl)) (pa_cons pe_int pa_nil))) (pa_cons (pe_ix (ix_seqK K rfl) (pv 1) pe_int (fun _ _ => rfl)) pa_nil))) (pa_cons (pe_callD c_law_times hr (by decide) (pa_cons (pe_tupK K rfl (pa_cons (pe_un un_neg (pe_ix (ix_seqK K rfl) (pe_ix (ix_seqK K rfl) (pv 0) pe_int (fun _ _ => rfl)) pe_int (fun _ _ => rfl))) (pa_cons pe_int pa_nil))) (pa_cons (pe_ix (ix_seqK K rfl) (pv 1) pe_int (fun _ _ => rfl)) pa_nil))) pa_nil))))
      (pss_cons (ps_set (i := 4) sc_law_solved.nd rfl (Or.inl rfl) (pe_callD c_law_plus hr (by decide) (pa_cons (pe_callD c_law_times hr (by decide) (pa_cons (pe_tupK K rfl (pa_cons (pe_ix (ix_seqK K rfl) (pe_ix (ix_seqK K rfl) (pv 0) pe_int (fun _ _ => rfl)) pe_int (fun _ _ => rfl)) (pa_cons pe_int pa_nil))) (pa_cons (pe_ix (ix_seqK K rfl) (pv 1) pe_int (fun _ _ => rfl)) pa_nil))) (pa_cons (pe_callD c_law_times hr (by decide) (pa_cons (pe_tupK K rfl (pa_cons (pe_un un_neg (pe_ix (ix_seqK K rfl) (pe_ix (ix_seqK K rfl) (pv 0) pe_int (fun _ _ => rfl)) pe_int (fun _ _ => rfl))) (pa_cons pe_int pa_nil))) (pa_cons (pe_ix (ix_seqK K rfl) (pv 1) pe_int (fun _ _ => rfl)) pa_nil))) pa_nil))))
      (pss_one (ps_ret (pe_tupK K rfl (pa_cons (pe_callD c_law_pair hr (by decide) (pa_cons (pe_ix (ix_seqK K rfl) (pv 3) pe_int (fun _ _ => rfl)) (pa_cons (pe_op op_mulU (pe_ix (ix_seqK K rfl) (pv 3) pe_int (fun _ _ => rfl)) (pv 2)) pa_nil))) (pa_cons (pe_callD c_law_pair hr (by decide) (pa_cons (pe_ix (ix_seqK K rfl) (pv 4) pe_int (fun _ _ => rfl)) (pa_cons (pe_op op_mulU (pe_ix (ix_seqK K rfl) (pv 4) pe_int (fun _ _ => rfl)) (pv 2)) pa_nil))) pa_nil)))))))), ?_⟩
    try simp only [cxK, cxK2]
    refine w_st (σ' := [some v1, some v2, none, none, none]) rfl ?_
    (repeat kas_types)
    refine w_spP (n, M4.mk m1 m2 m3 m4) (by k_clsL) ⟨by show n ≤ _; omega, hb⟩ fun vd H1 e1 hv => ?_
    rw [qint_inv hv]
    have hdet := hb.det
    have one : Bd n (1 : Int) := (show Bd 1 (1 : Int) by unfold Bd; decide).mono h0
    (repeat kas_types)
    have hone : (1 : Int) ≠ 0 := by decide
    have oxb : (1 : Int) * xb ≠ 0 := by rw [Int.one_mul]; exact hxb
    have oyb : (1 : Int) * yb ≠ 0 := by rw [Int.one_mul]; exact hyb
    have T : ∀ (k : Int) (u v : Int), Bd n k → Bd n u → Bd n v → v ≠ 0 → Bd (2 * n) (mulL (k, 1) (u, v)).1 ∧ Bd (2 * n) (mulL (k, 1) (u, v)).2 ∧ (mulL (k, 1) (u, v)).2 ≠ 0 := by
      intro k u v hk hu hv h0
      have h1 : (1 : Int) * v ≠ 0 := by rw [Int.one_mul]; exact h0
      have q := low_bd (n := 2 * n) (t := k * u) h1 ((hk.mul hu).mono (by omega)) ((one.mul hv).mono (by omega))
      have := low_pos (t := k * u) h1
      exact ⟨q.1, q.2, by show (low (k * u) (1 * v)).2 ≠ 0; omega⟩
    have A : ∀ (u v : Int × Int), Bd (2 * n) u.1 → Bd (2 * n) u.2 → Bd (2 * n) v.1 → Bd (2 * n) v.2 → u.2 ≠ 0 → v.2 ≠ 0 → Bd (4 * n + 1) (addL u v).1 ∧ Bd (4 * n + 1) (addL u v).2 ∧ (addL u v).2 ≠ 0 := by
      intro u v b1 b2 b3 b4 z1 z2
      have h1 : u.2 * v.2 ≠ 0 := Int.mul_ne_zero z1 z2
      have q := low_bd (n := 4 * n + 1) (t := u.1 * v.2 + v.1 * u.2) h1 (((b1.mul b4).add (b3.mul b2)).mono (by omega)) ((b2.mul b4).mono (by omega))
      have := low_pos (t := u.1 * v.2 + v.1 * u.2) h1
      exact ⟨q.1, q.2, by show (low (u.1 * v.2 + v.1 * u.2) (u.2 * v.2)).2 ≠ 0; omega⟩
    refine w_spP (n, (m4, 1), (x, xb)) (by k_clsL) ⟨by show n ≤ _; omega, h4, one, g1, g2, hone, hxb⟩ fun t1 H2 e2 ht1 => ?_
    (repeat kas_types)
    refine w_spP (n, (-m2, 1), (y, yb)) (by k_clsL) ⟨by show n ≤ _; omega, h2.neg, one, g3, g4, hone, hyb⟩ fun t2 H3 e3 ht2 => ?_
    (repeat kas_types)
    obtain ⟨b1, b2, b3⟩ := T m4 x xb h4 g1 g2 hxb
    obtain ⟨b4, b5, b6⟩ := T (-m2) y yb h2.neg g3 g4 hyb
    refine w_spP (2 * n, mulL (m4, 1) (x, xb), mulL (-m2, 1) (y, yb)) (by k_clsL) ⟨by show 2 * n ≤ _; omega, b1, b2, b4, b5, b3, b6⟩ fun s1 H4 e4 hs1 => ?_
    obtain ⟨c1, c2, c3⟩ := A _ _ b1 b2 b4 b5 b3 b6
    (repeat kas_types)
    refine w_spP (n, (m1, 1), (y, yb)) (by k_clsL) ⟨by show n ≤ _; omega, h1, one, g3, g4, hone, hyb⟩ fun t3 H5 e5 ht3 => ?_
    (repeat kas_types)
    refine w_spP (n, (-m3, 1), (x, xb)) (by k_clsL) ⟨by show n ≤ _; omega, h3.neg, one, g1, g2, hone, hxb⟩ fun t4 H6 e6 ht4 => ?_
    (repeat kas_types)
    obtain ⟨b1, b2, b3⟩ := T m1 y yb h1 g3 g4 hyb
    obtain ⟨b4, b5, b6⟩ := T (-m3) x xb h3.neg g1 g2 hxb
    refine w_spP (2 * n, mulL (m1, 1) (y, yb), mulL (-m3, 1) (x, xb)) (by k_clsL) ⟨by show 2 * n ≤ _; omega, b1, b2, b4, b5, b3, b6⟩ fun s2 H7 e7 hs2 => ?_
    obtain ⟨c4, c5, c6⟩ := A _ _ b1 b2 b4 b5 b3 b6
    have k1 := solL_eq (k := m4) (l := -m2) (x := x) (y := y) hxb hyb hg
    have k2 := solL_eq (k := m1) (l := -m3) (x := y) (y := x) hyb hxb hg
    unfold solL at k1 k2
    dsimp only at hs1 hs2 k1 k2
    generalize addL (mulL (m4, 1) (x, xb)) (mulL (-m2, 1) (y, yb)) = S1 at *
    generalize addL (mulL (m1, 1) (y, yb)) (mulL (-m3, 1) (x, xb)) = S2 at *
    obtain ⟨p1, q1⟩ := S1
    obtain ⟨p2, q2⟩ := S2
    dsimp only at c1 c2 c3 c4 c5 c6 k1 k2
    have hs1 : Dq K H4 s1 (pr p1 q1) := hs1
    have hs2 : Dq K H7 s2 (pr p2 q2) := hs2
    (repeat kas_types)
    refine w_mulI (mulx c2 hdet (by omega)) ?_
    (repeat kas_types)
    refine w_spP (p1, q1 * M4.det ⟨m1, m2, m3, m4⟩) (by k_clsL) ⟨Int.mul_ne_zero c3 hg, (c2.mul hdet).mono (by omega)⟩ fun r1 H8 e8 hr1 => ?_
    (repeat kas_types)
    refine w_mulI (mulx c5 hdet (by omega)) ?_
    (repeat kas_types)
    refine w_spP (p2, q2 * M4.det ⟨m1, m2, m3, m4⟩) (by k_clsL) ⟨Int.mul_ne_zero c6 hg, (c5.mul hdet).mono (by omega)⟩ fun r2 H9 e9 hr2 => ?_
    (repeat kas_types)
    have f1 : low p1 (q1 * M4.det ⟨m1, m2, m3, m4⟩) = low (m4 * (x * yb) - m2 * (y * xb)) (xb * yb * M4.det ⟨m1, m2, m3, m4⟩) := by
      rw [k1, Int.sub_eq_add_neg, Int.neg_mul]
    have f2 : low p2 (q2 * M4.det ⟨m1, m2, m3, m4⟩) = low (m1 * (y * xb) - m3 * (x * yb)) (xb * yb * M4.det ⟨m1, m2, m3, m4⟩) := by
      rw [k2, Int.sub_eq_add_neg, Int.neg_mul, Int.mul_comm xb yb]
    refine k _ _ (by lcg_sub) ?_
    unfold Spot.und und
    dsimp only
    rw [← f1, ← f2]
    keq_rows

abbrev sp_law_product (K : PySem.W.Frag) : Sp := spP K (fun i : Nat × M4 × M4 => [i.2.1.D, i.2.2.D]) (fun i => i.1 ≤ 60000000 ∧ Bm i.1 i.2.1 ∧ Bm i.1 i.2.2) (fun i => (i.2.1.mul i.2.2).D)
theorem len_law_product {K : PySem.W.Frag} {vs : List V} {H : Hp} {Q : VK} {E : XK} (h : sp_law_product K vs H Q E) : vs.length = 2 := by
  first | exact len1 (n := 2) (fun _ => rfl) h | exact len2 (n := 2) (fun _ => rfl) h | exact len3 (n := 2) (fun _ => rfl) h | exact len4 (n := 2) (fun _ => rfl) h
theorem ok_law_product (F : Fun K "_law_product" "_law_product" s_law_product f fd) (M : Bu mg) (c_law_ahead : Cal P w K mg base 1 "_law_ahead" ["grid", "away"] (sp_law_ahead K))  : FnOk P w K mg base CX0 2 f fd ["first", "second"] (sp_law_product K) := by
  refine F.ok sc_law_product (fun vs H Q E h => ?_) (fun cdv A outer s H vs Q E hr h => ?_)
  · exact len_law_product h
  · obtain ⟨⟨n, x, y⟩, ha, ⟨hn, hb, hc⟩, k⟩ := h
    dsimp only at ha k hn hb hc
    obtain ⟨v1, v2, rfl, hd1, hd2⟩ := dpa2 ha
    obtain ⟨g1, g2, g3, g4⟩ := id hc
    refine ⟨_, (pss_cons (ps_par (i := 2) (j := 3) (by rfl) sc_law_product.nd rfl rfl (by decide) rfl rfl (pa_cons (pe_callD c_law_ahead hr (by decide) (pa_cons (pv 0) (pa_cons (pe_tupK K rfl (pa_cons (pe_ix (ix_seqK K rfl) (pe_ix (ix_seqK K rfl) (pv 1) pe_int (fun _ _ => rfl)) pe_int (fun _ _ => rfl)) (pa_cons (pe_ix (ix_seqK K rfl) (pe_ix (ix_seqK K rfl) (pv 1) pe_int (fun _ _ => rfl)) pe_int (fun _ _ => rfl)) pa_nil))) pa_nil))) (pa_cons (pe_callD c_law_ahead hr (by decide) (pa_cons (pv 0) (pa_cons (pe_tupK K rfl (pa_cons (pe_ix (ix_seqK K rfl) (pe_ix (ix_seqK K rfl) (pv 1) pe_int (fun _ _ => rfl)) pe_int (fun _ _ => rfl)) (pa_cons (pe_ix (ix_seqK K rfl) (pe_ix (ix_seqK K rfl) (pv 1) pe_int (fun _ _ => rfl)) pe_int (fun _ _ => rfl)) pa_nil))) pa_nil))) pa_nil)) (by rfl))
      (pss_one (ps_ret (pe_tupK K rfl (pa_cons (pe_tupK K rfl (pa_cons (pe_ix (ix_seqK K rfl) (pv 2) pe_int (fun _ _ => rfl)) (pa_cons (pe_ix (ix_seqK K rfl) (pv 3) pe_int (fun _ _ => rfl)) pa_nil))) (pa_cons (pe_tupK K rfl (pa_cons (pe_ix (ix_seqK K rfl) (pv 2) pe_int (fun _ _ => rfl)) (pa_cons (pe_ix (ix_seqK K rfl) (pv 3) pe_int (fun _ _ => rfl)) pa_nil))) pa_nil)))))), ?_⟩
    try simp only [cxK, cxK2]
    refine w_st (σ' := [some v1, some v2, none, none]) rfl ?_
    (repeat kas_types)
    refine w_spP (n, x, y.a, y.c) (by k_clsL) ⟨hn, hb, g1, g3⟩ fun u1 H1 e1 hu1 => ?_
    (repeat kas_types)
    refine w_spP (n, x, y.b, y.d) (by k_clsL) ⟨hn, hb, g2, g4⟩ fun u2 H2 e2 hu2 => ?_
    (repeat kas_types)
    exact k _ _ (by lcg_sub) (by keq_rows)

abbrev sp_law_power (K : PySem.W.Frag) : Sp := spP K (fun i : Nat × M4 × Nat => [i.2.1.D, .int (i.2.2 : Nat)]) (fun i => i.1 ≤ 100000 ∧ Bm i.1 i.2.1 ∧ i.2.2 ≤ 100) (fun i => (i.2.1.pw i.2.2).D)
theorem len_law_power {K : PySem.W.Frag} {vs : List V} {H : Hp} {Q : VK} {E : XK} (h : sp_law_power K vs H Q E) : vs.length = 2 := by
  first | exact len1 (n := 2) (fun _ => rfl) h | exact len2 (n := 2) (fun _ => rfl) h | exact len3 (n := 2) (fun _ => rfl) h | exact len4 (n := 2) (fun _ => rfl) h
theorem ok_law_power (F : Fun K "_law_power" "_law_power" s_law_power f fd) (M : Bu mg) (c_law_product : Cal P w K mg base 2 "_law_product" ["first", "second"] (sp_law_product K))  : FnOk P w K mg base CX0 3 f fd ["grid", "many"] (sp_law_power K) := by
  refine F.ok sc_law_power (fun vs H Q E h => ?_) (fun cdv A outer s H vs Q E hr h => ?_)
  · exact len_law_power h
  · obtain ⟨⟨n, m, z⟩, ha, ⟨hn, hb, hz⟩, k⟩ := h
    (try dsimp only at ha k hn hb hz)
    obtain ⟨v1, v2, rfl, hd1, hd2⟩ := dpa2 ha
    rw [int_inv hd2]
    clear ha hd2
    refine ⟨_, (pss_cons (ps_set (i := 2) sc_law_power.nd rfl (Or.inl rfl) (pe_tupK K rfl (pa_cons (pe_tupK K rfl (pa_cons pe_int (pa_cons pe_int pa_nil))) (pa_cons (pe_tupK K rfl (pa_cons pe_int (pa_cons pe_int pa_nil))) pa_nil))))
      (pss_cons (ps_for PassesOwn.never rfl (pi_range1 rfl M.z_range (pa_cons (pv 1) pa_nil)) (pg_name (i := 3) sc_law_power.nd rfl (Or.inl rfl)) (pss_one (ps_set (i := 2) sc_law_power.nd rfl (Or.inl rfl) (pe_callD c_law_product hr (by decide) (pa_cons (pv 0) (pa_cons (pv 2) pa_nil))))))
      (pss_one (ps_ret (pv 2))))), ?_⟩
    try simp only [cxK, cxK2]
    refine w_st (σ' := [some v1, some (.int (z : Nat)), none, none]) rfl ?_
    (repeat kas_types)
    refine ⟨_, rfl, by omega, by omega, ?_⟩
    rw [Int.toNat_natCast]
    have hbig : ∀ q, q ≤ z → Bm ((n + 1) * 100 + 1) (m.pw q) := fun q hq => (hb.pw q).mono (by have := Nat.mul_le_mul_left (n + 1) (Nat.le_trans hq hz); omega)
    refine w_forg (fun i σ H' => ∃ u t, σ = [some v1, some (.int (z : Nat)), some t, u] ∧ Ex H H' ∧ Dq K H' t (m.pw i).D) ⟨none, _, rfl, by lcg_sub, by keq_rows⟩ ?_ ?_
    · rintro i σ H3 hi ⟨u, t, rfl, e3, ht⟩
      have hd3 : Dp K H3 v1 m.D := Sk.Dp.up e3 hd1
      (repeat kas_types)
      refine w_spP ((n + 1) * 100 + 1, m, m.pw i) (by k_clsL) ⟨by show (n + 1) * 100 + 1 ≤ 60000000; omega, hb.mono (by omega), hbig _ (by omega)⟩ fun t2 H4 e4 ht2 => ?_
      (repeat kas_types)
      refine ⟨_, _, rfl, by lcg_sub, ?_⟩
      rw [M4.pw_succ']
      exact ht2
    · rintro σ H3 ⟨u, t, rfl, e3, ht⟩
      (repeat kas_types)
      exact k _ _ (by lcg_sub) ht

abbrev sp_law_axes (K : PySem.W.Frag) : Sp := spP K (fun i : Nat × M4 => [i.2.D]) (fun i => i.1 ≤ 100000 ∧ Bm i.1 i.2) (fun i => axF i.2 8 1)
theorem len_law_axes {K : PySem.W.Frag} {vs : List V} {H : Hp} {Q : VK} {E : XK} (h : sp_law_axes K vs H Q E) : vs.length = 1 := by
  first | exact len1 (n := 1) (fun _ => rfl) h | exact len2 (n := 1) (fun _ => rfl) h | exact len3 (n := 1) (fun _ => rfl) h | exact len4 (n := 1) (fun _ => rfl) h
theorem ok_law_axes (F : Fun K "_law_axes" "_law_axes" s_law_axes f fd) (M : Bu mg) (c_law_power : Cal P w K mg base 3 "_law_power" ["grid", "many"] (sp_law_power K))  : FnOk P w K mg base CX0 4 f fd ["grid"] (sp_law_axes K) := by
  refine F.ok sc_law_axes (fun vs H Q E h => ?_) (fun cdv A outer s H vs Q E hr h => ?_)
  · exact len_law_axes h
  · obtain ⟨⟨n, m⟩, ha, ⟨hn, hb⟩, k⟩ := h
    (try dsimp only at ha k hn hb)
    obtain ⟨v, rfl, hd⟩ := dpa1 ha
    clear ha
    refine ⟨_, (pss_cons (ps_for PassesOwn.never rfl (pi_range2 rfl M.z_range (pa_cons pe_int (pa_cons pe_int pa_nil))) (pg_name (i := 1) sc_law_axes.nd rfl (Or.inl rfl)) (pss_cons (ps_set (i := 2) sc_law_axes.nd rfl (Or.inl rfl) (pe_callD c_law_power hr (by decide) (pa_cons (pv 0) (pa_cons (pv 1) pa_nil))))
      (pss_one (ps_if (PW.pt (pw_and (pt_cmpR (op_eqK K rfl hr.units) (pe_tcountK K rfl (pe_ix (ix_seqK K rfl) (pv 2) pe_int (fun _ _ => rfl)) (pa_cons pe_int pa_nil)) pe_int (nomark _)) (pw_and1 (pt_cmpR (op_eqK K rfl hr.units) (pe_tcountK K rfl (pe_ix (ix_seqK K rfl) (pv 2) pe_int (fun _ _ => rfl)) (pa_cons pe_int pa_nil)) pe_int (nomark _))))) (pss_one (ps_ret (pv 1))) pss_nil))))
      (pss_one (ps_ret pe_non))), ?_⟩
    try simp only [cxK, cxK2]
    refine w_st (σ' := [some v, none, none]) rfl ?_
    (repeat kas_types)
    refine ⟨_, _, rfl, by decide, ?_⟩
    refine w_forg (fun i σ H' => ∃ u t, σ = [some v, u, t] ∧ Ex H H' ∧ axF m 8 1 = axF m (8 - i) (i + 1)) ⟨none, none, rfl, by lcg_sub, rfl⟩ ?_ ?_
    · rintro i σ H3 hi ⟨u, t, rfl, e3, hx⟩
      have hi : i < 8 := hi
      have hd3 : Dp K H3 v m.D := Sk.Dp.up e3 hd
      rw [show (1 + (i : Nat) : Int) = ((i + 1 : Nat) : Int) by omega]
      (repeat kas_types)
      refine w_spP (n, m, i + 1) (by k_clsL) ⟨hn, hb, by show i + 1 ≤ 100; omega⟩ fun c H4 e4 hc => ?_
      have hc' : Dq K H4 c (tb (m.pw (i + 1)).a (m.pw (i + 1)).b (m.pw (i + 1)).c (m.pw (i + 1)).d) := hc
      (repeat kas_types)
      refine w_ite (fun e => ?_) (fun e => ?_)
      · (repeat kas_types)
        refine w_ite (fun e9 => ?_) (fun e9 => ?_)
        · (repeat kas_types)
          rw [hx, show 8 - i = (8 - (i + 1)) + 1 by omega, axF, if_pos (by rw [M4.axq, e, e9]; rfl)] at k
          exact fin_i k (by lcg_sub) rfl
        · (repeat kas_types)
          refine ⟨_, _, rfl, by lcg_sub, ?_⟩
          rw [hx, show 8 - i = (8 - (i + 1)) + 1 by omega, axF, if_neg (by rw [M4.axq, e, e9]; decide)]
      · (repeat kas_types)
        refine ⟨_, _, rfl, by lcg_sub, ?_⟩
        rw [hx, show 8 - i = (8 - (i + 1)) + 1 by omega, axF, if_neg (by rw [M4.axq, e, Bool.false_and]; decide)]
    · rintro σ H3 ⟨u, t, rfl, e3, hx⟩
      (repeat kas_types)
      rw [hx] at k
      exact k _ _ e3 .non

end

set_option maxHeartbeats 1000000
open PySem PySem.Spec PyProof.Rows L2
open Evl (Ex ex_l ex_t)
section
variable {P : Program} {w : World} {K : PySem.W.Frag} {mg : Str → Option Value} {base : Heap} {f : Addr} {fd : FuncData}
def sp_law_takeL (_ : PySem.W.Frag) : Sp := fun vs H Q _ => ∃ (a : Addr) (x s m : Int), vs = [.ref a, .int m] ∧ H a = some (.lst [.int x, .int s]) ∧ 0 ≤ s ∧ s < 2 ^ 64 ∧ 0 < m ∧ Bd 7900 m ∧ ∀ r x' s' : Int, 0 ≤ r → r < m → 0 ≤ s' → s' < 2 ^ 64 → Q (.int r) (upd H a (.lst [.int x', .int s']))
def drawn (m : Int) (d : PyData) : Prop := ∃ r : Int, d = .int r ∧ 0 ≤ r ∧ r < m
abbrev sp_law_take (K : PySem.W.Frag) : Sp := spK K (fun m : Int => [.int m]) (fun m => 0 < m ∧ Bd 7900 m) drawn
theorem len_law_take {K : PySem.W.Frag} {vs : List V} {H : Hp} {Q : VK} {E : XK} (h : sp_law_takeL K vs H Q E) : vs.length = 2 := by
  obtain ⟨a, x, z, m, rfl, _⟩ := h
  rfl
theorem ok_law_take (F : Fun K "_law_take" "_law_take" s_law_take f fd) (M : Bu mg)   : FnOk P w K mg base CX0 1 f fd ["deck", "many"] (sp_law_takeL K) := by
  refine F.ok sc_law_take (fun vs H Q E h => ?_) (fun cdv A outer s H vs Q E hr h => ?_)
  · exact len_law_take h
  · obtain ⟨a, x, z, m, rfl, hH, z0, z1, m0, mb, k⟩ := h
    refine ⟨_, (pss_cons (ps_if (pt_cmpR op_gt (pe_ix (ix_seqK K rfl) (pv 0) pe_int (fun _ _ => rfl)) pe_int (nomark _)) (pss_cons (ps_set (i := 2) sc_law_take.nd rfl (Or.inl rfl) (pe_op op_mod (pe_callTy call_intU (by rfl) M.z_int (by decide +kernel) (pa_cons (pe_ix (ix_seqK K rfl) (pv 0) pe_int (fun _ _ => rfl)) pa_nil)) (pv 1)))
      (pss_cons (ps_asg (pe_op op_fdivZ (pe_ix (ix_seqK K rfl) (pv 0) pe_int (fun _ _ => rfl)) (pv 1)) (pg_sub (pv 0) pe_int set_list))
      (pss_one (ps_ret (pv 2))))) pss_nil)
      (pss_cons (ps_asg (pe_op op_mod (pe_callTy call_intU (by rfl) M.z_int (by decide +kernel) (pa_cons (pe_op (op_addK K rfl) (pe_op op_mulU (pe_ix (ix_seqK K rfl) (pv 0) pe_int (fun _ _ => rfl)) pe_int) pe_int) pa_nil)) (pe_op op_pow pe_int pe_int)) (pg_sub (pv 0) pe_int set_list))
      (pss_one (ps_ret (pe_op op_mod (pe_op op_fdivZ (pe_ix (ix_seqK K rfl) (pv 0) pe_int (fun _ _ => rfl)) (pe_op op_pow pe_int pe_int)) (pv 1)))))), ?_⟩
    try simp only [cxK, cxK2]
    refine w_st (σ' := [some (.ref a), some (.int m), none]) rfl ?_
    have bz : Bd 64 z := (by unfold Bd; have h9 : ((2 : Int) ^ 64) = 18446744073709551616 := (by decide); have h8 : ((2 : Nat) ^ 64) = 18446744073709551616 := (by decide); omega)
    (repeat kas_types)
    refine w_ite (fun e => ?_) (fun e => ?_)
    · (repeat kas_types)
      refine w_I m0 ?_
      (repeat kas_types)
      refine w_I (divz (by omega) mb (by decide)) ?_
      (repeat kas_types)
      refine w_setl hH rfl fun H1 e1 h1 => ?_
      (repeat kas_types)
      rw [e1]
      exact k _ _ _ (Int.emod_nonneg _ (by omega)) (Int.emod_lt_of_pos _ m0) z0 z1
    · (repeat kas_types)
      refine w_mulI (mulx bz (show Bd 64 _ by unfold Bd; decide) (by decide)) ?_
      (repeat kas_types)
      refine w_I ⟨by decide, by decide, by decide⟩ ?_
      refine w_I (by decide) ?_
      (repeat kas_types)
      refine w_setl hH rfl fun H1 e1 h1 => ?_
      have h1' : H1 a = some (.lst [.int x, .int ((z * 6364136223846793005 + 1442695040888963407) % 2 ^ (64 : Int).toNat)]) := h1
      (repeat kas_types)
      refine w_I ⟨by decide, by decide, by decide⟩ ?_
      refine w_I (divz (n := 64) (by decide) (by unfold Bd; decide) (by decide)) ?_
      (repeat kas_types)
      refine w_I m0 ?_
      (repeat kas_types)
      rw [e1]
      exact k _ _ _ (Int.emod_nonneg _ (by omega)) (Int.emod_lt_of_pos _ m0) (Int.emod_nonneg _ (by decide)) (Int.emod_lt_of_pos _ (by decide))

theorem take_of (F : FnOk P w K mg base CX0 1 f fd ["deck", "many"] (sp_law_takeL K)) : FnOk P w K mg base CX0 1 f fd ["deck", "many"] (sp_law_take K) := by
  refine deck_in F fun vs H Q E h => ?_
  obtain ⟨m, a, vs', rfl, hd, ha, ⟨hc, hb⟩, k⟩ := h
  obtain ⟨v, rfl, hv⟩ := dqa1 ha
  rw [qint_inv hv]
  refine ⟨a, hd, fun x s h0 h1 => ⟨a, x, s, m, rfl, upd_same, h0, h1, hc, hb, fun r x' s' r0 r1 s0 s1 => ⟨x', s', upd_same, s0, s1, ?_⟩⟩⟩
  rw [upd_upd, upd_upd]
  refine k (.int r) (.int r) _ (fun b o e => ?_) ⟨r, rfl, r0, r1⟩ (.int r)
  by_cases hb : b = a
  · subst hb
    have hd' : H b = some (DeckO b) := hd
    rw [hd'] at e
    rw [upd_same]
    exact e
  · rw [upd_ne hb]
    exact e
/-- a draw -/
theorem w_take {H : Hp} {Q : VK} {E : XK} {a : Addr} {m : Int} (hd : DeckAt H a) (h0 : 0 < m) (hb : Bd 7900 m) (k : ∀ r H', Ex H H' → 0 ≤ r → r < m → Q (.int r) H') : sp_law_take K [.ref a, .int m] H Q E :=
  w_spK m hd (.cons (.int m) .nil) ⟨h0, hb⟩ fun d v H' e ⟨r, hr, r0, r1⟩ hv => by
    subst hr
    rw [qint_inv hv]
    exact k r H' e r0 r1
def sp_law_deckL (K : PySem.W.Frag) : Sp := fun vs H Q _ => ∃ (a : Addr) (ns : List Int) (j : Nat), vs = [.ref a, .int (j : Nat)] ∧ SqL K H a (ns.map V.int) ∧ j ≤ 1000 ∧ ∀ (p : Addr) (x s : Int) (H' : Hp), Ex H H' → H p = none → H' p = some (.lst [.int x, .int s]) → 0 ≤ s → s < 2 ^ 64 → Q (.ref p) H'
def sp_law_deck (K : PySem.W.Frag) : Sp := fun vs H Q _ => ∃ (a : Addr) (ns : List Int) (j : Nat), vs = [.ref a, .int (j : Nat)] ∧ SqL K H a (ns.map V.int) ∧ j ≤ 1000 ∧ ∀ (p : Addr) (H' : Hp), Ex H H' → DeckAt H' p → Q (.ref p) H'
theorem w_newLe {K : PySem.W.Frag} {xs : List V} {Q : VK} {H : Hp} (hl : xs.length ≤ 1000) (k : ∀ p, H p = none → Q (.ref p) (upd H p (.lst xs))) : NewL K xs Q H := ⟨Nat.le_trans hl (by decide), k⟩
theorem stir_ok (z : Int) (j : Int) : Bd 61 (z % 2305843009213693951) ∧ Bd 64 (31 : Int) ∧ (0 ≤ (z + j) % 2305843009213693951 ∧ (z + j) % 2305843009213693951 < 2 ^ 64) := by
  refine ⟨?_, by unfold Bd; decide, Int.emod_nonneg _ (by decide), Int.lt_trans (Int.emod_lt_of_pos _ (by decide)) (by decide)⟩
  unfold Bd
  have h1 := Int.emod_nonneg z (show (2305843009213693951 : Int) ≠ 0 by decide)
  have h2 := Int.emod_lt_of_pos z (show (0 : Int) < 2305843009213693951 by decide)
  have : (2 : Nat) ^ 61 = 2305843009213693952 := by decide
  omega
theorem len_law_deck {K : PySem.W.Frag} {vs : List V} {H : Hp} {Q : VK} {E : XK} (h : sp_law_deckL K vs H Q E) : vs.length = 2 := by
  obtain ⟨a, ns, j, rfl, _⟩ := h
  rfl
theorem ok_law_deck (F : Fun K "_law_deck" "_law_deck" s_law_deck f fd) (M : Bu mg)   : FnOk P w K mg base CX0 1 f fd ["script", "at"] (sp_law_deckL K) := by
  refine F.ok sc_law_deck (fun vs H Q E h => ?_) (fun cdv A outer s H vs Q E hr h => ?_)
  · exact len_law_deck h
  · obtain ⟨a, ns, j, rfl, hS, hj, k⟩ := h
    refine ⟨_, (pss_cons (ps_set (i := 2) sc_law_deck.nd rfl (Or.inl rfl) pe_int)
      (pss_cons (ps_if (pt_cmpR op_lt (pv 1) (pe_callB (call_lenK K rfl) (by rfl) M.z_len PySem.boot_len (pa_cons (pv 0) pa_nil)) (nomark _)) (pss_one (ps_set (i := 2) sc_law_deck.nd rfl (Or.inl rfl) (pe_ix (ix_seqK K rfl) (pv 0) (pv 1) (fun _ _ => rfl)))) pss_nil)
      (pss_cons (ps_set (i := 3) sc_law_deck.nd rfl (Or.inl rfl) (pe_op op_mod (pe_callTy call_intU (by rfl) M.z_int (by decide +kernel) (pa_cons (pe_op (op_addK K rfl) (pe_op (op_addK K rfl) (pv 2) (pe_op op_mulU pe_int (pv 1))) pe_int) pa_nil)) pe_int))
      (pss_cons (ps_set (i := 3) sc_law_deck.nd rfl (Or.inl rfl) (pe_op op_mod (pe_callTy call_intU (by rfl) M.z_int (by decide +kernel) (pa_cons (pe_op (op_addK K rfl) (pe_op (op_addK K rfl) (pe_op op_mulU (pe_op op_mulU (pv 3) (pv 3)) (pv 3)) (pe_op op_mulU pe_int (pv 1))) pe_int) pa_nil)) pe_int))
      (pss_cons (ps_if (pt_cmpR op_lt (pv 2) (pe_op op_pow pe_int pe_int) (nomark _)) (pss_one (ps_ret (pe_lstK K rfl (pa_cons pe_int (pa_cons (pv 3) pa_nil))))) pss_nil)
      (pss_one (ps_ret (pe_lstK K rfl (pa_cons (pe_op op_sub (pv 2) (pe_op op_pow pe_int pe_int)) (pa_cons (pv 3) pa_nil)))))))))), ?_⟩
    try simp only [cxK, cxK2]
    refine w_st (σ' := [some (.ref a), some (.int (j : Nat)), none, none]) rfl ?_
    have b7 : Bd 64 (7919 : Int) := by unfold Bd; decide
    have b31 : Bd 64 (31 : Int) := by unfold Bd; decide
    have bj : Bd 64 ((j : Nat) : Int) := (by unfold Bd; rw [Int.natAbs_natCast]; exact Nat.lt_of_le_of_lt hj (by decide))
    (repeat kas_types)
    refine w_ite (fun e => ?_) (fun e => ?_)
    · have e' := of_decide_eq_true e
      rw [List.length_map] at e'
      have hlt : j < ns.length := by omega
      (repeat kas_types)
      refine w_ixl (v := .int ns[j]) hS (atI_nat (by rw [List.getElem?_map, List.getElem?_eq_getElem hlt]; rfl)) ?_
      generalize ns[j] = cell
      (repeat kas_types)
      refine w_mulI (mulx b7 bj (by decide)) ?_
      (repeat kas_types)
      refine w_I (by decide) ?_
      (repeat kas_types)
      have hs1 := (stir_ok (cell + 7919 * (j : Nat) + 104729) 0).1
      generalize (cell + 7919 * (j : Nat) + 104729) % 2305843009213693951 = s1 at *
      refine w_mulI (mulx hs1 hs1 (by decide)) ?_
      (repeat kas_types)
      refine w_mulI (mulx (hs1.mul hs1) hs1 (by decide)) ?_
      (repeat kas_types)
      refine w_mulI (mulx b31 bj (by decide)) ?_
      (repeat kas_types)
      refine w_I (by decide) ?_
      (repeat kas_types)
      obtain ⟨-, -, q1, q2⟩ := stir_ok (s1 * s1 * s1 + 31 * (j : Nat)) 7
      refine w_I ⟨by decide, by decide, by decide⟩ ?_
      (repeat kas_types)
      refine w_ite (fun e2 => ?_) (fun e2 => ?_)
      · (repeat kas_types)
        exact k _ _ _ _ (by lcg_sub) (by assumption) (by assumption) q1 q2
      · (repeat kas_types)
        refine w_I ⟨by decide, by decide, by decide⟩ ?_
        (repeat kas_types)
        exact k _ _ _ _ (by lcg_sub) (by assumption) (by assumption) q1 q2
    · (repeat kas_types)
      refine w_mulI (mulx b7 bj (by decide)) ?_
      (repeat kas_types)
      refine w_I (by decide) ?_
      (repeat kas_types)
      have hs1 := (stir_ok ((0 : Int) + 7919 * (j : Nat) + 104729) 0).1
      generalize ((0 : Int) + 7919 * (j : Nat) + 104729) % 2305843009213693951 = s1 at *
      refine w_mulI (mulx hs1 hs1 (by decide)) ?_
      (repeat kas_types)
      refine w_mulI (mulx (hs1.mul hs1) hs1 (by decide)) ?_
      (repeat kas_types)
      refine w_mulI (mulx b31 bj (by decide)) ?_
      (repeat kas_types)
      refine w_I (by decide) ?_
      (repeat kas_types)
      obtain ⟨-, -, q1, q2⟩ := stir_ok (s1 * s1 * s1 + 31 * (j : Nat)) 7
      refine w_I ⟨by decide, by decide, by decide⟩ ?_
      (repeat kas_types)
      exact k _ _ _ _ (by lcg_sub) (by assumption) (by assumption) q1 q2

theorem deck_of (F : FnOk P w K mg base CX0 1 f fd ["script", "at"] (sp_law_deckL K)) : FnOk P w K mg base CX0 1 f fd ["script", "at"] (sp_law_deck K) := by
  refine deck_out F fun vs H Q E h => ?_
  obtain ⟨a, ns, j, rfl, hS, hj, k⟩ := h
  refine ⟨a, ns, j, rfl, hS, hj, fun p x s H' e hp hl h0 h1 => ⟨p, x, s, rfl, hp, hl, h0, h1, ?_⟩⟩
  exact k p _ (Evl.Ex.mut e hp) upd_same
end

set_option maxHeartbeats 1000000
open PySem PySem.Spec PyProof.Rows L2
open Evl (Ex ex_l ex_t)
section
variable {P : Program} {w : World} {K : PySem.W.Frag} {mg : Str → Option Value} {base : Heap} {f : Addr} {fd : FuncData}
/-- data to a depth, no dicts -/
def sdS : Nat → PyData → Bool
  | 0, _ => false
  | _ + 1, .none => true
  | _ + 1, .bool _ => true
  | _ + 1, .int _ => true
  | _ + 1, .str _ => true
  | n + 1, .list ds => decide (ds.length ≤ 1000) && ds.all (sdS n)
  | n + 1, .tuple ds => decide (ds.length ≤ 1000) && ds.all (sdS n)
  | _ + 1, .dict _ => false
abbrev sp_law_same (n : Nat) (K : PySem.W.Frag) : Sp := spP K (fun d : PyData => [d, d]) (fun d => sdS n d = true) (fun _ => .bool true)
theorem w_lcSame {H : Hp} {σ : St} {Q : VK} {g : TG} {tt : TT} {te : TE} {vs : List Nat} {m : Nat} (hm : m ≤ 1000)
    (hs : ∀ (i : Nat) H' (Qb : St → Bool → Hp → Prop), i < m → Ex H H' → (∀ σ2 H3, Ex H' H3 → Qb σ2 false H3) → g (.int (0 + (i : Nat))) (wipe σ vs) H' fun σ2 H2 => wipe σ2 vs = wipe σ vs ∧ tt σ2 H2 (Qb σ2))
    (hd : ∀ p H', Ex H H' → H' p = some (.lst []) → Q (.ref p) H') : LcG 0 m g tt te vs σ H Q := by
  refine w_lcg (fun _ acc _ => acc = []) hm (fun _ _ => rfl) (fun _ _ _ _ _ _ _ h => h) (fun i acc _ h => by rw [h]; exact Nat.zero_le _) (fun Dl i acc H' hi hD h1 e1 hp => ?_) (fun p acc H' e h hp => ?_)
  · refine hs i H' (fun σ2 b H3 => if b = true then te σ2 H3 fun y H4 => ∃ acc, H4 Dl = some (.lst acc) ∧ acc.length < sizeLine ∧ LcW (fun _ acc _ => acc = []) H Dl (i + 1) (upd H4 Dl (.lst (acc ++ [y]))) else LcW (fun _ acc _ => acc = []) H Dl (i + 1) H3) hi e1 fun σ2 H3 e3 => ?_
    exact w_iff (w_lcf (P := fun _ acc _ => acc = []) h1 e1 e3 hp)
  · subst hp
    exact hd p H' e h
theorem len_law_same {n : Nat} {K : PySem.W.Frag} {vs : List V} {H : Hp} {Q : VK} {E : XK} (h : sp_law_same n K vs H Q E) : vs.length = 2 := len2 (n := 2) (fun _ => rfl) h
theorem ok_law_same (F : Fun K "_law_same" "_law_same" s_law_same f fd) (M : Bu mg)  {n : Nat} (c_law_same : Cal P w K mg base n "_law_same" ["found", "due"] (sp_law_same n K)) : FnOk P w K mg base CX0 (n + 1) f fd ["found", "due"] (sp_law_same (n + 1) K) := by
  refine F.ok sc_law_same (fun vs H Q E h => ?_) (fun cdv A outer s H vs Q E hr h => ?_)
  · exact len_law_same h
  · obtain ⟨d, ha, hs, k⟩ := h
    dsimp only at ha k hs
    obtain ⟨v1, v2, rfl, hd1, hd2⟩ := dpa2 ha
    clear ha
    refine ⟨_, (pss_cons (ps_if (pt_val (pe_callB (call_isiTK K rfl) (by rfl) M.z_isinstance (by decide +kernel) (pa_cons (pv 1) (pa_cons (pe_tup (pa_cons (pe_bltn (v := .ty "tuple") (by rfl) M.z_tuple (by decide +kernel) rfl) (pa_cons (pe_bltn (v := .ty "list") (by rfl) M.z_list (by decide +kernel) rfl) pa_nil))) pa_nil)))) (pss_cons (ps_if (PW.pt (pw_or (pt_cmpR (op_neK K rfl hr.units) (pe_callB (call_isiK1 K rfl) (by rfl) M.z_isinstance (by decide +kernel) (pa_cons (pv 0) (pa_cons (pe_bltn (v := .ty "tuple") (by rfl) M.z_tuple (by decide +kernel) rfl) pa_nil))) (pe_callB (call_isiK1 K rfl) (by rfl) M.z_isinstance (by decide +kernel) (pa_cons (pv 1) (pa_cons (pe_bltn (v := .ty "tuple") (by rfl) M.z_tuple (by decide +kernel) rfl) pa_nil))) (nomark _)) (pw_or1 (pt_cmpR (op_neK K rfl hr.units) (pe_callB (call_isiK1 K rfl) (by rfl) M.z_isinstance (by decide +kernel) (pa_cons (pv 0) (pa_cons (pe_bltn (v := .ty "list") (by rfl) M.z_list (by decide +kernel) rfl) pa_nil))) (pe_callB (call_isiK1 K rfl) (by rfl) M.z_isinstance (by decide +kernel) (pa_cons (pv 1) (pa_cons (pe_bltn (v := .ty "list") (by rfl) M.z_list (by decide +kernel) rfl) pa_nil))) (nomark _))))) (pss_one (ps_ret pe_bl)) pss_nil)
      (pss_cons (ps_if (pt_cmpR (op_neK K rfl hr.units) (pe_callB (call_lenK K rfl) (by rfl) M.z_len PySem.boot_len (pa_cons (pv 0) pa_nil)) (pe_callB (call_lenK K rfl) (by rfl) M.z_len PySem.boot_len (pa_cons (pv 1) pa_nil)) (nomark _)) (pss_one (ps_ret pe_bl)) pss_nil)
      (pss_one (ps_ret (pe_cmpR (op_eqK K rfl hr.units) (pe_lc (own := [("at", 2)]) (g := gName 2) rfl sc_law_same.nd (pi_range1 rfl M.z_range (pa_cons (pe_callB (call_lenK K rfl) (by rfl) M.z_len PySem.boot_len (pa_cons (pv 1) pa_nil)) pa_nil)) (blkOk_by (N := ["found", "due", "at"]) (sc := defScope s_law_same) (by decide +kernel)) (fun _ _ _ _ _ => pg_name (i := 2) sc_law_same.nd rfl (Or.inl rfl)) (fun _ _ _ _ _ => pts_one (pt_not (pt_val (pe_callD c_law_same hr (Nat.le_refl _) (pa_cons (pe_ix (ix_seqK K rfl) (pv 0) (pv 2) (fun _ _ => rfl)) (pa_cons (pe_ix (ix_seqK K rfl) (pv 1) (pv 2) (fun _ _ => rfl)) pa_nil)))))) (fun _ _ _ _ _ => (pv 2))) (pe_lstK K rfl pa_nil) (nomark _)))))) pss_nil)
      (pss_cons (ps_if (pt_cmpR op_isNU (pv 1) pe_non (nomark _)) (pss_one (ps_ret (pe_cmpR op_isNU (pv 0) pe_non (nomark _)))) pss_nil)
      (pss_cons (ps_if (pt_val (pe_callB (call_isiK1 K rfl) (by rfl) M.z_isinstance (by decide +kernel) (pa_cons (pv 1) (pa_cons (pe_bltn (v := .ty "str") (by rfl) M.z_str (by decide +kernel) rfl) pa_nil)))) (pss_one (ps_ret (pe_and (pe_callB (call_isiK1 K rfl) (by rfl) M.z_isinstance (by decide +kernel) (pa_cons (pv 0) (pa_cons (pe_bltn (v := .ty "str") (by rfl) M.z_str (by decide +kernel) rfl) pa_nil))) (pe_one (pe_cmpR (op_eqK K rfl hr.units) (pv 0) (pv 1) (nomark _)))))) pss_nil)
      (pss_cons (ps_if (PW.pt (pw_or (pt_val (pe_callB (call_isiK1 K rfl) (by rfl) M.z_isinstance (by decide +kernel) (pa_cons (pv 1) (pa_cons (pe_bltn (v := .ty "bool") (by rfl) M.z_bool (by decide +kernel) rfl) pa_nil)))) (pw_or1 (pt_val (pe_callB (call_isiK1 K rfl) (by rfl) M.z_isinstance (by decide +kernel) (pa_cons (pv 0) (pa_cons (pe_bltn (v := .ty "bool") (by rfl) M.z_bool (by decide +kernel) rfl) pa_nil))))))) (pss_one (ps_ret (pe_and (pe_callB (call_isiK1 K rfl) (by rfl) M.z_isinstance (by decide +kernel) (pa_cons (pv 1) (pa_cons (pe_bltn (v := .ty "bool") (by rfl) M.z_bool (by decide +kernel) rfl) pa_nil))) (pe_and (pe_callB (call_isiK1 K rfl) (by rfl) M.z_isinstance (by decide +kernel) (pa_cons (pv 0) (pa_cons (pe_bltn (v := .ty "bool") (by rfl) M.z_bool (by decide +kernel) rfl) pa_nil))) (pe_one (pe_cmpR (op_eqK K rfl hr.units) (pv 0) (pv 1) (nomark _))))))) pss_nil)
      (pss_one (ps_ret (pe_and (pe_callB (call_isiK1 K rfl) (by rfl) M.z_isinstance (by decide +kernel) (pa_cons (pv 0) (pa_cons (pe_bltn (v := .ty "int") (by rfl) M.z_int (by decide +kernel) rfl) pa_nil))) (pe_one (pe_cmpR (op_eqK K rfl hr.units) (pv 0) (pv 1) (nomark _)))))))))), ?_⟩
    try simp only [cxK, cxK2]
    refine w_st (σ' := [some v1, some v2, none]) rfl ?_
    have seq : ∀ ds : List PyData, (decide (ds.length ≤ 1000) && ds.all (sdS n)) = true → ds.length ≤ 1000 ∧ ∀ (i : Nat) x, ds[i]? = some x → sdS n x = true := by
      intro ds h
      rw [Bool.and_eq_true, List.all_eq_true] at h
      exact ⟨of_decide_eq_true h.1, fun i x e => h.2 x (List.mem_of_getElem? e)⟩
    cases d with
    | dict kvs => cases hs
    | none =>
      obtain rfl := non_inv hd1
      obtain rfl := non_inv hd2
      (repeat kas_types)
      exact fin_b k (by lcg_sub) (decide_eq_true rfl)
    | bool b =>
      obtain rfl := bl_inv hd1
      obtain rfl := bl_inv hd2
      (repeat kas_types)
      exact fin_b k (by lcg_sub) (decide_eq_true rfl)
    | int z =>
      obtain rfl := int_inv hd1
      obtain rfl := int_inv hd2
      (repeat kas_types)
      exact fin_b k (by lcg_sub) (decide_eq_true rfl)
    | str z =>
      obtain rfl := str_inv hd1
      obtain rfl := str_inv hd2
      (repeat kas_types)
      exact k _ _ (by lcg_sub) (.bl _)
    | tuple ds =>
      obtain ⟨hl, hall⟩ := seq ds hs
      (repeat kas_types)
      refine w_itf (by simp) ?_
      (repeat kas_types)
      refine ⟨_, rfl, by omega, by omega, ?_⟩
      rw [Int.toNat_natCast]
      refine w_lcSame hl (fun i H2 Qb hi e2 kb => ?_) (fun p H2 e2 hp => ?_)
      · have hx : ds[i]? = some ds[i] := List.getElem?_eq_getElem hi
        have hat : atI ds (0 + (i : Nat) : Int) = some ds[i] := by rw [Int.zero_add]; exact atI_nat hx
        (repeat kas_types)
        refine ⟨rfl, ?_⟩
        (repeat kas_types)
        refine w_ixp (by keq_hits) hat fun u1 hu1 => ?_
        (repeat kas_types)
        refine w_ixp (by keq_hits) hat fun u2 hu2 => ?_
        (repeat kas_types)
        refine w_spPb (b := true) ds[i] (by k_clsL) rfl (hall i _ hx) fun H3 e3 => ?_
        (repeat kas_types)
        exact kb _ _ (by lcg_sub)
      · (repeat kas_types)
        refine w_eqD (d := .list []) (e := .list []) (.lst (SqL.of (by k_offL)) .nil) (by keq_hits) rfl rfl ?_
        exact k _ _ (by lcg_sub) (.bl _)
    | list ds =>
      obtain ⟨hl, hall⟩ := seq ds hs
      (repeat kas_types)
      refine w_itf (by simp) ?_
      (repeat kas_types)
      refine ⟨_, rfl, by omega, by omega, ?_⟩
      rw [Int.toNat_natCast]
      refine w_lcSame hl (fun i H2 Qb hi e2 kb => ?_) (fun p H2 e2 hp => ?_)
      · have hx : ds[i]? = some ds[i] := List.getElem?_eq_getElem hi
        have hat : atI ds (0 + (i : Nat) : Int) = some ds[i] := by rw [Int.zero_add]; exact atI_nat hx
        (repeat kas_types)
        refine ⟨rfl, ?_⟩
        (repeat kas_types)
        refine w_ixld (by keq_hits) hat fun u1 hu1 => ?_
        (repeat kas_types)
        refine w_ixld (by keq_hits) hat fun u2 hu2 => ?_
        (repeat kas_types)
        refine w_spPb (b := true) ds[i] (by k_clsL) rfl (hall i _ hx) fun H3 e3 => ?_
        (repeat kas_types)
        exact kb _ _ (by lcg_sub)
      · (repeat kas_types)
        refine w_eqD (d := .list []) (e := .list []) (.lst (SqL.of (by k_offL)) .nil) (by keq_hits) rfl rfl ?_
        exact k _ _ (by lcg_sub) (.bl _)

end

set_option maxHeartbeats 1000000
open PySem PySem.Spec PyProof.Rows L2
open Evl (Ex ex_l ex_t)
section
variable {P : Program} {w : World} {K : PySem.W.Frag} {mg : Str → Option Value} {base : Heap} {f : Addr} {fd : FuncData}
abbrev sp_law_any (K : PySem.W.Frag) : Sp := spK K (fun _ : Unit => []) (fun _ => True) (fun _ d => ∃ m : M4, d = m.D ∧ Bm 35 m)
theorem four {ns : List Int} (h : ns.length = 4) : ∃ a b c d, ns = [a, b, c, d] := by
  match ns, h with
  | [a, b, c, d], _ => exact ⟨a, b, c, d, rfl⟩
theorem bd_of {n : Nat} {x : Int} (h1 : -(2 ^ n : Nat) < x) (h2 : x < (2 ^ n : Nat)) : Bd n x := by unfold Bd; omega
theorem len_law_any {K : PySem.W.Frag} {vs : List V} {H : Hp} {Q : VK} {E : XK} (h : sp_law_any K vs H Q E) : vs.length = 1 := by
  first | exact len1 (n := 1) (fun _ => rfl) h | exact len2 (n := 1) (fun _ => rfl) h | exact len3 (n := 1) (fun _ => rfl) h | exact len4 (n := 1) (fun _ => rfl) h
theorem ok_law_any (F : Fun K "_law_any" "_law_any" s_law_any f fd) (M : Bu mg) (c_law_take : Cal P w K mg base 1 "_law_take" ["deck", "many"] (sp_law_take K))  : FnOk P w K mg base CX0 2 f fd ["deck"] (sp_law_any K) := by
  refine F.ok sc_law_any (fun vs H Q E h => ?_) (fun cdv A outer s H vs Q E hr h => ?_)
  · exact len_law_any h
  · obtain ⟨_, a, vs, rfl, hk, ha, -, k⟩ := h
    obtain rfl : vs = [] := by cases ha; rfl
    clear ha
    refine ⟨_, (pss_cons (ps_set (i := 1) sc_law_any.nd rfl (Or.inr rfl) (pe_ix (ix_seqK K rfl) (pe_lstK K rfl (pa_cons pe_int (pa_cons pe_int (pa_cons pe_int (pa_cons (pe_op op_pow pe_int pe_int) pa_nil))))) (pe_callD c_law_take hr (by decide) (pa_cons (pv 0) (pa_cons pe_int pa_nil))) (fun _ _ => rfl)))
      (pss_cons (ps_setLc (i := 2) (own := [("j", 3)]) (g := gName 3) rfl sc_law_any.nd rfl rfl (sw_true rfl rfl rfl (by decide +kernel)) (pi_range1 rfl M.z_range (pa_cons pe_int pa_nil)) (blkOk_by (N := ["deck", "far", "cells", "j"]) (sc := defScope s_law_any) (by decide +kernel)) (fun _ _ _ _ _ => pg_name (i := 3) sc_law_any.nd rfl (Or.inl rfl)) (fun _ _ _ _ _ => pts_nil) (fun _ _ _ _ _ => (pe_op op_sub (pe_callD c_law_take hr (by decide) (pa_cons (pv 0) (pa_cons (pe_op (op_addK K rfl) (pe_op op_mulU pe_int (pv 1)) pe_int) pa_nil))) (pv 1))))
      (pss_one (ps_ret (pe_tupK K rfl (pa_cons (pe_tupK K rfl (pa_cons (pe_ix (ix_seqK K rfl) (pv 2) pe_int (fun _ _ => rfl)) (pa_cons (pe_ix (ix_seqK K rfl) (pv 2) pe_int (fun _ _ => rfl)) pa_nil))) (pa_cons (pe_tupK K rfl (pa_cons (pe_ix (ix_seqK K rfl) (pv 2) pe_int (fun _ _ => rfl)) (pa_cons (pe_ix (ix_seqK K rfl) (pv 2) pe_int (fun _ _ => rfl)) pa_nil))) pa_nil))))))), ?_⟩
    try simp only [cxK, cxK2]
    refine w_st (σ' := [some (.ref a), none, none, none]) rfl ?_
    have hk0 : H a = some (DeckO a) := hk
    (repeat kas_types)
    refine w_I ⟨by decide, by decide, by decide⟩ ?_
    (repeat kas_types)
    refine w_take (by show _ = _; k_offL) (by decide) (by unfold Bd; decide) fun r H1 e1 r0 r1 => ?_
    refine w_ixany (by lcg_off) (by k_subL) r0 (by exact r1) fun d v hm hv => ?_
    obtain ⟨far, rfl, f0, f1⟩ : ∃ far : Int, d = .int far ∧ 0 ≤ far ∧ far ≤ 10000000000 := by
      simp only [List.mem_cons, List.not_mem_nil, or_false] at hm
      rcases hm with rfl | rfl | rfl | rfl
      · exact ⟨_, rfl, by decide, by decide⟩
      · exact ⟨_, rfl, by decide, by decide⟩
      · exact ⟨_, rfl, by decide, by decide⟩
      · exact ⟨_, rfl, by decide, by decide⟩
    rw [qint_inv hv]
    (repeat kas_types)
    refine ⟨_, rfl, by decide, by decide, ?_⟩
    refine w_lcInts (p := fun z => Bd 35 z) (by decide) (fun i H2 Qy hi e2 kq => ?_) (fun q ns H2 e2 hq hl hp => ?_)
    · (repeat kas_types)
      refine ⟨rfl, ?_⟩
      (repeat kas_types)
      refine w_mulI (mulx (show Bd 64 _ by unfold Bd; decide) (show Bd 64 far by unfold Bd; omega) (by decide)) ?_
      (repeat kas_types)
      refine w_take (by show _ = _; k_offL) (by omega) (by unfold Bd; exact Nat.lt_of_lt_of_le (by omega : _ < 2 ^ 64) (Nat.pow_le_pow_right (by decide) (by decide))) fun r H1 e1 r0 r1 => ?_
      (repeat kas_types)
      exact kq _ _ (by lcg_sub) (bd_of (by omega) (by omega))
    · obtain ⟨z1, z2, z3, z4, rfl⟩ := four hl
      (repeat kas_types)
      refine k (M4.D ⟨z1, z2, z3, z4⟩) _ _ (by lcg_sub) ⟨_, rfl, hp _ (by simp), hp _ (by simp), hp _ (by simp), hp _ (by simp)⟩ (by keq_rows)

def gridOk (d : PyData) : Prop := ∃ m : M4, d = m.D ∧ Bm 2 m ∧ m.grows = true ∧ Bd 4 m.det
abbrev sp_law_grid (K : PySem.W.Frag) : Sp := spK K (fun _ : Unit => []) (fun _ => True) (fun _ => gridOk)
theorem gridOk_of (a b c d : Int) (h1 : Bd 2 a) (h2 : Bd 2 b) (h3 : Bd 2 c) (h4 : Bd 2 d) (h5 : M4.grows ⟨a, b, c, d⟩ = true) (h6 : Bd 4 (M4.det ⟨a, b, c, d⟩)) : gridOk (.tuple [.tuple [.int a, .int b], .tuple [.int c, .int d]]) := ⟨⟨a, b, c, d⟩, rfl, ⟨h1, h2, h3, h4⟩, h5, h6⟩
theorem len_law_grid {K : PySem.W.Frag} {vs : List V} {H : Hp} {Q : VK} {E : XK} (h : sp_law_grid K vs H Q E) : vs.length = 1 := by
  first | exact len1 (n := 1) (fun _ => rfl) h | exact len2 (n := 1) (fun _ => rfl) h | exact len3 (n := 1) (fun _ => rfl) h | exact len4 (n := 1) (fun _ => rfl) h
theorem ok_law_grid (F : Fun K "_law_grid" "_law_grid" s_law_grid f fd) (M : Bu mg) (c_law_take : Cal P w K mg base 1 "_law_take" ["deck", "many"] (sp_law_take K)) (c_law_growing : Cal P w K mg base 2 "_law_growing" ["grid"] (sp_law_growing K)) (c_law_det : Cal P w K mg base 1 "_law_det" ["grid"] (sp_law_det K))  : FnOk P w K mg base CX0 3 f fd ["deck"] (sp_law_grid K) := by
  refine F.ok sc_law_grid (fun vs H Q E h => ?_) (fun cdv A outer s H vs Q E hr h => ?_)
  · exact len_law_grid h
  · obtain ⟨_, a, vs, rfl, hk, ha, -, k⟩ := h
    obtain rfl : vs = [] := by cases ha; rfl
    clear ha
    refine ⟨_, (pss_cons (ps_set (i := 1) sc_law_grid.nd rfl (Or.inl rfl) (pe_lstK K rfl (pa_cons (pe_tupK K rfl (pa_cons (pe_tupK K rfl (pa_cons pe_int (pa_cons pe_int pa_nil))) (pa_cons (pe_tupK K rfl (pa_cons pe_int (pa_cons pe_int pa_nil))) pa_nil))) (pa_cons (pe_tupK K rfl (pa_cons (pe_tupK K rfl (pa_cons pe_int (pa_cons pe_int pa_nil))) (pa_cons (pe_tupK K rfl (pa_cons pe_int (pa_cons pe_int pa_nil))) pa_nil))) (pa_cons (pe_tupK K rfl (pa_cons (pe_tupK K rfl (pa_cons pe_int (pa_cons (pe_un un_neg pe_int) pa_nil))) (pa_cons (pe_tupK K rfl (pa_cons pe_int (pa_cons pe_int pa_nil))) pa_nil))) (pa_cons (pe_tupK K rfl (pa_cons (pe_tupK K rfl (pa_cons pe_int (pa_cons pe_int pa_nil))) (pa_cons (pe_tupK K rfl (pa_cons pe_int (pa_cons pe_int pa_nil))) pa_nil))) (pa_cons (pe_tupK K rfl (pa_cons (pe_tupK K rfl (pa_cons pe_int (pa_cons (pe_un un_neg pe_int) pa_nil))) (pa_cons (pe_tupK K rfl (pa_cons pe_int (pa_cons pe_int pa_nil))) pa_nil))) (pa_cons (pe_tupK K rfl (pa_cons (pe_tupK K rfl (pa_cons pe_int (pa_cons pe_int pa_nil))) (pa_cons (pe_tupK K rfl (pa_cons pe_int (pa_cons (pe_un un_neg pe_int) pa_nil))) pa_nil))) pa_nil))))))))
      (pss_cons (ps_set (i := 1) sc_law_grid.nd rfl (Or.inl rfl) (pe_op (op_addK K rfl) (pv 1) (pe_lstK K rfl (pa_cons (pe_tupK K rfl (pa_cons (pe_tupK K rfl (pa_cons pe_int (pa_cons (pe_un un_neg pe_int) pa_nil))) (pa_cons (pe_tupK K rfl (pa_cons pe_int (pa_cons pe_int pa_nil))) pa_nil))) (pa_cons (pe_tupK K rfl (pa_cons (pe_tupK K rfl (pa_cons pe_int (pa_cons pe_int pa_nil))) (pa_cons (pe_tupK K rfl (pa_cons (pe_un un_neg pe_int) (pa_cons pe_int pa_nil))) pa_nil))) (pa_cons (pe_tupK K rfl (pa_cons (pe_tupK K rfl (pa_cons pe_int (pa_cons pe_int pa_nil))) (pa_cons (pe_tupK K rfl (pa_cons pe_int (pa_cons pe_int pa_nil))) pa_nil))) (pa_cons (pe_tupK K rfl (pa_cons (pe_tupK K rfl (pa_cons (pe_un un_neg pe_int) (pa_cons (pe_un un_neg pe_int) pa_nil))) (pa_cons (pe_tupK K rfl (pa_cons pe_int (pa_cons (pe_un un_neg pe_int) pa_nil))) pa_nil))) (pa_cons (pe_tupK K rfl (pa_cons (pe_tupK K rfl (pa_cons pe_int (pa_cons pe_int pa_nil))) (pa_cons (pe_tupK K rfl (pa_cons pe_int (pa_cons (pe_un un_neg pe_int) pa_nil))) pa_nil))) pa_nil))))))))
      (pss_cons (ps_set (i := 2) sc_law_grid.nd rfl (Or.inl rfl) (pe_ix (ix_seqK K rfl) (pv 1) (pe_callD c_law_take hr (by decide) (pa_cons (pv 0) (pa_cons pe_int pa_nil))) (fun _ _ => rfl)))
      (pss_cons (ps_if (pt_cmpR (op_eqK K rfl hr.units) (pe_callD c_law_take hr (by decide) (pa_cons (pv 0) (pa_cons pe_int pa_nil))) pe_int (nomark _)) (pss_cons (ps_setLc (i := 3) (own := [("j", 5)]) (g := gName 5) rfl sc_law_grid.nd rfl rfl (sw_true rfl rfl rfl (by decide +kernel)) (pi_range1 rfl M.z_range (pa_cons pe_int pa_nil)) (blkOk_by (N := ["deck", "some", "grid", "cells", "drawn", "j"]) (sc := defScope s_law_grid) (by decide +kernel)) (fun _ _ _ _ _ => pg_name (i := 5) sc_law_grid.nd rfl (Or.inl rfl)) (fun _ _ _ _ _ => pts_nil) (fun _ _ _ _ _ => (pe_op op_sub (pe_callD c_law_take hr (by decide) (pa_cons (pv 0) (pa_cons pe_int pa_nil))) pe_int)))
      (pss_cons (ps_set (i := 4) sc_law_grid.nd rfl (Or.inl rfl) (pe_tupK K rfl (pa_cons (pe_tupK K rfl (pa_cons (pe_ix (ix_seqK K rfl) (pv 3) pe_int (fun _ _ => rfl)) (pa_cons (pe_ix (ix_seqK K rfl) (pv 3) pe_int (fun _ _ => rfl)) pa_nil))) (pa_cons (pe_tupK K rfl (pa_cons (pe_ix (ix_seqK K rfl) (pv 3) pe_int (fun _ _ => rfl)) (pa_cons (pe_ix (ix_seqK K rfl) (pv 3) pe_int (fun _ _ => rfl)) pa_nil))) pa_nil))))
      (pss_one (ps_if (PW.pt (pw_and (pt_val (pe_callD c_law_growing hr (by decide) (pa_cons (pv 4) pa_nil))) (pw_and1 (pt_cmpR op_lt (pe_callB call_absU (by rfl) M.z_abs (by decide +kernel) (pa_cons (pe_callD c_law_det hr (by decide) (pa_cons (pv 4) pa_nil)) pa_nil)) pe_int (nomark _))))) (pss_one (ps_set (i := 2) sc_law_grid.nd rfl (Or.inl rfl) (pv 4))) pss_nil)))) pss_nil)
      (pss_one (ps_ret (pv 2))))))), ?_⟩
    try simp only [cxK, cxK2]
    refine w_st (σ' := [some (.ref a), none, none, none, none, none]) rfl ?_
    have hk0 : H a = some (DeckO a) := hk
    (repeat kas_types)
    refine w_catQ (by k_offL) (by k_offL) (by k_subL) (by k_subL) (by decide) fun p H1 e1 hp hall _ => ?_
    (repeat kas_types)
    refine w_take (by show _ = _; k_offL) (by decide) (by unfold Bd; decide) fun r H2 e2 r0 r1 => ?_
    refine w_ixany (by lcg_off) (by k_subL) r0 (by exact r1) fun d v hm hv => ?_
    have hgood : gridOk d := by
      simp only [List.cons_append, List.nil_append, List.mem_cons, List.not_mem_nil, or_false] at hm
      rcases hm with rfl | rfl | rfl | rfl | rfl | rfl | rfl | rfl | rfl | rfl | rfl <;>
      exact gridOk_of _ _ _ _ (by unfold Bd; decide) (by unfold Bd; decide) (by unfold Bd; decide) (by unfold Bd; decide) (by decide) (by unfold Bd; decide)
    (repeat kas_types)
    refine w_take (by show _ = _; k_offL) (by decide) (by unfold Bd; decide) fun r H2 e2 r0 r1 => ?_
    (repeat kas_types)
    refine w_ite (fun e => ?_) (fun e => ?_)
    · (repeat kas_types)
      refine ⟨_, rfl, by decide, by decide, ?_⟩
      refine w_lcInts (p := fun z => Bd 2 z) (by decide) (fun i H3 Qy hi e3 kq => ?_) (fun q ns H3 e3 hq hl hp => ?_)
      · (repeat kas_types)
        refine ⟨rfl, ?_⟩
        (repeat kas_types)
        refine w_take (by show _ = _; k_offL) (by decide) (by unfold Bd; decide) fun r H1 e1 r0 r1 => ?_
        (repeat kas_types)
        exact kq _ _ (by lcg_sub) (bd_of (by omega) (by omega))
      · obtain ⟨z1, z2, z3, z4, rfl⟩ := four hl
        have hb : Bm 2 ⟨z1, z2, z3, z4⟩ := ⟨hp _ (by simp), hp _ (by simp), hp _ (by simp), hp _ (by simp)⟩
        (repeat kas_types)
        refine w_spPb (b := M4.grows ⟨z1, z2, z3, z4⟩) (2, M4.mk z1 z2 z3 z4) (by k_clsL) rfl ⟨by show 2 ≤ 60000000; decide, hb⟩ fun H4 e4 => ?_
        (repeat kas_types)
        refine w_ite (fun eg => ?_) (fun eg => ?_)
        · (repeat kas_types)
          refine w_spP (2, M4.mk z1 z2 z3 z4) (by k_clsL) ⟨by show 2 ≤ 60000000; decide, hb⟩ fun vd H5 e5 hvd => ?_
          rw [qint_inv hvd]
          (repeat kas_types)
          refine w_ite (fun ed => ?_) (fun ed => ?_)
          · have ed' := of_decide_eq_true ed
            (repeat kas_types)
            exact k (M4.D ⟨z1, z2, z3, z4⟩) _ _ (by lcg_sub) ⟨_, rfl, hb, eg, by unfold Bd; have ed2 : (((M4.det ⟨z1, z2, z3, z4⟩).natAbs : Nat) : Int) < 10 := ed'; omega⟩ (by keq_rows)
          · (repeat kas_types)
            exact k d _ _ (by lcg_sub) hgood (by keq_rows)
        · (repeat kas_types)
          exact k d _ _ (by lcg_sub) hgood (by keq_rows)
    · (repeat kas_types)
      exact k d _ _ (by lcg_sub) hgood (by keq_rows)

def bentOk (m : M4) (d : PyData) : Prop := SeqAt.shaped d = true ∧ (d = m.D ∨ (isTab d = false ∧ PyData.eqv d m.D = false))
abbrev sp_law_bent (K : PySem.W.Frag) : Sp := spKp K (fun m : M4 => [m.D]) (fun _ => True) bentOk
theorem len_law_bent {K : PySem.W.Frag} {vs : List V} {H : Hp} {Q : VK} {E : XK} (h : sp_law_bent K vs H Q E) : vs.length = 2 := by
  first | exact len1 (n := 2) (fun _ => rfl) h | exact len2 (n := 2) (fun _ => rfl) h | exact len3 (n := 2) (fun _ => rfl) h | exact len4 (n := 2) (fun _ => rfl) h
theorem ok_law_bent (F : Fun K "_law_bent" "_law_bent" s_law_bent f fd) (M : Bu mg) (c_law_take : Cal P w K mg base 1 "_law_take" ["deck", "many"] (sp_law_take K))  : FnOk P w K mg base CX0 2 f fd ["deck", "grid"] (sp_law_bent K) := by
  refine F.ok sc_law_bent (fun vs H Q E h => ?_) (fun cdv A outer s H vs Q E hr h => ?_)
  · exact len_law_bent h
  · obtain ⟨m, a, vs, rfl, hk, ha, -, k⟩ := h
    obtain ⟨v, rfl, hd⟩ := dqa1 ha
    clear ha
    obtain ⟨m1, m2, m3, m4⟩ := m
    have hd : Dq K H v (tb m1 m2 m3 m4) := hd
    refine ⟨_, (pss_cons (ps_asg (pv 1) (pg_tupK K rfl (n := 2) rfl (pgs_cons (pg_name (i := 3) sc_law_bent.nd rfl (Or.inl rfl)) (pgs_cons (pg_name (i := 4) sc_law_bent.nd rfl (Or.inl rfl)) pgs_nil))))
      (pss_cons (ps_set (i := 2) sc_law_bent.nd rfl (Or.inl rfl) (pe_lstK K rfl (pa_cons (pv 1) (pa_cons (pe_tupK K rfl (pa_cons (pv 3) pa_nil)) (pa_cons (pe_tupK K rfl (pa_cons (pv 3) (pa_cons (pv 4) (pa_cons (pv 3) pa_nil)))) (pa_cons (pe_tupK K rfl (pa_cons (pe_op (op_addK K rfl) (pv 3) (pe_tupK K rfl (pa_cons pe_int pa_nil))) (pa_cons (pv 4) pa_nil))) (pa_cons (pe_tupK K rfl (pa_cons (pv 3) (pa_cons (pe_slice (sl_K K rfl) (pv 4) po_none (po_some pe_int)) pa_nil))) (pa_cons (pe_tupK K rfl pa_nil) (pa_cons (pe_tupK K rfl (pa_cons (pe_tupK K rfl pa_nil) (pa_cons (pe_tupK K rfl pa_nil) pa_nil))) (pa_cons (pe_tupK K rfl (pa_cons (pv 3) (pa_cons (pe_tupK K rfl pa_nil) pa_nil))) pa_nil))))))))))
      (pss_cons (ps_set (i := 2) sc_law_bent.nd rfl (Or.inl rfl) (pe_op (op_addK K rfl) (pv 2) (pe_lstK K rfl (pa_cons (pe_tupK K rfl (pa_cons (pe_slice (sl_K K rfl) (pv 3) po_none (po_some pe_int)) (pa_cons (pe_op (op_addK K rfl) (pv 4) (pe_tupK K rfl (pa_cons pe_int pa_nil))) pa_nil))) (pa_cons (pe_tupK K rfl (pa_cons (pe_op (op_addK K rfl) (pv 3) (pe_slice (sl_K K rfl) (pv 4) po_none (po_some pe_int))) (pa_cons (pe_slice (sl_K K rfl) (pv 4) (po_some pe_int) po_none) pa_nil))) (pa_cons (pe_tupK K rfl (pa_cons (pe_op (op_addK K rfl) (pv 3) (pv 4)) (pa_cons (pe_tupK K rfl pa_nil) pa_nil))) (pa_cons (pe_tupK K rfl (pa_cons (pe_tupK K rfl pa_nil) (pa_cons (pe_op (op_addK K rfl) (pv 3) (pv 4)) pa_nil))) pa_nil)))))))
      (pss_one (ps_ret (pe_ix (ix_seqK K rfl) (pv 2) (pe_callD c_law_take hr (by decide) (pa_cons (pv 0) (pa_cons pe_int pa_nil))) (fun _ _ => rfl))))))), ?_⟩
    try simp only [cxK, cxK2]
    refine w_st (σ' := [some (.ref a), some v, none, none, none]) rfl ?_
    have hk0 : H a = some (DeckO a) := hk
    (repeat kas_types)
    refine w_catP (by k_offL) (by k_offL) (by k_clsL) (by k_clsL) (Nat.le_of_ble_eq_true rfl) fun p H1 e1 hp hall _ => ?_
    (repeat kas_types)
    refine w_take (by show _ = _; k_offL) (by decide) (by unfold Bd; decide) fun r H2 e2 r0 r1 => ?_
    refine w_ixanyp (by lcg_off) (by k_clsL) r0 (by exact r1) fun d u hm hu => ?_
    refine k d u _ (by lcg_sub) ?_ hu
    simp only [List.cons_append, List.nil_append, List.mem_cons, List.not_mem_nil, or_false] at hm
    rcases hm with rfl | rfl | rfl | rfl | rfl | rfl | rfl | rfl | rfl | rfl | rfl | rfl
    · exact ⟨rfl, .inl rfl⟩
    all_goals exact ⟨rfl, .inr ⟨rfl, by first | rfl | simp [M4.D, tb, PyData.eqv, PyData.eqvAll, cutD, HT.sIx]⟩⟩

def M4.adj (m : M4) : M4 := ⟨m.d, -m.b, -m.c, m.a⟩
def M4.size (m : M4) : Int := max (((m.a.natAbs : Nat) : Int) + ((m.b.natAbs : Nat) : Int)) (((m.c.natAbs : Nat) : Int) + ((m.d.natAbs : Nat) : Int))
def shF (m : M4) : Nat → Nat → Bool
  | 0, _ => false
  | f + 1, j => decide ((m.adj.pw j).size < ((m.det.natAbs : Nat) : Int) ^ j) || shF m f (j + 1)
abbrev sp_law_shrinks (K : PySem.W.Frag) : Sp := spP K (fun i : Nat × M4 => [i.2.D]) (fun i => i.1 ≤ 100 ∧ Bm i.1 i.2) (fun i => .bool (shF i.2 12 1))
theorem Bm.adj {n : Nat} {m : M4} (h : Bm n m) : Bm n m.adj := ⟨h.2.2.2, h.2.1.neg, h.2.2.1.neg, h.1⟩
theorem Bd.pow {n : Nat} {x : Int} (h : Bd n x) : ∀ j, Bd (n * j + 1) (x ^ j)
  | 0 => by rw [Int.pow_zero]; exact (show Bd 1 (1 : Int) by unfold Bd; decide).mono (by omega)
  | j + 1 => by
    rw [Int.pow_succ]
    exact ((Bd.pow h j).mul h).mono (by rw [Nat.mul_add]; omega)
theorem len_law_shrinks {K : PySem.W.Frag} {vs : List V} {H : Hp} {Q : VK} {E : XK} (h : sp_law_shrinks K vs H Q E) : vs.length = 1 := by
  first | exact len1 (n := 1) (fun _ => rfl) h | exact len2 (n := 1) (fun _ => rfl) h | exact len3 (n := 1) (fun _ => rfl) h | exact len4 (n := 1) (fun _ => rfl) h
theorem ok_law_shrinks (F : Fun K "_law_shrinks" "_law_shrinks" s_law_shrinks f fd) (M : Bu mg) (c_law_power : Cal P w K mg base 3 "_law_power" ["grid", "many"] (sp_law_power K)) (c_law_det : Cal P w K mg base 1 "_law_det" ["grid"] (sp_law_det K))  : FnOk P w K mg base CX0 4 f fd ["grid"] (sp_law_shrinks K) := by
  refine F.ok sc_law_shrinks (fun vs H Q E h => ?_) (fun cdv A outer s H vs Q E hr h => ?_)
  · exact len_law_shrinks h
  · obtain ⟨⟨n, m⟩, ha, ⟨hn, hb⟩, k⟩ := h
    dsimp only at ha k hn hb
    obtain ⟨v, rfl, hd⟩ := dpa1 ha
    clear ha
    refine ⟨_, (pss_cons (ps_par (i := 2) (j := 3) (by rfl) sc_law_shrinks.nd rfl rfl (by decide) rfl rfl (pa_cons (pe_tupK K rfl (pa_cons (pe_tupK K rfl (pa_cons (pe_ix (ix_seqK K rfl) (pe_ix (ix_seqK K rfl) (pv 0) pe_int (fun _ _ => rfl)) pe_int (fun _ _ => rfl)) (pa_cons (pe_un un_neg (pe_ix (ix_seqK K rfl) (pe_ix (ix_seqK K rfl) (pv 0) pe_int (fun _ _ => rfl)) pe_int (fun _ _ => rfl))) pa_nil))) (pa_cons (pe_tupK K rfl (pa_cons (pe_un un_neg (pe_ix (ix_seqK K rfl) (pe_ix (ix_seqK K rfl) (pv 0) pe_int (fun _ _ => rfl)) pe_int (fun _ _ => rfl))) (pa_cons (pe_ix (ix_seqK K rfl) (pe_ix (ix_seqK K rfl) (pv 0) pe_int (fun _ _ => rfl)) pe_int (fun _ _ => rfl)) pa_nil))) pa_nil))) (pa_cons pe_int pa_nil)) (by rfl))
      (pss_cons (ps_for PassesOwn.never rfl (pi_range2 rfl M.z_range (pa_cons pe_int (pa_cons pe_int pa_nil))) (pg_name (i := 1) sc_law_shrinks.nd rfl (Or.inl rfl)) (pss_cons (ps_par (i := 4) (j := 3) (by rfl) sc_law_shrinks.nd rfl rfl (by decide) rfl rfl (pa_cons (pe_callD c_law_power hr (by decide) (pa_cons (pv 2) (pa_cons (pv 1) pa_nil))) (pa_cons (pe_op op_mulU (pv 3) (pe_callB call_absU (by rfl) M.z_abs (by decide +kernel) (pa_cons (pe_callD c_law_det hr (by decide) (pa_cons (pv 0) pa_nil)) pa_nil))) pa_nil)) (by rfl))
      (pss_one (ps_if (pt_cmpR op_lt (pe_callB (call_maxU rfl) (by rfl) M.z_max (by decide +kernel) (pa_cons (pe_op (op_addK K rfl) (pe_callB call_absU (by rfl) M.z_abs (by decide +kernel) (pa_cons (pe_ix (ix_seqK K rfl) (pe_ix (ix_seqK K rfl) (pv 4) pe_int (fun _ _ => rfl)) pe_int (fun _ _ => rfl)) pa_nil)) (pe_callB call_absU (by rfl) M.z_abs (by decide +kernel) (pa_cons (pe_ix (ix_seqK K rfl) (pe_ix (ix_seqK K rfl) (pv 4) pe_int (fun _ _ => rfl)) pe_int (fun _ _ => rfl)) pa_nil))) (pa_cons (pe_op (op_addK K rfl) (pe_callB call_absU (by rfl) M.z_abs (by decide +kernel) (pa_cons (pe_ix (ix_seqK K rfl) (pe_ix (ix_seqK K rfl) (pv 4) pe_int (fun _ _ => rfl)) pe_int (fun _ _ => rfl)) pa_nil)) (pe_callB call_absU (by rfl) M.z_abs (by decide +kernel) (pa_cons (pe_ix (ix_seqK K rfl) (pe_ix (ix_seqK K rfl) (pv 4) pe_int (fun _ _ => rfl)) pe_int (fun _ _ => rfl)) pa_nil))) pa_nil))) (pv 3) (nomark _)) (pss_one (ps_ret pe_bl)) pss_nil))))
      (pss_one (ps_ret pe_bl)))), ?_⟩
    try simp only [cxK, cxK2]
    refine w_st (σ' := [some v, none, none, none, none]) rfl ?_
    (repeat kas_types)
    refine ⟨_, _, rfl, by decide, ?_⟩
    have hdet := hb.det
    have habs : Bd (2 * n + 1) ((m.det.natAbs : Nat) : Int) := by unfold Bd at *; rw [Int.natAbs_natCast]; exact hdet
    refine w_forg (fun i σ H' => ∃ u x t, σ = [some v, u, some t, some (.int (((m.det.natAbs : Nat) : Int) ^ i)), x] ∧ Ex H H' ∧ Dq K H' t m.adj.D ∧ shF m 12 1 = shF m (12 - i) (i + 1)) ⟨none, none, _, rfl, by lcg_sub, by keq_rows, rfl⟩ ?_ ?_
    · rintro i σ H3 hi ⟨u, x, t, rfl, e3, ht, hx⟩
      have hi : i < 12 := hi
      have hd3 : Dp K H3 v m.D := Sk.Dp.up e3 hd
      rw [show (1 + (i : Nat) : Int) = ((i + 1 : Nat) : Int) by omega]
      (repeat kas_types)
      refine w_spP (n, m.adj, i + 1) (by k_clsL) ⟨by show n ≤ _; omega, hb.adj, by show i + 1 ≤ 100; omega⟩ fun c H4 e4 hc => ?_
      (repeat kas_types)
      refine w_spP (n, m) (by k_clsL) ⟨by show n ≤ _; omega, hb⟩ fun vd H5 e5 hvd => ?_
      rw [qint_inv hvd]
      (repeat kas_types)
      have hpow := habs.pow i
      have hle : (2 * n + 1) * i ≤ 201 * 12 := Nat.mul_le_mul (by omega) (by omega)
      refine w_mulI (mulx hpow habs (by omega)) ?_
      have hc' : Dq K H5 c (tb (m.adj.pw (i + 1)).a (m.adj.pw (i + 1)).b (m.adj.pw (i + 1)).c (m.adj.pw (i + 1)).d) := hc.up e5
      (repeat kas_types)
      have es : shF m (12 - i) (i + 1) = (decide ((m.adj.pw (i + 1)).size < ((m.det.natAbs : Nat) : Int) ^ (i + 1)) || shF m (12 - (i + 1)) (i + 2)) := by
        rw [show 12 - i = (12 - (i + 1)) + 1 by omega, shF]
      refine w_ite (fun e => ?_) (fun e => ?_)
      · (repeat kas_types)
        refine fin_b k (by lcg_sub) ?_
        have e9 : decide ((m.adj.pw (i + 1)).size < ((m.det.natAbs : Nat) : Int) ^ (i + 1)) = true := by rw [Int.pow_succ]; exact e
        rw [hx, es, e9, Bool.true_or]
      · (repeat kas_types)
        have e9 : decide ((m.adj.pw (i + 1)).size < ((m.det.natAbs : Nat) : Int) ^ (i + 1)) = false := by rw [Int.pow_succ]; exact e
        refine ⟨_, _, _, rfl, by lcg_sub, by keq_rows, ?_⟩
        rw [hx, es, e9, Bool.false_or]
    · rintro σ H3 ⟨u, x, t, rfl, e3, ht, hx⟩
      (repeat kas_types)
      exact fin_b k (by lcg_sub) (by rw [hx]; rfl)

end

set_option maxHeartbeats 1000000
open PySem L2
theorem M4.det_mul (x y : M4) : (x.mul y).det = x.det * y.det := by
  cases x; cases y
  simp only [M4.mul, M4.det, Int.mul_sub, Int.sub_mul, Int.mul_add, Int.add_mul]
  simp only [Int.mul_assoc, Int.mul_comm, Int.mul_left_comm]
  omega
theorem M4.det_one : M4.one.det = 1 := by decide
theorem M4.det_pw (m : M4) : ∀ j, (m.pw j).det = m.det ^ j
  | 0 => by rw [M4.pw, M4.det_one, Int.pow_zero]
  | j + 1 => by rw [M4.pw, M4.det_mul, M4.det_pw m j, Int.pow_succ]
theorem M4.det_adj (m : M4) : m.adj.det = m.det := by
  unfold M4.adj M4.det
  simp only [Int.neg_mul, Int.mul_neg, Int.neg_neg]
  rw [Int.mul_comm]
theorem M4.tr_adj (m : M4) : m.adj.tr = m.tr := by unfold M4.adj M4.tr; dsimp only; omega
/-- Cayley and Hamilton: traces of powers -/
theorem M4.tr_step (m : M4) (j : Nat) : (m.pw (j + 2)).tr = m.tr * (m.pw (j + 1)).tr - m.det * (m.pw j).tr := by
  have e1 : m.pw (j + 1) = (m.pw j).mul m := rfl
  have e2 : m.pw (j + 2) = ((m.pw j).mul m).mul m := rfl
  rw [e2, e1]
  generalize m.pw j = p
  cases p; cases m
  simp only [M4.mul, M4.det, M4.tr, Int.mul_sub, Int.sub_mul, Int.mul_add, Int.add_mul]
  simp only [Int.mul_assoc, Int.mul_comm, Int.mul_left_comm]
  omega
def trq (t D : Int) : Nat → Int
  | 0 => 2
  | 1 => t
  | j + 2 => t * trq t D (j + 1) - D * trq t D j
theorem M4.tr_pw (m : M4) : ∀ j, (m.pw j).tr = trq m.tr m.det j
  | 0 => rfl
  | 1 => by rw [M4.pw_one]; rfl
  | j + 2 => by rw [M4.tr_step, M4.tr_pw m (j + 1), M4.tr_pw m j]; rfl
/-- growth by determinant and trace alone -/
def gDT (D t : Int) : Bool := if 0 < D then decide (2 ≤ D) && (decide (-D ≤ t) && decide (t ≤ D)) else decide (D ≤ -2) && (decide (D + 2 ≤ t) && decide (t ≤ -D - 2))
theorem grows_gDT (m : M4) : m.grows = gDT m.det m.tr := rfl
theorem gDT_pos {D t : Int} (h : gDT D t = true) : (0 < D → 2 ≤ D ∧ -D ≤ t ∧ t ≤ D) ∧ (D ≤ 0 → D ≤ -2 ∧ D + 2 ≤ t ∧ t ≤ -D - 2) := by
  unfold gDT at h
  split at h
  · rename_i hD
    simp only [Bool.and_eq_true, decide_eq_true_eq] at h
    exact ⟨fun _ => h, fun z => by omega⟩
  · rename_i hD
    simp only [Bool.and_eq_true, decide_eq_true_eq] at h
    exact ⟨fun z => by omega, fun _ => h⟩
theorem small_powers : ∀ a : Nat, a < 31 → ∀ b : Nat, b < 31 → gDT ((a : Int) - 15) ((b : Int) - 15) = true →
    gDT (((a : Int) - 15) ^ 2) (trq ((b : Int) - 15) ((a : Int) - 15) 2) = true ∧ gDT (((a : Int) - 15) ^ 3) (trq ((b : Int) - 15) ((a : Int) - 15) 3) = true := by decide +kernel
theorem pow_grows {m : M4} (hg : m.grows = true) (hd : Bd 4 m.det) : (m.pw 2).grows = true ∧ (m.pw 3).grows = true := by
  rw [grows_gDT] at hg
  obtain ⟨h1, h2⟩ := gDT_pos hg
  have hb : m.det.natAbs < 16 := hd
  have ht : -15 ≤ m.tr ∧ m.tr ≤ 15 := by
    rcases (show 0 < m.det ∨ m.det ≤ 0 by omega) with z | z
    · have := h1 z; omega
    · have := h2 z; omega
  have q := small_powers (m.det + 15).toNat (by omega) (m.tr + 15).toNat (by omega)
  rw [show (((m.det + 15).toNat : Nat) : Int) - 15 = m.det by omega, show (((m.tr + 15).toNat : Nat) : Int) - 15 = m.tr by omega] at q
  have q := q hg
  rw [grows_gDT, grows_gDT, M4.det_pw, M4.tr_pw, M4.det_pw, M4.tr_pw]
  exact q

theorem trq_neg (t D : Int) : ∀ j, trq (-t) D j = (-1) ^ j * trq t D j
  | 0 => by simp [trq]
  | 1 => by simp [trq]
  | j + 2 => by
    have p1 : (-1 : Int) ^ (j + 1) = (-1) ^ j * -1 := Int.pow_succ _ _
    have p2 : (-1 : Int) ^ (j + 2) = (-1) ^ j * -1 * -1 := by rw [Int.pow_succ, Int.pow_succ]
    rw [trq, trq, trq_neg t D (j + 1), trq_neg t D j, p2, p1, Int.mul_sub]
    generalize trq t D (j + 1) = x
    generalize trq t D j = y
    generalize (-1 : Int) ^ j = s
    rw [show -t * (s * -1 * x) = s * -1 * -1 * (t * x) by rw [Int.neg_mul, Int.mul_neg, Int.mul_neg, Int.mul_one, Int.mul_one, Int.neg_neg, Int.neg_mul, Int.mul_neg, Int.neg_neg]; ac_rfl]
    rw [show D * (s * y) = s * -1 * -1 * (D * y) by rw [Int.mul_neg, Int.mul_one, Int.mul_neg, Int.mul_one, Int.neg_neg]; ac_rfl]
theorem one_pow_abs (j : Nat) : ((-1 : Int) ^ j).natAbs = 1 := by
  rw [Int.natAbs_pow]; simp
theorem trq_abs (t D : Int) (j : Nat) : (trq ((t.natAbs : Nat) : Int) D j).natAbs = (trq t D j).natAbs := by
  rcases Int.natAbs_eq t with h | h
  · rw [← h]
  · have e : ((t.natAbs : Nat) : Int) = -t := by omega
    rw [e, trq_neg, Int.natAbs_mul, one_pow_abs, Nat.one_mul]
theorem trq_up {D t : Int} (hD : 2 ≤ D) (ht : D + 1 ≤ t) : ∀ j, (D - 1) * D ^ j ≤ trq t D (j + 1) - trq t D j ∧ D ^ j + 1 ≤ trq t D j
  | 0 => by
    show (D - 1) * D ^ 0 ≤ t - 2 ∧ D ^ 0 + 1 ≤ (2 : Int)
    rw [Int.pow_zero]
    omega
  | j + 1 => by
    obtain ⟨h1, h2⟩ := trq_up hD ht j
    have hp : (0 : Int) < D ^ j := Int.pow_pos (by omega)
    have e : trq t D (j + 1 + 1) = t * trq t D (j + 1) - D * trq t D j := rfl
    have hs : D ^ (j + 1) + 1 ≤ trq t D (j + 1) := by
      rw [Int.pow_succ]
      have : (D - 1) * D ^ j = D ^ j * D - D ^ j := by rw [Int.sub_mul, Int.one_mul, Int.mul_comm]
      omega
    refine ⟨?_, hs⟩
    have hp1 : (0 : Int) < D ^ (j + 1) := Int.pow_pos (by omega)
    generalize trq t D (j + 1) = x at *
    generalize trq t D j = y at *
    rw [e]
    have k1 : 0 ≤ (t - D - 1) * x := Int.mul_nonneg (by omega) (by omega)
    have k2 : D * ((D - 1) * D ^ j) ≤ D * (x - y) := Int.mul_le_mul_of_nonneg_left h1 (by omega)
    have k3 : (D - 1) * D ^ (j + 1) = D * ((D - 1) * D ^ j) := by rw [Int.pow_succ]; ac_rfl
    have k4 : (t - D - 1) * x = t * x - D * x - x := by rw [Int.sub_mul, Int.sub_mul, Int.one_mul]
    have k5 : D * (x - y) = D * x - D * y := Int.mul_sub _ _ _
    omega
theorem trq_dn {e t : Int} (he : 2 ≤ e) (ht : e - 1 ≤ t) : ∀ j, (e ^ j + (-1) ^ j ≤ trq t (-e) j ∧ e ^ (j + 1) + (-1) ^ (j + 1) ≤ trq t (-e) (j + 1)) ∧ 0 ≤ e ^ j + (-1) ^ j ∧ 0 ≤ e ^ (j + 1) + (-1) ^ (j + 1)
  | 0 => by
    show (e ^ 0 + (-1) ^ 0 ≤ (2 : Int) ∧ e ^ 1 + (-1) ^ 1 ≤ t) ∧ 0 ≤ e ^ 0 + (-1) ^ 0 ∧ 0 ≤ e ^ 1 + (-1) ^ 1
    simp only [Int.pow_zero, Int.pow_succ]
    omega
  | j + 1 => by
    obtain ⟨⟨h1, h2⟩, p1, p2⟩ := trq_dn he ht j
    have e0 : trq t (-e) (j + 1 + 1) = t * trq t (-e) (j + 1) - (-e) * trq t (-e) j := rfl
    have b2 : e ^ (j + 2) + (-1) ^ (j + 2) = (e - 1) * (e ^ (j + 1) + (-1) ^ (j + 1)) + e * (e ^ j + (-1) ^ j) := by
      rw [Int.pow_succ e (j + 1), Int.pow_succ (-1) (j + 1), Int.pow_succ e j, Int.pow_succ (-1) j]
      generalize e ^ j = a
      generalize (-1 : Int) ^ j = s
      rw [Int.sub_mul, Int.one_mul, Int.mul_add, Int.mul_add, Int.mul_neg, Int.mul_one, Int.mul_neg, Int.mul_one, Int.neg_neg, Int.mul_neg]
      have : a * e * e = e * (a * e) := Int.mul_comm _ _
      have : a * e = e * a := Int.mul_comm _ _
      omega
    have p3 : 0 ≤ e ^ (j + 1 + 1) + (-1) ^ (j + 1 + 1) := by
      show 0 ≤ e ^ (j + 2) + (-1) ^ (j + 2)
      rw [b2]
      exact Int.add_nonneg (Int.mul_nonneg (by omega) p2) (Int.mul_nonneg (by omega) p1)
    refine ⟨⟨h2, ?_⟩, p2, p3⟩
    show e ^ (j + 2) + (-1) ^ (j + 2) ≤ _
    rw [b2, e0]
    generalize trq t (-e) (j + 1) = x at *
    generalize trq t (-e) j = y at *
    generalize e ^ (j + 1) + (-1) ^ (j + 1) = B1 at *
    generalize e ^ j + (-1) ^ j = B0 at *
    have k1 : (e - 1) * B1 ≤ t * x := Int.mul_le_mul ht h2 p2 (by omega)
    have k2 : e * B0 ≤ e * y := Int.mul_le_mul_of_nonneg_left h1 (by omega)
    rw [Int.neg_mul]
    omega
/-- a table of numbers whose rows are below N: its trace lies below N + s, its determinant being s N -/
theorem rows_below {a b c d N s : Int} (hN : 0 < N) (h1 : ((a.natAbs : Nat) : Int) + ((b.natAbs : Nat) : Int) < N) (h2 : ((c.natAbs : Nat) : Int) + ((d.natAbs : Nat) : Int) < N) (hd : a * d - b * c = s * N) : -(N + s) < a + d ∧ a + d < N + s := by
  have bc : b * c ≤ ((b.natAbs : Nat) : Int) * ((c.natAbs : Nat) : Int) := by
    have := Int.le_natAbs (a := b * c)
    rw [Int.natAbs_mul] at this
    push_cast at this
    exact this
  have nb : (0 : Int) ≤ ((b.natAbs : Nat) : Int) := Int.natCast_nonneg _
  have nc : (0 : Int) ≤ ((c.natAbs : Nat) : Int) := Int.natCast_nonneg _
  have key : ∀ x y : Int, ((b.natAbs : Nat) : Int) < x → ((c.natAbs : Nat) : Int) < y → b * c < x * y := by
    intro x y hx hy
    have l1 : ((b.natAbs : Nat) : Int) * ((c.natAbs : Nat) : Int) ≤ ((b.natAbs : Nat) : Int) * y := Int.mul_le_mul_of_nonneg_left (by omega) nb
    have l2 : ((b.natAbs : Nat) : Int) * y < x * y := Int.mul_lt_mul_of_pos_right hx (by omega)
    omega
  have u1 := key (N - a) (N - d) (by omega) (by omega)
  have u2 := key (N + a) (N + d) (by omega) (by omega)
  have x1 : (N - a) * (N - d) = N * N - N * (a + d) + a * d := by
    rw [Int.sub_mul, Int.mul_sub, Int.mul_sub, Int.mul_add, Int.mul_comm a N]; omega
  have x2 : (N + a) * (N + d) = N * N + N * (a + d) + a * d := by
    rw [Int.add_mul, Int.mul_add, Int.mul_add, Int.mul_add, Int.mul_comm a N]; omega
  rw [x1] at u1
  rw [x2] at u2
  have pos : ∀ y : Int, 0 < N * y → 0 < y := by
    intro y hy
    rcases (show 0 < y ∨ y ≤ 0 by omega) with z | z
    · exact z
    · have := Int.mul_nonpos_of_nonneg_of_nonpos (Int.le_of_lt hN) z
      omega
  constructor
  · have : 0 < N * (N + (a + d) + s) := by
      rw [Int.mul_add, Int.mul_add, Int.mul_comm N s]; omega
    have := pos _ this
    omega
  · have : 0 < N * (N - (a + d) + s) := by
      rw [Int.mul_add, Int.mul_sub, Int.mul_comm N s]; omega
    have := pos _ this
    omega
theorem pow_sign (D : Int) (j : Nat) : ∃ s : Int, (s = 1 ∨ s = -1) ∧ D ^ j = s * ((D.natAbs : Nat) : Int) ^ j ∧ (0 ≤ D → s = 1) ∧ (D < 0 → s = (-1) ^ j) := by
  rcases (show 0 ≤ D ∨ D < 0 by omega) with h | h
  · refine ⟨1, .inl rfl, ?_, fun _ => rfl, fun z => by omega⟩
    rw [Int.one_mul, show ((D.natAbs : Nat) : Int) = D by omega]
  · refine ⟨(-1) ^ j, ?_, ?_, fun z => by omega, fun _ => rfl⟩
    · have := one_pow_abs j
      omega
    · have e : D = -1 * ((D.natAbs : Nat) : Int) := by omega
      conv => lhs; rw [e]
      rw [Int.mul_pow]
theorem shrinks_one {m : M4} {j : Nat} (hj : 1 ≤ j) (h0 : m.det ≠ 0) (hs : (m.adj.pw j).size < ((m.det.natAbs : Nat) : Int) ^ j) : m.grows = true := by
  have hN : (0 : Int) < ((m.det.natAbs : Nat) : Int) ^ j := Int.pow_pos (by omega)
  obtain ⟨s, hs1, hs2, hs3, hs4⟩ := pow_sign m.det j
  have hdet : (m.adj.pw j).det = s * ((m.det.natAbs : Nat) : Int) ^ j := by rw [M4.det_pw, M4.det_adj, hs2]
  have htr : (m.adj.pw j).tr = trq m.tr m.det j := by rw [M4.tr_pw, M4.tr_adj, M4.det_adj]
  have hr := rows_below (a := (m.adj.pw j).a) (b := (m.adj.pw j).b) (c := (m.adj.pw j).c) (d := (m.adj.pw j).d) hN (by unfold M4.size at hs; omega) (by unfold M4.size at hs; omega) hdet
  have hT : ((trq m.tr m.det j).natAbs : Int) < ((m.det.natAbs : Nat) : Int) ^ j + s := by
    have : (m.adj.pw j).a + (m.adj.pw j).d = trq m.tr m.det j := htr
    omega
  rw [← trq_abs] at hT
  have hone : m.det.natAbs ≠ 1 := by
    intro e
    rw [e] at hs hdet
    have e1 : (((1 : Nat) : Int)) ^ j = 1 := by rw [Int.natCast_one, Int.one_pow]
    rw [e1] at hs hdet
    unfold M4.size at hs
    have za : (m.adj.pw j).a = 0 := by omega
    have zb : (m.adj.pw j).b = 0 := by omega
    unfold M4.det at hdet
    rw [za, zb] at hdet
    simp at hdet
    omega
  rw [grows_gDT]
  unfold gDT
  rcases (show 0 < m.det ∨ m.det < 0 by omega) with hD | hD
  · rw [if_pos hD]
    have e2 : ((m.det.natAbs : Nat) : Int) = m.det := by omega
    rw [hs3 (by omega), e2] at hT
    simp only [Bool.and_eq_true, decide_eq_true_eq]
    refine ⟨by omega, ?_⟩
    rcases (show m.det + 1 ≤ ((m.tr.natAbs : Nat) : Int) ∨ ((m.tr.natAbs : Nat) : Int) ≤ m.det by omega) with ht | ht
    · have := (trq_up (by omega) ht j).2
      omega
    · omega
  · rw [if_neg (by omega)]
    have e2 : ((m.det.natAbs : Nat) : Int) = -m.det := by omega
    rw [hs4 hD, e2] at hT
    simp only [Bool.and_eq_true, decide_eq_true_eq]
    refine ⟨by omega, ?_⟩
    rcases (show -m.det - 1 ≤ ((m.tr.natAbs : Nat) : Int) ∨ ((m.tr.natAbs : Nat) : Int) ≤ -m.det - 2 by omega) with ht | ht
    · have := (trq_dn (e := -m.det) (by omega) ht j).1.1
      rw [Int.neg_neg] at this
      omega
    · omega
theorem shF_any {m : M4} : ∀ (f j : Nat), 1 ≤ j → shF m f j = true → ∃ i, 1 ≤ i ∧ (m.adj.pw i).size < ((m.det.natAbs : Nat) : Int) ^ i
  | 0, _, _, h => by cases h
  | f + 1, j, hj, h => by
    rw [shF, Bool.or_eq_true] at h
    rcases h with h | h
    · exact ⟨j, hj, of_decide_eq_true h⟩
    · exact shF_any f (j + 1) (by omega) h
theorem shrinks_grows {m : M4} (h0 : m.det ≠ 0) (h : shF m 12 1 = true) : m.grows = true := by
  obtain ⟨i, h1, h2⟩ := shF_any 12 1 (Nat.le_refl 1) h
  exact shrinks_one h1 h0 h2

set_option maxHeartbeats 1000000
open PySem PySem.Spec PyProof.Rows L2
open Evl (Ex ex_l ex_t)
section
variable {P : Program} {w : World} {K : PySem.W.Frag} {mg : Str → Option Value} {base : Heap} {f : Addr} {fd : FuncData}
theorem Bd.up7900 {x : Int} (h : Bd 64 x) : Bd 7900 x := h.mono (by decide)
abbrev yes (d : PyData) : Prop := d = .bool true
abbrev sp_law_told_right (K : PySem.W.Frag) : Sp := spK K (fun m : M4 => [m.D]) (fun m => Bm 35 m) (fun _ => yes)
theorem Bm.mulv {m : M4} {i j : Nat} {x y : Int} (h : Bm i m) (hx : Bd j x) (hy : Bd j y) : Bd (i + j + 1) (m.a * x + m.b * y) ∧ Bd (i + j + 1) (m.c * x + m.d * y) :=
  ⟨(h.1.mul hx).add (h.2.1.mul hy), (h.2.2.1.mul hx).add (h.2.2.2.mul hy)⟩
theorem len_law_told_right {K : PySem.W.Frag} {vs : List V} {H : Hp} {Q : VK} {E : XK} (h : sp_law_told_right K vs H Q E) : vs.length = 2 := by
  first | exact len1 (n := 2) (fun _ => rfl) h | exact len2 (n := 2) (fun _ => rfl) h | exact len3 (n := 2) (fun _ => rfl) h | exact len4 (n := 2) (fun _ => rfl) h
theorem ok_law_told_right (F : Fun K "_law_told_right" "_law_told_right" s_law_told_right f fd) (M : Bu mg) (c_law_growing : Cal P w K mg base 2 "_law_growing" ["grid"] (sp_law_growing K)) (c_law_ahead : Cal P w K mg base 1 "_law_ahead" ["grid", "away"] (sp_law_ahead K)) (c_law_power : Cal P w K mg base 3 "_law_power" ["grid", "many"] (sp_law_power K)) (c_law_same : Cal P w K mg base 6 "_law_same" ["found", "due"] (sp_law_same 6 K)) (c_law_shrinks : Cal P w K mg base 4 "_law_shrinks" ["grid"] (sp_law_shrinks K)) (c_law_any : Cal P w K mg base 2 "_law_any" ["deck"] (sp_law_any K)) (c_law_take : Cal P w K mg base 1 "_law_take" ["deck", "many"] (sp_law_take K)) (c_law_product : Cal P w K mg base 2 "_law_product" ["first", "second"] (sp_law_product K)) (c_law_det : Cal P w K mg base 1 "_law_det" ["grid"] (sp_law_det K)) (c_power : Cal P w K mg base 6 "power" ["table", "n"] (sp_power K)) (k_power_n_table : CalK P w K mg base 6 "power" ["table", "n"] ["n", "table"] swap2 (sp_power K)) (c_is_table : Cal P w K mg base 3 "is_table" ["told"] (sp_is_table K)) (k_is_table_told : CalK P w K mg base 3 "is_table" ["told"] ["told"] (fun zs => zs) (sp_is_table K)) (c_is_growing : Cal P w K mg base 6 "is_growing" ["told"] (sp_is_growing K)) (k_is_growing_told : CalK P w K mg base 6 "is_growing" ["told"] ["told"] (fun zs => zs) (sp_is_growing K)) (c_determinant : Cal P w K mg base 5 "determinant" ["table"] (sp_determinant K)) (k_determinant_table : CalK P w K mg base 5 "determinant" ["table"] ["table"] (fun zs => zs) (sp_determinant K)) (c_trace : Cal P w K mg base 5 "trace" ["table"] (sp_trace K)) (k_trace_table : CalK P w K mg base 5 "trace" ["table"] ["table"] (fun zs => zs) (sp_trace K)) (c_times : Cal P w K mg base 5 "times" ["table", "offset"] (sp_times K)) (k_times_offset_table : CalK P w K mg base 5 "times" ["table", "offset"] ["offset", "table"] swap2 (sp_times K)) (c_product : Cal P w K mg base 5 "product" ["one", "other"] (sp_product K)) (k_product_other_one : CalK P w K mg base 5 "product" ["one", "other"] ["other", "one"] swap2 (sp_product K))  : FnOk P w K mg base CX0 7 f fd ["deck", "grid"] (sp_law_told_right K) := by
  refine F.ok sc_law_told_right (fun vs H Q E h => ?_) (fun cdv A outer s H vs Q E hr h => ?_)
  · exact len_law_told_right h
  · obtain ⟨m, a, vs, rfl, hk, ha, hb, k⟩ := h
    obtain ⟨v, rfl, hd⟩ := dqa1 ha
    clear ha
    have hd0 : Dq K H v m.D := hd
    have hd : Dq K H v (tb m.a m.b m.c m.d) := hd
    refine ⟨_, (pss_cons (ps_set (i := 2) sc_law_told_right.nd rfl (Or.inl rfl) (pe_callD c_law_growing hr (by decide) (pa_cons (pv 1) pa_nil)))
      (pss_cons (ps_if (PW.pt (pw_and (pt_cmpR (op_neK K rfl hr.units) (pe_callD c_law_det hr (by decide) (pa_cons (pv 1) pa_nil)) pe_int (nomark _)) (pw_and (pt_val (pe_callD c_law_shrinks hr (by decide) (pa_cons (pv 1) pa_nil))) (pw_and1 (pt_not (pt_val (pv 2))))))) (pss_one (ps_ret pe_bl)) pss_nil)
      (pss_cons (ps_if (pt_not (pt_val (pe_callD c_law_same hr (by decide) (pa_cons (pe_lstK K rfl (pa_cons (pe_callD c_is_table hr (by decide) (pa_cons (pv 1) pa_nil)) (pa_cons (pe_callW k_is_table_told hr (by decide) (pk_cons (pv 1) pk_nil)) (pa_cons (pe_callD c_is_growing hr (by decide) (pa_cons (pv 1) pa_nil)) (pa_cons (pe_callW k_is_growing_told hr (by decide) (pk_cons (pv 1) pk_nil)) pa_nil))))) (pa_cons (pe_lstK K rfl (pa_cons pe_bl (pa_cons pe_bl (pa_cons (pv 2) (pa_cons (pv 2) pa_nil))))) pa_nil))))) (pss_one (ps_ret pe_bl)) pss_nil)
      (pss_cons (ps_set (i := 3) sc_law_told_right.nd rfl (Or.inl rfl) (pe_op (op_addK K rfl) (pe_ix (ix_seqK K rfl) (pe_ix (ix_seqK K rfl) (pv 1) pe_int (fun _ _ => rfl)) pe_int (fun _ _ => rfl)) (pe_ix (ix_seqK K rfl) (pe_ix (ix_seqK K rfl) (pv 1) pe_int (fun _ _ => rfl)) pe_int (fun _ _ => rfl))))
      (pss_cons (ps_if (pt_not (pt_val (pe_callD c_law_same hr (by decide) (pa_cons (pe_lstK K rfl (pa_cons (pe_callD c_determinant hr (by decide) (pa_cons (pv 1) pa_nil)) (pa_cons (pe_callW k_determinant_table hr (by decide) (pk_cons (pv 1) pk_nil)) (pa_cons (pe_callD c_trace hr (by decide) (pa_cons (pv 1) pa_nil)) (pa_cons (pe_callW k_trace_table hr (by decide) (pk_cons (pv 1) pk_nil)) pa_nil))))) (pa_cons (pe_op (op_addK K rfl) (pe_op op_mulU (pe_lstK K rfl (pa_cons (pe_callD c_law_det hr (by decide) (pa_cons (pv 1) pa_nil)) pa_nil)) pe_int) (pe_op op_mulU (pe_lstK K rfl (pa_cons (pv 3) pa_nil)) pe_int)) pa_nil))))) (pss_one (ps_ret pe_bl)) pss_nil)
      (pss_cons (ps_par (i := 5) (j := 6) (by rfl) sc_law_told_right.nd rfl rfl (by decide) rfl rfl (pa_cons (pe_tupK K rfl (pa_cons (pe_op op_sub (pe_callD c_law_take hr (by decide) (pa_cons (pv 0) (pa_cons pe_int pa_nil))) pe_int) (pa_cons (pe_op op_sub (pe_callD c_law_take hr (by decide) (pa_cons (pv 0) (pa_cons pe_int pa_nil))) pe_int) pa_nil))) (pa_cons (pe_callD c_law_any hr (by decide) (pa_cons (pv 0) pa_nil)) pa_nil)) (by rfl))
      (pss_cons (ps_set (i := 2) sc_law_told_right.nd rfl (Or.inl rfl) (pe_callD c_law_ahead hr (by decide) (pa_cons (pv 1) (pa_cons (pv 5) pa_nil))))
      (pss_cons (ps_if (pt_not (pt_val (pe_callD c_law_same hr (by decide) (pa_cons (pe_lstK K rfl (pa_cons (pe_callD c_times hr (by decide) (pa_cons (pv 1) (pa_cons (pv 5) pa_nil))) (pa_cons (pe_callW k_times_offset_table hr (by decide) (pk_cons (pv 5) (pk_cons (pv 1) pk_nil))) pa_nil))) (pa_cons (pe_lstK K rfl (pa_cons (pv 2) (pa_cons (pv 2) pa_nil))) pa_nil))))) (pss_one (ps_ret pe_bl)) pss_nil)
      (pss_cons (ps_for PassesOwn.never rfl (pi_range1 rfl M.z_range (pa_cons (pe_callD c_law_take hr (by decide) (pa_cons (pv 0) (pa_cons pe_int pa_nil))) pa_nil)) (pg_name (i := 4) sc_law_told_right.nd rfl (Or.inl rfl)) (pss_cons (ps_set (i := 5) sc_law_told_right.nd rfl (Or.inl rfl) (pv 2))
      (pss_cons (ps_set (i := 2) sc_law_told_right.nd rfl (Or.inl rfl) (pe_callD c_law_ahead hr (by decide) (pa_cons (pv 1) (pa_cons (pv 5) pa_nil))))
      (pss_one (ps_if (pt_not (pt_val (pe_callD c_law_same hr (by decide) (pa_cons (pe_callD c_times hr (by decide) (pa_cons (pv 1) (pa_cons (pv 5) pa_nil))) (pa_cons (pv 2) pa_nil))))) (pss_one (ps_ret pe_bl)) pss_nil)))))
      (pss_cons (ps_par (i := 2) (j := 7) (by rfl) sc_law_told_right.nd rfl rfl (by decide) rfl rfl (pa_cons (pe_callD c_law_product hr (by decide) (pa_cons (pv 1) (pa_cons (pv 6) pa_nil))) (pa_cons (pe_callD c_law_take hr (by decide) (pa_cons (pv 0) (pa_cons (pe_ix (ix_seqK K rfl) (pe_lstK K rfl (pa_cons pe_int (pa_cons pe_int pa_nil))) (pe_callD c_law_take hr (by decide) (pa_cons (pv 0) (pa_cons pe_int pa_nil))) (fun _ _ => rfl)) pa_nil))) pa_nil)) (by rfl))
      (pss_cons (ps_if (pt_not (pt_val (pe_callD c_law_same hr (by decide) (pa_cons (pe_lstK K rfl (pa_cons (pe_callD c_product hr (by decide) (pa_cons (pv 1) (pa_cons (pv 6) pa_nil))) (pa_cons (pe_callW k_product_other_one hr (by decide) (pk_cons (pv 6) (pk_cons (pv 1) pk_nil))) pa_nil))) (pa_cons (pe_lstK K rfl (pa_cons (pv 2) (pa_cons (pv 2) pa_nil))) pa_nil))))) (pss_one (ps_ret pe_bl)) pss_nil)
      (pss_cons (ps_set (i := 2) sc_law_told_right.nd rfl (Or.inl rfl) (pe_callD c_law_power hr (by decide) (pa_cons (pv 1) (pa_cons (pv 7) pa_nil))))
      (pss_one (ps_ret (pe_callD c_law_same hr (by decide) (pa_cons (pe_lstK K rfl (pa_cons (pe_callD c_power hr (by decide) (pa_cons (pv 1) (pa_cons (pv 7) pa_nil))) (pa_cons (pe_callW k_power_n_table hr (by decide) (pk_cons (pv 7) (pk_cons (pv 1) pk_nil))) pa_nil))) (pa_cons (pe_lstK K rfl (pa_cons (pv 2) (pa_cons (pv 2) pa_nil))) pa_nil))))))))))))))))), ?_⟩
    try simp only [cxK, cxK2]
    refine w_st (σ' := [some (.ref a), some v, none, none, none, none, none, none]) rfl ?_
    have hk0 : H a = some (DeckO a) := hk
    have hdet := hb.det
    (repeat kas_types)
    refine w_spPb (b := m.grows) (35, m) (by k_clsL) rfl ⟨by show 35 ≤ 60000000; decide, hb⟩ fun H1 e1 => ?_
    (repeat kas_types)
    refine w_spP (35, m) (by k_clsL) ⟨by show 35 ≤ 60000000; decide, hb⟩ fun vd H2 e2 hvd => ?_
    rw [qint_inv hvd]
    (repeat kas_types)
    refine w_ite (fun ez => ?_) (fun ez => ?_)
    · (repeat kas_types)
      refine w_spPb (b := shF m 12 1) (35, m) (by k_clsL) rfl ⟨by show 35 ≤ 100; decide, hb⟩ fun H3 e3 => ?_
      (repeat kas_types)
      refine w_ite (fun es => ?_) (fun es => ?_)
      · have hne : m.det ≠ 0 := by
          intro z
          have z' : (35, m).2.det = 0 := z
          rw [z'] at ez
          exact absurd ez (by decide)
        have hg : m.grows = true := shrinks_grows hne es
        rw [hg]
        (repeat kas_types)
        refine w_spPb (b := true) m.D (by k_clsL) (by rw [isTab_D]) trivial fun H4 e4 => ?_
        (repeat kas_types)
        refine w_spPb (b := true) m.D (by k_clsL) (by rw [isTab_D]) trivial fun H5 e5 => ?_
        (repeat kas_types)
        refine w_spPb (b := true) (35, m.D) (by k_clsL) (by show PyData.bool m.grows = _; rw [hg]) ⟨by show 35 ≤ 60000000; decide, fun m' e => by rw [← D_inj e]; exact hb⟩ fun H6 e6 => ?_
        (repeat kas_types)
        refine w_spPb (b := true) (35, m.D) (by k_clsL) (by show PyData.bool m.grows = _; rw [hg]) ⟨by show 35 ≤ 60000000; decide, fun m' e => by rw [← D_inj e]; exact hb⟩ fun H7 e7 => ?_
        (repeat kas_types)
        refine w_spPb (b := true) (.list [.bool true, .bool true, .bool true, .bool true]) (by k_clsL) rfl rfl fun H8 e8 => ?_
        (repeat kas_types)
        refine w_spP (35, m) (by k_clsL) ⟨by show 35 ≤ 60000000; decide, hb⟩ fun vd H9 e9 hvd => ?_
        rw [qint_inv hvd]
        (repeat kas_types)
        refine w_spP (35, m) (by k_clsL) ⟨by show 35 ≤ 60000000; decide, hb⟩ fun vd H9 e9 hvd => ?_
        rw [qint_inv hvd]
        (repeat kas_types)
        refine w_spP m (by k_clsL) trivial fun vd H9 e9 hvd => ?_
        rw [qint_inv hvd]
        (repeat kas_types)
        refine w_spP m (by k_clsL) trivial fun vd H9 e9 hvd => ?_
        rw [qint_inv hvd]
        (repeat kas_types)
        refine w_spP (35, m) (by k_clsL) ⟨by show 35 ≤ 60000000; decide, hb⟩ fun vd H9 e9 hvd => ?_
        rw [qint_inv hvd]
        (repeat kas_types)
        refine w_catQ (ds := [.int m.det, .int m.det]) (es := [.int (m.a + m.d), .int (m.a + m.d)]) (by k_offL) (by k_offL) (by k_subL) (by k_subL) (Nat.le_of_ble_eq_true rfl) fun p H10 e10 hp hall _ => ?_
        (repeat kas_types)
        refine w_spPb (b := true) (.list [.int m.det, .int m.det, .int m.tr, .int m.tr]) (by k_clsL) rfl rfl fun H11 e11 => ?_
        (repeat kas_types)
        refine w_take (by show _ = _; k_offL) (by decide) (by unfold Bd; decide) fun r1 H12 e12 r10 r11 => ?_
        (repeat kas_types)
        refine w_take (by show _ = _; k_offL) (by decide) (by unfold Bd; decide) fun r2 H13 e13 r20 r21 => ?_
        (repeat kas_types)
        refine w_spK () (by show _ = _; k_offL) .nil trivial fun d2 u2 H14 e14 ⟨m2, hd2, hb2⟩ hu2 => ?_
        subst hd2
        have bx : Bd 5 (r1 - 9) := bd_of (by omega) (by omega)
        have by' : Bd 5 (r2 - 9) := bd_of (by omega) (by omega)
        generalize r1 - 9 = x at *
        generalize r2 - 9 = y at *
        (repeat kas_types)
        refine w_spP (35, m, x, y) (by k_clsL) ⟨by show 35 ≤ 60000000; decide, hb, bx.mono (by show 5 ≤ 35; decide), by'.mono (by show 5 ≤ 35; decide)⟩ fun u3 H15 e15 hu3 => ?_
        (repeat kas_types)
        refine w_spP (35, m, x, y) (by k_clsL) ⟨by show 35 ≤ 60000000; decide, hb, bx.mono (by show 5 ≤ 35; decide), by'.mono (by show 5 ≤ 35; decide)⟩ fun u4 H16 e16 hu4 => ?_
        (repeat kas_types)
        refine w_spP (35, m, x, y) (by k_clsL) ⟨by show 35 ≤ 60000000; decide, hb, bx.mono (by show 5 ≤ 35; decide), by'.mono (by show 5 ≤ 35; decide)⟩ fun u5 H17 e17 hu5 => ?_
        (repeat kas_types)
        refine w_spPb (b := true) (.list [pr (m.a * x + m.b * y) (m.c * x + m.d * y), pr (m.a * x + m.b * y) (m.c * x + m.d * y)]) (by k_clsL) rfl rfl fun H18 e18 => ?_
        (repeat kas_types)
        refine w_take (by show _ = _; k_offL) (by decide) (by unfold Bd; decide) fun r3 H19 e19 r30 r31 => ?_
        (repeat kas_types)
        refine ⟨_, rfl, by omega, by omega, ?_⟩
        have hmv := hb.mulv bx by'
        have hu3' : Dq K H15 u3 (pr (m.a * x + m.b * y) (m.c * x + m.d * y)) := hu3
        refine w_forg (fun i σ H' => ∃ (w1 w4 : V) (w3 : Option V) (x y : Int), σ = [some (.ref a), some v, some w1, some (.int (m.a + m.d)), w3, some w4, some u2, none] ∧ Ex H19 H' ∧ Dq K H' w1 (pr x y) ∧ Bd (41 + 36 * i) x ∧ Bd (41 + 36 * i) y) ?I0 ?I1 ?I2
        case I0 => exact ⟨_, _, _, _, _, rfl, by lcg_sub, by keq_rows, hmv.1, hmv.2⟩
        case I1 =>
          rintro i σ H20 hi ⟨w1, w4, w3, x, y, rfl, e20, hw, bx, by'⟩
          have hi : i < 9 := by omega
          (repeat kas_types)
          refine w_spP (400, m, x, y) (by k_clsL) ⟨by show 400 ≤ 60000000; decide, hb.mono (by show 35 ≤ 400; decide), bx.mono (by show _ ≤ 400; omega), by'.mono (by show _ ≤ 400; omega)⟩ fun u6 H21 e21 hu6 => ?_
          (repeat kas_types)
          refine w_spP (400, m, x, y) (by k_clsL) ⟨by show 400 ≤ 60000000; decide, hb.mono (by show 35 ≤ 400; decide), bx.mono (by show _ ≤ 400; omega), by'.mono (by show _ ≤ 400; omega)⟩ fun u7 H22 e22 hu7 => ?_
          (repeat kas_types)
          refine w_spPb (b := true) (pr (m.a * x + m.b * y) (m.c * x + m.d * y)) (by k_clsL) rfl rfl fun H23 e23 => ?_
          (repeat kas_types)
          have hmv := hb.mulv bx by'
          exact ⟨_, _, _, _, _, rfl, by lcg_sub, by keq_rows, hmv.1.mono (by omega), hmv.2.mono (by omega)⟩
        case I2 =>
          rintro σ H20 ⟨w1, w4, w3, x, y, rfl, e20, hw, bx, by'⟩
          (repeat kas_types)
          refine w_spP (35, m, m2) (by k_clsL) ⟨by show 35 ≤ 60000000; decide, hb, hb2⟩ fun u6 H21 e21 hu6 => ?_
          (repeat kas_types)
          refine w_take (by show _ = _; k_offL) (by decide) (by unfold Bd; decide) fun r4 H22 e22 r40 r41 => ?_
          refine w_ixany (by lcg_off) (by k_subL) r40 (by exact r41) fun d v9 hm hv => ?_
          obtain ⟨far, rfl, f0, f1⟩ : ∃ far : Int, d = .int far ∧ 0 < far ∧ far ≤ 61 := by
            simp only [List.mem_cons, List.not_mem_nil, or_false] at hm
            rcases hm with rfl | rfl
            · exact ⟨_, rfl, by decide, by decide⟩
            · exact ⟨_, rfl, by decide, by decide⟩
          rw [qint_inv hv]
          (repeat kas_types)
          refine w_take (by show _ = _; k_offL) f0 (show Bd 64 far by unfold Bd; omega).up7900 fun r5 H23 e23 r50 r51 => ?_
          obtain ⟨z, rfl⟩ := Int.eq_ofNat_of_zero_le r50
          (repeat kas_types)
          refine w_spP (35, m, m2) (by k_clsL) ⟨by show 35 ≤ 60000000; decide, hb, hb2⟩ fun u7 H24 e24 hu7 => ?_
          (repeat kas_types)
          refine w_spP (35, m, m2) (by k_clsL) ⟨by show 35 ≤ 60000000; decide, hb, hb2⟩ fun u8 H25 e25 hu8 => ?_
          (repeat kas_types)
          refine w_spPb (b := true) (.list [(m.mul m2).D, (m.mul m2).D]) (by k_clsL) rfl rfl fun H26 e26 => ?_
          (repeat kas_types)
          refine w_spP (35, m, z) (by k_clsL) ⟨by show 35 ≤ 100000; decide, hb, by show z ≤ 100; omega⟩ fun u9 H27 e27 hu9 => ?_
          (repeat kas_types)
          refine w_spP (35, m, z) (by k_clsL) ⟨by show 35 ≤ 100000; decide, hb, by show z ≤ 100; omega⟩ fun u10 H28 e28 hu10 => ?_
          (repeat kas_types)
          refine w_spP (35, m, z) (by k_clsL) ⟨by show 35 ≤ 100000; decide, hb, by show z ≤ 100; omega⟩ fun u11 H29 e29 hu11 => ?_
          (repeat kas_types)
          refine w_spPb (b := true) (.list [(m.pw z).D, (m.pw z).D]) (by k_clsL) rfl rfl fun H30 e30 => ?_
          exact k _ _ _ (by lcg_sub) rfl (.bl true)
      · (repeat kas_types)
        refine w_spPb (b := true) m.D (by k_clsL) (by rw [isTab_D]) trivial fun H4 e4 => ?_
        (repeat kas_types)
        refine w_spPb (b := true) m.D (by k_clsL) (by rw [isTab_D]) trivial fun H5 e5 => ?_
        (repeat kas_types)
        refine w_spPb (b := m.grows) (35, m.D) (by k_clsL) rfl ⟨by show 35 ≤ 60000000; decide, fun m' e => by rw [← D_inj e]; exact hb⟩ fun H6 e6 => ?_
        (repeat kas_types)
        refine w_spPb (b := m.grows) (35, m.D) (by k_clsL) rfl ⟨by show 35 ≤ 60000000; decide, fun m' e => by rw [← D_inj e]; exact hb⟩ fun H7 e7 => ?_
        (repeat kas_types)
        refine w_spPb (b := true) (.list [.bool true, .bool true, .bool m.grows, .bool m.grows]) (by k_clsL) rfl rfl fun H8 e8 => ?_
        (repeat kas_types)
        refine w_spP (35, m) (by k_clsL) ⟨by show 35 ≤ 60000000; decide, hb⟩ fun vd H9 e9 hvd => ?_
        rw [qint_inv hvd]
        (repeat kas_types)
        refine w_spP (35, m) (by k_clsL) ⟨by show 35 ≤ 60000000; decide, hb⟩ fun vd H9 e9 hvd => ?_
        rw [qint_inv hvd]
        (repeat kas_types)
        refine w_spP m (by k_clsL) trivial fun vd H9 e9 hvd => ?_
        rw [qint_inv hvd]
        (repeat kas_types)
        refine w_spP m (by k_clsL) trivial fun vd H9 e9 hvd => ?_
        rw [qint_inv hvd]
        (repeat kas_types)
        refine w_spP (35, m) (by k_clsL) ⟨by show 35 ≤ 60000000; decide, hb⟩ fun vd H9 e9 hvd => ?_
        rw [qint_inv hvd]
        (repeat kas_types)
        refine w_catQ (ds := [.int m.det, .int m.det]) (es := [.int (m.a + m.d), .int (m.a + m.d)]) (by k_offL) (by k_offL) (by k_subL) (by k_subL) (Nat.le_of_ble_eq_true rfl) fun p H10 e10 hp hall _ => ?_
        (repeat kas_types)
        refine w_spPb (b := true) (.list [.int m.det, .int m.det, .int m.tr, .int m.tr]) (by k_clsL) rfl rfl fun H11 e11 => ?_
        (repeat kas_types)
        refine w_take (by show _ = _; k_offL) (by decide) (by unfold Bd; decide) fun r1 H12 e12 r10 r11 => ?_
        (repeat kas_types)
        refine w_take (by show _ = _; k_offL) (by decide) (by unfold Bd; decide) fun r2 H13 e13 r20 r21 => ?_
        (repeat kas_types)
        refine w_spK () (by show _ = _; k_offL) .nil trivial fun d2 u2 H14 e14 ⟨m2, hd2, hb2⟩ hu2 => ?_
        subst hd2
        have bx : Bd 5 (r1 - 9) := bd_of (by omega) (by omega)
        have by' : Bd 5 (r2 - 9) := bd_of (by omega) (by omega)
        generalize r1 - 9 = x at *
        generalize r2 - 9 = y at *
        (repeat kas_types)
        refine w_spP (35, m, x, y) (by k_clsL) ⟨by show 35 ≤ 60000000; decide, hb, bx.mono (by show 5 ≤ 35; decide), by'.mono (by show 5 ≤ 35; decide)⟩ fun u3 H15 e15 hu3 => ?_
        (repeat kas_types)
        refine w_spP (35, m, x, y) (by k_clsL) ⟨by show 35 ≤ 60000000; decide, hb, bx.mono (by show 5 ≤ 35; decide), by'.mono (by show 5 ≤ 35; decide)⟩ fun u4 H16 e16 hu4 => ?_
        (repeat kas_types)
        refine w_spP (35, m, x, y) (by k_clsL) ⟨by show 35 ≤ 60000000; decide, hb, bx.mono (by show 5 ≤ 35; decide), by'.mono (by show 5 ≤ 35; decide)⟩ fun u5 H17 e17 hu5 => ?_
        (repeat kas_types)
        refine w_spPb (b := true) (.list [pr (m.a * x + m.b * y) (m.c * x + m.d * y), pr (m.a * x + m.b * y) (m.c * x + m.d * y)]) (by k_clsL) rfl rfl fun H18 e18 => ?_
        (repeat kas_types)
        refine w_take (by show _ = _; k_offL) (by decide) (by unfold Bd; decide) fun r3 H19 e19 r30 r31 => ?_
        (repeat kas_types)
        refine ⟨_, rfl, by omega, by omega, ?_⟩
        have hmv := hb.mulv bx by'
        have hu3' : Dq K H15 u3 (pr (m.a * x + m.b * y) (m.c * x + m.d * y)) := hu3
        refine w_forg (fun i σ H' => ∃ (w1 w4 : V) (w3 : Option V) (x y : Int), σ = [some (.ref a), some v, some w1, some (.int (m.a + m.d)), w3, some w4, some u2, none] ∧ Ex H19 H' ∧ Dq K H' w1 (pr x y) ∧ Bd (41 + 36 * i) x ∧ Bd (41 + 36 * i) y) ?I0 ?I1 ?I2
        case I0 => exact ⟨_, _, _, _, _, rfl, by lcg_sub, by keq_rows, hmv.1, hmv.2⟩
        case I1 =>
          rintro i σ H20 hi ⟨w1, w4, w3, x, y, rfl, e20, hw, bx, by'⟩
          have hi : i < 9 := by omega
          (repeat kas_types)
          refine w_spP (400, m, x, y) (by k_clsL) ⟨by show 400 ≤ 60000000; decide, hb.mono (by show 35 ≤ 400; decide), bx.mono (by show _ ≤ 400; omega), by'.mono (by show _ ≤ 400; omega)⟩ fun u6 H21 e21 hu6 => ?_
          (repeat kas_types)
          refine w_spP (400, m, x, y) (by k_clsL) ⟨by show 400 ≤ 60000000; decide, hb.mono (by show 35 ≤ 400; decide), bx.mono (by show _ ≤ 400; omega), by'.mono (by show _ ≤ 400; omega)⟩ fun u7 H22 e22 hu7 => ?_
          (repeat kas_types)
          refine w_spPb (b := true) (pr (m.a * x + m.b * y) (m.c * x + m.d * y)) (by k_clsL) rfl rfl fun H23 e23 => ?_
          (repeat kas_types)
          have hmv := hb.mulv bx by'
          exact ⟨_, _, _, _, _, rfl, by lcg_sub, by keq_rows, hmv.1.mono (by omega), hmv.2.mono (by omega)⟩
        case I2 =>
          rintro σ H20 ⟨w1, w4, w3, x, y, rfl, e20, hw, bx, by'⟩
          (repeat kas_types)
          refine w_spP (35, m, m2) (by k_clsL) ⟨by show 35 ≤ 60000000; decide, hb, hb2⟩ fun u6 H21 e21 hu6 => ?_
          (repeat kas_types)
          refine w_take (by show _ = _; k_offL) (by decide) (by unfold Bd; decide) fun r4 H22 e22 r40 r41 => ?_
          refine w_ixany (by lcg_off) (by k_subL) r40 (by exact r41) fun d v9 hm hv => ?_
          obtain ⟨far, rfl, f0, f1⟩ : ∃ far : Int, d = .int far ∧ 0 < far ∧ far ≤ 61 := by
            simp only [List.mem_cons, List.not_mem_nil, or_false] at hm
            rcases hm with rfl | rfl
            · exact ⟨_, rfl, by decide, by decide⟩
            · exact ⟨_, rfl, by decide, by decide⟩
          rw [qint_inv hv]
          (repeat kas_types)
          refine w_take (by show _ = _; k_offL) f0 (show Bd 64 far by unfold Bd; omega).up7900 fun r5 H23 e23 r50 r51 => ?_
          obtain ⟨z, rfl⟩ := Int.eq_ofNat_of_zero_le r50
          (repeat kas_types)
          refine w_spP (35, m, m2) (by k_clsL) ⟨by show 35 ≤ 60000000; decide, hb, hb2⟩ fun u7 H24 e24 hu7 => ?_
          (repeat kas_types)
          refine w_spP (35, m, m2) (by k_clsL) ⟨by show 35 ≤ 60000000; decide, hb, hb2⟩ fun u8 H25 e25 hu8 => ?_
          (repeat kas_types)
          refine w_spPb (b := true) (.list [(m.mul m2).D, (m.mul m2).D]) (by k_clsL) rfl rfl fun H26 e26 => ?_
          (repeat kas_types)
          refine w_spP (35, m, z) (by k_clsL) ⟨by show 35 ≤ 100000; decide, hb, by show z ≤ 100; omega⟩ fun u9 H27 e27 hu9 => ?_
          (repeat kas_types)
          refine w_spP (35, m, z) (by k_clsL) ⟨by show 35 ≤ 100000; decide, hb, by show z ≤ 100; omega⟩ fun u10 H28 e28 hu10 => ?_
          (repeat kas_types)
          refine w_spP (35, m, z) (by k_clsL) ⟨by show 35 ≤ 100000; decide, hb, by show z ≤ 100; omega⟩ fun u11 H29 e29 hu11 => ?_
          (repeat kas_types)
          refine w_spPb (b := true) (.list [(m.pw z).D, (m.pw z).D]) (by k_clsL) rfl rfl fun H30 e30 => ?_
          exact k _ _ _ (by lcg_sub) rfl (.bl true)
    · (repeat kas_types)
      refine w_spPb (b := true) m.D (by k_clsL) (by rw [isTab_D]) trivial fun H4 e4 => ?_
      (repeat kas_types)
      refine w_spPb (b := true) m.D (by k_clsL) (by rw [isTab_D]) trivial fun H5 e5 => ?_
      (repeat kas_types)
      refine w_spPb (b := m.grows) (35, m.D) (by k_clsL) rfl ⟨by show 35 ≤ 60000000; decide, fun m' e => by rw [← D_inj e]; exact hb⟩ fun H6 e6 => ?_
      (repeat kas_types)
      refine w_spPb (b := m.grows) (35, m.D) (by k_clsL) rfl ⟨by show 35 ≤ 60000000; decide, fun m' e => by rw [← D_inj e]; exact hb⟩ fun H7 e7 => ?_
      (repeat kas_types)
      refine w_spPb (b := true) (.list [.bool true, .bool true, .bool m.grows, .bool m.grows]) (by k_clsL) rfl rfl fun H8 e8 => ?_
      (repeat kas_types)
      refine w_spP (35, m) (by k_clsL) ⟨by show 35 ≤ 60000000; decide, hb⟩ fun vd H9 e9 hvd => ?_
      rw [qint_inv hvd]
      (repeat kas_types)
      refine w_spP (35, m) (by k_clsL) ⟨by show 35 ≤ 60000000; decide, hb⟩ fun vd H9 e9 hvd => ?_
      rw [qint_inv hvd]
      (repeat kas_types)
      refine w_spP m (by k_clsL) trivial fun vd H9 e9 hvd => ?_
      rw [qint_inv hvd]
      (repeat kas_types)
      refine w_spP m (by k_clsL) trivial fun vd H9 e9 hvd => ?_
      rw [qint_inv hvd]
      (repeat kas_types)
      refine w_spP (35, m) (by k_clsL) ⟨by show 35 ≤ 60000000; decide, hb⟩ fun vd H9 e9 hvd => ?_
      rw [qint_inv hvd]
      (repeat kas_types)
      refine w_catQ (ds := [.int m.det, .int m.det]) (es := [.int (m.a + m.d), .int (m.a + m.d)]) (by k_offL) (by k_offL) (by k_subL) (by k_subL) (Nat.le_of_ble_eq_true rfl) fun p H10 e10 hp hall _ => ?_
      (repeat kas_types)
      refine w_spPb (b := true) (.list [.int m.det, .int m.det, .int m.tr, .int m.tr]) (by k_clsL) rfl rfl fun H11 e11 => ?_
      (repeat kas_types)
      refine w_take (by show _ = _; k_offL) (by decide) (by unfold Bd; decide) fun r1 H12 e12 r10 r11 => ?_
      (repeat kas_types)
      refine w_take (by show _ = _; k_offL) (by decide) (by unfold Bd; decide) fun r2 H13 e13 r20 r21 => ?_
      (repeat kas_types)
      refine w_spK () (by show _ = _; k_offL) .nil trivial fun d2 u2 H14 e14 ⟨m2, hd2, hb2⟩ hu2 => ?_
      subst hd2
      have bx : Bd 5 (r1 - 9) := bd_of (by omega) (by omega)
      have by' : Bd 5 (r2 - 9) := bd_of (by omega) (by omega)
      generalize r1 - 9 = x at *
      generalize r2 - 9 = y at *
      (repeat kas_types)
      refine w_spP (35, m, x, y) (by k_clsL) ⟨by show 35 ≤ 60000000; decide, hb, bx.mono (by show 5 ≤ 35; decide), by'.mono (by show 5 ≤ 35; decide)⟩ fun u3 H15 e15 hu3 => ?_
      (repeat kas_types)
      refine w_spP (35, m, x, y) (by k_clsL) ⟨by show 35 ≤ 60000000; decide, hb, bx.mono (by show 5 ≤ 35; decide), by'.mono (by show 5 ≤ 35; decide)⟩ fun u4 H16 e16 hu4 => ?_
      (repeat kas_types)
      refine w_spP (35, m, x, y) (by k_clsL) ⟨by show 35 ≤ 60000000; decide, hb, bx.mono (by show 5 ≤ 35; decide), by'.mono (by show 5 ≤ 35; decide)⟩ fun u5 H17 e17 hu5 => ?_
      (repeat kas_types)
      refine w_spPb (b := true) (.list [pr (m.a * x + m.b * y) (m.c * x + m.d * y), pr (m.a * x + m.b * y) (m.c * x + m.d * y)]) (by k_clsL) rfl rfl fun H18 e18 => ?_
      (repeat kas_types)
      refine w_take (by show _ = _; k_offL) (by decide) (by unfold Bd; decide) fun r3 H19 e19 r30 r31 => ?_
      (repeat kas_types)
      refine ⟨_, rfl, by omega, by omega, ?_⟩
      have hmv := hb.mulv bx by'
      have hu3' : Dq K H15 u3 (pr (m.a * x + m.b * y) (m.c * x + m.d * y)) := hu3
      refine w_forg (fun i σ H' => ∃ (w1 w4 : V) (w3 : Option V) (x y : Int), σ = [some (.ref a), some v, some w1, some (.int (m.a + m.d)), w3, some w4, some u2, none] ∧ Ex H19 H' ∧ Dq K H' w1 (pr x y) ∧ Bd (41 + 36 * i) x ∧ Bd (41 + 36 * i) y) ?I0 ?I1 ?I2
      case I0 => exact ⟨_, _, _, _, _, rfl, by lcg_sub, by keq_rows, hmv.1, hmv.2⟩
      case I1 =>
        rintro i σ H20 hi ⟨w1, w4, w3, x, y, rfl, e20, hw, bx, by'⟩
        have hi : i < 9 := by omega
        (repeat kas_types)
        refine w_spP (400, m, x, y) (by k_clsL) ⟨by show 400 ≤ 60000000; decide, hb.mono (by show 35 ≤ 400; decide), bx.mono (by show _ ≤ 400; omega), by'.mono (by show _ ≤ 400; omega)⟩ fun u6 H21 e21 hu6 => ?_
        (repeat kas_types)
        refine w_spP (400, m, x, y) (by k_clsL) ⟨by show 400 ≤ 60000000; decide, hb.mono (by show 35 ≤ 400; decide), bx.mono (by show _ ≤ 400; omega), by'.mono (by show _ ≤ 400; omega)⟩ fun u7 H22 e22 hu7 => ?_
        (repeat kas_types)
        refine w_spPb (b := true) (pr (m.a * x + m.b * y) (m.c * x + m.d * y)) (by k_clsL) rfl rfl fun H23 e23 => ?_
        (repeat kas_types)
        have hmv := hb.mulv bx by'
        exact ⟨_, _, _, _, _, rfl, by lcg_sub, by keq_rows, hmv.1.mono (by omega), hmv.2.mono (by omega)⟩
      case I2 =>
        rintro σ H20 ⟨w1, w4, w3, x, y, rfl, e20, hw, bx, by'⟩
        (repeat kas_types)
        refine w_spP (35, m, m2) (by k_clsL) ⟨by show 35 ≤ 60000000; decide, hb, hb2⟩ fun u6 H21 e21 hu6 => ?_
        (repeat kas_types)
        refine w_take (by show _ = _; k_offL) (by decide) (by unfold Bd; decide) fun r4 H22 e22 r40 r41 => ?_
        refine w_ixany (by lcg_off) (by k_subL) r40 (by exact r41) fun d v9 hm hv => ?_
        obtain ⟨far, rfl, f0, f1⟩ : ∃ far : Int, d = .int far ∧ 0 < far ∧ far ≤ 61 := by
          simp only [List.mem_cons, List.not_mem_nil, or_false] at hm
          rcases hm with rfl | rfl
          · exact ⟨_, rfl, by decide, by decide⟩
          · exact ⟨_, rfl, by decide, by decide⟩
        rw [qint_inv hv]
        (repeat kas_types)
        refine w_take (by show _ = _; k_offL) f0 (show Bd 64 far by unfold Bd; omega).up7900 fun r5 H23 e23 r50 r51 => ?_
        obtain ⟨z, rfl⟩ := Int.eq_ofNat_of_zero_le r50
        (repeat kas_types)
        refine w_spP (35, m, m2) (by k_clsL) ⟨by show 35 ≤ 60000000; decide, hb, hb2⟩ fun u7 H24 e24 hu7 => ?_
        (repeat kas_types)
        refine w_spP (35, m, m2) (by k_clsL) ⟨by show 35 ≤ 60000000; decide, hb, hb2⟩ fun u8 H25 e25 hu8 => ?_
        (repeat kas_types)
        refine w_spPb (b := true) (.list [(m.mul m2).D, (m.mul m2).D]) (by k_clsL) rfl rfl fun H26 e26 => ?_
        (repeat kas_types)
        refine w_spP (35, m, z) (by k_clsL) ⟨by show 35 ≤ 100000; decide, hb, by show z ≤ 100; omega⟩ fun u9 H27 e27 hu9 => ?_
        (repeat kas_types)
        refine w_spP (35, m, z) (by k_clsL) ⟨by show 35 ≤ 100000; decide, hb, by show z ≤ 100; omega⟩ fun u10 H28 e28 hu10 => ?_
        (repeat kas_types)
        refine w_spP (35, m, z) (by k_clsL) ⟨by show 35 ≤ 100000; decide, hb, by show z ≤ 100; omega⟩ fun u11 H29 e29 hu11 => ?_
        (repeat kas_types)
        refine w_spPb (b := true) (.list [(m.pw z).D, (m.pw z).D]) (by k_clsL) rfl rfl fun H30 e30 => ?_
        exact k _ _ _ (by lcg_sub) rfl (.bl true)

end

set_option maxHeartbeats 1000000
open PySem PySem.Spec PyProof.Rows L2
open Evl (Ex ex_l ex_t)
section
variable {P : Program} {w : World} {K : PySem.W.Frag} {mg : Str → Option Value} {base : Heap} {f : Addr} {fd : FuncData}
abbrev sp_law_grown_right (K : PySem.W.Frag) : Sp := spK K (fun m : M4 => [m.D]) (fun m => Bm 2 m ∧ m.grows = true ∧ Bd 4 m.det) (fun _ => yes)
def Spot.nx (p : Spot) (m : M4) : Spot :=
  ⟨(low (m.d * (p.x * p.yb) - m.b * (p.y * p.xb)) (p.xb * p.yb * m.det)).1, (low (m.d * (p.x * p.yb) - m.b * (p.y * p.xb)) (p.xb * p.yb * m.det)).2,
   (low (m.a * (p.y * p.xb) - m.c * (p.x * p.yb)) (p.xb * p.yb * m.det)).1, (low (m.a * (p.y * p.xb) - m.c * (p.x * p.yb)) (p.xb * p.yb * m.det)).2⟩
theorem Spot.nx_D (p : Spot) (m : M4) : (p.nx m).D = p.und m := rfl
theorem Spot.nx_ok {p : Spot} {m : M4} (hg : m.grows = true) (ho : p.ok = true) : (p.nx m).ok = true := by
  have hne := bot_ne hg ho
  unfold Spot.ok Spot.nx
  rw [Bool.and_eq_true]
  exact ⟨low_num hne, low_num hne⟩
theorem Spot.nx_bd {p : Spot} {m : M4} {n : Nat} (hg : m.grows = true) (ho : p.ok = true) (hm : Bm 2 m) (hd : Bd 4 m.det) (hb : Bs n p) : Bs (2 * n + 4) (p.nx m) := by
  have hne := bot_ne hg ho
  obtain ⟨h1, h2, h3, h4⟩ := hm
  obtain ⟨g1, g2, g3, g4⟩ := hb
  have q1 := low_bd (n := 2 * n + 4) (t := m.d * (p.x * p.yb) - m.b * (p.y * p.xb)) hne (((h4.mul (g1.mul g4)).sub ((h2.mul (g3.mul g2)).mono (by omega))).mono (by omega)) (((g2.mul g4).mul hd).mono (by omega))
  have q2 := low_bd (n := 2 * n + 4) (t := m.a * (p.y * p.xb) - m.c * (p.x * p.yb)) hne (((h1.mul (g3.mul g2)).sub ((h3.mul (g1.mul g4)).mono (by omega))).mono (by omega)) (((g2.mul g4).mul hd).mono (by omega))
  exact ⟨q1.1, q1.2, q2.1, q2.2⟩
theorem Bs.mono {p : Spot} {n j : Nat} (h : Bs n p) (l : n ≤ j) : Bs j p := ⟨h.1.mono l, h.2.1.mono l, h.2.2.1.mono l, h.2.2.2.mono l⟩
theorem two {α : Type} {ns : List α} (h : ns.length = 2) : ∃ a b, ns = [a, b] := by
  match ns, h with
  | [a, b], _ => exact ⟨a, b, rfl⟩
theorem axF_flat (m : M4) : ∀ f j, sdS 5 (axF m f j) = true
  | 0, _ => rfl
  | f + 1, j => by
    rw [axF]
    split
    · rfl
    · exact axF_flat m f (j + 1)
theorem sd_list3 {d1 d2 d3 : PyData} (h1 : sdS 5 d1 = true) (h2 : sdS 5 d2 = true) (h3 : sdS 5 d3 = true) : sdS 6 (.list [d1, d2, d3]) = true := by
  show (decide _ && [d1, d2, d3].all (sdS 5)) = true
  simp [h1, h2, h3]
theorem len_law_grown_right {K : PySem.W.Frag} {vs : List V} {H : Hp} {Q : VK} {E : XK} (h : sp_law_grown_right K vs H Q E) : vs.length = 2 := by
  first | exact len1 (n := 2) (fun _ => rfl) h | exact len2 (n := 2) (fun _ => rfl) h | exact len3 (n := 2) (fun _ => rfl) h | exact len4 (n := 2) (fun _ => rfl) h
theorem ok_law_grown_right (F : Fun K "_law_grown_right" "_law_grown_right" s_law_grown_right f fd) (M : Bu mg) (c_law_axes : Cal P w K mg base 4 "_law_axes" ["grid"] (sp_law_axes K)) (c_law_power : Cal P w K mg base 3 "_law_power" ["grid", "many"] (sp_law_power K)) (c_law_solved : Cal P w K mg base 4 "_law_solved" ["grid", "spot"] (sp_law_solved K)) (c_law_same : Cal P w K mg base 6 "_law_same" ["found", "due"] (sp_law_same 6 K)) (c_law_take : Cal P w K mg base 1 "_law_take" ["deck", "many"] (sp_law_take K)) (c_law_pair : Cal P w K mg base 2 "_law_pair" ["upper", "lower"] (sp_law_pair K)) (c_axes : Cal P w K mg base 8 "axes" ["table"] (sp_axes K)) (c_undone : Cal P w K mg base 8 "undone" ["table", "point"] (sp_undone K)) (c_is_growing : Cal P w K mg base 6 "is_growing" ["told"] (sp_is_growing K)) (k_axes_table : CalK P w K mg base 8 "axes" ["table"] ["table"] (fun zs => zs) (sp_axes K)) (k_undone_point_table : CalK P w K mg base 8 "undone" ["table", "point"] ["point", "table"] swap2 (sp_undone K))  : FnOk P w K mg base CX0 9 f fd ["deck", "grid"] (sp_law_grown_right K) := by
  refine F.ok sc_law_grown_right (fun vs H Q E h => ?_) (fun cdv A outer s H vs Q E hr h => ?_)
  · exact len_law_grown_right h
  · obtain ⟨m, a, vs, rfl, hk, ha, ⟨hb, hg, hdt⟩, k⟩ := h
    obtain ⟨v, rfl, hd⟩ := dqa1 ha
    clear ha
    refine ⟨_, (pss_cons (ps_set (i := 2) sc_law_grown_right.nd rfl (Or.inl rfl) (pe_callD c_law_axes hr (by decide) (pa_cons (pv 1) pa_nil)))
      (pss_cons (ps_if (pt_not (pt_val (pe_callD c_law_same hr (by decide) (pa_cons (pe_lstK K rfl (pa_cons (pe_callD c_axes hr (by decide) (pa_cons (pv 1) pa_nil)) (pa_cons (pe_callW k_axes_table hr (by decide) (pk_cons (pv 1) pk_nil)) (pa_cons (pe_callD c_is_growing hr (by decide) (pa_cons (pv 1) pa_nil)) pa_nil)))) (pa_cons (pe_lstK K rfl (pa_cons (pv 2) (pa_cons (pv 2) (pa_cons pe_bl pa_nil)))) pa_nil))))) (pss_one (ps_ret pe_bl)) pss_nil)
      (pss_cons (ps_set (i := 3) sc_law_grown_right.nd rfl (Or.inr rfl) (pe_op (op_addK K rfl) pe_int (pe_callD c_law_take hr (by decide) (pa_cons (pv 0) (pa_cons pe_int pa_nil)))))
      (pss_cons (ps_set (i := 4) sc_law_grown_right.nd rfl (Or.inl rfl) (pe_tupleK K rfl (by rfl) M.z_tuple (pe_lc (own := [("j", 7)]) (g := gName 7) rfl sc_law_grown_right.nd (pi_range1 rfl M.z_range (pa_cons pe_int pa_nil)) (blkOk_by (N := ["deck", "grid", "due", "lower", "place", "turn", "wide", "j"]) (sc := defScope s_law_grown_right) (by decide +kernel)) (fun _ _ _ _ _ => pg_name (i := 7) sc_law_grown_right.nd rfl (Or.inl rfl)) (fun _ _ _ _ _ => pts_nil) (fun _ _ _ _ _ => (pe_callD c_law_pair hr (by decide) (pa_cons (pe_op op_sub (pe_callD c_law_take hr (by decide) (pa_cons (pv 0) (pa_cons pe_int pa_nil))) pe_int) (pa_cons (pv 3) pa_nil)))))))
      (pss_cons (ps_for PassesOwn.never rfl (pi_range1 rfl M.z_range (pa_cons (pe_op (op_addK K rfl) pe_int (pe_callD c_law_take hr (by decide) (pa_cons (pv 0) (pa_cons pe_int pa_nil)))) pa_nil)) (pg_name (i := 5) sc_law_grown_right.nd rfl (Or.inl rfl)) (pss_cons (ps_set (i := 2) sc_law_grown_right.nd rfl (Or.inl rfl) (pe_callD c_law_solved hr (by decide) (pa_cons (pv 1) (pa_cons (pv 4) pa_nil))))
      (pss_cons (ps_if (pt_not (pt_val (pe_callD c_law_same hr (by decide) (pa_cons (pe_lstK K rfl (pa_cons (pe_callD c_undone hr (by decide) (pa_cons (pv 1) (pa_cons (pv 4) pa_nil))) (pa_cons (pe_callW k_undone_point_table hr (by decide) (pk_cons (pv 4) (pk_cons (pv 1) pk_nil))) pa_nil))) (pa_cons (pe_lstK K rfl (pa_cons (pv 2) (pa_cons (pv 2) pa_nil))) pa_nil))))) (pss_one (ps_ret pe_bl)) pss_nil)
      (pss_one (ps_set (i := 4) sc_law_grown_right.nd rfl (Or.inl rfl) (pv 2))))))
      (pss_cons (ps_set (i := 6) sc_law_grown_right.nd rfl (Or.inl rfl) (pe_callD c_law_power hr (by decide) (pa_cons (pv 1) (pa_cons (pe_op (op_addK K rfl) pe_int (pe_callD c_law_take hr (by decide) (pa_cons (pv 0) (pa_cons pe_int pa_nil)))) pa_nil))))
      (pss_cons (ps_set (i := 2) sc_law_grown_right.nd rfl (Or.inl rfl) (pe_callD c_law_solved hr (by decide) (pa_cons (pv 6) (pa_cons (pv 4) pa_nil))))
      (pss_one (ps_ret (pe_callD c_law_same hr (by decide) (pa_cons (pe_lstK K rfl (pa_cons (pe_callD c_axes hr (by decide) (pa_cons (pv 6) pa_nil)) (pa_cons (pe_callD c_undone hr (by decide) (pa_cons (pv 6) (pa_cons (pv 4) pa_nil))) (pa_cons (pe_callD c_is_growing hr (by decide) (pa_cons (pv 6) pa_nil)) pa_nil)))) (pa_cons (pe_lstK K rfl (pa_cons (pe_callD c_law_axes hr (by decide) (pa_cons (pv 6) pa_nil)) (pa_cons (pv 2) (pa_cons pe_bl pa_nil)))) pa_nil)))))))))))), ?_⟩
    try simp only [cxK, cxK2]
    refine w_st (σ' := [some (.ref a), some v, none, none, none, none, none, none]) rfl ?_
    have hk0 : H a = some (DeckO a) := hk
    (repeat kas_types)
    refine w_spP (2, m) (by k_clsL) ⟨by show 2 ≤ 100000; decide, hb⟩ fun u1 H1 e1 hu1 => ?_
    (repeat kas_types)
    refine w_spF (2, m) (by k_subL) ⟨by show 2 ≤ 100000; decide, hb, hg⟩ fun u2 H2 e2 hu2 => ?_
    (repeat kas_types)
    refine w_spF (2, m) (by k_subL) ⟨by show 2 ≤ 100000; decide, hb, hg⟩ fun u3 H3 e3 hu3 => ?_
    (repeat kas_types)
    refine w_spPb (b := true) (2, m.D) (by k_clsL) (by show PyData.bool m.grows = _; rw [hg]) ⟨by show 2 ≤ 60000000; decide, fun m' e => by rw [← D_inj e]; exact hb⟩ fun H4 e4 => ?_
    (repeat kas_types)
    refine w_spPb (b := true) (.list [axF m 8 1, axF m 8 1, .bool true]) (by k_clsL) rfl (sd_list3 (axF_flat m 8 1) (axF_flat m 8 1) rfl) fun H5 e5 => ?_
    (repeat kas_types)
    refine w_take (by show _ = _; k_offL) (by decide) (by unfold Bd; decide) fun r1 H6 e6 r10 r11 => ?_
    (repeat kas_types)
    refine ⟨_, rfl, by decide, by decide, ?_⟩
    refine w_lcPairs (K := K) (p := fun z => isNum z.1 z.2 = true ∧ Bd 14 z.1 ∧ Bd 14 z.2) (by decide) (fun i H7 Qy hi e7 kq => ?_) (fun q xs ns H7 e7 hq hall hl hp => ?_)
    · (repeat kas_types)
      refine ⟨rfl, ?_⟩
      (repeat kas_types)
      refine w_take (by show _ = _; k_offL) (by decide) (by unfold Bd; decide) fun r2 H8 e8 r20 r21 => ?_
      (repeat kas_types)
      have hne : (1 + r1 : Int) ≠ 0 := by omega
      have b14 : Bd 14 (1 + r1) := bd_of (by omega) (by omega)
      have b14' : Bd 14 (r2 - 9999) := bd_of (by omega) (by omega)
      refine w_spP (r2 - 9999, 1 + r1) (by k_clsL) ⟨hne, b14.mono (by decide)⟩ fun u4 H9 e9 hu4 => ?_
      have q := low_bd (t := r2 - 9999) hne b14' b14
      exact kq (low (r2 - 9999) (1 + r1)) _ _ (by lcg_sub) ⟨low_num hne, q.1, q.2⟩ hu4
    obtain ⟨⟨x, xb⟩, ⟨y, yb⟩, rfl⟩ := two hl
    have p1 := hp (x, xb) (by simp)
    have p2 := hp (y, yb) (by simp)
    dsimp only at p1 p2
    refine w_tupOf (by lcg_off) (by k_subL) fun r H8 e8 hr8 => ?_
    have hr8 : Dq K H8 (.ref r) (Spot.D ⟨x, xb, y, yb⟩) := hr8
    (repeat kas_types)
    refine w_take (by show _ = _; k_offL) (by decide) (by unfold Bd; decide) fun r3 H9 e9 r30 r31 => ?_
    (repeat kas_types)
    refine ⟨_, rfl, by omega, by omega, ?_⟩
    refine w_forg (fun i σ H' => ∃ (w1 w2 : V) (w3 w4 w5 : Option V) (p : Spot), σ = [some (.ref a), some v, some w1, some (.int (1 + r1)), some w2, w3, w4, w5] ∧ Ex H9 H' ∧ Dq K H' w2 p.D ∧ p.ok = true ∧ Bs (18 * 2 ^ i - 4) p) ?I0 ?I1 ?I2
    case I0 => exact ⟨_, _, _, _, _, ⟨x, xb, y, yb⟩, rfl, by lcg_sub, by keq_rows, by unfold Spot.ok; rw [Bool.and_eq_true]; exact ⟨p1.1, p2.1⟩, p1.2.1, p1.2.2, p2.2.1, p2.2.2⟩
    case I1 =>
      rintro i σ H10 hi ⟨w1, w2, w3, w4, w5, p, rfl, e10, hw, ho, hbs⟩
      have hi : i < 6 := by omega
      have hpw : 2 ^ i ≤ 2 ^ 5 := Nat.pow_le_pow_right (by decide) (by omega)
      have hpw0 : 1 ≤ 2 ^ i := Nat.one_le_two_pow
      have hbs' : Bs 600 p := hbs.mono (by omega)
      (repeat kas_types)
      refine w_spP (600, m, p) (by k_clsL) ⟨by show 600 ≤ 1330; decide, by show 1 ≤ 600; decide, hb.mono (by show 2 ≤ 600; decide), hbs', M4.det_ne hg, ho⟩ fun u5 H11 e11 hu5 => ?_
      (repeat kas_types)
      refine w_spP (600, m, p) (by k_clsL) ⟨by show 600 ≤ 1900; decide, hb.mono (by show 2 ≤ 600; decide), hbs', hg, ho⟩ fun u6 H12 e12 hu6 => ?_
      (repeat kas_types)
      refine w_spP (600, m, p) (by k_clsL) ⟨by show 600 ≤ 1900; decide, hb.mono (by show 2 ≤ 600; decide), hbs', hg, ho⟩ fun u7 H13 e13 hu7 => ?_
      (repeat kas_types)
      refine w_spPb (b := true) (.list [p.und m, p.und m]) (by k_clsL) rfl rfl fun H14 e14 => ?_
      (repeat kas_types)
      have hu5' : Dq K H11 u5 (p.nx m).D := hu5
      refine ⟨_, _, _, _, _, p.nx m, rfl, by lcg_sub, by keq_rows, Spot.nx_ok hg ho, (Spot.nx_bd hg ho hb hdt hbs).mono ?_⟩
      rw [Nat.pow_succ]
      omega
    case I2 =>
      rintro σ H10 ⟨w1, w2, w3, w4, w5, p, rfl, e10, hw, ho, hbs⟩
      have hbs' : Bs 1300 p := hbs.mono (by
        have hpw : 2 ^ (1 + r3).toNat ≤ 2 ^ 6 := Nat.pow_le_pow_right (by decide) (by omega)
        omega)
      (repeat kas_types)
      refine w_take (by show _ = _; k_offL) (by decide) (by unfold Bd; decide) fun r4 H11 e11 r40 r41 => ?_
      obtain ⟨z, ez, hz⟩ : ∃ z : Nat, (2 + r4 : Int) = (z : Nat) ∧ (z = 2 ∨ z = 3) := ⟨(2 + r4).toNat, by omega, by omega⟩
      (repeat kas_types)
      rw [ez]
      have hwg : (m.pw z).grows = true := by
        have := pow_grows hg hdt
        rcases hz with rfl | rfl
        · exact this.1
        · exact this.2
      have hwb : Bm 10 (m.pw z) := (hb.pw z).mono (by omega)
      refine w_spP (2, m, z) (by k_clsL) ⟨by show 2 ≤ 100000; decide, hb, by show z ≤ 100; omega⟩ fun u5 H12 e12 hu5 => ?_
      have hu5 : Dq K H12 u5 (m.pw z).D := hu5
      generalize m.pw z = W at *
      (repeat kas_types)
      refine w_spP (1300, W, p) (by k_clsL) ⟨by show 1300 ≤ 1330; decide, by show 1 ≤ 1300; decide, hwb.mono (by show 10 ≤ 1300; decide), hbs', M4.det_ne hwg, ho⟩ fun u6 H13 e13 hu6 => ?_
      (repeat kas_types)
      refine w_spF (10, W) (by k_subL) ⟨by show 10 ≤ 100000; decide, hwb, hwg⟩ fun u7 H14 e14 hu7 => ?_
      (repeat kas_types)
      refine w_spP (1300, W, p) (by k_clsL) ⟨by show 1300 ≤ 1900; decide, hwb.mono (by show 10 ≤ 1300; decide), hbs', hwg, ho⟩ fun u8 H15 e15 hu8 => ?_
      (repeat kas_types)
      refine w_spPb (b := true) (10, W.D) (by k_clsL) (by show PyData.bool W.grows = _; rw [hwg]) ⟨by show 10 ≤ 60000000; decide, fun m' e => by rw [← D_inj e]; exact hwb⟩ fun H16 e16 => ?_
      (repeat kas_types)
      refine w_spP (10, W) (by k_clsL) ⟨by show 10 ≤ 100000; decide, hwb⟩ fun u9 H17 e17 hu9 => ?_
      (repeat kas_types)
      refine w_spPb (b := true) (.list [axF W 8 1, p.und W, .bool true]) (by k_clsL) rfl (sd_list3 (axF_flat W 8 1) rfl rfl) fun H18 e18 => ?_
      exact k _ _ _ (by lcg_sub) rfl (.bl true)

def sp_law (K : PySem.W.Frag) : Sp := fun vs H Q _ => ∃ (a : Addr) (ns : List Int), vs = [.ref a] ∧ SqL K H a (ns.map V.int) ∧ ns.length ≤ 63 ∧ ∀ H', Q (.bl true) H'
theorem eqv_D (m : M4) : PyData.eqv m.D m.D = true := by
  simp [M4.D, tb, PyData.eqv, PyData.eqvAll]
theorem len_law {K : PySem.W.Frag} {vs : List V} {H : Hp} {Q : VK} {E : XK} (h : sp_law K vs H Q E) : vs.length = 1 := by
  obtain ⟨a, ns, rfl, _⟩ := h
  rfl
theorem ok_law (F : Fun K "law" "law" s_law f fd) (M : Bu mg) (c_law_deck : Cal P w K mg base 1 "_law_deck" ["script", "at"] (sp_law_deck K)) (c_law_any : Cal P w K mg base 2 "_law_any" ["deck"] (sp_law_any K)) (c_law_bent : Cal P w K mg base 2 "_law_bent" ["deck", "grid"] (sp_law_bent K)) (c_law_same : Cal P w K mg base 6 "_law_same" ["found", "due"] (sp_law_same 6 K)) (c_law_told_right : Cal P w K mg base 7 "_law_told_right" ["deck", "grid"] (sp_law_told_right K)) (c_law_grown_right : Cal P w K mg base 9 "_law_grown_right" ["deck", "grid"] (sp_law_grown_right K)) (c_is_table : Cal P w K mg base 3 "is_table" ["told"] (sp_is_table K)) (c_is_growing : Cal P w K mg base 6 "is_growing" ["told"] (sp_is_growing K)) (c_law_grid : Cal P w K mg base 3 "_law_grid" ["deck"] (sp_law_grid K)) (c_law_growing : Cal P w K mg base 2 "_law_growing" ["grid"] (sp_law_growing K))  : FnOk P w K mg base CX0 10 f fd ["script"] (sp_law K) := by
  refine F.ok sc_law (fun vs H Q E h => ?_) (fun cdv A outer s H vs Q E hr h => ?_)
  · exact len_law h
  · obtain ⟨a, ns, rfl, hS, hl, k⟩ := h
    refine ⟨_, (pss_cons (ps_for PassesOwn.never rfl (pi_range1 rfl M.z_range (pa_cons (pe_callB (call_maxU rfl) (by rfl) M.z_max (by decide +kernel) (pa_cons pe_int (pa_cons (pe_callB (call_minU rfl) (by rfl) M.z_min (by decide +kernel) (pa_cons (pe_callB (call_lenK K rfl) (by rfl) M.z_len PySem.boot_len (pa_cons (pv 0) pa_nil)) (pa_cons pe_int pa_nil))) pa_nil))) pa_nil)) (pg_name (i := 1) sc_law.nd rfl (Or.inl rfl)) (pss_cons (ps_set (i := 2) sc_law.nd rfl (Or.inl rfl) (pe_callD c_law_deck hr (by decide) (pa_cons (pv 0) (pa_cons (pv 1) pa_nil))))
      (pss_cons (ps_set (i := 3) sc_law.nd rfl (Or.inl rfl) (pe_callD c_law_any hr (by decide) (pa_cons (pv 2) pa_nil)))
      (pss_cons (ps_set (i := 4) sc_law.nd rfl (Or.inl rfl) (pe_callD c_law_bent hr (by decide) (pa_cons (pv 2) (pa_cons (pv 3) pa_nil))))
      (pss_cons (ps_set (i := 5) sc_law.nd rfl (Or.inl rfl) (pe_cmpR (op_eqK K rfl hr.units) (pv 4) (pv 3) (nomark _)))
      (pss_cons (ps_if (pt_not (pt_val (pe_callD c_law_same hr (by decide) (pa_cons (pe_lstK K rfl (pa_cons (pe_callD c_is_table hr (by decide) (pa_cons (pv 4) pa_nil)) (pa_cons (pe_callD c_is_growing hr (by decide) (pa_cons (pv 4) pa_nil)) pa_nil))) (pa_cons (pe_lstK K rfl (pa_cons (pv 5) (pa_cons (pe_and (pv 5) (pe_one (pe_callD c_law_growing hr (by decide) (pa_cons (pv 3) pa_nil)))) pa_nil))) pa_nil))))) (pss_one (ps_ret pe_bl)) pss_nil)
      (pss_one (ps_if (PW.pt (pw_or (pt_not (pt_val (pe_callD c_law_told_right hr (by decide) (pa_cons (pv 2) (pa_cons (pv 3) pa_nil))))) (pw_or1 (pt_not (pt_val (pe_callD c_law_grown_right hr (by decide) (pa_cons (pv 2) (pa_cons (pe_callD c_law_grid hr (by decide) (pa_cons (pv 2) pa_nil)) pa_nil)))))))) (pss_one (ps_ret pe_bl)) pss_nil))))))))
      (pss_one (ps_ret pe_bl))), ?_⟩
    try simp only [cxK, cxK2]
    refine w_st (σ' := [some (.ref a), none, none, none, none, none]) rfl ?_
    (repeat kas_types)
    rw [List.length_map]
    refine ⟨_, rfl, by omega, by omega, ?_⟩
    refine w_forg (fun i σ H' => ∃ (w1 w2 w3 w4 w5 : Option V), σ = [some (.ref a), w1, w2, w3, w4, w5] ∧ Ex H H') ⟨_, _, _, _, _, rfl, by lcg_sub⟩ ?_ ?_
    · rintro i σ H1 hi ⟨w1, w2, w3, w4, w5, rfl, e1⟩
      have hi : i < 20 := by omega
      rw [show (0 + (i : Nat) : Int) = ((i : Nat) : Int) by omega]
      (repeat kas_types)
      refine ⟨a, ns, i, rfl, by lcg_off, by omega, fun p H2 e2 hk => ?_⟩
      have hk0 : H2 p = some (DeckO p) := hk
      (repeat kas_types)
      refine w_spK () (by show _ = _; k_offL) .nil trivial fun d1 u1 H3 e3 ⟨m, hd1, hb⟩ hu1 => ?_
      subst hd1
      (repeat kas_types)
      refine w_spKp m (by show _ = _; k_offL) (by k_subL) trivial fun d2 u2 H4 e4 ⟨hsh, hbe⟩ hu2 => ?_
      (repeat kas_types)
      refine w_eqD (d := d2) (e := m.D) (by keq_hits) (by keq_hits) hsh rfl ?_
      (repeat kas_types)
      have facts : PyData.eqv d2 m.D = isTab d2 ∧ (isTab d2 = true → d2 = m.D) ∧ (isTab d2 = false → isGrow d2 = false) := by
        rcases hbe with rfl | ⟨h1, h2⟩
        · rw [eqv_D, isTab_D]; exact ⟨rfl, fun _ => rfl, fun z => by cases z⟩
        · rw [h1, h2]; exact ⟨rfl, fun z => (by cases z), fun _ => grow_no h1⟩
      obtain ⟨f1, f2, f3⟩ := facts
      rw [f1]
      cases et : isTab d2 with
      | false =>
        have eg := f3 et
        refine w_spPb (b := false) d2 (by k_clsL) (by rw [et]) trivial fun H5 e5 => ?_
        (repeat kas_types)
        refine w_spPb (b := false) (35, d2) (by k_clsL) (by show PyData.bool (isGrow d2) = _; rw [eg]) ⟨by show 35 ≤ 60000000; decide, fun m' e => ?_⟩ fun H6 e6 => ?_
        · have e' : d2 = m'.D := e
          rw [e', isTab_D] at et
          cases et
        (repeat kas_types)
        refine w_spPb (b := true) (.list [.bool false, .bool false]) (by k_clsL) rfl rfl fun H7 e7 => ?_
        (repeat kas_types)
        refine w_spK m (by show _ = _; k_offL) (by k_subL) hb fun d3 u3 H8 e8 hy3 hu3 => ?_
        have hy3 : d3 = .bool true := hy3
        subst hy3
        rw [qbl_inv hu3]
        (repeat kas_types)
        refine w_spK () (by show _ = _; k_offL) .nil trivial fun d4 u4 H9 e9 ⟨g, hd4, hg1, hg2, hg3⟩ hu4 => ?_
        subst hd4
        (repeat kas_types)
        refine w_spK g (by show _ = _; k_offL) (by k_subL) ⟨hg1, hg2, hg3⟩ fun d5 u5 H10 e10 hy5 hu5 => ?_
        have hy5 : d5 = .bool true := hy5
        subst hy5
        rw [qbl_inv hu5]
        (repeat kas_types)
        exact ⟨_, _, _, _, _, rfl, by lcg_sub⟩
      | true =>
        have ed := f2 et
        subst ed
        refine w_spPb (b := true) m.D (by k_clsL) (by rw [et]) trivial fun H5 e5 => ?_
        (repeat kas_types)
        refine w_spPb (b := m.grows) (35, m.D) (by k_clsL) rfl ⟨by show 35 ≤ 60000000; decide, fun m' e => by rw [← D_inj e]; exact hb⟩ fun H6 e6 => ?_
        (repeat kas_types)
        refine w_spPb (b := m.grows) (35, m) (by k_clsL) rfl ⟨by show 35 ≤ 60000000; decide, hb⟩ fun H7 e7 => ?_
        (repeat kas_types)
        refine w_spPb (b := true) (.list [.bool true, .bool m.grows]) (by k_clsL) rfl rfl fun H7 e7 => ?_
        (repeat kas_types)
        refine w_spK m (by show _ = _; k_offL) (by k_subL) hb fun d3 u3 H8 e8 hy3 hu3 => ?_
        have hy3 : d3 = .bool true := hy3
        subst hy3
        rw [qbl_inv hu3]
        (repeat kas_types)
        refine w_spK () (by show _ = _; k_offL) .nil trivial fun d4 u4 H9 e9 ⟨g, hd4, hg1, hg2, hg3⟩ hu4 => ?_
        subst hd4
        (repeat kas_types)
        refine w_spK g (by show _ = _; k_offL) (by k_subL) ⟨hg1, hg2, hg3⟩ fun d5 u5 H10 e10 hy5 hu5 => ?_
        have hy5 : d5 = .bool true := hy5
        subst hy5
        rw [qbl_inv hu5]
        (repeat kas_types)
        exact ⟨_, _, _, _, _, rfl, by lcg_sub⟩
    · rintro σ H1 ⟨w1, w2, w3, w4, w5, rfl, e1⟩
      (repeat kas_types)
      exact k _

end

set_option maxHeartbeats 4000000
open PySem PySem.Spec PyProof.Rows L2
theorem all_mk {l : PySem.W.OpenLaw} {w : World} {K : PySem.W.Frag} {h : Heap} {mg : Str → Option Value} {fa : Addr} (X : K.In h) (G : h.Ns mainGlobals mg) (hfa : mg "law" = some (.ref fa))
    {f_is_integer : Addr} {od_is_integer an_is_integer : Option Addr} {sl_is_integer : Array (Option Value)} {oc_is_integer kV_is_integer dc_is_integer pm_is_integer cd_is_integer ct_is_integer : Value}
    (a_is_integer : PySem.W.nsIn K mainGlobals "is_integer" = some (some (.ref f_is_integer))) (l_is_integer : K.lookup f_is_integer = some ⟨oc_is_integer, od_is_integer, .func (PySem.W.fnOf "is_integer" "is_integer" (defArgs s_is_integer) (defBody s_is_integer) (defScope s_is_integer) .none kV_is_integer dc_is_integer pm_is_integer an_is_integer cd_is_integer ct_is_integer), sl_is_integer⟩) (c_is_integer : PySem.W.codeIn K cd_is_integer "is_integer" = true) (k_is_integer : PySem.W.keepIn K (.ref f_is_integer) = true)
    {f_is_pair : Addr} {od_is_pair an_is_pair : Option Addr} {sl_is_pair : Array (Option Value)} {oc_is_pair kV_is_pair dc_is_pair pm_is_pair cd_is_pair ct_is_pair : Value}
    (a_is_pair : PySem.W.nsIn K mainGlobals "is_pair" = some (some (.ref f_is_pair))) (l_is_pair : K.lookup f_is_pair = some ⟨oc_is_pair, od_is_pair, .func (PySem.W.fnOf "is_pair" "is_pair" (defArgs s_is_pair) (defBody s_is_pair) (defScope s_is_pair) .none kV_is_pair dc_is_pair pm_is_pair an_is_pair cd_is_pair ct_is_pair), sl_is_pair⟩) (c_is_pair : PySem.W.codeIn K cd_is_pair "is_pair" = true) (k_is_pair : PySem.W.keepIn K (.ref f_is_pair) = true)
    {f_lowest : Addr} {od_lowest an_lowest : Option Addr} {sl_lowest : Array (Option Value)} {oc_lowest kV_lowest dc_lowest pm_lowest cd_lowest ct_lowest : Value}
    (a_lowest : PySem.W.nsIn K mainGlobals "lowest" = some (some (.ref f_lowest))) (l_lowest : K.lookup f_lowest = some ⟨oc_lowest, od_lowest, .func (PySem.W.fnOf "lowest" "lowest" (defArgs s_lowest) (defBody s_lowest) (defScope s_lowest) .none kV_lowest dc_lowest pm_lowest an_lowest cd_lowest ct_lowest), sl_lowest⟩) (c_lowest : PySem.W.codeIn K cd_lowest "lowest" = true) (k_lowest : PySem.W.keepIn K (.ref f_lowest) = true)
    {f_law_deck : Addr} {od_law_deck an_law_deck : Option Addr} {sl_law_deck : Array (Option Value)} {oc_law_deck kV_law_deck dc_law_deck pm_law_deck cd_law_deck ct_law_deck : Value}
    (a_law_deck : PySem.W.nsIn K mainGlobals "_law_deck" = some (some (.ref f_law_deck))) (l_law_deck : K.lookup f_law_deck = some ⟨oc_law_deck, od_law_deck, .func (PySem.W.fnOf "_law_deck" "_law_deck" (defArgs s_law_deck) (defBody s_law_deck) (defScope s_law_deck) .none kV_law_deck dc_law_deck pm_law_deck an_law_deck cd_law_deck ct_law_deck), sl_law_deck⟩) (c_law_deck : PySem.W.codeIn K cd_law_deck "_law_deck" = true) (k_law_deck : PySem.W.keepIn K (.ref f_law_deck) = true)
    {f_law_take : Addr} {od_law_take an_law_take : Option Addr} {sl_law_take : Array (Option Value)} {oc_law_take kV_law_take dc_law_take pm_law_take cd_law_take ct_law_take : Value}
    (a_law_take : PySem.W.nsIn K mainGlobals "_law_take" = some (some (.ref f_law_take))) (l_law_take : K.lookup f_law_take = some ⟨oc_law_take, od_law_take, .func (PySem.W.fnOf "_law_take" "_law_take" (defArgs s_law_take) (defBody s_law_take) (defScope s_law_take) .none kV_law_take dc_law_take pm_law_take an_law_take cd_law_take ct_law_take), sl_law_take⟩) (c_law_take : PySem.W.codeIn K cd_law_take "_law_take" = true) (k_law_take : PySem.W.keepIn K (.ref f_law_take) = true)
    {f_law_gcd : Addr} {od_law_gcd an_law_gcd : Option Addr} {sl_law_gcd : Array (Option Value)} {oc_law_gcd kV_law_gcd dc_law_gcd pm_law_gcd cd_law_gcd ct_law_gcd : Value}
    (a_law_gcd : PySem.W.nsIn K mainGlobals "_law_gcd" = some (some (.ref f_law_gcd))) (l_law_gcd : K.lookup f_law_gcd = some ⟨oc_law_gcd, od_law_gcd, .func (PySem.W.fnOf "_law_gcd" "_law_gcd" (defArgs s_law_gcd) (defBody s_law_gcd) (defScope s_law_gcd) .none kV_law_gcd dc_law_gcd pm_law_gcd an_law_gcd cd_law_gcd ct_law_gcd), sl_law_gcd⟩) (c_law_gcd : PySem.W.codeIn K cd_law_gcd "_law_gcd" = true) (k_law_gcd : PySem.W.keepIn K (.ref f_law_gcd) = true)
    {f_law_det : Addr} {od_law_det an_law_det : Option Addr} {sl_law_det : Array (Option Value)} {oc_law_det kV_law_det dc_law_det pm_law_det cd_law_det ct_law_det : Value}
    (a_law_det : PySem.W.nsIn K mainGlobals "_law_det" = some (some (.ref f_law_det))) (l_law_det : K.lookup f_law_det = some ⟨oc_law_det, od_law_det, .func (PySem.W.fnOf "_law_det" "_law_det" (defArgs s_law_det) (defBody s_law_det) (defScope s_law_det) .none kV_law_det dc_law_det pm_law_det an_law_det cd_law_det ct_law_det), sl_law_det⟩) (c_law_det : PySem.W.codeIn K cd_law_det "_law_det" = true) (k_law_det : PySem.W.keepIn K (.ref f_law_det) = true)
    {f_law_ahead : Addr} {od_law_ahead an_law_ahead : Option Addr} {sl_law_ahead : Array (Option Value)} {oc_law_ahead kV_law_ahead dc_law_ahead pm_law_ahead cd_law_ahead ct_law_ahead : Value}
    (a_law_ahead : PySem.W.nsIn K mainGlobals "_law_ahead" = some (some (.ref f_law_ahead))) (l_law_ahead : K.lookup f_law_ahead = some ⟨oc_law_ahead, od_law_ahead, .func (PySem.W.fnOf "_law_ahead" "_law_ahead" (defArgs s_law_ahead) (defBody s_law_ahead) (defScope s_law_ahead) .none kV_law_ahead dc_law_ahead pm_law_ahead an_law_ahead cd_law_ahead ct_law_ahead), sl_law_ahead⟩) (c_law_ahead : PySem.W.codeIn K cd_law_ahead "_law_ahead" = true) (k_law_ahead : PySem.W.keepIn K (.ref f_law_ahead) = true)
    {f_is_offset : Addr} {od_is_offset an_is_offset : Option Addr} {sl_is_offset : Array (Option Value)} {oc_is_offset kV_is_offset dc_is_offset pm_is_offset cd_is_offset ct_is_offset : Value}
    (a_is_offset : PySem.W.nsIn K mainGlobals "is_offset" = some (some (.ref f_is_offset))) (l_is_offset : K.lookup f_is_offset = some ⟨oc_is_offset, od_is_offset, .func (PySem.W.fnOf "is_offset" "is_offset" (defArgs s_is_offset) (defBody s_is_offset) (defScope s_is_offset) .none kV_is_offset dc_is_offset pm_is_offset an_is_offset cd_is_offset ct_is_offset), sl_is_offset⟩) (c_is_offset : PySem.W.codeIn K cd_is_offset "is_offset" = true) (k_is_offset : PySem.W.keepIn K (.ref f_is_offset) = true)
    {f_law_pair : Addr} {od_law_pair an_law_pair : Option Addr} {sl_law_pair : Array (Option Value)} {oc_law_pair kV_law_pair dc_law_pair pm_law_pair cd_law_pair ct_law_pair : Value}
    (a_law_pair : PySem.W.nsIn K mainGlobals "_law_pair" = some (some (.ref f_law_pair))) (l_law_pair : K.lookup f_law_pair = some ⟨oc_law_pair, od_law_pair, .func (PySem.W.fnOf "_law_pair" "_law_pair" (defArgs s_law_pair) (defBody s_law_pair) (defScope s_law_pair) .none kV_law_pair dc_law_pair pm_law_pair an_law_pair cd_law_pair ct_law_pair), sl_law_pair⟩) (c_law_pair : PySem.W.codeIn K cd_law_pair "_law_pair" = true) (k_law_pair : PySem.W.keepIn K (.ref f_law_pair) = true)
    {f_law_growing : Addr} {od_law_growing an_law_growing : Option Addr} {sl_law_growing : Array (Option Value)} {oc_law_growing kV_law_growing dc_law_growing pm_law_growing cd_law_growing ct_law_growing : Value}
    (a_law_growing : PySem.W.nsIn K mainGlobals "_law_growing" = some (some (.ref f_law_growing))) (l_law_growing : K.lookup f_law_growing = some ⟨oc_law_growing, od_law_growing, .func (PySem.W.fnOf "_law_growing" "_law_growing" (defArgs s_law_growing) (defBody s_law_growing) (defScope s_law_growing) .none kV_law_growing dc_law_growing pm_law_growing an_law_growing cd_law_growing ct_law_growing), sl_law_growing⟩) (c_law_growing : PySem.W.codeIn K cd_law_growing "_law_growing" = true) (k_law_growing : PySem.W.keepIn K (.ref f_law_growing) = true)
    {f_law_any : Addr} {od_law_any an_law_any : Option Addr} {sl_law_any : Array (Option Value)} {oc_law_any kV_law_any dc_law_any pm_law_any cd_law_any ct_law_any : Value}
    (a_law_any : PySem.W.nsIn K mainGlobals "_law_any" = some (some (.ref f_law_any))) (l_law_any : K.lookup f_law_any = some ⟨oc_law_any, od_law_any, .func (PySem.W.fnOf "_law_any" "_law_any" (defArgs s_law_any) (defBody s_law_any) (defScope s_law_any) .none kV_law_any dc_law_any pm_law_any an_law_any cd_law_any ct_law_any), sl_law_any⟩) (c_law_any : PySem.W.codeIn K cd_law_any "_law_any" = true) (k_law_any : PySem.W.keepIn K (.ref f_law_any) = true)
    {f_law_bent : Addr} {od_law_bent an_law_bent : Option Addr} {sl_law_bent : Array (Option Value)} {oc_law_bent kV_law_bent dc_law_bent pm_law_bent cd_law_bent ct_law_bent : Value}
    (a_law_bent : PySem.W.nsIn K mainGlobals "_law_bent" = some (some (.ref f_law_bent))) (l_law_bent : K.lookup f_law_bent = some ⟨oc_law_bent, od_law_bent, .func (PySem.W.fnOf "_law_bent" "_law_bent" (defArgs s_law_bent) (defBody s_law_bent) (defScope s_law_bent) .none kV_law_bent dc_law_bent pm_law_bent an_law_bent cd_law_bent ct_law_bent), sl_law_bent⟩) (c_law_bent : PySem.W.codeIn K cd_law_bent "_law_bent" = true) (k_law_bent : PySem.W.keepIn K (.ref f_law_bent) = true)
    {f_law_product : Addr} {od_law_product an_law_product : Option Addr} {sl_law_product : Array (Option Value)} {oc_law_product kV_law_product dc_law_product pm_law_product cd_law_product ct_law_product : Value}
    (a_law_product : PySem.W.nsIn K mainGlobals "_law_product" = some (some (.ref f_law_product))) (l_law_product : K.lookup f_law_product = some ⟨oc_law_product, od_law_product, .func (PySem.W.fnOf "_law_product" "_law_product" (defArgs s_law_product) (defBody s_law_product) (defScope s_law_product) .none kV_law_product dc_law_product pm_law_product an_law_product cd_law_product ct_law_product), sl_law_product⟩) (c_law_product : PySem.W.codeIn K cd_law_product "_law_product" = true) (k_law_product : PySem.W.keepIn K (.ref f_law_product) = true)
    {f_is_number : Addr} {od_is_number an_is_number : Option Addr} {sl_is_number : Array (Option Value)} {oc_is_number kV_is_number dc_is_number pm_is_number cd_is_number ct_is_number : Value}
    (a_is_number : PySem.W.nsIn K mainGlobals "is_number" = some (some (.ref f_is_number))) (l_is_number : K.lookup f_is_number = some ⟨oc_is_number, od_is_number, .func (PySem.W.fnOf "is_number" "is_number" (defArgs s_is_number) (defBody s_is_number) (defScope s_is_number) .none kV_is_number dc_is_number pm_is_number an_is_number cd_is_number ct_is_number), sl_is_number⟩) (c_is_number : PySem.W.codeIn K cd_is_number "is_number" = true) (k_is_number : PySem.W.keepIn K (.ref f_is_number) = true)
    {f_is_table : Addr} {od_is_table an_is_table : Option Addr} {sl_is_table : Array (Option Value)} {oc_is_table kV_is_table dc_is_table pm_is_table cd_is_table ct_is_table : Value}
    (a_is_table : PySem.W.nsIn K mainGlobals "is_table" = some (some (.ref f_is_table))) (l_is_table : K.lookup f_is_table = some ⟨oc_is_table, od_is_table, .func (PySem.W.fnOf "is_table" "is_table" (defArgs s_is_table) (defBody s_is_table) (defScope s_is_table) .none kV_is_table dc_is_table pm_is_table an_is_table cd_is_table ct_is_table), sl_is_table⟩) (c_is_table : PySem.W.codeIn K cd_is_table "is_table" = true) (k_is_table : PySem.W.keepIn K (.ref f_is_table) = true)
    {f_check_offset : Addr} {od_check_offset an_check_offset : Option Addr} {sl_check_offset : Array (Option Value)} {oc_check_offset kV_check_offset dc_check_offset pm_check_offset cd_check_offset ct_check_offset : Value}
    (a_check_offset : PySem.W.nsIn K mainGlobals "check_offset" = some (some (.ref f_check_offset))) (l_check_offset : K.lookup f_check_offset = some ⟨oc_check_offset, od_check_offset, .func (PySem.W.fnOf "check_offset" "check_offset" (defArgs s_check_offset) (defBody s_check_offset) (defScope s_check_offset) .none kV_check_offset dc_check_offset pm_check_offset an_check_offset cd_check_offset ct_check_offset), sl_check_offset⟩) (c_check_offset : PySem.W.codeIn K cd_check_offset "check_offset" = true) (k_check_offset : PySem.W.keepIn K (.ref f_check_offset) = true)
    {f_law_plus : Addr} {od_law_plus an_law_plus : Option Addr} {sl_law_plus : Array (Option Value)} {oc_law_plus kV_law_plus dc_law_plus pm_law_plus cd_law_plus ct_law_plus : Value}
    (a_law_plus : PySem.W.nsIn K mainGlobals "_law_plus" = some (some (.ref f_law_plus))) (l_law_plus : K.lookup f_law_plus = some ⟨oc_law_plus, od_law_plus, .func (PySem.W.fnOf "_law_plus" "_law_plus" (defArgs s_law_plus) (defBody s_law_plus) (defScope s_law_plus) .none kV_law_plus dc_law_plus pm_law_plus an_law_plus cd_law_plus ct_law_plus), sl_law_plus⟩) (c_law_plus : PySem.W.codeIn K cd_law_plus "_law_plus" = true) (k_law_plus : PySem.W.keepIn K (.ref f_law_plus) = true)
    {f_law_times : Addr} {od_law_times an_law_times : Option Addr} {sl_law_times : Array (Option Value)} {oc_law_times kV_law_times dc_law_times pm_law_times cd_law_times ct_law_times : Value}
    (a_law_times : PySem.W.nsIn K mainGlobals "_law_times" = some (some (.ref f_law_times))) (l_law_times : K.lookup f_law_times = some ⟨oc_law_times, od_law_times, .func (PySem.W.fnOf "_law_times" "_law_times" (defArgs s_law_times) (defBody s_law_times) (defScope s_law_times) .none kV_law_times dc_law_times pm_law_times an_law_times cd_law_times ct_law_times), sl_law_times⟩) (c_law_times : PySem.W.codeIn K cd_law_times "_law_times" = true) (k_law_times : PySem.W.keepIn K (.ref f_law_times) = true)
    {f_law_grid : Addr} {od_law_grid an_law_grid : Option Addr} {sl_law_grid : Array (Option Value)} {oc_law_grid kV_law_grid dc_law_grid pm_law_grid cd_law_grid ct_law_grid : Value}
    (a_law_grid : PySem.W.nsIn K mainGlobals "_law_grid" = some (some (.ref f_law_grid))) (l_law_grid : K.lookup f_law_grid = some ⟨oc_law_grid, od_law_grid, .func (PySem.W.fnOf "_law_grid" "_law_grid" (defArgs s_law_grid) (defBody s_law_grid) (defScope s_law_grid) .none kV_law_grid dc_law_grid pm_law_grid an_law_grid cd_law_grid ct_law_grid), sl_law_grid⟩) (c_law_grid : PySem.W.codeIn K cd_law_grid "_law_grid" = true) (k_law_grid : PySem.W.keepIn K (.ref f_law_grid) = true)
    {f_law_power : Addr} {od_law_power an_law_power : Option Addr} {sl_law_power : Array (Option Value)} {oc_law_power kV_law_power dc_law_power pm_law_power cd_law_power ct_law_power : Value}
    (a_law_power : PySem.W.nsIn K mainGlobals "_law_power" = some (some (.ref f_law_power))) (l_law_power : K.lookup f_law_power = some ⟨oc_law_power, od_law_power, .func (PySem.W.fnOf "_law_power" "_law_power" (defArgs s_law_power) (defBody s_law_power) (defScope s_law_power) .none kV_law_power dc_law_power pm_law_power an_law_power cd_law_power ct_law_power), sl_law_power⟩) (c_law_power : PySem.W.codeIn K cd_law_power "_law_power" = true) (k_law_power : PySem.W.keepIn K (.ref f_law_power) = true)
    {f_is_point : Addr} {od_is_point an_is_point : Option Addr} {sl_is_point : Array (Option Value)} {oc_is_point kV_is_point dc_is_point pm_is_point cd_is_point ct_is_point : Value}
    (a_is_point : PySem.W.nsIn K mainGlobals "is_point" = some (some (.ref f_is_point))) (l_is_point : K.lookup f_is_point = some ⟨oc_is_point, od_is_point, .func (PySem.W.fnOf "is_point" "is_point" (defArgs s_is_point) (defBody s_is_point) (defScope s_is_point) .none kV_is_point dc_is_point pm_is_point an_is_point cd_is_point ct_is_point), sl_is_point⟩) (c_is_point : PySem.W.codeIn K cd_is_point "is_point" = true) (k_is_point : PySem.W.keepIn K (.ref f_is_point) = true)
    {f_check_table : Addr} {od_check_table an_check_table : Option Addr} {sl_check_table : Array (Option Value)} {oc_check_table kV_check_table dc_check_table pm_check_table cd_check_table ct_check_table : Value}
    (a_check_table : PySem.W.nsIn K mainGlobals "check_table" = some (some (.ref f_check_table))) (l_check_table : K.lookup f_check_table = some ⟨oc_check_table, od_check_table, .func (PySem.W.fnOf "check_table" "check_table" (defArgs s_check_table) (defBody s_check_table) (defScope s_check_table) .none kV_check_table dc_check_table pm_check_table an_check_table cd_check_table ct_check_table), sl_check_table⟩) (c_check_table : PySem.W.codeIn K cd_check_table "check_table" = true) (k_check_table : PySem.W.keepIn K (.ref f_check_table) = true)
    {f_law_solved : Addr} {od_law_solved an_law_solved : Option Addr} {sl_law_solved : Array (Option Value)} {oc_law_solved kV_law_solved dc_law_solved pm_law_solved cd_law_solved ct_law_solved : Value}
    (a_law_solved : PySem.W.nsIn K mainGlobals "_law_solved" = some (some (.ref f_law_solved))) (l_law_solved : K.lookup f_law_solved = some ⟨oc_law_solved, od_law_solved, .func (PySem.W.fnOf "_law_solved" "_law_solved" (defArgs s_law_solved) (defBody s_law_solved) (defScope s_law_solved) .none kV_law_solved dc_law_solved pm_law_solved an_law_solved cd_law_solved ct_law_solved), sl_law_solved⟩) (c_law_solved : PySem.W.codeIn K cd_law_solved "_law_solved" = true) (k_law_solved : PySem.W.keepIn K (.ref f_law_solved) = true)
    {f_law_shrinks : Addr} {od_law_shrinks an_law_shrinks : Option Addr} {sl_law_shrinks : Array (Option Value)} {oc_law_shrinks kV_law_shrinks dc_law_shrinks pm_law_shrinks cd_law_shrinks ct_law_shrinks : Value}
    (a_law_shrinks : PySem.W.nsIn K mainGlobals "_law_shrinks" = some (some (.ref f_law_shrinks))) (l_law_shrinks : K.lookup f_law_shrinks = some ⟨oc_law_shrinks, od_law_shrinks, .func (PySem.W.fnOf "_law_shrinks" "_law_shrinks" (defArgs s_law_shrinks) (defBody s_law_shrinks) (defScope s_law_shrinks) .none kV_law_shrinks dc_law_shrinks pm_law_shrinks an_law_shrinks cd_law_shrinks ct_law_shrinks), sl_law_shrinks⟩) (c_law_shrinks : PySem.W.codeIn K cd_law_shrinks "_law_shrinks" = true) (k_law_shrinks : PySem.W.keepIn K (.ref f_law_shrinks) = true)
    {f_law_axes : Addr} {od_law_axes an_law_axes : Option Addr} {sl_law_axes : Array (Option Value)} {oc_law_axes kV_law_axes dc_law_axes pm_law_axes cd_law_axes ct_law_axes : Value}
    (a_law_axes : PySem.W.nsIn K mainGlobals "_law_axes" = some (some (.ref f_law_axes))) (l_law_axes : K.lookup f_law_axes = some ⟨oc_law_axes, od_law_axes, .func (PySem.W.fnOf "_law_axes" "_law_axes" (defArgs s_law_axes) (defBody s_law_axes) (defScope s_law_axes) .none kV_law_axes dc_law_axes pm_law_axes an_law_axes cd_law_axes ct_law_axes), sl_law_axes⟩) (c_law_axes : PySem.W.codeIn K cd_law_axes "_law_axes" = true) (k_law_axes : PySem.W.keepIn K (.ref f_law_axes) = true)
    {f_determinant : Addr} {od_determinant an_determinant : Option Addr} {sl_determinant : Array (Option Value)} {oc_determinant kV_determinant dc_determinant pm_determinant cd_determinant ct_determinant : Value}
    (a_determinant : PySem.W.nsIn K mainGlobals "determinant" = some (some (.ref f_determinant))) (l_determinant : K.lookup f_determinant = some ⟨oc_determinant, od_determinant, .func (PySem.W.fnOf "determinant" "determinant" (defArgs s_determinant) (defBody s_determinant) (defScope s_determinant) .none kV_determinant dc_determinant pm_determinant an_determinant cd_determinant ct_determinant), sl_determinant⟩) (c_determinant : PySem.W.codeIn K cd_determinant "determinant" = true) (k_determinant : PySem.W.keepIn K (.ref f_determinant) = true)
    {f_trace : Addr} {od_trace an_trace : Option Addr} {sl_trace : Array (Option Value)} {oc_trace kV_trace dc_trace pm_trace cd_trace ct_trace : Value}
    (a_trace : PySem.W.nsIn K mainGlobals "trace" = some (some (.ref f_trace))) (l_trace : K.lookup f_trace = some ⟨oc_trace, od_trace, .func (PySem.W.fnOf "trace" "trace" (defArgs s_trace) (defBody s_trace) (defScope s_trace) .none kV_trace dc_trace pm_trace an_trace cd_trace ct_trace), sl_trace⟩) (c_trace : PySem.W.codeIn K cd_trace "trace" = true) (k_trace : PySem.W.keepIn K (.ref f_trace) = true)
    {f_times : Addr} {od_times an_times : Option Addr} {sl_times : Array (Option Value)} {oc_times kV_times dc_times pm_times cd_times ct_times : Value}
    (a_times : PySem.W.nsIn K mainGlobals "times" = some (some (.ref f_times))) (l_times : K.lookup f_times = some ⟨oc_times, od_times, .func (PySem.W.fnOf "times" "times" (defArgs s_times) (defBody s_times) (defScope s_times) .none kV_times dc_times pm_times an_times cd_times ct_times), sl_times⟩) (c_times : PySem.W.codeIn K cd_times "times" = true) (k_times : PySem.W.keepIn K (.ref f_times) = true)
    {f_product : Addr} {od_product an_product : Option Addr} {sl_product : Array (Option Value)} {oc_product kV_product dc_product pm_product cd_product ct_product : Value}
    (a_product : PySem.W.nsIn K mainGlobals "product" = some (some (.ref f_product))) (l_product : K.lookup f_product = some ⟨oc_product, od_product, .func (PySem.W.fnOf "product" "product" (defArgs s_product) (defBody s_product) (defScope s_product) .none kV_product dc_product pm_product an_product cd_product ct_product), sl_product⟩) (c_product : PySem.W.codeIn K cd_product "product" = true) (k_product : PySem.W.keepIn K (.ref f_product) = true)
    {f_is_growing : Addr} {od_is_growing an_is_growing : Option Addr} {sl_is_growing : Array (Option Value)} {oc_is_growing kV_is_growing dc_is_growing pm_is_growing cd_is_growing ct_is_growing : Value}
    (a_is_growing : PySem.W.nsIn K mainGlobals "is_growing" = some (some (.ref f_is_growing))) (l_is_growing : K.lookup f_is_growing = some ⟨oc_is_growing, od_is_growing, .func (PySem.W.fnOf "is_growing" "is_growing" (defArgs s_is_growing) (defBody s_is_growing) (defScope s_is_growing) .none kV_is_growing dc_is_growing pm_is_growing an_is_growing cd_is_growing ct_is_growing), sl_is_growing⟩) (c_is_growing : PySem.W.codeIn K cd_is_growing "is_growing" = true) (k_is_growing : PySem.W.keepIn K (.ref f_is_growing) = true)
    {f_power : Addr} {od_power an_power : Option Addr} {sl_power : Array (Option Value)} {oc_power kV_power dc_power pm_power cd_power ct_power : Value}
    (a_power : PySem.W.nsIn K mainGlobals "power" = some (some (.ref f_power))) (l_power : K.lookup f_power = some ⟨oc_power, od_power, .func (PySem.W.fnOf "power" "power" (defArgs s_power) (defBody s_power) (defScope s_power) .none kV_power dc_power pm_power an_power cd_power ct_power), sl_power⟩) (c_power : PySem.W.codeIn K cd_power "power" = true) (k_power : PySem.W.keepIn K (.ref f_power) = true)
    {f_law_same : Addr} {od_law_same an_law_same : Option Addr} {sl_law_same : Array (Option Value)} {oc_law_same kV_law_same dc_law_same pm_law_same cd_law_same ct_law_same : Value}
    (a_law_same : PySem.W.nsIn K mainGlobals "_law_same" = some (some (.ref f_law_same))) (l_law_same : K.lookup f_law_same = some ⟨oc_law_same, od_law_same, .func (PySem.W.fnOf "_law_same" "_law_same" (defArgs s_law_same) (defBody s_law_same) (defScope s_law_same) .none kV_law_same dc_law_same pm_law_same an_law_same cd_law_same ct_law_same), sl_law_same⟩) (c_law_same : PySem.W.codeIn K cd_law_same "_law_same" = true) (k_law_same : PySem.W.keepIn K (.ref f_law_same) = true)
    {f_check_growing : Addr} {od_check_growing an_check_growing : Option Addr} {sl_check_growing : Array (Option Value)} {oc_check_growing kV_check_growing dc_check_growing pm_check_growing cd_check_growing ct_check_growing : Value}
    (a_check_growing : PySem.W.nsIn K mainGlobals "check_growing" = some (some (.ref f_check_growing))) (l_check_growing : K.lookup f_check_growing = some ⟨oc_check_growing, od_check_growing, .func (PySem.W.fnOf "check_growing" "check_growing" (defArgs s_check_growing) (defBody s_check_growing) (defScope s_check_growing) .none kV_check_growing dc_check_growing pm_check_growing an_check_growing cd_check_growing ct_check_growing), sl_check_growing⟩) (c_check_growing : PySem.W.codeIn K cd_check_growing "check_growing" = true) (k_check_growing : PySem.W.keepIn K (.ref f_check_growing) = true)
    {f_law_told_right : Addr} {od_law_told_right an_law_told_right : Option Addr} {sl_law_told_right : Array (Option Value)} {oc_law_told_right kV_law_told_right dc_law_told_right pm_law_told_right cd_law_told_right ct_law_told_right : Value}
    (a_law_told_right : PySem.W.nsIn K mainGlobals "_law_told_right" = some (some (.ref f_law_told_right))) (l_law_told_right : K.lookup f_law_told_right = some ⟨oc_law_told_right, od_law_told_right, .func (PySem.W.fnOf "_law_told_right" "_law_told_right" (defArgs s_law_told_right) (defBody s_law_told_right) (defScope s_law_told_right) .none kV_law_told_right dc_law_told_right pm_law_told_right an_law_told_right cd_law_told_right ct_law_told_right), sl_law_told_right⟩) (c_law_told_right : PySem.W.codeIn K cd_law_told_right "_law_told_right" = true) (k_law_told_right : PySem.W.keepIn K (.ref f_law_told_right) = true)
    {f_undone : Addr} {od_undone an_undone : Option Addr} {sl_undone : Array (Option Value)} {oc_undone kV_undone dc_undone pm_undone cd_undone ct_undone : Value}
    (a_undone : PySem.W.nsIn K mainGlobals "undone" = some (some (.ref f_undone))) (l_undone : K.lookup f_undone = some ⟨oc_undone, od_undone, .func (PySem.W.fnOf "undone" "undone" (defArgs s_undone) (defBody s_undone) (defScope s_undone) .none kV_undone dc_undone pm_undone an_undone cd_undone ct_undone), sl_undone⟩) (c_undone : PySem.W.codeIn K cd_undone "undone" = true) (k_undone : PySem.W.keepIn K (.ref f_undone) = true)
    {f_axes : Addr} {od_axes an_axes : Option Addr} {sl_axes : Array (Option Value)} {oc_axes kV_axes dc_axes pm_axes cd_axes ct_axes : Value}
    (a_axes : PySem.W.nsIn K mainGlobals "axes" = some (some (.ref f_axes))) (l_axes : K.lookup f_axes = some ⟨oc_axes, od_axes, .func (PySem.W.fnOf "axes" "axes" (defArgs s_axes) (defBody s_axes) (defScope s_axes) .none kV_axes dc_axes pm_axes an_axes cd_axes ct_axes), sl_axes⟩) (c_axes : PySem.W.codeIn K cd_axes "axes" = true) (k_axes : PySem.W.keepIn K (.ref f_axes) = true)
    {f_law_grown_right : Addr} {od_law_grown_right an_law_grown_right : Option Addr} {sl_law_grown_right : Array (Option Value)} {oc_law_grown_right kV_law_grown_right dc_law_grown_right pm_law_grown_right cd_law_grown_right ct_law_grown_right : Value}
    (a_law_grown_right : PySem.W.nsIn K mainGlobals "_law_grown_right" = some (some (.ref f_law_grown_right))) (l_law_grown_right : K.lookup f_law_grown_right = some ⟨oc_law_grown_right, od_law_grown_right, .func (PySem.W.fnOf "_law_grown_right" "_law_grown_right" (defArgs s_law_grown_right) (defBody s_law_grown_right) (defScope s_law_grown_right) .none kV_law_grown_right dc_law_grown_right pm_law_grown_right an_law_grown_right cd_law_grown_right ct_law_grown_right), sl_law_grown_right⟩) (c_law_grown_right : PySem.W.codeIn K cd_law_grown_right "_law_grown_right" = true) (k_law_grown_right : PySem.W.keepIn K (.ref f_law_grown_right) = true)
    {f_law : Addr} {od_law an_law : Option Addr} {sl_law : Array (Option Value)} {oc_law kV_law dc_law pm_law cd_law ct_law : Value}
    (a_law : PySem.W.nsIn K mainGlobals "law" = some (some (.ref f_law))) (l_law : K.lookup f_law = some ⟨oc_law, od_law, .func (PySem.W.fnOf "law" "law" (defArgs s_law) (defBody s_law) (defScope s_law) .none kV_law dc_law pm_law an_law cd_law ct_law), sl_law⟩) (c_law : PySem.W.codeIn K cd_law "law" = true) (k_law : PySem.W.keepIn K (.ref f_law) = true)
    (z_len : PySem.W.nsIn K mainGlobals "len" = some none)
    (z_isinstance : PySem.W.nsIn K mainGlobals "isinstance" = some none)
    (z_abs : PySem.W.nsIn K mainGlobals "abs" = some none)
    (z_max : PySem.W.nsIn K mainGlobals "max" = some none)
    (z_min : PySem.W.nsIn K mainGlobals "min" = some none)
    (z_int : PySem.W.nsIn K mainGlobals "int" = some none)
    (z_bool : PySem.W.nsIn K mainGlobals "bool" = some none)
    (z_str : PySem.W.nsIn K mainGlobals "str" = some none)
    (z_tuple : PySem.W.nsIn K mainGlobals "tuple" = some none)
    (z_list : PySem.W.nsIn K mainGlobals "list" = some none)
    (z_range : PySem.W.nsIn K mainGlobals "range" = some none)
    (z_reversed : PySem.W.nsIn K mainGlobals "reversed" = some none)
    (z_gcd : PySem.W.nsIn K mainGlobals "gcd" = some (some (.builtin "math.gcd")))
    {uA uB uC : Addr} {ut1 ut2 ut3 ut4 : Tok} {un1 un2 un3 : Nat} {us1 us2 us3 : Array (Option Value)} (u_n : PySem.W.nsIn K mainGlobals "UNCHANGED" = some (some (.ref uA))) (u_a : K.lookup uA = some ⟨.type "tuple", none, .seq #[.ref uB, .ref uC] un1, us1⟩) (u_b : K.lookup uB = some ⟨.type "tuple", none, .seq #[.int 1 ut1, .int 0 ut2] un2, us2⟩) (u_c : K.lookup uC = some ⟨.type "tuple", none, .seq #[.int 0 ut3, .int 1 ut4] un3, us3⟩)
    : ∃ fd : FuncData, (∀ (s : Shared) (v : Value), BindsTo s fd ⟨[v], []⟩ [("script", v)]) ∧ ∀ base : Heap, K.In base → base.Ns mainGlobals mg → FnOk l.prog w K mg base CX0 10 fa fd ["script"] (sp_law K) := by
  have e := hfa.symm.trans (PySem.W.mg_of X G a_law)
  cases e
  have M : Bu mg := ⟨PySem.W.mg_none_of X G z_len, PySem.W.mg_none_of X G z_isinstance, PySem.W.mg_none_of X G z_abs, PySem.W.mg_none_of X G z_max, PySem.W.mg_none_of X G z_min, PySem.W.mg_none_of X G z_int, PySem.W.mg_none_of X G z_bool, PySem.W.mg_none_of X G z_str, PySem.W.mg_none_of X G z_tuple, PySem.W.mg_none_of X G z_list, PySem.W.mg_none_of X G z_range, PySem.W.mg_none_of X G z_reversed, PySem.W.mg_of X G z_gcd⟩
  have F_is_integer := fun_mk (st := s_is_integer) l_is_integer c_is_integer k_is_integer
  have F_is_pair := fun_mk (st := s_is_pair) l_is_pair c_is_pair k_is_pair
  have F_lowest := fun_mk (st := s_lowest) l_lowest c_lowest k_lowest
  have F_law_deck := fun_mk (st := s_law_deck) l_law_deck c_law_deck k_law_deck
  have F_law_take := fun_mk (st := s_law_take) l_law_take c_law_take k_law_take
  have F_law_gcd := fun_mk (st := s_law_gcd) l_law_gcd c_law_gcd k_law_gcd
  have F_law_det := fun_mk (st := s_law_det) l_law_det c_law_det k_law_det
  have F_law_ahead := fun_mk (st := s_law_ahead) l_law_ahead c_law_ahead k_law_ahead
  have F_is_offset := fun_mk (st := s_is_offset) l_is_offset c_is_offset k_is_offset
  have F_law_pair := fun_mk (st := s_law_pair) l_law_pair c_law_pair k_law_pair
  have F_law_growing := fun_mk (st := s_law_growing) l_law_growing c_law_growing k_law_growing
  have F_law_any := fun_mk (st := s_law_any) l_law_any c_law_any k_law_any
  have F_law_bent := fun_mk (st := s_law_bent) l_law_bent c_law_bent k_law_bent
  have F_law_product := fun_mk (st := s_law_product) l_law_product c_law_product k_law_product
  have F_is_number := fun_mk (st := s_is_number) l_is_number c_is_number k_is_number
  have F_is_table := fun_mk (st := s_is_table) l_is_table c_is_table k_is_table
  have F_check_offset := fun_mk (st := s_check_offset) l_check_offset c_check_offset k_check_offset
  have F_law_plus := fun_mk (st := s_law_plus) l_law_plus c_law_plus k_law_plus
  have F_law_times := fun_mk (st := s_law_times) l_law_times c_law_times k_law_times
  have F_law_grid := fun_mk (st := s_law_grid) l_law_grid c_law_grid k_law_grid
  have F_law_power := fun_mk (st := s_law_power) l_law_power c_law_power k_law_power
  have F_is_point := fun_mk (st := s_is_point) l_is_point c_is_point k_is_point
  have F_check_table := fun_mk (st := s_check_table) l_check_table c_check_table k_check_table
  have F_law_solved := fun_mk (st := s_law_solved) l_law_solved c_law_solved k_law_solved
  have F_law_shrinks := fun_mk (st := s_law_shrinks) l_law_shrinks c_law_shrinks k_law_shrinks
  have F_law_axes := fun_mk (st := s_law_axes) l_law_axes c_law_axes k_law_axes
  have F_determinant := fun_mk (st := s_determinant) l_determinant c_determinant k_determinant
  have F_trace := fun_mk (st := s_trace) l_trace c_trace k_trace
  have F_times := fun_mk (st := s_times) l_times c_times k_times
  have F_product := fun_mk (st := s_product) l_product c_product k_product
  have F_is_growing := fun_mk (st := s_is_growing) l_is_growing c_is_growing k_is_growing
  have F_power := fun_mk (st := s_power) l_power c_power k_power
  have F_law_same := fun_mk (st := s_law_same) l_law_same c_law_same k_law_same
  have F_check_growing := fun_mk (st := s_check_growing) l_check_growing c_check_growing k_check_growing
  have F_law_told_right := fun_mk (st := s_law_told_right) l_law_told_right c_law_told_right k_law_told_right
  have F_undone := fun_mk (st := s_undone) l_undone c_undone k_undone
  have F_axes := fun_mk (st := s_axes) l_axes c_axes k_axes
  have F_law_grown_right := fun_mk (st := s_law_grown_right) l_law_grown_right c_law_grown_right k_law_grown_right
  have F_law := fun_mk (st := s_law) l_law c_law k_law
  refine ⟨PySem.W.fnOf "law" "law" (defArgs s_law) (defBody s_law) (defScope s_law) .none kV_law dc_law pm_law an_law cd_law ct_law, fun s v => .of_eq rfl, fun base _ _ => ?_⟩
  have hU : ∀ H : Hp, Dq K H (.ref uA) M4.one.D := fun H => wr_two u_a (wr_pair u_b) (wr_pair u_c)
  have O_is_integer := ok_is_integer (P := l.prog) (w := w) (base := base) F_is_integer M
  have C_is_integer := cal_mk F_is_integer O_is_integer (PySem.W.mg_of X G a_is_integer) (F_is_integer.binds (ps := ["told"]) fun _ _ _ _ _ _ us hl => match us, hl with | [_], _ => rfl)
  have O_is_pair := ok_is_pair (P := l.prog) (w := w) (base := base) F_is_pair M
  have C_is_pair := cal_mk F_is_pair O_is_pair (PySem.W.mg_of X G a_is_pair) (F_is_pair.binds (ps := ["told"]) fun _ _ _ _ _ _ us hl => match us, hl with | [_], _ => rfl)
  have O_lowest := ok_lowest (P := l.prog) (w := w) (base := base) F_lowest M
  have C_lowest := cal_mk F_lowest O_lowest (PySem.W.mg_of X G a_lowest) (F_lowest.binds (ps := ["top", "bottom"]) fun _ _ _ _ _ _ us hl => match us, hl with | [_, _], _ => rfl)
  have O_law_deck := deck_of (ok_law_deck (P := l.prog) (w := w) (base := base) F_law_deck M)
  have C_law_deck := cal_mk F_law_deck O_law_deck (PySem.W.mg_of X G a_law_deck) (F_law_deck.binds (ps := ["script", "at"]) fun _ _ _ _ _ _ us hl => match us, hl with | [_, _], _ => rfl)
  have O_law_take := take_of (ok_law_take (P := l.prog) (w := w) (base := base) F_law_take M)
  have C_law_take := cal_mk F_law_take O_law_take (PySem.W.mg_of X G a_law_take) (F_law_take.binds (ps := ["deck", "many"]) fun _ _ _ _ _ _ us hl => match us, hl with | [_, _], _ => rfl)
  have O_law_gcd := ok_law_gcd (P := l.prog) (w := w) (base := base) F_law_gcd M
  have C_law_gcd := cal_mk F_law_gcd O_law_gcd (PySem.W.mg_of X G a_law_gcd) (F_law_gcd.binds (ps := ["u", "v"]) fun _ _ _ _ _ _ us hl => match us, hl with | [_, _], _ => rfl)
  have O_law_det := ok_law_det (P := l.prog) (w := w) (base := base) F_law_det M
  have C_law_det := cal_mk F_law_det O_law_det (PySem.W.mg_of X G a_law_det) (F_law_det.binds (ps := ["grid"]) fun _ _ _ _ _ _ us hl => match us, hl with | [_], _ => rfl)
  have O_law_ahead := ok_law_ahead (P := l.prog) (w := w) (base := base) F_law_ahead M
  have C_law_ahead := cal_mk F_law_ahead O_law_ahead (PySem.W.mg_of X G a_law_ahead) (F_law_ahead.binds (ps := ["grid", "away"]) fun _ _ _ _ _ _ us hl => match us, hl with | [_, _], _ => rfl)
  have O_is_offset := ok_is_offset (P := l.prog) (w := w) (base := base) F_is_offset M C_is_pair C_is_integer
  have C_is_offset := cal_mk F_is_offset O_is_offset (PySem.W.mg_of X G a_is_offset) (F_is_offset.binds (ps := ["told"]) fun _ _ _ _ _ _ us hl => match us, hl with | [_], _ => rfl)
  have O_law_pair := ok_law_pair (P := l.prog) (w := w) (base := base) F_law_pair M C_law_gcd
  have C_law_pair := cal_mk F_law_pair O_law_pair (PySem.W.mg_of X G a_law_pair) (F_law_pair.binds (ps := ["upper", "lower"]) fun _ _ _ _ _ _ us hl => match us, hl with | [_, _], _ => rfl)
  have O_law_growing := ok_law_growing (P := l.prog) (w := w) (base := base) F_law_growing M C_law_det
  have C_law_growing := cal_mk F_law_growing O_law_growing (PySem.W.mg_of X G a_law_growing) (F_law_growing.binds (ps := ["grid"]) fun _ _ _ _ _ _ us hl => match us, hl with | [_], _ => rfl)
  have O_law_any := ok_law_any (P := l.prog) (w := w) (base := base) F_law_any M C_law_take
  have C_law_any := cal_mk F_law_any O_law_any (PySem.W.mg_of X G a_law_any) (F_law_any.binds (ps := ["deck"]) fun _ _ _ _ _ _ us hl => match us, hl with | [_], _ => rfl)
  have O_law_bent := ok_law_bent (P := l.prog) (w := w) (base := base) F_law_bent M C_law_take
  have C_law_bent := cal_mk F_law_bent O_law_bent (PySem.W.mg_of X G a_law_bent) (F_law_bent.binds (ps := ["deck", "grid"]) fun _ _ _ _ _ _ us hl => match us, hl with | [_, _], _ => rfl)
  have O_law_product := ok_law_product (P := l.prog) (w := w) (base := base) F_law_product M C_law_ahead
  have C_law_product := cal_mk F_law_product O_law_product (PySem.W.mg_of X G a_law_product) (F_law_product.binds (ps := ["first", "second"]) fun _ _ _ _ _ _ us hl => match us, hl with | [_, _], _ => rfl)
  have O_is_number := ok_is_number (P := l.prog) (w := w) (base := base) F_is_number M C_is_offset
  have C_is_number := cal_mk F_is_number O_is_number (PySem.W.mg_of X G a_is_number) (F_is_number.binds (ps := ["told"]) fun _ _ _ _ _ _ us hl => match us, hl with | [_], _ => rfl)
  have O_is_table := ok_is_table (P := l.prog) (w := w) (base := base) F_is_table M C_is_pair C_is_offset
  have C_is_table := cal_mk F_is_table O_is_table (PySem.W.mg_of X G a_is_table) (F_is_table.binds (ps := ["told"]) fun _ _ _ _ _ _ us hl => match us, hl with | [_], _ => rfl)
  have K_is_table_told := calk1 F_is_table O_is_table (PySem.W.mg_of X G a_is_table) (fun _ _ _ _ _ _ _ => rfl)
  have O_check_offset := ok_check_offset (P := l.prog) (w := w) (base := base) F_check_offset M C_is_offset
  have C_check_offset := cal_mk F_check_offset O_check_offset (PySem.W.mg_of X G a_check_offset) (F_check_offset.binds (ps := ["offset"]) fun _ _ _ _ _ _ us hl => match us, hl with | [_], _ => rfl)
  have O_law_plus := ok_law_plus (P := l.prog) (w := w) (base := base) F_law_plus M C_law_pair
  have C_law_plus := cal_mk F_law_plus O_law_plus (PySem.W.mg_of X G a_law_plus) (F_law_plus.binds (ps := ["u", "v"]) fun _ _ _ _ _ _ us hl => match us, hl with | [_, _], _ => rfl)
  have O_law_times := ok_law_times (P := l.prog) (w := w) (base := base) F_law_times M C_law_pair
  have C_law_times := cal_mk F_law_times O_law_times (PySem.W.mg_of X G a_law_times) (F_law_times.binds (ps := ["u", "v"]) fun _ _ _ _ _ _ us hl => match us, hl with | [_, _], _ => rfl)
  have O_law_grid := ok_law_grid (P := l.prog) (w := w) (base := base) F_law_grid M C_law_take C_law_growing C_law_det
  have C_law_grid := cal_mk F_law_grid O_law_grid (PySem.W.mg_of X G a_law_grid) (F_law_grid.binds (ps := ["deck"]) fun _ _ _ _ _ _ us hl => match us, hl with | [_], _ => rfl)
  have O_law_power := ok_law_power (P := l.prog) (w := w) (base := base) F_law_power M C_law_product
  have C_law_power := cal_mk F_law_power O_law_power (PySem.W.mg_of X G a_law_power) (F_law_power.binds (ps := ["grid", "many"]) fun _ _ _ _ _ _ us hl => match us, hl with | [_, _], _ => rfl)
  have O_is_point := ok_is_point (P := l.prog) (w := w) (base := base) F_is_point M C_is_pair C_is_number
  have C_is_point := cal_mk F_is_point O_is_point (PySem.W.mg_of X G a_is_point) (F_is_point.binds (ps := ["told"]) fun _ _ _ _ _ _ us hl => match us, hl with | [_], _ => rfl)
  have O_check_table := ok_check_table (P := l.prog) (w := w) (base := base) F_check_table M C_is_table
  have C_check_table := cal_mk F_check_table O_check_table (PySem.W.mg_of X G a_check_table) (F_check_table.binds (ps := ["table"]) fun _ _ _ _ _ _ us hl => match us, hl with | [_], _ => rfl)
  have O_law_solved := ok_law_solved (P := l.prog) (w := w) (base := base) F_law_solved M C_law_det C_law_plus C_law_times C_law_pair
  have C_law_solved := cal_mk F_law_solved O_law_solved (PySem.W.mg_of X G a_law_solved) (F_law_solved.binds (ps := ["grid", "spot"]) fun _ _ _ _ _ _ us hl => match us, hl with | [_, _], _ => rfl)
  have O_law_shrinks := ok_law_shrinks (P := l.prog) (w := w) (base := base) F_law_shrinks M C_law_power C_law_det
  have C_law_shrinks := cal_mk F_law_shrinks O_law_shrinks (PySem.W.mg_of X G a_law_shrinks) (F_law_shrinks.binds (ps := ["grid"]) fun _ _ _ _ _ _ us hl => match us, hl with | [_], _ => rfl)
  have O_law_axes := ok_law_axes (P := l.prog) (w := w) (base := base) F_law_axes M C_law_power
  have C_law_axes := cal_mk F_law_axes O_law_axes (PySem.W.mg_of X G a_law_axes) (F_law_axes.binds (ps := ["grid"]) fun _ _ _ _ _ _ us hl => match us, hl with | [_], _ => rfl)
  have O_determinant := ok_determinant (P := l.prog) (w := w) (base := base) F_determinant M C_check_table
  have C_determinant := cal_mk F_determinant O_determinant (PySem.W.mg_of X G a_determinant) (F_determinant.binds (ps := ["table"]) fun _ _ _ _ _ _ us hl => match us, hl with | [_], _ => rfl)
  have K_determinant_table := calk1 F_determinant O_determinant (PySem.W.mg_of X G a_determinant) (fun _ _ _ _ _ _ _ => rfl)
  have O_trace := ok_trace (P := l.prog) (w := w) (base := base) F_trace M C_check_table
  have C_trace := cal_mk F_trace O_trace (PySem.W.mg_of X G a_trace) (F_trace.binds (ps := ["table"]) fun _ _ _ _ _ _ us hl => match us, hl with | [_], _ => rfl)
  have K_trace_table := calk1 F_trace O_trace (PySem.W.mg_of X G a_trace) (fun _ _ _ _ _ _ _ => rfl)
  have O_times := ok_times (P := l.prog) (w := w) (base := base) F_times M C_check_table C_check_offset
  have C_times := cal_mk F_times O_times (PySem.W.mg_of X G a_times) (F_times.binds (ps := ["table", "offset"]) fun _ _ _ _ _ _ us hl => match us, hl with | [_, _], _ => rfl)
  have K_times_offset_table := calk2 F_times O_times (PySem.W.mg_of X G a_times) (fun _ _ _ _ _ _ _ _ => rfl)
  have O_product := ok_product (P := l.prog) (w := w) (base := base) F_product M C_check_table
  have C_product := cal_mk F_product O_product (PySem.W.mg_of X G a_product) (F_product.binds (ps := ["one", "other"]) fun _ _ _ _ _ _ us hl => match us, hl with | [_, _], _ => rfl)
  have K_product_other_one := calk2 F_product O_product (PySem.W.mg_of X G a_product) (fun _ _ _ _ _ _ _ _ => rfl)
  have O_is_growing := ok_is_growing (P := l.prog) (w := w) (base := base) F_is_growing M C_determinant C_is_table C_trace
  have C_is_growing := cal_mk F_is_growing O_is_growing (PySem.W.mg_of X G a_is_growing) (F_is_growing.binds (ps := ["told"]) fun _ _ _ _ _ _ us hl => match us, hl with | [_], _ => rfl)
  have K_is_growing_told := calk1 F_is_growing O_is_growing (PySem.W.mg_of X G a_is_growing) (fun _ _ _ _ _ _ _ => rfl)
  have O_power := ok_power (P := l.prog) (w := w) (base := base) F_power M C_check_table C_product C_is_integer (PySem.W.mg_of X G u_n) hU
  have C_power := cal_mk F_power O_power (PySem.W.mg_of X G a_power) (F_power.binds (ps := ["table", "n"]) fun _ _ _ _ _ _ us hl => match us, hl with | [_, _], _ => rfl)
  have K_power_n_table := calk2 F_power O_power (PySem.W.mg_of X G a_power) (fun _ _ _ _ _ _ _ _ => rfl)
  have b_law_same := F_law_same.binds (ps := ["found", "due"]) fun _ _ _ _ _ _ us hl => match us, hl with | [_, _], _ => rfl
  have same_all : ∀ n : Nat, FnOk l.prog w K mg base CX0 n f_law_same (PySem.W.fnOf "_law_same" "_law_same" (defArgs s_law_same) (defBody s_law_same) (defScope s_law_same) .none kV_law_same dc_law_same pm_law_same an_law_same cd_law_same ct_law_same) ["found", "due"] (sp_law_same n K) := by
    intro n
    induction n with
    | zero =>
      have no : ∀ vs H Q E, ¬ sp_law_same 0 K vs H Q E := fun vs H Q E ⟨d, _, h, _⟩ => by cases h
      exact ⟨fun vs H Q E h => absurd h (no vs H Q E), fun A outer s H args us vs Q E _ _ _ _ h => absurd h (no vs H Q E)⟩
    | succ n ih => exact ok_law_same F_law_same M (cal_mk F_law_same ih (PySem.W.mg_of X G a_law_same) b_law_same)
  have C_law_same := cal_mk (P := l.prog) (w := w) (base := base) F_law_same (same_all 6) (PySem.W.mg_of X G a_law_same) b_law_same
  have O_check_growing := ok_check_growing (P := l.prog) (w := w) (base := base) F_check_growing M C_is_growing
  have C_check_growing := cal_mk F_check_growing O_check_growing (PySem.W.mg_of X G a_check_growing) (F_check_growing.binds (ps := ["table"]) fun _ _ _ _ _ _ us hl => match us, hl with | [_], _ => rfl)
  have O_law_told_right := ok_law_told_right (P := l.prog) (w := w) (base := base) F_law_told_right M C_law_growing C_law_ahead C_law_power C_law_same C_law_shrinks C_law_any C_law_take C_law_product C_law_det C_power K_power_n_table C_is_table K_is_table_told C_is_growing K_is_growing_told C_determinant K_determinant_table C_trace K_trace_table C_times K_times_offset_table C_product K_product_other_one
  have C_law_told_right := cal_mk F_law_told_right O_law_told_right (PySem.W.mg_of X G a_law_told_right) (F_law_told_right.binds (ps := ["deck", "grid"]) fun _ _ _ _ _ _ us hl => match us, hl with | [_, _], _ => rfl)
  have O_undone := ok_undone (P := l.prog) (w := w) (base := base) F_undone M C_check_growing C_is_point C_determinant C_lowest
  have C_undone := cal_mk F_undone O_undone (PySem.W.mg_of X G a_undone) (F_undone.binds (ps := ["table", "point"]) fun _ _ _ _ _ _ us hl => match us, hl with | [_, _], _ => rfl)
  have K_undone_point_table := calk2 F_undone O_undone (PySem.W.mg_of X G a_undone) (fun _ _ _ _ _ _ _ _ => rfl)
  have O_axes := ok_axes (P := l.prog) (w := w) (base := base) F_axes M C_check_growing C_product
  have C_axes := cal_mk F_axes O_axes (PySem.W.mg_of X G a_axes) (F_axes.binds (ps := ["table"]) fun _ _ _ _ _ _ us hl => match us, hl with | [_], _ => rfl)
  have K_axes_table := calk1 F_axes O_axes (PySem.W.mg_of X G a_axes) (fun _ _ _ _ _ _ _ => rfl)
  have O_law_grown_right := ok_law_grown_right (P := l.prog) (w := w) (base := base) F_law_grown_right M C_law_axes C_law_power C_law_solved C_law_same C_law_take C_law_pair C_axes C_undone C_is_growing K_axes_table K_undone_point_table
  have C_law_grown_right := cal_mk F_law_grown_right O_law_grown_right (PySem.W.mg_of X G a_law_grown_right) (F_law_grown_right.binds (ps := ["deck", "grid"]) fun _ _ _ _ _ _ us hl => match us, hl with | [_, _], _ => rfl)
  exact ok_law (P := l.prog) (w := w) (base := base) F_law M C_law_deck C_law_any C_law_bent C_law_same C_law_told_right C_law_grown_right C_is_table C_is_growing C_law_grid C_law_growing
theorem walk {l : PySem.W.OpenLaw} {q : Program} {loose : List Str} {XP : (Str → Option Value) → Heap → Prop} {YP : World → Heap → Prop} {d : DefRec} {K : Params → PySem.W.Frag} (hn : l.most = some 63) (hdf : d.params.defaults = [])
    (hY : ∀ (w : World) (h : Heap), YP w h → (K w.params).In h)
    (F : ∀ (w : World) (mg : Str → Option Value) (fa : Addr) (h : Heap), (K w.params).In h → h.Ns mainGlobals mg → mg d.name = some (.ref fa) →
      ∃ fd : FuncData, (∀ (s : Shared) (u : Value), BindsTo s fd ⟨[u], []⟩ [("script", u)]) ∧ ∀ base : Heap, (K w.params).In base → base.Ns mainGlobals mg → FnOk l.prog w (K w.params) mg base CX0 10 fa fd ["script"] (sp_law (K w.params))) :
    PySem.W.WalkO q loose XP YP l.row.toRowW d [] (fun f vs => PySem.call f vs) :=
  L2.walk_of (n := 63) (k := 10) (x := "script") (CX := fun _ => CX0) (sp := fun w => sp_law (K w.params)) hn (by decide) hdf ⟨rfl, by decide, by decide⟩ hY F (fun _ _ a ns hl _ hS => ⟨a, ns, rfl, hS, hl, fun _ => rfl⟩) fun _ _ _ _ _ z => z

end Sk
open PySem PySem.W PyProof.Rows
set_option maxRecDepth 100000 in
set_option maxHeartbeats 0 in
theorem PySem.Challenge.cw_selfkits_k01_whole_tables_holds : PySem.Challenge.rw_selfkits_k01_whole_tables.Holds := by
  w_on; o_law; k_head; (case hw => w_witness2)
  k_fill
  refine Sk.walk (l := PySem.Challenge.rw_selfkits_k01_whole_tables) rfl rfl (fun w h Y => PySem.W.kIn_of Y) ?F
  case F =>
    intro w mg fa h KX G hmg
    refine' Sk.all_mk KX G hmg ?a_is_integer ?l_is_integer ?c_is_integer ?k_is_integer ?a_is_pair ?l_is_pair ?c_is_pair ?k_is_pair ?a_lowest ?l_lowest ?c_lowest ?k_lowest ?a_law_deck ?l_law_deck ?c_law_deck ?k_law_deck ?a_law_take ?l_law_take ?c_law_take ?k_law_take ?a_law_gcd ?l_law_gcd ?c_law_gcd ?k_law_gcd ?a_law_det ?l_law_det ?c_law_det ?k_law_det ?a_law_ahead ?l_law_ahead ?c_law_ahead ?k_law_ahead ?a_is_offset ?l_is_offset ?c_is_offset ?k_is_offset ?a_law_pair ?l_law_pair ?c_law_pair ?k_law_pair ?a_law_growing ?l_law_growing ?c_law_growing ?k_law_growing ?a_law_any ?l_law_any ?c_law_any ?k_law_any ?a_law_bent ?l_law_bent ?c_law_bent ?k_law_bent ?a_law_product ?l_law_product ?c_law_product ?k_law_product ?a_is_number ?l_is_number ?c_is_number ?k_is_number ?a_is_table ?l_is_table ?c_is_table ?k_is_table ?a_check_offset ?l_check_offset ?c_check_offset ?k_check_offset ?a_law_plus ?l_law_plus ?c_law_plus ?k_law_plus ?a_law_times ?l_law_times ?c_law_times ?k_law_times ?a_law_grid ?l_law_grid ?c_law_grid ?k_law_grid ?a_law_power ?l_law_power ?c_law_power ?k_law_power ?a_is_point ?l_is_point ?c_is_point ?k_is_point ?a_check_table ?l_check_table ?c_check_table ?k_check_table ?a_law_solved ?l_law_solved ?c_law_solved ?k_law_solved ?a_law_shrinks ?l_law_shrinks ?c_law_shrinks ?k_law_shrinks ?a_law_axes ?l_law_axes ?c_law_axes ?k_law_axes ?a_determinant ?l_determinant ?c_determinant ?k_determinant ?a_trace ?l_trace ?c_trace ?k_trace ?a_times ?l_times ?c_times ?k_times ?a_product ?l_product ?c_product ?k_product ?a_is_growing ?l_is_growing ?c_is_growing ?k_is_growing ?a_power ?l_power ?c_power ?k_power ?a_law_same ?l_law_same ?c_law_same ?k_law_same ?a_check_growing ?l_check_growing ?c_check_growing ?k_check_growing ?a_law_told_right ?l_law_told_right ?c_law_told_right ?k_law_told_right ?a_undone ?l_undone ?c_undone ?k_undone ?a_axes ?l_axes ?c_axes ?k_axes ?a_law_grown_right ?l_law_grown_right ?c_law_grown_right ?k_law_grown_right ?a_law ?l_law ?c_law ?k_law ?z_len ?z_isinstance ?z_abs ?z_max ?z_min ?z_int ?z_bool ?z_str ?z_tuple ?z_list ?z_range ?z_reversed ?z_gcd ?u_n ?u_a ?u_b ?u_c
    (case a_is_integer => k_is)
    (case l_is_integer => k_is)
    (case c_is_integer => k_is)
    (case k_is_integer => k_is)
    (case a_is_pair => k_is)
    (case l_is_pair => k_is)
    (case c_is_pair => k_is)
    (case k_is_pair => k_is)
    (case a_lowest => k_is)
    (case l_lowest => k_is)
    (case c_lowest => k_is)
    (case k_lowest => k_is)
    (case a_law_deck => k_is)
    (case l_law_deck => k_is)
    (case c_law_deck => k_is)
    (case k_law_deck => k_is)
    (case a_law_take => k_is)
    (case l_law_take => k_is)
    (case c_law_take => k_is)
    (case k_law_take => k_is)
    (case a_law_gcd => k_is)
    (case l_law_gcd => k_is)
    (case c_law_gcd => k_is)
    (case k_law_gcd => k_is)
    (case a_law_det => k_is)
    (case l_law_det => k_is)
    (case c_law_det => k_is)
    (case k_law_det => k_is)
    (case a_law_ahead => k_is)
    (case l_law_ahead => k_is)
    (case c_law_ahead => k_is)
    (case k_law_ahead => k_is)
    (case a_is_offset => k_is)
    (case l_is_offset => k_is)
    (case c_is_offset => k_is)
    (case k_is_offset => k_is)
    (case a_law_pair => k_is)
    (case l_law_pair => k_is)
    (case c_law_pair => k_is)
    (case k_law_pair => k_is)
    (case a_law_growing => k_is)
    (case l_law_growing => k_is)
    (case c_law_growing => k_is)
    (case k_law_growing => k_is)
    (case a_law_any => k_is)
    (case l_law_any => k_is)
    (case c_law_any => k_is)
    (case k_law_any => k_is)
    (case a_law_bent => k_is)
    (case l_law_bent => k_is)
    (case c_law_bent => k_is)
    (case k_law_bent => k_is)
    (case a_law_product => k_is)
    (case l_law_product => k_is)
    (case c_law_product => k_is)
    (case k_law_product => k_is)
    (case a_is_number => k_is)
    (case l_is_number => k_is)
    (case c_is_number => k_is)
    (case k_is_number => k_is)
    (case a_is_table => k_is)
    (case l_is_table => k_is)
    (case c_is_table => k_is)
    (case k_is_table => k_is)
    (case a_check_offset => k_is)
    (case l_check_offset => k_is)
    (case c_check_offset => k_is)
    (case k_check_offset => k_is)
    (case a_law_plus => k_is)
    (case l_law_plus => k_is)
    (case c_law_plus => k_is)
    (case k_law_plus => k_is)
    (case a_law_times => k_is)
    (case l_law_times => k_is)
    (case c_law_times => k_is)
    (case k_law_times => k_is)
    (case a_law_grid => k_is)
    (case l_law_grid => k_is)
    (case c_law_grid => k_is)
    (case k_law_grid => k_is)
    (case a_law_power => k_is)
    (case l_law_power => k_is)
    (case c_law_power => k_is)
    (case k_law_power => k_is)
    (case a_is_point => k_is)
    (case l_is_point => k_is)
    (case c_is_point => k_is)
    (case k_is_point => k_is)
    (case a_check_table => k_is)
    (case l_check_table => k_is)
    (case c_check_table => k_is)
    (case k_check_table => k_is)
    (case a_law_solved => k_is)
    (case l_law_solved => k_is)
    (case c_law_solved => k_is)
    (case k_law_solved => k_is)
    (case a_law_shrinks => k_is)
    (case l_law_shrinks => k_is)
    (case c_law_shrinks => k_is)
    (case k_law_shrinks => k_is)
    (case a_law_axes => k_is)
    (case l_law_axes => k_is)
    (case c_law_axes => k_is)
    (case k_law_axes => k_is)
    (case a_determinant => k_is)
    (case l_determinant => k_is)
    (case c_determinant => k_is)
    (case k_determinant => k_is)
    (case a_trace => k_is)
    (case l_trace => k_is)
    (case c_trace => k_is)
    (case k_trace => k_is)
    (case a_times => k_is)
    (case l_times => k_is)
    (case c_times => k_is)
    (case k_times => k_is)
    (case a_product => k_is)
    (case l_product => k_is)
    (case c_product => k_is)
    (case k_product => k_is)
    (case a_is_growing => k_is)
    (case l_is_growing => k_is)
    (case c_is_growing => k_is)
    (case k_is_growing => k_is)
    (case a_power => k_is)
    (case l_power => k_is)
    (case c_power => k_is)
    (case k_power => k_is)
    (case a_law_same => k_is)
    (case l_law_same => k_is)
    (case c_law_same => k_is)
    (case k_law_same => k_is)
    (case a_check_growing => k_is)
    (case l_check_growing => k_is)
    (case c_check_growing => k_is)
    (case k_check_growing => k_is)
    (case a_law_told_right => k_is)
    (case l_law_told_right => k_is)
    (case c_law_told_right => k_is)
    (case k_law_told_right => k_is)
    (case a_undone => k_is)
    (case l_undone => k_is)
    (case c_undone => k_is)
    (case k_undone => k_is)
    (case a_axes => k_is)
    (case l_axes => k_is)
    (case c_axes => k_is)
    (case k_axes => k_is)
    (case a_law_grown_right => k_is)
    (case l_law_grown_right => k_is)
    (case c_law_grown_right => k_is)
    (case k_law_grown_right => k_is)
    (case a_law => k_is)
    (case l_law => k_is)
    (case c_law => k_is)
    (case k_law => k_is)
    (case z_len => k_is)
    (case z_isinstance => k_is)
    (case z_abs => k_is)
    (case z_max => k_is)
    (case z_min => k_is)
    (case z_int => k_is)
    (case z_bool => k_is)
    (case z_str => k_is)
    (case z_tuple => k_is)
    (case z_list => k_is)
    (case z_range => k_is)
    (case z_reversed => k_is)
    (case z_gcd => k_is)
    (case u_n => k_is)
    (case u_a => k_is)
    (case u_b => k_is)
    (case u_c => k_is)
#print axioms PySem.Challenge.cw_selfkits_k01_whole_tables_holds
