import PyProof.Rows.All
import Wide.All
import OpenK.AllK
import Wide.FinOn
import HandS.ForMost
import HandS.Zip
import HandS.IsInst
import HandS.Wide
import HandS.Flow
import HandS.Style
import HandS.Conv
import HandS.NoneIn
import HandS.SortKw
import HandS.SetKeys
import HandS.Defaults
import HandS.Evl
import KE.Datum
import HandS.Lambda
import HandS.Walk
import HandS.ForExc
import HandS.Strs
import PyProof.RowDictHeap
import HandS.Star
import KE.KUnpackStar
import HandS.TryOnly
import HandS.Comp
import HandS.Set
import HandS.SetBool
import PyProof.Rows.SortShellAny
import HandS.TupAny
import HandS.Deep
import PyProof.ListStr
import HandS.Small
import KE.SortKeyHeap
import HandS.EndTab
import KE.KDictSum
import KE.SortData
import PySem.Challenge.RW_topmatches_k32_places_by_all_dictionarie
import KE.KNestM
set_option Elab.async false
set_option linter.all false
set_option maxRecDepth 100000
set_option maxHeartbeats 4000000
/-! DL1: data over the abstract heap, worlds with a mutable part, slots as data, what an expression is worth as data -/
namespace DL
open PySem PySem.Spec L2

/-! ### data -/
def keyD : Key → PyData
  | .inl i => .int i
  | .inr x => .str x
mutual
inductive DD (H : Hp) : V → PyData → Prop
  | non : DD H .non .none
  | bl (b : Bool) : DD H (.bl b) (.bool b)
  | int (i : Int) : DD H (.int i) (.int i)
  | str (x : Str) : DD H (.str x) (.str x)
  | lst {a : Addr} {xs : List V} {ds : List PyData} : H a = some (.lst xs) → DA H xs ds → DD H (.ref a) (.list ds)
  | tup {a : Addr} {xs : List V} {ds : List PyData} : H a = some (.tup xs) → DA H xs ds → DD H (.ref a) (.tuple ds)
  | dct {a : Addr} {kvs : List (Key × V)} {ds : List (PyData × PyData)} : H a = some (.dK kvs) → DK H kvs ds → DD H (.ref a) (.dict ds)
inductive DA (H : Hp) : List V → List PyData → Prop
  | nil : DA H [] []
  | cons {v : V} {vs : List V} {d : PyData} {ds : List PyData} : DD H v d → DA H vs ds → DA H (v :: vs) (d :: ds)
inductive DK (H : Hp) : List (Key × V) → List (PyData × PyData) → Prop
  | nil : DK H [] []
  | cons {k : Key} {v : V} {r : List (Key × V)} {d : PyData} {ds : List (PyData × PyData)} : DD H v d → DK H r ds → DK H ((k, v) :: r) ((keyD k, d) :: ds)
end
mutual
theorem DD.mono {H H' : Hp} (e : Same H H') : ∀ {v : V} {d : PyData}, DD H v d → DD H' v d
  | _, _, .non => .non
  | _, _, .bl b => .bl b
  | _, _, .int i => .int i
  | _, _, .str x => .str x
  | _, _, .lst h k => .lst (e _ _ h) (DA.mono e k)
  | _, _, .tup h k => .tup (e _ _ h) (DA.mono e k)
  | _, _, .dct h k => .dct (e _ _ h) (DK.mono e k)
theorem DA.mono {H H' : Hp} (e : Same H H') : ∀ {vs : List V} {ds : List PyData}, DA H vs ds → DA H' vs ds
  | _, _, .nil => .nil
  | _, _, .cons h t => .cons (DD.mono e h) (DA.mono e t)
theorem DK.mono {H H' : Hp} (e : Same H H') : ∀ {vs : List (Key × V)} {ds : List (PyData × PyData)}, DK H vs ds → DK H' vs ds
  | _, _, .nil => .nil
  | _, _, .cons h t => .cons (DD.mono e h) (DK.mono e t)
end
section
variable {H : Hp}
theorem DA.length : ∀ {vs : List V} {ds : List PyData}, DA H vs ds → vs.length = ds.length
  | _, _, .nil => rfl
  | _, _, .cons _ t => congrArg (· + 1) (DA.length t)
theorem DA.get : ∀ {vs : List V} {ds : List PyData} {i : Nat} {v : V}, DA H vs ds → vs[i]? = some v → ∃ d, ds[i]? = some d ∧ DD H v d
  | _, _, _, _, .nil, e => by simp at e
  | _, _, 0, _, .cons h _, e => by
    simp at e
    subst e
    exact ⟨_, rfl, h⟩
  | _, _, i + 1, v, .cons _ t, e => by
    obtain ⟨d, h1, h2⟩ := DA.get (i := i) (v := v) t (by simpa using e)
    exact ⟨d, by simpa using h1, h2⟩
theorem DA.at : ∀ {vs : List V} {ds : List PyData} {i : Nat} {d : PyData}, DA H vs ds → ds[i]? = some d → ∃ v, vs[i]? = some v ∧ DD H v d
  | _, _, _, _, .nil, e => by simp at e
  | _, _, 0, _, .cons h _, e => by
    simp at e
    subst e
    exact ⟨_, rfl, h⟩
  | _, _, i + 1, v, .cons _ t, e => by
    obtain ⟨d, h1, h2⟩ := DA.at (i := i) (d := v) t (by simpa using e)
    exact ⟨d, by simpa using h1, h2⟩
theorem DA.append : ∀ {vs ws : List V} {ds es : List PyData}, DA H vs ds → DA H ws es → DA H (vs ++ ws) (ds ++ es)
  | _, _, _, _, .nil, k => k
  | _, _, _, _, .cons h t, k => .cons h (DA.append t k)
theorem DA.take : ∀ {vs : List V} {ds : List PyData} (n : Nat), DA H vs ds → DA H (vs.take n) (ds.take n)
  | _, _, 0, _ => .nil
  | _, _, _ + 1, .nil => .nil
  | _, _, n + 1, .cons h t => .cons h (DA.take n t)
theorem DA.drop : ∀ {vs : List V} {ds : List PyData} (n : Nat), DA H vs ds → DA H (vs.drop n) (ds.drop n)
  | _, _, 0, k => k
  | _, _, _ + 1, .nil => .nil
  | _, _, n + 1, .cons _ t => DA.drop n t
theorem DA.reverse : ∀ {vs : List V} {ds : List PyData}, DA H vs ds → DA H vs.reverse ds.reverse
  | _, _, .nil => .nil
  | _, _, .cons h t => by
    rw [List.reverse_cons, List.reverse_cons]
    exact DA.append (DA.reverse t) (.cons h .nil)
theorem DA.strs : ∀ {vs : List V} {xs : List Str}, DA H vs (xs.map PyData.str) → vs = xs.map V.str
  | _, [], .nil => rfl
  | _, x :: xs, .cons h t => by
    cases h
    rw [DA.strs t]
    rfl
theorem DA.ints : ∀ {vs : List V} {xs : List Int}, DA H vs (xs.map PyData.int) → vs = xs.map V.int
  | _, [], .nil => rfl
  | _, x :: xs, .cons h t => by
    cases h
    rw [DA.ints t]
    rfl
theorem DA.bools : ∀ {vs : List V} {xs : List Bool}, DA H vs (xs.map PyData.bool) → vs = xs.map V.bl
  | _, [], .nil => rfl
  | _, x :: xs, .cons h t => by
    cases h
    rw [DA.bools t]
    rfl
theorem DA.set : ∀ {vs : List V} {ds : List PyData} {v : V} {d : PyData} (i : Nat), DA H vs ds → DD H v d → DA H (vs.set i v) (ds.set i d)
  | _, _, _, _, _, .nil, _ => .nil
  | _, _, _, _, 0, .cons _ t, k => .cons k t
  | _, _, _, _, i + 1, .cons h t, k => .cons h (DA.set i t k)
end

/-! ### a part of the heap left out -/
def off (fs : List Addr) (H : Hp) : Hp := fun a => if a ∈ fs then none else H a
theorem off_ne {fs : List Addr} {H : Hp} {a : Addr} (h : a ∉ fs) : off fs H a = H a := if_neg h
theorem off_some {fs : List Addr} {H : Hp} {a : Addr} {o : HO} (h : off fs H a = some o) : a ∉ fs ∧ H a = some o := by
  unfold off at h
  split at h
  · cases h
  · exact ⟨by assumption, h⟩
theorem off_of {fs : List Addr} {H : Hp} {a : Addr} {o : HO} (h : a ∉ fs) (e : H a = some o) : off fs H a = some o := (off_ne h).trans e
theorem off_sub {fs gs : List Addr} {H : Hp} (h : ∀ a ∈ gs, a ∈ fs) : Same (off fs H) (off gs H) := fun a o e =>
  off_of (fun z => (off_some e).1 (h a z)) (off_some e).2
theorem off_le {fs : List Addr} {H : Hp} : Same (off fs H) H := fun a o e => (off_some e).2
theorem off_mono {fs gs : List Addr} {H H' : Hp} (h : ∀ a ∈ gs, a ∈ fs) (s : Same (off gs H) (off gs H')) : Same (off fs H) (off fs H') := fun a o e =>
  off_of (off_some e).1 (off_some (s a o (off_of (fun z => (off_some e).1 (h a z)) (off_some e).2))).2
theorem same_off {fs : List Addr} {H H' : Hp} (s : Same H H') : Same (off fs H) (off fs H') := fun a o e => off_of (off_some e).1 (s a o (off_some e).2)
theorem same_new {H : Hp} {p : Addr} {o : HO} (h : H p = none) : Same H (upd H p o) := fun b x e => by
  rw [upd_ne (ne_of_none e h)]
  exact e
theorem off_upd {fs : List Addr} {H : Hp} {p : Addr} {o : HO} (h : p ∈ fs) : Same (off fs H) (off fs (upd H p o)) := fun a u e => by
  refine off_of (off_some e).1 ?_
  rw [upd_ne fun z => (off_some e).1 (by rw [z]; exact h)]
  exact (off_some e).2

/-! ### worlds -/
/-- no code object at D -/
def NoC (H : Hp) (D : Addr) : Prop := ∀ q, H D ≠ some (LamX.CodeO D q)
theorem noC_none {H : Hp} {D : Addr} (h : H D = none) : NoC H D := fun q z => by rw [h] at z; cases z
theorem noC_lst {H : Hp} {D : Addr} {xs : List V} (h : H D = some (.lst xs)) : NoC H D := fun q z => by
  rw [h] at z
  unfold LamX.CodeO at z
  cases z
theorem noC_dK {H : Hp} {D : Addr} {kvs : List (Key × V)} (h : H D = some (.dK kvs)) : NoC H D := fun q z => by
  rw [h] at z
  unfold LamX.CodeO at z
  cases z
theorem noC_elim {H : Hp} {D a : Addr} {fs : List Addr} (nD : D ∉ fs) (nc : NoC H D) (ha : a ∈ fs ∨ ∃ q, H a = some (LamX.CodeO a q)) : a ≠ D := fun z => by
  subst z
  exact ha.elim nD fun ⟨q, hq⟩ => nc q hq
structure Wd where
  fs : List Addr
  J : Nat → Hp → Prop
  up : ∀ n m H, n ≤ m → J n H → J m H
  stay : ∀ n H H', J n H → (∀ a, (a ∈ fs ∨ ∃ q, H a = some (LamX.CodeO a q)) → ∀ o, H a = some o → H' a = some o) → J n H'
  trk : ∀ n H, J n H → ∀ a ∈ fs, ∃ o, H a = some o
def W0 : Wd := ⟨[], fun _ _ => True, fun _ _ _ _ _ => trivial, fun _ _ _ _ _ => trivial, fun _ _ _ a h => absurd h List.not_mem_nil⟩
def LIM : Nat := 2 ^ 60

inductive SV where
  | no | im (d : PyData) | raw (v : V) | own (p : Addr) (ds : List PyData)
  /-- a list whose first item is a list at p that may still change -/
  | semi (p : Addr) (ds dr : List PyData)
  /-- a dict still being made -/
  | dct (p : Addr) (kd : List (PyData × PyData))
def SV.adr : SV → Option Addr
  | .own p _ => some p
  | .semi p _ _ => some p
  | .dct p _ => some p
  | _ => none
theorem adr_set {ρ : List SV} {i c : Nat} {x y : SV} {r : Addr} (hy : y.adr = none) (e : (ρ.set i y)[c]? = some x) (hx : x.adr = some r) : ρ[c]? = some x := by
  by_cases hk : i = c
  · subst hk
    by_cases hi : i < ρ.length
    · rw [List.getElem?_set_self hi] at e
      cases e
      rw [hy] at hx
      cases hx
    · rw [List.getElem?_eq_none (by rw [List.length_set]; omega)] at e
      cases e
  · rw [List.getElem?_set_ne hk] at e
    exact e

/-- what values must stay clear of; what is kept besides the slots -/
structure Gst where
  p : Hp → Prop
  mono : ∀ H H', Same H H' → p H → p H'
structure Fp where
  fs : List Addr
  gh : List Gst

structure Amb where
  W : Wd
  F0 : List Addr
  H0 : Hp
  sub : ∀ a ∈ W.fs, a ∈ F0
  trk : ∀ a ∈ F0, ∃ o, H0 a = some o

def SlotOk (A : Amb) (F : List Addr) (H : Hp) : SV → Option V → Prop
  | .no, _ => True
  | .im d, o => ∃ v, o = some v ∧ DD (off F H) v d
  | .raw v, o => o = some v
  | .own p ds, o => o = some (.ref p) ∧ p ∈ F ∧ A.H0 p = none ∧ ∃ xs, H p = some (.lst xs) ∧ DA (off F H) xs ds
  | .dct p kd, o => o = some (.ref p) ∧ p ∈ F ∧ A.H0 p = none ∧ ∃ kvs, H p = some (.dK kvs) ∧ DK (off F H) kvs kd
  | .semi p ds dr, o => ∃ q rest, o = some (.ref q) ∧ off F H q = some (.lst (.ref p :: rest)) ∧ DA (off F H) rest dr ∧ p ∈ F ∧ A.H0 p = none ∧ ∃ xs, H p = some (.lst xs) ∧ DA (off F H) xs ds

structure St8 (A : Amb) (F : Fp) (ρ : List SV) (σ : L2.St) (H : Hp) (n : Nat) : Prop where
  j : A.W.J n H
  adv : Same (off A.W.fs A.H0) (off A.W.fs H)
  sub : ∀ a ∈ A.F0, a ∈ F.fs
  trk : ∀ a ∈ F.fs, ∃ o, H a = some o
  gh : ∀ g ∈ F.gh, g.p (off F.fs H)
  len : σ.length = ρ.length
  slot : ∀ (i : Nat) (s : SV), ρ[i]? = some s → ∃ o, σ[i]? = some o ∧ SlotOk A F.fs H s o
  nd : ∀ (i j : Nat) (x y : SV) (p q : Addr), ρ[i]? = some x → ρ[j]? = some y → x.adr = some p → y.adr = some q → i ≠ j → p ≠ q

section
variable {A : Amb} {F : Fp} {ρ : List SV} {σ : L2.St} {H H' : Hp} {n m : Nat}
theorem Amb.fresh_nfs (A : Amb) {p : Addr} (h : A.H0 p = none) : p ∉ A.F0 := fun z => by
  obtain ⟨o, e⟩ := A.trk p z
  rw [h] at e
  cases e
theorem Amb.fresh_nw (A : Amb) {p : Addr} (h : A.H0 p = none) : p ∉ A.W.fs := fun z => A.fresh_nfs h (A.sub p z)
theorem St8.offF (S : St8 A F ρ σ H n) (s : Same (off A.W.fs H) (off A.W.fs H')) : Same (off F.fs H) (off F.fs H') := off_mono (fun a h => S.sub a (A.sub a h)) s
theorem SlotOk.step (S : St8 A F ρ σ H n) (s : Same (off A.W.fs H) (off A.W.fs H')) {x : SV} {o : Option V} (h : SlotOk A F.fs H x o) : SlotOk A F.fs H' x o := by
  cases x with
  | no => trivial
  | im d =>
    obtain ⟨v, e, k⟩ := h
    exact ⟨v, e, k.mono (S.offF s)⟩
  | raw v => exact h
  | own p ds =>
    obtain ⟨e, hp, h0, xs, hx, k⟩ := h
    exact ⟨e, hp, h0, xs, (off_some (s p _ (off_of (A.fresh_nw h0) hx))).2, k.mono (S.offF s)⟩
  | dct p ds =>
    obtain ⟨e, hp, h0, xs, hx, k⟩ := h
    exact ⟨e, hp, h0, xs, (off_some (s p _ (off_of (A.fresh_nw h0) hx))).2, k.mono (S.offF s)⟩
  | semi p ds dr =>
    obtain ⟨q, rest, e, hq, kr, hp, h0, xs, hx, k⟩ := h
    exact ⟨q, rest, e, S.offF s _ _ hq, kr.mono (S.offF s), hp, h0, xs, (off_some (s p _ (off_of (A.fresh_nw h0) hx))).2, k.mono (S.offF s)⟩
theorem St8.step (S : St8 A F ρ σ H n) (s : Same (off A.W.fs H) (off A.W.fs H')) (j : A.W.J m H') : St8 A F ρ σ H' m where
  j := j
  adv := S.adv.trans s
  sub := S.sub
  trk := fun a ha => by
    by_cases hw : a ∈ A.W.fs
    · exact A.W.trk _ _ j a hw
    · obtain ⟨o, e⟩ := S.trk a ha
      exact ⟨o, (off_some (s a o (off_of hw e))).2⟩
  gh := fun g hg => g.mono _ _ (S.offF s) (S.gh g hg)
  len := S.len
  slot := fun i x e => by
    obtain ⟨o, h1, h2⟩ := S.slot i x e
    exact ⟨o, h1, h2.step S s⟩
  nd := S.nd
theorem St8.up (S : St8 A F ρ σ H n) (h : n ≤ m) : St8 A F ρ σ H m := S.step (Same.refl _) (A.W.up _ _ _ h S.j)
theorem St8.fresh (S : St8 A F ρ σ H n) {p : Addr} (h : H p = none) : p ∉ F.fs := fun z => by
  obtain ⟨o, e⟩ := S.trk p z
  rw [h] at e
  cases e
theorem St8.fresh0 (S : St8 A F ρ σ H n) {p : Addr} (h : H p = none) : A.H0 p = none := by
  cases e : A.H0 p with
  | none => rfl
  | some o =>
    by_cases hw : p ∈ A.W.fs
    · exact absurd (S.sub p (A.sub p hw)) (S.fresh h)
    · have := (off_some (S.adv p o (off_of hw e))).2
      rw [h] at this
      cases this
/-- a new object -/
theorem St8.new (S : St8 A F ρ σ H n) {p : Addr} {o : HO} (h : H p = none) : St8 A F ρ σ (upd H p o) n :=
  S.step (same_off (same_new h)) (A.W.stay _ _ _ S.j fun a _ u e => same_new h a u e)
theorem St8.newS (S : St8 A F ρ σ H n) {p : Addr} {o : HO} (h : H p = none) : Same (off A.W.fs H) (off A.W.fs (upd H p o)) := same_off (same_new h)
theorem St8.newJ (S : St8 A F ρ σ H n) {p : Addr} {o : HO} (h : H p = none) : A.W.J n (upd H p o) := A.W.stay _ _ _ S.j fun a _ u e => same_new h a u e
/-- a slot is set to data -/
theorem St8.set (S : St8 A F ρ σ H n) (i : Nat) {v : V} {d : PyData} (h : DD (off F.fs H) v d) : St8 A F (ρ.set i (.im d)) (σ.set i (some v)) H n where
  j := S.j
  adv := S.adv
  sub := S.sub
  trk := S.trk
  gh := S.gh
  len := by rw [List.length_set, List.length_set, S.len]
  slot := fun k x e => by
    by_cases hk : i = k
    · subst hk
      by_cases hi : i < ρ.length
      · rw [List.getElem?_set_self hi] at e
        cases e
        exact ⟨some v, List.getElem?_set_self (by rw [S.len]; exact hi), v, rfl, h⟩
      · rw [List.getElem?_eq_none (by rw [List.length_set]; omega)] at e
        cases e
    · rw [List.getElem?_set_ne hk] at e
      rw [List.getElem?_set_ne hk]
      exact S.slot k x e
  nd := fun a b x y p q ha hb hx hy ne => S.nd a b x y p q (adr_set rfl ha hx) (adr_set rfl hb hy) hx hy ne
end

/-- a list that is still changing, seen as data by whoever only reads -/
theorem semi_data {A : Amb} {F : Fp} {ρ : List SV} {σ : L2.St} {H : Hp} {n i : Nat} {p : Addr} {ds dr : List PyData} (S : St8 A F ρ σ H n) (h : ρ[i]? = some (.semi p ds dr)) : ∃ q, σ[i]? = some (some (.ref q)) ∧ DD (off A.F0 H) (.ref q) (.list (.list ds :: dr)) := by
  obtain ⟨o, e, q, rest, e2, hq, kr, hp, h0, xs, hx, k⟩ := S.slot i _ h
  subst e2
  exact ⟨q, e, .lst (off_sub S.sub _ _ hq) (.cons (.lst (off_of (A.fresh_nfs h0) hx) (k.mono (off_sub S.sub))) (kr.mono (off_sub S.sub)))⟩
/-! ### what an expression is worth -/
def EE (A : Amb) (te : TE) (ρ : List SV) (c : Nat) (R : PyData → Prop) : Prop := ∀ F σ H n Q, St8 A F ρ σ H n → n + c ≤ LIM →
  (∀ v d H', Same (off A.W.fs H) (off A.W.fs H') → A.W.J (n + c) H' → DD (off F.fs H') v d → R d → Q v H') → te σ H Q
/-- the same, the value may be (or hold) a list that is still being made -/
def ER (A : Amb) (te : TE) (ρ : List SV) (c : Nat) (R : PyData → Prop) : Prop := ∀ F σ H n Q, St8 A F ρ σ H n → n + c ≤ LIM →
  (∀ v d H', Same (off A.W.fs H) (off A.W.fs H') → A.W.J (n + c) H' → DD (off A.F0 H') v d → R d → Q v H') → te σ H Q
def ET (A : Amb) (tt : TT) (ρ : List SV) (c : Nat) (R : Bool → Prop) : Prop := ∀ F σ H n Q, St8 A F ρ σ H n → n + c ≤ LIM →
  (∀ b H', Same (off A.W.fs H) (off A.W.fs H') → A.W.J (n + c) H' → R b → Q b H') → tt σ H Q
def EA (A : Amb) (ta : TA) (ρ : List SV) (c : Nat) (R : List PyData → Prop) : Prop := ∀ F σ H n Q, St8 A F ρ σ H n → n + c ≤ LIM →
  (∀ vs ds H', Same (off A.W.fs H) (off A.W.fs H') → A.W.J (n + c) H' → DA (off F.fs H') vs ds → R ds → Q vs H') → ta σ H Q
def EAR (A : Amb) (ta : TA) (ρ : List SV) (c : Nat) (R : List PyData → Prop) : Prop := ∀ F σ H n Q, St8 A F ρ σ H n → n + c ≤ LIM →
  (∀ vs ds H', Same (off A.W.fs H) (off A.W.fs H') → A.W.J (n + c) H' → DA (off A.F0 H') vs ds → R ds → Q vs H') → ta σ H Q

section
variable {A : Amb} {ρ : List SV} {te ta tb : TE} {c c' c1 c2 c3 : Nat} {R R' Ra Rb Rc : PyData → Prop} {K : PySem.W.Frag}
theorem EE.r (h : EE A te ρ c R) : ER A te ρ c R := fun F σ H n Q S l q => h F σ H n Q S l fun v d H' s j k r => q v d H' s j (k.mono (off_sub S.sub)) r
theorem EA.r {ta : TA} {R : List PyData → Prop} (h : EA A ta ρ c R) : EAR A ta ρ c R := fun F σ H n Q S l q => h F σ H n Q S l fun v d H' s j k r => q v d H' s j (k.mono (off_sub S.sub)) r
theorem EE.imp (h : EE A te ρ c R) (k : ∀ d, R d → R' d) : EE A te ρ c R' := fun F σ H n Q S l q => h F σ H n Q S l fun v d H' s j e r => q v d H' s j e (k d r)
theorem ER.imp (h : ER A te ρ c R) (k : ∀ d, R d → R' d) : ER A te ρ c R' := fun F σ H n Q S l q => h F σ H n Q S l fun v d H' s j e r => q v d H' s j e (k d r)
theorem EA.imp {ta : TA} {R R' : List PyData → Prop} (h : EA A ta ρ c R) (k : ∀ d, R d → R' d) : EA A ta ρ c R' := fun F σ H n Q S l q => h F σ H n Q S l fun v d H' s j e r => q v d H' s j e (k d r)
theorem ET.imp {tt : TT} {R R' : Bool → Prop} (h : ET A tt ρ c R) (k : ∀ d, R d → R' d) : ET A tt ρ c R' := fun F σ H n Q S l q => h F σ H n Q S l fun b H' s j r => q b H' s j (k b r)
theorem EE.le (h : EE A te ρ c R) (hc : c ≤ c') : EE A te ρ c' R := fun F σ H n Q S l q => h F σ H n Q S (by omega) fun v d H' s j e r => q v d H' s (A.W.up _ _ _ (by omega) j) e r
theorem ER.le (h : ER A te ρ c R) (hc : c ≤ c') : ER A te ρ c' R := fun F σ H n Q S l q => h F σ H n Q S (by omega) fun v d H' s j e r => q v d H' s (A.W.up _ _ _ (by omega) j) e r
theorem EA.le {ta : TA} {R : List PyData → Prop} (h : EA A ta ρ c R) (hc : c ≤ c') : EA A ta ρ c' R := fun F σ H n Q S l q => h F σ H n Q S (by omega) fun v d H' s j e r => q v d H' s (A.W.up _ _ _ (by omega) j) e r
theorem ET.le {tt : TT} {R : Bool → Prop} (h : ET A tt ρ c R) (hc : c ≤ c') : ET A tt ρ c' R := fun F σ H n Q S l q => h F σ H n Q S (by omega) fun b H' s j r => q b H' s (A.W.up _ _ _ (by omega) j) r

theorem ee_var {i : Nat} {d : PyData} (h : ρ[i]? = some (.im d)) : EE A (tVar i) ρ 0 (· = d) := fun F σ H n Q S _ q => by
  obtain ⟨o, e, v, e2, k⟩ := S.slot i _ h
  rw [e2] at e
  exact ⟨v, e, q v d H (Same.refl _) S.j k rfl⟩
theorem er_own {i : Nat} {p : Addr} {ds : List PyData} (h : ρ[i]? = some (.own p ds)) : ER A (tVar i) ρ 0 (· = .list ds) := fun F σ H n Q S _ q => by
  obtain ⟨o, e, e2, hp, h0, xs, hx, k⟩ := S.slot i _ h
  rw [e2] at e
  exact ⟨.ref p, e, q _ _ H (Same.refl _) S.j (.lst (off_of (A.fresh_nfs h0) hx) (k.mono (off_sub S.sub))) rfl⟩
theorem ee_int {i : Int} : EE A (tC (.int i)) ρ 0 (· = .int i) := fun F σ H n Q S _ q => q _ _ H (Same.refl _) S.j (.int i) rfl
theorem ee_str {x : Str} : EE A (tC (.str x)) ρ 0 (· = .str x) := fun F σ H n Q S _ q => q _ _ H (Same.refl _) S.j (.str x) rfl
theorem ee_bl {b : Bool} : EE A (tC (.bl b)) ρ 0 (· = .bool b) := fun F σ H n Q S _ q => q _ _ H (Same.refl _) S.j (.bl b) rfl
theorem ee_non : EE A (tC .non) ρ 0 (· = .none) := fun F σ H n Q S _ q => q _ _ H (Same.refl _) S.j .non rfl

/-- two operands, a scalar result: rule by values -/
theorem ee_op2 {r : R2} (h1 : ER A ta ρ c1 Ra) (h2 : ER A tb ρ c2 Rb)
    (hr : ∀ d1 d2, Ra d1 → Rb d2 → ∀ (H : Hp) (x y : V) (Q : VK), DD H x d1 → DD H y d2 → (∀ v d, (∀ G, DD G v d) → R d → Q v H) → r x y H Q) : EE A (tOp r ta tb) ρ (c1 + c2) R := fun F σ H n Q S l q => by
  refine h1 F σ H n _ S (by omega) fun v d H1 s1 j1 k1 r1 => ?_
  have S1 := S.step s1 j1
  refine h2 F σ H1 (n + c1) _ S1 (by omega) fun v2 d2 H2 s2 j2 k2 r2 => ?_
  have s0 : Same (off A.F0 H1) (off A.F0 H2) := off_mono A.sub s2
  exact hr d d2 r1 r2 H2 v v2 Q ((k1.mono s0).mono off_le) (k2.mono off_le) (fun w e he re => q w e H2 (s1.trans s2) (by rw [Nat.add_assoc] at j2; exact j2) (he _) re)
end
end DL

set_option linter.all false
set_option maxRecDepth 100000
set_option maxHeartbeats 4000000
/-! DL2: rules for expressions as data -/
namespace DL
open PySem PySem.Spec L2

section
variable {A : Amb} {ρ : List SV} {te ta tb : TE} {c c' c1 c2 c3 : Nat} {R R' Ra Rb Rc : PyData → Prop} {K : PySem.W.Frag} {tl tr : TA} {RA RB : List PyData → Prop}

/-! ### argument lists, displays -/
theorem ea_nil : EA A tNil ρ 0 (· = []) := fun F σ H n Q S _ q => q [] [] H (Same.refl _) S.j .nil rfl
theorem ea_consR (h1 : EE A te ρ c1 R) (h2 : EA A tr ρ c2 RA) : EA A (tCons te tr) ρ (c1 + c2) (fun l => ∃ d ds, R d ∧ RA ds ∧ l = d :: ds) := fun F σ H n Q S l q => by
  refine h1 F σ H n _ S (by omega) fun v d H1 s1 j1 k1 r1 => ?_
  have S1 := S.step s1 j1
  refine h2 F σ H1 (n + c1) _ S1 (by omega) fun vs ds H2 s2 j2 k2 r2 => ?_
  exact q (v :: vs) (d :: ds) H2 (s1.trans s2) (by rw [Nat.add_assoc] at j2; exact j2) (.cons (k1.mono (S1.offF s2)) k2) ⟨d, ds, r1, r2, rfl⟩
theorem ea_cons {d : PyData} {ds : List PyData} (h1 : EE A te ρ c1 (· = d)) (h2 : EA A tr ρ c2 (· = ds)) : EA A (tCons te tr) ρ (c1 + c2) (· = d :: ds) :=
  (ea_consR h1 h2).imp fun l ⟨d, ds, e1, e2, e3⟩ => by rw [e3, e1, e2]
theorem EAR.imp (h : EAR A tl ρ c RA) (k : ∀ d, RA d → RB d) : EAR A tl ρ c RB := fun F σ H n Q S l q => h F σ H n Q S l fun v d H' s j e r => q v d H' s j e (k d r)
theorem ear_nil : EAR A tNil ρ 0 (· = []) := ea_nil.r
theorem ear_consR (h1 : ER A te ρ c1 R) (h2 : EAR A tr ρ c2 RA) : EAR A (tCons te tr) ρ (c1 + c2) (fun l => ∃ d ds, R d ∧ RA ds ∧ l = d :: ds) := fun F σ H n Q S l q => by
  refine h1 F σ H n _ S (by omega) fun v d H1 s1 j1 k1 r1 => ?_
  have S1 := S.step s1 j1
  refine h2 F σ H1 (n + c1) _ S1 (by omega) fun vs ds H2 s2 j2 k2 r2 => ?_
  exact q (v :: vs) (d :: ds) H2 (s1.trans s2) (by rw [Nat.add_assoc] at j2; exact j2) (.cons (k1.mono (off_mono A.sub s2)) k2) ⟨d, ds, r1, r2, rfl⟩
theorem ear_cons {d : PyData} {ds : List PyData} (h1 : ER A te ρ c1 (· = d)) (h2 : EAR A tr ρ c2 (· = ds)) : EAR A (tCons te tr) ρ (c1 + c2) (· = d :: ds) :=
  (ear_consR h1 h2).imp fun l ⟨d, ds, e1, e2, e3⟩ => by rw [e3, e1, e2]

/-- a new object of data -/
theorem new_lst {F : Fp} {σ : L2.St} {H : Hp} {n : Nat} (S : St8 A F ρ σ H n) {p : Addr} (hp : H p = none) {vs : List V} {ds : List PyData} (k : DA (off F.fs H) vs ds) : DD (off F.fs (upd H p (.lst vs))) (.ref p) (.list ds) :=
  .lst (off_of (S.fresh hp) upd_same) (k.mono (same_off (same_new hp)))
theorem new_tup {F : Fp} {σ : L2.St} {H : Hp} {n : Nat} (S : St8 A F ρ σ H n) {p : Addr} (hp : H p = none) {vs : List V} {ds : List PyData} (k : DA (off F.fs H) vs ds) : DD (off F.fs (upd H p (.tup vs))) (.ref p) (.tuple ds) :=
  .tup (off_of (S.fresh hp) upd_same) (k.mono (same_off (same_new hp)))
theorem ee_lstR (h : EA A tl ρ c RA) (hl : ∀ ds, RA ds → ds.length ≤ sizeLine) : EE A (tLst tl) ρ c (fun d => ∃ ds, RA ds ∧ d = .list ds) := fun F σ H n Q S l q => by
  refine h F σ H n _ S l fun vs ds H1 s j k r => ⟨by rw [k.length]; exact hl _ r, fun p hp => ?_⟩
  have S1 := S.step s j
  exact q _ _ _ (s.trans (S1.newS hp)) (S1.newJ hp) (new_lst S1 hp k) ⟨ds, r, rfl⟩
theorem ee_lst {ds : List PyData} (h : EA A tl ρ c (· = ds)) (hl : ds.length ≤ sizeLine := by show _ ≤ _; simp only [List.length_cons, List.length_nil]; decide) : EE A (tLst tl) ρ c (· = .list ds) :=
  (ee_lstR h fun _ e => by rw [e]; exact hl).imp fun d ⟨x, e1, e2⟩ => by rw [e2, e1]
theorem ee_tupR (h : EA A tl ρ c RA) (hl : ∀ ds, RA ds → ds.length ≤ sizeLine) : EE A (tTup tl) ρ c (fun d => ∃ ds, RA ds ∧ d = .tuple ds) := fun F σ H n Q S l q => by
  refine h F σ H n _ S l fun vs ds H1 s j k r => ⟨by rw [k.length]; exact hl _ r, fun p hp => ?_⟩
  have S1 := S.step s j
  exact q _ _ _ (s.trans (S1.newS hp)) (S1.newJ hp) (new_tup S1 hp k) ⟨ds, r, rfl⟩
theorem ee_tup {ds : List PyData} (h : EA A tl ρ c (· = ds)) (hl : ds.length ≤ sizeLine := by show _ ≤ _; simp only [List.length_cons, List.length_nil]; decide) : EE A (tTup tl) ρ c (· = .tuple ds) :=
  (ee_tupR h fun _ e => by rw [e]; exact hl).imp fun d ⟨x, e1, e2⟩ => by rw [e2, e1]

/-! ### operators with a scalar result -/
/-- by values: d1, d2 give what R says -/
def Opd (r : L2.R2) (d1 d2 : PyData) (R : PyData → Prop) : Prop := ∀ (H : Hp) (x y : V) (Q : VK), DD H x d1 → DD H y d2 → (∀ v d, (∀ G, DD G v d) → R d → Q v H) → r x y H Q
theorem ee_opR {r : L2.R2} (h1 : ER A ta ρ c1 Ra) (h2 : ER A tb ρ c2 Rb) (hr : ∀ d1 d2, Ra d1 → Rb d2 → Opd r d1 d2 R) : EE A (tOp r ta tb) ρ (c1 + c2) R := ee_op2 h1 h2 fun d1 d2 a b H x y Q => hr d1 d2 a b H x y Q
theorem ee_op {r : L2.R2} {d1 d2 : PyData} (h1 : ER A ta ρ c1 (· = d1)) (h2 : ER A tb ρ c2 (· = d2)) (hr : Opd r d1 d2 R) : EE A (tOp r ta tb) ρ (c1 + c2) R :=
  ee_opR h1 h2 fun a b e1 e2 => by subst e1 e2; exact hr
theorem Opd.imp {r : L2.R2} {d1 d2 : PyData} (h : Opd r d1 d2 R) (k : ∀ d, R d → R' d) : Opd r d1 d2 R' := fun H x y Q h1 h2 q => h H x y Q h1 h2 fun v d a b => q v d a (k d b)
theorem opd_i0 {g : Int → Int → Int} {i j : Int} : Opd (rI0 fun i j => .int (g i j)) (.int i) (.int j) (· = .int (g i j)) := fun H x y Q h1 h2 q => by
  cases h1; cases h2
  exact ⟨i, j, rfl, rfl, q _ _ (fun G => .int _) rfl⟩
theorem opd_b0 {g : Int → Int → Bool} {i j : Int} : Opd (rI0 fun i j => .bl (g i j)) (.int i) (.int j) (· = .bool (g i j)) := fun H x y Q h1 h2 q => by
  cases h1; cases h2
  exact ⟨i, j, rfl, rfl, q _ _ (fun G => .bl _) rfl⟩
theorem opd_i {C : Int → Int → Prop} {g : Int → Int → Int} {i j : Int} (hc : C i j) : Opd (rI C fun i j => .int (g i j)) (.int i) (.int j) (· = .int (g i j)) := fun H x y Q h1 h2 q => by
  cases h1; cases h2
  exact ⟨i, j, rfl, rfl, hc, q _ _ (fun G => .int _) rfl⟩
def rAddS2 : L2.R2 := fun x y H Q => ∃ i j, x = .str i ∧ y = .str j ∧ i.length + j.length ≤ sizeLine ∧ Q (.str (i ++ j)) H
theorem opd_adds {i j : Str} (hc : i.length + j.length ≤ sizeLine) : Opd (fun x y H Q => ∃ i j, x = .str i ∧ y = .str j ∧ i.length + j.length ≤ sizeLine ∧ Q (.str (i ++ j)) H) (.str i) (.str j) (· = .str (i ++ j)) := fun H x y Q h1 h2 q => by
  cases h1; cases h2
  exact ⟨i, j, rfl, rfl, hc, q _ _ (fun G => .str _) rfl⟩
/-- in, not in over flat things -/
def flatD : PyData → Bool
  | .none | .bool _ | .int _ | .str _ => true
  | _ => false
theorem flat_of {H : Hp} {v : V} {d : PyData} (h : DD H v d) (f : flatD d = true) : flatV v = true := by
  cases h <;> first | rfl | cases f
theorem flat_eqv {H : Hp} {v w : V} {d e : PyData} (h : DD H v d) (k : DD H w e) (f : flatD d = true) (g : flatD e = true) : eqV v w = PyData.eqv d e := by
  cases h <;> first
    | (cases f; done)
    | (cases k <;> first
        | (cases g; done)
        | (simp [eqV, PyData.eqv]; done))
theorem flat_all {H : Hp} : ∀ {vs : List V} {ds : List PyData}, DA H vs ds → ds.all flatD = true → vs.all flatV = true
  | _, _, .nil, _ => rfl
  | _, _, .cons h t, f => by
    rw [List.all_cons, Bool.and_eq_true] at f
    rw [List.all_cons, flat_of h f.1, flat_all t f.2]
    rfl
theorem flat_any {H : Hp} {x : V} {d : PyData} (hx : DD H x d) (fx : flatD d = true) : ∀ {vs : List V} {ds : List PyData}, DA H vs ds → ds.all flatD = true → (inV x vs) = ds.any fun e => PyData.eqv e d
  | _, _, .nil, _ => rfl
  | _, _, .cons h t, f => by
    rw [List.all_cons, Bool.and_eq_true] at f
    have ih := flat_any hx fx t f.2
    unfold inV at ih ⊢
    rw [List.any_cons, List.any_cons, ih, flat_eqv h hx f.1 fx]
theorem opd_in {neg : Bool} {d : PyData} {ds : List PyData} (f : flatD d = true) (g : ds.all flatD = true) : Opd (rIn K neg) d (.list ds) (· = .bool (if neg then !(ds.any fun e => PyData.eqv e d) else ds.any fun e => PyData.eqv e d)) := fun H x y Q h1 h2 q => by
  cases h2 with
  | lst hp k =>
    refine ⟨_, _, rfl, .inl (.inl (.inl hp)), flat_of h1 f, flat_all k g, ?_⟩
    rw [flat_any h1 f k g]
    exact q _ _ (fun G => .bl _) rfl
theorem opd_inT {neg : Bool} {d : PyData} {ds : List PyData} (f : flatD d = true) (g : ds.all flatD = true) : Opd (rIn K neg) d (.tuple ds) (· = .bool (if neg then !(ds.any fun e => PyData.eqv e d) else ds.any fun e => PyData.eqv e d)) := fun H x y Q h1 h2 q => by
  cases h2 with
  | tup hp k =>
    refine ⟨_, _, rfl, .inr (.inl (.inl hp)), flat_of h1 f, flat_all k g, ?_⟩
    rw [flat_any h1 f k g]
    exact q _ _ (fun G => .bl _) rfl
def toV : PyData → V
  | .none => .non
  | .bool b => .bl b
  | .int i => .int i
  | .str x => .str x
  | _ => .non
theorem DD.toV {H : Hp} {v : V} {d : PyData} (h : DD H v d) (f : flatD d = true) : v = DL.toV d := by
  cases h <;> first | rfl | cases f
/-- == of scalars, by the library's small rule -/
theorem opd_eqS {d e : PyData} (f : flatD d = true) (g : flatD e = true) (hs : scal (toV d) (toV e) = true) : Opd rEq d e (· = .bool (decide (toV d = toV e))) := fun H x y Q h1 h2 q => by
  rw [h1.toV f, h2.toV g]
  exact ⟨hs, q _ _ (fun G => .bl _) rfl⟩
theorem opd_neS {d e : PyData} (f : flatD d = true) (g : flatD e = true) (hs : scal (toV d) (toV e) = true) : Opd rNe d e (· = .bool (!decide (toV d = toV e))) := fun H x y Q h1 h2 q => by
  rw [h1.toV f, h2.toV g]
  exact ⟨hs, q _ _ (fun G => .bl _) rfl⟩

/-! ### subscripts -/
theorem atI_map {α β : Type} (f : α → β) (xs : List α) (i : Int) : atI (xs.map f) i = (atI xs i).map f := by
  unfold atI
  rw [List.length_map]
  cases ixN xs.length i with
  | none => rfl
  | some j => exact List.getElem?_map
theorem DA.atI {H : Hp} {vs : List V} {ds : List PyData} {i : Int} {d : PyData} (k : DA H vs ds) (h : atI ds i = some d) : ∃ v, L2.atI vs i = some v ∧ DD H v d := by
  unfold L2.atI at h ⊢
  rw [k.length]
  cases e : ixN ds.length i with
  | none =>
    rw [e] at h
    cases h
  | some j =>
    rw [e] at h
    exact DA.at k h
theorem ee_ixR (h1 : EE A ta ρ c1 Ra) (h2 : ER A tb ρ c2 Rb) (hr : ∀ d1 d2, Ra d1 → Rb d2 → ∃ ds i d, (d1 = .list ds ∨ d1 = .tuple ds) ∧ d2 = .int i ∧ atI ds i = some d ∧ R d) : EE A (tOp (rIx K) ta tb) ρ (c1 + c2) R := fun F σ H n Q S l q => by
  refine h1 F σ H n _ S (by omega) fun v d1 H1 s1 j1 k1 r1 => ?_
  have S1 := S.step s1 j1
  refine h2 F σ H1 (n + c1) _ S1 (by omega) fun w d2 H2 s2 j2 k2 r2 => ?_
  obtain ⟨ds, i, d, e1, e2, e3, e4⟩ := hr d1 d2 r1 r2
  have k1' := k1.mono (S1.offF s2)
  subst e2
  cases k2
  have fin : ∀ u, DD (off F.fs H2) u d → Q u H2 := fun u hu => q u d H2 (s1.trans s2) (by rw [Nat.add_assoc] at j2; exact j2) hu e4
  rcases e1 with e1 | e1
  · subst e1
    cases k1' with
    | lst hp k =>
      obtain ⟨u, hu, ku⟩ := k.atI e3
      exact .inl ⟨_, _, i, u, rfl, rfl, .inl (.inl (off_some hp).2), hu, fin u ku⟩
  · subst e1
    cases k1' with
    | tup hp k =>
      obtain ⟨u, hu, ku⟩ := k.atI e3
      exact .inr (.inl ⟨_, _, i, u, rfl, rfl, .inl (.inl (off_some hp).2), hu, fin u ku⟩)
/-- a text's sign -/
theorem opd_ixS {x : Str} {i : Int} {z : Nat} (hz : x.length ≤ sizeLine) (h : atI x.cps.toList i = some z) : Opd (rIx K) (.str x) (.int i) (· = .str ⟨#[z]⟩) := fun H a b Q h1 h2 q => by
  cases h1; cases h2
  exact .inr (.inr ⟨x, i, z, rfl, rfl, hz, h, q _ _ (fun G => .str _) rfl⟩)

/-! ### slices -/
def EO (A : Amb) (to : TO) (ρ : List SV) (c : Nat) (R : Option Int → Prop) : Prop := ∀ F σ H n Q, St8 A F ρ σ H n → n + c ≤ LIM →
  (∀ o H', Same (off A.W.fs H) (off A.W.fs H') → A.W.J (n + c) H' → R o → Q o H') → to σ H Q
theorem eo_none : EO A tNoPart ρ 0 (· = none) := fun F σ H n Q S _ q => q none H (Same.refl _) S.j rfl
theorem eo_someR (h : ER A te ρ c R) (k : ∀ d, R d → ∃ i, d = .int i) : EO A (tPart te) ρ c (fun o => ∃ i, o = some i ∧ R (.int i)) := fun F σ H n Q S l q => by
  refine h F σ H n _ S l fun v d H1 s j kd r => ?_
  obtain ⟨i, rfl⟩ := k d r
  cases kd
  exact ⟨i, rfl, q _ _ s j ⟨i, rfl, r⟩⟩
theorem eo_some {i : Int} (h : ER A te ρ c (· = .int i)) : EO A (tPart te) ρ c (· = some i) := fun F σ H n Q S l q => by
  refine h F σ H n _ S l fun v d H1 s j kd r => ?_
  subst r
  cases kd
  exact ⟨i, rfl, q _ _ s j rfl⟩
/-- xs[lo:hi] as data -/
def cutD (ds : List PyData) (lo hi : Option Int) : List PyData := (ds.drop (HT.sIx ds.length 0 lo)).take (HT.sIx ds.length ds.length hi - HT.sIx ds.length 0 lo)
theorem DA.cut {H : Hp} {vs : List V} {ds : List PyData} (k : DA H vs ds) (lo hi : Option Int) : DA H (cutV vs lo hi) (cutD ds lo hi) := by
  unfold cutV cutD
  rw [k.length]
  exact (k.drop _).take _
def rSlB (K : PySem.W.Frag) : V → Option Int → Option Int → Hp → VK → Prop := fun x lo hi H Q => rSlL K x lo hi H Q ∨ rSlS x lo hi H Q
theorem sl_both {X : Cx} : SlR X (rSlB X.K) := SlR.or sl_list sl_str
theorem ee_slR {tl th : TO} {RO RO' : Option Int → Prop} (h1 : EE A ta ρ c1 Ra) (h2 : EO A tl ρ c2 RO) (h3 : EO A th ρ c3 RO')
    (hr : ∀ d lo hi, Ra d → RO lo → RO' hi → (∃ ds, d = .list ds ∧ R (.list (cutD ds lo hi))) ∨ (∃ z, d = .str z ∧ z.length ≤ sizeLine ∧ R (.str (cutS z lo hi)))) :
    EE A (tSl (rSlB K) ta tl th) ρ (c1 + c2 + c3) R := fun F σ H n Q S l q => by
  refine h1 F σ H n _ S (by omega) fun v d H1 s1 j1 k1 r1 => ?_
  have S1 := S.step s1 j1
  refine h2 F σ H1 (n + c1) _ S1 (by omega) fun lo H2 s2 j2 r2 => ?_
  have S2 := S1.step s2 j2
  refine h3 F σ H2 (n + c1 + c2) _ S2 (by omega) fun hi H3 s3 j3 r3 => ?_
  have S3 := S2.step s3 j3
  have k3 := (k1.mono (S1.offF s2)).mono (S2.offF s3)
  have j4 : A.W.J (n + (c1 + c2 + c3)) H3 := by
    have e : n + (c1 + c2 + c3) = n + c1 + c2 + c3 := by omega
    rw [e]
    exact j3
  rcases hr d lo hi r1 r2 r3 with ⟨ds, e, k⟩ | ⟨z, e, hz, k⟩
  · subst e
    cases k3 with
    | lst hp kk =>
      refine .inl ⟨_, _, rfl, .inl (.inl (off_some hp).2), fun p hn => ?_⟩
      exact q _ _ _ (((s1.trans s2).trans s3).trans (S3.newS hn)) (A.W.up _ _ _ (by omega) (S3.newJ hn)) (new_lst S3 hn (kk.cut lo hi)) k
  · subst e
    cases k3
    exact .inr ⟨z, rfl, hz, q _ _ _ ((s1.trans s2).trans s3) j4 (.str _) k⟩

/-! ### lists glued -/
theorem ee_catR (h1 : EE A ta ρ c1 Ra) (h2 : EE A tb ρ c2 Rb) (hr : ∀ d1 d2, Ra d1 → Rb d2 → ∃ ds es, d1 = .list ds ∧ d2 = .list es ∧ ds.length + es.length ≤ sizeLine ∧ R (.list (ds ++ es))) : EE A (tOp rCat ta tb) ρ (c1 + c2) R := fun F σ H n Q S l q => by
  refine h1 F σ H n _ S (by omega) fun v d1 H1 s1 j1 k1 r1 => ?_
  have S1 := S.step s1 j1
  refine h2 F σ H1 (n + c1) _ S1 (by omega) fun w d2 H2 s2 j2 k2 r2 => ?_
  have S2 := S1.step s2 j2
  obtain ⟨ds, es, e1, e2, e3, e4⟩ := hr d1 d2 r1 r2
  subst e1 e2
  have k1' := k1.mono (S1.offF s2)
  cases k1' with
  | lst hp kp =>
    cases k2 with
    | lst hq kq =>
      refine ⟨_, _, _, _, rfl, rfl, (off_some hp).2, (off_some hq).2, by rw [kp.length, kq.length]; exact e3, fun p hn => ?_⟩
      exact q _ _ _ ((s1.trans s2).trans (S2.newS hn)) (by rw [← Nat.add_assoc]; exact S2.newJ hn) (new_lst S2 hn (kp.append kq)) e4
theorem ee_cat {ds es : List PyData} (h1 : EE A ta ρ c1 (· = .list ds)) (h2 : EE A tb ρ c2 (· = .list es)) (hl : ds.length + es.length ≤ sizeLine) : EE A (tOp rCat ta tb) ρ (c1 + c2) (· = .list (ds ++ es)) :=
  ee_catR h1 h2 fun d1 d2 e1 e2 => ⟨ds, es, e1, e2, hl, rfl⟩

/-! ### built-ins by name with a scalar result -/
def Cld (r : List V → Hp → VK → Prop) (ds : List PyData) (R : PyData → Prop) : Prop := ∀ (H : Hp) (vs : List V) (Q : VK), DA H vs ds → (∀ v d, (∀ G, DD G v d) → R d → Q v H) → r vs H Q
theorem ee_cbR {r : List V → Hp → VK → Prop} (h : EAR A tl ρ c RA) (hr : ∀ ds, RA ds → Cld r ds R) : EE A (tCB r tl) ρ c R := fun F σ H n Q S l q => by
  refine h F σ H n _ S l fun vs ds H1 s j k r => ?_
  exact hr ds r H1 vs Q (k.mono off_le) fun v d a b => q v d H1 s j (a _) b
theorem ee_cb {r : List V → Hp → VK → Prop} {ds : List PyData} (h : EAR A tl ρ c (· = ds)) (hr : Cld r ds R) : EE A (tCB r tl) ρ c R := ee_cbR h fun _ e => by rw [e]; exact hr
def rLen (K : PySem.W.Frag) : List V → Hp → VK → Prop := fun xs H Q => (∃ p ys, xs = [.ref p] ∧ (SqL K H p ys ∨ SqT K H p ys) ∧ Q (.int ys.length) H) ∨ (∃ z, xs = [.str z] ∧ z.length ≤ sizeLine ∧ Q (.int z.length) H)
theorem call_lenB {X : Cx} : CallR X (.builtin "len") (rLen X.K) := CallR.or call_len_seq call_len_str
theorem cld_lenL {ds : List PyData} : Cld (rLen K) [.list ds] (· = .int ds.length) := fun H vs Q k q => by
  cases k with
  | cons h t =>
    cases t
    cases h with
    | lst hp kk =>
      refine .inl ⟨_, _, rfl, .inl (.inl (.inl hp)), ?_⟩
      rw [kk.length]
      exact q _ _ (fun G => .int _) rfl
theorem cld_lenT {ds : List PyData} : Cld (rLen K) [.tuple ds] (· = .int ds.length) := fun H vs Q k q => by
  cases k with
  | cons h t =>
    cases t
    cases h with
    | tup hp kk =>
      refine .inl ⟨_, _, rfl, .inr (.inl (.inl hp)), ?_⟩
      rw [kk.length]
      exact q _ _ (fun G => .int _) rfl
theorem cld_lenS {x : Str} (hx : x.length ≤ sizeLine) : Cld (rLen K) [.str x] (· = .int x.length) := fun H vs Q k q => by
  cases k with
  | cons h t =>
    cases t
    cases h
    exact .inr ⟨x, rfl, hx, q _ _ (fun G => .int _) rfl⟩
theorem cld_max2 {i j : Int} : Cld (fun xs H Q => ∃ i j, xs = [.int i, .int j] ∧ Q (.int (if j > i then j else i)) H) [.int i, .int j] (· = .int (if j > i then j else i)) := fun H vs Q k q => by
  cases k with
  | cons h t =>
    cases t with
    | cons h2 t2 =>
      cases t2
      cases h
      cases h2
      exact ⟨i, j, rfl, q _ _ (fun G => .int _) rfl⟩
theorem cld_min2 {i j : Int} : Cld (fun xs H Q => ∃ i j, xs = [.int i, .int j] ∧ Q (.int (if j < i then j else i)) H) [.int i, .int j] (· = .int (if j < i then j else i)) := fun H vs Q k q => by
  cases k with
  | cons h t =>
    cases t with
    | cons h2 t2 =>
      cases t2
      cases h
      cases h2
      exact ⟨i, j, rfl, q _ _ (fun G => .int _) rfl⟩
theorem cld_int1 {b : Bool} : Cld (fun xs H Q => (∃ i, xs = [.int i] ∧ Q (.int i) H) ∨ ∃ k, xs = [.bl k] ∧ Q (.int (if k then 1 else 0)) H) [.bool b] (· = .int (if b then 1 else 0)) := fun H vs Q k q => by
  cases k with
  | cons h t =>
    cases t
    cases h
    exact .inr ⟨b, rfl, q _ _ (fun G => .int _) rfl⟩
theorem cld_all {bs : List Bool} : Cld (rAll K) [.list (bs.map .bool)] (· = .bool (bs.all id)) := fun H vs Q k q => by
  cases k with
  | cons h t =>
    cases t
    cases h with
    | lst hp kk =>
      have e := kk.bools
      subst e
      exact ⟨_, bs, rfl, .inl (.inl hp), q _ _ (fun G => .bl _) rfl⟩
theorem cld_any {bs : List Bool} : Cld (rAny K) [.list (bs.map .bool)] (· = .bool (bs.any id)) := fun H vs Q k q => by
  cases k with
  | cons h t =>
    cases t
    cases h with
    | lst hp kk =>
      have e := kk.bools
      subst e
      exact ⟨_, bs, rfl, .inl (.inl hp), q _ _ (fun G => .bl _) rfl⟩

/-! ### tests -/
theorem et_val (h : ER A te ρ c R) (k : ∀ d, R d → ∃ b, d = .bool b) : ET A (tB te) ρ c (fun b => R (.bool b)) := fun F σ H n Q S l q => by
  refine h F σ H n _ S l fun v d H1 s j kd r => ?_
  obtain ⟨b, rfl⟩ := k d r
  cases kd
  exact ⟨b, rfl, q b H1 s j r⟩
theorem et_bool {b : Bool} (h : ER A te ρ c (· = .bool b)) : ET A (tB te) ρ c (· = b) := (et_val h fun d e => ⟨b, e⟩).imp fun b' e => by injection e
theorem et_test (h : ER A te ρ c R) (k : ∀ d, R d → ∃ b, d = .bool b) : ET A (tTest te) ρ c (fun b => R (.bool b)) := fun F σ H n Q S l q => by
  refine h F σ H n _ S l fun v d H1 s j kd r => ?_
  obtain ⟨b, rfl⟩ := k d r
  cases kd
  exact ⟨b, rfl, q b H1 s j r⟩
theorem et_testB {b : Bool} (h : ER A te ρ c (· = .bool b)) : ET A (tTest te) ρ c (· = b) := (et_test h fun d e => ⟨b, e⟩).imp fun b' e => by injection e
theorem et_not {t : TT} {P : Bool → Prop} (h : ET A t ρ c P) : ET A (tNot t) ρ c (fun b => P (!b)) := fun F σ H n Q S l q => h F σ H n _ S l fun b H1 s j r => q (!b) H1 s j (by show P (!!b); rw [Bool.not_not]; exact r)
theorem et_notB {t : TT} {b : Bool} (h : ET A t ρ c (· = b)) : ET A (tNot t) ρ c (· = !b) := (et_not h).imp fun b' e => by rw [← e, Bool.not_not]
theorem et_andR {t u : TT} {P P' : Bool → Prop} {RR : Bool → Prop} (h : ET A t ρ c1 P) (h2 : P true → ET A u ρ c2 P') (k1 : P false → RR false) (k2 : ∀ b, P true → P' b → RR b) : ET A (tAnd t u) ρ (c1 + c2) RR := fun F σ H n Q S l q => by
  refine h F σ H n _ S (by omega) fun b H1 s j r => ?_
  cases b with
  | true =>
    show u σ H1 Q
    refine h2 r F σ H1 (n + c1) _ (S.step s j) (by omega) fun b' H2 s2 j2 r2 => q b' H2 (s.trans s2) (by rw [← Nat.add_assoc]; exact j2) (k2 b' r r2)
  | false =>
    show Q false H1
    exact q false H1 s (A.W.up _ _ _ (by omega) j) (k1 r)
theorem et_and {t u : TT} {a b : Bool} (h : ET A t ρ c1 (· = a)) (h2 : a = true → ET A u ρ c2 (· = b)) : ET A (tAnd t u) ρ (c1 + c2) (· = (a && b)) :=
  et_andR h (fun e => h2 e.symm) (fun e => by rw [← e]; rfl) fun b' e e2 => by rw [← e, e2]; rfl
theorem et_orR {t u : TT} {P P' : Bool → Prop} {RR : Bool → Prop} (h : ET A t ρ c1 P) (h2 : P false → ET A u ρ c2 P') (k1 : P true → RR true) (k2 : ∀ b, P false → P' b → RR b) : ET A (tOr t u) ρ (c1 + c2) RR := fun F σ H n Q S l q => by
  refine h F σ H n _ S (by omega) fun b H1 s j r => ?_
  cases b with
  | false =>
    show u σ H1 Q
    refine h2 r F σ H1 (n + c1) _ (S.step s j) (by omega) fun b' H2 s2 j2 r2 => q b' H2 (s.trans s2) (by rw [← Nat.add_assoc]; exact j2) (k2 b' r r2)
  | true =>
    show Q true H1
    exact q true H1 s (A.W.up _ _ _ (by omega) j) (k1 r)
theorem et_or {t u : TT} {a b : Bool} (h : ET A t ρ c1 (· = a)) (h2 : a = false → ET A u ρ c2 (· = b)) : ET A (tOr t u) ρ (c1 + c2) (· = (a || b)) :=
  et_orR h (fun e => h2 e.symm) (fun e => by rw [← e]; rfl) fun b' e e2 => by rw [← e, e2]; rfl
theorem ee_andV {a b : Bool} (h1 : ER A ta ρ c1 (· = .bool a)) (h2 : a = true → EE A tb ρ c2 (· = .bool b)) : EE A (tAndV ta tb) ρ (c1 + c2) (· = .bool (a && b)) := fun F σ H n Q S l q => by
  refine h1 F σ H n _ S (by omega) fun v d H1 s j k r => ?_
  subst r
  cases k
  refine ⟨a, rfl, ?_⟩
  cases a with
  | true =>
    show tb σ H1 Q
    exact h2 rfl F σ H1 (n + c1) _ (S.step s j) (by omega) fun v d H2 s2 j2 k2 r2 => q v d H2 (s.trans s2) (by rw [← Nat.add_assoc]; exact j2) k2 r2
  | false =>
    show Q (.bl false) H1
    exact q _ _ H1 s (A.W.up _ _ _ (by omega) j) (.bl _) rfl
theorem ee_orV {a b : Bool} (h1 : ER A ta ρ c1 (· = .bool a)) (h2 : a = false → EE A tb ρ c2 (· = .bool b)) : EE A (tOrV ta tb) ρ (c1 + c2) (· = .bool (a || b)) := fun F σ H n Q S l q => by
  refine h1 F σ H n _ S (by omega) fun v d H1 s j k r => ?_
  subst r
  cases k
  refine ⟨a, rfl, ?_⟩
  cases a with
  | false =>
    show tb σ H1 Q
    exact h2 rfl F σ H1 (n + c1) _ (S.step s j) (by omega) fun v d H2 s2 j2 k2 r2 => q v d H2 (s.trans s2) (by rw [← Nat.add_assoc]; exact j2) k2 r2
  | true =>
    show Q (.bl true) H1
    exact q _ _ H1 s (A.W.up _ _ _ (by omega) j) (.bl _) rfl
theorem ee_notV {a : Bool} (h1 : ER A ta ρ c (· = .bool a)) : EE A (tNotV ta) ρ c (· = .bool (!a)) := fun F σ H n Q S l q => by
  refine h1 F σ H n _ S l fun v d H1 s j k r => ?_
  subst r
  cases k
  exact ⟨a, rfl, q _ _ H1 s j (.bl _) rfl⟩
theorem ee_ifR {t : TT} {P : Bool → Prop} (h : ET A t ρ c1 P) (h1 : P true → EE A ta ρ c2 R) (h2 : P false → EE A tb ρ c2 R) : EE A (tIf t ta tb) ρ (c1 + c2) R := fun F σ H n Q S l q => by
  refine h F σ H n _ S (by omega) fun b H1 s j r => ?_
  cases b with
  | true =>
    show ta σ H1 Q
    exact h1 r F σ H1 (n + c1) _ (S.step s j) (by omega) fun v d H2 s2 j2 k2 r2 => q v d H2 (s.trans s2) (by rw [← Nat.add_assoc]; exact j2) k2 r2
  | false =>
    show tb σ H1 Q
    exact h2 r F σ H1 (n + c1) _ (S.step s j) (by omega) fun v d H2 s2 j2 k2 r2 => q v d H2 (s.trans s2) (by rw [← Nat.add_assoc]; exact j2) k2 r2

/-! ### what a def promises, as data -/
/-- a def that changes nothing -/
def SPp (pre : List PyData → Prop) (post : List PyData → PyData → Prop) : Sp := fun vs H Q _ => ∃ (fs : List Addr) (ds : List PyData), (∀ a ∈ fs, ∃ o, H a = some o) ∧ DA (off fs H) vs ds ∧ pre ds ∧
  ∀ v d H', Same H H' → DD (off fs H') v d → post ds d → Q v H'
theorem ee_callp {pre : List PyData → Prop} {post : List PyData → PyData → Prop} {dvs : List V} {dds : List PyData} {E : XK} (h : EA A tl ρ c RA) (hp : ∀ ds, RA ds → pre (ds ++ dds)) (hd : ∀ G, DA G dvs dds := by intro G; exact .nil) :
    EE A (tCall (SPp pre post) dvs E tl) ρ c (fun d => ∃ ds, RA ds ∧ post (ds ++ dds) d) := fun F σ H n Q S l q => by
  refine h F σ H n _ S l fun vs ds H1 s j k r => ?_
  have S1 := S.step s j
  refine ⟨F.fs, ds ++ dds, S1.trk, k.append (hd _), hp ds r, fun v d H2 s2 k2 p2 => ?_⟩
  exact q v d H2 (s.trans (same_off s2)) (A.W.stay _ _ _ j fun a _ o e => s2 a o e) k2 ⟨ds, r, p2⟩
theorem er_callp {pre : List PyData → Prop} {post : List PyData → PyData → Prop} {dvs : List V} {dds : List PyData} {E : XK} (h : EAR A tl ρ c RA) (hp : ∀ ds, RA ds → pre (ds ++ dds)) (hd : ∀ G, DA G dvs dds := by intro G; exact .nil) :
    ER A (tCall (SPp pre post) dvs E tl) ρ c (fun d => ∃ ds, RA ds ∧ post (ds ++ dds) d) := fun F σ H n Q S l q => by
  refine h F σ H n _ S l fun vs ds H1 s j k r => ?_
  have S1 := S.step s j
  refine ⟨A.F0, ds ++ dds, fun a ha => S1.trk a (S1.sub a ha), k.append (hd _), hp ds r, fun v d H2 s2 k2 p2 => ?_⟩
  exact q v d H2 (s.trans (same_off s2)) (A.W.stay _ _ _ j fun a _ o e => s2 a o e) k2 ⟨ds, r, p2⟩
end
end DL

set_option linter.all false
set_option maxRecDepth 100000
set_option maxHeartbeats 4000000
/-! DL3: what is walked, comprehensions, statements, defs -/
namespace DL
open PySem PySem.Spec L2

/-! ### what is walked -/
/-- the items are ds; g: what stays while it is walked -/
def EI (A : Amb) (wi : TI) (ρ : List SV) (c : Nat) (RI : List PyData → Prop) : Prop := ∀ F σ H n (R : It → Hp → Prop), St8 A F ρ σ H n → n + c ≤ LIM →
  (∀ J G Y ds (g : Gst) H', Same (off A.W.fs H) (off A.W.fs H') → A.W.J (n + c) H' → RI ds → Walk J ds.length G Y → g.p (off F.fs H') →
    (∀ H2, g.p H2 → G H2) →
    (∀ i H2 x H3, g.p H2 → i < ds.length → Y i H2 x H3 → Same H2 H3 ∧ ∃ d, ds[i]? = some d ∧ ∀ fs, (∀ a ∈ fs, ∃ o, H2 a = some o) → g.p (off fs H2) → DD (off fs H3) x d) → R J H') → wi σ H R

section
variable {A : Amb} {ρ : List SV} {te ta tb : TE} {c c' c1 c2 c3 : Nat} {R R' Ra Rb Rc : PyData → Prop} {K : PySem.W.Frag} {tl tr : TA} {RA RB : List PyData → Prop}
theorem EI.imp {wi : TI} {RI RJ : List PyData → Prop} (h : EI A wi ρ c RI) (k : ∀ ds, RI ds → RJ ds) : EI A wi ρ c RJ := fun F σ H n R S l q => h F σ H n R S l fun J G Y ds gs H' s j r => q J G Y ds gs H' s j (k ds r)
def gLst (a : Addr) (xs : List V) (ds : List PyData) : Gst := ⟨fun H => H a = some (.lst xs) ∧ DA H xs ds, fun _ _ s h => ⟨s _ _ h.1, h.2.mono s⟩⟩
def gTpl (a : Addr) (xs : List V) (ds : List PyData) : Gst := ⟨fun H => H a = some (.tup xs) ∧ DA H xs ds, fun _ _ s h => ⟨s _ _ h.1, h.2.mono s⟩⟩
def gTru : Gst := ⟨fun _ => True, fun _ _ _ h => h⟩
def gAnd (g g' : Gst) : Gst := ⟨fun H => g.p H ∧ g'.p H, fun _ _ s h => ⟨g.mono _ _ s h.1, g'.mono _ _ s h.2⟩⟩
theorem ei_listR (h : EE A te ρ c R) (k : ∀ d, R d → ∃ ds, d = .list ds) : EI A (iList K te) ρ c (fun ds => R (.list ds)) := fun F σ H n RR S l q => by
  refine h F σ H n _ S l fun v d H1 s j kd r => ?_
  obtain ⟨ds, rfl⟩ := k d r
  cases kd with
  | lst hp kk =>
    rename_i a xs
    refine ⟨a, rfl, ⟨xs, .inl (.inl (off_some hp).2)⟩, ?_⟩
    have w : Walk (Itl K a) xs.length (fun H => SqL K H a xs) (YAt xs) := walk_list
    have hl := kk.length
    rw [hl] at w
    refine q (Itl K a) (fun H => SqL K H a xs) (YAt xs) ds (gLst a xs ds) H1 s j r w ⟨hp, kk⟩ (fun H2 e => .inl (.inl e.1)) fun i H2 x H3 e hi y => ?_
    obtain ⟨rfl, hx⟩ := y
    obtain ⟨d, hd, _⟩ := kk.get hx
    refine ⟨Same.refl _, d, hd, fun fs _ g => ?_⟩
    obtain ⟨d', hd', k'⟩ := g.2.get hx
    rw [hd] at hd'
    cases hd'
    exact k'
theorem ei_list {ds : List PyData} (h : EE A te ρ c (· = .list ds)) : EI A (iList K te) ρ c (· = ds) := (ei_listR h fun d e => ⟨ds, e⟩).imp fun es e => by injection e
theorem ei_tupR (h : EE A te ρ c R) (k : ∀ d, R d → ∃ ds, d = .tuple ds) : EI A (iTup K te) ρ c (fun ds => R (.tuple ds)) := fun F σ H n RR S l q => by
  refine h F σ H n _ S l fun v d H1 s j kd r => ?_
  obtain ⟨ds, rfl⟩ := k d r
  cases kd with
  | tup hp kk =>
    rename_i a xs
    refine ⟨a, rfl, ⟨xs, .inl (.inl (off_some hp).2)⟩, ?_⟩
    have w : Walk (Itt K a) xs.length (fun H => SqT K H a xs) (YAt xs) := walk_tup
    have hl := kk.length
    rw [hl] at w
    refine q (Itt K a) (fun H => SqT K H a xs) (YAt xs) ds (gTpl a xs ds) H1 s j r w ⟨hp, kk⟩ (fun H2 e => .inl (.inl e.1)) fun i H2 x H3 e hi y => ?_
    obtain ⟨rfl, hx⟩ := y
    obtain ⟨d, hd, _⟩ := kk.get hx
    refine ⟨Same.refl _, d, hd, fun fs _ g => ?_⟩
    obtain ⟨d', hd', k'⟩ := g.2.get hx
    rw [hd] at hd'
    cases hd'
    exact k'
theorem ei_tup {ds : List PyData} (h : EE A te ρ c (· = .tuple ds)) : EI A (iTup K te) ρ c (· = ds) := (ei_tupR h fun d e => ⟨ds, e⟩).imp fun es e => by injection e
def rngD (lo : Int) (n : Nat) : List PyData := (List.range n).map fun i => .int (lo + (i : Nat))
theorem rngD_len (lo : Int) (n : Nat) : (rngD lo n).length = n := by unfold rngD; rw [List.length_map, List.length_range]
theorem rngD_get {lo : Int} {n i : Nat} (h : i < n) : (rngD lo n)[i]? = some (.int (lo + (i : Nat))) := by
  unfold rngD
  rw [List.getElem?_map, List.getElem?_range h]
  rfl
theorem ei_rng1R (h : EAR A tl ρ c RA) (k : ∀ ds, RA ds → ∃ j : Int, ds = [.int j] ∧ -(2 ^ 62) ≤ j ∧ j < 2 ^ 62) : EI A (iRng1 tl) ρ c (fun ds => ∃ j : Int, RA [.int j] ∧ ds = rngD 0 j.toNat) := fun F σ H n RR S l q => by
  refine h F σ H n _ S l fun vs ds H1 s jj kd r => ?_
  obtain ⟨j, rfl, h1, h2⟩ := k ds r
  cases kd with
  | cons kv kt =>
    cases kt
    cases kv
    refine ⟨j, rfl, h1, h2, ?_⟩
    refine q (Itr 0 j.toNat) (fun _ => True) (YFn fun i => .int (0 + i)) (rngD 0 j.toNat) gTru H1 s jj ⟨j, r, rfl⟩ (by rw [rngD_len]; exact walk_range) trivial (fun _ _ => trivial) fun i H2 x H3 _ hi y => ?_
    obtain ⟨rfl, rfl⟩ := y
    rw [rngD_len] at hi
    exact ⟨Same.refl _, _, rngD_get hi, fun _ _ _ => .int _⟩
theorem ei_rng1 {j : Int} (h : EAR A tl ρ c (· = [.int j])) (h1 : -(2 ^ 62) ≤ j := by omega) (h2 : j < 2 ^ 62 := by omega) : EI A (iRng1 tl) ρ c (· = rngD 0 j.toNat) :=
  (ei_rng1R h fun ds e => ⟨j, e, h1, h2⟩).imp fun ds ⟨i, e1, e2⟩ => by
    have e : i = j := by
      have := List.cons.inj e1
      exact PyData.int.inj this.1
    rw [e2, e]
theorem ei_rng2R (h : EAR A tl ρ c RA) (k : ∀ ds, RA ds → ∃ i j : Int, ds = [.int i, .int j] ∧ -(2 ^ 62) ≤ i ∧ i < 2 ^ 62 ∧ -(2 ^ 62) ≤ j ∧ j < 2 ^ 62) : EI A (iRng2 tl) ρ c (fun ds => ∃ i j : Int, RA [.int i, .int j] ∧ ds = rngD i (j - i).toNat) := fun F σ H n RR S l q => by
  refine h F σ H n _ S l fun vs ds H1 s jj kd r => ?_
  obtain ⟨i0, j, rfl, h1⟩ := k ds r
  cases kd with
  | cons kv kt =>
    cases kt with
    | cons kw ku =>
      cases ku
      cases kv
      cases kw
      refine ⟨i0, j, rfl, h1, ?_⟩
      refine q (Itr i0 (j - i0).toNat) (fun _ => True) (YFn fun i => .int (i0 + i)) (rngD i0 (j - i0).toNat) gTru H1 s jj ⟨i0, j, r, rfl⟩ (by rw [rngD_len]; exact walk_range) trivial (fun _ _ => trivial) fun i H2 x H3 _ hi y => ?_
      obtain ⟨rfl, rfl⟩ := y
      rw [rngD_len] at hi
      exact ⟨Same.refl _, _, rngD_get hi, fun _ _ _ => .int _⟩
theorem ei_rng2 {i j : Int} (h : EAR A tl ρ c (· = [.int i, .int j])) (h1 : -(2 ^ 62) ≤ i ∧ i < 2 ^ 62 ∧ -(2 ^ 62) ≤ j ∧ j < 2 ^ 62 := by omega) : EI A (iRng2 tl) ρ c (· = rngD i (j - i).toNat) :=
  (ei_rng2R h fun ds e => ⟨i, j, e, h1⟩).imp fun ds ⟨i', j', e1, e2⟩ => by
    have e := List.cons.inj e1
    have e3 := PyData.int.inj e.1
    have e4 := PyData.int.inj (List.cons.inj e.2).1
    rw [e2, e3, e4]
/-- the signs of a text -/
def signsD (x : Str) : List PyData := x.cps.toList.map fun z => .str ⟨#[z]⟩
theorem ei_str {x : Str} (h : ER A te ρ c (· = .str x)) : EI A (iStr te) ρ c (· = signsD x) := fun F σ H n RR S l q => by
  refine h F σ H n _ S l fun v d H1 s j kd r => ?_
  subst r
  cases kd
  have hl : (signsD x).length = x.cps.size := by unfold signsD; rw [List.length_map, Array.length_toList]
  refine ⟨x, rfl, ?_⟩
  refine q (Its x) (fun _ => True) (fun i H v H' => H' = H ∧ ∃ c, x.cps[i]? = some c ∧ v = .str ⟨#[c]⟩) (signsD x) gTru H1 s j rfl (by rw [hl]; exact walk_str) trivial (fun _ _ => trivial) fun i H2 v H3 _ hi y => ?_
  obtain ⟨rfl, z, hz, rfl⟩ := y
  refine ⟨Same.refl _, .str ⟨#[z]⟩, ?_, fun _ _ _ => .str _⟩
  unfold signsD
  rw [List.getElem?_map, Array.getElem?_toList, hz]
  rfl
/-- zip of two lists -/
def zipD (ds es : List PyData) : List PyData := (ds.zip es).map fun p => .tuple [p.1, p.2]
theorem ei_zip {ds es : List PyData} (h : EA A tl ρ c (· = [.list ds, .list es])) : EI A (iZip K tl) ρ c (· = zipD ds es) := fun F σ H n RR S l q => by
  refine h F σ H n _ S l fun vs dd H1 s j kd r => ?_
  subst r
  cases kd with
  | cons k1 kt =>
    cases kt with
    | cons k2 ku =>
      cases ku
      cases k1 with
      | lst hp kp =>
        cases k2 with
        | lst hq kq =>
          rename_i a xs b ys
          refine ⟨a, b, xs, ys, rfl, .inl (.inl (off_some hp).2), .inl (.inl (off_some hq).2), ?_⟩
          have hl : (zipD ds es).length = min xs.length ys.length := by unfold zipD; rw [List.length_map, List.length_zip, kp.length, kq.length]
          refine q (Itz K a b) (fun H => SqL K H a xs ∧ SqL K H b ys) (YPair (fun i => xs[i]?) (fun i => ys[i]?)) (zipD ds es) (gAnd (gLst a xs ds) (gLst b ys es)) H1 s j rfl (walk_zip hl) ⟨⟨hp, kp⟩, ⟨hq, kq⟩⟩ (fun H2 e => ⟨.inl (.inl e.1.1), .inl (.inl e.2.1)⟩) fun i H2 v H3 g hi y => ?_
          obtain ⟨T, x, y', rfl, nT, rfl, hx, hy⟩ := y
          obtain ⟨d, hd, _⟩ := kp.get hx
          obtain ⟨e, he, _⟩ := kq.get hy
          refine ⟨same_new nT, .tuple [d, e], ?_, fun fs tr g' => ?_⟩
          · unfold zipD
            rw [List.getElem?_map, (List.getElem?_zip_eq_some (z := (d, e))).mpr ⟨hd, he⟩]
            rfl
          · obtain ⟨d', hd', k1⟩ := g'.1.2.get hx
            obtain ⟨e', he', k2⟩ := g'.2.2.get hy
            rw [hd] at hd'
            cases hd'
            rw [he] at he'
            cases he'
            have nf : T ∉ fs := fun z => by
              obtain ⟨o, eo⟩ := tr T z
              rw [nT] at eo
              cases eo
            exact .tup (off_of nf upd_same) (.cons (k1.mono (same_off (same_new nT))) (.cons (k2.mono (same_off (same_new nT))) .nil))
def enumD (ds : List PyData) : List PyData := ds.zipIdx.map fun p => .tuple [.int (p.2 : Nat), p.1]
theorem ei_enum {ds : List PyData} (h : EA A tl ρ c (· = [.list ds])) : EI A (iEnum K tl) ρ c (· = enumD ds) := fun F σ H n RR S l q => by
  refine h F σ H n _ S l fun vs dd H1 s j kd r => ?_
  subst r
  cases kd with
  | cons k1 kt =>
    cases kt
    cases k1 with
    | lst hp kp =>
      rename_i a xs
      refine ⟨a, xs, rfl, .inl (.inl (off_some hp).2), ?_⟩
      have hl : (enumD ds).length = xs.length := by unfold enumD; rw [List.length_map, List.length_zipIdx, kp.length]
      refine q (Ite K a) (fun H => SqL K H a xs) (YPair (fun i => some (.int (i : Nat))) (fun i => xs[i]?)) (enumD ds) (gLst a xs ds) H1 s j rfl (by rw [hl]; exact walk_enum) ⟨hp, kp⟩ (fun H2 e => .inl (.inl e.1)) fun i H2 v H3 g hi y => ?_
      obtain ⟨T, x, y', rfl, nT, rfl, hx, hy⟩ := y
      cases hx
      obtain ⟨d, hd, _⟩ := kp.get hy
      refine ⟨same_new nT, .tuple [.int (i : Nat), d], ?_, fun fs tr g' => ?_⟩
      · unfold enumD
        rw [List.getElem?_map, List.getElem?_zipIdx, hd, Nat.zero_add]
        rfl
      · obtain ⟨d', hd', k1⟩ := g'.2.get hy
        rw [hd] at hd'
        cases hd'
        have nf : T ∉ fs := fun z => by
          obtain ⟨o, eo⟩ := tr T z
          rw [nT] at eo
          cases eo
        exact .tup (off_of nf upd_same) (.cons (.int _) (.cons (k1.mono (same_off (same_new nT))) .nil))
end

/-! ### targets -/
def TG8 (A : Amb) (g : TG) (d : PyData) (ρ ρ' : List SV) : Prop := ∀ F σ H n v (k : L2.St → Hp → Prop), St8 A F ρ σ H n → DD (off F.fs H) v d → (∀ σ', St8 A F ρ' σ' H n → k σ' H) → g v σ H k
def TGs8 (A : Amb) (g : TGs) (ds : List PyData) (ρ ρ' : List SV) : Prop := ∀ F σ H n vs (k : L2.St → Hp → Prop), St8 A F ρ σ H n → DA (off F.fs H) vs ds → (∀ σ', St8 A F ρ' σ' H n → k σ' H) → g vs σ H k
section
variable {A : Amb} {ρ ρ1 ρ2 : List SV} {d : PyData} {ds : List PyData} {K : PySem.W.Frag}
theorem tg_name {i : Nat} : TG8 A (gName i) d ρ (ρ.set i (.im d)) := fun F σ H n v k S h q => q _ (S.set i h)
theorem tgs_nil : TGs8 A gNil [] ρ ρ := fun F σ H n vs k S h q => by
  cases h
  exact ⟨rfl, q σ S⟩
theorem tgs_cons {g : TG} {gs : TGs} (h1 : TG8 A g d ρ ρ1) (h2 : TGs8 A gs ds ρ1 ρ2) : TGs8 A (gCons g gs) (d :: ds) ρ ρ2 := fun F σ H n vs k S h q => by
  cases h with
  | cons hv ht => exact ⟨_, _, rfl, h1 F σ H n _ _ S hv fun σ' S' => h2 F σ' H n _ _ S' ht q⟩
theorem tg_tup {gs : TGs} {m : Nat} (h : TGs8 A gs ds ρ ρ1) (hl : ds.length = m) : TG8 A (gTup K m gs) (.tuple ds) ρ ρ1 := fun F σ H n v k S hd q => by
  cases hd with
  | tup hp kk => exact ⟨_, _, rfl, .inl (.inl (off_some hp).2), by rw [kk.length]; exact hl, h F σ H n _ _ S kk q⟩
theorem TG8.heap {g : TG} {A : Amb} (h : TG8 A g d ρ ρ1) : TG8 A g d ρ ρ1 := h
end

/-! ### comprehensions -/
/-- the slots of a comprehension's own names forgotten -/
def wip (ρ : List SV) : List Nat → List SV
  | [] => ρ
  | v :: vs => (wip ρ vs).set v .no
theorem st8_no {A : Amb} {F : Fp} {ρ : List SV} {σ : L2.St} {H : Hp} {n : Nat} (S : St8 A F ρ σ H n) (i : Nat) : St8 A F (ρ.set i .no) (σ.set i none) H n where
  j := S.j
  adv := S.adv
  sub := S.sub
  trk := S.trk
  gh := S.gh
  len := by rw [List.length_set, List.length_set, S.len]
  slot := fun k x e => by
    by_cases hk : i = k
    · subst hk
      by_cases hi : i < ρ.length
      · rw [List.getElem?_set_self hi] at e
        cases e
        exact ⟨none, List.getElem?_set_self (by rw [S.len]; exact hi), trivial⟩
      · rw [List.getElem?_eq_none (by rw [List.length_set]; omega)] at e
        cases e
    · rw [List.getElem?_set_ne hk] at e
      rw [List.getElem?_set_ne hk]
      exact S.slot k x e
  nd := fun a b x y p q ha hb hx hy ne => S.nd a b x y p q (adr_set rfl ha hx) (adr_set rfl hb hy) hx hy ne
theorem st8_wip {A : Amb} {F : Fp} {ρ : List SV} {σ : L2.St} {H : Hp} {n : Nat} (S : St8 A F ρ σ H n) : ∀ vs : List Nat, St8 A F (wip ρ vs) (wipe σ vs) H n
  | [] => S
  | v :: vs => st8_no (st8_wip S vs) v
/-- the target of a comprehension, and the wiping behind it -/
def TGw (A : Amb) (g : TG) (vs : List Nat) (d : PyData) (ρ ρ' : List SV) : Prop := ∀ F σ0 H n v (k : L2.St → Hp → Prop), St8 A F ρ (wipe σ0 vs) H n → DD (off F.fs H) v d → (∀ σ', St8 A F ρ' σ' H n → wipe σ' vs = wipe σ0 vs → k σ' H) → g v (wipe σ0 vs) H k
theorem wipe_set {σ : L2.St} {x : Option V} : ∀ {vs : List Nat} {i : Nat}, i ∈ vs → wipe ((wipe σ vs).set i x) vs = wipe σ vs
  | [], _, h => absurd h List.not_mem_nil
  | v :: vs, i, h => by
    have comm : ∀ (l : L2.St) (a b : Nat) (y z : Option V), a ≠ b → (l.set a y).set b z = (l.set b z).set a y := fun l a b y z ne => List.set_comm _ _ ne
    have wset : ∀ (ws : List Nat) (l : L2.St) (a : Nat) (y : Option V), a ∉ ws → wipe (l.set a y) ws = (wipe l ws).set a y := fun ws => by
      induction ws with
      | nil => intros; rfl
      | cons w ws ih =>
        intro l a y ha
        have h1 : a ≠ w := fun e => ha (by rw [e]; exact List.mem_cons_self)
        have h2 : a ∉ ws := fun e => ha (List.mem_cons_of_mem _ e)
        show (wipe (l.set a y) ws).set w none = ((wipe l ws).set w none).set a y
        rw [ih l a y h2, comm _ _ _ _ _ h1]
    have wnone : ∀ (ws : List Nat) (l : L2.St) (a : Nat) (y : Option V), a ∈ ws → wipe (l.set a y) ws = wipe l ws := fun ws => by
      induction ws with
      | nil => intro l a y ha; exact absurd ha List.not_mem_nil
      | cons w ws ih =>
        intro l a y ha
        show (wipe (l.set a y) ws).set w none = (wipe l ws).set w none
        by_cases hm : a ∈ ws
        · rw [ih l a y hm]
        · have e : a = w := by
            rcases List.mem_cons.mp ha with e | e
            · exact e
            · exact absurd e hm
          subst e
          rw [wset ws l a y hm, List.set_set]
    have wid : ∀ (ws : List Nat) (l : L2.St), (∀ a ∈ ws, ∀ z, l[a]? = some z → z = none) → wipe l ws = l := fun ws => by
      induction ws with
      | nil => intros; rfl
      | cons w ws ih =>
        intro l hl
        show (wipe l ws).set w none = l
        rw [ih l fun a ha => hl a (List.mem_cons_of_mem _ ha)]
        refine List.ext_getElem? fun j => ?_
        by_cases hj : w = j
        · subst hj
          cases e : l[w]? with
          | none =>
            rw [List.getElem?_eq_none_iff] at e ⊢
            rw [List.length_set]
            exact e
          | some z =>
            have hz := hl w List.mem_cons_self z e
            subst hz
            have hlt : w < l.length := (List.getElem?_eq_some_iff.mp e).1
            rw [List.getElem?_set_self hlt]
        · rw [List.getElem?_set_ne hj]
    rw [wnone (v :: vs) _ i x h]
    refine wid (v :: vs) _ fun a ha z hz => ?_
    cases z with
    | none => rfl
    | some y => exact absurd ha (wipe_some hz).2
theorem tgw_name {A : Amb} {vs : List Nat} {d : PyData} {ρ : List SV} {i : Nat} (hi : i ∈ vs) : TGw A (gName i) vs d ρ (ρ.set i (.im d)) := fun F σ0 H n v k S h q => q _ (S.set i h) (wipe_set hi)
def TGsw (A : Amb) (g : TGs) (ws : List Nat) (ds : List PyData) (ρ ρ' : List SV) : Prop := ∀ F σ0 σ H n vs (k : L2.St → Hp → Prop), St8 A F ρ σ H n → wipe σ ws = wipe σ0 ws → DA (off F.fs H) vs ds → (∀ σ', St8 A F ρ' σ' H n → wipe σ' ws = wipe σ0 ws → k σ' H) → g vs σ H k
theorem wipe_set' {σ : L2.St} {x : Option V} {vs : List Nat} {i : Nat} (h : i ∈ vs) : wipe (σ.set i x) vs = wipe σ vs := by
  have wset : ∀ (ws : List Nat) (l : L2.St) (a : Nat) (y : Option V), a ∉ ws → wipe (l.set a y) ws = (wipe l ws).set a y := fun ws => by
    induction ws with
    | nil => intros; rfl
    | cons w ws ih =>
      intro l a y ha
      have h1 : a ≠ w := fun e => ha (by rw [e]; exact List.mem_cons_self)
      have h2 : a ∉ ws := fun e => ha (List.mem_cons_of_mem _ e)
      show (wipe (l.set a y) ws).set w none = ((wipe l ws).set w none).set a y
      rw [ih l a y h2, List.set_comm _ _ h1]
  induction vs generalizing σ with
  | nil => exact absurd h List.not_mem_nil
  | cons w ws ih =>
    show (wipe (σ.set i x) ws).set w none = (wipe σ ws).set w none
    by_cases hm : i ∈ ws
    · rw [ih hm]
    · have e : i = w := by
        rcases List.mem_cons.mp h with e | e
        · exact e
        · exact absurd e hm
      subst e
      rw [wset ws σ i x hm, List.set_set]
section
variable {A : Amb} {ρ ρ1 ρ2 : List SV} {d : PyData} {ds : List PyData} {K : PySem.W.Frag} {ws : List Nat}
theorem tgsw_nil : TGsw A gNil ws [] ρ ρ := fun F σ0 σ H n vs k S e h q => by
  cases h
  exact ⟨rfl, q σ S e⟩
theorem tgsw_name {gs : TGs} {i : Nat} (hi : i ∈ ws) (h2 : TGsw A gs ws ds (ρ.set i (.im d)) ρ2) : TGsw A (gCons (gName i) gs) ws (d :: ds) ρ ρ2 := fun F σ0 σ H n vs k S e h q => by
  cases h with
  | cons hv ht => exact ⟨_, _, rfl, h2 F σ0 _ H n _ _ (S.set i hv) (by rw [wipe_set' hi]; exact e) ht q⟩
theorem wipe_wipe (σ : L2.St) (ws : List Nat) : wipe (wipe σ ws) ws = wipe σ ws := by
  have : ∀ (vs : List Nat) (l : L2.St), (∀ v ∈ vs, v ∈ ws) → wipe (wipe l vs) ws = wipe l ws := fun vs => by
    induction vs with
    | nil => intros; rfl
    | cons v vs ih =>
      intro l h
      show wipe ((wipe l vs).set v none) ws = wipe l ws
      rw [wipe_set' (h v List.mem_cons_self), ih l fun a ha => h a (List.mem_cons_of_mem _ ha)]
  exact this ws σ fun _ h => h
theorem tgw_tup {gs : TGs} {m : Nat} (h : TGsw A gs ws ds ρ ρ1) (hl : ds.length = m) : TGw A (gTup K m gs) ws (.tuple ds) ρ ρ1 := fun F σ0 H n v k S hd q => by
  cases hd with
  | tup hp kk => exact ⟨_, _, rfl, .inl (.inl (off_some hp).2), by rw [kk.length]; exact hl, h F σ0 _ H n _ _ S (wipe_wipe σ0 ws) kk q⟩
end

/-- a comprehension, by a word on what has been made -/
theorem ee_lc {A : Amb} {ρ : List SV} {wi : TI} {g : TG} {tt : TT} {te : TE} {vs : List Nat} {c0 cN : Nat} {RI : List PyData → Prop} {R : PyData → Prop} (hi : EI A wi ρ c0 RI)
    (h : ∀ ds, RI ds → ds.length ≤ 16000000 ∧ ∃ (I : Nat → List PyData → Prop) (c1 c2 : Nat), ds.length * (c1 + c2) ≤ cN ∧ I 0 [] ∧
      (∀ i d acc, ds[i]? = some d → I i acc → acc.length ≤ i → ∃ ρ1 P, TGw A g vs d (wip ρ vs) ρ1 ∧ ET A tt ρ1 c1 P ∧ (P false → I (i + 1) acc) ∧ (P true → EE A te ρ1 c2 fun e => I (i + 1) (acc ++ [e]))) ∧
      ∀ acc, I ds.length acc → R (.list acc)) : EE A (tLc wi g tt te vs) ρ (c0 + cN) R := fun F σ H n Q S l q => by
  refine hi F σ H n _ S (by omega) fun J G Y ds gg H1 s1 j1 r1 w hg hG hY => ?_
  obtain ⟨hlen, I, c1, c2, hc, h0, hs, hd⟩ := h ds r1
  have S1 := S.step s1 j1
  intro D hD
  let F' : Fp := ⟨D :: F.fs, gg :: F.gh⟩
  have nD : D ∉ F.fs := S1.fresh hD
  have offD : ∀ {H2 : Hp}, Same (off A.W.fs H1) (off A.W.fs H2) → Same (off F.fs H1) (off (D :: F.fs) H2) := fun {H2} s a o e => by
    have h1 := S1.offF s a o e
    refine off_of (fun z => ?_) (off_some h1).2
    rcases List.mem_cons.mp z with z | z
    · subst z
      have := (off_some e).2
      rw [hD] at this
      cases this
    · exact (off_some e).1 z
  have mkS : ∀ {H2 : Hp} {m : Nat}, Same (off A.W.fs H1) (off A.W.fs H2) → A.W.J m H2 → (∃ o, H2 D = some o) → gg.p (off (D :: F.fs) H2) → St8 A F' (wip ρ vs) (wipe σ vs) H2 m := fun {H2 m} s j hh hgp => by
    have S0 := st8_wip (S1.step s j) vs
    refine ⟨j, S0.adv, fun a ha => List.mem_cons_of_mem _ (S0.sub a ha), fun a ha => ?_, fun x hx => ?_, S0.len, fun i x e => ?_, S0.nd⟩
    · rcases List.mem_cons.mp ha with z | z
      · subst z
        exact hh
      · exact S0.trk a z
    · rcases List.mem_cons.mp hx with z | z
      · subst z
        exact hgp
      · exact x.mono _ _ (offD s) (S1.gh x z)
    · obtain ⟨o, h1, h2⟩ := (st8_wip S1 vs).slot i x e
      refine ⟨o, h1, ?_⟩
      cases x with
      | no => trivial
      | im d =>
        obtain ⟨v, e, k⟩ := h2
        exact ⟨v, e, k.mono (offD s)⟩
      | raw v => exact h2
      | own p ps =>
        obtain ⟨e, hp, hp0, xs, hx, k⟩ := h2
        exact ⟨e, List.mem_cons_of_mem _ hp, hp0, xs, (off_some (s p _ (off_of (A.fresh_nw hp0) hx))).2, k.mono (offD s)⟩
      | dct p ps =>
        obtain ⟨e, hp, hp0, xs, hx, k⟩ := h2
        exact ⟨e, List.mem_cons_of_mem _ hp, hp0, xs, (off_some (s p _ (off_of (A.fresh_nw hp0) hx))).2, k.mono (offD s)⟩
      | semi p ps pr =>
        obtain ⟨q', rest, e, hq', kr, hp, hp0, xs, hx, k⟩ := h2
        exact ⟨q', rest, e, offD s _ _ hq', kr.mono (offD s), List.mem_cons_of_mem _ hp, hp0, xs, (off_some (s p _ (off_of (A.fresh_nw hp0) hx))).2, k.mono (offD s)⟩
  have nDw : D ∉ A.W.fs := fun z => nD (S1.sub D (A.sub D z))
  have updS : ∀ {H2 : Hp} {o : HO}, Same (off A.W.fs H1) (off A.W.fs H2) → Same (off A.W.fs H1) (off A.W.fs (upd H2 D o)) := fun {H2 o} s a u e => by
    refine off_of (off_some e).1 ?_
    rw [upd_ne fun z => by rw [z] at e; have := (off_some e).2; rw [hD] at this; cases this]
    exact (off_some (s a u e)).2
  have updJ : ∀ {H2 : Hp} {o : HO} {m : Nat}, NoC H2 D → A.W.J m H2 → A.W.J m (upd H2 D o) := fun {H2 o m} nc j => A.W.stay _ _ _ j fun a ha u e => by
    rw [upd_ne (noC_elim nDw nc ha)]
    exact e
  refine lc_it w (fun i H2 => ∃ acc ads, Same (off A.W.fs H1) (off A.W.fs H2) ∧ A.W.J (n + c0 + i * (c1 + c2)) H2 ∧ H2 D = some (.lst acc) ∧ DA (off (D :: F.fs) H2) acc ads ∧ I i ads ∧ ads.length ≤ i ∧ gg.p (off (D :: F.fs) H2))
    ⟨[], [], updS (Same.refl _), by rw [Nat.zero_mul]; exact updJ (noC_none hD) j1, upd_same, .nil, h0, Nat.le_refl _, gg.mono _ _ (offD (updS (Same.refl _))) hg⟩ (fun i H2 _ ⟨_, _, _, _, _, _, _, _, p⟩ => hG H2 (gg.mono _ _ off_le p)) ?_ ?_
  · rintro i x H2 H3 hi' ⟨acc, ads, s2, j2, e2, k2, i2, l2, g2⟩ y
    obtain ⟨s3, d, hd', kd⟩ := hY i H2 x H3 (gg.mono _ _ off_le g2) hi' y
    obtain ⟨ρ1, P, tg, et, p0, p1⟩ := hs i d ads hd' i2 l2
    have b1 : i * (c1 + c2) + (c1 + c2) ≤ cN := Nat.le_trans (by rw [← Nat.succ_mul]; exact Nat.mul_le_mul_right _ hi') hc
    have s13 : Same (off A.W.fs H1) (off A.W.fs H3) := s2.trans (same_off s3)
    have j3 : A.W.J (n + c0 + i * (c1 + c2)) H3 := A.W.stay _ _ _ j2 fun a _ o e => s3 a o e
    have S3 := mkS s13 j3 ⟨_, s3 _ _ e2⟩ (gg.mono _ _ (same_off s3) g2)
    have trk2 : ∀ a ∈ D :: F.fs, ∃ o, H2 a = some o := (mkS s2 j2 ⟨_, e2⟩ g2).trk
    refine tg F' σ H3 _ x _ S3 (kd (D :: F.fs) trk2 g2) fun σ' S4 hw => ⟨hw, ?_⟩
    refine et F' σ' H3 _ _ S4 (by omega) fun b H4 s4 j4 r4 => ?_
    have S5 := S4.step s4 j4
    have eD : H4 D = some (.lst acc) := (off_some (s4 D _ (off_of nDw (s3 _ _ e2)))).2
    have k4 : DA (off (D :: F.fs) H4) acc ads := (k2.mono (same_off s3)).mono (S4.offF s4)
    have g4 : gg.p (off (D :: F.fs) H4) := gg.mono _ _ (S4.offF s4) (gg.mono _ _ (same_off s3) g2)
    cases b with
    | false =>
      show ∃ acc ads, _
      exact ⟨acc, ads, s13.trans s4, A.W.up _ _ _ (by rw [Nat.succ_mul]; omega) j4, eD, k4, p0 r4, Nat.le_succ_of_le l2, g4⟩
    | true =>
      show te σ' H4 _
      refine p1 r4 F' σ' H4 _ _ S5 (by omega) fun v e H5 s5 j5 k5 r5 => ?_
      have eD5 : H5 D = some (.lst acc) := (off_some (s5 D _ (off_of nDw eD))).2
      have hal := k4.length
      refine ⟨acc, eD5, ?_, acc ++ [v], ads ++ [e], updS ((s13.trans s4).trans s5), updJ (noC_lst eD5) (A.W.up _ _ _ (by rw [Nat.succ_mul]; omega) j5), upd_same, ?_, r5, by rw [List.length_append]; exact Nat.succ_le_succ l2, gg.mono _ _ (off_upd List.mem_cons_self) (gg.mono _ _ (S5.offF s5) g4)⟩
      · rw [hal]
        have : i < ds.length := hi'
        have e := sizeLine_eq
        omega
      · exact ((k4.mono (S5.offF s5)).append (.cons k5 .nil)).mono (off_upd List.mem_cons_self)
  · rintro H2 ⟨acc, ads, s2, j2, e2, k2, i2, l2, g2⟩
    refine q (.ref D) (.list ads) H2 (s1.trans s2) (A.W.up _ _ _ (by omega) j2) (.lst (off_of nD e2) (k2.mono (off_sub fun a ha => List.mem_cons_of_mem _ ha))) (hd ads i2)
end DL

set_option linter.all false
set_option maxRecDepth 100000
set_option maxHeartbeats 4000000
/-! DL4: statements and loops as data -/
namespace DL
open PySem PySem.Spec L2

structure Po where
  nx : List SV → Prop
  rt : PyData → Prop
  fr : List PyData → Prop := fun _ => False
  bk : List SV → Prop := fun _ => False
  ct : List SV → Prop := fun _ => False
/-- what is wanted at a point of the text, when n draws may have been made -/
def KN (A : Amb) (gh : List Gst) (n : Nat) (N : List SV → Prop) (k : L2.St → Hp → Prop) : Prop := ∀ ρ' F' σ' H', N ρ' → (∀ g ∈ gh, g ∈ F'.gh) → St8 A F' ρ' σ' H' n → k σ' H'
structure KR (A : Amb) (n : Nat) (N : PyData → Prop) (Nf : List PyData → Prop) (k : VK) : Prop where
  d : ∀ v d H', N d → Same (off A.W.fs A.H0) (off A.W.fs H') → A.W.J n H' → DD (off A.F0 H') v d → k v H'
  f : ∀ p xs ds H', Nf ds → Same (off A.W.fs A.H0) (off A.W.fs H') → A.W.J n H' → A.H0 p = none → H' p = some (.lst xs) → DA (off (p :: A.F0) H') xs ds → k (.ref p) H'
def SS (A : Amb) (ts : TS) (ρ : List SV) (c : Nat) (P : Po) : Prop := ∀ (D : Ends) F σ H n, St8 A F ρ σ H n → n + c ≤ LIM →
  KN A F.gh (n + c) P.nx D.nx → KR A (n + c) P.rt P.fr D.rt → KN A F.gh (n + c) P.bk D.bk → KN A F.gh (n + c) P.ct D.ct → ts D σ H

section
variable {A : Amb} {ρ ρ1 : List SV} {t u : TS} {te ta : TE} {c c' c1 c2 c3 n m : Nat} {P P' : Po} {R : PyData → Prop} {hs hs' : List Gst} {M N : List SV → Prop} {K : PySem.W.Frag} {k : L2.St → Hp → Prop}
theorem KN.le (h : KN A hs n N k) (l : m ≤ n) : KN A hs m N k := fun ρ' F' σ' H' a b S => h ρ' F' σ' H' a b (S.up l)
theorem KR.le {R : PyData → Prop} {Rf : List PyData → Prop} {k : VK} (h : KR A n R Rf k) (l : m ≤ n) : KR A m R Rf k := ⟨fun v d H' a s j b => h.d v d H' a s (A.W.up _ _ _ l j) b, fun p xs ds H' a s j e0 e1 e2 => h.f p xs ds H' a s (A.W.up _ _ _ l j) e0 e1 e2⟩
theorem KN.gs (h : KN A hs n N k) (l : ∀ g ∈ hs, g ∈ hs') : KN A hs' n N k := fun ρ' F' σ' H' a b S => h ρ' F' σ' H' a (fun g hg => b g (l g hg)) S
theorem KN.imp (h : KN A hs n N k) (l : ∀ ρ, M ρ → N ρ) : KN A hs n M k := fun ρ' F' σ' H' a b S => h ρ' F' σ' H' (l _ a) b S
theorem SS.le (h : SS A t ρ c P) (l : c ≤ c') : SS A t ρ c' P := fun D F σ H n S hl h1 h2 h3 h4 => h D F σ H n S (by omega) (h1.le (by omega)) (h2.le (by omega)) (h3.le (by omega)) (h4.le (by omega))
theorem SS.imp (h : SS A t ρ c P) (h1 : ∀ ρ, P.nx ρ → P'.nx ρ) (h2 : ∀ d, P.rt d → P'.rt d) (h5 : ∀ d, P.fr d → P'.fr d) (h3 : ∀ ρ, P.bk ρ → P'.bk ρ) (h4 : ∀ ρ, P.ct ρ → P'.ct ρ) : SS A t ρ c P' := fun D F σ H n S hl k1 k2 k3 k4 =>
  h D F σ H n S hl (k1.imp h1) ⟨fun v d H' a => k2.d v d H' (h2 d a), fun p xs ds H' a => k2.f p xs ds H' (h5 ds a)⟩ (k3.imp h3) (k4.imp h4)
theorem ss_seq (h1 : SS A t ρ c1 { P with nx := M }) (h2 : ∀ ρ', M ρ' → SS A u ρ' c2 P) : SS A (tSeq t u) ρ (c1 + c2) P := fun D F σ H n S l k1 k2 k3 k4 => by
  refine h1 { D with nx := u D } F σ H n S (by omega) (fun ρ' F' σ' H' hm hg S' => ?_) (k2.le (by omega)) (k3.le (by omega)) (k4.le (by omega))
  have e : n + (c1 + c2) = n + c1 + c2 := by omega
  rw [e] at k1 k2 k3 k4
  exact h2 ρ' hm D F' σ' H' (n + c1) S' (by omega) (k1.gs hg) k2 (k3.gs hg) (k4.gs hg)
theorem ss_next (h : P.nx ρ) : SS A tNext ρ 0 P := fun D F σ H n S _ k1 _ _ _ => k1 ρ F σ H h (fun _ hg => hg) S
theorem ss_brk (h : P.bk ρ) : SS A tBreak ρ 0 P := fun D F σ H n S _ _ _ k3 _ => k3 ρ F σ H h (fun _ hg => hg) S
theorem ss_cont (h : P.ct ρ) : SS A tCont ρ 0 P := fun D F σ H n S _ _ _ _ k4 => k4 ρ F σ H h (fun _ hg => hg) S
theorem ss_asg {g : TG} (h : EE A te ρ c R) (k : ∀ d, R d → ∃ ρ1, TG8 A g d ρ ρ1 ∧ P.nx ρ1) : SS A (tAsg te g) ρ c P := fun D F σ H n S l k1 _ _ _ => by
  refine h F σ H n _ S l fun v d H1 s j kd r => ?_
  obtain ⟨ρ1, tg, hn⟩ := k d r
  exact tg F σ H1 (n + c) v _ (S.step s j) kd fun σ' S' => k1 ρ1 F σ' H1 hn (fun _ hg => hg) S'
theorem sq_asg {g : TG} (h : EE A te ρ c1 R) (k : ∀ d, R d → ∃ ρ1, TG8 A g d ρ ρ1 ∧ SS A u ρ1 c2 P) : SS A (tSeq (tAsg te g) u) ρ (c1 + c2) P :=
  ss_seq (M := fun ρ1 => SS A u ρ1 c2 P) (ss_asg h k) fun _ h => h
theorem ss_set {i : Nat} (h : EE A te ρ c R) (k : ∀ d, R d → P.nx (ρ.set i (.im d))) : SS A (tAsg te (gName i)) ρ c P := ss_asg h fun d r => ⟨_, tg_name, k d r⟩
theorem sq_set {i : Nat} (h : EE A te ρ c1 R) (k : ∀ d, R d → SS A u (ρ.set i (.im d)) c2 P) : SS A (tSeq (tAsg te (gName i)) u) ρ (c1 + c2) P := sq_asg h fun d r => ⟨_, tg_name, k d r⟩
/-- a, b = x, y -/
theorem sq_par {i j : Nat} {ta : TA} {RA : List PyData → Prop} (h : EA A ta ρ c1 RA) (k : ∀ ds, RA ds → ∃ d e, ds = [d, e] ∧ SS A u ((ρ.set i (.im d)).set j (.im e)) c2 P) : SS A (tSeq (tPar i j ta) u) ρ (c1 + c2) P :=
  ss_seq (M := fun ρ1 => SS A u ρ1 c2 P) (fun D F σ H n S l k1 _ _ _ => by
    refine h F σ H n _ S l fun vs ds H1 s jj kd r => ?_
    obtain ⟨d, e, rfl, hs⟩ := k ds r
    cases kd with
    | cons kv kt =>
      cases kt with
      | cons kw ku =>
        cases ku
        exact ⟨_, _, rfl, k1 _ F _ H1 hs (fun _ hg => hg) (((S.step s jj).set i kv).set j kw)⟩) fun _ h => h
theorem ss_drop (h : ER A te ρ c R) (k : P.nx ρ) : SS A (tDrop te) ρ c P := fun D F σ H n S l k1 _ _ _ => by
  refine h F σ H n _ S l fun v d H1 s j _ _ => ?_
  exact k1 ρ F σ H1 k (fun _ hg => hg) (S.step s j)
theorem ss_ret (h : EE A te ρ c R) (k : ∀ d, R d → P.rt d) : SS A (tRet te) ρ c P := fun D F σ H n S l _ k2 _ _ => by
  refine h F σ H n _ S l fun v d H1 s j kd r => ?_
  exact k2.d v d H1 (k d r) (S.adv.trans s) j (kd.mono (off_sub S.sub))
theorem ss_retR (h : ER A te ρ c R) (k : ∀ d, R d → P.rt d) : SS A (tRet te) ρ c P := fun D F σ H n S l _ k2 _ _ => by
  refine h F σ H n _ S l fun v d H1 s j kd r => ?_
  exact k2.d v d H1 (k d r) (S.adv.trans s) j kd
theorem ss_retN (k : P.rt .none) : SS A tRetN ρ 0 P := fun D F σ H n S _ _ k2 _ _ => k2.d .non .none H k S.adv S.j .non
theorem ss_if {tt : TT} {B : Bool → Prop} (h : ET A tt ρ c1 B) (h1 : B true → SS A t ρ c2 P) (h2 : B false → SS A u ρ c2 P) : SS A (tIfS tt t u) ρ (c1 + c2) P := fun D F σ H n S l k1 k2 k3 k4 => by
  refine h F σ H n _ S (by omega) fun b H1 s j r => ?_
  have e : n + (c1 + c2) = n + c1 + c2 := by omega
  rw [e] at k1 k2 k3 k4
  cases b with
  | true =>
    show t D σ H1
    exact h1 r D F σ H1 (n + c1) (S.step s j) (by omega) k1 k2 k3 k4
  | false =>
    show u D σ H1
    exact h2 r D F σ H1 (n + c1) (S.step s j) (by omega) k1 k2 k3 k4
/-- if .. (that goes on or returns), then the rest -/
theorem sq_if {tt : TT} {B : Bool → Prop} {t1 t2 : TS} (h : ET A tt ρ c1 B) (h1 : B true → SS A t1 ρ c2 { P with nx := fun ρ' => SS A u ρ' c3 P }) (h2 : B false → SS A t2 ρ c2 { P with nx := fun ρ' => SS A u ρ' c3 P }) : SS A (tSeq (tIfS tt t1 t2) u) ρ (c1 + c2 + c3) P :=
  ss_seq (M := fun ρ1 => SS A u ρ1 c3 P) (ss_if h h1 h2) fun _ h => h

/-! ### lists that are being made -/
theorem st8_own {F : Fp} {σ : L2.St} {H : Hp} {n : Nat} (S : St8 A F ρ σ H n) (i : Nat) {p : Addr} (hp : H p = none) : St8 A ⟨p :: F.fs, F.gh⟩ (ρ.set i (.own p [])) (σ.set i (some (.ref p))) (upd H p (.lst [])) n := by
  have S1 := S.new (o := .lst []) hp
  have nF := S.fresh hp
  have h0 := S.fresh0 hp
  have offp : Same (off F.fs H) (off (p :: F.fs) (upd H p (.lst []))) := fun a o e => by
    have ne : a ≠ p := fun z => by
      have := (off_some e).2
      rw [z, hp] at this
      cases this
    refine off_of (fun z => ?_) ?_
    · rcases List.mem_cons.mp z with z | z
      · exact ne z
      · exact (off_some e).1 z
    · rw [upd_ne ne]
      exact (off_some e).2
  refine ⟨S1.j, S1.adv, fun a ha => List.mem_cons_of_mem _ (S.sub a ha), fun a ha => ?_, fun g hg => g.mono _ _ offp (S.gh g hg), by rw [List.length_set, List.length_set, S.len], fun k x e => ?_, fun a b x y q r ha hb hx hy ne => ?_⟩
  · rcases List.mem_cons.mp ha with z | z
    · subst z
      exact ⟨_, upd_same⟩
    · exact S1.trk a z
  · by_cases hk : i = k
    · subst hk
      by_cases hi : i < ρ.length
      · rw [List.getElem?_set_self hi] at e
        cases e
        exact ⟨some (.ref p), List.getElem?_set_self (by rw [S.len]; exact hi), rfl, List.mem_cons_self, h0, [], upd_same, .nil⟩
      · rw [List.getElem?_eq_none (by rw [List.length_set]; omega)] at e
        cases e
    · rw [List.getElem?_set_ne hk] at e
      rw [List.getElem?_set_ne hk]
      obtain ⟨o, h1, h2⟩ := S.slot k x e
      refine ⟨o, h1, ?_⟩
      cases x with
      | no => trivial
      | im d =>
        obtain ⟨v, e, kd⟩ := h2
        exact ⟨v, e, kd.mono offp⟩
      | raw v => exact h2
      | own q ps =>
        obtain ⟨e, hq, hq0, xs, hx, kd⟩ := h2
        exact ⟨e, List.mem_cons_of_mem _ hq, hq0, xs, by rw [upd_ne (ne_of_none hx hp)]; exact hx, kd.mono offp⟩
      | dct q ps =>
        obtain ⟨e, hq, hq0, xs, hx, kd⟩ := h2
        exact ⟨e, List.mem_cons_of_mem _ hq, hq0, xs, by rw [upd_ne (ne_of_none hx hp)]; exact hx, kd.mono offp⟩
      | semi q ps pr =>
        obtain ⟨q', rest, e, hq', kr, hq, hq0, xs, hx, kd⟩ := h2
        exact ⟨q', rest, e, offp _ _ hq', kr.mono offp, List.mem_cons_of_mem _ hq, hq0, xs, by rw [upd_ne (ne_of_none hx hp)]; exact hx, kd.mono offp⟩
  · have key : ∀ {d : Nat} {x : SV} {r : Addr}, (ρ.set i (.own p []))[d]? = some x → x.adr = some r → (d = i ∧ r = p) ∨ (d ≠ i ∧ ρ[d]? = some x) := fun {d x r} e hx => by
      by_cases hk : i = d
      · subst hk
        by_cases hi : i < ρ.length
        · rw [List.getElem?_set_self hi] at e
          cases e
          cases hx
          exact .inl ⟨rfl, rfl⟩
        · rw [List.getElem?_eq_none (by rw [List.length_set]; omega)] at e
          cases e
      · rw [List.getElem?_set_ne hk] at e
        exact .inr ⟨fun z => hk z.symm, e⟩
    have inF : ∀ {d : Nat} {x : SV} {r : Addr}, ρ[d]? = some x → x.adr = some r → r ∈ F.fs := fun {d x r} e hx => by
      obtain ⟨o, _, h2⟩ := S.slot d _ e
      cases x with
      | own q fs => cases hx; exact h2.2.1
      | dct q fs => cases hx; exact h2.2.1
      | semi q fs gs =>
        cases hx
        obtain ⟨_, _, _, _, _, h3, _⟩ := h2
        exact h3
      | _ => cases hx
    rcases key ha hx with ⟨a1, a2⟩ | ⟨a1, a2⟩ <;> rcases key hb hy with ⟨b1, b2⟩ | ⟨b1, b2⟩
    · exact absurd (a1.trans b1.symm) ne
    · intro z
      exact nF (by rw [← a2, z]; exact inF b2 hy)
    · intro z
      exact nF (by rw [← b2, ← z]; exact inF a2 hx)
    · exact S.nd a b x y q r a2 b2 hx hy ne
/-- x = [] -/
theorem sq_new {i : Nat} (h : ∀ p, SS A u (ρ.set i (.own p [])) c P) : SS A (tSeq (tAsg (tLst tNil) (gName i)) u) ρ c P := fun D F σ H n S l k1 k2 k3 k4 => by
  refine ⟨Nat.zero_le _, fun p hp => ?_⟩
  exact h p D ⟨p :: F.fs, F.gh⟩ _ _ n (st8_own S i hp) l k1 k2 k3 k4
theorem st8_push {F : Fp} {σ : L2.St} {H : Hp} {n : Nat} (S : St8 A F ρ σ H n) {i : Nat} {p : Addr} {ds es : List PyData} {xs : List V} (hi : ρ[i]? = some (.own p ds)) (hx : DA (off F.fs H) xs es) : St8 A F (ρ.set i (.own p es)) σ (upd H p (.lst xs)) n := by
  obtain ⟨o0, h1, h2, hpF, hp0, ys, hy, ky⟩ := S.slot i _ hi
  have offp : Same (off F.fs H) (off F.fs (upd H p (.lst xs))) := off_upd hpF
  have nw := A.fresh_nw hp0
  have adv : Same (off A.W.fs A.H0) (off A.W.fs (upd H p (.lst xs))) := fun a o e => by
    refine off_of (off_some e).1 ?_
    rw [upd_ne fun z => by rw [z] at e; have := (off_some e).2; rw [hp0] at this; cases this]
    exact (off_some (S.adv a o e)).2
  refine ⟨A.W.stay _ _ _ S.j fun a ha o e => by rw [upd_ne (noC_elim nw (noC_lst hy) ha)]; exact e, adv, S.sub, fun a ha => ?_, fun g hg => g.mono _ _ offp (S.gh g hg), by rw [List.length_set]; exact S.len, fun k x e => ?_, fun a b x y q r ha hb hx' hy' ne => ?_⟩
  · by_cases e : a = p
    · exact ⟨_, by rw [e]; exact upd_same⟩
    · rw [upd_ne e]
      exact S.trk a ha
  · by_cases hk : i = k
    · subst hk
      have hl : i < ρ.length := (List.getElem?_eq_some_iff.mp hi).1
      rw [List.getElem?_set_self hl] at e
      cases e
      exact ⟨o0, h1, h2, hpF, hp0, xs, upd_same, hx.mono offp⟩
    · rw [List.getElem?_set_ne hk] at e
      obtain ⟨o, h3, h4⟩ := S.slot k x e
      refine ⟨o, h3, ?_⟩
      cases x with
      | no => trivial
      | im d =>
        obtain ⟨v, e, kd⟩ := h4
        exact ⟨v, e, kd.mono offp⟩
      | raw v => exact h4
      | own q ps =>
        obtain ⟨e', hq, hq0, zs, hz, kd⟩ := h4
        have ne : q ≠ p := S.nd k i _ _ q p e hi rfl rfl (fun z => hk z.symm)
        exact ⟨e', hq, hq0, zs, by rw [upd_ne ne]; exact hz, kd.mono offp⟩
      | dct q ps =>
        obtain ⟨e', hq, hq0, zs, hz, kd⟩ := h4
        have ne : q ≠ p := S.nd k i _ _ q p e hi rfl rfl (fun z => hk z.symm)
        exact ⟨e', hq, hq0, zs, by rw [upd_ne ne]; exact hz, kd.mono offp⟩
      | semi q ps pr =>
        obtain ⟨q', rest, e', hq', kr, hq, hq0, zs, hz, kd⟩ := h4
        have ne : q ≠ p := S.nd k i _ _ q p e hi rfl rfl (fun z => hk z.symm)
        exact ⟨q', rest, e', offp _ _ hq', kr.mono offp, hq, hq0, zs, by rw [upd_ne ne]; exact hz, kd.mono offp⟩
  · have key : ∀ {d : Nat} {x : SV} {r : Addr}, (ρ.set i (.own p es))[d]? = some x → x.adr = some r → ∃ x', ρ[d]? = some x' ∧ x'.adr = some r := fun {d x r} e hx => by
      by_cases hk : i = d
      · subst hk
        have hl : i < ρ.length := (List.getElem?_eq_some_iff.mp hi).1
        rw [List.getElem?_set_self hl] at e
        cases e
        cases hx
        exact ⟨_, hi, rfl⟩
      · rw [List.getElem?_set_ne hk] at e
        exact ⟨_, e, hx⟩
    obtain ⟨g1, e1, f1⟩ := key ha hx'
    obtain ⟨g2, e2, f2⟩ := key hb hy'
    exact S.nd a b g1 g2 q r e1 e2 f1 f2 ne
/-- x.append(e) -/
theorem ss_app {i : Nat} {p : Addr} {ds : List PyData} (hi : ρ[i]? = some (.own p ds)) (h : EE A te ρ c R) (hl : ds.length < sizeLine) (k : ∀ d, R d → P.nx (ρ.set i (.own p (ds ++ [d])))) : SS A (tDrop (tBM K "list" rAppend (tVar i) (tCons te tNil))) ρ c P := fun D F σ H n S l k1 _ _ _ => by
  obtain ⟨o0, h1, h2, hpF, hp0, ys, hy, ky⟩ := S.slot i _ hi
  subst h2
  refine ⟨.ref p, h1, .inl ⟨rfl, ys, .inl (.inl hy)⟩, ?_⟩
  refine h F σ H n _ S l fun v d H1 s j kd r => ?_
  have S1 := S.step s j
  have hy1 : H1 p = some (.lst ys) := (off_some (s p _ (off_of (A.fresh_nw hp0) hy))).2
  have ky1 := ky.mono (S.offF s)
  refine ⟨p, ys, v, rfl, rfl, hy1, by rw [ky.length]; exact hl, ?_⟩
  exact k1 _ F σ _ (k d r) (fun _ hg => hg) (st8_push S1 hi (ky1.append (.cons kd .nil)))
theorem sq_app {i : Nat} {p : Addr} {ds : List PyData} (hi : ρ[i]? = some (.own p ds)) (h : EE A te ρ c1 R) (hl : ds.length < sizeLine) (k : ∀ d, R d → SS A u (ρ.set i (.own p (ds ++ [d]))) c2 P) : SS A (tSeq (tDrop (tBM K "list" rAppend (tVar i) (tCons te tNil))) u) ρ (c1 + c2) P :=
  ss_seq (M := fun ρ1 => SS A u ρ1 c2 P) (ss_app hi h hl k) fun _ h => h
/-- the list is made: data from here on -/
theorem ss_freeze {i : Nat} {p : Addr} {ds : List PyData} (hi : ρ[i]? = some (.own p ds)) (h : SS A t (ρ.set i (.im (.list ds))) c P) : SS A t ρ c P := fun D F σ H n S l k1 k2 k3 k4 => by
  obtain ⟨o0, h1, h2, hpF, hp0, ys, hy, ky⟩ := S.slot i _ hi
  subst h2
  have nf : p ∉ F.fs.filter (fun a => decide (a ≠ p)) := fun z => by
    have := (List.mem_filter.mp z).2
    simp at this
  have sub : ∀ a ∈ F.fs.filter (fun a => decide (a ≠ p)), a ∈ F.fs := fun a ha => (List.mem_filter.mp ha).1
  have offp : Same (off F.fs H) (off (F.fs.filter (fun a => decide (a ≠ p))) H) := off_sub sub
  have hl : i < ρ.length := (List.getElem?_eq_some_iff.mp hi).1
  refine h D ⟨F.fs.filter (fun a => decide (a ≠ p)), F.gh⟩ σ H n ⟨S.j, S.adv, fun a ha => List.mem_filter.mpr ⟨S.sub a ha, decide_eq_true fun z => A.fresh_nfs hp0 (by rw [← z]; exact ha)⟩, fun a ha => S.trk a (sub a ha), fun g hg => g.mono _ _ offp (S.gh g hg), by rw [List.length_set]; exact S.len, fun k x e => ?_, fun a b x y q r ha hb hx' hy' ne => S.nd a b x y q r (adr_set rfl ha hx') (adr_set rfl hb hy') hx' hy' ne⟩ l k1 k2 k3 k4
  · by_cases hk : i = k
    · subst hk
      rw [List.getElem?_set_self hl] at e
      cases e
      exact ⟨_, h1, _, rfl, .lst (off_of nf hy) (ky.mono offp)⟩
    · rw [List.getElem?_set_ne hk] at e
      obtain ⟨o, h3, h4⟩ := S.slot k x e
      refine ⟨o, h3, ?_⟩
      cases x with
      | no => trivial
      | im d =>
        obtain ⟨v, e, kd⟩ := h4
        exact ⟨v, e, kd.mono offp⟩
      | raw v => exact h4
      | own q ps =>
        obtain ⟨e', hq, hq0, zs, hz, kd⟩ := h4
        have ne : q ≠ p := S.nd k i _ _ q p e hi rfl rfl (fun z => hk z.symm)
        exact ⟨e', List.mem_filter.mpr ⟨hq, decide_eq_true ne⟩, hq0, zs, hz, kd.mono offp⟩
      | dct q ps =>
        obtain ⟨e', hq, hq0, zs, hz, kd⟩ := h4
        have ne : q ≠ p := S.nd k i _ _ q p e hi rfl rfl (fun z => hk z.symm)
        exact ⟨e', List.mem_filter.mpr ⟨hq, decide_eq_true ne⟩, hq0, zs, hz, kd.mono offp⟩
      | semi q ps pr =>
        obtain ⟨q', rest, e', hq', kr, hq, hq0, zs, hz, kd⟩ := h4
        have ne : q ≠ p := S.nd k i _ _ q p e hi rfl rfl (fun z => hk z.symm)
        exact ⟨q', rest, e', offp _ _ hq', kr.mono offp, List.mem_filter.mpr ⟨hq, decide_eq_true ne⟩, hq0, zs, hz, kd.mono offp⟩
/-- a slot forgotten -/
theorem ss_forget (i : Nat) (h : SS A t (ρ.set i .no) c P) : SS A t ρ c P := fun D F σ H n S l k1 k2 k3 k4 => by
  refine h D F σ H n ⟨S.j, S.adv, S.sub, S.trk, S.gh, by rw [List.length_set]; exact S.len, fun k x e => ?_, fun a b x y q r ha hb hx' hy' ne => S.nd a b x y q r (adr_set rfl ha hx') (adr_set rfl hb hy') hx' hy' ne⟩ l k1 k2 k3 k4
  · by_cases hk : i = k
    · subst hk
      by_cases hi : i < ρ.length
      · rw [List.getElem?_set_self hi] at e
        cases e
        obtain ⟨o, h1, _⟩ := S.slot i _ (List.getElem?_eq_getElem hi)
        exact ⟨o, h1, trivial⟩
      · rw [List.getElem?_eq_none (by rw [List.length_set]; omega)] at e
        cases e
    · rw [List.getElem?_set_ne hk] at e
      exact S.slot k x e

/-! ### loops -/
theorem ss_for {wi : TI} {g : TG} {tb : TS} {c0 cN : Nat} {RI : List PyData → Prop} (hi : EI A wi ρ c0 RI)
    (h : ∀ ds, RI ds → ∃ (I : Nat → List SV → Prop) (c1 : Nat), ds.length * c1 ≤ cN ∧ I 0 ρ ∧
      (∀ i d ρ1, ds[i]? = some d → I i ρ1 → ∃ ρ2, TG8 A g d ρ1 ρ2 ∧ SS A tb ρ2 c1 { nx := I (i + 1), ct := I (i + 1), bk := P.nx, rt := P.rt, fr := P.fr }) ∧
      ∀ ρ1, I ds.length ρ1 → P.nx ρ1) : SS A (tFor wi g tb) ρ (c0 + cN) P := fun D F σ H n S l k1 k2 k3 k4 => by
  refine hi F σ H n _ S (by omega) fun J G Y ds gg H1 s1 j1 r1 w hg hG hY => ?_
  obtain ⟨I, c1, hc, h0, hs, hd⟩ := h ds r1
  have S1 := S.step s1 j1
  refine for_it w (fun i σ' H' => ∃ ρ1 F1, I i ρ1 ∧ (∀ x ∈ gg :: F.gh, x ∈ F1.gh) ∧ St8 A F1 ρ1 σ' H' (n + c0 + i * c1)) ⟨ρ, ⟨F.fs, gg :: F.gh⟩, h0, fun _ hx => hx, ?_⟩ ?_ ?_ ?_
  · rw [Nat.zero_mul]
    exact ⟨S1.j, S1.adv, S1.sub, S1.trk, fun x hx => by
      rcases List.mem_cons.mp hx with z | z
      · subst z
        exact hg
      · exact S1.gh x z, S1.len, S1.slot, S1.nd⟩
  · rintro i σ' H' _ ⟨ρ1, F1, _, hx, S'⟩
    exact hG H' (gg.mono _ _ off_le (S'.gh gg (hx gg List.mem_cons_self)))
  · rintro i x σ' H2 H3 hi' ⟨ρ1, F1, i1, hx, S2⟩ y
    have g2 := S2.gh gg (hx gg List.mem_cons_self)
    obtain ⟨s3, d, hd', kd⟩ := hY i H2 x H3 (gg.mono _ _ off_le g2) hi' y
    obtain ⟨ρ2, tg, ss⟩ := hs i d ρ1 hd' i1
    have b1 : i * c1 + c1 ≤ cN := Nat.le_trans (by rw [← Nat.succ_mul]; exact Nat.mul_le_mul_right _ hi') hc
    have S3 : St8 A F1 ρ1 σ' H3 (n + c0 + i * c1) := S2.step (same_off s3) (A.W.stay _ _ _ S2.j fun a _ o e => s3 a o e)
    refine tg F1 σ' H3 _ x _ S3 (kd F1.fs S2.trk g2) fun σ'' S4 => ?_
    have nxt : KN A F1.gh (n + c0 + i * c1 + c1) (I (i + 1)) (fun σ' H' => ∃ ρ1 F1, I (i + 1) ρ1 ∧ (∀ x ∈ gg :: F.gh, x ∈ F1.gh) ∧ St8 A F1 ρ1 σ' H' (n + c0 + (i + 1) * c1)) := fun ρ' F' σ3 H4 hI hgh S5 =>
      ⟨ρ', F', hI, fun z hz => hgh z (hx z hz), S5.up (by rw [Nat.succ_mul]; omega)⟩
    exact ss _ F1 σ'' H3 _ S4 (by omega) nxt (k2.le (by omega)) ((k1.gs fun z hz => hx z (List.mem_cons_of_mem _ hz)).le (by omega)) nxt
  · rintro σ' H' ⟨ρ1, F1, i1, hx, S2⟩
    exact k1 ρ1 F1 σ' H' (hd ρ1 i1) (fun z hz => hx z (List.mem_cons_of_mem _ hz)) (S2.up (by omega))
theorem sq_for {wi : TI} {g : TG} {tb : TS} {c0 cN : Nat} {RI : List PyData → Prop} (hi : EI A wi ρ c0 RI)
    (h : ∀ ds, RI ds → ∃ (I : Nat → List SV → Prop) (c1 : Nat), ds.length * c1 ≤ cN ∧ I 0 ρ ∧
      (∀ i d ρ1, ds[i]? = some d → I i ρ1 → ∃ ρ2, TG8 A g d ρ1 ρ2 ∧ SS A tb ρ2 c1 { nx := I (i + 1), ct := I (i + 1), bk := fun ρ' => SS A u ρ' c2 P, rt := P.rt, fr := P.fr }) ∧
      ∀ ρ1, I ds.length ρ1 → SS A u ρ1 c2 P) : SS A (tSeq (tFor wi g tb) u) ρ (c0 + cN + c2) P :=
  ss_seq (M := fun ρ1 => SS A u ρ1 c2 P) (ss_for hi h) fun _ h => h
end

/-! ### defs -/
theorem st8_start {A : Amb} {H : Hp} {n : Nat} {N : List Str} {vs : List V} {ρ : List SV} (e0 : A.H0 = H) (j : A.W.J n H) (hs : ∀ (i : Nat) (s : SV), ρ[i]? = some s → ∃ v, vs[i]? = some v ∧ ((∃ d, s = .im d ∧ DD (off A.F0 H) v d) ∨ s = .raw v)) (hl : ρ.length = vs.length) :
    St8 A ⟨A.F0, []⟩ (ρ ++ List.replicate (N.length - vs.length) .no) (L2.start N vs) H n := by
  refine ⟨j, by rw [e0]; exact Same.refl _, fun a ha => ha, fun a ha => by rw [← e0]; exact A.trk a ha, fun g hg => absurd hg List.not_mem_nil, ?_, fun i s e => ?_, fun a b x y p q ha hb hx hy ne => ?_⟩
  · unfold L2.start
    rw [List.length_append, List.length_append, List.length_map, List.length_replicate, List.length_replicate, hl]
  · unfold L2.start
    by_cases hi : i < ρ.length
    · rw [List.getElem?_append_left hi] at e
      obtain ⟨v, hv, h⟩ := hs i s e
      refine ⟨some v, ?_, ?_⟩
      · rw [List.getElem?_append_left (by rw [List.length_map, ← hl]; exact hi), List.getElem?_map, hv]
        rfl
      · rcases h with ⟨d, rfl, k⟩ | rfl
        · exact ⟨v, rfl, k⟩
        · rfl
    · rw [List.getElem?_append_right (by omega)] at e
      rw [List.getElem?_append_right (by rw [List.length_map]; omega), List.length_map, ← hl]
      have e' := e
      rw [List.getElem?_replicate] at e'
      split at e'
      · rename_i hlt
        cases e'
        refine ⟨none, ?_, trivial⟩
        rw [List.getElem?_replicate, if_pos (by omega)]
      · cases e'
  · exfalso
    by_cases hi : a < ρ.length
    · rw [List.getElem?_append_left hi] at ha
      obtain ⟨v, hv, h⟩ := hs a _ ha
      rcases h with ⟨d, e, _⟩ | e <;> subst e <;> cases hx
    · rw [List.getElem?_append_right (by omega), List.getElem?_replicate] at ha
      split at ha
      · cases ha
        cases hx
      · cases ha
/-- a def that changes nothing: its body by data -/
theorem spp_of {pre : List PyData → Prop} {post : List PyData → PyData → Prop} {t : TS} {N : List Str} {m k : Nat} {vs : List V} {H : Hp} {Q : VK} {E : XK} {c : Nat} (hN : N.length - m = k) (hm : ∀ ds, pre ds → ds.length = m) (hc : c ≤ LIM)
    (h : ∀ (A : Amb) (ds : List PyData), A.W = W0 → pre ds → SS A t (ds.map .im ++ List.replicate k .no) c { nx := fun _ => post ds .none, rt := post ds }) (hsp : SPp pre post vs H Q E) : t { nx := fun _ H' => Q .non H', rt := Q } (L2.start N vs) H := by
  obtain ⟨fs, ds, trk, kd, hp, q⟩ := hsp
  let A : Amb := ⟨W0, fs, H, fun a ha => absurd ha List.not_mem_nil, trk⟩
  have hl : vs.length = m := by rw [kd.length]; exact hm ds hp
  have S : St8 A ⟨fs, []⟩ (ds.map .im ++ List.replicate (N.length - vs.length) .no) (L2.start N vs) H 0 := st8_start (A := A) rfl trivial (fun i s e => by
    rw [List.getElem?_map] at e
    cases e2 : ds[i]? with
    | none => rw [e2] at e; cases e
    | some d =>
      rw [e2] at e
      cases e
      obtain ⟨v, hv, k⟩ := kd.at e2
      exact ⟨v, hv, .inl ⟨d, rfl, k⟩⟩) (by rw [List.length_map, kd.length])
  have hk : N.length - vs.length = k := by rw [hl]; exact hN
  rw [hk] at S
  have s0 : ∀ {H' : Hp}, Same (off A.W.fs A.H0) (off A.W.fs H') → Same H H' := fun {H'} s a o e => (off_some (s a o (off_of List.not_mem_nil e))).2
  refine h A ds rfl hp _ ⟨fs, []⟩ _ H 0 S (by omega) ?_ ?_ ?_ ?_
  · intro ρ' F' σ' H' a _ S'
    exact q .non .none H' (s0 S'.adv) .non a
  · exact ⟨fun v d H' a s _ b => q v d H' (s0 s) b a, fun _ _ _ _ z => z.elim⟩
  · intro ρ' F' σ' H' a
    exact False.elim a
  · intro ρ' F' σ' H' a
    exact False.elim a
end DL

set_option linter.all false
set_option maxRecDepth 100000
set_option maxHeartbeats 4000000
/-! DL5: defs run where no repr is under way; repr; == of data; great powers; the source of draws -/
namespace DL
open PySem PySem.Spec L2

/-! ### data without dicts, read by the library's rules -/
mutual
theorem DD.toDp {K : PySem.W.Frag} {H : Hp} : ∀ {v : V} {d : PyData}, DD H v d → d.plain = true → Dp K H v d
  | _, _, .non, _ => .non
  | _, _, .bl b, _ => .bl b
  | _, _, .int i, _ => .int i
  | _, _, .str x, _ => .str x
  | _, _, .lst h k, p => .lst (.inl (.inl h)) (DA.toDp k (by simpa only [PyData.plain] using p))
  | _, _, .tup h k, p => .tup (.inl (.inl h)) (DA.toDp k (by simpa only [PyData.plain] using p))
  | _, _, .dct h k, p => by simp only [PyData.plain] at p; cases p
theorem DA.toDp {K : PySem.W.Frag} {H : Hp} : ∀ {vs : List V} {ds : List PyData}, DA H vs ds → PyData.plainAll ds = true → DpAll K H vs ds
  | _, _, .nil, _ => .nil
  | _, _, .cons h t, p => by
    rw [PyData.plainAll, Bool.and_eq_true] at p
    exact .cons (DD.toDp h p.1) (DA.toDp t p.2)
end
/-- == and != of data without dicts, of any texts -/
def rEqP : L2.R2 := fun x y H Q => ∃ d e, DD H x d ∧ DD H y e ∧ d.plain = true ∧ e.plain = true ∧ min d.depth e.depth ≤ 60 ∧ Q (.bl (PyData.eqv d e)) H
def rNeP : L2.R2 := fun x y H Q => ∃ d e, DD H x d ∧ DD H y e ∧ d.plain = true ∧ e.plain = true ∧ min d.depth e.depth ≤ 60 ∧ Q (.bl (!PyData.eqv d e)) H
section
variable {X : Cx}
theorem op_eqP (hu : X.A.units + 64 < cLine) : OpR X (compareOp .Eq) rEqP := by
  intro pins s σ H x y v u Q I rx ry ⟨d, e, hd, he, pd, pe, dp, q⟩
  obtain ⟨as, r1⟩ := Dp.reads I d x v (hd.toDp pd) rx
  obtain ⟨bs, r2⟩ := Dp.reads I e y u (he.toDp pe) ry
  exact PySem.SeqAt.eq_plain r1 r2 pd pe (by omega) ⟨.bl _, H, I, rfl, q⟩
theorem op_neP (hu : X.A.units + 64 < cLine) : OpR X (compareOp .NotEq) rNeP := by
  intro pins s σ H x y v u Q I rx ry ⟨d, e, hd, he, pd, pe, dp, q⟩
  obtain ⟨as, r1⟩ := Dp.reads I d x v (hd.toDp pd) rx
  obtain ⟨bs, r2⟩ := Dp.reads I e y u (he.toDp pe) ry
  exact PySem.SeqAt.ne_plain r1 r2 pd pe (by omega) ⟨.bl _, H, I, rfl, q⟩
/-- i ** j of a great i -/
def CPowW (i j : Int) : Prop := 0 ≤ j ∧ j ≤ 100 ∧ i.natAbs < 2 ^ 9000
theorem op_powW : OpR X (binaryOp .Pow) (rI CPowW fun i j => .int (i ^ j.toNat)) := opI fun i j _ _ _ _ _ hc q => by
  refine PyProof.Rows.pow_int hc.1 ?_ q
  have h1 : i.natAbs.log2 < 9000 := PySem.Flt.log2_lt_of (by decide) hc.2.2
  have h2 : Builtin.Int.intBits i ≤ 9000 := by
    unfold Builtin.Int.intBits
    split <;> omega
  have h3 : (Builtin.Int.intBits i : Int) * j ≤ 9000 * 100 := Int.mul_le_mul (by omega) hc.2.1 hc.1 (by decide)
  omega
/-- repr of data without dicts -/
def rRepr : List V → Hp → VK → Prop := fun xs H Q => ∃ x d, xs = [x] ∧ DD H x d ∧ d.plain = true ∧ d.showable = true ∧ d.depth ≤ 60 ∧ d.shown.length ≤ sizeLine ∧ (∃ a, x = .ref a) ∧ Q (.str d.shown) H
mutual
theorem hasDict_of_plain : ∀ d : PyData, d.plain = true → d.hasDict = false
  | .none, _ => by simp only [PyData.hasDict]
  | .bool _, _ => by simp only [PyData.hasDict]
  | .int _, _ => by simp only [PyData.hasDict]
  | .str _, _ => by simp only [PyData.hasDict]
  | .list xs, h => by
    simp only [PyData.hasDict]
    exact hasDictAll_of_plain xs (by simpa only [PyData.plain] using h)
  | .tuple xs, h => by
    simp only [PyData.hasDict]
    exact hasDictAll_of_plain xs (by simpa only [PyData.plain] using h)
  | .dict _, h => by
    simp only [PyData.plain] at h
    cases h
theorem hasDictAll_of_plain : ∀ ds : List PyData, PyData.plainAll ds = true → PyData.hasDictAll ds = false
  | [], _ => by simp only [PyData.hasDictAll]
  | d :: ds, h => by
    rw [PyData.plainAll, Bool.and_eq_true] at h
    simp only [PyData.hasDictAll, hasDict_of_plain d h.1, hasDictAll_of_plain ds h.2, Bool.or_self]
end
theorem call_reprP (hg : X.A.guards = some []) (hu : X.A.units + 64 < cLine) : CallR X (.builtin "repr") rRepr := by
  intro pins s σ H xs us Q I r ⟨x, d, e, hd, pd, sd, dp, sz, ⟨a, ea⟩, q⟩
  subst e ea
  obtain ⟨u, rfl, ru⟩ := vals1 r
  cases (show u = Value.ref a from ru)
  obtain ⟨as, r1⟩ := Dp.reads I d (.ref a) (.ref a) (hd.toDp pd) rfl
  exact repr_of_reads' r1 sd (PyData.noDict_hsm (hasDict_of_plain d pd)) hg (by omega) (fun _ _ h => h) (fun h' t tk k => ⟨.str d.shown, H, I.kept k, ⟨_, rfl⟩, q⟩) sz
end
end DL

set_option linter.all false
set_option maxRecDepth 100000
set_option maxHeartbeats 4000000
/-! DL6: operators of several kinds, the source of draws, calls -/
namespace DL
open PySem PySem.Spec L2

/-! ### operators of several kinds -/
def rAddT : L2.R2 := fun x y H Q => ∃ i j, x = .str i ∧ y = .str j ∧ i.length + j.length ≤ sizeLine ∧ Q (.str (i ++ j)) H
def rAddA : L2.R2 := fun x y H Q => (rI0 fun i j => .int (i + j)) x y H Q ∨ (rAddT x y H Q ∨ rCat x y H Q)
def rLtS : L2.R2 := fun x y H Q => ∃ i j, x = .str i ∧ y = .str j ∧ Q (.bl (decide (i.cps.toList < j.cps.toList))) H
def rLeS : L2.R2 := fun x y H Q => ∃ i j, x = .str i ∧ y = .str j ∧ Q (.bl (!decide (j.cps.toList < i.cps.toList))) H
def rGtS : L2.R2 := fun x y H Q => ∃ i j, x = .str i ∧ y = .str j ∧ Q (.bl (decide (j.cps.toList < i.cps.toList))) H
def rGeS : L2.R2 := fun x y H Q => ∃ i j, x = .str i ∧ y = .str j ∧ Q (.bl (!decide (i.cps.toList < j.cps.toList))) H
def rLtA : L2.R2 := fun x y H Q => (rI0 fun i j => .bl (decide (i < j))) x y H Q ∨ rLtS x y H Q
def rLeA : L2.R2 := fun x y H Q => (rI0 fun i j => .bl (decide (i ≤ j))) x y H Q ∨ rLeS x y H Q
def rGtA : L2.R2 := fun x y H Q => (rI0 fun i j => .bl (decide (j < i))) x y H Q ∨ rGtS x y H Q
def rGeA : L2.R2 := fun x y H Q => (rI0 fun i j => .bl (decide (j ≤ i))) x y H Q ∨ rGeS x y H Q
def rSgn (neg : Bool) : L2.R2 := fun x y H Q => ∃ (c : Nat) (z : Str), x = .str ⟨#[c]⟩ ∧ y = .str z ∧ Q (.bl (if neg then !decide (c ∈ z.cps.toList) else decide (c ∈ z.cps.toList))) H
def rInA (K : PySem.W.Frag) (neg : Bool) : L2.R2 := fun x y H Q => rIn K neg x y H Q ∨ rSgn neg x y H Q
def rMulA : L2.R2 := fun x y H Q => (rI CMul fun i j => .int (i * j)) x y H Q ∨ rRep x y H Q
section
variable {X : Cx}
theorem op_addA : OpR X (binaryOp .Add) rAddA := OpR.or op_add (OpR.or op_add_str op_cat)
theorem op_ltA : OpR X (compareOp .Lt) rLtA := OpR.or op_lt op_lt_str
theorem op_leA : OpR X (compareOp .LtE) rLeA := OpR.or op_le op_le_str
theorem op_gtA : OpR X (compareOp .Gt) rGtA := OpR.or op_gt op_gt_str
theorem op_geA : OpR X (compareOp .GtE) rGeA := OpR.or op_ge op_ge_str
theorem op_inA : OpR X (compareOp .In) (rInA X.K false) := OpR.or op_in_seq op_in_sign
theorem op_niA : OpR X (compareOp .NotIn) (rInA X.K true) := OpR.or op_notIn_seq op_notIn_sign
theorem op_mulA : OpR X (binaryOp .Mult) rMulA := OpR.or op_mul op_rep
end
section
variable {A : Amb} {ρ : List SV} {te ta tb : TE} {c c' c1 c2 c3 : Nat} {R R' Ra Rb Rc : PyData → Prop} {K : PySem.W.Frag} {tl tr : TA} {RA RB : List PyData → Prop} {i j : Int} {x y : Str}
theorem Opd.l {r r' : L2.R2} {d1 d2 : PyData} (h : Opd r d1 d2 R) : Opd (fun x y H Q => r x y H Q ∨ r' x y H Q) d1 d2 R := fun H x y Q h1 h2 q => .inl (h H x y Q h1 h2 q)
theorem Opd.r {r r' : L2.R2} {d1 d2 : PyData} (h : Opd r' d1 d2 R) : Opd (fun x y H Q => r x y H Q ∨ r' x y H Q) d1 d2 R := fun H x y Q h1 h2 q => .inr (h H x y Q h1 h2 q)
theorem od_addI : Opd rAddA (.int i) (.int j) (· = .int (i + j)) := Opd.l opd_i0
theorem od_addS (h : x.length + y.length ≤ sizeLine) : Opd rAddA (.str x) (.str y) (· = .str (x ++ y)) := Opd.r (Opd.l (opd_adds h))
theorem od_subI : Opd (rI0 fun i j => .int (i - j)) (.int i) (.int j) (· = .int (i - j)) := opd_i0
theorem od_mulI (h : CMul i j) : Opd rMulA (.int i) (.int j) (· = .int (i * j)) := Opd.l (opd_i h)
theorem od_ltI : Opd rLtA (.int i) (.int j) (· = .bool (decide (i < j))) := Opd.l opd_b0
theorem od_leI : Opd rLeA (.int i) (.int j) (· = .bool (decide (i ≤ j))) := Opd.l opd_b0
theorem od_gtI : Opd rGtA (.int i) (.int j) (· = .bool (decide (j < i))) := Opd.l opd_b0
theorem od_geI : Opd rGeA (.int i) (.int j) (· = .bool (decide (j ≤ i))) := Opd.l opd_b0
theorem od_leS : Opd rLeA (.str x) (.str y) (· = .bool (!decide (y.cps.toList < x.cps.toList))) := Opd.r fun H a b Q h1 h2 q => by
  cases h1; cases h2
  exact ⟨x, y, rfl, rfl, q _ _ (fun G => .bl _) rfl⟩
theorem od_ltS : Opd rLtA (.str x) (.str y) (· = .bool (decide (x.cps.toList < y.cps.toList))) := Opd.r fun H a b Q h1 h2 q => by
  cases h1; cases h2
  exact ⟨x, y, rfl, rfl, q _ _ (fun G => .bl _) rfl⟩
theorem od_in {neg : Bool} {d : PyData} {ds : List PyData} (f : flatD d = true) (g : ds.all flatD = true) : Opd (rInA K neg) d (.list ds) (· = .bool (if neg then !(ds.any fun e => PyData.eqv e d) else ds.any fun e => PyData.eqv e d)) := Opd.l (opd_in f g)
theorem od_inT {neg : Bool} {d : PyData} {ds : List PyData} (f : flatD d = true) (g : ds.all flatD = true) : Opd (rInA K neg) d (.tuple ds) (· = .bool (if neg then !(ds.any fun e => PyData.eqv e d) else ds.any fun e => PyData.eqv e d)) := Opd.l (opd_inT f g)
theorem od_inS {neg : Bool} {z : Nat} : Opd (rInA K neg) (.str ⟨#[z]⟩) (.str y) (· = .bool (if neg then !decide (z ∈ y.cps.toList) else decide (z ∈ y.cps.toList))) := Opd.r fun H a b Q h1 h2 q => by
  cases h1; cases h2
  exact ⟨z, y, rfl, rfl, q _ _ (fun G => .bl _) rfl⟩
theorem od_eq {d e : PyData} (p : d.plain = true) (q : e.plain = true) (l : min d.depth e.depth ≤ 60) : Opd rEqP d e (· = .bool (PyData.eqv d e)) := fun H a b Q h1 h2 k =>
  ⟨d, e, h1, h2, p, q, l, k _ _ (fun G => .bl _) rfl⟩
theorem od_ne {d e : PyData} (p : d.plain = true) (q : e.plain = true) (l : min d.depth e.depth ≤ 60) : Opd rNeP d e (· = .bool (!PyData.eqv d e)) := fun H a b Q h1 h2 k =>
  ⟨d, e, h1, h2, p, q, l, k _ _ (fun G => .bl _) rfl⟩
theorem od_isB {a b : Bool} : Opd rIsB (.bool a) (.bool b) (· = .bool (decide (a = b))) := fun H u v Q h1 h2 q => by
  cases h1; cases h2
  exact ⟨a, b, rfl, rfl, q _ _ (fun G => .bl _) rfl⟩
theorem od_notB {a b : Bool} : Opd rNotB (.bool a) (.bool b) (· = .bool (!decide (a = b))) := fun H u v Q h1 h2 q => by
  cases h1; cases h2
  exact ⟨a, b, rfl, rfl, q _ _ (fun G => .bl _) rfl⟩
theorem ee_addLR (h1 : EE A ta ρ c1 Ra) (h2 : EE A tb ρ c2 Rb) (hr : ∀ d1 d2, Ra d1 → Rb d2 → ∃ ds es, d1 = .list ds ∧ d2 = .list es ∧ ds.length + es.length ≤ sizeLine ∧ R (.list (ds ++ es))) : EE A (tOp rAddA ta tb) ρ (c1 + c2) R := fun F σ H n Q S l q => by
  refine h1 F σ H n _ S (by omega) fun v d1 H1 s1 j1 k1 r1 => ?_
  have S1 := S.step s1 j1
  refine h2 F σ H1 (n + c1) _ S1 (by omega) fun w d2 H2 s2 j2 k2 r2 => ?_
  have S2 := S1.step s2 j2
  obtain ⟨ds, es, e1, e2, e3, e4⟩ := hr d1 d2 r1 r2
  subst e1 e2
  have k1' := k1.mono (S1.offF s2)
  cases k1' with
  | lst hp kp =>
    cases k2 with
    | lst hq kq =>
      refine .inr (.inr ⟨_, _, _, _, rfl, rfl, (off_some hp).2, (off_some hq).2, by rw [kp.length, kq.length]; exact e3, fun p hn => ?_⟩)
      exact q _ _ _ ((s1.trans s2).trans (S2.newS hn)) (by rw [← Nat.add_assoc]; exact S2.newJ hn) (new_lst S2 hn (kp.append kq)) e4
theorem ee_addL {ds es : List PyData} (h1 : EE A ta ρ c1 (· = .list ds)) (h2 : EE A tb ρ c2 (· = .list es)) (hl : ds.length + es.length ≤ sizeLine) : EE A (tOp rAddA ta tb) ρ (c1 + c2) (· = .list (ds ++ es)) :=
  ee_addLR h1 h2 fun d1 d2 e1 e2 => ⟨ds, es, e1, e2, hl, rfl⟩
/-- a list so many times -/
theorem ee_repR (h1 : EE A ta ρ c1 Ra) (h2 : ER A tb ρ c2 Rb) (hr : ∀ d1 d2, Ra d1 → Rb d2 → ∃ (ds : List PyData) (k : Nat), d1 = .list ds ∧ d2 = .int (k : Nat) ∧ k ≤ 1000000 ∧ ds.length * k ≤ sizeLine ∧ R (.list (List.replicate k ds).flatten)) : EE A (tOp rMulA ta tb) ρ (c1 + c2) R := fun F σ H n Q S l q => by
  refine h1 F σ H n _ S (by omega) fun v d1 H1 s1 j1 k1 r1 => ?_
  have S1 := S.step s1 j1
  refine h2 F σ H1 (n + c1) _ S1 (by omega) fun w d2 H2 s2 j2 k2 r2 => ?_
  have S2 := S1.step s2 j2
  obtain ⟨ds, m, e1, e2, e3, e4, e5⟩ := hr d1 d2 r1 r2
  subst e1 e2
  have k1' := k1.mono (S1.offF s2)
  cases k2
  cases k1' with
  | lst hp kp =>
    refine .inr ⟨_, (m : Int), _, rfl, rfl, (off_some hp).2, by omega, by omega, by rw [kp.length, Int.toNat_natCast]; exact e4, fun p hn => ?_⟩
    have rep : ∀ (m : Nat), DA (off F.fs H2) (List.replicate m _).flatten (List.replicate m ds).flatten := fun m => by
      induction m with
      | zero => exact .nil
      | succ m ih =>
        rw [List.replicate_succ, List.replicate_succ, List.flatten_cons, List.flatten_cons]
        exact kp.append ih
    rw [Int.toNat_natCast]
    exact q _ _ _ ((s1.trans s2).trans (S2.newS hn)) (by rw [← Nat.add_assoc]; exact S2.newJ hn) (new_lst S2 hn (rep m)) e5
theorem ee_revR (h : EE A te ρ c R) (hr : ∀ d, R d → ∃ ds, d = .list ds ∧ R' (.list ds.reverse)) : EE A (tRevL K te) ρ c R' := fun F σ H n Q S l q => by
  refine h F σ H n _ S l fun v d H1 s j k r => ?_
  have S1 := S.step s j
  obtain ⟨ds, e1, e2⟩ := hr d r
  subst e1
  cases k with
  | lst hp kk =>
    refine ⟨_, _, rfl, .inl (.inl (off_some hp).2), fun p hn => ?_⟩
    exact q _ _ _ (s.trans (S1.newS hn)) (S1.newJ hn) (new_lst S1 hn kk.reverse) e2
theorem ee_rev {ds : List PyData} (h : EE A te ρ c (· = .list ds)) : EE A (tRevL K te) ρ c (· = .list ds.reverse) := ee_revR h fun d e => ⟨ds, e, rfl⟩
def nonD : PyData → Bool
  | .none => true
  | _ => false
/-- None by is -/
theorem od_isN {d : PyData} : Opd (fun x y H Q => y = .non ∧ Q (.bl (decide (x = .non))) H) d .none (· = .bool (nonD d)) := fun H u v Q h1 h2 q => by
  cases h2
  have e : decide (u = V.non) = nonD d := by cases h1 <;> simp [nonD]
  refine ⟨rfl, ?_⟩
  rw [e]
  exact q _ _ (fun G => .bl _) rfl
theorem od_notN {d : PyData} : Opd (fun x y H Q => y = .non ∧ Q (.bl (!decide (x = .non))) H) d .none (· = .bool (!nonD d)) := fun H u v Q h1 h2 q => by
  cases h2
  have e : decide (u = V.non) = nonD d := by cases h1 <;> simp [nonD]
  refine ⟨rfl, ?_⟩
  rw [e]
  exact q _ _ (fun G => .bl _) rfl
/-- a <= b <= c -/
theorem ee_chain {r r' : L2.R2} {tc : TE} {d1 d2 d3 : PyData} {a b : Bool} (h1 : ER A ta ρ c1 (· = d1)) (h2 : ER A tb ρ c2 (· = d2)) (h3 : ER A tc ρ c3 (· = d3)) (k1 : Opd r d1 d2 (· = .bool a)) (k2 : Opd r' d2 d3 (· = .bool b)) :
    EE A (tChain r r' ta tb tc) ρ (c1 + c2 + c3) (· = .bool (a && b)) := fun F σ H n Q S l q => by
  refine h1 F σ H n _ S (by omega) fun v e1 H1 s1 j1 kk1 r1 => ?_
  have S1 := S.step s1 j1
  refine h2 F σ H1 (n + c1) _ S1 (by omega) fun w e2 H2 s2 j2 kk2 r2 => ?_
  have S2 := S1.step s2 j2
  subst r1 r2
  have kk1' := (kk1.mono (off_mono A.sub s2)).mono off_le
  refine k1 H2 v w _ kk1' (kk2.mono off_le) fun z d hz hd => ?_
  subst hd
  cases hz H2
  refine ⟨a, rfl, ?_⟩
  have e : n + (c1 + c2 + c3) = n + c1 + c2 + c3 := by omega
  cases a with
  | false =>
    show Q (.bl false) H2
    exact q _ _ H2 (s1.trans s2) (A.W.up _ _ _ (by omega) j2) (.bl _) rfl
  | true =>
    show tc σ H2 _
    refine h3 F σ H2 (n + c1 + c2) _ S2 (by omega) fun u e3 H3 s3 j3 kk3 r3 => ?_
    subst r3
    refine k2 H3 w u Q ((kk2.mono (off_mono A.sub s3)).mono off_le) (kk3.mono off_le) fun z d hz hd => ?_
    subst hd
    exact q _ _ H3 ((s1.trans s2).trans s3) (by rw [e]; exact j3) (hz _) rfl

/-! ### methods of texts -/
theorem ee_m1 {r : V → List V → Hp → VK → Prop} {x : Str} {d : PyData} (h1 : ER A ta ρ c1 (· = .str x)) (h2 : EE A tb ρ c2 (· = d)) (hr : ∀ (H : Hp) (v : V) (Q : VK), DD H v d → (∀ w e, (∀ G, DD G w e) → R e → Q w H) → r (.str x) [v] H Q) : EE A (tM1 r ta tb) ρ (c1 + c2) R := fun F σ H n Q S l q => by
  refine h1 F σ H n _ S (by omega) fun v d1 H1 s1 j1 k1 r1 => ?_
  have S1 := S.step s1 j1
  subst r1
  cases k1
  refine ⟨⟨x, rfl⟩, ?_⟩
  refine h2 F σ H1 (n + c1) _ S1 (by omega) fun w d2 H2 s2 j2 k2 r2 => ?_
  subst r2
  exact hr H2 w Q (k2.mono off_le) fun w e he re => q w e H2 (s1.trans s2) (by rw [← Nat.add_assoc]; exact j2) (he _) re
/-- ''.join of texts, some list of them -/
theorem ee_joinR {x : Str} (h1 : ER A ta ρ c1 (· = .str x)) (h2 : EE A tb ρ c2 Rb) (hr : ∀ d, Rb d → ∃ ys : List Str, d = .list (ys.map .str) ∧ (ys.map (·.length)).sum + ys.length * x.length ≤ 16777216 ∧ R (.str (Txt.join x ys))) :
    EE A (tM1 (fun x xs H Q => ∃ a p, ∃ ys : List Str, x = .str a ∧ xs = [.ref p] ∧ (SqL K H p (ys.map V.str) ∨ SqT K H p (ys.map V.str)) ∧ (ys.map (·.length)).sum + ys.length * a.length ≤ 16777216 ∧ Q (.str (Txt.join a ys)) H) ta tb) ρ (c1 + c2) R := fun F σ H n Q S l q => by
  refine h1 F σ H n _ S (by omega) fun v d1 H1 s1 j1 k1 r1 => ?_
  have S1 := S.step s1 j1
  subst r1
  cases k1
  refine ⟨⟨x, rfl⟩, ?_⟩
  refine h2 F σ H1 (n + c1) _ S1 (by omega) fun w d2 H2 s2 j2 k2 r2 => ?_
  obtain ⟨ys, e1, e2, e3⟩ := hr d2 r2
  subst e1
  cases k2 with
  | lst hp kk =>
    have e := kk.strs
    subst e
    exact ⟨x, _, ys, rfl, rfl, .inl (.inl (.inl (off_some hp).2)), e2, q _ _ H2 (s1.trans s2) (by rw [← Nat.add_assoc]; exact j2) (.str _) e3⟩
theorem ee_starts {x y : Str} (h1 : ER A ta ρ c1 (· = .str x)) (h2 : EE A tb ρ c2 (· = .str y)) : EE A (tM1 (fun x xs H Q => ∃ a b, x = .str a ∧ xs = [.str b] ∧ Q (.bl (Txt.startswith a b)) H) ta tb) ρ (c1 + c2) (· = .bool (Txt.startswith x y)) :=
  ee_m1 h1 h2 fun H v Q k q => by
    cases k
    exact ⟨x, y, rfl, rfl, q _ _ (fun G => .bl _) rfl⟩
end

/-! ### isinstance -/
def tyOf : PyData → String
  | .none => "NoneType" | .bool _ => "bool" | .int _ => "int" | .str _ => "str" | .list _ => "list" | .tuple _ => "tuple" | .dict _ => "dict"

/-! ### the source of draws -/
structure Deck where
  d : Addr
  pl : Addr
  ps : List Addr
def Deck.fs (b : Deck) : List Addr := b.d :: b.pl :: b.ps
def PoolAt (n : Nat) (H : Hp) (p : Addr) : Prop := ∃ (c f : Int) (k : Nat), H p = some (.lst [.int c, .int f, .int (k : Nat)]) ∧ k ≤ 3000 + n
def dJ (b : Deck) (n : Nat) (H : Hp) : Prop := ∃ pos : Nat, H b.d = some (.lst [.ref b.pl, .int (pos : Nat)]) ∧ H b.pl = some (.lst (b.ps.map V.ref)) ∧ 0 < b.ps.length ∧ b.ps.length ≤ 63 ∧ ∀ p ∈ b.ps, PoolAt n H p
def dW (b : Deck) : Wd where
  fs := b.fs
  J := dJ b
  up := fun n m H l ⟨pos, h1, h2, h3, h4, h5⟩ => ⟨pos, h1, h2, h3, h4, fun p hp => by
    obtain ⟨c, f, k, e, hk⟩ := h5 p hp
    exact ⟨c, f, k, e, by omega⟩⟩
  stay := fun n H H' ⟨pos, h1, h2, h3, h4, h5⟩ s => ⟨pos, s _ (.inl List.mem_cons_self) _ h1, s _ (.inl (List.mem_cons_of_mem _ List.mem_cons_self)) _ h2, h3, h4, fun p hp => by
    obtain ⟨c, f, k, e, hk⟩ := h5 p hp
    exact ⟨c, f, k, s _ (.inl (List.mem_cons_of_mem _ (List.mem_cons_of_mem _ hp))) _ e, hk⟩⟩
  trk := fun n H ⟨pos, h1, h2, h3, h4, h5⟩ a ha => by
    rcases List.mem_cons.mp ha with e | ha
    · rw [e]
      exact ⟨_, h1⟩
    · rcases List.mem_cons.mp ha with e | ha
      · rw [e]
        exact ⟨_, h2⟩
      · obtain ⟨c, f, k, e, _⟩ := h5 a ha
        exact ⟨_, e⟩
/-- a def whose first argument is the source: it may draw cst times -/
def SPd (cst : Nat) (pre : List PyData → Prop) (post : List PyData → PyData → Prop) : Sp := fun vs H Q _ => ∃ (b : Deck) (vs' : List V) (fs : List Addr) (n : Nat) (ds : List PyData), vs = .ref b.d :: vs' ∧ (∀ a ∈ b.fs, a ∈ fs) ∧ (∀ a ∈ fs, ∃ o, H a = some o) ∧ dJ b n H ∧ n + cst ≤ LIM ∧
  DA (off fs H) vs' ds ∧ pre ds ∧ ∀ v d H', Same (off b.fs H) (off b.fs H') → dJ b (n + cst) H' → DD (off fs H') v d → post ds d → Q v H'
section
variable {A : Amb} {ρ : List SV} {c cst : Nat} {tl : TA} {RA : List PyData → Prop}
theorem ee_calld {b : Deck} {i : Nat} {pre : List PyData → Prop} {post : List PyData → PyData → Prop} {E : XK} (hW : A.W = dW b) (hd : ρ[i]? = some (.raw (.ref b.d))) (h : EA A tl ρ c RA) (hp : ∀ ds, RA ds → pre ds) :
    EE A (tCall (SPd cst pre post) [] E (tCons (tVar i) tl)) ρ (c + cst) (fun d => ∃ ds, RA ds ∧ post ds d) := fun F σ H n Q S l q => by
  obtain ⟨o, e1, e2⟩ := S.slot i _ hd
  have e2' : o = some (.ref b.d) := e2
  subst e2'
  refine ⟨.ref b.d, e1, ?_⟩
  refine h F σ H n _ S (by omega) fun vs ds H1 s j k r => ?_
  have S1 := S.step s j
  have fsub : ∀ a ∈ b.fs, a ∈ F.fs := fun a ha => S.sub a (A.sub a (by rw [hW]; exact ha))
  refine ⟨b, vs, F.fs, n + c, ds, by rw [List.append_nil], fsub, S1.trk, by rw [hW] at j; exact j, by omega, k, hp ds r, fun v d H2 s2 j2 k2 p2 => ?_⟩
  refine q v d H2 (s.trans (by rw [hW]; exact s2)) ?_ k2 ⟨ds, r, p2⟩
  rw [hW, ← Nat.add_assoc]
  exact j2
end
theorem spd_of {cst : Nat} {pre : List PyData → Prop} {post : List PyData → PyData → Prop} {t : TS} {N : List Str} {m k : Nat} {vs : List V} {H : Hp} {Q : VK} {E : XK} (hN : N.length - (m + 1) = k) (hm : ∀ ds, pre ds → ds.length = m)
    (h : ∀ (A : Amb) (b : Deck) (ds : List PyData), A.W = dW b → pre ds → SS A t (.raw (.ref b.d) :: (ds.map .im ++ List.replicate k .no)) cst { nx := fun _ => post ds .none, rt := post ds }) (hsp : SPd cst pre post vs H Q E) :
    t { nx := fun _ H' => Q .non H', rt := Q } (L2.start N vs) H := by
  obtain ⟨b, vs', fs, n, ds, rfl, fsub, trk, j, hl, kd, hp, q⟩ := hsp
  let A : Amb := ⟨dW b, fs, H, fsub, trk⟩
  have hlen : vs'.length = m := by rw [kd.length]; exact hm ds hp
  have S : St8 A ⟨fs, []⟩ ((.raw (.ref b.d) :: ds.map .im) ++ List.replicate (N.length - (V.ref b.d :: vs').length) .no) (L2.start N (.ref b.d :: vs')) H n := st8_start (A := A) rfl j (fun i s e => by
    cases i with
    | zero =>
      cases e
      exact ⟨_, rfl, .inr rfl⟩
    | succ i =>
      rw [List.getElem?_cons_succ, List.getElem?_map] at e
      cases e2 : ds[i]? with
      | none => rw [e2] at e; cases e
      | some d =>
        rw [e2] at e
        cases e
        obtain ⟨v, hv, k⟩ := kd.at e2
        exact ⟨v, hv, .inl ⟨d, rfl, k⟩⟩) (by rw [List.length_cons, List.length_cons, List.length_map, kd.length])
  have hk : N.length - (V.ref b.d :: vs').length = k := by rw [List.length_cons, hlen]; exact hN
  rw [hk] at S
  refine h A b ds rfl hp _ ⟨fs, []⟩ _ H n S hl ?_ ?_ ?_ ?_
  · intro ρ' F' σ' H' a _ S'
    exact q .non .none H' S'.adv S'.j .non a
  · exact ⟨fun v d H' a s jj kk => q v d H' s jj kk a, fun _ _ _ _ z => z.elim⟩
  · intro ρ' F' σ' H' a
    exact False.elim a
  · intro ρ' F' σ' H' a
    exact False.elim a

/-! ### a call by keywords alone -/
section
variable {X : Cx} {CX : CXT} {k : Nat} {f : Addr} {fd : FuncData} {ps ks : List Str} {sp : Sp} {E : XK} {x : Str} {p pos : Pos} {kws : List Keyword} {tk : TA} {g : List Value → List Value → List Value} {gV : List V → List V → List V}
def tCall0K (sp : Sp) (gV : List V → List V → List V) (E : XK) (tk : TA) : TE := fun σ H Q => tk σ H fun zs H2 => sp (gV [] zs) H2 Q E
theorem pe_call0K (F : FnOk X.prog X.w X.K X.mg X.base CX k f fd ps sp) (hr : Room k X.A) (hg : Gl X x) (hm : X.mg x = some (.ref f)) (hk : PySem.W.keepIn X.K (.ref f) = true) (hb : KBinds X.K fd ps ks g gV) (hx : Passes CX X E)
    (hkw : PK X kws tk) (hall : (backToKw pos (keywordEach kws X.env)).all (·.1.isSome) = true := by rfl) (hks : (backToKw pos (keywordEach kws X.env)).filterMap (·.1) = ks := by rfl)
    (hdb : (x == ("__debug__" : Str)) = false := by decide)
    (hpl : ((backTo pos (starEach [] X.env)).any (·.1) || (backToKw pos (keywordEach kws X.env)).any (·.1.isNone)) = false := by rfl) :
    PE X (.Call (.Name x p) [] kws pos) (tCall0K sp gV E tk) := by
  refine ⟨fun pins s σ H Q I h => ?_⟩
  refine wpAny_Call_Name_kw (ld_glob I hg hm ?_ hdb)
  refine PySem.W.callWith_KW0 (h₀ := X.base) I.ok.mod.kin hk hall ?_ hpl
  refine thn (hkw.run pos pins s σ H _ I h) fun ws s2 ⟨zs, H2, I2, rz, q2⟩ => ⟨I2.kIn, ?_⟩
  rw [hks]
  exact run_fnk (us := []) F hr hb hx I2 .nil rz q2
end
/-- how keywords come to the parameters' order, no defaults: perm says where -/
theorem Fun.kbinds {K : PySem.W.Frag} {x qual : Str} {st : Stmt} {f : Addr} {fd : FuncData} {ps ks : List Str} (F : Fun K x qual st f fd) (g : {α : Type} → List α → List α → List α) (hrel : ∀ {vs zs : List V} {us ws : List Value}, Vals vs us → Vals zs ws → Vals (g vs zs) (g us ws))
    (h : ∀ (kV doc pm : Value) (an : Option Addr) (cdv ct : Value) (us ws : List Value), (g us ws).length = ps.length → bindArgs (PySem.W.fnOf x qual (defArgs st) (defBody st) (defScope st) .none kV doc pm an cdv ct) ⟨us, ks.zip ws⟩ = pure (ps.zip (g us ws))) :
    KBinds K fd ps ks g g := by
  obtain ⟨oc, od, kV, doc, pm, an, cdv, ct, osl, rfl, lk, hcd⟩ := F.ex
  exact ⟨fun s us ws _ hl => .of_eq (h kV doc pm an cdv ct us ws hl), fun a b => hrel a b⟩
end DL

set_option linter.all false
set_option maxRecDepth 100000
set_option maxHeartbeats 4000000
/-! DL7: a def's promise from its body's reading as data -/
namespace DL
open PySem PySem.Spec L2
section
variable {P : Program} {w : World} {K : PySem.W.Frag} {mg : Str → Option Value} {base : Heap}
theorem SPd.len {cst m : Nat} {pre : List PyData → Prop} {post : List PyData → PyData → Prop} (hm : ∀ ds, pre ds → ds.length = m) {vs : List V} {H : Hp} {Q : VK} {E : XK} (h : SPd cst pre post vs H Q E) : vs.length = m + 1 := by
  obtain ⟨b, vs', fs, n, ds, rfl, _, _, _, _, kd, hp, _⟩ := h
  rw [List.length_cons, kd.length, hm ds hp]
theorem SPp.len {m : Nat} {pre : List PyData → Prop} {post : List PyData → PyData → Prop} (hm : ∀ ds, pre ds → ds.length = m) {vs : List V} {H : Hp} {Q : VK} {E : XK} (h : SPp pre post vs H Q E) : vs.length = m := by
  obtain ⟨fs, ds, _, kd, hp, _⟩ := h
  rw [kd.length, hm ds hp]
/-- a def whose first argument is the source of draws -/
theorem okd {x qual : Str} {st : Stmt} {f : Addr} {fd : FuncData} {N ps : List Str} {k m j cst : Nat} {pre : List PyData → Prop} {post : List PyData → PyData → Prop} (F : Fun K x qual st f fd) (S : FnScope N ps (defScope st)) (hm : ∀ ds, pre ds → ds.length = m)
    (hps : ps.length = m + 1 := by rfl) (hN : N.length - (m + 1) = j := by rfl)
    (body : ∀ (cdv : Value) (A : Around) (outer : List Env) (s : Shared) (H : Hp) (E : XK), Room k (A.deeper (PyProof.Rows.envOfC qual (defScope st) s.heap.objs.size f cdv)) →
      ∃ t, PSs (cxOf CX0 P w K mg base N qual (defScope st) f cdv A outer s H E).nox (defBody st) t ∧
        ∀ (A : Amb) (b : Deck) (ds : List PyData), A.W = dW b → pre ds → SS A t (.raw (.ref b.d) :: (ds.map .im ++ List.replicate j .no)) cst { nx := fun _ => post ds .none, rt := post ds }) :
    FnOk P w K mg base CX0 (k + 1) f fd ps (SPd cst pre post) := by
  refine F.ok S (fun vs H Q E h => (SPd.len hm h).trans hps.symm) fun cdv A outer s H vs Q E hr h => ?_
  obtain ⟨t, h1, h2⟩ := body cdv A outer s H E hr
  exact ⟨t, h1, spd_of hN hm h2 h⟩
/-- a def that changes nothing -/
theorem okp {x qual : Str} {st : Stmt} {f : Addr} {fd : FuncData} {N ps : List Str} {k m j c : Nat} {pre : List PyData → Prop} {post : List PyData → PyData → Prop} (F : Fun K x qual st f fd) (S : FnScope N ps (defScope st)) (hm : ∀ ds, pre ds → ds.length = m) (hc : c ≤ LIM)
    (hps : ps.length = m := by rfl) (hN : N.length - m = j := by rfl)
    (body : ∀ (cdv : Value) (A : Around) (outer : List Env) (s : Shared) (H : Hp) (E : XK), Room k (A.deeper (PyProof.Rows.envOfC qual (defScope st) s.heap.objs.size f cdv)) →
      ∃ t, PSs (cxOf CX0 P w K mg base N qual (defScope st) f cdv A outer s H E).nox (defBody st) t ∧
        ∀ (A : Amb) (ds : List PyData), A.W = W0 → pre ds → SS A t (ds.map .im ++ List.replicate j .no) c { nx := fun _ => post ds .none, rt := post ds }) :
    FnOk P w K mg base CX0 (k + 1) f fd ps (SPp pre post) := by
  refine F.ok S (fun vs H Q E h => (SPp.len hm h).trans hps.symm) fun cdv A outer s H vs Q E hr h => ?_
  obtain ⟨t, h1, h2⟩ := body cdv A outer s H E hr
  exact ⟨t, h1, spp_of hN hm hc h2 h⟩
end

/-! ### the draw itself -/
def preDraw : List PyData → Prop := fun ds => ∃ m : Int, ds = [.int m] ∧ 0 < m ∧ m < 1000000000
def postDraw : List PyData → PyData → Prop := fun ds d => ∀ m : Int, ds = [.int m] → ∃ r : Int, d = .int r ∧ 0 ≤ r ∧ r < m
theorem mixed_small {k n : Nat} (hk : k ≤ 3000 + n) (hn : n + 1 ≤ LIM) {e : Int} (he : 0 ≤ e) (he2 : e < 162259276829213363391578010288127) {m : Int} (hm0 : 0 ≤ m) (hm : m ≤ 1000000000) : (e + m * ((k : Int) + 1)).natAbs < 2 ^ 9000 := by
  have hl : LIM = 1152921504606846976 := by unfold LIM; rfl
  have h1 : (k : Int) + 1 ≤ 1152921504606850000 := by omega
  have h2 : m * ((k : Int) + 1) ≤ 1000000000 * 1152921504606850000 := Int.mul_le_mul hm h1 (by omega) (by decide)
  have h3 : 0 ≤ m * ((k : Int) + 1) := Int.mul_nonneg hm0 (by omega)
  have h4 : (e + m * ((k : Int) + 1)).natAbs < 2 ^ 200 := by omega
  exact Nat.lt_of_lt_of_le h4 (Nat.pow_le_pow_right (by decide) (by decide))
end DL

set_option linter.all false
set_option maxRecDepth 100000
set_option maxHeartbeats 4000000
/-! DL8: isinstance; a set made of a list of texts, its size -/
namespace DL
open PySem PySem.Spec L2

/-! ### isinstance -/
def isiD (T : String) (d : PyData) : Bool := tyOf d == T || (T == "int" && tyOf d == "bool")
theorem kit_all : ∀ a ∈ ["NoneType", "bool", "int", "str", "list", "tuple", "dict"], ∀ T ∈ ["bool", "int", "str", "list", "tuple", "dict"], kitB a T = some (a == T || (T == "int" && a == "bool")) := by decide +kernel
theorem tyOf_mem (d : PyData) : tyOf d ∈ ["NoneType", "bool", "int", "str", "list", "tuple", "dict"] := by cases d <;> simp [tyOf]
theorem dd_ty {K : PySem.W.Frag} {H : Hp} {v : V} {d : PyData} (h : DD H v d) : TyX K H v (.type (tyOf d)) := by
  cases h with
  | non => exact .base .non
  | bl b => exact .base (.bl b)
  | int i => exact .base (.int i)
  | str x => exact .base (.str x)
  | lst h _ => exact .base (.lst h)
  | tup h _ => exact .base (.tup h)
  | dct h _ => exact .base (.dK h)
section
variable {A : Amb} {ρ : List SV} {ta : TE} {c : Nat} {K : PySem.W.Frag} {d : PyData}
theorem ee_isi {T : String} (h : ER A ta ρ c (· = d)) (hT : T ∈ ["bool", "int", "str", "list", "tuple", "dict"] := by decide) : EE A (tCB (rIsi K) (tCons ta (tCons (tC (.ty T)) tNil))) ρ c (· = .bool (isiD T d)) := fun F σ H n Q S l q => by
  refine h F σ H n _ S l fun v e H1 s j k r => ?_
  subst r
  exact ⟨v, .ty T, _, _, _, rfl, .ty T, dd_ty (k.mono off_le), kit_ty (kit_all _ (tyOf_mem e) T hT), q _ _ H1 s j (.bl _) rfl⟩
theorem ee_isiT {T U : String} (h : EE A ta ρ c (· = d)) (hT : T ∈ ["bool", "int", "str", "list", "tuple", "dict"] := by decide) (hU : U ∈ ["bool", "int", "str", "list", "tuple", "dict"] := by decide) :
    EE A (tCB (rIsiT K) (tCons ta (tCons (tTup (tCons (tC (.ty T)) (tCons (tC (.ty U)) tNil))) tNil))) ρ c (· = .bool (isiD T d || isiD U d)) := fun F σ H n Q S l q => by
  refine h F σ H n _ S l fun v e H1 s j k r => ?_
  subst r
  have S1 := S.step s j
  refine ⟨(by show 2 ≤ sizeLine; decide), fun p hp => ?_⟩
  have kk : DD (upd H1 p (.tup [.ty T, .ty U])) v e := (k.mono off_le).mono (same_new hp)
  refine ⟨v, p, [.ty T, .ty U], _, [.type T, .type U], _, rfl, upd_same, .cons (.ty T) (.cons (.ty U) .nil), dd_ty kk, ?_, q _ _ _ (s.trans (S1.newS hp)) (S1.newJ hp) (.bl _) rfl⟩
  refine kitAny_cons (kit_ty (kit_all _ (tyOf_mem e) T hT)) (fun hb => ?_) fun hb => ?_
  · refine kitAny_cons (kit_ty (kit_all _ (tyOf_mem e) U hU)) (fun hc => ?_) fun hc => ?_
    · unfold isiD
      rw [hb, hc]
      exact kitAny_nil
    · unfold isiD
      rw [hb, hc]
      rfl
  · unfold isiD
    rw [hb]
    rfl
end

/-! ### a set of the items of a list, of one kind of keys -/
section
variable {κ : Type} [DecidableEq κ]
/-- met among the first i -/
def met (val : Nat → κ) (i : Nat) (k : κ) : Bool := (List.range i).any fun j => decide (val j = k)
/-- how many different ones among the first i -/
def cnt (val : Nat → κ) : Nat → Nat
  | 0 => 0
  | i + 1 => if met val i (val i) = true then cnt val i else cnt val i + 1
theorem cnt_le (val : Nat → κ) : ∀ i, cnt val i ≤ i
  | 0 => Nat.le_refl _
  | i + 1 => by
    have ih := cnt_le val i
    unfold cnt
    split <;> omega
theorem met_succ (val : Nat → κ) (i : Nat) (k : κ) : met val (i + 1) k = (met val i k || decide (k = val i)) := by
  unfold met
  rw [List.range_succ, List.any_append, List.any_cons, List.any_nil, Bool.or_false]
  congr 1
  exact decide_eq_decide.mpr ⟨Eq.symm, Eq.symm⟩
theorem cnt_nodup {val : Nat → κ} {n : Nat} (h : ∀ i j, i < n → j < n → val i = val j → i = j) : ∀ i, i ≤ n → cnt val i = i
  | 0, _ => rfl
  | i + 1, hi => by
    have ih := cnt_nodup h i (by omega)
    have hm : met val i (val i) = false := by
      unfold met
      rw [List.any_eq_false]
      intro j hj
      rw [List.mem_range] at hj
      rw [decide_eq_true_iff]
      intro e
      have := h j i (by omega) (by omega) e
      omega
    unfold cnt
    rw [hm, ih]
    rfl
end
section
variable {prog : Program} {w : World} {A : Around} {R : Result → Shared → Prop} {I : Addr} {fp wr : List Addr} {G : Array GenState → Array GenState → Prop} {n : Nat} {P : Nat → Value → Prop} {St : Nat → Shared → Prop} {κ : Type} [DecidableEq κ]
theorem set_fill (knd : KeyKind prog w κ) (W : WalksS prog w A.in1 I fp wr G n P St) (S : Addr) (out : S ∉ fp) (val : Nat → κ)
    (hv : ∀ i v, P i v → knd.is (val i) v = true ∧ v.scannable = true) (hb : n + 1 < scanBound) : ∀ (k i : Nat) (s : Shared), n - i = k → i ≤ n → St i s → s.heap.SetOf knd S (met val i) (cnt val i) →
      (∀ s', Moved (S :: wr) G s s' → s'.heap.SetOf knd S (met val n) (cnt val n) → R (.ok (.ret .none)) s') → codeAny (model prog w) A (.builtin "set.update.loop" ⟨[.ref S, .ref I], []⟩) R s := by
  have nw : S ∉ wr := fun z => out (W.sub _ z)
  have up : ∀ b ∈ wr, b ∈ S :: wr := fun b z => List.mem_cons_of_mem _ z
  -- what the walk leaves alone
  have keep : ∀ {s s' : Shared} {T : κ → Bool} {m : Nat}, Moved wr G s s' → s.heap.SetOf knd S T m → s'.heap.SetOf knd S T m := fun {s s' T m} mv hS => by
    obtain ⟨o, es, ep, t, ho, more⟩ := hS
    exact ⟨o, es, ep, t, mv.heap S _ nw ho, more⟩
  intro k
  induction k with
  | zero =>
    intro i s hk hi st hS fin
    obtain rfl : i = n := by omega
    refine codeAny_builtin PyProof.Rows.F.entry_set_update_loop ?_
    rw [Around.under_plainId PyProof.Rows.F.plain_set_update_loop _]
    refine wpAny_bind (W.done s _ _ st fun s' mv => ?_)
    exact wpAny_pure (fin s' (mv.mono up) (keep mv hS))
  | succ k ih =>
    intro i s hk hi st hS fin
    have lt : i < n := by omega
    refine codeAny_builtin PyProof.Rows.F.entry_set_update_loop ?_
    rw [Around.under_plainId PyProof.Rows.F.plain_set_update_loop _]
    refine wpAny_bind (W.item i s _ _ lt st fun v s' hP st' mv => ?_)
    obtain ⟨is, sc⟩ := hv i v hP
    have hS' := keep mv hS
    refine wpAny_bind (wpAny_holding ?_)
    unfold setAdd
    refine wpAny_holding ?_
    refine wpAny_bind (knd.pyHash is ?_)
    have room : cnt val i + 1 < scanBound := by
      have := cnt_le val i
      omega
    refine wpAny_setAddHashed_of (knd := knd) (s := { s' with toks := s'.toks + 1 }) is sc hS' room fun h' sb hS2 => ?_
    have hS3 : h'.SetOf knd S (met val (i + 1)) (cnt val (i + 1)) := by
      have e1 : met val (i + 1) = fun j => met val i j || decide (j = val i) := funext fun j => met_succ val i j
      have e2 : cnt val (i + 1) = if met val i (val i) = true then cnt val i else cnt val i + 1 := rfl
      rw [e1, e2]
      exact hS2
    have st2 := W.frame _ s' h' _ st' (Nat.le_succ _) fun b hb o e => by
      rw [sb.2 b fun z => out (by rw [← z]; exact hb)]
      exact e
    refine wpAny_pure ⟨plainId_quiet PyProof.Rows.F.plain_set_update_loop _, ih (i + 1) _ (by omega) lt st2 hS3 fun s'' mv2 hS4 => ?_⟩
    refine fin s'' (Moved.trans W.gtrans ((mv.mono up).then_heap (Nat.le_succ _) fun b o hb e => ?_) mv2) hS4
    rw [sb.2 b fun z => hb (by rw [z]; exact List.mem_cons_self)]
    exact e
end
section
variable {prog : Program} {w : World} {A : Around} {E : Value → Shared → Prop} {s : Shared} {κ : Type} [DecidableEq κ] [BEq κ] [LawfulBEq κ]
abbrev newSet (led : Bool) : Obj := { cls := .type "set", dict := none, data := .set #[] 0 (.fresh 0 0 led) }
/-- set(xs) -/
theorem set_of_list (knd : KeyKind prog w κ) {l : Addr} {items : Array Value} {val : Nat → κ} {Q : Value → Shared → Prop} (hh : A.handled = none) (hl : s.heap.IsList l items) (hv : ∀ i v, items[i]? = some v → knd.is (val i) v = true ∧ v.scannable = true) (hb : items.size + 1 < scanBound)
    (h : ∀ (h' : Heap) (tk : Nat), h'.SetOf knd s.heap.objs.size (met val items.size) (cnt val items.size) → (∀ b o, b < s.heap.objs.size → s.heap.get? b = some o → h'.get? b = some o) → Q (.ref s.heap.objs.size) { s with heap := h', toks := tk }) :
    wpAny (model prog w) A (call (.type "set") [.ref l]) Q E s := by
  obtain ⟨c, tl, hmro⟩ := PySem.F.called_set.mro
  have f1 := PySem.F.called_set.made
  have f2 := PySem.F.called_set.sub
  have f3 := PySem.F.called_set.notType
  have f4 := PySem.F.called_set.canCreate
  have f5 := PySem.F.typeCall_set_1 (.ref l)
  let S := s.heap.objs.size
  refine wpAny_call (codeAny_of_tree (wpAny_pure ⟨Code.quiet_builtin _ (by decide +kernel), codeAny_builtin PySem.F.entry_type_call ?_⟩))
  rw [Around.under_plain (weight_type_call_type "set" [.ref l] []) rfl]
  repeat (any_goals (first | assumption | wp_step))
  refine codeAny_mono (code_set_new_1 (.ref l) (E := E) (Q₁ := fun obj s₁ => ∃ led : Bool, obj = .ref s.heap.objs.size ∧
    s₁ = { s with heap := s.heap.push (newSet led) }) fun led => ⟨led, rfl, rfl⟩) fun r s₁ hr => ?_
  cases r with
  | error e => exact hr
  | ok fl =>
    cases fl with
    | next => exact hr.elim
    | brk => exact hr.elim
    | cont => exact hr.elim
    | ret obj =>
      obtain ⟨led, rfl, rfl⟩ := hr
      have hS : (s.heap.push (newSet led)).get? s.heap.objs.size = some (newSet led) := Heap.get?_push_size _ rfl
      have hT : Shared.TypeIs { s with heap := s.heap.push (newSet led) } (.ref s.heap.objs.size) "set" := ⟨_, hS, rfl⟩
      have g1 := PySem.F.called_set.init.lookup
      have g2 := PySem.F.called_set.init.bind (.ref s.heap.objs.size)
      repeat (any_goals (first | assumption | wp_step))
      refine codeAny_mono (codeAny_call_builtin (R := wants (fun r s₂ => r = .none ∧ ∃ h' tk, s₂ = { s with heap := h', toks := tk } ∧ h'.SetOf knd s.heap.objs.size (met val items.size) (cnt val items.size) ∧
        (∀ b o, b < s.heap.objs.size → s.heap.get? b = some o → h'.get? b = some o)) E) PySem.F.called_set.init.plain PySem.F.entry_set_init (check_set_init_1 hT ?_)) fun r₂ s₂ hr₂ => ?_
      · obtain ⟨ol, hol, hcl, nl, hdl⟩ := hl
        obtain ⟨ocls, odict, odata, oslots⟩ := ol
        simp only at hcl hdl
        subst hcl hdl
        have hol' : (s.heap.push (newSet led)).get? l = some { cls := .type "list", dict := odict, data := .seq items nl, slots := oslots } := Heap.get?_push_of_some _ hol
        have k1 := PySem.F.sub_list_set
        have k2 := PySem.F.sub_list_frozenset
        have k3 : (Value.type "list" == Value.type "dict") = false := by decide
        have hl1 : (s.heap.push (newSet led)).IsList l items := ⟨_, hol', rfl, nl, rfl⟩
        unfold Builtin.«set.__init__» noKeywords Builtin.Frozenset.updateFrom
        generalize hPI : pyIter = PI
        wp_walk
        subst hPI
        refine wpAny_pyIter_list hl1 ?_
        refine wpAny_bind (wpAny_runValue ?_)
        have lS : l < s.heap.objs.size := Heap.lt_size hol
        have calm : A.in1.in1.in1.handled = none := by simp [hh]
        have sz : (s.heap.push (newSet led)).objs.size = s.heap.objs.size + 1 := Heap.size_push _ _
        have neI : l ≠ (s.heap.push (newSet led)).objs.size := by rw [sz]; exact Nat.ne_of_lt (Nat.lt_succ_of_lt lS)
        have out : s.heap.objs.size ∉ [(s.heap.push (newSet led)).objs.size, l] := by
          rw [sz]
          intro z
          simp only [List.mem_cons, List.not_mem_nil, or_false] at z
          rcases z with z | z
          · exact absurd z (Nat.ne_of_lt (Nat.lt_succ_self _))
          · exact absurd z (Nat.ne_of_gt lS)
        refine set_fill knd ((Walks.list calm _ l neI items).toS) s.heap.objs.size out val hv hb (items.size - 0) 0 _ (by omega) (Nat.zero_le _) ⟨⟨_, Heap.get?_push_size _ rfl, rfl, rfl⟩, hl1.push _⟩ ?_ ?_
        · have hget : ((s.heap.push (newSet led)).push { cls := .type "list_iterator", data := .fields #[.ref l, .int 0 0] }).get? s.heap.objs.size = some (newSet led) := Heap.get?_push_of_some _ hS
          exact PyProof.Rows.SetOf_congr ((PyProof.Rows.setObjOf_fresh (knd := knd) led).setOf hget (by unfold scanBound; omega)) (fun _ => rfl) rfl
        · intro s' mv hS'
          obtain ⟨h', g', d', tk', os'⟩ := s'
          obtain rfl : g' = s.gens := mv.gens
          obtain rfl : d' = s.drawn := mv.drawn
          obtain rfl : os' = s.os := mv.os
          refine wpAny_pure (wpAny_pure ⟨rfl, h', tk', rfl, hS', fun b o hb e => ?_⟩)
          refine mv.heap b o (fun z => ?_) (Heap.get?_push_of_some _ (Heap.get?_push_of_some _ e))
          simp only [List.mem_cons, List.not_mem_nil, or_false] at z
          rw [sz] at z
          rcases z with z | z
          · exact absurd z (Nat.ne_of_lt hb)
          · exact absurd z (Nat.ne_of_lt (Nat.lt_succ_of_lt hb))
      · cases r₂ with
        | error e => exact hr₂
        | ok fl₂ =>
          cases fl₂ with
          | next => exact hr₂.elim
          | brk => exact hr₂.elim
          | cont => exact hr₂.elim
          | ret r =>
            obtain ⟨rfl, h', tk, rfl, hS', hk'⟩ := hr₂
            repeat (any_goals (first | assumption | wp_step))
            exact h _ _ hS' hk'
end
/-- len(set(xs)), xs a list of texts -/
def tLenSetS (K : PySem.W.Frag) (ta : TE) : TE := fun σ H Q => ta σ H fun x H1 => ∃ (l : Addr) (xs : List Str), x = V.ref l ∧ SqL K H1 l (xs.map V.str) ∧ xs.length < 4000 ∧ Q (.int (cnt (fun i => xs.getD i Str.empty) xs.length : Nat)) H1
theorem pe_lenSetS {X : Cx} {a : Expr} {ta : TE} {p p2 q pos : Pos} (hg : Gl X "len") (hm : X.mg "len" = none) (hg2 : Gl X "set") (hm2 : X.mg "set" = none) (ha : PE X a ta) (hc : X.calm = true := by rfl)
    (na : starEach [a] X.env = (false, eval a X.env) :: starEach [] X.env := by rfl) : PE X (.Call (.Name "len" p) [.Call (.Name "set" p2) [a] [] q] [] pos) (tLenSetS X.K ta) := by
  refine ⟨fun pins s σ H Q I h => ?_⟩
  refine PyProof.Rows.Call_ (ld_blt I hg hm PySem.boot_len (PyProof.Rows.callWith_builtin1 (PyProof.Rows.args_cons ?_ rfl) rfl rfl))
  refine PyProof.Rows.Call_ (ld_blt I hg2 hm2 PyProof.Rows.boot_set (PyProof.Rows.callWith_type1 (PyProof.Rows.args_cons (thn (ha.run pins s σ H _ I h) fun v s1 ⟨x, H1, I1, r1, q1⟩ => PyProof.Rows.args_nil ?_) na) na rfl))
  obtain ⟨l, xs, rfl, hq, hnd, q1⟩ := q1
  cases r1
  obtain ⟨its, r, pl, hz⟩ := I1.list hq
  have hlen : its.toArray.size = xs.length := by rw [List.size_toArray, ← r.length, List.length_map]
  refine set_of_list (PySem.strKind X.prog X.w) (val := fun i => xs.getD i Str.empty) (I1.ok.hd hc) pl.isList (fun i v hv => ?_) (by rw [hlen]; unfold scanBound; omega) fun h' tk hS hk => ?_
  · have hv' : its[i]? = some v := by simpa using hv
    have hi : i < xs.length := by
      rw [← hlen, List.size_toArray]
      exact (List.getElem?_eq_some_iff.mp hv').1
    have hx : (xs.map V.str)[i]? = some (.str xs[i]) := by rw [List.getElem?_map, List.getElem?_eq_getElem hi]; rfl
    obtain ⟨u, hu, ru⟩ := r.get hx
    rw [hv'] at hu
    cases hu
    obtain ⟨t, rfl⟩ := ru
    have e : xs.getD i Str.empty = xs[i] := by rw [List.getD_eq_getElem?_getD, List.getElem?_eq_getElem hi]; rfl
    exact ⟨by show (PySem.strKind X.prog X.w).is (xs.getD i Str.empty) _ = true; rw [e]; exact PySem.strKind_is _ _ _ _, rfl⟩
  · refine PyProof.Rows.args_nil ?_
    rw [hlen] at hS
    obtain ⟨o, es, ep, t, ho, hex, hd, _, _, _, hf, hn⟩ := hS
    have I2 : Inv X pins σ H1 { s1 with heap := h', toks := tk } := I1.kept fun b o e => hk b o (Heap.lt_size e) e
    have hb := cnt_le (fun i => xs.getD i Str.empty) xs.length
    exact call_len_set ho hex hd hf (by rw [hn] <;> omega) (by rw [hn]; exact ⟨.int _, H1, I2.tok _, ⟨_, rfl⟩, q1⟩)
section
variable {A : Amb} {ρ : List SV} {ta : TE} {c : Nat} {K : PySem.W.Frag}
theorem ee_lenSet {xs : List Str} (h : ER A ta ρ c (· = .list (xs.map .str))) (hl : xs.length < 4000) : EE A (tLenSetS K ta) ρ c (· = .int (cnt (fun i => xs.getD i Str.empty) xs.length : Nat)) := fun F σ H n Q S l q => by
  refine h F σ H n _ S l fun v e H1 s j k r => ?_
  subst r
  cases k with
  | lst hp kk =>
    have e := kk.strs
    subst e
    exact ⟨_, xs, rfl, .inl (.inl (off_some hp).2), hl, q _ _ H1 s j (.int _) rfl⟩
theorem cnt_of_nodup {xs : List Str} (h : xs.Nodup) : cnt (fun i => xs.getD i Str.empty) xs.length = xs.length := by
  refine cnt_nodup (n := xs.length) (fun i j hi hj e => ?_) _ (Nat.le_refl _)
  have e1 : xs.getD i Str.empty = xs[i] := by rw [List.getD_eq_getElem?_getD, List.getElem?_eq_getElem hi]; rfl
  have e2 : xs.getD j Str.empty = xs[j] := by rw [List.getD_eq_getElem?_getD, List.getElem?_eq_getElem hj]; rfl
  have e' : xs[i] = xs[j] := e1.symm.trans (e.trans e2)
  exact (List.getElem_inj h).mp e'
end
end DL

set_option linter.all false
set_option maxRecDepth 100000
set_option maxHeartbeats 4000000
/-! DL9: comprehensions of the usual shapes; letters, beginnings -/
namespace DL
open PySem PySem.Spec L2
section
variable {A : Amb} {ρ : List SV} {wi : TI} {g : TG} {tt : TT} {te : TE} {vs : List Nat} {c0 : Nat} {ds : List PyData}
theorem filter_take_succ {α : Type} (p : α → Bool) {xs : List α} {i : Nat} {x : α} (h : xs[i]? = some x) : (xs.take (i + 1)).filter p = (xs.take i).filter p ++ (if p x = true then [x] else []) := by
  rw [List.take_add_one, h, List.filter_append]
  show _ ++ List.filter p [x] = _
  rw [List.filter_cons]
  rfl
theorem ee_fil (p : PyData → Bool) (f : PyData → PyData) (hi : EI A wi ρ c0 (· = ds)) (hl : ds.length ≤ 16000000)
    (ht : ∀ (i : Nat) d, ds[i]? = some d → ∃ ρ1, TGw A g vs d (wip ρ vs) ρ1 ∧ ET A tt ρ1 0 (· = p d) ∧ (p d = true → EE A te ρ1 0 (· = f d))) : EE A (tLc wi g tt te vs) ρ (c0 + 0) (· = .list ((ds.filter p).map f)) :=
  ee_lc hi fun ds' e => by
    subst e
    refine ⟨hl, fun i acc => acc = ((ds'.take i).filter p).map f, 0, 0, Nat.le_refl _, rfl, fun i d acc hd hI _ => ?_, fun acc hI => ?_⟩
    · obtain ⟨ρ1, tg, t, e⟩ := ht i d hd
      refine ⟨ρ1, _, tg, t, fun h => ?_, fun h => (e h.symm).imp fun x hx => ?_⟩
      · show acc = ((ds'.take (i + 1)).filter p).map f
        rw [show acc = ((ds'.take i).filter p).map f from hI, filter_take_succ p hd, ← h]
        simp
      · show acc ++ [x] = ((ds'.take (i + 1)).filter p).map f
        rw [show acc = ((ds'.take i).filter p).map f from hI, hx, filter_take_succ p hd, ← h]
        simp
    · rw [show acc = ((ds'.take ds'.length).filter p).map f from hI, List.take_length]
theorem et_yes : ET A tYes ρ 0 (· = true) := fun F σ H n Q S _ q => q true H (Same.refl _) S.j rfl
theorem ee_map (f : PyData → PyData) (hi : EI A wi ρ c0 (· = ds)) (hl : ds.length ≤ 16000000)
    (ht : ∀ (i : Nat) d, ds[i]? = some d → ∃ ρ1, TGw A g vs d (wip ρ vs) ρ1 ∧ EE A te ρ1 0 (· = f d)) : EE A (tLc wi g tYes te vs) ρ (c0 + 0) (· = .list (ds.map f)) := by
  have h := ee_fil (tt := tYes) (te := te) (fun _ => true) f hi hl fun i d hd => by
    obtain ⟨ρ1, tg, e⟩ := ht i d hd
    exact ⟨ρ1, tg, et_yes, fun _ => e⟩
  rw [List.filter_eq_self.mpr fun _ _ => rfl] at h
  exact h
end
/-! ### letters and beginnings -/
def ltrN (c : Nat) : Bool := decide (97 ≤ c) && decide (c ≤ 122)
def begS (x : Str) : Bool := x.cps.toList.all ltrN
def begD : PyData → Bool
  | .str x => begS x
  | _ => false
def wordD (d : PyData) : Bool := begD d && !PyData.eqv d (.str Str.empty)
def intD : PyData → Bool
  | .int _ => true
  | _ => false
def limD : PyData → Bool
  | .int i => decide (1 ≤ i) && decide (i ≤ 20)
  | _ => false
theorem one_lt (a b : Nat) : decide ([a] < [b]) = decide (a < b) := by
  refine decide_eq_decide.mpr ?_
  rw [List.cons_lt_cons_iff]
  simp
theorem le_sgn (c d : Nat) : (!decide ((⟨#[d]⟩ : Str).cps.toList < (⟨#[c]⟩ : Str).cps.toList)) = decide (c ≤ d) := by
  show (!decide ([d] < [c])) = _
  rw [one_lt]
  by_cases h : c ≤ d
  · rw [decide_eq_true h, decide_eq_false (by omega)]
    rfl
  · rw [decide_eq_false h, decide_eq_true (by omega)]
    rfl
def sgn1 : PyData → Nat
  | .str x => x.cps.getD 0 0
  | _ => 0
section
variable {A : Amb} {ρ : List SV} {tl : TA} {c : Nat} {ds0 : List PyData} {pre : List PyData → Prop} {post : List PyData → PyData → Prop} {E : XK}
/-- a call of a def that changes nothing, of known arguments -/
theorem ee_callf {e : PyData} (h : EA A tl ρ c (· = ds0)) (hp : pre ds0) (hf : ∀ r, post ds0 r → r = e) : EE A (tCall (SPp pre post) [] E tl) ρ c (· = e) :=
  (ee_callp (dds := []) h fun ds e => by rw [e, List.append_nil]; exact hp).imp fun d ⟨ds, e, k⟩ => by
    rw [e, List.append_nil] at k
    exact hf d k
theorem er_callf {e : PyData} (h : EAR A tl ρ c (· = ds0)) (hp : pre ds0) (hf : ∀ r, post ds0 r → r = e) : ER A (tCall (SPp pre post) [] E tl) ρ c (· = e) :=
  (er_callp (dds := []) h fun ds e => by rw [e, List.append_nil]; exact hp).imp fun d ⟨ds, e, k⟩ => by
    rw [e, List.append_nil] at k
    exact hf d k
/-- the result by what the promise says of it -/
theorem ee_callg (h : EA A tl ρ c (· = ds0)) (hp : pre ds0) : EE A (tCall (SPp pre post) [] E tl) ρ c (post ds0) :=
  (ee_callp (dds := []) h fun ds e => by rw [e, List.append_nil]; exact hp).imp fun d ⟨ds, e, k⟩ => by
    rw [e, List.append_nil] at k
    exact k
/-- a call by keywords alone -/
theorem ee_call0K {gV : List V → List V → List V} {pd : List PyData → List PyData} (h : EA A tl ρ c (· = ds0)) (hg : ∀ H vs, DA H vs ds0 → DA H (gV [] vs) (pd ds0)) (hp : pre (pd ds0)) : EE A (tCall0K (SPp pre post) gV E tl) ρ c (post (pd ds0)) := fun F σ H n Q S l q => by
  refine h F σ H n _ S l fun vs ds H1 s j k r => ?_
  subst r
  have S1 := S.step s j
  refine ⟨F.fs, pd ds, S1.trk, hg _ _ k, hp, fun v d H2 s2 k2 p2 => ?_⟩
  exact q v d H2 (s.trans (same_off s2)) (A.W.stay _ _ _ j fun a _ o e => s2 a o e) k2 p2
/-- the result of a draw -/
theorem ee_draw {b : Deck} {i : Nat} {m : Int} (hW : A.W = dW b) (hd : ρ[i]? = some (.raw (.ref b.d))) (h : EA A tl ρ c (· = [.int m])) (h0 : 0 < m) (h1 : m < 1000000000) :
    EE A (tCall (SPd 1 preDraw postDraw) [] E (tCons (tVar i) tl)) ρ (c + 1) (fun d => ∃ r : Int, d = .int r ∧ 0 ≤ r ∧ r < m) :=
  (ee_calld hW hd h fun ds e => ⟨m, e, h0, h1⟩).imp fun d ⟨ds, e, k⟩ => k m e
end
/-! ### dictionaries -/
theorem str_len0 {x : Str} : PyData.eqv (.str x) (.str Str.empty) = decide (x = Str.empty) := by
  simp only [PyData.eqv]
  by_cases h : x = Str.empty
  · rw [h]; simp
  · rw [decide_eq_false h]; simpa using h
def wordS (x : Str) : Bool := begS x && !decide (x = Str.empty)
theorem wordD_str (x : Str) : wordD (.str x) = wordS x := by
  unfold wordD wordS
  rw [str_len0]
  rfl
end DL

set_option linter.all false
set_option maxRecDepth 100000
set_option maxHeartbeats 4000000
/-! DL10: lists of texts as data, answers -/
namespace DL
open PySem PySem.Spec L2
def strsD (xs : List Str) : PyData := .list (xs.map .str)
theorem strsD_inj {xs ys : List Str} (h : strsD xs = strsD ys) : xs = ys := by
  have e : xs.map PyData.str = ys.map PyData.str := by
    unfold strsD at h
    injection h
  have := congrArg (List.map fun d => match d with | PyData.str x => x | _ => Str.empty) e
  simpa [List.map_map, Function.comp_def] using this
theorem strs_get {xs : List Str} {i : Nat} {d : PyData} (h : (xs.map PyData.str)[i]? = some d) : ∃ x, d = .str x ∧ xs[i]? = some x := by
  rw [List.getElem?_map] at h
  cases hx : xs[i]? with
  | none => rw [hx] at h; cases h
  | some x =>
    rw [hx] at h
    cases h
    exact ⟨x, rfl, rfl⟩
def ansS (xs : List Str) (b : Str) (l : Nat) : List Str := (xs.filter fun x => Txt.startswith x b).take l
theorem cut_take (ds : List PyData) (l : Nat) : cutD ds none (some (l : Int)) = ds.take l := by
  unfold cutD
  rw [HT.sIx_none, HT.sIx_nat, List.drop_zero, Nat.sub_zero]
  exact List.take_eq_take_iff.mpr (by omega)
theorem cut_drop (ds : List PyData) (l : Nat) : cutD ds (some (l : Int)) none = ds.drop l := by
  unfold cutD
  rw [HT.sIx_none, HT.sIx_nat]
  by_cases h : l ≤ ds.length
  · rw [Nat.min_eq_left h, List.take_of_length_le (by rw [List.length_drop]; omega)]
  · rw [Nat.min_eq_right (by omega), List.drop_eq_nil_of_le (Nat.le_refl _), List.drop_eq_nil_of_le (by omega), List.take_nil]
theorem cut_mid (ds : List PyData) (a b : Nat) : cutD ds (some (a : Int)) (some (b : Int)) = (ds.drop a).take (b - a) := by
  unfold cutD
  rw [HT.sIx_nat, HT.sIx_nat]
  by_cases h : a ≤ ds.length
  · rw [Nat.min_eq_left h]
    exact List.take_eq_take_iff.mpr (by rw [List.length_drop]; omega)
  · rw [Nat.min_eq_right (by omega : ds.length ≤ a), List.drop_eq_nil_of_le (Nat.le_refl _), List.drop_eq_nil_of_le (by omega), List.take_nil, List.take_nil]
theorem cutS_take (x : Str) (l : Nat) : cutS x none (some (l : Int)) = ⟨(x.cps.toList.take l).toArray⟩ := by
  unfold cutS
  rw [HT.sIx_none, HT.sIx_nat, List.drop_zero, Nat.sub_zero]
  congr 2
  exact List.take_eq_take_iff.mpr (by rw [Array.length_toList]; show min (min l x.cps.size) _ = _; omega)
/-- x begins with b -/
def preS (b x : Str) : Bool := decide (x.cps.toList.take b.length = b.cps.toList)
theorem startswith_pre (x b : Str) : Txt.startswith x b = preS b x := by
  unfold Txt.startswith preS
  rw [PySem.StrLaws.subAt_eq, List.drop_zero, Nat.zero_add]
  by_cases h : x.cps.toList.take b.length = b.cps.toList
  · have hl : b.length ≤ x.length := by
      have := congrArg List.length h
      rw [List.length_take, Array.length_toList, Array.length_toList] at this
      have e1 : x.length = x.cps.size := rfl
      have e2 : b.length = b.cps.size := rfl
      omega
    rw [decide_eq_true hl, decide_eq_true h, h]
    simp
  · rw [decide_eq_false h]
    have : (x.cps.toList.take b.length == b.cps.toList) = false := by simpa using h
    rw [this, Bool.and_false]
theorem cut_pre (x b : Str) : PyData.eqv (.str (cutS x none (some ((b.length : Nat) : Int)))) (.str b) = preS b x := by
  simp only [PyData.eqv]
  rw [cutS_take]
  unfold preS
  by_cases h : x.cps.toList.take b.length = b.cps.toList
  · rw [decide_eq_true h, h]
    simp
  · rw [decide_eq_false h]
    have : ¬ (⟨(x.cps.toList.take b.length).toArray⟩ : Str) = b := fun e => h (by have := congrArg (fun z : Str => z.cps.toList) e; simpa using this)
    simpa using this
theorem ansS_eq (xs : List Str) (b : Str) (l : Nat) : ansS xs b l = (xs.filter (preS b)).take l := by
  unfold ansS
  congr 2
  exact funext fun x => startswith_pre x b
theorem filter_strs (p : Str → Bool) (q : PyData → Bool) (h : ∀ x, q (.str x) = p x) (xs : List Str) : ((xs.map PyData.str).filter q).map (fun d => d) = (xs.filter p).map .str := by
  rw [List.map_id', List.filter_map]
  congr 2
  exact funext fun x => h x
end DL

set_option linter.all false
set_option maxRecDepth 100000
set_option maxHeartbeats 4000000
/-! DL11: data that a law compares -/
namespace DL
open PySem PySem.Spec L2
mutual
/-- no list or tuple in it is too long -/
def wideD : PyData → Bool
  | .list xs => decide (xs.length ≤ 1000000) && wideAll xs
  | .tuple xs => decide (xs.length ≤ 1000000) && wideAll xs
  | _ => true
def wideAll : List PyData → Bool
  | [] => true
  | d :: ds => wideD d && wideAll ds
end
theorem wide_get : ∀ {ds : List PyData} {i : Nat} {d : PyData}, wideAll ds = true → ds[i]? = some d → wideD d = true
  | [], _, _, _, h => by simp at h
  | d :: ds, 0, e, w, h => by
    simp at h
    subst h
    rw [wideAll, Bool.and_eq_true] at w
    exact w.1
  | d :: ds, i + 1, e, w, h => by
    rw [wideAll, Bool.and_eq_true] at w
    exact wide_get (i := i) w.2 (by simpa using h)
theorem plain_get : ∀ {ds : List PyData} {i : Nat} {d : PyData}, PyData.plainAll ds = true → ds[i]? = some d → d.plain = true
  | [], _, _, _, h => by simp at h
  | d :: ds, 0, e, w, h => by
    simp at h
    subst h
    rw [PyData.plainAll, Bool.and_eq_true] at w
    exact w.1
  | d :: ds, i + 1, e, w, h => by
    rw [PyData.plainAll, Bool.and_eq_true] at w
    exact plain_get (i := i) w.2 (by simpa using h)
theorem depth_get : ∀ {ds : List PyData} {i : Nat} {d : PyData}, ds[i]? = some d → d.depth ≤ PyData.depthAll ds
  | [], _, _, h => by simp at h
  | d :: ds, 0, e, h => by
    simp at h
    subst h
    rw [PyData.depthAll]
    omega
  | d :: ds, i + 1, e, h => by
    have := depth_get (ds := ds) (i := i) (d := e) (by simpa using h)
    rw [PyData.depthAll]
    omega
theorem zip_get {ds : List PyData} {i : Nat} {e : PyData} (h : (zipD ds ds)[i]? = some e) : ∃ d, ds[i]? = some d ∧ e = .tuple [d, d] := by
  unfold zipD at h
  rw [List.getElem?_map] at h
  cases hz : (ds.zip ds)[i]? with
  | none => rw [hz] at h; cases h
  | some p =>
    rw [hz] at h
    cases h
    have := List.getElem?_zip_eq_some.mp hz
    obtain ⟨h1, h2⟩ := this
    rw [h1] at h2
    exact ⟨p.1, h1, by have := Option.some.inj h2; show PyData.tuple [p.1, p.2] = _; rw [← this]⟩
theorem zipD_len (ds : List PyData) : (zipD ds ds).length = ds.length := by
  unfold zipD
  rw [List.length_map, List.length_zip, Nat.min_self]
/-- what two values must be for the law's own comparison -/
def SameOk (m : Nat) (d : PyData) : Prop := d.plain = true ∧ d.depth < m ∧ wideD d = true
section
variable {A : Amb} {ρ : List SV} {c : Nat} {K : PySem.W.Frag} {tl : TA}
theorem walk_zipT' {K : PySem.W.Frag} {a b : Addr} {xs ys : List V} {n : Nat} (hn : n = min xs.length ys.length) : Walk (RZ.ItzT K a b) n (fun H => SqT K H a xs ∧ SqT K H b ys) (YPair (fun i => xs[i]?) (fun i => ys[i]?)) := by
  subst hn
  refine ⟨fun i _ lt q => ⟨xs, ys, xs[i]'(by omega), ys[i]'(by omega), q.1, q.2, List.getElem?_eq_getElem _, List.getElem?_eq_getElem _⟩, fun _ q => ⟨xs, ys, q.1, q.2, by omega⟩, fun i H v H' _ q y => ?_⟩
  obtain ⟨T, x, z, e1, e2, e3, e4, e5⟩ := y
  exact ⟨T, x, z, e1, e2, e3, e4 xs q.1, e5 ys q.2⟩
theorem ei_zipA {ds es : List PyData} (h : EA A tl ρ c (· = [.list ds, .list es])) : EI A (RZ.iZipA K tl) ρ c (· = zipD ds es) := fun F σ H n RR S l q => by
  refine h F σ H n _ S l fun vs dd H1 s j kd r => ?_
  subst r
  cases kd with
  | cons k1 kt =>
    cases kt with
    | cons k2 ku =>
      cases ku
      cases k1 with
      | lst hp kp =>
        cases k2 with
        | lst hq kq =>
          rename_i a xs b ys
          have hl : (zipD ds es).length = min xs.length ys.length := by unfold zipD; rw [List.length_map, List.length_zip, kp.length, kq.length]
          have w : Walk (Itz K a b) (zipD ds es).length (fun H => SqL K H a xs ∧ SqL K H b ys) (YPair (fun i => xs[i]?) (fun i => ys[i]?)) := walk_zip hl
          refine ⟨a, b, xs, ys, rfl, .inl ⟨.inl (.inl (off_some hp).2), .inl (.inl (off_some hq).2), ?_⟩⟩
          refine q _ _ _ (zipD ds es) (gAnd (gLst a xs ds) (gLst b ys es)) H1 s j rfl w ⟨⟨hp, kp⟩, ⟨hq, kq⟩⟩ (fun H2 e => ⟨.inl (.inl e.1.1), .inl (.inl e.2.1)⟩) fun i H2 v H3 g hi y => ?_
          obtain ⟨T, x, y', rfl, nT, rfl, hx, hy⟩ := y
          obtain ⟨d, hd, _⟩ := kp.get hx
          obtain ⟨e, he, _⟩ := kq.get hy
          refine ⟨same_new nT, .tuple [d, e], ?_, fun fs tr g' => ?_⟩
          · unfold zipD
            rw [List.getElem?_map, (List.getElem?_zip_eq_some (z := (d, e))).mpr ⟨hd, he⟩]
            rfl
          · obtain ⟨d', hd', k1⟩ := g'.1.2.get hx
            obtain ⟨e', he', k2⟩ := g'.2.2.get hy
            rw [hd] at hd'
            cases hd'
            rw [he] at he'
            cases he'
            have nf : T ∉ fs := fun z => by
              obtain ⟨o, eo⟩ := tr T z
              rw [nT] at eo
              cases eo
            exact .tup (off_of nf upd_same) (.cons (k1.mono (same_off (same_new nT))) (.cons (k2.mono (same_off (same_new nT))) .nil))
theorem ei_zipAT {ds es : List PyData} (h : EA A tl ρ c (· = [.tuple ds, .tuple es])) : EI A (RZ.iZipA K tl) ρ c (· = zipD ds es) := fun F σ H n RR S l q => by
  refine h F σ H n _ S l fun vs dd H1 s j kd r => ?_
  subst r
  cases kd with
  | cons k1 kt =>
    cases kt with
    | cons k2 ku =>
      cases ku
      cases k1 with
      | tup hp kp =>
        cases k2 with
        | tup hq kq =>
          rename_i a xs b ys
          have hl : (zipD ds es).length = min xs.length ys.length := by unfold zipD; rw [List.length_map, List.length_zip, kp.length, kq.length]
          have w : Walk (RZ.ItzT K a b) (zipD ds es).length (fun H => SqT K H a xs ∧ SqT K H b ys) (YPair (fun i => xs[i]?) (fun i => ys[i]?)) := walk_zipT' hl
          refine ⟨a, b, xs, ys, rfl, .inr ⟨.inl (.inl (off_some hp).2), .inl (.inl (off_some hq).2), ?_⟩⟩
          refine q _ _ _ (zipD ds es) (gAnd (gTpl a xs ds) (gTpl b ys es)) H1 s j rfl w ⟨⟨hp, kp⟩, ⟨hq, kq⟩⟩ (fun H2 e => ⟨.inl (.inl e.1.1), .inl (.inl e.2.1)⟩) fun i H2 v H3 g hi y => ?_
          obtain ⟨T, x, y', rfl, nT, rfl, hx, hy⟩ := y
          obtain ⟨d, hd, _⟩ := kp.get hx
          obtain ⟨e, he, _⟩ := kq.get hy
          refine ⟨same_new nT, .tuple [d, e], ?_, fun fs tr g' => ?_⟩
          · unfold zipD
            rw [List.getElem?_map, (List.getElem?_zip_eq_some (z := (d, e))).mpr ⟨hd, he⟩]
            rfl
          · obtain ⟨d', hd', k1⟩ := g'.1.2.get hx
            obtain ⟨e', he', k2⟩ := g'.2.2.get hy
            rw [hd] at hd'
            cases hd'
            rw [he] at he'
            cases he'
            have nf : T ∉ fs := fun z => by
              obtain ⟨o, eo⟩ := tr T z
              rw [nT] at eo
              cases eo
            exact .tup (off_of nf upd_same) (.cons (k1.mono (same_off (same_new nT))) (.cons (k2.mono (same_off (same_new nT))) .nil))
end
end DL

set_option linter.all false
set_option maxRecDepth 100000
set_option maxHeartbeats 4000000
/-! DL12: the laws' own words -/
namespace DL
open PySem PySem.Spec L2
theorem joinL_nil : ∀ l : List (List Nat), TL.joinL [] l = l.flatten
  | [] => rfl
  | [p] => by simp [TL.joinL]
  | p :: q :: r => by
    have ih := joinL_nil (q :: r)
    show p ++ ([] ++ TL.joinL [] (q :: r)) = _
    rw [ih]
    simp
theorem join_empty (ys : List Str) : (Txt.join Str.empty ys).cps.toList = (ys.map fun y => y.cps.toList).flatten := by
  rw [TL.join_eq]
  have := TL.tl_join Str.empty ys
  exact this.trans (joinL_nil _)
/-- one sign of L -/
def Sgn (L : Str) (y : Str) : Prop := ∃ z, y = ⟨#[z]⟩ ∧ z ∈ L.cps.toList
theorem sgns_join {L : Str} {ys : List Str} (h : ∀ y ∈ ys, Sgn L y) : (Txt.join Str.empty ys).length = ys.length ∧ ∀ c ∈ (Txt.join Str.empty ys).cps.toList, c ∈ L.cps.toList := by
  have key : ∀ ys : List Str, (∀ y ∈ ys, Sgn L y) → ((ys.map fun y => y.cps.toList).flatten).length = ys.length ∧ ∀ c ∈ (ys.map fun y => y.cps.toList).flatten, c ∈ L.cps.toList := fun ys => by
    induction ys with
    | nil => intro _; exact ⟨rfl, fun c hc => by simp at hc⟩
    | cons y ys ih =>
      intro h
      obtain ⟨z, rfl, hz⟩ := h y List.mem_cons_self
      obtain ⟨h1, h2⟩ := ih fun y hy => h y (List.mem_cons_of_mem _ hy)
      refine ⟨?_, fun c hc => ?_⟩
      · rw [List.map_cons, List.flatten_cons, List.length_append, h1]
        show 1 + ys.length = ys.length + 1
        omega
      · rw [List.map_cons, List.flatten_cons, List.mem_append] at hc
        rcases hc with hc | hc
        · have : c = z := by simpa using hc
          rw [this]
          exact hz
        · exact h2 c hc
  obtain ⟨h1, h2⟩ := key ys h
  refine ⟨?_, fun c hc => h2 c (by rw [← join_empty]; exact hc)⟩
  have e : (Txt.join Str.empty ys).length = (Txt.join Str.empty ys).cps.toList.length := by rw [Array.length_toList]; rfl
  rw [e, join_empty, h1]
def preTerm : List PyData → Prop := fun ds => ∃ (L : Str) (m : Int), ds = [.str L, .int m] ∧ 1 ≤ L.length ∧ L.length ≤ 1000 ∧ 1 ≤ m ∧ m ≤ 60
def postTerm : List PyData → PyData → Prop := fun ds d => ∀ (L : Str) (m : Int), ds = [.str L, .int m] → ∃ x : Str, d = .str x ∧ 1 ≤ x.length ∧ (x.length : Int) ≤ m ∧ ∀ c ∈ x.cps.toList, c ∈ L.cps.toList
section
variable {A : Amb} {ρ : List SV} {te ta tb : TE} {c c1 c2 : Nat} {tl : TA} {K : PySem.W.Frag}
/-- an int that is drawn -/
def IntIn (lo hi : Int) (d : PyData) : Prop := ∃ r : Int, d = .int r ∧ lo ≤ r ∧ r < hi
theorem ee_addD {i lo hi : Int} (h1 : ER A ta ρ c1 (· = .int i)) (h2 : ER A tb ρ c2 (IntIn lo hi)) : EE A (tOp rAddA ta tb) ρ (c1 + c2) (IntIn (i + lo) (i + hi)) :=
  ee_opR h1 h2 fun d1 d2 e1 ⟨r, e2, h3, h4⟩ => by
    subst e1 e2
    exact od_addI.imp fun d e => ⟨i + r, e, by omega, by omega⟩
/-- a drawn sign of a text -/
theorem ee_ixSD {L : Str} (hl : L.length ≤ 1000) (h1 : ER A ta ρ c1 (· = .str L)) (h2 : ER A tb ρ c2 (IntIn 0 (L.length : Nat))) : EE A (tOp (rIx K) ta tb) ρ (c1 + c2) (fun d => ∃ y, d = .str y ∧ Sgn L y) :=
  ee_opR h1 h2 fun d1 d2 e1 ⟨r, e2, h3, h4⟩ => by
    subst e1 e2
    have hr : r.toNat < L.cps.toList.length := by
      rw [Array.length_toList]
      have : (L.length : Int) = (L.cps.size : Nat) := rfl
      omega
    have e : r = ((r.toNat : Nat) : Int) := by omega
    rw [e]
    exact (opd_ixS (z := L.cps.toList[r.toNat]) (Nat.le_trans hl (by decide)) (atI_nat (List.getElem?_eq_getElem hr))).imp fun d e => ⟨_, e, _, rfl, List.getElem_mem hr⟩
/-- a drawn item of a list -/
theorem ee_ixLD {R : PyData → Prop} {ds : List PyData} (h1 : EE A ta ρ c1 (· = .list ds)) (h2 : ER A tb ρ c2 (IntIn 0 (ds.length : Nat))) (hr : ∀ d ∈ ds, R d) : EE A (tOp (rIx K) ta tb) ρ (c1 + c2) R :=
  ee_ixR h1 h2 fun d1 d2 e1 ⟨r, e2, h3, h4⟩ => by
    have hlt : r.toNat < ds.length := by omega
    have e : r = ((r.toNat : Nat) : Int) := by omega
    exact ⟨ds, r, ds[r.toNat], .inl e1, e2, by rw [show atI ds r = atI ds ((r.toNat : Nat) : Int) from congrArg (atI ds) e]; exact atI_nat (List.getElem?_eq_getElem hlt), hr _ (List.getElem_mem hlt)⟩
theorem ear_one {R : PyData → Prop} (h : ER A te ρ c R) : EAR A (tCons te tNil) ρ c (fun ds => ∃ d, R d ∧ ds = [d]) := (ear_consR h ear_nil).imp fun ds ⟨d, ds', h1, h2, h3⟩ => ⟨d, h1, by rw [h3, h2]⟩
theorem ei_rngD {lo hi : Int} (h : ER A te ρ c (IntIn lo hi)) (h1 : -(2 ^ 62) ≤ lo) (h2 : hi ≤ 2 ^ 62) : EI A (iRng1 (tCons te tNil)) ρ c (fun ds => ∃ r : Int, lo ≤ r ∧ r < hi ∧ ds = rngD 0 r.toNat) :=
  (ei_rng1R (ear_one h) fun ds ⟨d, ⟨r, e1, e2, e3⟩, e⟩ => ⟨r, by rw [e, e1], by omega, by omega⟩).imp fun ds ⟨j, ⟨d, ⟨r, e1, e2, e3⟩, e⟩, e'⟩ => by
    rw [e1] at e
    injection e with e _
    injection e with e
    exact ⟨j, by omega, by omega, e'⟩
end
end DL
namespace DL
open PySem PySem.Spec L2
def preTerms : List PyData → Prop := fun ds => ∃ (k : Int) (L : Str) (m : Int), ds = [.int k, .str L, .int m] ∧ 1 ≤ k ∧ k ≤ 1000 ∧ 1 ≤ L.length ∧ L.length ≤ 1000 ∧ 1 ≤ m ∧ m ≤ 60
/-- words of the signs of L, at most m of them -/
def WordOf (L : Str) (m : Int) (x : Str) : Prop := 1 ≤ x.length ∧ (x.length : Int) ≤ m ∧ ∀ c ∈ x.cps.toList, c ∈ L.cps.toList
def postTerms : List PyData → PyData → Prop := fun ds d => ∀ (k : Int) (L : Str) (m : Int), ds = [.int k, .str L, .int m] → ∃ xs : List Str, d = strsD xs ∧ 1 ≤ xs.length ∧ (xs.length : Int) ≤ k ∧ xs.Nodup ∧ ∀ x ∈ xs, WordOf L m x
theorem any_strs (x : Str) (xs : List Str) : ((xs.map PyData.str).any fun e => PyData.eqv e (.str x)) = decide (x ∈ xs) := by
  induction xs with
  | nil => rfl
  | cons y ys ih =>
    rw [List.map_cons, List.any_cons, ih]
    have e : PyData.eqv (.str y) (.str x) = decide (x = y) := by
      simp only [PyData.eqv]
      by_cases h : x = y
      · rw [h]; simp
      · rw [decide_eq_false h]
        simpa using fun e => h e.symm
    rw [e, ← Bool.decide_or]
    exact decide_eq_decide.mpr (List.mem_cons).symm
theorem flat_strs (xs : List Str) : (xs.map PyData.str).all flatD = true := by
  rw [List.all_map, List.all_eq_true]
  intro x _
  rfl
end DL
namespace DL
open PySem PySem.Spec L2
/-- a beginning of at most n letters -/
def StrOk (n : Nat) (d : PyData) : Prop := ∃ y : Str, d = .str y ∧ begS y = true ∧ y.length ≤ n
def AllD (k : Nat) (R : PyData → Prop) (ds : List PyData) : Prop := ds.length = k ∧ ∀ d ∈ ds, R d
theorem begS_take {x : Str} (h : begS x = true) (k : Nat) : begS ⟨(x.cps.toList.take k).toArray⟩ = true := by
  unfold begS at h ⊢
  rw [List.all_eq_true] at h ⊢
  intro c hc
  exact h c (List.mem_of_mem_take hc)
theorem begS_append {x y : Str} (hx : begS x = true) (hy : begS y = true) : begS (x ++ y) = true := by
  unfold begS at hx hy ⊢
  have e : (x ++ y).cps.toList = x.cps.toList ++ y.cps.toList := TL.tl_append x y
  rw [e, List.all_append, hx, hy]
  rfl
theorem len_append (x y : Str) : (x ++ y).length = x.length + y.length := by
  have e : (x ++ y).cps.toList = x.cps.toList ++ y.cps.toList := TL.tl_append x y
  have h1 : (x ++ y).length = (x ++ y).cps.toList.length := by rw [Array.length_toList]; rfl
  have h2 : x.length = x.cps.toList.length := by rw [Array.length_toList]; rfl
  have h3 : y.length = y.cps.toList.length := by rw [Array.length_toList]; rfl
  rw [h1, e, List.length_append, ← h2, ← h3]
theorem len_take (x : Str) (k : Nat) : (⟨(x.cps.toList.take k).toArray⟩ : Str).length = min k x.length := by
  show (x.cps.toList.take k).toArray.size = _
  rw [List.size_toArray, List.length_take, Array.length_toList]
  rfl
section
variable {A : Amb} {ρ : List SV} {te ta tb : TE} {c c1 c2 : Nat} {tl tr : TA} {K : PySem.W.Frag} {R : PyData → Prop}
theorem ea_nilA : EA A tNil ρ 0 (AllD 0 R) := ea_nil.imp fun ds e => by rw [e]; exact ⟨rfl, fun d hd => absurd hd List.not_mem_nil⟩
theorem ea_consA {k : Nat} (h1 : EE A te ρ c1 R) (h2 : EA A tr ρ c2 (AllD k R)) : EA A (tCons te tr) ρ (c1 + c2) (AllD (k + 1) R) := (ea_consR h1 h2).imp fun l ⟨d, ds, r, ⟨e, h⟩, el⟩ => by
  rw [el]
  refine ⟨by rw [List.length_cons, e], fun x hx => ?_⟩
  rcases List.mem_cons.mp hx with hx | hx
  · rw [hx]; exact r
  · exact h x hx
theorem ee_cutSD {x : Str} {n : Nat} {hi : Int} (h1 : EE A ta ρ c1 (· = .str x)) (h2 : ER A tb ρ c2 (IntIn 0 hi)) (hb : begS x = true) (hl : x.length ≤ n) (hn : n ≤ 100000) : EE A (tSl (rSlB K) ta tNoPart (tPart tb)) ρ (c1 + 0 + c2) (StrOk n) :=
  ee_slR h1 eo_none (eo_someR h2 fun d ⟨r, e, _⟩ => ⟨r, e⟩) fun d lo hi' e1 e2 ⟨i, e3, ⟨r, e4, r0, _⟩⟩ => .inr ⟨x, e1, by have := sizeLine_eq; omega, by
    injection e4 with e4
    subst e2 e3 e4
    have e : i = ((i.toNat : Nat) : Int) := by omega
    rw [e, cutS_take]
    exact ⟨_, rfl, begS_take hb _, by rw [len_take]; omega⟩⟩
theorem ER.to (h : ER A te ρ c R) {R' : PyData → Prop} (k : ∀ d, R d → R' d) : ER A te ρ c R' := h.imp k
theorem intIn_mono {lo hi lo' hi' : Int} {d : PyData} (h : IntIn lo hi d) (h1 : lo' ≤ lo) (h2 : hi ≤ hi') : IntIn lo' hi' d := by
  obtain ⟨r, e, a, b⟩ := h
  exact ⟨r, e, by omega, by omega⟩
end
def preStart : List PyData → Prop := fun ds => ∃ xs : List Str, ds = [strsD xs] ∧ xs.length < 4000 ∧ ∀ x ∈ xs, begS x = true ∧ x.length ≤ 60
def postStart : List PyData → PyData → Prop := fun _ d => StrOk 61 d
end DL

set_option linter.all false
set_option maxRecDepth 100000
set_option maxHeartbeats 4000000
/-! DLK: rules whose reading names the written part, with its name given -/
namespace DL
open PySem PySem.Spec L2
section
variable {X : Cx} {K : PySem.W.Frag} {e e2 o a : Expr} {es elts : List Expr} {te to ta tl : TE} {t : TA} {p p2 q pos cpos apos tpos tg : Pos} {x : Str}
theorem kIx (h : X.K = K := by rfl) : IxR X (rIx K) := by subst h; exact ix_seq
theorem kSl (h : X.K = K := by rfl) : SlR X (rSlB K) := by subst h; exact sl_both
theorem kLen (h : X.K = K := by rfl) : CallR X (.builtin "len") (rLen K) := by subst h; exact call_lenB
theorem kIn (h : X.K = K := by rfl) : OpR X (compareOp .In) (rInA K false) := by subst h; exact op_inA
theorem kNi (h : X.K = K := by rfl) : OpR X (compareOp .NotIn) (rInA K true) := by subst h; exact op_niA
theorem kAll (hc : X.calm = true) (h : X.K = K := by rfl) : CallR X (.builtin "all") (rAll K) := by subst h; exact cr_all hc
theorem kAny (hc : X.calm = true) (h : X.K = K := by rfl) : CallR X (.builtin "any") (rAny K) := by subst h; exact cr_any hc
theorem kIsi (h : X.K = K := by rfl) : CallR X (.builtin "isinstance") (rIsi K) := by subst h; exact call_isi
theorem kIsiT (h : X.K = K := by rfl) : CallR X (.builtin "isinstance") (rIsiT K) := by subst h; exact call_isiT
theorem kJoin (ho : PE X o to) (he : PE X e te) (hs : starEach [e] X.env = [(false, eval e X.env)] := by rfl) (hbase : attributeBase o "join" X.env (eval o X.env) = eval o X.env := by rfl) (hline : (apos.endLine == pos.line) = true := by rfl) (h : X.K = K := by rfl) :
    PE X (.Call (.Attribute o "join" apos) [e] [] pos) (tM1 (fun x xs H Q => ∃ a p, ∃ ys : List Str, x = .str a ∧ xs = [.ref p] ∧ (SqL K H p (ys.map V.str) ∨ SqT K H p (ys.map V.str)) ∧ (ys.map (·.length)).sum + ys.length * a.length ≤ 16777216 ∧ Q (.str (Txt.join a ys)) H) to te) := by
  subst h
  exact pe_join ho he hs hbase hline
theorem kRev {k : Nat} {p1 p3 : Pos} (he : PE X e te) (h : X.K = K := by rfl) : PE X (.Subscript e (.Slice none none (some (.UnaryOp .USub (.Constant (.int 1) k p1) p2)) p3) pos) (tRevL K te) := by
  subst h
  exact pe_revL he
theorem kList {tg : Expr} (hl : PE X e tl) (h : X.K = K := by rfl) : PI X tg e (iList K tl) := by
  subst h
  exact pi_list hl
theorem kTup {tg : Expr} (hl : PE X e tl) (h : X.K = K := by rfl) : PI X tg e (iTup K tl) := by
  subst h
  exact pi_tup hl
theorem kZip {kk : Nat} (hg : Gl X "zip") (hm : X.mg "zip" = none) (ha : PA X [e, e2] t) (hs : starEach [e, e2] X.env = (false, eval e X.env) :: starEach [e2] X.env := by rfl) (hpl : (backTo pos (starEach [e2] X.env)).any (·.1) = false := by rfl) (h : X.K = K := by rfl) :
    PI X (.Tuple elts kk tpos) (.Call (.Name "zip" p) [e, e2] [] pos) (RZ.iZipA K t) := by
  subst h
  exact RZ.pi_zipA hg hm ha hs hpl
theorem kPgTup {k n : Nat} {gs : TGs} (hc : X.calm = true) (hp : PGs X es gs) (hn : (assignEach es X.env).length = n := by rfl) (hst : (assignEach es X.env).findIdx? (·.1) = none := by rfl) (h : X.K = K := by rfl) : PG X (.Tuple es k pos) (gTup K n gs) := by
  subst h
  exact pg_tup hc hp hn hst
theorem kLenSet (hg : Gl X "len") (hm : X.mg "len" = none) (hg2 : Gl X "set") (hm2 : X.mg "set" = none) (ha : PE X a ta) (hc : X.calm = true := by rfl) (na : starEach [a] X.env = (false, eval a X.env) :: starEach [] X.env := by rfl) (h : X.K = K := by rfl) :
    PE X (.Call (.Name "len" p) [.Call (.Name "set" p2) [a] [] q] [] pos) (tLenSetS K ta) := by
  subst h
  exact pe_lenSetS hg hm hg2 hm2 ha hc na
end
end DL

set_option linter.all false
set_option maxRecDepth 100000
set_option maxHeartbeats 4000000
/-! DL13: the script, the making of the source of draws -/
namespace DL
open PySem PySem.Spec L2
section
variable {A : Amb} {ρ : List SV} {te ta tb : TE} {c c1 c2 : Nat} {K : PySem.W.Frag} {a : Addr} {xs : List V} {i : Nat}
theorem sq_mono {H H' : Hp} (e : Same H H') (h : SqL K H a xs) : SqL K H' a xs := e.seq h
theorem er_lenScr (h : ρ[i]? = some (.raw (.ref a))) (hs : SqL K (off A.W.fs A.H0) a xs) : EE A (tCB (rLen K) (tCons (tVar i) tNil)) ρ 0 (· = .int xs.length) := fun F σ H n Q S _ q => by
  obtain ⟨o, e1, e2⟩ := S.slot i _ h
  have e2' : o = some (.ref a) := e2
  subst e2'
  refine ⟨.ref a, e1, .inl ⟨a, xs, rfl, .inl (sq_mono off_le (sq_mono S.adv hs)), q _ _ H (Same.refl _) S.j (.int _) rfl⟩⟩
theorem er_ixScr {ns : List Int} (h : ρ[i]? = some (.raw (.ref a))) (hs : SqL K (off A.W.fs A.H0) a (ns.map V.int)) {k : Nat} (hk : k < ns.length) (hb : ER A tb ρ c2 (· = .int (k : Nat))) : EE A (tOp (rIx K) (tVar i) tb) ρ c2 (· = .int (ns.getD k 0)) := fun F σ H n Q S l q => by
  obtain ⟨o, e1, e2⟩ := S.slot i _ h
  have e2' : o = some (.ref a) := e2
  subst e2'
  refine ⟨.ref a, e1, ?_⟩
  refine hb F σ H n _ S l fun v d H1 s j kd r => ?_
  subst r
  cases kd
  have S1 := S.step s j
  have e : ns.getD k 0 = ns[k] := by rw [List.getD_eq_getElem?_getD, List.getElem?_eq_getElem hk]; rfl
  refine .inl ⟨a, _, _, .int (ns.getD k 0), rfl, rfl, sq_mono off_le (sq_mono S1.adv hs), atI_nat ?_, q _ _ H1 s j (.int _) rfl⟩
  rw [List.getElem?_map, List.getElem?_eq_getElem hk, e]
  rfl
/-- i ** j -/
theorem od_pow {i j : Int} (h : CPowW i j) : Opd (rI CPowW fun i j => .int (i ^ j.toNat)) (.int i) (.int j) (· = .int (i ^ j.toNat)) := opd_i h
end
/-- a pool as data -/
def PoolD (d : PyData) : Prop := ∃ (c f : Int) (k : Nat), d = .list [.int c, .int f, .int (k : Nat)] ∧ k ≤ 3000
theorem deck_of {H : Hp} {v : V} {ps : List PyData} (h : DD H v (.list [.list ps, .int 0])) (h0 : 0 < ps.length) (h1 : ps.length ≤ 63) (hp : ∀ d ∈ ps, PoolD d) : ∃ b : Deck, v = .ref b.d ∧ dJ b 0 H := by
  cases h with
  | lst hd k =>
    cases k with
    | cons k1 k2 =>
      cases k2 with
      | cons k3 k4 =>
        cases k4
        cases k3
        cases k1 with
        | lst hpl kk =>
          rename_i d pl vs
          have key : ∀ {vs : List V} {ps : List PyData}, DA H vs ps → (∀ d ∈ ps, PoolD d) → ∃ as : List Addr, vs = as.map V.ref ∧ as.length = ps.length ∧ ∀ p ∈ as, PoolAt 0 H p := fun {vs ps} k => by
            induction ps generalizing vs with
            | nil =>
              intro _
              cases k
              exact ⟨[], rfl, rfl, fun p hp => absurd hp List.not_mem_nil⟩
            | cons d ds ih =>
              intro hp
              cases k with
              | cons kv kt =>
                obtain ⟨as, e1, e2, e3⟩ := ih kt fun x hx => hp x (List.mem_cons_of_mem _ hx)
                obtain ⟨c, f, m, rfl, hm⟩ := hp d List.mem_cons_self
                cases kv with
                | lst ho kx =>
                  rename_i p zs
                  cases kx with
                  | cons a1 b1 =>
                    cases b1 with
                    | cons a2 b2 =>
                      cases b2 with
                      | cons a3 b3 =>
                        cases b3
                        cases a1; cases a2; cases a3
                        refine ⟨p :: as, by rw [e1]; rfl, by rw [List.length_cons, e2]; rfl, fun x hx => ?_⟩
                        rcases List.mem_cons.mp hx with hx | hx
                        · rw [hx]
                          exact ⟨c, f, m, ho, by omega⟩
                        · exact e3 x hx
          obtain ⟨as, rfl, e2, e3⟩ := key kk hp
          exact ⟨⟨d, pl, as⟩, rfl, 0, hd, hpl, by show 0 < as.length; omega, by show as.length ≤ 63; omega, e3⟩
/-- the making of the source -/
def spDeck (K : PySem.W.Frag) : Sp := fun vs H Q _ => ∃ (a : Addr) (ns : List Int), vs = [.ref a] ∧ SqL K H a (ns.map V.int) ∧ ns.length ≤ 63 ∧ ∀ (b : Deck) H', Same H H' → dJ b 0 H' → Q (.ref b.d) H'
theorem SS.run {A : Amb} {F : Fp} {ρ : List SV} {σ : L2.St} {H : Hp} {n c : Nat} {P : Po} {t : TS} {D : Ends} (S : St8 A F ρ σ H n) (l : n + c ≤ LIM) (main : SS A t ρ c P) (k1 : KN A F.gh (n + c) P.nx D.nx) (k2 : KR A (n + c) P.rt P.fr D.rt)
    (k3 : KN A F.gh (n + c) P.bk D.bk) (k4 : KN A F.gh (n + c) P.ct D.ct) : t D σ H := main D F σ H n S l k1 k2 k3 k4
end DL

set_option linter.all false
set_option maxRecDepth 100000
set_option maxHeartbeats 4000000
/-! DLG: defs that run where no repr is under way, up to the law itself -/
namespace DL
open PySem PySem.Spec PyProof.Rows L2

/-- a def's promise, kept wherever no repr is under way -/
structure FnG (P : Program) (w : World) (K : PySem.W.Frag) (mg : Str → Option Value) (base : Heap) (CX : CXT) (k : Nat) (f : Addr) (fd : FuncData) (ps : List Str) (sp : Sp) : Prop where
  len : ∀ vs H Q E, sp vs H Q E → vs.length = ps.length
  run : ∀ (A : Around) (outer : List Env) (s : Shared) (H : Hp) (args : Args) (us : List Value) (vs : List V) (Q : VK) (E : XK), Room k A → A.guards = some [] → Env0 P w K mg base A outer s H → BindsTo s fd args (ps.zip us) → Vals vs us → sp vs H Q E →
    codeAny (model P w) A (.call (.ref f) args) (CR CX outer P w H s Q E) s
section
variable {P : Program} {w : World} {K : PySem.W.Frag} {mg : Str → Option Value} {base : Heap}
theorem Fun.okG {CX : CXT} {x qual : Str} {st : Stmt} {f : Addr} {fd : FuncData} {N ps : List Str} {k : Nat} {sp : Sp} (F : Fun K x qual st f fd) (S : FnScope N ps (defScope st)) (len : ∀ vs H Q E, sp vs H Q E → vs.length = ps.length)
    (body : ∀ (cdv : Value) (A : Around) (outer : List Env) (s : Shared) (H : Hp) (vs : List V) (Q : VK) (E : XK), Room k (A.deeper (PyProof.Rows.envOfC qual (defScope st) s.heap.objs.size f cdv)) → A.guards = some [] → sp vs H Q E →
      ∃ t, PSs (cxOf CX P w K mg base N qual (defScope st) f cdv A outer s H E) (defBody st) t ∧ t { nx := fun _ H' => Q .non H', rt := Q } (L2.start N vs) H) : FnG P w K mg base CX (k + 1) f fd ps sp := by
  obtain ⟨oc, od, kV, doc, pm, an, cdv, ct, osl, rfl, lk, code⟩ := F.ex
  refine ⟨len, fun A outer s H args us vs Q E room hg env bind rel wish => ?_⟩
  have hl : vs.length = ps.length := len _ _ _ _ wish
  have inK : K.In s.heap := env.mod.kin.keeps fun b o e => (env.bs b o e).1
  have lim : s.heap.NoLimit := env.mod.nolimit.keeps fun b o e => (env.bs b o e).1
  refine codeAny_call_function room.depth (inK _ _ lk) rfl S.co S.gen rfl (PySem.W.codeRec_of inK code) (bind _ _ _ _ ?_)
  have kinds : ∀ y ∈ ps.zip us, (defScope st).names.lookup y.1 = some .local ∨ ((defScope st).names.lookup y.1 = some .cell ∧ ((cellsFrom (s.heap.objs.size + 1) (defScope st).names []).lookup y.1).isSome = true) := by
    rintro ⟨n, v⟩ hy
    rcases S.par n (List.of_mem_zip hy).1 with e | e
    · exact .inl e
    · exact .inr ⟨e, PySem.W.cellsFrom_some _ _ _ (.inl e)⟩
  refine wpAny_newFunctionEnv_cells S.kind kinds fun ev hev s1 inc => ?_
  subst hev
  refine ⟨lim.keeps inc.toInCall.keep, codeAny_func ?_⟩
  obtain ⟨t, term, hq⟩ := body cdv A outer s H vs Q E (room.deeper _) hg wish
  have I0 := inv_start (CX := CX) (P := P) (E := E) S room.hd env hl rel inc
  refine wpAny_mono (term.run [] s1 (L2.start N vs) H _ I0 hq) (fun fl s' hs => ?_) fun e s' hs => hs
  cases fl with
  | brk =>
    obtain ⟨_, _, _, z⟩ := hs
    exact z.elim
  | cont =>
    obtain ⟨_, _, _, z⟩ := hs
    exact z.elim
  | ret u =>
    obtain ⟨v, σ', H', J, rv, z⟩ := hs
    exact ⟨v, H', J.os, J.bare, J.base, J.hok, rv, z⟩
  | next =>
    obtain ⟨σ', H', J, z⟩ := hs
    exact ⟨.non, H', J.os, J.bare, J.base, J.hok, rfl, z⟩
end
section
variable {X : Cx} {CX : CXT} {k : Nat} {f : Addr} {fd : FuncData} {ps : List Str} {sp : Sp} {dvs : List V} {ds : List Value} {E : XK} {x : Str} {p pos : Pos} {e : Expr} {es : List Expr} {t : TA}
theorem pe_callG (F : FnG X.prog X.w X.K X.mg X.base CX k f fd ps sp) (hr : Room k X.A) (hgd : X.A.guards = some []) (hg : Gl X x) (hm : X.mg x = some (.ref f)) (hk : PySem.W.keepIn X.K (.ref f) = true) (hb : Binds X.K fd ps ds) (hd : Vals dvs ds) (hx : Passes CX X E)
    (ha : PA X (e :: es) t) (hdb : (x == ("__debug__" : Str)) = false := by decide) (he : starEach (e :: es) X.env = (false, eval e X.env) :: starEach es X.env := by rfl) (hpl : (backTo pos (starEach es X.env)).any (·.1) = false := by rfl) :
    PE X (.Call (.Name x p) (e :: es) [] pos) (tCall sp dvs E t) := by
  refine ⟨fun pins s σ H Q I h => wpAny_Call_Name_kw (ld_glob I hg hm ?_ hdb)⟩
  refine PySem.W.callWith_K (h₀ := X.base) I.ok.mod.kin hk (thn (ha.run pos pins s σ H _ I h) fun us s1 ⟨vs, H1, I1, r, q⟩ => ⟨I1.kIn, ?_⟩) he hpl
  have rel : Vals (vs ++ dvs) (us ++ ds) := r.append hd
  have hl : (us ++ ds).length = ps.length := rel.length.symm.trans (F.len _ _ _ _ q)
  refine wpAny_call (codeAny_mono (F.run X.A X.stack s1 H1 ⟨us, []⟩ (us ++ ds) (vs ++ dvs) Q E hr hgd I1.env0 (hb s1 us I1.kIn hl) rel q) fun r s' hq => ?_)
  cases r with
  | error e => exact hx pins σ H1 s1 e s' I1 hq
  | ok fl =>
    cases fl with
    | next => exact hq.elim
    | brk => exact hq.elim
    | cont => exact hq.elim
    | ret u => exact I1.after hq
end
/-- the law's call, from its promise in the guarded form -/
theorem law_callG {P : Program} {w : World} {K : PySem.W.Frag} {mg mb : Str → Option Value} {CX : CXT} {k : Nat} {fa a : Addr} {fd : FuncData} {x : Str} {sp : Sp} {s₁ : Shared} {vs : List Value} {ns : List Int}
    (KX : K.In s₁.heap) (hns : s₁.heap.Ns mainGlobals mg) (hb : s₁.heap.Ns builtinsNs mb) (hbb : ∀ x : Str, x ≠ "__name__" → mb x = bootBuiltins x) (hlim : s₁.heap.NoLimit) (hg : s₁.gens = #[])
    (ha : s₁.heap.get? a = some { cls := .type "list", data := .seq vs.toArray }) (hi : IntsAre vs ns) (hl : ns.length ≤ sizeLine) (hr : Room k callerA)
    (F : ∀ base : Heap, K.In base → base.Ns mainGlobals mg → FnG P w K mg base CX k fa fd [x] sp) (hbind : ∀ (s : Shared) (u : Value), BindsTo s fd ⟨[u], []⟩ [(x, u)])
    (hsp : ∀ H : Hp, Only H → SqL K H a (ns.map V.int) → sp [.ref a] H (fun v _ => v = .bl true) fun _ _ _ => False)
    (hCX : ∀ H e s', CX [] H s₁ (fun _ _ _ => False) e s' → False) :
    codeAny (model P w) callerA (.call (.ref fa) ⟨[.ref a], []⟩) (fun r s' => r = .ok (.ret (.bool true)) ∧ OldK s₁.heap s'.heap ∧ s'.os = s₁.os ∧ AllBare s'.gens) s₁ := by
  have rv : Vals (ns.map V.int) vs := vals_ints hi
  have main : ∀ H : Hp, Only H → SqL K H a (ns.map V.int) → HOk P w H s₁.heap → (∀ b, H b ≠ none → b = a) → (H a ≠ none → K.lookup a = none) →
      codeAny (model P w) callerA (.call (.ref fa) ⟨[.ref a], []⟩) (fun r s' => r = .ok (.ret (.bool true)) ∧ OldK s₁.heap s'.heap ∧ s'.os = s₁.os ∧ AllBare s'.gens) s₁ := by
    intro H only scr ok isA notK
    have atA : ∀ {b : Addr} {u : HO}, H b = some u → b = a := fun {b u} e => isA b (by rw [e]; exact fun z => nomatch z)
    have keepDict : ∀ {b : Addr} {o : Obj} {es : Array DictEntry} {ep : Nat}, s₁.heap.get? b = some o → o.data = .dict es ep → H b = none := fun {b o es ep} e d => by
      cases q : H b with
      | none => rfl
      | some u =>
        rw [atA q, ha] at e
        cases e
        have d' : Data.seq vs.toArray _ = Data.dict es ep := d
        cases d'
    have ns' : ∀ {b : Addr} {m : Str → Option Value}, s₁.heap.Ns b m → (hidT s₁.heap H).Ns b m := fun {b m} ⟨o, es, ep, e, d, r⟩ => ⟨o, es, ep, hidT_get e (keepDict e d), d, r⟩
    have inB : K.In (hidT s₁.heap H) := fun b o e => hidT_get (KX b o e) (by
      cases q : H b with
      | none => rfl
      | some u =>
        rw [atA q, notK (by rw [← atA q, q]; exact fun z => nomatch z)] at e
        cases e)
    have hM : Mod K mg (hidT s₁.heap H) := ⟨inB, ns' hns, ⟨mb, ns' hb, hbb⟩, let ⟨mc, h1, h2⟩ := hlim; ⟨mc, ns' h1, h2⟩⟩
    have env : Env0 P w K mg (hidT s₁.heap H) callerA [] s₁ H := ⟨rfl, hM, fun b o e => of_hidT e, Nat.le_of_eq (hidT_size _ _), trivial, fun b z => absurd (show b ∈ ([] : List Addr) from z) List.not_mem_nil, ok, .of_eq hg⟩
    refine codeAny_mono ((F _ inB (ns' hns)).run callerA [] s₁ H ⟨[.ref a], []⟩ [.ref a] [.ref a] _ _ hr rfl env (hbind s₁ (.ref a)) (.cons rfl .nil) (hsp H only scr)) fun r s' h => ?_
    cases r with
    | error e => exact (hCX H e s' h).elim
    | ok fl =>
      cases fl with
      | next => exact h.elim
      | brk => exact h.elim
      | cont => exact h.elim
      | ret u =>
        obtain ⟨v, H', os, bare, un, ok', r', q⟩ := h
        have q' : v = .bl true := q
        subst q'
        obtain rfl : u = Value.bool true := r'
        refine ⟨rfl, OldK.of_keep fun b o e => ?_, os, bare⟩
        cases q : H b with
        | none => exact un.keep b o e q (fun z => absurd (show b ∈ ([] : List Addr) from z) List.not_mem_nil) List.not_mem_nil
        | some u =>
          rcases only b with z | ⟨ob, xs, z⟩
          · rw [q] at z
            cases z
          · obtain ⟨e1, _⟩ := ok b _ z
            obtain ⟨e2, _⟩ := ok' b _ (un.frzs b ob _ z)
            rw [e] at e1
            cases e1
            exact e2
  cases hk : K.lookup a with
  | some o =>
    have e := KX a o hk
    rw [ha] at e
    cases e
    exact main (fun _ => none) (fun _ => .inl rfl) (.inr ⟨_, vs.toArray, _, hk, rfl, rfl, rfl, by rw [List.size_toArray, hi.length]; exact hl, by simpa using rv⟩) (fun b u z => nomatch (show (none : Option HO) = some u from z)) (fun b z => absurd rfl z) fun z => absurd rfl z
  | none =>
    let ob : Obj := { cls := .type "list", data := .seq vs.toArray }
    have at1 : ∀ {b : Addr} {u : HO}, (if b = a then some (HO.frz ob (.lst (ns.map V.int))) else none) = some u → b = a ∧ u = .frz ob (.lst (ns.map V.int)) := fun {b u} z => by
      by_cases hb : b = a
      · rw [if_pos hb] at z
        exact ⟨hb, (Option.some.inj z).symm⟩
      · rw [if_neg hb] at z
        cases z
    refine main (fun b => if b = a then some (.frz ob (.lst (ns.map V.int))) else none) (fun b => ?_) (.inl (.inr ⟨ob, if_pos rfl⟩)) (fun b u z => ?_) (fun b z => ?_) fun _ => hk
    · by_cases hb : b = a
      · exact .inr ⟨_, _, if_pos hb⟩
      · exact .inl (if_neg hb)
    · obtain ⟨rfl, rfl⟩ := at1 z
      exact ⟨ha, by rw [List.length_map]; exact hl, vs, _, rv, ha⟩
    · by_cases hb : b = a
      · exact hb
      · exact absurd (if_neg hb) z
theorem walk_G {l : PySem.W.OpenLaw} {n k : Nat} {q : Program} {loose : List Str} {XP : (Str → Option Value) → Heap → Prop} {YP : World → Heap → Prop} {d : DefRec} {K : Params → PySem.W.Frag} {CX : World → CXT} {sp : PySem.W.Frag → Sp} {x : Str}
    (hn : l.most = some n) (hn2 : n ≤ sizeLine) (hdf : d.params.defaults = []) (hr : Room k callerA) (hY : ∀ (w : World) (h : Heap), YP w h → (K w.params).In h)
    (F : ∀ (w : World) (mg : Str → Option Value) (fa : Addr) (h : Heap), (K w.params).In h → h.Ns mainGlobals mg → mg d.name = some (.ref fa) →
      ∃ fd : FuncData, (∀ (s : Shared) (u : Value), BindsTo s fd ⟨[u], []⟩ [(x, u)]) ∧ ∀ base : Heap, (K w.params).In base → base.Ns mainGlobals mg → FnG l.prog w (K w.params) mg base (CX w) k fa fd [x] (sp (K w.params)))
    (hsp : ∀ (K : PySem.W.Frag) (H : Hp) (a : Addr) (ns : List Int), ns.length ≤ n → Only H → SqL K H a (ns.map V.int) → sp K [.ref a] H (fun v _ => v = .bl true) fun _ _ _ => False)
    (hCX : ∀ (w : World) (H : Hp) (s : Shared) (e : Value) (s' : Shared), CX w [] H s (fun _ _ _ => False) e s' → False) :
    PySem.W.WalkO q loose XP YP l.row.toRowW d [] (fun f vs => PySem.call f vs) := by
  refine Att.attach_call hn hdf fun w s₀ s₁ mg mb fa o pm cd doc a vs ns G Y ho hd hcd hmg hobj hints hlen hg => ?_
  obtain ⟨fd, bind, hF⟩ := F w mg fa _ (hY w _ Y) G.T.g hmg
  exact law_callG (hY w _ Y) G.T.g G.T.b G.T.builtins G.T.nolimit hg hobj hints (Nat.le_trans hlen hn2) hr hF bind (fun H only hS => hsp _ H a ns hlen only hS) fun H e s' => hCX w H s₁ e s'
/-- what a law promises -/
def spLaw (K : PySem.W.Frag) : Sp := fun vs H Q _ => ∃ (a : Addr) (ns : List Int), vs = [.ref a] ∧ SqL K H a (ns.map V.int) ∧ ns.length ≤ 63 ∧ Only H ∧ ∀ H', Q (.bl true) H'
/-- the script stays clear of the source of draws -/
theorem scr_off {K : PySem.W.Frag} {b : Deck} {n : Nat} {H H' : Hp} {a : Addr} {xs : List V} (only : Only H) (s : Same H H') (j : dJ b n H') (h : SqL K H a xs) : SqL K (off b.fs H') a xs := by
  have lst : ∀ x ∈ b.fs, ∃ ys, H' x = some (.lst ys) := fun x hx => by
    obtain ⟨pos, h1, h2, _, _, h5⟩ := j
    rcases List.mem_cons.mp hx with e | hx
    · rw [e]
      exact ⟨_, h1⟩
    · rcases List.mem_cons.mp hx with e | hx
      · rw [e]
        exact ⟨_, h2⟩
      · obtain ⟨c, f, k, e, _⟩ := h5 x hx
        exact ⟨_, e⟩
  have out : ∀ {o : HO}, H a = some o → off b.fs H' a = some o := fun {o} e => off_of (fun z => by
    obtain ⟨ys, e2⟩ := lst a z
    rcases only a with e3 | ⟨ob, zs, e3⟩
    · rw [e] at e3
      cases e3
    · rw [s _ _ e3] at e2
      cases e2) (s _ _ e)
  rcases h with (h | ⟨ob, h⟩) | h
  · exact .inl (.inl (out h))
  · exact .inl (.inr ⟨ob, out h⟩)
  · exact .inr h
end DL

set_option linter.all false
set_option maxRecDepth 100000
set_option maxHeartbeats 4000000
/-! DLF: values that are new lists; lists that hold a list that may still change -/
namespace DL
open PySem PySem.Spec L2
/-- the value is a list that was not there before -/
def EF (A : Amb) (te : TE) (ρ : List SV) (c : Nat) (R : List PyData → Prop) : Prop := ∀ F σ H n Q, St8 A F ρ σ H n → n + c ≤ LIM →
  (∀ p xs ds H', Same (off A.W.fs H) (off A.W.fs H') → A.W.J (n + c) H' → H p = none → H' p = some (.lst xs) → DA (off (p :: F.fs) H') xs ds → R ds → Q (.ref p) H') → te σ H Q
section
variable {A : Amb} {F : Fp} {ρ : List SV} {σ : L2.St} {H H1 : Hp} {n m : Nat} {te ta tb t2 : TE} {c c' c1 c2 c3 : Nat} {R R' : PyData → Prop} {Rf Rf' : List PyData → Prop} {P : Po} {t u : TS} {K : PySem.W.Frag}
theorem fresh_back (S : St8 A F ρ σ H n) (s : Same (off A.W.fs H) (off A.W.fs H1)) {p : Addr} (hp : H1 p = none) (j : A.W.J m H1) : H p = none := by
  cases e : H p with
  | none => rfl
  | some o =>
    by_cases hw : p ∈ A.W.fs
    · obtain ⟨o', e'⟩ := A.W.trk _ _ j p hw
      rw [hp] at e'
      cases e'
    · have := (off_some (s p o (off_of hw e))).2
      rw [hp] at this
      cases this
theorem off_cons {fs : List Addr} {H H' : Hp} {p : Addr} (hp : H p = none) (s : Same (off fs H) (off fs H')) : Same (off fs H) (off (p :: fs) H') := fun a o e => by
  have h1 := s a o e
  refine off_of (fun z => ?_) (off_some h1).2
  rcases List.mem_cons.mp z with z | z
  · subst z
    have := (off_some e).2
    rw [hp] at this
    cases this
  · exact (off_some e).1 z
theorem st8_grow (S : St8 A F ρ σ H n) {p : Addr} {o0 : HO} (hp : H p = none) (s : Same (off A.W.fs H) (off A.W.fs H1)) (j : A.W.J m H1) (hx : H1 p = some o0) : St8 A ⟨p :: F.fs, F.gh⟩ ρ σ H1 m := by
  have S1 := S.step s j
  have op : Same (off F.fs H) (off (p :: F.fs) H1) := off_cons hp (S.offF s)
  refine ⟨j, S1.adv, fun a ha => List.mem_cons_of_mem _ (S.sub a ha), fun a ha => ?_, fun g hg => g.mono _ _ op (S.gh g hg), S.len, fun k x e => ?_, S.nd⟩
  · rcases List.mem_cons.mp ha with z | z
    · subst z
      exact ⟨_, hx⟩
    · exact S1.trk a z
  · obtain ⟨o, h1, h2⟩ := S.slot k x e
    refine ⟨o, h1, ?_⟩
    cases x with
    | no => trivial
    | im d =>
      obtain ⟨v, e, kd⟩ := h2
      exact ⟨v, e, kd.mono op⟩
    | raw v => exact h2
    | own q ps =>
      obtain ⟨e, hq, hq0, xs, hx, kd⟩ := h2
      exact ⟨e, List.mem_cons_of_mem _ hq, hq0, xs, (off_some (s q _ (off_of (A.fresh_nw hq0) hx))).2, kd.mono op⟩
    | dct q ps =>
      obtain ⟨e, hq, hq0, xs, hx, kd⟩ := h2
      exact ⟨e, List.mem_cons_of_mem _ hq, hq0, xs, (off_some (s q _ (off_of (A.fresh_nw hq0) hx))).2, kd.mono op⟩
    | semi q ps pr =>
      obtain ⟨q', rest, e, hq', kr, hq, hq0, xs, hx, kd⟩ := h2
      exact ⟨q', rest, e, op _ _ hq', kr.mono op, List.mem_cons_of_mem _ hq, hq0, xs, (off_some (s q _ (off_of (A.fresh_nw hq0) hx))).2, kd.mono op⟩
theorem EF.imp (h : EF A te ρ c Rf) (k : ∀ ds, Rf ds → Rf' ds) : EF A te ρ c Rf' := fun F σ H n Q S l q => h F σ H n Q S l fun p xs ds H' s j a b d r => q p xs ds H' s j a b d (k ds r)
theorem EF.le (h : EF A te ρ c Rf) (hc : c ≤ c') : EF A te ρ c' Rf := fun F σ H n Q S l q => h F σ H n Q S (by omega) fun p xs ds H' s j => q p xs ds H' s (A.W.up _ _ _ (by omega) j)
/-- seen as data -/
theorem EF.ee (h : EF A te ρ c Rf) : EE A te ρ c (fun d => ∃ ds, Rf ds ∧ d = .list ds) := fun F σ H n Q S l q => h F σ H n Q S l fun p xs ds H' s j e0 e1 k r =>
  q (.ref p) (.list ds) H' s j (.lst (off_of (S.fresh e0) e1) (k.mono (off_sub fun a ha => List.mem_cons_of_mem _ ha))) ⟨ds, r, rfl⟩
theorem ss_retF (h : EF A te ρ c Rf) (k : ∀ ds, Rf ds → P.fr ds) : SS A (tRet te) ρ c P := fun D F σ H n S l _ k2 _ _ => by
  refine h F σ H n _ S l fun p xs ds H1 s j e0 e1 kd r => ?_
  exact k2.f p xs ds H1 (k ds r) (S.adv.trans s) j (S.fresh0 e0) e1 (kd.mono (off_sub fun a ha => by
    rcases List.mem_cons.mp ha with z | z
    · rw [z]; exact List.mem_cons_self
    · exact List.mem_cons_of_mem _ (S.sub a z)))
/-- a part of a list is new -/
theorem ef_sl {Ra : PyData → Prop} {tl th : TO} {RO RO' : Option Int → Prop} (h1 : EE A ta ρ c1 Ra) (h2 : EO A tl ρ c2 RO) (h3 : EO A th ρ c3 RO')
    (hr : ∀ d lo hi, Ra d → RO lo → RO' hi → ∃ ds, d = .list ds ∧ Rf (cutD ds lo hi)) : EF A (tSl (rSlB K) ta tl th) ρ (c1 + c2 + c3) Rf := fun F σ H n Q S l q => by
  refine h1 F σ H n _ S (by omega) fun v d H1 s1 j1 k1 r1 => ?_
  have S1 := S.step s1 j1
  refine h2 F σ H1 (n + c1) _ S1 (by omega) fun lo H2 s2 j2 r2 => ?_
  have S2 := S1.step s2 j2
  refine h3 F σ H2 (n + c1 + c2) _ S2 (by omega) fun hi H3 s3 j3 r3 => ?_
  have S3 := S2.step s3 j3
  have k3 := (k1.mono (S1.offF s2)).mono (S2.offF s3)
  obtain ⟨ds, e, k⟩ := hr d lo hi r1 r2 r3
  subst e
  cases k3 with
  | lst hp kk =>
    refine .inl ⟨_, _, rfl, .inl (.inl (off_some hp).2), fun p hn => ?_⟩
    exact q p _ _ _ (((s1.trans s2).trans s3).trans (S3.newS hn)) (A.W.up _ _ _ (by omega) (S3.newJ hn)) (fresh_back S ((s1.trans s2).trans s3) hn j3) upd_same ((kk.cut lo hi).mono (off_cons hn (same_off (same_new hn)))) k
theorem sq_drop (h : ER A te ρ c1 R) (k : SS A u ρ c2 P) : SS A (tSeq (tDrop te) u) ρ (c1 + c2) P := ss_seq (M := (· = ρ)) (ss_drop h rfl) fun ρ' e => by rw [e]; exact k
/-- x = [e1, e2], e1 new -/
theorem sq_semi {i : Nat} {d2 : PyData} (h1 : EF A te ρ c1 Rf) (h2 : EE A t2 ρ c2 (· = d2)) (k : ∀ p ds, Rf ds → SS A u (ρ.set i (.semi p ds [d2])) c3 P) : SS A (tSeq (tAsg (tLst (tCons te (tCons t2 tNil))) (gName i)) u) ρ (c1 + c2 + c3) P := fun D F σ H n S l k1 k2 k3 k4 => by
  refine h1 F σ H n _ S (by omega) fun p xs ds H1 s1 j1 e0 e1 kd r => ?_
  have S1 := st8_grow S e0 s1 j1 e1
  refine h2 _ σ H1 (n + c1) _ S1 (by omega) fun v d H2 s2 j2 kv r2 => ?_
  have S2 := S1.step s2 j2
  subst r2
  refine ⟨by show 2 ≤ sizeLine; decide, fun q hq => ?_⟩
  have e2 : H2 p = some (.lst xs) := (off_some (s2 p _ (off_of (A.fresh_nw (S.fresh0 e0)) e1))).2
  have S3 := S2.new (o := .lst [.ref p, v]) hq
  have nq : q ≠ p := fun z => by
    rw [z, e2] at hq
    cases hq
  have oq : Same (off (p :: F.fs) H2) (off (p :: F.fs) (upd H2 q (.lst [.ref p, v]))) := same_off (same_new hq)
  have e : n + (c1 + c2 + c3) = n + c1 + c2 + c3 := by omega
  rw [e] at k1 k2 k3 k4
  refine k p ds r D ⟨p :: F.fs, F.gh⟩ _ _ (n + c1 + c2) ⟨S3.j, S3.adv, S3.sub, S3.trk, S3.gh, by rw [List.length_set, List.length_set, S3.len], fun b x eb => ?_, fun a b x y r1 r2 ha hb hx hy ne => ?_⟩ (by omega) k1 k2 k3 k4
  · by_cases hk : i = b
    · subst hk
      by_cases hi : i < ρ.length
      · rw [List.getElem?_set_self hi] at eb
        cases eb
        refine ⟨some (.ref q), List.getElem?_set_self (by rw [S.len]; exact hi), q, [v], rfl, off_of (S2.fresh hq) upd_same, .cons (kv.mono oq) .nil, List.mem_cons_self, S.fresh0 e0, xs, ?_, (kd.mono (S1.offF s2)).mono oq⟩
        rw [upd_ne fun z => nq z.symm]
        exact e2
      · rw [List.getElem?_eq_none (by rw [List.length_set]; omega)] at eb
        cases eb
    · rw [List.getElem?_set_ne hk] at eb
      rw [List.getElem?_set_ne hk]
      exact S3.slot b x eb
  · have key : ∀ {b : Nat} {x : SV} {r : Addr}, (ρ.set i (.semi p ds [d]))[b]? = some x → x.adr = some r → (b = i ∧ r = p) ∨ (b ≠ i ∧ ρ[b]? = some x) := fun {b x r} e hx => by
      by_cases hk : i = b
      · subst hk
        by_cases hi : i < ρ.length
        · rw [List.getElem?_set_self hi] at e
          cases e
          cases hx
          exact .inl ⟨rfl, rfl⟩
        · rw [List.getElem?_eq_none (by rw [List.length_set]; omega)] at e
          cases e
      · rw [List.getElem?_set_ne hk] at e
        exact .inr ⟨fun z => hk z.symm, e⟩
    have nF := S.fresh e0
    have inF : ∀ {b : Nat} {x : SV} {r : Addr}, ρ[b]? = some x → x.adr = some r → r ∈ F.fs := fun {b x r} e hx => by
      obtain ⟨o, _, h2⟩ := S.slot b _ e
      cases x with
      | own q fs => cases hx; exact h2.2.1
      | dct q fs => cases hx; exact h2.2.1
      | semi q fs gs =>
        cases hx
        obtain ⟨_, _, _, _, _, h3, _⟩ := h2
        exact h3
      | _ => cases hx
    rcases key ha hx with ⟨a1, a2⟩ | ⟨a1, a2⟩ <;> rcases key hb hy with ⟨b1, b2⟩ | ⟨b1, b2⟩
    · exact absurd (a1.trans b1.symm) ne
    · intro z
      exact nF (by rw [← a2, z]; exact inF b2 hy)
    · intro z
      exact nF (by rw [← b2, ← z]; exact inF a2 hx)
    · exact S.nd a b x y r1 r2 a2 b2 hx hy ne
theorem er_semi {i : Nat} {p : Addr} {ds dr : List PyData} (h : ρ[i]? = some (.semi p ds dr)) : ER A (tVar i) ρ 0 (· = .list (.list ds :: dr)) := fun F σ H n Q S _ q => by
  obtain ⟨a, e, k⟩ := semi_data S h
  exact ⟨.ref a, e, q _ _ H (Same.refl _) S.j k rfl⟩
theorem st8_semi {i : Nat} {p : Addr} {ds dr : List PyData} (S : St8 A F ρ σ H n) (hi : ρ[i]? = some (.semi p ds dr)) (xs : List V) : St8 A F (ρ.set i .no) σ (upd H p (.lst xs)) n := by
  obtain ⟨o0, h1, _, _, _, _, _, hpF, hp0, ys, hy, ky⟩ := S.slot i _ hi
  have offp : Same (off F.fs H) (off F.fs (upd H p (.lst xs))) := off_upd hpF
  have nw := A.fresh_nw hp0
  have adv : Same (off A.W.fs A.H0) (off A.W.fs (upd H p (.lst xs))) := fun a o e => by
    refine off_of (off_some e).1 ?_
    rw [upd_ne fun z => by rw [z] at e; have := (off_some e).2; rw [hp0] at this; cases this]
    exact (off_some (S.adv a o e)).2
  refine ⟨A.W.stay _ _ _ S.j fun a ha o e => by rw [upd_ne (noC_elim nw (noC_lst hy) ha)]; exact e, adv, S.sub, fun a ha => ?_, fun g hg => g.mono _ _ offp (S.gh g hg), by rw [List.length_set]; exact S.len, fun k x e => ?_, fun a b x y q r ha hb hx' hy' ne => S.nd a b x y q r (adr_set rfl ha hx') (adr_set rfl hb hy') hx' hy' ne⟩
  · by_cases e : a = p
    · exact ⟨_, by rw [e]; exact upd_same⟩
    · rw [upd_ne e]
      exact S.trk a ha
  · by_cases hk : i = k
    · subst hk
      have hl : i < ρ.length := (List.getElem?_eq_some_iff.mp hi).1
      rw [List.getElem?_set_self hl] at e
      cases e
      exact ⟨o0, h1, trivial⟩
    · rw [List.getElem?_set_ne hk] at e
      obtain ⟨o, h3, h4⟩ := S.slot k x e
      refine ⟨o, h3, ?_⟩
      cases x with
      | no => trivial
      | im d =>
        obtain ⟨v, e, kd⟩ := h4
        exact ⟨v, e, kd.mono offp⟩
      | raw v => exact h4
      | own q ps =>
        obtain ⟨e', hq, hq0, zs, hz, kd⟩ := h4
        have ne : q ≠ p := S.nd k i _ _ q p e hi rfl rfl (fun z => hk z.symm)
        exact ⟨e', hq, hq0, zs, by rw [upd_ne ne]; exact hz, kd.mono offp⟩
      | dct q ps =>
        obtain ⟨e', hq, hq0, zs, hz, kd⟩ := h4
        have ne : q ≠ p := S.nd k i _ _ q p e hi rfl rfl (fun z => hk z.symm)
        exact ⟨e', hq, hq0, zs, by rw [upd_ne ne]; exact hz, kd.mono offp⟩
      | semi q ps pr =>
        obtain ⟨q', rest, e', hq', kr, hq, hq0, zs, hz, kd⟩ := h4
        have ne : q ≠ p := S.nd k i _ _ q p e hi rfl rfl (fun z => hk z.symm)
        exact ⟨q', rest, e', offp _ _ hq', kr.mono offp, hq, hq0, zs, by rw [upd_ne ne]; exact hz, kd.mono offp⟩
/-- x[0].append(e): the list is changed, x is looked at no more -/
theorem sq_semiapp {i : Nat} {p : Addr} {ds dr : List PyData} (hi : ρ[i]? = some (.semi p ds dr)) (hl : ds.length < sizeLine) (h : EE A te ρ c1 R) (k : SS A u (ρ.set i .no) c2 P) :
    SS A (tSeq (tDrop (tBM K "list" rAppend (tOp (rIx K) (tVar i) (tC (.int 0))) (tCons te tNil))) u) ρ (c1 + c2) P := ss_seq (M := (· = ρ.set i .no)) (fun D F σ H n S l k1 _ _ _ => by
  obtain ⟨o0, h1, q0, rest, h2, hq, kr, hpF, hp0, ys, hy, ky⟩ := S.slot i _ hi
  subst h2
  refine ⟨.ref q0, h1, .inl ⟨q0, _, 0, .ref p, rfl, rfl, .inl (.inl (off_some hq).2), by show atI _ ((0 : Nat) : Int) = _; exact atI_nat rfl, .inl ⟨rfl, ys, .inl (.inl hy)⟩, ?_⟩⟩
  refine h F σ H n _ S l fun v d H1 s j kd r => ?_
  have S1 := S.step s j
  have hy1 : H1 p = some (.lst ys) := (off_some (s p _ (off_of (A.fresh_nw hp0) hy))).2
  refine ⟨p, ys, v, rfl, rfl, hy1, by rw [ky.length]; exact hl, ?_⟩
  exact k1 _ F σ _ rfl (fun _ hg => hg) (st8_semi S1 hi _)) fun ρ' e => by rw [e]; exact k
end
/-- a def that gives a new list and changes nothing -/
def SPf (pre : List PyData → Prop) (post : List PyData → List PyData → Prop) : Sp := fun vs H Q _ => ∃ (fs : List Addr) (ds : List PyData), (∀ a ∈ fs, ∃ o, H a = some o) ∧ DA (off fs H) vs ds ∧ pre ds ∧
  ∀ p xs es H', Same H H' → H p = none → H' p = some (.lst xs) → DA (off (p :: fs) H') xs es → post ds es → Q (.ref p) H'
theorem SPf.len {pre : List PyData → Prop} {post : List PyData → List PyData → Prop} {m : Nat} (hm : ∀ ds, pre ds → ds.length = m) {vs : List V} {H : Hp} {Q : VK} {E : XK} (h : SPf pre post vs H Q E) : vs.length = m := by
  obtain ⟨fs, ds, _, kd, hp, _⟩ := h
  rw [kd.length, hm ds hp]
section
variable {A : Amb} {ρ : List SV} {tl : TA} {c : Nat} {ds0 : List PyData} {pre : List PyData → Prop} {post : List PyData → List PyData → Prop} {E : XK}
theorem ef_call (h : EA A tl ρ c (· = ds0)) (hp : pre ds0) : EF A (tCall (SPf pre post) [] E tl) ρ c (post ds0) := fun F σ H n Q S l q => by
  refine h F σ H n _ S l fun vs ds H1 s j k r => ?_
  subst r
  have S1 := S.step s j
  refine ⟨F.fs, ds, S1.trk, by rw [List.append_nil]; exact k, hp, fun p xs es H2 s2 e0 e1 k2 p2 => ?_⟩
  exact q p xs es H2 (s.trans (same_off s2)) (A.W.stay _ _ _ j fun a _ o e => s2 a o e) (fresh_back S s e0 j) e1 k2 p2
theorem ef_call0K {gV : List V → List V → List V} {pd : List PyData → List PyData} (h : EA A tl ρ c (· = ds0)) (hg : ∀ H vs, DA H vs ds0 → DA H (gV [] vs) (pd ds0)) (hp : pre (pd ds0)) : EF A (tCall0K (SPf pre post) gV E tl) ρ c (post (pd ds0)) := fun F σ H n Q S l q => by
  refine h F σ H n _ S l fun vs ds H1 s j k r => ?_
  subst r
  have S1 := S.step s j
  refine ⟨F.fs, pd ds, S1.trk, hg _ _ k, hp, fun p xs es H2 s2 e0 e1 k2 p2 => ?_⟩
  exact q p xs es H2 (s.trans (same_off s2)) (A.W.stay _ _ _ j fun a _ o e => s2 a o e) (fresh_back S s e0 j) e1 k2 p2
/-- its result as known data -/
theorem ef_eq {te : TE} {Rf : List PyData → Prop} {es : List PyData} (h : EF A te ρ c Rf) (hf : ∀ ds, Rf ds → ds = es) : EE A te ρ c (· = .list es) := h.ee.imp fun d ⟨ds, r, e⟩ => by rw [e, hf ds r]
end
section
variable {P : Program} {w : World} {K : PySem.W.Frag} {mg : Str → Option Value} {base : Heap}
theorem okf {x qual : Str} {st : Stmt} {f : Addr} {fd : FuncData} {N ps : List Str} {k m j c : Nat} {pre : List PyData → Prop} {post : List PyData → List PyData → Prop} (F : Fun K x qual st f fd) (S : FnScope N ps (defScope st)) (hm : ∀ ds, pre ds → ds.length = m) (hc : c ≤ LIM)
    (hps : ps.length = m := by rfl) (hN : N.length - m = j := by rfl)
    (body : ∀ (cdv : Value) (A : Around) (outer : List Env) (s : Shared) (H : Hp) (E : XK), Room k (A.deeper (PyProof.Rows.envOfC qual (defScope st) s.heap.objs.size f cdv)) →
      ∃ t, PSs (cxOf CX0 P w K mg base N qual (defScope st) f cdv A outer s H E).nox (defBody st) t ∧
        ∀ (A : Amb) (ds : List PyData), A.W = W0 → pre ds → SS A t (ds.map .im ++ List.replicate j .no) c { nx := fun _ => False, rt := fun _ => False, fr := post ds }) :
    FnOk P w K mg base CX0 (k + 1) f fd ps (SPf pre post) := by
  refine F.ok S (fun vs H Q E h => (SPf.len hm h).trans hps.symm) fun cdv A outer s H vs Q E hr h => ?_
  obtain ⟨t, h1, h2⟩ := body cdv A outer s H E hr
  refine ⟨t, h1, ?_⟩
  obtain ⟨fs, ds, trk, kd, hp, q⟩ := h
  let A : Amb := ⟨W0, fs, H, fun a ha => absurd ha List.not_mem_nil, trk⟩
  have hl : vs.length = m := by rw [kd.length]; exact hm ds hp
  have S : St8 A ⟨fs, []⟩ (ds.map .im ++ List.replicate (N.length - vs.length) .no) (L2.start N vs) H 0 := st8_start (A := A) rfl trivial (fun i s e => by
    rw [List.getElem?_map] at e
    cases e2 : ds[i]? with
    | none => rw [e2] at e; cases e
    | some d =>
      rw [e2] at e
      cases e
      obtain ⟨v, hv, k⟩ := kd.at e2
      exact ⟨v, hv, .inl ⟨d, rfl, k⟩⟩) (by rw [List.length_map, kd.length])
  have hk : N.length - vs.length = j := by rw [hl]; exact hN
  rw [hk] at S
  have s0 : ∀ {H' : Hp}, Same (off A.W.fs A.H0) (off A.W.fs H') → Same H H' := fun {H'} s a o e => (off_some (s a o (off_of List.not_mem_nil e))).2
  refine h2 A ds rfl hp _ ⟨fs, []⟩ _ H 0 S (by omega) ?_ ?_ ?_ ?_
  · intro ρ' F' σ' H' a
    exact False.elim a
  · exact ⟨fun _ _ _ z => z.elim, fun p xs es H' r s _ e0 e1 kd' => q p xs es H' (s0 s) e0 e1 kd' r⟩
  · intro ρ' F' σ' H' a
    exact False.elim a
  · intro ρ' F' σ' H' a
    exact False.elim a
end
/-! ### repr -/
theorem cld_repr {ds : List PyData} (hp : (PyData.list ds).plain = true) (hs : (PyData.list ds).showable = true) (hd : (PyData.list ds).depth ≤ 60) (hl : (PyData.list ds).shown.length ≤ sizeLine) : Cld rRepr [.list ds] (· = .str (PyData.list ds).shown) := fun H vs Q k q => by
  cases k with
  | cons h t =>
    cases t
    exact ⟨_, _, rfl, h, hp, hs, hd, hl, by cases h; exact ⟨_, rfl⟩, q _ _ (fun G => .str _) rfl⟩
end DL
namespace DL
open PySem PySem.Spec L2
/-- a dictionary -/
def DictOk (xs : List Str) : Prop := xs.length < 4000 ∧ xs.Nodup ∧ ∀ x ∈ xs, x.length ≤ 1000000 ∧ wordS x = true
end DL

set_option linter.all false
set_option maxRecDepth 100000
set_option maxHeartbeats 4000000
/-! DLR: lists of texts: plain, shown, compared -/
namespace DL
open PySem PySem.Spec L2
theorem plain_strs : ∀ xs : List Str, PyData.plainAll (xs.map .str) = true
  | [] => rfl
  | x :: xs => by
    rw [List.map_cons, PyData.plainAll, plain_strs xs]
    rfl
theorem depth_strs : ∀ xs : List Str, PyData.depthAll (xs.map .str) = 0
  | [] => rfl
  | x :: xs => by
    rw [List.map_cons, PyData.depthAll, depth_strs xs]
    rfl
theorem wide_strs : ∀ xs : List Str, wideAll (xs.map .str) = true
  | [] => rfl
  | x :: xs => by
    rw [List.map_cons, wideAll, wide_strs xs]
    rfl
theorem sameOk_strs {xs : List Str} (h : xs.length ≤ 1000000) {m : Nat} (hm : 1 < m) : SameOk m (strsD xs) := by
  refine ⟨?_, ?_, ?_⟩
  · unfold strsD
    rw [PyData.plain]
    exact plain_strs xs
  · unfold strsD
    rw [PyData.depth, depth_strs]
    omega
  · unfold strsD
    rw [wideD, List.length_map, decide_eq_true h, wide_strs]
    rfl
theorem sameOk_list {ds : List PyData} {m : Nat} (h : ds.length ≤ 1000000) (hd : ∀ d ∈ ds, SameOk m d) (hm : 0 < m) : SameOk (m + 1) (.list ds) := by
  have key : ∀ ds : List PyData, (∀ d ∈ ds, SameOk m d) → PyData.plainAll ds = true ∧ PyData.depthAll ds < m ∧ wideAll ds = true := fun ds => by
    induction ds with
    | nil => intro _; exact ⟨rfl, hm, rfl⟩
    | cons d ds ih =>
      intro hd
      obtain ⟨a, b, c⟩ := ih fun x hx => hd x (List.mem_cons_of_mem _ hx)
      obtain ⟨a1, b1, c1⟩ := hd d List.mem_cons_self
      rw [PyData.plainAll, PyData.depthAll, wideAll, a, a1, c, c1]
      exact ⟨rfl, by omega, rfl⟩
  obtain ⟨a, b, c⟩ := key ds hd
  refine ⟨?_, ?_, ?_⟩
  · rw [PyData.plain]
    exact a
  · rw [PyData.depth]
    omega
  · rw [wideD, decide_eq_true h, c]
    rfl
theorem shown_strs {xs : List Str} (hl : xs.length < 4000) (hx : ∀ x ∈ xs, begS x = true ∧ x.length ≤ 60) : (strsD xs).shown.length ≤ sizeLine := by
  unfold strsD
  rw [PyData.shown_list, PyData.shownAll_strs, Str.length_append, Str.length_append]
  have h1 := StrLaws.join_length_le ", " (xs.map reprText)
  have h2 : ∀ ys : List Str, (∀ x ∈ ys, begS x = true ∧ x.length ≤ 60) → ((ys.map reprText).map (·.length)).sum ≤ ys.length * 602 := fun ys => by
    induction ys with
    | nil => intro _; exact Nat.zero_le _
    | cons y ys ih =>
      intro h
      have i1 := ih fun x hx => h x (List.mem_cons_of_mem _ hx)
      obtain ⟨b, l⟩ := h y List.mem_cons_self
      have i2 := StrLaws.reprText_len y fun c hc => by
        have := List.all_eq_true.mp b c hc
        unfold ltrN at this
        rw [Bool.and_eq_true, decide_eq_true_eq, decide_eq_true_eq] at this
        omega
      rw [List.map_cons, List.map_cons, List.sum_cons, List.length_cons, Nat.succ_mul]
      omega
  have h3 := h2 xs hx
  rw [List.length_map] at h1
  have e1 : (Str.length ", ") = 2 := rfl
  have e2 : (Str.length "[") = 1 := rfl
  have e3 : (Str.length "]") = 1 := rfl
  rw [e1] at h1
  have e := sizeLine_eq
  show 1 + _ + 1 ≤ _
  omega
theorem showable_strs (xs : List Str) : (strsD xs).showable = true := by
  unfold strsD
  rw [PyData.showable]
  exact PyData.showableAll_strs xs
theorem filter_le {xs : List Str} {p : Str → Bool} {l : Nat} : ((xs.filter p).take l).length ≤ xs.length := by
  rw [List.length_take]
  have := List.length_filter_le p xs
  omega
theorem pre_empty (xs : List Str) : xs.filter (preS Str.empty) = xs := List.filter_eq_self.mpr fun x _ => by
  unfold preS
  exact decide_eq_true rfl
theorem cld_reprS {xs : List Str} (hl : xs.length < 4000) (hx : ∀ x ∈ xs, begS x = true ∧ x.length ≤ 60) : Cld rRepr [strsD xs] (· = .str (strsD xs).shown) :=
  cld_repr (sameOk_strs (m := 2) (by omega) (by decide)).1 (showable_strs xs) (by have := (sameOk_strs (xs := xs) (m := 2) (by omega) (by decide)).2.1; show (strsD xs).depth ≤ 60; omega) (shown_strs hl hx)
/-- a word's letters -/
theorem wordOf_word {L x : Str} {m : Int} (hL : begS L = true) (h : WordOf L m x) : wordS x = true := by
  obtain ⟨h1, h2, h3⟩ := h
  have hb : begS x = true := List.all_eq_true.mpr fun c hc => List.all_eq_true.mp hL c (h3 c hc)
  have hn : decide (x = Str.empty) = false := decide_eq_false fun e => by rw [e] at h1; exact absurd h1 (by decide)
  unfold wordS
  rw [hb, hn]
  rfl
theorem wordS_beg {x : Str} (h : wordS x = true) : begS x = true := by
  unfold wordS at h
  rw [Bool.and_eq_true] at h
  exact h.1
end DL

set_option linter.all false
set_option maxRecDepth 100000
set_option maxHeartbeats 4000000
/-! DLS: texts repeated; parts of lists; screens as data -/
namespace DL
open PySem PySem.Spec L2
def repS (z : Str) (k : Nat) : Str := ⟨(List.replicate k z.cps).foldl (· ++ ·) #[]⟩
def rMulS : L2.R2 := fun x y H Q => ∃ (z : Str) (k : Nat), x = .str z ∧ y = .int (k : Nat) ∧ 1 ≤ k ∧ k ≤ 1000 ∧ 1 ≤ z.length ∧ z.length ≤ 1000 ∧ Q (.str (repS z k)) H
theorem rep_list (z : Str) (k : Nat) : (repS z k).cps.toList = (List.replicate k z.cps.toList).flatten := by
  have key : ∀ (k : Nat) (acc : Array Nat), ((List.replicate k z.cps).foldl (· ++ ·) acc).toList = acc.toList ++ (List.replicate k z.cps.toList).flatten := fun k => by
    induction k with
    | zero => intro acc; simp
    | succ k ih =>
      intro acc
      rw [List.replicate_succ, List.replicate_succ, List.foldl_cons, ih, List.flatten_cons, Array.toList_append, List.append_assoc]
  show ((List.replicate k z.cps).foldl (· ++ ·) #[]).toList = _
  rw [key]
  rfl
theorem rep_len (z : Str) (k : Nat) : (repS z k).length = k * z.length := by
  have e1 : (repS z k).length = (repS z k).cps.toList.length := by rw [Array.length_toList]; rfl
  have e2 : z.length = z.cps.toList.length := by rw [Array.length_toList]; rfl
  rw [e1, rep_list, List.length_flatten, List.map_replicate, List.sum_replicate_nat, e2]
theorem rep_beg {z : Str} {k : Nat} (h : begS z = true) : begS (repS z k) = true := by
  unfold begS at h ⊢
  rw [rep_list, List.all_eq_true]
  intro c hc
  rw [List.mem_flatten] at hc
  obtain ⟨l, hl, hc⟩ := hc
  rw [(List.mem_replicate.mp hl).2] at hc
  exact List.all_eq_true.mp h c hc
section
variable {X : Cx}
theorem op_mulS : OpR X (binaryOp .Mult) rMulS := by
  intro pins s σ H x y v u Q I rx ry h
  obtain ⟨z, k, rfl, rfl, k1, k2, z1, z2, q⟩ := h
  obtain ⟨t, rfl⟩ := rx
  obtain ⟨t', rfl⟩ := ry
  have hk : ¬ ((k : Nat) : Int) < 1 := by omega
  refine PySem.P.mul_str ?_ (fun _ _ => ?_) (fun _ _ => ?_) ?_
  · have h1 : ¬ ((k : Nat) : Int) < -(2 ^ 63 : Int) := by omega
    have h2 : ¬ ((k : Nat) : Int) ≥ 2 ^ 63 := by omega
    rw [decide_eq_false h1, decide_eq_false h2]
    rfl
  · have h3 : (1000 : Int) ≤ (2 ^ 63 - 1) / (k : Int) := by
      rw [Int.le_ediv_iff_mul_le (by omega)]
      omega
    omega
  · rw [Int.toNat_natCast]
    have h4 : z.length * k ≤ 1000 * 1000 := Nat.mul_le_mul z2 k2
    have e := sizeLine_eq
    show decide (z.length * k > sizeLine) = false
    exact decide_eq_false (by omega)
  · rw [if_neg hk, Int.toNat_natCast]
    have hz : (z.length == 0) = false := by
      rw [beq_eq_false_iff_ne]
      omega
    by_cases hk1 : k = 1
    · subst hk1
      have e : repS z 1 = z := by
        unfold repS
        show (⟨#[] ++ z.cps⟩ : Str) = z
        rw [Array.empty_append]
      rw [e] at q
      exact ⟨.str z, H, I, ⟨t, rfl⟩, q⟩
    · have h5 : (((k : Nat) : Int) == 1) = false := by
        rw [beq_eq_false_iff_ne]
        omega
      rw [h5, hz]
      show (Made.str (repS z k)).post _ _
      refine ⟨?_, ⟨.str (repS z k), H, I.tok _, ⟨_, rfl⟩, q⟩⟩
      rw [rep_len]
      have h4 : k * z.length ≤ 1000 * 1000 := Nat.mul_le_mul k2 z2
      have e := sizeLine_eq
      omega
end
section
variable {A : Amb} {ρ : List SV} {te ta tb tc : TE} {c c1 c2 c3 : Nat} {K : PySem.W.Frag} {R Ra Rb : PyData → Prop} {tl : TA}
theorem od_mulS {z : Str} {k : Nat} (h : 1 ≤ k ∧ k ≤ 1000 ∧ 1 ≤ z.length ∧ z.length ≤ 1000) : Opd rMulS (.str z) (.int (k : Nat)) (· = .str (repS z k)) := fun H x y Q h1 h2 q => by
  cases h1
  cases h2
  exact ⟨z, k, rfl, rfl, h.1, h.2.1, h.2.2.1, h.2.2.2, q _ _ (fun G => .str _) rfl⟩
/-! ### parts of lists -/
theorem ee_tk {α : Type} {f : α → PyData} {xs : List α} {k : Nat} (h : EE A ta ρ c1 (· = .list (xs.map f))) (h2 : ER A tb ρ c2 (· = .int (k : Nat))) : EE A (tSl (rSlB K) ta tNoPart (tPart tb)) ρ (c1 + 0 + c2) (· = .list ((xs.take k).map f)) :=
  ee_slR h eo_none (eo_some h2) fun d lo hi e1 e2 e3 => .inl ⟨_, e1, by rw [e2, e3, cut_take, List.map_take]⟩
theorem ee_dr {α : Type} {f : α → PyData} {xs : List α} {k : Nat} (h : EE A ta ρ c1 (· = .list (xs.map f))) (h2 : ER A tb ρ c2 (· = .int (k : Nat))) : EE A (tSl (rSlB K) ta (tPart tb) tNoPart) ρ (c1 + c2 + 0) (· = .list ((xs.drop k).map f)) :=
  ee_slR h (eo_some h2) eo_none fun d lo hi e1 e2 e3 => .inl ⟨_, e1, by rw [e2, e3, cut_drop, List.map_drop]⟩
theorem ee_md {α : Type} {f : α → PyData} {xs : List α} {k m : Nat} (h : EE A ta ρ c1 (· = .list (xs.map f))) (h2 : ER A tb ρ c2 (· = .int (k : Nat))) (h3 : ER A tc ρ c3 (· = .int (m : Nat))) : EE A (tSl (rSlB K) ta (tPart tb) (tPart tc)) ρ (c1 + c2 + c3) (· = .list (((xs.drop k).take (m - k)).map f)) :=
  ee_slR h (eo_some h2) (eo_some h3) fun d lo hi e1 e2 e3 => .inl ⟨_, e1, by rw [e2, e3, cut_mid, List.map_take, List.map_drop]⟩
theorem ee_rv {α : Type} {f : α → PyData} {xs : List α} (h : EE A ta ρ c (· = .list (xs.map f))) : EE A (tRevL K ta) ρ c (· = .list (xs.reverse.map f)) := (ee_rev h).imp fun d e => by rw [e, List.map_reverse]
theorem ee_ct {α : Type} {f : α → PyData} {xs ys : List α} (h1 : EE A ta ρ c1 (· = .list (xs.map f))) (h2 : EE A tb ρ c2 (· = .list (ys.map f))) (hl : xs.length + ys.length ≤ sizeLine) : EE A (tOp rAddA ta tb) ρ (c1 + c2) (· = .list ((xs ++ ys).map f)) :=
  (ee_addL h1 h2 (by rw [List.length_map, List.length_map]; exact hl)).imp fun d e => by rw [e, List.map_append]
theorem ee_l1 {α : Type} {f : α → PyData} {x : α} (h : EE A te ρ c (· = f x)) : EE A (tLst (tCons te tNil)) ρ (c + 0) (· = .list ([x].map f)) := ee_lst (ea_cons h ea_nil) (by show 1 ≤ sizeLine; decide)
/-- i + k -/
theorem ee_pl {i k : Nat} (h1 : ER A ta ρ c1 (· = .int (i : Nat))) (h2 : ER A tb ρ c2 (· = .int (k : Nat))) : EE A (tOp rAddA ta tb) ρ (c1 + c2) (· = .int ((i + k : Nat) : Int)) := (ee_op h1 h2 od_addI).imp fun d e => by rw [e]; exact congrArg PyData.int (Int.natCast_add i k).symm
/-- a drawn item of what was made of drawn items -/
theorem ee_ixA {n : Nat} (h1 : EE A ta ρ c1 (fun d => ∃ ds, AllD n R ds ∧ d = .list ds)) (h2 : ER A tb ρ c2 (IntIn 0 (n : Nat))) : EE A (tOp (rIx K) ta tb) ρ (c1 + c2) R :=
  ee_ixR h1 h2 fun d1 d2 ⟨ds, ⟨hn, hd⟩, e1⟩ ⟨r, e2, h3, h4⟩ => by
    have hlt : r.toNat < ds.length := by omega
    have e : r = ((r.toNat : Nat) : Int) := by omega
    exact ⟨ds, r, ds[r.toNat], .inl e1, e2, by rw [show atI ds r = atI ds ((r.toNat : Nat) : Int) from congrArg (atI ds) e]; exact atI_nat (List.getElem?_eq_getElem hlt), hd _ (List.getElem_mem hlt)⟩
theorem ee_lstA {n : Nat} (h : EA A tl ρ c (AllD n R)) (hn : n ≤ 1000) : EE A (tLst tl) ρ c (fun d => ∃ ds, AllD n R ds ∧ d = .list ds) := ee_lstR h fun ds h => by rw [h.1]; have := sizeLine_eq; omega
end
/-! ### words kept through changes -/
theorem swap_perm {α : Type} (xs : List α) (k : Nat) : (xs.take k ++ ((xs.drop k).take 2).reverse ++ xs.drop (k + 2)).Perm xs := by
  have e : xs.take k ++ (xs.drop k).take 2 ++ xs.drop (k + 2) = xs := by
    rw [← List.drop_drop, List.append_assoc, List.take_append_drop, List.take_append_drop]
  refine List.Perm.trans ?_ (List.Perm.of_eq e)
  exact List.Perm.append_right _ (List.Perm.append_left _ (List.reverse_perm _))
theorem cut_sub {α : Type} (xs : List α) (k : Nat) : (xs.take k ++ xs.drop (k + 1)).Sublist xs := by
  rw [← List.eraseIdx_eq_take_drop_succ]
  exact List.eraseIdx_sublist xs k
theorem ins_perm {α : Type} (xs : List α) (k : Nat) (ys : List α) : (xs.take k ++ ys ++ xs.drop k).Perm (ys ++ xs) := by
  refine (List.Perm.append_right _ List.perm_append_comm).trans ?_
  rw [List.append_assoc, List.take_append_drop]
/-- different words that fulfil q -/
def Wds (q : Str → Prop) (xs : List Str) : Prop := xs.Nodup ∧ ∀ x ∈ xs, q x
theorem Wds.perm {q : Str → Prop} {xs ys : List Str} (h : Wds q xs) (p : ys.Perm xs) : Wds q ys := ⟨p.nodup_iff.mpr h.1, fun x hx => h.2 x (p.mem_iff.mp hx)⟩
theorem Wds.sub {q : Str → Prop} {xs ys : List Str} (h : Wds q xs) (s : ys.Sublist xs) : Wds q ys := ⟨h.1.sublist s, fun x hx => h.2 x (s.subset hx)⟩
theorem Wds.cons {q : Str → Prop} {xs : List Str} {x : Str} (h : Wds q xs) (hx : q x) (hn : x ∉ xs) : Wds q (x :: xs) := ⟨List.nodup_cons.mpr ⟨hn, h.1⟩, fun y hy => by
  rcases List.mem_cons.mp hy with e | e
  · rw [e]; exact hx
  · exact h.2 y e⟩
/-! ### screens -/
structure Scr where
  b : Str
  l : Nat
  ys : List Str
def scrD (s : Scr) : PyData := .tuple [.str s.b, .int (s.l : Nat), strsD s.ys]
/-- a word of the length that laws use -/
def WL (x : Str) : Prop := wordS x = true ∧ x.length ≤ 100
structure ScrOk (s : Scr) : Prop where
  b : begS s.b = true
  bl : s.b.length ≤ 90
  l1 : 1 ≤ s.l
  l2 : s.l ≤ 20
  n : s.ys.length ≤ s.l
  w : Wds (fun x => WL x ∧ preS s.b x = true) s.ys
/-- what is shown of a dictionary -/
def shows (xs : List Str) (s : Scr) : Bool := decide ((xs.filter (preS s.b)).take s.l = s.ys)
theorem dictOk_of {q : Str → Prop} {xs : List Str} (h : Wds q xs) (hq : ∀ x, q x → WL x) (hl : xs.length < 4000) : DictOk xs := ⟨hl, h.1, fun x hx => ⟨by have := (hq x (h.2 x hx)).2; omega, (hq x (h.2 x hx)).1⟩⟩
theorem eqv_strs (xs ys : List Str) : PyData.eqv (strsD xs) (strsD ys) = decide (xs = ys) := by
  unfold strsD
  rw [PyData.eqv]
  have key : ∀ xs ys : List Str, PyData.eqvAll (xs.map .str) (ys.map .str) = decide (xs = ys) := fun xs => by
    induction xs with
    | nil =>
      intro ys
      cases ys with
      | nil => rfl
      | cons y ys =>
        rfl
    | cons x xs ih =>
      intro ys
      cases ys with
      | nil =>
        rfl
      | cons y ys =>
        rw [List.map_cons, List.map_cons, PyData.eqvAll, ih]
        have e : PyData.eqv (.str x) (.str y) = decide (x = y) := by
          simp only [PyData.eqv]
          by_cases h : x = y
          · rw [h]; simp
          · rw [decide_eq_false h]; simpa using h
        rw [e, ← Bool.decide_and]
        exact decide_eq_decide.mpr (by rw [List.cons_eq_cons])
  exact key xs ys
/-! ### how long a repr is -/
theorem shown_le {m : Nat} {ds : List PyData} (h : ∀ d ∈ ds, d.shown.length ≤ m) : (PyData.list ds).shown.length ≤ ds.length * (m + 2) + 2 := by
  rw [PyData.shown_list, Str.length_append, Str.length_append]
  have h1 := StrLaws.join_length_le ", " (PyData.shownAll ds)
  have h2 : ∀ ds : List PyData, (∀ d ∈ ds, d.shown.length ≤ m) → ((PyData.shownAll ds).map (·.length)).sum ≤ ds.length * m := fun ds => by
    induction ds with
    | nil => intro _; exact Nat.zero_le _
    | cons d ds ih =>
      intro h
      have i1 := ih fun x hx => h x (List.mem_cons_of_mem _ hx)
      have i2 := h d List.mem_cons_self
      rw [PyData.shownAll_cons, List.map_cons, List.sum_cons, List.length_cons, Nat.succ_mul]
      omega
  have h3 := h2 ds h
  rw [PyData.shownAll_length] at h1
  have e1 : (Str.length ", ") = 2 := rfl
  rw [e1] at h1
  have e2 : (Str.length "[") = 1 := rfl
  have e3 : (Str.length "]") = 1 := rfl
  rw [Nat.mul_add]
  show 1 + _ + 1 ≤ _
  omega
theorem shownT_le {m : Nat} {ds : List PyData} (h : ∀ d ∈ ds, d.shown.length ≤ m) : (PyData.tuple ds).shown.length ≤ ds.length * (m + 2) + 3 := by
  rw [PyData.shown_tuple, Str.length_append, Str.length_append]
  have h1 := StrLaws.join_length_le ", " (PyData.shownAll ds)
  have h2 : ∀ ds : List PyData, (∀ d ∈ ds, d.shown.length ≤ m) → ((PyData.shownAll ds).map (·.length)).sum ≤ ds.length * m := fun ds => by
    induction ds with
    | nil => intro _; exact Nat.zero_le _
    | cons d ds ih =>
      intro h
      have i1 := ih fun x hx => h x (List.mem_cons_of_mem _ hx)
      have i2 := h d List.mem_cons_self
      rw [PyData.shownAll_cons, List.map_cons, List.sum_cons, List.length_cons, Nat.succ_mul]
      omega
  have h3 := h2 ds h
  rw [PyData.shownAll_length] at h1
  have e1 : (Str.length ", ") = 2 := rfl
  rw [e1] at h1
  have e3 : ∀ b : Bool, Str.length ((if b then ",)" else ")" : String) : Str) ≤ 2 := fun b => by cases b <;> decide
  have e4 := e3 (ds.length == 1)
  rw [Nat.mul_add]
  show 1 + _ + _ ≤ _
  omega
theorem shown_wl {x : Str} {n : Nat} (hb : begS x = true) (hl : x.length ≤ n) : (PyData.str x).shown.length ≤ 10 * n + 2 := by
  rw [PyData.shown_str]
  have := StrLaws.reprText_len x fun c hc => by
    have := List.all_eq_true.mp hb c hc
    unfold ltrN at this
    rw [Bool.and_eq_true, decide_eq_true_eq, decide_eq_true_eq] at this
    omega
  omega
theorem shown_int20 : ∀ l : Nat, l ≤ 20 → (PyData.int (l : Nat)).shown.length ≤ 10 := by decide +kernel
theorem shown_scr {s : Scr} (h : ScrOk s) : (scrD s).shown.length ≤ 62000 := by
  have h1 : (strsD s.ys).shown.length ≤ 20 * (1002 + 2) + 2 := by
    refine Nat.le_trans (shown_le (m := 1002) fun d hd => ?_) ?_
    · obtain ⟨x, hx, rfl⟩ := List.mem_map.mp hd
      have hw := (h.w.2 x hx).1
      exact shown_wl (n := 100) (wordS_beg hw.1) hw.2
    · rw [List.length_map]
      have := Nat.mul_le_mul_right (1002 + 2) (Nat.le_trans h.n h.l2)
      omega
  have h2 := shown_wl (n := 90) h.b h.bl
  have h3 := shown_int20 s.l h.l2
  refine Nat.le_trans (shownT_le (m := 20082) fun d hd => ?_) (by show 3 * (20082 + 2) + 3 ≤ 62000; decide)
  simp only [List.mem_cons, List.not_mem_nil, or_false] at hd
  rcases hd with rfl | rfl | rfl <;> omega
def screensD (ss : List Scr) : PyData := .list (ss.map scrD)
theorem shown_screens {ss : List Scr} (hn : ss.length ≤ 30) (h : ∀ s ∈ ss, ScrOk s) : (screensD ss).shown.length ≤ 2000000 := by
  refine Nat.le_trans (shown_le (m := 62000) fun d hd => ?_) ?_
  · obtain ⟨s, hs, rfl⟩ := List.mem_map.mp hd
    exact shown_scr (h s hs)
  · rw [List.length_map]
    exact Nat.le_trans (Nat.add_le_add_right (Nat.mul_le_mul_right _ hn) 2) (by decide)
theorem scr_plain (s : Scr) : (scrD s).plain = true ∧ (scrD s).depth = 2 ∧ ((s.l ≤ 20) → (scrD s).showable = true) := by
  refine ⟨?_, ?_, fun h => ?_⟩
  · unfold scrD strsD
    simp only [PyData.plain, PyData.plainAll, plain_strs, Bool.and_self]
  · unfold scrD strsD
    simp only [PyData.depth, PyData.depthAll, depth_strs]
    omega
  · have h2 : ∀ l : Nat, l ≤ 20 → (PyData.int (l : Nat)).showable = true := by decide +kernel
    unfold scrD
    have h3 := showable_strs s.ys
    simp only [PyData.showable, PyData.showableAll, Bool.and_eq_true] at h2 h3 ⊢
    exact ⟨trivial, h2 s.l h, h3, trivial⟩
theorem screens_plain (ss : List Scr) : (screensD ss).plain = true ∧ (screensD ss).depth ≤ 3 ∧ ((∀ s ∈ ss, s.l ≤ 20) → (screensD ss).showable = true) := by
  unfold screensD
  rw [PyData.plain, PyData.depth, PyData.showable]
  induction ss with
  | nil => exact ⟨rfl, by decide, fun _ => rfl⟩
  | cons s ss ih =>
    obtain ⟨a, b, c⟩ := scr_plain s
    rw [List.map_cons, PyData.plainAll, PyData.depthAll, PyData.showableAll, a, b, ih.1]
    refine ⟨rfl, by omega, fun h => ?_⟩
    rw [c (h s List.mem_cons_self), ih.2.2 fun x hx => h x (List.mem_cons_of_mem _ hx)]
    rfl
end DL
namespace DL
open PySem PySem.Spec L2
theorem scrD_inj {s t : Scr} (h : scrD s = scrD t) : s = t := by
  unfold scrD at h
  injection h with h
  injection h with h1 h
  injection h with h2 h
  injection h with h3 _
  injection h1 with h1
  injection h2 with h2
  have h2 := Int.ofNat.inj h2
  have h3 := strsD_inj h3
  cases s
  cases t
  simp only at h1 h2 h3
  rw [h1, h2, h3]
theorem screensD_inj {ss ts : List Scr} (h : screensD ss = screensD ts) : ss = ts := by
  unfold screensD at h
  injection h with h
  induction ss generalizing ts with
  | nil =>
    cases ts with
    | nil => rfl
    | cons t ts => cases h
  | cons s ss ih =>
    cases ts with
    | nil => cases h
    | cons t ts =>
      rw [List.map_cons, List.map_cons] at h
      injection h with h1 h2
      rw [scrD_inj h1, ih h2]
end DL
namespace DL
open PySem PySem.Spec L2
theorem upd_upd {H : Hp} {p : Addr} {o o' : HO} : upd (upd H p o) p o' = upd H p o' := funext fun x => by
  by_cases h : x = p
  · rw [h, upd_same, upd_same]
  · rw [upd_ne h, upd_ne h, upd_ne h]
/-- x = [e1, ..], to be changed later -/
theorem sq_newR {A : Amb} {ρ : List SV} {tl : TA} {u : TS} {c1 c2 i : Nat} {RA : List PyData → Prop} {P : Po} (hi : i < ρ.length) (h : EA A tl ρ c1 RA) (hl : ∀ ds, RA ds → ds.length ≤ sizeLine) (k : ∀ p ds, RA ds → SS A u (ρ.set i (.own p ds)) c2 P) : SS A (tSeq (tAsg (tLst tl) (gName i)) u) ρ (c1 + c2) P := fun D F σ H n S l k1 k2 k3 k4 => by
  refine h F σ H n _ S (by omega) fun vs ds H1 s1 j1 kd r => ⟨by rw [kd.length]; exact hl _ r, fun p hp => ?_⟩
  have S1 := S.step s1 j1
  have S2 := st8_own S1 i hp
  have S3 := st8_push (i := i) (p := p) (ds := []) (es := ds) (xs := vs) S2 (List.getElem?_set_self hi) (kd.mono (off_cons hp (same_off (same_new hp))))
  rw [upd_upd, List.set_set] at S3
  have e : n + (c1 + c2) = n + c1 + c2 := by omega
  rw [e] at k1 k2 k3 k4
  exact k p ds r D ⟨p :: F.fs, F.gh⟩ _ _ (n + c1) S3 (by omega) k1 k2 k3 k4
theorem fil_nil {α : Type} {f : α → PyData} {p : PyData → Bool} {g : α → Bool} : ∀ {ss : List α}, (∀ s ∈ ss, p (f s) = !g s) → PyData.eqv (.list (((ss.map f).filter p).map fun _ => .int 1)) (.list []) = ss.all g
  | [], _ => rfl
  | s :: ss, h => by
    have ih := fil_nil (ss := ss) fun x hx => h x (List.mem_cons_of_mem _ hx)
    have h1 := h s List.mem_cons_self
    rw [List.map_cons, List.filter_cons, List.all_cons]
    cases hg : g s with
    | true =>
      rw [hg] at h1
      rw [h1]
      exact ih
    | false =>
      rw [hg] at h1
      rw [h1]
      rfl
theorem plain_ones (ds : List PyData) : (PyData.list (ds.map fun _ => .int 1)).plain = true := by
  rw [PyData.plain]
  induction ds with
  | nil => rfl
  | cons d ds ih =>
    rw [List.map_cons, PyData.plainAll, ih]
    rfl
theorem ear_all2 {A : Amb} {ρ : List SV} {ta tb : TE} {c1 c2 : Nat} {Ra Rb : PyData → Prop} (h1 : ER A ta ρ c1 Ra) (h2 : ER A tb ρ c2 Rb) : EAR A (tCons ta (tCons tb tNil)) ρ (c1 + (c2 + 0)) (fun ds => ∃ d e, Ra d ∧ Rb e ∧ ds = [d, e]) := (ear_consR h1 (ear_consR h2 ear_nil)).imp fun ds ⟨d, ds1, r1, ⟨e, ds2, r2, e3, e2⟩, e1⟩ => ⟨d, e, r1, r2, by rw [e1, e2, e3]⟩
/-- a book: different words of at most thirty letters -/
def BkOk (n : Nat) (xs : List Str) : Prop := xs.length ≤ n ∧ Wds (fun x => wordS x = true ∧ x.length ≤ 30) xs
theorem BkOk.dict {n : Nat} {xs : List Str} (h : BkOk n xs) (hn : n < 4000) : DictOk xs := dictOk_of h.2 (fun x hx => ⟨hx.1, by omega⟩) (Nat.lt_of_le_of_lt h.1 hn)
/-- what is answered of a book is a screen -/
theorem scr_of {n : Nat} {xs : List Str} {b : Str} {l : Nat} (h : BkOk n xs) (hb : begS b = true) (hl : b.length ≤ 90) (l1 : 1 ≤ l) (l2 : l ≤ 20) : ScrOk ⟨b, l, (xs.filter (preS b)).take l⟩ ∧ shows xs ⟨b, l, (xs.filter (preS b)).take l⟩ = true := by
  refine ⟨⟨hb, hl, l1, l2, ?_, ?_⟩, decide_eq_true rfl⟩
  · show ((xs.filter (preS b)).take l).length ≤ l
    rw [List.length_take]
    omega
  · refine ⟨h.2.1.sublist ((List.take_sublist _ _).trans List.filter_sublist), fun x hx => ?_⟩
    have h1 := List.mem_filter.mp ((List.take_sublist _ _).subset hx)
    have h2 := h.2.2 x h1.1
    exact ⟨⟨h2.1, by omega⟩, h1.2⟩
end DL
namespace DL
open PySem PySem.Spec L2
theorem preS_append (b x : Str) : preS b (b ++ x) = true := by
  unfold preS
  have e : (b ++ x).cps.toList = b.cps.toList ++ x.cps.toList := TL.tl_append b x
  have hl : b.length = b.cps.toList.length := by rw [Array.length_toList]; rfl
  rw [e, hl, List.take_left]
  exact decide_eq_true rfl
theorem wordS_of {x : Str} (hb : begS x = true) (hl : 1 ≤ x.length) : wordS x = true := by
  have hn : decide (x = Str.empty) = false := decide_eq_false fun e => by rw [e] at hl; exact absurd hl (by decide)
  unfold wordS
  rw [hb, hn]
  rfl
end DL
namespace DL
open PySem PySem.Spec L2
theorem sameOk_bool {b : Bool} {m : Nat} (h : 0 < m) : SameOk m (.bool b) := ⟨rfl, h, rfl⟩
theorem sameOk_str {x : Str} {m : Nat} (h : 0 < m) : SameOk m (.str x) := ⟨rfl, h, rfl⟩
theorem book_of {L : Str} {m : Int} {n : Nat} {xs : List Str} (hL : begS L = true) (hx : (120 : Nat) ∉ L.cps.toList) (hm : m ≤ 30) (hn : xs.length ≤ n) (nd : xs.Nodup) (h : ∀ x ∈ xs, WordOf L m x) : BkOk n xs ∧ ("x" : Str) ∉ xs :=
  ⟨⟨hn, nd, fun x hx => ⟨wordOf_word hL (h x hx), by have := (h x hx).2.1; omega⟩⟩, fun z => hx ((h _ z).2.2 120 (by decide))⟩
/-- how long the repr of a book with screens is -/
theorem shown_book {n : Nat} {ys : List Str} (hb : BkOk n ys) (hn : n ≤ 1001) : (strsD ys).shown.length ≤ 700000 := by
  refine Nat.le_trans (shown_le (m := 302) fun d hd => ?_) ?_
  · obtain ⟨x, hx, rfl⟩ := List.mem_map.mp hd
    have hw := hb.2.2 x hx
    exact shown_wl (n := 30) (wordS_beg hw.1) hw.2
  · rw [List.length_map]
    exact Nat.le_trans (Nat.add_le_add_right (Nat.mul_le_mul_right _ (Nat.le_trans hb.1 hn)) 2) (by decide)
theorem cld_reprBS {n : Nat} {ys : List Str} {ts : List Scr} (hb : BkOk n ys) (hn : n ≤ 1001) (ht : ts.length ≤ 20) (hs : ∀ s ∈ ts, ScrOk s) : Cld rRepr [.list [strsD ys, screensD ts]] (· = .str (PyData.list [strsD ys, screensD ts]).shown) := by
  have h1 := sameOk_strs (xs := ys) (m := 2) (by have := hb.1; omega) (by decide)
  have h2 := screens_plain ts
  refine cld_repr ?_ ?_ ?_ ?_
  · simp only [PyData.plain, PyData.plainAll, h1.1, h2.1, Bool.and_self]
  · simp only [PyData.showable, PyData.showableAll, showable_strs ys, h2.2.2 fun s hs' => (hs s hs').l2, Bool.and_self]
  · have h3 := h1.2.1
    have h4 := h2.2.1
    simp only [PyData.depth, PyData.depthAll]
    omega
  · have hz := sizeLine_eq
    refine Nat.le_trans (shown_le (m := 2000000) fun d hd => ?_) (by show 2 * (2000000 + 2) + 2 ≤ sizeLine; omega)
    simp only [List.mem_cons, List.not_mem_nil, or_false] at hd
    rcases hd with rfl | rfl
    · exact Nat.le_trans (shown_book hb hn) (by decide)
    · exact shown_screens (by omega) hs
end DL

set_option linter.all false
set_option maxRecDepth 100000
set_option maxHeartbeats 4000000
/-! DLD: dicts as data, repr of data with dicts, the law's call where the table of modules is known to be there -/
namespace DL
open PySem PySem.Spec PyProof.Rows L2
section
variable {X : Cx} {pins : List (Addr × Obj)} {σ : L2.St} {H : Hp} {s : Shared}
mutual
theorem DD.reads (I : Inv X pins σ H s) : ∀ {v : V} {d : PyData}, DD H v d → ∀ u, RelV v u → ∃ as, Reads s.heap u d as ∧ ∀ a ∈ as, H a ≠ none
  | _, _, .non => fun u r => by
    cases r
    exact ⟨_, Reads.none, fun a h => absurd h List.not_mem_nil⟩
  | _, _, .bl b => fun u r => by
    cases r
    exact ⟨_, Reads.bool b, fun a h => absurd h List.not_mem_nil⟩
  | _, _, .int i => fun u r => by
    obtain ⟨t, rfl⟩ := r
    exact ⟨_, Reads.int i t, fun a h => absurd h List.not_mem_nil⟩
  | _, _, .str x => fun u r => by
    obtain ⟨t, rfl⟩ := r
    exact ⟨_, Reads.str x t, fun a h => absurd h List.not_mem_nil⟩
  | _, _, .lst (a := b) h k => fun u r => by
    cases r
    obtain ⟨its, rv, ⟨o, n, ho, hc, _, hd⟩, _⟩ := I.list (.inl (.inl h))
    obtain ⟨as, hr, ha⟩ := DA.reads I k its rv
    refine ⟨_, Reads.list ho hc hd hr, fun a hm => ?_⟩
    rcases List.mem_cons.mp hm with e | e
    · rw [e, h]
      exact fun z => nomatch z
    · exact ha a e
  | _, _, .tup h k => fun u r => by
    cases r
    obtain ⟨its, rv, ⟨o, ho, hc, n, hd⟩, _⟩ := I.tuple (.inl (.inl h))
    obtain ⟨as, hr, ha⟩ := DA.reads I k its rv
    exact ⟨_, Reads.tuple ho hc hd hr, ha⟩
  | _, _, .dct (a := b) h k => fun u r => by
    cases r
    obtain ⟨_, _, vs, kv, hd⟩ := dk_of I.hok h
    obtain ⟨bs, pr, hb⟩ := DK.reads I k vs kv
    refine ⟨_, PyProof.V.reads_dictOf (knd := mixKind X.prog X.w) (fun q key e => ?_) hd pr, fun a hm => ?_⟩
    · rcases keyIs_shape e with ⟨i, t, rfl, rfl⟩ | ⟨x, t, rfl, rfl⟩
      · exact Reads.int i t
      · exact Reads.str x t
    · rcases List.mem_cons.mp hm with e | e
      · rw [e, h]
        exact fun z => nomatch z
      · exact hb a e
theorem DA.reads (I : Inv X pins σ H s) : ∀ {vs : List V} {ds : List PyData}, DA H vs ds → ∀ us, Vals vs us → ∃ as, ReadsAll s.heap us ds as ∧ ∀ a ∈ as, H a ≠ none
  | _, _, .nil => fun us r => by
    cases r
    exact ⟨_, ReadsAll.nil, fun a h => absurd h List.not_mem_nil⟩
  | _, _, .cons h t => fun us r => by
    cases r with
    | cons r1 r2 =>
      obtain ⟨as, q1, a1⟩ := DD.reads I h _ r1
      obtain ⟨bs, q2, a2⟩ := DA.reads I t _ r2
      refine ⟨_, ReadsAll.cons q1 q2, fun a hm => ?_⟩
      rcases List.mem_append.mp hm with e | e
      · exact a1 a e
      · exact a2 a e
theorem DK.reads (I : Inv X pins σ H s) : ∀ {kvs : List (Key × V)} {ds : List (PyData × PyData)}, DK H kvs ds → ∀ vs, KV kvs vs → ∃ bs, PyProof.V.PairsRead s.heap keyD vs ds bs ∧ ∀ a ∈ bs, H a ≠ none
  | _, _, .nil => fun vs r => by
    cases r
    exact ⟨_, PyProof.V.PairsRead.nil, fun a h => absurd h List.not_mem_nil⟩
  | _, _, .cons h t => fun vs r => by
    cases r with
    | cons r1 r2 =>
      rename_i q qs
      obtain ⟨q1, q2⟩ := q
      obtain ⟨e, r1⟩ := r1
      cases e
      obtain ⟨as, q1, a1⟩ := DD.reads I h _ r1
      obtain ⟨bs, q2, a2⟩ := DK.reads I t _ r2
      refine ⟨_, PyProof.V.PairsRead.cons q1 q2, fun a hm => ?_⟩
      rcases List.mem_append.mp hm with e | e
      · exact a1 a e
      · exact a2 a e
end
end
def rReprD : List V → Hp → VK → Prop := fun xs H Q => ∃ x d, xs = [x] ∧ DD H x d ∧ d.showable = true ∧ d.depth ≤ 60 ∧ d.shown.length ≤ sizeLine ∧ (∃ a, x = .ref a) ∧ Q (.str d.shown) H
theorem call_reprD {X : Cx} (hg : X.A.guards = some []) (hu : X.A.units + 64 < cLine) (hsm : ∃ o, X.base.get? sysModules = some o) : CallR X (.builtin "repr") rReprD := by
  intro pins s σ H xs us Q I r ⟨x, d, e, hd, sd, dp, sz, ⟨a, ea⟩, q⟩
  subst e ea
  obtain ⟨u, rfl, ru⟩ := vals1 r
  cases (show u = Value.ref a from ru)
  obtain ⟨as, r1, ha⟩ := DD.reads I hd (.ref a) rfl
  obtain ⟨o, eo⟩ := hsm
  exact repr_of_reads' r1 sd (fun _ hm => ha _ hm (I.bs _ _ eo).2) hg (by omega) (fun _ _ h => h) (fun h' t tk k => ⟨.str d.shown, H, I.kept k, ⟨_, rfl⟩, q⟩) sz
theorem cld_reprD {d : PyData} (hs : d.showable = true) (hd : d.depth ≤ 60) (hl : d.shown.length ≤ sizeLine) (hr : ∀ {H : Hp} {v : V}, DD H v d → ∃ a, v = .ref a) : Cld rReprD [d] (· = .str d.shown) := fun H vs Q k q => by
  cases k with
  | cons h t =>
    cases t
    exact ⟨_, _, rfl, h, hs, hd, hl, hr h, q _ _ (fun G => .str _) rfl⟩
section
variable {A : Amb} {ρ : List SV} {tk tv te : TE} {c c1 c2 : Nat}
theorem ee_dnew : EE A tDNewK ρ 0 (· = .dict []) := fun F σ H n Q S l q p hp =>
  q _ _ _ (S.newS hp) (S.newJ hp) (.dct (off_of (S.fresh hp) upd_same) .nil) rfl
/-- {text: int} -/
theorem ee_disp {x : Str} {i : Int} (h1 : EE A tk ρ c1 (· = .str x)) (h2 : EE A tv ρ c2 (· = .int i)) : EE A (tDisp [(tk, tv)]) ρ (c1 + c2) (· = .dict [(.str x, .int i)]) := fun F σ H n Q S l q p hp => by
  have S0 := S.new (o := .dK []) hp
  refine h1 F σ _ n _ S0 (by omega) fun v d H1 s1 j1 k1 r1 => ?_
  have S1 := S0.step s1 j1
  refine h2 F σ H1 (n + c1) _ S1 (by omega) fun w e H2 s2 j2 k2 r2 => ?_
  subst r1 r2
  cases k1
  cases k2
  have nw : p ∉ A.W.fs := fun z => S.fresh hp (S.sub p (A.sub p z))
  have e2 : H2 p = some (.dK []) := (off_some ((s1.trans s2) p _ (off_of nw upd_same))).2
  refine ⟨e2, [(.inr x, .int i)], rfl, by show 1 ≤ 15; decide, ?_⟩
  have s3 : Same (off A.W.fs H) (off A.W.fs (upd H2 p (.dK (mergeK [] [(.inr x, .int i)])))) := fun a o e => by
    have ne : a ≠ p := fun z => by
      have := (off_some e).2
      rw [z, hp] at this
      cases this
    have h3 := ((S.newS hp).trans (s1.trans s2)) a o e
    exact off_of (off_some h3).1 (by rw [upd_ne ne]; exact (off_some h3).2)
  refine q _ _ _ s3 (A.W.stay _ _ _ (by rw [← Nat.add_assoc]; exact j2) fun a ha o e => by rw [upd_ne (noC_elim nw (noC_dK e2) ha)]; exact e) (.dct (off_of (S.fresh hp) upd_same) ?_) rfl
  exact .cons (k := .inr x) (.int i) .nil
theorem ee_upper {x : Str} (h : ER A te ρ c (· = .str x)) (hl : x.length ≤ 5592405) : EE A (tM0 (fun x xs H Q => ∃ a, x = .str a ∧ xs = [] ∧ a.length ≤ 5592405 ∧ Q (.str (Txt.upper a)) H) te) ρ c (· = .str (Txt.upper x)) := fun F σ H n Q S l q => by
  refine h F σ H n _ S l fun v d H1 s j k r => ?_
  subst r
  cases k
  exact ⟨⟨x, rfl⟩, x, rfl, rfl, hl, q _ _ H1 s j (.str _) rfl⟩
end
theorem law_callS {P : Program} {w : World} {K : PySem.W.Frag} {mg mb : Str → Option Value} {CX : CXT} {k : Nat} {fa a : Addr} {fd : FuncData} {x : Str} {sp : Sp} {s₁ : Shared} {vs : List Value} {ns : List Int}
    (KX : K.In s₁.heap) (hns : s₁.heap.Ns mainGlobals mg) (hb : s₁.heap.Ns builtinsNs mb) (hbb : ∀ x : Str, x ≠ "__name__" → mb x = bootBuiltins x) (hlim : s₁.heap.NoLimit) (hg : s₁.gens = #[])
    (ha : s₁.heap.get? a = some { cls := .type "list", data := .seq vs.toArray }) (hi : IntsAre vs ns) (hl : ns.length ≤ sizeLine) (hr : Room k callerA)
    (hsy : ∃ mm, s₁.heap.Ns sysModules mm) (F : ∀ base : Heap, K.In base → base.Ns mainGlobals mg → (∃ o, base.get? sysModules = some o) → FnG P w K mg base CX k fa fd [x] sp) (hbind : ∀ (s : Shared) (u : Value), BindsTo s fd ⟨[u], []⟩ [(x, u)])
    (hsp : ∀ H : Hp, Only H → SqL K H a (ns.map V.int) → sp [.ref a] H (fun v _ => v = .bl true) fun _ _ _ => False)
    (hCX : ∀ H e s', CX [] H s₁ (fun _ _ _ => False) e s' → False) :
    codeAny (model P w) callerA (.call (.ref fa) ⟨[.ref a], []⟩) (fun r s' => r = .ok (.ret (.bool true)) ∧ OldK s₁.heap s'.heap ∧ s'.os = s₁.os ∧ AllBare s'.gens) s₁ := by
  have rv : Vals (ns.map V.int) vs := vals_ints hi
  have main : ∀ H : Hp, Only H → SqL K H a (ns.map V.int) → HOk P w H s₁.heap → (∀ b, H b ≠ none → b = a) → (H a ≠ none → K.lookup a = none) →
      codeAny (model P w) callerA (.call (.ref fa) ⟨[.ref a], []⟩) (fun r s' => r = .ok (.ret (.bool true)) ∧ OldK s₁.heap s'.heap ∧ s'.os = s₁.os ∧ AllBare s'.gens) s₁ := by
    intro H only scr ok isA notK
    have atA : ∀ {b : Addr} {u : HO}, H b = some u → b = a := fun {b u} e => isA b (by rw [e]; exact fun z => nomatch z)
    have keepDict : ∀ {b : Addr} {o : Obj} {es : Array DictEntry} {ep : Nat}, s₁.heap.get? b = some o → o.data = .dict es ep → H b = none := fun {b o es ep} e d => by
      cases q : H b with
      | none => rfl
      | some u =>
        rw [atA q, ha] at e
        cases e
        have d' : Data.seq vs.toArray _ = Data.dict es ep := d
        cases d'
    have ns' : ∀ {b : Addr} {m : Str → Option Value}, s₁.heap.Ns b m → (hidT s₁.heap H).Ns b m := fun {b m} ⟨o, es, ep, e, d, r⟩ => ⟨o, es, ep, hidT_get e (keepDict e d), d, r⟩
    have inB : K.In (hidT s₁.heap H) := fun b o e => hidT_get (KX b o e) (by
      cases q : H b with
      | none => rfl
      | some u =>
        rw [atA q, notK (by rw [← atA q, q]; exact fun z => nomatch z)] at e
        cases e)
    have hM : Mod K mg (hidT s₁.heap H) := ⟨inB, ns' hns, ⟨mb, ns' hb, hbb⟩, let ⟨mc, h1, h2⟩ := hlim; ⟨mc, ns' h1, h2⟩⟩
    have env : Env0 P w K mg (hidT s₁.heap H) callerA [] s₁ H := ⟨rfl, hM, fun b o e => of_hidT e, Nat.le_of_eq (hidT_size _ _), trivial, fun b z => absurd (show b ∈ ([] : List Addr) from z) List.not_mem_nil, ok, .of_eq hg⟩
    refine codeAny_mono ((F _ inB (ns' hns) (let ⟨_, h⟩ := hsy; let ⟨o, _, _, e, _⟩ := ns' h; ⟨o, e⟩)).run callerA [] s₁ H ⟨[.ref a], []⟩ [.ref a] [.ref a] _ _ hr rfl env (hbind s₁ (.ref a)) (.cons rfl .nil) (hsp H only scr)) fun r s' h => ?_
    cases r with
    | error e => exact (hCX H e s' h).elim
    | ok fl =>
      cases fl with
      | next => exact h.elim
      | brk => exact h.elim
      | cont => exact h.elim
      | ret u =>
        obtain ⟨v, H', os, bare, un, ok', r', q⟩ := h
        have q' : v = .bl true := q
        subst q'
        obtain rfl : u = Value.bool true := r'
        refine ⟨rfl, OldK.of_keep fun b o e => ?_, os, bare⟩
        cases q : H b with
        | none => exact un.keep b o e q (fun z => absurd (show b ∈ ([] : List Addr) from z) List.not_mem_nil) List.not_mem_nil
        | some u =>
          rcases only b with z | ⟨ob, xs, z⟩
          · rw [q] at z
            cases z
          · obtain ⟨e1, _⟩ := ok b _ z
            obtain ⟨e2, _⟩ := ok' b _ (un.frzs b ob _ z)
            rw [e] at e1
            cases e1
            exact e2
  cases hk : K.lookup a with
  | some o =>
    have e := KX a o hk
    rw [ha] at e
    cases e
    exact main (fun _ => none) (fun _ => .inl rfl) (.inr ⟨_, vs.toArray, _, hk, rfl, rfl, rfl, by rw [List.size_toArray, hi.length]; exact hl, by simpa using rv⟩) (fun b u z => nomatch (show (none : Option HO) = some u from z)) (fun b z => absurd rfl z) fun z => absurd rfl z
  | none =>
    let ob : Obj := { cls := .type "list", data := .seq vs.toArray }
    have at1 : ∀ {b : Addr} {u : HO}, (if b = a then some (HO.frz ob (.lst (ns.map V.int))) else none) = some u → b = a ∧ u = .frz ob (.lst (ns.map V.int)) := fun {b u} z => by
      by_cases hb : b = a
      · rw [if_pos hb] at z
        exact ⟨hb, (Option.some.inj z).symm⟩
      · rw [if_neg hb] at z
        cases z
    refine main (fun b => if b = a then some (.frz ob (.lst (ns.map V.int))) else none) (fun b => ?_) (.inl (.inr ⟨ob, if_pos rfl⟩)) (fun b u z => ?_) (fun b z => ?_) fun _ => hk
    · by_cases hb : b = a
      · exact .inr ⟨_, _, if_pos hb⟩
      · exact .inl (if_neg hb)
    · obtain ⟨rfl, rfl⟩ := at1 z
      exact ⟨ha, by rw [List.length_map]; exact hl, vs, _, rv, ha⟩
    · by_cases hb : b = a
      · exact hb
      · exact absurd (if_neg hb) z
theorem walk_S {l : PySem.W.OpenLaw} {n k : Nat} {q : Program} {loose : List Str} {XP : (Str → Option Value) → Heap → Prop} {YP : World → Heap → Prop} {d : DefRec} {K : Params → PySem.W.Frag} {CX : World → CXT} {sp : PySem.W.Frag → Sp} {x : Str}
    (hq : importsNone q = true) (hn : l.most = some n) (hn2 : n ≤ sizeLine) (hdf : d.params.defaults = []) (hr : Room k callerA) (hY : ∀ (w : World) (h : Heap), YP w h → (K w.params).In h)
    (F : ∀ (w : World) (mg : Str → Option Value) (fa : Addr) (h : Heap), (K w.params).In h → h.Ns mainGlobals mg → mg d.name = some (.ref fa) →
      ∃ fd : FuncData, (∀ (s : Shared) (u : Value), BindsTo s fd ⟨[u], []⟩ [(x, u)]) ∧ ∀ base : Heap, (K w.params).In base → base.Ns mainGlobals mg → (∃ o, base.get? sysModules = some o) → FnG l.prog w (K w.params) mg base (CX w) k fa fd [x] (sp (K w.params)))
    (hsp : ∀ (K : PySem.W.Frag) (H : Hp) (a : Addr) (ns : List Int), ns.length ≤ n → Only H → SqL K H a (ns.map V.int) → sp K [.ref a] H (fun v _ => v = .bl true) fun _ _ _ => False)
    (hCX : ∀ (w : World) (H : Hp) (s : Shared) (e : Value) (s' : Shared), CX w [] H s (fun _ _ _ => False) e s' → False) :
    PySem.W.WalkO q loose XP YP l.row.toRowW d [] (fun f vs => PySem.call f vs) := by
  refine Att.attach_call hn hdf fun w s₀ s₁ mg mb fa o pm cd doc a vs ns G Y ho hd hcd hmg hobj hints hlen hg => ?_
  obtain ⟨fd, bind, hF⟩ := F w mg fa _ (hY w _ Y) G.T.g hmg
  exact law_callS (hY w _ Y) G.T.g G.T.b G.T.builtins G.T.nolimit hg hobj hints (Nat.le_trans hlen hn2) hr (let ⟨mm, h, _⟩ := (G.T.seer hq).mods; ⟨mm, h⟩) hF bind (fun H only hS => hsp _ H a ns hlen only hS) fun H e s' => hCX w H s₁ e s'
/-! ### values of all kinds -/
def Sm (n : Nat) (x : Str) : Prop := x.length ≤ n ∧ ∀ c ∈ x.cps.toList, c < 128
def SmD (n : Nat) (d : PyData) : Prop := ∃ x, d = .str x ∧ Sm n x
theorem Sm.mono {n m : Nat} {x : Str} (h : Sm n x) (l : n ≤ m) : Sm m x := ⟨Nat.le_trans h.1 l, h.2⟩
theorem SmD.mono {n m : Nat} {d : PyData} (h : SmD n d) (l : n ≤ m) : SmD m d := let ⟨x, e, s⟩ := h; ⟨x, e, s.mono l⟩
theorem Sm.append {n m : Nat} {x y : Str} (h : Sm n x) (k : Sm m y) : Sm (n + m) (x ++ y) := by
  refine ⟨by rw [len_append]; have := h.1; have := k.1; omega, fun c hc => ?_⟩
  have e : (x ++ y).cps.toList = x.cps.toList ++ y.cps.toList := TL.tl_append x y
  rw [e] at hc
  rcases List.mem_append.mp hc with hc | hc
  · exact h.2 c hc
  · exact k.2 c hc
theorem Sm.cut {n : Nat} {x : Str} (h : Sm n x) (lo hi : Option Int) : Sm n (cutS x lo hi) := by
  refine ⟨?_, fun c hc => h.2 c ?_⟩
  · have h1 := h.1
    unfold cutS
    show (List.toArray _).size ≤ n
    rw [List.size_toArray, List.length_take, List.length_drop, Array.length_toList]
    have e : x.cps.size = x.length := rfl
    omega
  unfold cutS at hc
  exact List.mem_of_mem_drop (List.mem_of_mem_take hc)
theorem Sm.upper {n : Nat} {x : Str} (h : Sm n x) : Sm n (Txt.upper x) := by
  rw [PyProof.Rows.upper_ascii h.2]
  refine ⟨?_, fun c hc => ?_⟩
  · show (x.cps.map PyProof.Rows.up1).size ≤ n
    rw [Array.size_map]
    exact h.1
  · have hc2 : c ∈ (x.cps.map PyProof.Rows.up1).toList := hc
    rw [Array.toList_map] at hc2
    obtain ⟨b, hb, rfl⟩ := List.mem_map.mp hc2
    have := h.2 b hb
    unfold PyProof.Rows.up1
    split <;> omega
section
variable {A : Amb} {ρ : List SV} {ta tb te : TE} {c c1 c2 n m : Nat} {K : PySem.W.Frag} {R Ra Rb : PyData → Prop} {tl : TA}
theorem ee_smTk (hn : n ≤ 1000) (h : EE A ta ρ c1 (SmD n)) (h2 : ER A tb ρ c2 (fun d => ∃ i, d = .int i)) : EE A (tSl (rSlB K) ta tNoPart (tPart tb)) ρ (c1 + 0 + c2) (SmD n) :=
  ee_slR h eo_none (eo_someR h2 fun d h => h) fun d lo hi ⟨x, e, s⟩ _ _ => .inr ⟨x, e, by have := s.1; have := sizeLine_eq; omega, _, rfl, s.cut _ _⟩
theorem ee_smDr (hn : n ≤ 1000) (h : EE A ta ρ c1 (SmD n)) (h2 : ER A tb ρ c2 (fun d => ∃ i, d = .int i)) : EE A (tSl (rSlB K) ta (tPart tb) tNoPart) ρ (c1 + c2 + 0) (SmD n) :=
  ee_slR h (eo_someR h2 fun d h => h) eo_none fun d lo hi ⟨x, e, s⟩ _ _ => .inr ⟨x, e, by have := s.1; have := sizeLine_eq; omega, _, rfl, s.cut _ _⟩
theorem ee_smAdd (hn : n + m ≤ 1000) (h1 : ER A ta ρ c1 (SmD n)) (h2 : ER A tb ρ c2 (SmD m)) : EE A (tOp rAddA ta tb) ρ (c1 + c2) (SmD (n + m)) :=
  ee_opR h1 h2 fun d1 d2 ⟨x, e1, s1⟩ ⟨y, e2, s2⟩ => by
    subst e1 e2
    exact (od_addS (by have := s1.1; have := s2.1; have := sizeLine_eq; omega)).imp fun d e => ⟨_, e, s1.append s2⟩
/-- i + k, whatever they are -/
theorem ee_plI {i : Int} (h1 : ER A ta ρ c1 (fun d => ∃ i, d = .int i)) (h2 : ER A tb ρ c2 (· = .int i)) : EE A (tOp rAddA ta tb) ρ (c1 + c2) (fun d => ∃ i, d = .int i) :=
  ee_opR h1 h2 fun d1 d2 ⟨j, e1⟩ e2 => by
    subst e1 e2
    exact od_addI.imp fun d e => ⟨_, e⟩
theorem ee_catA {ds : List PyData} {k : Nat} (h1 : EE A ta ρ c1 (· = .list ds)) (h2 : EE A tb ρ c2 (fun d => ∃ es, AllD k R es ∧ d = .list es)) (hl : ds.length + k ≤ 1000) (hd : ∀ d ∈ ds, R d) : EE A (tOp rAddA ta tb) ρ (c1 + c2) (fun d => ∃ es, AllD (ds.length + k) R es ∧ d = .list es) :=
  ee_addLR h1 h2 fun d1 d2 e1 ⟨es, ⟨h3, h4⟩, e2⟩ => ⟨ds, es, e1, e2, by rw [h3]; have := sizeLine_eq; omega, ds ++ es, ⟨by rw [List.length_append, h3], fun d h => by
    rcases List.mem_append.mp h with h | h
    · exact hd d h
    · exact h4 d h⟩, rfl⟩
end
/-- a value that a law shows to the program, of any kind -/
def ItemOk (d : PyData) : Prop := (∀ x, d = .str x → x.length ≤ 1000000) ∧ d.showable = true ∧ d.depth ≤ 3 ∧ d.shown.length ≤ 2000
theorem shown_sm {x : Str} (h : Sm 100 x) : (PyData.str x).shown.length ≤ 1002 := by
  rw [PyData.shown_str]
  have := StrLaws.reprText_len x fun c hc => by
    have := h.2 c hc
    omega
  have := h.1
  omega
theorem item_str {d : PyData} (h : SmD 100 d) : ItemOk d := by
  obtain ⟨x, rfl, s⟩ := h
  exact ⟨fun y e => by cases e; have := s.1; omega, rfl, Nat.zero_le _, Nat.le_trans (shown_sm s) (by decide)⟩
theorem item_list {ds : List PyData} (hl : ds.length ≤ 1) (h : ∀ d ∈ ds, SmD 100 d) : ItemOk (.list ds) ∧ ItemOk (.tuple ds) := by
  have h1 : ∀ d ∈ ds, d.shown.length ≤ 1002 := fun d hd => by
    obtain ⟨x, rfl, s⟩ := h d hd
    exact shown_sm s
  have h2 : PyData.showableAll ds = true := showableAll_of fun d hd => by
    obtain ⟨x, rfl, s⟩ := h d hd
    rfl
  have h3 : PyData.depthAll ds = 0 := by
    clear hl h1 h2
    induction ds with
    | nil => rfl
    | cons d ds ih =>
      obtain ⟨x, rfl, s⟩ := h d List.mem_cons_self
      rw [PyData.depthAll, ih fun d hd => h d (List.mem_cons_of_mem _ hd)]
      rfl
  have h4 := Nat.mul_le_mul_right (1002 + 2) hl
  refine ⟨⟨fun x e => (nomatch e), by rw [PyData.showable]; exact h2, by rw [PyData.depth, h3]; decide, Nat.le_trans (shown_le h1) (by omega)⟩, ⟨fun x e => (nomatch e), by rw [PyData.showable]; exact h2, by rw [PyData.depth, h3]; decide, Nat.le_trans (shownT_le h1) (by omega)⟩⟩
theorem item_dict {d : PyData} (h : SmD 100 d) : ItemOk (.dict [(d, .int 1)]) := by
  obtain ⟨x, rfl, s⟩ := h
  refine ⟨fun x e => (nomatch e), rfl, by show 1 ≤ 3; decide, ?_⟩
  rw [PyData.shown_dict, PyData.shownKv_cons, PyData.shownKv_nil, Str.length_append, Str.length_append]
  show _ + (PyData.shown (.str x) ++ ": " ++ PyData.shown (.int 1)).length + _ ≤ 2000
  rw [Str.length_append, Str.length_append]
  have h1 := shown_sm s
  have e1 : Str.length ": " = 2 := rfl
  have e2 : (PyData.int 1).shown.length ≤ 10 := by decide +kernel
  have e3 : Str.length "{" = 1 := rfl
  have e4 : Str.length "}" = 1 := rfl
  rw [e1, e3, e4]
  omega
theorem item_rest : ItemOk .none ∧ ItemOk (.bool true) ∧ ItemOk (.int 0) ∧ ItemOk (.int 5) ∧ ItemOk (.dict []) := by
  refine ⟨⟨fun x e => (nomatch e), by decide, by decide, by decide +kernel⟩, ⟨fun x e => (nomatch e), by decide, by decide, by decide +kernel⟩, ⟨fun x e => (nomatch e), by decide +kernel, by decide, by decide +kernel⟩, ⟨fun x e => (nomatch e), by decide +kernel, by decide, by decide +kernel⟩, ⟨fun x e => (nomatch e), rfl, by decide, by decide +kernel⟩⟩
theorem cld_reprItems {ds : List PyData} (hl : ds.length ≤ 100) (h : ∀ d ∈ ds, ItemOk d) : Cld rReprD [.list ds] (· = .str (PyData.list ds).shown) := by
  have h3 : PyData.depthAll ds ≤ 3 := by
    clear hl
    induction ds with
    | nil => exact Nat.zero_le _
    | cons d ds ih =>
      have h1 := (h d List.mem_cons_self).2.2.1
      have h2 := ih fun d hd => h d (List.mem_cons_of_mem _ hd)
      rw [PyData.depthAll]
      omega
  refine cld_reprD ?_ (by rw [PyData.depth]; omega) ?_ fun k => by cases k; exact ⟨_, rfl⟩
  · rw [PyData.showable]
    exact showableAll_of fun d hd => (h d hd).2.1
  · refine Nat.le_trans (shown_le (m := 2000) fun d hd => (h d hd).2.2.2) ?_
    have h4 := Nat.mul_le_mul_right (2000 + 2) hl
    have e := sizeLine_eq
    omega
/-- no item is left -/
theorem fil_nilG {p : PyData → Bool} {g : PyData → PyData} : ∀ {ds : List PyData}, PyData.eqv (.list ((ds.filter p).map g)) (.list []) = ds.all fun d => !p d
  | [] => rfl
  | d :: ds => by
    rw [List.filter_cons, List.all_cons]
    cases h : p d with
    | true => rfl
    | false => exact fil_nilG (ds := ds)
theorem alpha_mem (z : Nat) : decide (z ∈ ("abcdefghijklmnopqrstuvwxyz" : Str).cps.toList) = ltrN z := by
  have e : ("abcdefghijklmnopqrstuvwxyz" : Str).cps.toList = (List.range 26).map (97 + ·) := by decide +kernel
  rw [e]
  unfold ltrN
  rw [← Bool.decide_and]
  refine decide_eq_decide.mpr ?_
  rw [List.mem_map]
  constructor
  · rintro ⟨i, hi, rfl⟩
    have := List.mem_range.mp hi
    omega
  · rintro ⟨h1, h2⟩
    exact ⟨z - 97, List.mem_range.mpr (by omega), by omega⟩
theorem plain_strsD {ds : List PyData} (h : ∀ d ∈ ds, ∃ x, d = .str x) : (PyData.list ds).plain = true := by
  rw [PyData.plain]
  induction ds with
  | nil => rfl
  | cons d ds ih =>
    obtain ⟨x, rfl⟩ := h d List.mem_cons_self
    rw [PyData.plainAll, ih fun d hd => h d (List.mem_cons_of_mem _ hd)]
    rfl
end DL

set_option linter.all false
set_option maxRecDepth 100000
set_option maxHeartbeats 4000000
/-! DLV: what is a dictionary, a screen, screens: of any data -/
namespace DL
open PySem PySem.Spec L2
def strOf : PyData → Str
  | .str x => x
  | _ => Str.empty
def intOf : PyData → Int
  | .int i => i
  | _ => 0
def itemsOf : PyData → List PyData
  | .list es => es
  | _ => []
def listD : PyData → Bool
  | .list _ => true
  | _ => false
def dictD (d : PyData) : Bool := listD d && ((itemsOf d).all wordD && decide (cnt (fun i => ((itemsOf d).map strOf).getD i Str.empty) ((itemsOf d).map strOf).length = (itemsOf d).length))
def scr3 (b l s : PyData) : Bool := begD b && (limD l && (dictD s && (decide (((itemsOf s).length : Int) ≤ intOf l) && (itemsOf s).all fun e => preS (strOf b) (strOf e))))
def scrB : PyData → Bool
  | .tuple [b, l, s] => scr3 b l s
  | _ => false
def scrsB (d : PyData) : Bool := listD d && (decide ((itemsOf d).length ≤ 20) && (itemsOf d).all scrB)
def BigS (d : PyData) : Prop := ∀ x, d = .str x → x.length ≤ 1000000
def BigL (d : PyData) : Prop := (itemsOf d).length < 4000 ∧ ∀ e ∈ itemsOf d, BigS e
def BigT (d : PyData) : Prop := ∀ es, d = .tuple es → ∀ e ∈ es, BigS e ∧ BigL e
def BigA (d : PyData) : Prop := (itemsOf d).length < 4000 ∧ ∀ e ∈ itemsOf d, BigT e
theorem words_strs {es : List PyData} (h : es.all wordD = true) : es = (es.map strOf).map PyData.str := by
  rw [List.map_map]
  refine (List.map_id' es).symm.trans (List.map_congr_left fun e he => ?_)
  have := List.all_eq_true.mp h e he
  cases e with
  | str x => rfl
  | _ => cases this
theorem eqv_int (i j : Int) : PyData.eqv (.int i) (.int j) = decide (i = j) := by
  simp only [PyData.eqv]
  by_cases h : i = j
  · rw [h]; simp
  · rw [decide_eq_false h]
    simpa using h
theorem eqv_nat (i j : Nat) : PyData.eqv (.int (i : Nat)) (.int (j : Nat)) = decide (i = j) := by
  rw [eqv_int]
  exact decide_eq_decide.mpr (by omega)
theorem cnt_step {κ : Type} [DecidableEq κ] (val : Nat → κ) (i : Nat) : cnt val (i + 1) ≤ cnt val i + 1 := by
  show (if met val i (val i) = true then cnt val i else cnt val i + 1) ≤ _
  split <;> omega
theorem cnt_lt {κ : Type} [DecidableEq κ] {val : Nat → κ} {i j : Nat} (hij : i < j) (e : val i = val j) : ∀ n, j < n → cnt val n < n := by
  intro n
  induction n with
  | zero => intro h; omega
  | succ n ih =>
    intro h
    by_cases hj : j = n
    · subst hj
      have hm : met val j (val j) = true := by
        unfold met
        rw [List.any_eq_true]
        exact ⟨i, List.mem_range.mpr hij, decide_eq_true e⟩
      show (if met val j (val j) = true then cnt val j else cnt val j + 1) < j + 1
      rw [if_pos hm]
      have := cnt_le val j
      omega
    · have := ih (by omega)
      have := cnt_step val n
      omega
/-- a valid dictionary, by its words -/
theorem dictD_ok {xs : List Str} (h1 : xs.Nodup) (h2 : ∀ x ∈ xs, wordS x = true) : dictD (strsD xs) = true := by
  unfold dictD strsD
  show (true && ((xs.map PyData.str).all wordD && decide (cnt (fun i => ((xs.map PyData.str).map strOf).getD i Str.empty) ((xs.map PyData.str).map strOf).length = (xs.map PyData.str).length))) = true
  have e : (xs.map PyData.str).map strOf = xs := by
    rw [List.map_map]
    exact (List.map_congr_left fun x _ => rfl).trans (List.map_id' xs)
  rw [e, cnt_of_nodup h1, List.length_map, decide_eq_true rfl, List.all_map]
  have : xs.all (wordD ∘ PyData.str) = true := List.all_eq_true.mpr fun x hx => (wordD_str x).trans (h2 x hx)
  rw [this]
  rfl
theorem scrB_ok {s : Scr} (h : ScrOk s) : scrB (scrD s) = true := by
  show scr3 (.str s.b) (.int (s.l : Nat)) (strsD s.ys) = true
  unfold scr3
  have h1 : begD (.str s.b) = true := h.b
  have h2 : limD (.int (s.l : Nat)) = true := by
    show (decide (1 ≤ ((s.l : Nat) : Int)) && decide (((s.l : Nat) : Int) ≤ 20)) = true
    have := h.l1
    have := h.l2
    rw [decide_eq_true (by omega), decide_eq_true (by omega)]
    rfl
  have h3 := dictD_ok h.w.1 fun x hx => (h.w.2 x hx).1.1
  rw [h1, h2, h3]
  show (decide (((s.ys.map PyData.str).length : Int) ≤ ((s.l : Nat) : Int)) && (s.ys.map PyData.str).all fun e => preS s.b (strOf e)) = true
  rw [List.length_map, decide_eq_true (by have := h.n; omega), List.all_map]
  show (s.ys.all fun x => preS s.b x) = true
  exact List.all_eq_true.mpr fun x hx => (h.w.2 x hx).2
theorem scrsB_ok {ss : List Scr} (hn : ss.length ≤ 20) (h : ∀ s ∈ ss, ScrOk s) : scrsB (screensD ss) = true := by
  show (true && (decide ((ss.map scrD).length ≤ 20) && (ss.map scrD).all scrB)) = true
  rw [List.length_map, decide_eq_true hn, List.all_map]
  exact List.all_eq_true.mpr fun s hs => scrB_ok (h s hs)
theorem big_strs {xs : List Str} (hl : xs.length < 4000) (h : ∀ x ∈ xs, x.length ≤ 1000000) : BigL (strsD xs) := by
  refine ⟨by show (xs.map PyData.str).length < 4000; rw [List.length_map]; exact hl, fun e he y ey => ?_⟩
  obtain ⟨x, hx, rfl⟩ := List.mem_map.mp (show e ∈ xs.map PyData.str from he)
  cases ey
  exact h _ hx
theorem big_scr {s : Scr} (h : ScrOk s) : BigT (scrD s) := fun es e d hd => by
  cases e
  simp only [List.mem_cons, List.not_mem_nil, or_false] at hd
  rcases hd with rfl | rfl | rfl
  · exact ⟨fun x ex => (by cases ex; have := h.bl; omega), ⟨(by show 0 < 4000; decide), fun e he => absurd he List.not_mem_nil⟩⟩
  · exact ⟨fun x ex => (by cases ex), ⟨(by show 0 < 4000; decide), fun e he => absurd he List.not_mem_nil⟩⟩
  · exact ⟨fun x ex => (by cases ex), big_strs (by have := h.n; have := h.l2; omega) fun x hx => by have := (h.w.2 x hx).1.2; omega⟩
theorem big_screens {ss : List Scr} (hn : ss.length < 4000) (h : ∀ s ∈ ss, ScrOk s) : BigA (screensD ss) := by
  refine ⟨by show (ss.map scrD).length < 4000; rw [List.length_map]; exact hn, fun e he => ?_⟩
  obtain ⟨s, hs, rfl⟩ := List.mem_map.mp (show e ∈ ss.map scrD from he)
  exact big_scr (h s hs)
end DL
namespace DL
open PySem PySem.Spec L2
/-! ### rules of DLV -/
def rTupOf (K : PySem.W.Frag) : List V → Hp → VK → Prop := fun xs H Q => ∃ p ys, xs = [.ref p] ∧ ((SqL K H p ys ∧ ∀ l, H l = none → Q (.ref l) (upd H l (.tup ys))) ∨ (SqT K H p ys ∧ Q (.ref p) H))
def rReprB : List V → Hp → VK → Prop := fun xs H Q => ∃ b, xs = [.bl b] ∧ Q (.str (if b then "True" else "False")) H
def rReprPB : List V → Hp → VK → Prop := fun xs H Q => rRepr xs H Q ∨ rReprB xs H Q
section
variable {X : Cx}
theorem kTupOf {K : PySem.W.Frag} (h : X.K = K := by rfl) : CallR X (.type "tuple") (rTupOf K) := by
  subst h
  exact call_tuple_of
theorem call_reprB : CallR X (.builtin "repr") rReprB := by
  intro pins s σ H xs us Q I r h
  obtain ⟨b, rfl, q⟩ := h
  obtain ⟨u, rfl, ru⟩ := vals1 r
  cases (show u = Value.bool b from ru)
  exact PySem.P.repr_of_bool ⟨.str _, H, I.tok _, ⟨_, rfl⟩, q⟩
theorem call_reprPB (hg : X.A.guards = some []) (hu : X.A.units + 64 < cLine) : CallR X (.builtin "repr") rReprPB := CallR.or (call_reprP hg hu) call_reprB
end
theorem cld_reprBool {b : Bool} : Cld rReprPB [.bool b] (· = .str (if b then "True" else "False")) := fun H vs Q k q => by
  cases k with
  | cons h t =>
    cases t
    cases h
    exact .inr ⟨b, rfl, q _ _ (fun G => .str _) rfl⟩
theorem cld_reprPl {ds : List PyData} (h : Cld rRepr [.list ds] (· = .str (PyData.list ds).shown)) : Cld rReprPB [.list ds] (· = .str (PyData.list ds).shown) := fun H vs Q k q => .inl (h H vs Q k q)
section
variable {A : Amb} {ρ : List SV} {ta tb te : TE} {c c1 c2 : Nat} {K : PySem.W.Frag} {R Ra Rb : PyData → Prop} {Rf : List PyData → Prop} {tl : TA} {u : TS} {P : Po}
theorem ee_neg {i : Int} (h : ER A ta ρ c (· = .int i)) : EE A (tUn (rU fun i => .int (-i)) ta) ρ c (· = .int (-i)) := fun F σ H n Q S l q => by
  refine h F σ H n _ S l fun v d H1 s j k r => ?_
  subst r
  cases k
  exact ⟨i, rfl, q _ _ H1 s j (.int _) rfl⟩
theorem ee_tupOf {ds : List PyData} (h : EE A ta ρ c (· = .list ds)) : EE A (tCB (rTupOf K) (tCons ta tNil)) ρ c (· = .tuple ds) := fun F σ H n Q S l q => by
  refine h F σ H n _ S l fun v d H1 s j k r => ?_
  subst r
  have S1 := S.step s j
  cases k with
  | lst hp kk => exact ⟨_, _, rfl, .inl ⟨.inl (.inl (off_some hp).2), fun p hn => q _ _ _ (s.trans (S1.newS hn)) (S1.newJ hn) (new_tup S1 hn kk) rfl⟩⟩
theorem ef_addR (h1 : EE A ta ρ c1 Ra) (h2 : EE A tb ρ c2 Rb) (hr : ∀ d1 d2, Ra d1 → Rb d2 → ∃ ds es, d1 = .list ds ∧ d2 = .list es ∧ ds.length + es.length ≤ sizeLine ∧ Rf (ds ++ es)) : EF A (tOp rAddA ta tb) ρ (c1 + c2) Rf := fun F σ H n Q S l q => by
  refine h1 F σ H n _ S (by omega) fun v d1 H1 s1 j1 k1 r1 => ?_
  have S1 := S.step s1 j1
  refine h2 F σ H1 (n + c1) _ S1 (by omega) fun w d2 H2 s2 j2 k2 r2 => ?_
  have S2 := S1.step s2 j2
  obtain ⟨ds, es, e1, e2, e3, e4⟩ := hr d1 d2 r1 r2
  subst e1 e2
  have k1' := k1.mono (S1.offF s2)
  cases k1' with
  | lst hp kp =>
    cases k2 with
    | lst hq kq =>
      refine .inr (.inr ⟨_, _, _, _, rfl, rfl, (off_some hp).2, (off_some hq).2, by rw [kp.length, kq.length]; exact e3, fun p hn => ?_⟩)
      exact q p _ _ _ ((s1.trans s2).trans (S2.newS hn)) (by rw [← Nat.add_assoc]; exact S2.newJ hn) (fresh_back S (s1.trans s2) hn j2) upd_same ((kp.append kq).mono (off_cons hn (same_off (same_new hn)))) e4
/-- x = a new list, to be changed later -/
theorem sq_setF {i : Nat} (h : EF A te ρ c1 Rf) (k : ∀ p ds, Rf ds → SS A u (ρ.set i (.own p ds)) c2 P) : SS A (tSeq (tAsg te (gName i)) u) ρ (c1 + c2) P := fun D F σ H n S l k1 k2 k3 k4 => by
  refine h F σ H n _ S (by omega) fun p xs ds H1 s1 j1 e0 e1 kd r => ?_
  have S3 := st8_grow S e0 s1 j1 e1
  have e : n + (c1 + c2) = n + c1 + c2 := by omega
  rw [e] at k1 k2 k3 k4
  refine k p ds r D ⟨p :: F.fs, F.gh⟩ _ _ (n + c1) ⟨S3.j, S3.adv, S3.sub, S3.trk, S3.gh, by rw [List.length_set, List.length_set, S3.len], fun b x eb => ?_, fun a b x y r1 r2 ha hb hx hy ne => ?_⟩ (by omega) k1 k2 k3 k4
  · by_cases hk : i = b
    · subst hk
      by_cases hi : i < ρ.length
      · rw [List.getElem?_set_self hi] at eb
        cases eb
        exact ⟨some (.ref p), List.getElem?_set_self (by rw [S.len]; exact hi), rfl, List.mem_cons_self, S.fresh0 e0, xs, e1, kd⟩
      · rw [List.getElem?_eq_none (by rw [List.length_set]; omega)] at eb
        cases eb
    · rw [List.getElem?_set_ne hk] at eb
      rw [List.getElem?_set_ne hk]
      exact S3.slot b x eb
  · have key : ∀ {b : Nat} {x : SV} {r : Addr}, (ρ.set i (.own p ds))[b]? = some x → x.adr = some r → (b = i ∧ r = p) ∨ (b ≠ i ∧ ρ[b]? = some x) := fun {b x r} e hx => by
      by_cases hk : i = b
      · subst hk
        by_cases hi : i < ρ.length
        · rw [List.getElem?_set_self hi] at e
          cases e
          cases hx
          exact .inl ⟨rfl, rfl⟩
        · rw [List.getElem?_eq_none (by rw [List.length_set]; omega)] at e
          cases e
      · rw [List.getElem?_set_ne hk] at e
        exact .inr ⟨fun z => hk z.symm, e⟩
    have nF := S.fresh e0
    have inF : ∀ {b : Nat} {x : SV} {r : Addr}, ρ[b]? = some x → x.adr = some r → r ∈ F.fs := fun {b x r} e hx => by
      obtain ⟨o, _, h2⟩ := S.slot b _ e
      cases x with
      | own q fs => cases hx; exact h2.2.1
      | dct q fs => cases hx; exact h2.2.1
      | semi q fs gs =>
        cases hx
        obtain ⟨_, _, _, _, _, h3, _⟩ := h2
        exact h3
      | _ => cases hx
    rcases key ha hx with ⟨a1, a2⟩ | ⟨a1, a2⟩ <;> rcases key hb hy with ⟨b1, b2⟩ | ⟨b1, b2⟩
    · exact absurd (a1.trans b1.symm) ne
    · intro z
      exact nF (by rw [← a2, z]; exact inF b2 hy)
    · intro z
      exact nF (by rw [← b2, ← z]; exact inF a2 hx)
    · exact S.nd a b x y r1 r2 a2 b2 hx hy ne
end
/-! ### values that are none -/
def okS : PyData → Bool
  | .str x => decide (x.length ≤ 1000)
  | _ => true
def okB (d : PyData) : Bool := okS d && (decide ((itemsOf d).length ≤ 100) && (itemsOf d).all okS)
theorem bigS_of {d : PyData} (h : okS d = true) : BigS d := fun x e => by
  subst e
  have := of_decide_eq_true (show decide (x.length ≤ 1000) = true from h)
  omega
theorem big_of {d : PyData} (h : okB d = true) : BigS d ∧ BigL d := by
  unfold okB at h
  rw [Bool.and_eq_true, Bool.and_eq_true, decide_eq_true_eq] at h
  exact ⟨bigS_of h.1, by omega, fun e he => bigS_of (List.all_eq_true.mp h.2.2 e he)⟩
def NoBeg (d : PyData) : Prop := begD d = false ∧ okB d = true
def NoLim (d : PyData) : Prop := limD d = false ∧ okB d = true
end DL
namespace DL
open PySem PySem.Spec L2
/-! ### what is no screen -/
def Bg (d : PyData) : Prop := BigS d ∧ BigL d
def Brk (d : PyData) : Prop := scrB d = false ∧ BigT d ∧ BigA d ∧ scrsB d = (listD d && PyData.eqv d (.list [])) ∧ (listD d = true → d.plain = true)
theorem brkT {es : List PyData} (h : scrB (.tuple es) = false) (hb : ∀ e ∈ es, Bg e) : Brk (.tuple es) :=
  ⟨h, fun es' e => by cases e; exact hb, ⟨by show 0 < 4000; decide, fun e he => absurd he List.not_mem_nil⟩, rfl, fun z => by cases z⟩
theorem brk3 {b l s : PyData} (h : scr3 b l s = false) (h1 : Bg b) (h2 : Bg l) (h3 : Bg s) : Brk (.tuple [b, l, s]) := brkT h fun e he => by
  simp only [List.mem_cons, List.not_mem_nil, or_false] at he
  rcases he with rfl | rfl | rfl <;> assumption
theorem brkO {d : PyData} (h1 : ∀ es, d ≠ .tuple es) (h2 : ∀ es, d ≠ .list es) : Brk d := by
  have hs : scrB d = false := by
    cases d with
    | tuple es => exact absurd rfl (h1 es)
    | _ => rfl
  have hi : itemsOf d = [] ∧ listD d = false := by
    cases d with
    | list es => exact absurd rfl (h2 es)
    | _ => exact ⟨rfl, rfl⟩
  refine ⟨hs, fun es e => absurd e (h1 es), ⟨by rw [hi.1]; decide, fun e he => by rw [hi.1] at he; exact absurd he List.not_mem_nil⟩, ?_, fun z => by rw [hi.2] at z; cases z⟩
  unfold scrsB
  rw [hi.2]
  rfl
theorem scr3_b {b l s : PyData} (h : begD b = false) : scr3 b l s = false := by unfold scr3; rw [h]; rfl
theorem scr3_l {b l s : PyData} (h : limD l = false) : scr3 b l s = false := by unfold scr3; rw [h]; simp
theorem scr3_s {b l s : PyData} (h : dictD s = false) : scr3 b l s = false := by unfold scr3; rw [h]; simp
theorem scr3_n {b l s : PyData} (h : intOf l < ((itemsOf s).length : Nat)) : scr3 b l s = false := by unfold scr3; rw [decide_eq_false (by omega : ¬ (((itemsOf s).length : Nat) : Int) ≤ intOf l)]; simp
theorem scr3_a {b l s e : PyData} (he : e ∈ itemsOf s) (h : preS (strOf b) (strOf e) = false) : scr3 b l s = false := by
  unfold scr3
  have : ((itemsOf s).all fun e => preS (strOf b) (strOf e)) = false := by
    rw [List.all_eq_false]
    exact ⟨e, he, by rw [h]; exact Bool.false_ne_true⟩
  rw [this]
  simp
theorem dictD_bad {es : List PyData} {e : PyData} (he : e ∈ es) (h : wordD e = false) : dictD (.list es) = false := by
  have : es.all wordD = false := by
    rw [List.all_eq_false]
    exact ⟨e, he, by rw [h]; exact Bool.false_ne_true⟩
  show (true && (es.all wordD && _)) = false
  rw [this]
  rfl
theorem dictD_dup (y : Str) (zs : List Str) : dictD (strsD (y :: y :: zs)) = false := by
  show (true && (_ && decide _)) = false
  have e : ((y :: y :: zs).map PyData.str).map strOf = y :: y :: zs := by
    rw [List.map_map]
    exact (List.map_congr_left fun x _ => rfl).trans (List.map_id' _)
  have hlt := cnt_lt (val := fun i => (y :: y :: zs).getD i Str.empty) (i := 0) (j := 1) (by decide) rfl (y :: y :: zs).length (by show 1 < zs.length + 2; omega)
  have : decide (cnt (fun i => ((itemsOf (strsD (y :: y :: zs))).map strOf).getD i Str.empty) ((itemsOf (strsD (y :: y :: zs))).map strOf).length = (itemsOf (strsD (y :: y :: zs))).length) = false := by
    refine decide_eq_false ?_
    show ¬ cnt (fun i => (((y :: y :: zs).map PyData.str).map strOf).getD i Str.empty) (((y :: y :: zs).map PyData.str).map strOf).length = ((y :: y :: zs).map PyData.str).length
    rw [e, List.length_map]
    omega
  rw [this]
  simp
theorem bg_int {i : Int} : Bg (.int i) := ⟨fun x e => (by cases e), ⟨by show 0 < 4000; decide, fun e he => absurd he List.not_mem_nil⟩⟩
theorem bg_non : Bg .none := ⟨fun x e => (by cases e), ⟨by show 0 < 4000; decide, fun e he => absurd he List.not_mem_nil⟩⟩
theorem bg_str {x : Str} (h : x.length ≤ 1000000) : Bg (.str x) := ⟨fun y e => (by cases e; exact h), ⟨by show 0 < 4000; decide, fun e he => absurd he List.not_mem_nil⟩⟩
theorem bg_tup {es : List PyData} : Bg (.tuple es) := ⟨fun y e => (by cases e), ⟨by show 0 < 4000; decide, fun e he => absurd he List.not_mem_nil⟩⟩
theorem bg_list {es : List PyData} (hl : es.length < 4000) (h : ∀ e ∈ es, BigS e) : Bg (.list es) := ⟨fun y e => (by cases e), ⟨hl, h⟩⟩
theorem pre_not {b x : Str} {c : Nat} (h1 : c ∈ b.cps.toList) (h2 : c ∉ x.cps.toList) : preS b x = false := by
  unfold preS
  refine decide_eq_false fun e => h2 ?_
  rw [← e] at h1
  exact List.mem_of_mem_take h1
theorem pre_head {b x : Str} {c : Nat} {l : List Nat} (hb : 1 ≤ b.length) (hx : x.cps.toList = c :: l) (hc : c ∉ b.cps.toList) : preS b x = false := by
  unfold preS
  refine decide_eq_false fun e => hc ?_
  rw [← e, hx]
  cases hn : b.length with
  | zero => omega
  | succ n => exact List.mem_cons_self
end DL
namespace DL
open PySem PySem.Spec L2
/-- the length by another name -/
theorem Cld.toLen {r : List V → Hp → VK → Prop} {ds : List PyData} {n m : Nat} (h : Cld r ds (· = .int (n : Nat))) (e : n = m) : Cld r ds (· = .int (m : Nat)) := by
  subst e
  exact h
end DL
namespace DL
open PySem PySem.Spec L2
theorem scrsB_long {us : List Scr} (h : 20 < us.length) : scrsB (screensD us) = false := by
  show (true && (decide ((us.map scrD).length ≤ 20) && _)) = false
  rw [List.length_map, decide_eq_false (by omega)]
  rfl
theorem scrsB_bad {es : List PyData} {e : PyData} (he : e ∈ es) (h : scrB e = false) : scrsB (.list es) = false := by
  have : es.all scrB = false := by
    rw [List.all_eq_false]
    exact ⟨e, he, by rw [h]; exact Bool.false_ne_true⟩
  show (true && (decide (es.length ≤ 20) && es.all scrB)) = false
  rw [this]
  simp
theorem rep_map {α β : Type} (f : α → β) (k : Nat) (xs : List α) : (List.replicate k (xs.map f)).flatten = ((List.replicate k xs).flatten).map f := by
  induction k with
  | zero => rfl
  | succ k ih => rw [List.replicate_succ, List.replicate_succ, List.flatten_cons, List.flatten_cons, List.map_append, ih]
theorem mem_rep {α : Type} {k : Nat} {xs : List α} {x : α} (h : x ∈ (List.replicate k xs).flatten) : x ∈ xs := by
  obtain ⟨l, hl, hx⟩ := List.mem_flatten.mp h
  rw [(List.mem_replicate.mp hl).2] at hx
  exact hx
theorem len_rep {α : Type} (k : Nat) (xs : List α) : (List.replicate k xs).flatten.length = k * xs.length := by
  induction k with
  | zero => rw [Nat.zero_mul]; rfl
  | succ k ih => rw [List.replicate_succ, List.flatten_cons, List.length_append, ih, Nat.succ_mul]; omega
/-- a list so many times -/
theorem ee_rp {A : Amb} {ρ : List SV} {ta tb : TE} {c1 c2 : Nat} {α : Type} {f : α → PyData} {xs : List α} {k : Nat} (h1 : EE A ta ρ c1 (· = .list (xs.map f))) (h2 : ER A tb ρ c2 (· = .int (k : Nat))) (hk : k ≤ 1000) (hx : xs.length ≤ 1000) : EE A (tOp rMulA ta tb) ρ (c1 + c2) (· = .list ((List.replicate k xs).flatten.map f)) :=
  ee_repR h1 h2 fun d1 d2 e1 e2 => ⟨xs.map f, k, e1, e2, by omega, by rw [List.length_map]; have := Nat.mul_le_mul hx hk; have := sizeLine_eq; omega, by rw [rep_map]⟩
theorem cut_last {α : Type} (f : α → PyData) (xs : List α) (h : 1 ≤ xs.length) : ∃ us : List α, cutD (xs.map f) (some (-5)) none = us.map f ∧ 1 ≤ us.length ∧ us.length ≤ 5 ∧ ∀ u ∈ us, u ∈ xs := by
  have e : HT.sIx (xs.map f).length 0 (some (-5)) = (-5 + ((xs.length : Nat) : Int)).toNat := by
    rw [List.length_map]
    show (if (-5 : Int) < 0 then (-5 + ((xs.length : Nat) : Int)).toNat else min (-5 : Int).toNat xs.length) = _
    rw [if_pos (by decide)]
  refine ⟨xs.drop (-5 + ((xs.length : Nat) : Int)).toNat, ?_, ?_, ?_, fun u hu => List.mem_of_mem_drop hu⟩
  · unfold cutD
    rw [e, HT.sIx_none, List.map_drop, List.take_of_length_le (by rw [List.length_drop]; omega)]
  · rw [List.length_drop]
    omega
  · rw [List.length_drop]
    omega
theorem cld_reprScr {ts : List Scr} (hn : ts.length ≤ 20) (h : ∀ s ∈ ts, ScrOk s) : Cld rReprPB [screensD ts] (· = .str (screensD ts).shown) :=
  cld_reprPl (cld_repr (ds := ts.map scrD) (screens_plain ts).1 ((screens_plain ts).2.2 fun s hs => (h s hs).l2) (by have := (screens_plain ts).2.1; show (screensD ts).depth ≤ 60; omega) (by have := shown_screens (ss := ts) (by omega) h; have := sizeLine_eq; show (screensD ts).shown.length ≤ _; omega))
end DL

set_option linter.all false
set_option maxRecDepth 100000
set_option maxHeartbeats 4000000
/-! DLC: clashes of two screens: what find_clash looks for is what the words say -/
namespace DL
open PySem PySem.Spec L2
section
variable {α : Type} [DecidableEq α]
theorem sub2_cons {x y a : α} {l : List α} : [x, y].Sublist (a :: l) ↔ (x = a ∧ y ∈ l) ∨ [x, y].Sublist l := by
  constructor
  · intro h
    cases h with
    | cons _ h => exact .inr h
    | cons_cons _ h => exact .inl ⟨rfl, List.singleton_sublist.mp h⟩
  · rintro (⟨rfl, h⟩ | h)
    · exact List.Sublist.cons_cons _ (List.singleton_sublist.mpr h)
    · exact List.Sublist.cons _ h
theorem sub2_lt {l : List α} (nd : l.Nodup) : ∀ {i j : Nat} {x y : α}, [x, y].Sublist l → l[i]? = some x → l[j]? = some y → i < j := by
  induction l with
  | nil => intro i j x y h; cases h
  | cons a l ih =>
    intro i j x y h hi hj
    have nd' := List.nodup_cons.mp nd
    rcases sub2_cons.mp h with ⟨rfl, hy⟩ | h
    · cases i with
      | succ i =>
        rw [List.getElem?_cons_succ] at hi
        exact absurd (List.mem_of_getElem? hi) nd'.1
      | zero =>
        cases j with
        | zero =>
          cases hj
          exact absurd hy nd'.1
        | succ j => exact Nat.succ_pos _
    · have hx : x ∈ l := h.subset List.mem_cons_self
      have hy : y ∈ l := h.subset (List.mem_cons_of_mem _ List.mem_cons_self)
      cases i with
      | zero =>
        cases hi
        exact absurd hx nd'.1
      | succ i =>
        cases j with
        | zero =>
          cases hj
          exact absurd hy nd'.1
        | succ j => exact Nat.succ_lt_succ (ih nd'.2 h hi hj)
theorem sub2_of {l : List α} : ∀ {i j : Nat} {x y : α}, l[i]? = some x → l[j]? = some y → i < j → [x, y].Sublist l := by
  induction l with
  | nil => intro i j x y h; simp at h
  | cons a l ih =>
    intro i j x y hi hj h
    cases j with
    | zero => omega
    | succ j =>
      cases i with
      | zero =>
        cases hi
        exact sub2_cons.mpr (.inl ⟨rfl, List.mem_of_getElem? hj⟩)
      | succ i => exact sub2_cons.mpr (.inr (ih hi hj (by omega)))
theorem get_idx {l : List α} {x : α} (h : x ∈ l) : l[l.idxOf x]? = some x := by
  have hl := List.idxOf_lt_length_of_mem h
  rw [List.getElem?_eq_getElem hl, List.getElem_idxOf hl]
theorem idx_sub2 {l : List α} (nd : l.Nodup) {x y : α} (hx : x ∈ l) (hy : y ∈ l) : l.idxOf x < l.idxOf y ↔ [x, y].Sublist l :=
  ⟨fun h => sub2_of (get_idx hx) (get_idx hy) h, fun h => sub2_lt nd h (get_idx hx) (get_idx hy)⟩
theorem get_inj {l : List α} (nd : l.Nodup) {i j : Nat} {x : α} (hi : l[i]? = some x) (hj : l[j]? = some x) : i = j := by
  have h1 := (List.getElem?_eq_some_iff.mp hi).1
  have h2 := (List.getElem?_eq_some_iff.mp hj).1
  exact (List.getElem?_inj h1 nd).mp (hi.trans hj.symm)
/-- the first two that differ -/
def swp (A B : List α) : Option (α × α) := (A.zip B).find? fun p => !decide (p.1 = p.2)
theorem zip_pre : ∀ {A B : List α}, (∀ p ∈ A.zip B, p.1 = p.2) → ∀ {i : Nat} {x y : α}, A[i]? = some x → B[i]? = some y → x = y
  | A, B, h, i, x, y, hx, hy => h (x, y) (List.mem_of_getElem? (List.getElem?_zip_eq_some.mpr ⟨hx, hy⟩))
/-- where none differ, no two stand the other way round -/
theorem swp_none {A B : List α} (nA : A.Nodup) (nB : B.Nodup) (h : swp A B = none) {t m : α} (ht : t ∈ A) (hm : m ∈ B) (h1 : m ∉ A ∨ [t, m].Sublist A) (h2 : t ∉ B ∨ [m, t].Sublist B) : False := by
  have all : ∀ p ∈ A.zip B, p.1 = p.2 := fun p hp => by
    have := List.find?_eq_none.mp h p hp
    simpa using this
  obtain ⟨p, hp⟩ := List.getElem?_of_mem ht
  obtain ⟨q, hq⟩ := List.getElem?_of_mem hm
  have lp := (List.getElem?_eq_some_iff.mp hp).1
  have lq := (List.getElem?_eq_some_iff.mp hq).1
  by_cases hpq : p ≤ q
  · have hb : B[p]? = some B[p] := List.getElem?_eq_getElem (by omega)
    have e := zip_pre all hp hb
    rw [← e] at hb
    rcases h2 with h2 | h2
    · exact h2 (List.mem_of_getElem? hb)
    · have := sub2_lt nB h2 hq hb
      omega
  · have ha : A[q]? = some A[q] := List.getElem?_eq_getElem (by omega)
    have e := zip_pre all ha hq
    rw [e] at ha
    rcases h1 with h1 | h1
    · exact h1 (List.mem_of_getElem? ha)
    · have := sub2_lt nA h1 hp ha
      omega
/-- the first two that differ stand the other way round -/
theorem swp_some {A B : List α} (nA : A.Nodup) (nB : B.Nodup) {x y : α} (h : swp A B = some (x, y)) : x ∈ A ∧ y ∈ B ∧ x ≠ y ∧ (y ∉ A ∨ [x, y].Sublist A) ∧ (x ∉ B ∨ [y, x].Sublist B) := by
  obtain ⟨hn, as, bs, e, hall⟩ := List.find?_eq_some_iff_append.mp h
  have ne : x ≠ y := by simpa using hn
  have hz : (A.zip B)[as.length]? = some (x, y) := by rw [e, List.getElem?_append_right (Nat.le_refl _), Nat.sub_self]; rfl
  obtain ⟨hx, hy⟩ := List.getElem?_zip_eq_some.mp hz
  have pre : ∀ {r : Nat} {u v : α}, r < as.length → A[r]? = some u → B[r]? = some v → u = v := fun {r u v} hr hu hv => by
    have hz2 : (A.zip B)[r]? = some (u, v) := List.getElem?_zip_eq_some.mpr ⟨hu, hv⟩
    rw [e, List.getElem?_append_left hr] at hz2
    have := hall _ (List.mem_of_getElem? hz2)
    simpa using this
  have lx := (List.getElem?_eq_some_iff.mp hx).1
  have ly := (List.getElem?_eq_some_iff.mp hy).1
  refine ⟨List.mem_of_getElem? hx, List.mem_of_getElem? hy, ne, ?_, ?_⟩
  · by_cases hm : y ∈ A
    · obtain ⟨r, hr⟩ := List.getElem?_of_mem hm
      refine .inr (sub2_of hx hr ?_)
      rcases Nat.lt_trichotomy r as.length with h | h | h
      · have hb : B[r]? = some B[r] := List.getElem?_eq_getElem (by omega)
        have e2 := pre h hr hb
        rw [← e2] at hb
        have := get_inj nB hb hy
        omega
      · rw [h, hx] at hr
        exact absurd (Option.some.inj hr) ne
      · exact h
    · exact .inl hm
  · by_cases hm : x ∈ B
    · obtain ⟨r, hr⟩ := List.getElem?_of_mem hm
      refine .inr (sub2_of hy hr ?_)
      rcases Nat.lt_trichotomy r as.length with h | h | h
      · have ha : A[r]? = some A[r] := List.getElem?_eq_getElem (by omega)
        have e2 := pre h ha hr
        rw [e2] at ha
        have := get_inj nA ha hx
        omega
      · rw [h, hy] at hr
        exact absurd (Option.some.inj hr).symm ne
      · exact h
    · exact .inl hm
theorem sub2_filter {p : α → Bool} {l : List α} {x y : α} (hx : p x = true) (hy : p y = true) : [x, y].Sublist (l.filter p) ↔ [x, y].Sublist l := by
  refine ⟨fun h => h.trans List.filter_sublist, fun h => ?_⟩
  have := h.filter p
  rw [List.filter_cons, if_pos hx, List.filter_cons, if_pos hy, List.filter_nil] at this
  exact this
end
/-! ### screens -/
def missS (s : Scr) (w : Str) : Bool := decide (s.ys.length < s.l) && (preS s.b w && !decide (w ∈ s.ys))
def putsS (s : Scr) (x y : Str) : Bool := decide (x ∈ s.ys) && (!decide (x = y) && (preS s.b y && (!decide (y ∈ s.ys) || decide (s.ys.idxOf x < s.ys.idxOf y))))
def swapS (s t : Scr) : Option (Str × Str) := swp (s.ys.filter (preS t.b)) (t.ys.filter (preS s.b))
/-- two screens that clash by the words -/
def tornS (s t : Scr) : Bool := t.ys.any (missS s) || s.ys.any fun x => t.ys.any fun y => putsS s x y && putsS t y x
theorem putsS_iff {s : Scr} (h : ScrOk s) {x y : Str} : putsS s x y = true ↔ x ∈ s.ys ∧ x ≠ y ∧ preS s.b y = true ∧ (y ∉ s.ys ∨ [x, y].Sublist s.ys) := by
  unfold putsS
  rw [Bool.and_eq_true, Bool.and_eq_true, Bool.and_eq_true, Bool.or_eq_true, decide_eq_true_eq, Bool.not_eq_true', decide_eq_false_iff_not, Bool.not_eq_true', decide_eq_false_iff_not, decide_eq_true_eq]
  refine and_congr_right fun hx => and_congr_right fun _ => and_congr_right fun _ => ?_
  by_cases hy : y ∈ s.ys
  · rw [idx_sub2 h.w.1 hx hy]
  · exact ⟨fun _ => .inl hy, fun _ => .inl hy⟩
/-- the pair that is found puts its words both ways round -/
theorem swapS_puts {s t : Scr} (hs : ScrOk s) (ht : ScrOk t) {x y : Str} (h : swapS s t = some (x, y)) : x ∈ s.ys ∧ y ∈ t.ys ∧ putsS s x y = true ∧ putsS t y x = true := by
  obtain ⟨h1, h2, h3, h4, h5⟩ := swp_some (hs.w.1.sublist List.filter_sublist) (ht.w.1.sublist List.filter_sublist) h
  obtain ⟨a1, a2⟩ := List.mem_filter.mp h1
  obtain ⟨b1, b2⟩ := List.mem_filter.mp h2
  refine ⟨a1, b1, (putsS_iff hs).mpr ⟨a1, h3, b2, ?_⟩, (putsS_iff ht).mpr ⟨b1, fun e => h3 e.symm, a2, ?_⟩⟩
  · by_cases hm : y ∈ s.ys
    · have ty : preS t.b y = true := (ht.w.2 y b1).2
      rcases h4 with h4 | h4
      · exact absurd (List.mem_filter.mpr ⟨hm, ty⟩) h4
      · exact .inr ((sub2_filter a2 ty).mp h4)
    · exact .inl hm
  · by_cases hm : x ∈ t.ys
    · have sx : preS s.b x = true := (hs.w.2 x a1).2
      rcases h5 with h5 | h5
      · exact absurd (List.mem_filter.mpr ⟨hm, sx⟩) h5
      · exact .inr ((sub2_filter b2 sx).mp h5)
    · exact .inl hm
theorem swapS_none {s t : Scr} (hs : ScrOk s) (ht : ScrOk t) (h : swapS s t = none) {x y : Str} (h1 : putsS s x y = true) (h2 : putsS t y x = true) : False := by
  obtain ⟨a1, a2, a3, a4⟩ := (putsS_iff hs).mp h1
  obtain ⟨b1, b2, b3, b4⟩ := (putsS_iff ht).mp h2
  have tx : preS t.b x = true := b3
  have sy : preS s.b y = true := a3
  have ty : preS t.b y = true := (ht.w.2 y b1).2
  have sx : preS s.b x = true := (hs.w.2 x a1).2
  refine swp_none (hs.w.1.sublist List.filter_sublist) (ht.w.1.sublist List.filter_sublist) h (List.mem_filter.mpr ⟨a1, tx⟩) (List.mem_filter.mpr ⟨b1, sy⟩) ?_ ?_
  · rcases a4 with a4 | a4
    · exact .inl fun z => a4 (List.mem_filter.mp z).1
    · exact .inr ((sub2_filter tx ty).mpr a4)
  · rcases b4 with b4 | b4
    · exact .inl fun z => b4 (List.mem_filter.mp z).1
    · exact .inr ((sub2_filter sy sx).mpr b4)
/-- what the program looks for in a pair of screens is what the words say -/
theorem tornS_iff {s t : Scr} (hs : ScrOk s) (ht : ScrOk t) : tornS s t = (t.ys.any (missS s) || (swapS s t).isSome) := by
  unfold tornS
  cases hm : t.ys.any (missS s) with
  | true => rfl
  | false =>
    rw [Bool.false_or, Bool.false_or]
    cases hw : swapS s t with
    | some p =>
      obtain ⟨x, y⟩ := p
      obtain ⟨h1, h2, h3, h4⟩ := swapS_puts hs ht hw
      exact List.any_eq_true.mpr ⟨x, h1, List.any_eq_true.mpr ⟨y, h2, by rw [h3, h4]; rfl⟩⟩
    | none =>
      refine List.any_eq_false.mpr fun x _ z => ?_
      obtain ⟨y, _, h⟩ := List.any_eq_true.mp z
      rw [Bool.and_eq_true] at h
      exact swapS_none hs ht hw h.1 h.2
/-- screens that clash -/
def tornAll (ss : List Scr) : Bool := ss.any fun s => ss.any fun t => tornS s t
theorem torn_mono {ss ts : List Scr} (h : ∀ s ∈ ss, s ∈ ts) (ht : tornAll ss = true) : tornAll ts = true := by
  unfold tornAll at ht ⊢
  obtain ⟨s, hs, h2⟩ := List.any_eq_true.mp ht
  obtain ⟨t, ht', h3⟩ := List.any_eq_true.mp h2
  exact List.any_eq_true.mpr ⟨s, h s hs, List.any_eq_true.mpr ⟨t, h t ht', h3⟩⟩
end DL
namespace DL
open PySem PySem.Spec L2
section
variable {X : Cx} {K : PySem.W.Frag} {e : Expr} {es elts : List Expr} {te ta : TE} {t : TA} {p pos tpos : Pos}
theorem kStar (he : PE X e te) (hr : PA X es t) (hs : starEach (.Starred e p :: es) X.env = (true, eval e X.env) :: starEach es X.env := by rfl) (h : X.K = K := by rfl) : PA X (.Starred e p :: es) (StX.tStar K te t) := by
  subst h
  exact StX.pa_star he hr hs
theorem kEnum {kk : Nat} (hg : Gl X "enumerate") (hm : X.mg "enumerate" = none) (ha : PA X [e] t) (hs : starEach [e] X.env = [(false, eval e X.env)] := by rfl) (h : X.K = K := by rfl) : PI X (.Tuple elts kk tpos) (.Call (.Name "enumerate" p) [e] [] pos) (iEnum K t) := by
  subst h
  exact pi_enum hg hm ha hs
end
section
variable {A : Amb} {ρ : List SV} {te ta tb : TE} {tr : TA} {c1 c2 : Nat} {K : PySem.W.Frag}
theorem ea_star {ds es : List PyData} (h1 : EE A te ρ c1 (· = .tuple ds)) (h2 : EA A tr ρ c2 (· = es)) : EA A (StX.tStar K te tr) ρ (c1 + c2) (· = ds ++ es) := fun F σ H n Q S l q => by
  refine h1 F σ H n _ S (by omega) fun v d H1 s1 j1 k1 r1 => ?_
  subst r1
  have S1 := S.step s1 j1
  cases k1 with
  | tup hp kk =>
    refine ⟨_, _, rfl, .inl (.inl (.inl (off_some hp).2)), ?_⟩
    refine h2 F σ H1 (n + c1) _ S1 (by omega) fun vs fs H2 s2 j2 k2 r2 => ?_
    subst r2
    exact q _ _ H2 (s1.trans s2) (by rw [← Nat.add_assoc]; exact j2) ((kk.mono (S1.offF s2)).append k2) rfl
/-- a part of a screen -/
theorem ee_prt {s : Scr} {i : Nat} {d : PyData} (h1 : EE A ta ρ c1 (· = scrD s)) (h2 : ER A tb ρ c2 (· = .int (i : Nat))) (hd : [PyData.str s.b, .int (s.l : Nat), strsD s.ys][i]? = some d) : EE A (tOp (rIx K) ta tb) ρ (c1 + c2) (· = d) :=
  ee_ixR h1 h2 fun d1 d2 e1 e2 => ⟨_, _, d, .inr e1, e2, atI_nat hd, rfl⟩
end
/-! ### the clash that is found -/
def pairF (i : Nat) (s : Scr) (k : Nat) (t : Scr) : Option PyData :=
  match t.ys.find? (missS s) with
  | some w => some (.tuple [.str "missing", .int (i : Nat), .int (k : Nat), .str w])
  | none => (swapS s t).map fun p => .tuple [.str "order", .int (i : Nat), .int (k : Nat), .str p.1, .str p.2]
def rowF (ss : List Scr) (i : Nat) (s : Scr) : Option PyData := ss.zipIdx.findSome? fun q => pairF i s q.2 q.1
def clashF (ss : List Scr) : Option PyData := ss.zipIdx.findSome? fun q => rowF ss q.2 q.1
theorem find_some_at {α β : Type} {f : α → Option β} : ∀ {l : List α} {i : Nat} {a : α} {b : β}, l[i]? = some a → (∀ j < i, ∀ x, l[j]? = some x → f x = none) → f a = some b → l.findSome? f = some b
  | [], _, _, _, h, _, _ => by simp at h
  | x :: l, 0, a, b, h, _, hb => by
    cases h
    rw [List.findSome?_cons, hb]
  | x :: l, i + 1, a, b, h, hp, hb => by
    rw [List.findSome?_cons, hp 0 (Nat.succ_pos _) x rfl]
    exact find_some_at (l := l) (i := i) (by simpa using h) (fun j hj y hy => hp (j + 1) (Nat.succ_lt_succ hj) y (by simpa using hy)) hb
theorem find_none_all {α β : Type} {f : α → Option β} {l : List α} (h : ∀ (j : Nat) x, l[j]? = some x → f x = none) : l.findSome? f = none := by
  rw [List.findSome?_eq_none_iff]
  intro x hx
  obtain ⟨j, hj⟩ := List.getElem?_of_mem hx
  exact h j x hj
theorem idx_get {α : Type} {l : List α} {i : Nat} {q : α × Nat} (h : l.zipIdx[i]? = some q) : l[i]? = some q.1 ∧ q.2 = i := by
  rw [List.getElem?_zipIdx] at h
  cases hx : l[i]? with
  | none => rw [hx] at h; cases h
  | some x =>
    rw [hx] at h
    cases h
    exact ⟨rfl, Nat.zero_add i⟩
theorem get_idx2 {α : Type} {l : List α} {i : Nat} {x : α} (h : l[i]? = some x) : l.zipIdx[i]? = some (x, i) := by
  rw [List.getElem?_zipIdx, h, Nat.zero_add]
  rfl
theorem enum_get {α : Type} {f : α → PyData} {l : List α} {i : Nat} {d : PyData} (h : (enumD (l.map f))[i]? = some d) : ∃ x, l[i]? = some x ∧ d = .tuple [.int (i : Nat), f x] := by
  unfold enumD at h
  rw [List.getElem?_map] at h
  cases hx : ((l.map f).zipIdx)[i]? with
  | none => rw [hx] at h; cases h
  | some q =>
    rw [hx] at h
    cases h
    obtain ⟨h1, h2⟩ := idx_get hx
    rw [List.getElem?_map] at h1
    cases hy : l[i]? with
    | none => rw [hy] at h1; cases h1
    | some x =>
      rw [hy] at h1
      have h3 : f x = q.1 := Option.some.inj h1
      exact ⟨x, rfl, by show PyData.tuple [.int (q.2 : Nat), q.1] = _; rw [h2, h3]⟩
theorem enum_len (ds : List PyData) : (enumD ds).length = ds.length := by unfold enumD; rw [List.length_map, List.length_zipIdx]
/-- a pair gives nothing exactly if the two do not clash -/
theorem pairF_none {i k : Nat} {s t : Scr} (hs : ScrOk s) (ht : ScrOk t) : pairF i s k t = none ↔ tornS s t = false := by
  rw [tornS_iff hs ht]
  unfold pairF
  cases hf : t.ys.find? (missS s) with
  | some w =>
    have hm := List.find?_some hf
    have hw := List.mem_of_find?_eq_some hf
    have : t.ys.any (missS s) = true := List.any_eq_true.mpr ⟨w, hw, hm⟩
    rw [this]
    exact ⟨fun z => (by cases z), fun z => (by cases z)⟩
  | none =>
    have : t.ys.any (missS s) = false := by
      rw [List.any_eq_false]
      exact List.find?_eq_none.mp hf
    rw [this, Bool.false_or]
    cases swapS s t with
    | none => exact ⟨fun _ => rfl, fun _ => rfl⟩
    | some p => exact ⟨fun z => (by cases z), fun z => (by cases z)⟩
theorem clashF_none {ss : List Scr} (h : ∀ s ∈ ss, ScrOk s) : clashF ss = none ↔ tornAll ss = false := by
  unfold clashF tornAll
  rw [List.findSome?_eq_none_iff, List.any_eq_false]
  constructor
  · intro h1 s hs h2
    obtain ⟨t, ht, h3⟩ := List.any_eq_true.mp h2
    obtain ⟨i, hi⟩ := List.getElem?_of_mem hs
    obtain ⟨k, hk⟩ := List.getElem?_of_mem ht
    have h4 := h1 (s, i) (List.mem_of_getElem? (get_idx2 hi))
    unfold rowF at h4
    rw [List.findSome?_eq_none_iff] at h4
    have h5 := h4 (t, k) (List.mem_of_getElem? (get_idx2 hk))
    rw [(pairF_none (h s hs) (h t ht)).mp h5] at h3
    cases h3
  · intro h1 q hq
    unfold rowF
    rw [List.findSome?_eq_none_iff]
    intro r hr
    obtain ⟨i, hi⟩ := List.getElem?_of_mem hq
    obtain ⟨k, hk⟩ := List.getElem?_of_mem hr
    have hs := List.mem_of_getElem? (idx_get hi).1
    have ht := List.mem_of_getElem? (idx_get hk).1
    refine (pairF_none (h _ hs) (h _ ht)).mpr ?_
    cases ht2 : tornS q.1 r.1 with
    | false => rfl
    | true => exact absurd (List.any_eq_true.mpr ⟨r.1, ht, ht2⟩) (h1 q.1 hs)
end DL
namespace DL
open PySem PySem.Spec L2
theorem zip_strs {xs ys : List Str} {i : Nat} {d : PyData} (h : (zipD (xs.map .str) (ys.map .str))[i]? = some d) : ∃ x y, (xs.zip ys)[i]? = some (x, y) ∧ d = .tuple [.str x, .str y] := by
  unfold zipD at h
  rw [List.getElem?_map] at h
  cases hz : ((xs.map PyData.str).zip (ys.map PyData.str))[i]? with
  | none => rw [hz] at h; cases h
  | some p =>
    rw [hz] at h
    cases h
    obtain ⟨h1, h2⟩ := List.getElem?_zip_eq_some.mp hz
    obtain ⟨x, e1, hx⟩ := strs_get h1
    obtain ⟨y, e2, hy⟩ := strs_get h2
    exact ⟨x, y, List.getElem?_zip_eq_some.mpr ⟨hx, hy⟩, by show PyData.tuple [p.1, p.2] = _; rw [e1, e2]⟩
theorem swp_at {α : Type} [DecidableEq α] {A B : List α} {i : Nat} {x y : α} (h : (A.zip B)[i]? = some (x, y)) (hp : ∀ j < i, ∀ p, (A.zip B)[j]? = some p → p.1 = p.2) (ne : x ≠ y) : swp A B = some (x, y) := by
  unfold swp
  have key : ∀ {l : List (α × α)} {i : Nat}, l[i]? = some (x, y) → (∀ j < i, ∀ p, l[j]? = some p → p.1 = p.2) → l.find? (fun p => !decide (p.1 = p.2)) = some (x, y) := fun {l} => by
    induction l with
    | nil => intro i h; simp at h
    | cons p l ih =>
      intro i h hp
      cases i with
      | zero =>
        cases h
        rw [List.find?_cons_of_pos]
        simpa using ne
      | succ i =>
        rw [List.find?_cons_of_neg (by have := hp 0 (Nat.succ_pos _) p rfl; simpa using this)]
        exact ih (i := i) (by simpa using h) fun j hj q hq => hp (j + 1) (Nat.succ_lt_succ hj) q (by simpa using hq)
  exact key h hp
theorem swp_end {α : Type} [DecidableEq α] {A B : List α} (hp : ∀ (j : Nat), ∀ p, (A.zip B)[j]? = some p → p.1 = p.2) : swp A B = none := by
  unfold swp
  rw [List.find?_eq_none]
  intro p hm
  obtain ⟨j, hj⟩ := List.getElem?_of_mem hm
  simpa using hp j p hj
theorem eqv_str (x y : Str) : PyData.eqv (.str x) (.str y) = decide (x = y) := by
  simp only [PyData.eqv]
  by_cases h : x = y
  · rw [h]; simp
  · rw [decide_eq_false h]; simpa using h
end DL
namespace DL
open PySem PySem.Spec L2
theorem find_at {α : Type} {p : α → Bool} : ∀ {l : List α} {i : Nat} {a : α}, l[i]? = some a → (∀ j < i, ∀ x, l[j]? = some x → p x = false) → p a = true → l.find? p = some a
  | [], _, _, h, _, _ => by simp at h
  | x :: l, 0, a, h, _, hb => by
    cases h
    rw [List.find?_cons_of_pos hb]
  | x :: l, i + 1, a, h, hp, hb => by
    rw [List.find?_cons_of_neg (by rw [hp 0 (Nat.succ_pos _) x rfl]; exact Bool.false_ne_true)]
    exact find_at (l := l) (i := i) (by simpa using h) (fun j hj y hy => hp (j + 1) (Nat.succ_lt_succ hj) y (by simpa using hy)) hb
end DL
namespace DL
open PySem PySem.Spec L2
theorem kIndex {X : Cx} {K : PySem.W.Frag} (h : X.K = K := by rfl) : MtR X "list.index" (rIndex K) := by
  subst h
  exact mt_index
/-- where a text stands first -/
theorem ee_index {A : Amb} {ρ : List SV} {ta tb : TE} {c1 c2 : Nat} {K : PySem.W.Frag} {ys : List Str} {x : Str} (h1 : EE A ta ρ c1 (· = strsD ys)) (h2 : EE A tb ρ c2 (· = .str x)) (hx : x ∈ ys) : EE A (tBM K "list" (rIndex K) ta (tCons tb tNil)) ρ (c1 + c2) (· = .int (ys.idxOf x : Nat)) := fun F σ H n Q S l q => by
  refine h1 F σ H n _ S (by omega) fun v d H1 s1 j1 k1 r1 => ?_
  subst r1
  have S1 := S.step s1 j1
  cases k1 with
  | lst hp kk =>
    rename_i a vs
    have ev := kk.strs
    subst ev
    refine ⟨.inl ⟨rfl, _, .inl (.inl (off_some hp).2)⟩, ?_⟩
    refine h2 F σ H1 (n + c1) _ S1 (by omega) fun w d H2 s2 j2 k2 r2 => ?_
    subst r2
    cases k2
    have hp2 := S1.offF s2 _ _ hp
    have hl := List.idxOf_lt_length_of_mem hx
    have fl : ∀ (zs : List Str), (zs.map V.str).all flatV = true := fun zs => by
      rw [List.all_map, List.all_eq_true]
      intro z _
      rfl
    have eqs : ∀ (u z : Str), eqV (.str u) (.str z) = decide (u = z) := fun u z => (flat_eqv (H := H2) (.str u) (.str z) rfl rfl).trans (eqv_str u z)
    refine ⟨a, _, .str x, ys.idxOf x, .str x, rfl, rfl, .inl (.inl (off_some hp2).2), rfl, fl ys, ?_, (eqs x x).trans (decide_eq_true rfl), fun m z' hm hz => ?_, q _ _ H2 (s1.trans s2) (by rw [← Nat.add_assoc]; exact j2) (.int _) rfl⟩
    · rw [List.getElem?_map, get_idx hx]
      rfl
    · rw [List.getElem?_map] at hz
      cases hy : ys[m]? with
      | none => rw [hy] at hz; cases hz
      | some y =>
        rw [hy] at hz
        cases hz
        rw [eqs]
        refine decide_eq_false fun e => ?_
        have hml : m < ys.length := (List.getElem?_eq_some_iff.mp hy).1
        have h3 := List.not_of_lt_findIdx (p := (· == x)) (xs := ys) hm
        have h4 : ys[m] = x := ((List.getElem?_eq_some_iff.mp hy).2).trans e
        rw [h4, beq_self_eq_true] at h3
        cases h3
end DL
namespace DL
open PySem PySem.Spec L2
/-- [x for x in texts if g x] != [] -/
theorem et_some {A : Amb} {ρ : List SV} {wi : TI} {g : TG} {tt : TT} {te : TE} {vs : List Nat} {c0 : Nat} {ys : List Str} (q : Str → Bool) (hi : EI A wi ρ c0 (· = ys.map .str)) (hl : ys.length ≤ 16000000)
    (ht : ∀ (i : Nat) x, ys[i]? = some x → ∃ ρ1, TGw A g vs (.str x) (wip ρ vs) ρ1 ∧ ET A tt ρ1 0 (· = q x) ∧ (q x = true → EE A te ρ1 0 (· = .str x))) : ET A (tTest (tOp rNeP (tLc wi g tt te vs) (tLst tNil))) ρ (c0 + 0 + 0) (· = ys.any q) := by
  let p : PyData → Bool := fun d => match d with | .str x => q x | _ => false
  refine (et_testB (ee_op (d1 := .list (((ys.map PyData.str).filter p).map fun d => d)) (ee_fil p (fun d => d) hi (by rw [List.length_map]; exact hl) fun i d he => ?_).r (ee_lst ea_nil).r (od_ne (plain_strsD fun d hd => ?_) rfl (Nat.le_trans (Nat.min_le_right _ _) (by decide)))).r).imp fun b e => ?_
  · obtain ⟨x, rfl, hx⟩ := strs_get he
    exact ht i x hx
  · rw [List.map_id'] at hd
    obtain ⟨x, _, rfl⟩ := List.mem_map.mp (List.mem_filter.mp hd).1
    exact ⟨x, rfl⟩
  · rw [e, fil_nilG, List.all_map]
    have e2 : ((fun d => !p d) ∘ PyData.str) = fun x => !q x := rfl
    rw [e2]
    induction ys with
    | nil => rfl
    | cons y ys ih =>
      rw [List.all_cons, List.any_cons, Bool.not_and, Bool.not_not]
      congr 1
      clear ih e e2 hi hl ht
      induction ys with
      | nil => rfl
      | cons z zs ih => rw [List.all_cons, List.any_cons, Bool.not_and, Bool.not_not, ih]
end DL
namespace DL
open PySem PySem.Spec L2
def rListOf (K : PySem.W.Frag) : List V → Hp → VK → Prop := fun xs H Q => ∃ p ys, xs = [.ref p] ∧ (SqL K H p ys ∨ SqT K H p ys) ∧ ∀ l, H l = none → Q (.ref l) (upd H l (.lst ys))
theorem kListOf {X : Cx} {K : PySem.W.Frag} (h : X.K = K := by rfl) : CallR X (.type "list") (rListOf K) := by
  subst h
  exact call_list_of
theorem ee_listOf {A : Amb} {ρ : List SV} {ta : TE} {c : Nat} {K : PySem.W.Frag} {ds : List PyData} (h : EE A ta ρ c (· = .list ds)) : EE A (tCB (rListOf K) (tCons ta tNil)) ρ c (· = .list ds) := fun F σ H n Q S l q => by
  refine h F σ H n _ S l fun v d H1 s j k r => ?_
  subst r
  have S1 := S.step s j
  cases k with
  | lst hp kk => exact ⟨_, _, rfl, .inl (.inl (.inl (off_some hp).2)), fun p hn => q _ _ _ (s.trans (S1.newS hn)) (S1.newJ hn) (new_lst S1 hn kk) rfl⟩
/-- the shown words that stand ahead of a word -/
def aheadS (s : Scr) (w : Str) : List Str := if preS s.b w then (if w ∈ s.ys then s.ys.take (s.ys.idxOf w) else s.ys) else []
theorem aheadS_puts {s : Scr} (h : ScrOk s) (x y : Str) : x ∈ aheadS s y ↔ putsS s x y = true := by
  rw [putsS_iff h]
  unfold aheadS
  by_cases hp : preS s.b y = true
  · rw [if_pos hp]
    by_cases hy : y ∈ s.ys
    · rw [if_pos hy]
      constructor
      · intro hx
        have hx2 := List.mem_of_mem_take hx
        obtain ⟨i, hi⟩ := List.getElem?_of_mem hx
        rw [List.getElem?_take] at hi
        split at hi
        · rename_i hlt
          have hs := sub2_of hi (get_idx hy) hlt
          refine ⟨hx2, fun e => ?_, hp, .inr hs⟩
          subst e
          have := sub2_lt h.w.1 hs hi hi
          omega
        · cases hi
      · rintro ⟨hx, ne, _, h4 | h4⟩
        · exact absurd hy h4
        · have := sub2_lt h.w.1 h4 (get_idx hx) (get_idx hy)
          refine List.mem_of_getElem? (i := s.ys.idxOf x) ?_
          rw [List.getElem?_take, if_pos this]
          exact get_idx hx
    · rw [if_neg hy]
      exact ⟨fun hx => ⟨hx, fun e => hy (e ▸ hx), hp, .inl hy⟩, fun hx => hx.1⟩
  · rw [if_neg hp]
    exact ⟨fun z => absurd z List.not_mem_nil, fun z => absurd z.2.2.1 hp⟩
end DL

set_option linter.all false
set_option maxRecDepth 100000
set_option maxHeartbeats 4000000
/-! DLT: a, b, *rest = a tuple -/
namespace DL
open PySem PySem.Spec PySem.Calls PyProof.Rows L2
section
variable {prog : Program} {w : World} {A : Around} {E : Value → Shared → Prop} {s : Shared}
theorem star_last {t : Addr} {its : Array Value} {k : Nat} {Q : List Value → Shared → Prop} (ht : IsTup s.heap t its) (calm : A.handled = none) (hk : k ≤ its.size) (sz : its.size ≤ sizeLine)
    (goal : ∀ g tk, (∀ b o, s.heap.get? b = some o → g.get? b = some o) → wpAny (model prog w) A (newList (its.toList.drop k)) (fun d s' => Q (its.toList.take k ++ [d]) s') E { s with heap := g, toks := tk }) :
    wpAny (model prog w) A (unpackItems (.ref t) (k + 1) (some k)) Q E s := by
  have below : t < s.heap.objs.size := let ⟨_, e, _⟩ := ht; Heap.lt_size e
  have ne : t ≠ s.heap.objs.size := Nat.ne_of_lt below
  unfold unpackItems notIterableAtAll
  refine wpAny_bind (wpAny_bind (wpAny_specialOf ht.typeIs slot_tuple_iter.lookup (wpAny_pure ?_)))
  rw [if_neg (by decide)]
  refine wpAny_bind (wpAny_holding (iter_tuple ht (wpAny_bind (wpAny_holding (draw_tuple ne k 0 _ _ ⟨_, Heap.get?_push_size _ rfl, rfl, rfl⟩ (ht.push _) (by omega) fun g1 it1 same1 => ?_)))))
  have t1 : IsTup g1 t its := (ht.push _).extBut same1.extBut ne
  rw [Nat.zero_add] at it1
  have inI : s.heap.objs.size < g1.objs.size := by
    obtain ⟨o, e, _⟩ := it1
    exact Heap.lt_size e
  have inT : t < g1.objs.size := by
    obtain ⟨o, e, _⟩ := t1
    exact Heap.lt_size e
  have flen : ((its.toList.drop 0).take k).length = k := by
    rw [List.drop_zero, List.length_take, Array.length_toList]
    omega
  rw [if_neg (by rw [flen]; exact Nat.lt_irrefl k)]
  have W := Walks.tuple (prog := prog) (w := w) (A := A.in1) calm s.heap.objs.size t ne its
  refine wpAny_bind (wpAny_holding (PySem.W.kun_collect (k := k) (.inr (.inr (.inr rfl))) W (fun i u st => st.1.typeIs) hk ⟨it1, t1⟩ inI inT (fun g2 tk keep => ?_) sz))
  have rl : (its.toList.drop k).length - (k + 1 - 1 - k) = (its.toList.drop k).length := by omega
  rw [if_neg (by omega), rl]
  show wpAny _ _ (newList (List.take (its.toList.drop k).length (its.toList.drop k)) >>= fun d => pure (List.take k (List.drop 0 its.toList) ++ [d] ++ List.drop (its.toList.drop k).length (its.toList.drop k))) _ _ _
  rw [List.take_length, List.drop_length, List.drop_zero]
  refine wpAny_bind (wpAny_mono (goal g2 tk fun b o e => ?_) (fun d s' q => wpAny_pure ?_) fun _ _ e => e)
  · have nb : b ≠ s.heap.objs.size := Nat.ne_of_lt (Heap.lt_size e)
    exact keep b o nb (same1.extBut b o nb (Heap.get?_push_of_some _ e))
  · rw [List.append_nil]
    exact q
end
/-- a, b, *rest = a tuple: rest becomes a new list -/
def gStar (K : PySem.W.Frag) (k : Nat) (t : TGs) : TG := fun v σ H Q => ∃ a xs, v = .ref a ∧ SqT K H a xs ∧ k ≤ xs.length ∧ ∀ D, H D = none → t (xs.take k ++ [.ref D]) σ (upd H D (.lst (xs.drop k))) Q
section
variable {X : Cx} {K : PySem.W.Frag} {es : List Expr} {e : Expr} {pos p : Pos} {kk k : Nat} {t : TGs} {g : TG}
theorem pgs_last (h : PG X e g) : PGs X [.Starred e p] (gCons g gNil) := by
  refine ⟨fun pins s σ H vs us Q I r hh => ?_⟩
  obtain ⟨v, vr, ev, hh⟩ := hh
  subst ev
  cases r with
  | cons r rr =>
    rw [PySem.arm_assignEach_Starred, List.map_cons]
    exact assignInOrder_cons (thn (h.run pins s σ H _ _ _ I r hh) fun _ s1 ⟨σ1, H1, I1, q1⟩ => pgs_nil.run pins s1 σ1 H1 _ _ Q I1 rr q1)
theorem kPgStar (hc : X.calm = true) (hp : PGs X es t) (hn : (assignEach es X.env).length = k + 1 := by rfl) (hst : (assignEach es X.env).findIdx? (·.1) = some k := by rfl) (hK : X.K = K := by rfl) : PG X (.Tuple es kk pos) (gStar K k t) := by
  subst hK
  refine ⟨fun pins s σ H v u Q I r hw => ?_⟩
  obtain ⟨a, xs, e1, hq, hl, hw⟩ := hw
  subst e1
  cases r
  obtain ⟨its, rv, ht, hz⟩ := I.tuple hq
  have hlen := rv.length
  rw [assign_Tuple]
  refine wpAny_bind (wpAny_standAt ?_)
  unfold unpack
  rw [hn, hst]
  refine wpAny_bind (wpAny_holding (star_last ht (I.ok.hd hc) (by rw [List.size_toArray, ← hlen]; exact hl) (by rw [List.size_toArray, ← hlen]; exact hz) fun g tk keep => ?_))
  have I1 : Inv X pins σ H { s with heap := g, toks := tk } := I.kept keep
  have hd : (its.drop k).length ≤ sizeLine := by rw [List.length_drop, ← hlen]; omega
  refine wpAny_newList ?_ hd
  have hf : H g.objs.size = none := I1.hok.fresh (Nat.le_refl _)
  have I2 := I1.laid (a := g.objs.size) (o := .lst (xs.drop k)) (h' := g.push { cls := .type "list", data := .seq (its.drop k).toArray }) (t' := tk) (fun b u e => Heap.get?_push_of_some _ e) (Nat.le_refl _) ⟨by rw [List.length_drop]; omega, its.drop k, 0, rv.drop k, Heap.get?_push_size _ rfl⟩
  exact hp.run pins _ σ _ _ _ Q I2 ((rv.take k).append (Paired.cons (show RelV (V.ref g.objs.size) (.ref g.objs.size) from rfl) .nil)) (hw _ hf)
end
/-! ### as data -/
theorem sq_star {A : Amb} {ρ : List SV} {K : PySem.W.Frag} {te : TE} {u : TS} {c1 c2 k : Nat} {t : TGs} {R : PyData → Prop} {P : Po} (h : EE A te ρ c1 R) (go : ∀ d, R d → ∃ ds ρ1, d = .tuple ds ∧ k ≤ ds.length ∧ TGs8 A t (ds.take k ++ [.list (ds.drop k)]) ρ ρ1 ∧ SS A u ρ1 c2 P) : SS A (tSeq (tAsg te (gStar K k t)) u) ρ (c1 + c2) P := fun D F σ H n S l k1 k2 k3 k4 => by
  refine h F σ H n _ S (by omega) fun v d H1 s1 j1 kd r => ?_
  obtain ⟨ds, ρ1, e, hk, tg, hu⟩ := go d r
  subst e
  have S1 := S.step s1 j1
  have e : n + (c1 + c2) = n + c1 + c2 := by omega
  rw [e] at k1 k2 k3 k4
  cases kd with
  | tup hp kk =>
    rename_i a xs
    refine ⟨a, xs, rfl, .inl (.inl (off_some hp).2), by rw [kk.length]; exact hk, fun B hB => ?_⟩
    have S2 := S1.new (o := .lst (xs.drop k)) hB
    have up : Same (off F.fs H1) (off F.fs (upd H1 B (.lst (xs.drop k)))) := same_off (same_new hB)
    exact tg F σ _ (n + c1) _ _ S2 (((kk.mono up).take k).append (.cons (new_lst S1 hB (kk.drop k)) .nil)) fun σ' S3 => hu D F σ' _ (n + c1) S3 (by omega) k1 k2 k3 k4
end DL
namespace DL
open PySem PySem.Spec L2
theorem kPgLst {X : Cx} {K : PySem.W.Frag} {es : List Expr} {kk n : Nat} {pos : Pos} {t : TGs} (hc : X.calm = true) (hp : PGs X es t) (hn : (assignEach es X.env).length = n := by rfl) (hst : (assignEach es X.env).findIdx? (·.1) = none := by rfl) (h : X.K = K := by rfl) : PG X (.Tuple es kk pos) (L2.gLst K n t) := by
  subst h
  exact pg_lst hc hp hn hst
theorem tg_lst {A : Amb} {ρ ρ1 : List SV} {ds : List PyData} {K : PySem.W.Frag} {gs : TGs} {m : Nat} (h : TGs8 A gs ds ρ ρ1) (hl : ds.length = m) : TG8 A (L2.gLst K m gs) (.list ds) ρ ρ1 := fun F σ H n v k S hd q => by
  cases hd with
  | lst hp kk => exact ⟨_, _, rfl, .inl (.inl (off_some hp).2), by rw [kk.length]; exact hl, h F σ H n _ _ S kk q⟩
end DL
namespace DL
open PySem PySem.Spec L2
theorem find_some_ex {α β : Type} {f : α → Option β} : ∀ {l : List α} {b : β}, l.findSome? f = some b → ∃ (i : Nat) (a : α), l[i]? = some a ∧ f a = some b
  | [], _, h => by simp at h
  | x :: l, b, h => by
    rw [List.findSome?_cons] at h
    cases hx : f x with
    | some c =>
      rw [hx] at h
      exact ⟨0, x, rfl, hx.trans h⟩
    | none =>
      rw [hx] at h
      obtain ⟨i, a, h1, h2⟩ := find_some_ex (l := l) h
      exact ⟨i + 1, a, h1, h2⟩
theorem clashF_at {ss : List Scr} {d : PyData} (h : clashF ss = some d) : ∃ (i k : Nat) (s t : Scr), ss[i]? = some s ∧ ss[k]? = some t ∧ pairF i s k t = some d := by
  obtain ⟨i, q, h1, h2⟩ := find_some_ex h
  obtain ⟨k, r, h3, h4⟩ := find_some_ex h2
  obtain ⟨a1, a2⟩ := idx_get h1
  obtain ⟨b1, b2⟩ := idx_get h3
  exact ⟨i, k, q.1, r.1, a1, b1, by rw [← a2, ← b2]; exact h4⟩
end DL
namespace DL
open PySem PySem.Spec L2
theorem ahead_sub {xs : List Str} {s : Scr} (h : ScrOk s) (sh : shows xs s = true) {x y : Str} (hp : putsS s x y = true) (hy : y ∈ xs) : [x, y].Sublist xs := by
  have e := of_decide_eq_true sh
  obtain ⟨a1, a2, a3, a4⟩ := (putsS_iff h).mp hp
  have sub : (s.ys).Sublist (xs.filter (preS s.b)) := by rw [← e]; exact List.take_sublist _ _
  rcases a4 with a4 | a4
  · have yF : y ∈ xs.filter (preS s.b) := List.mem_filter.mpr ⟨hy, a3⟩
    obtain ⟨j, hj⟩ := List.getElem?_of_mem yF
    obtain ⟨i, hi⟩ := List.getElem?_of_mem a1
    rw [← e, List.getElem?_take] at hi
    split at hi
    · rename_i hil
      refine (sub2_of hi hj ?_).trans List.filter_sublist
      rcases Nat.lt_or_ge j s.l with h1 | h1
      · refine absurd (List.mem_of_getElem? (i := j) ?_) a4
        rw [← e, List.getElem?_take, if_pos h1]
        exact hj
      · omega
    · cases hi
  · exact (a4.trans sub).trans List.filter_sublist
/-- screens of one book don't clash -/
theorem untorn {xs : List Str} {ss : List Scr} (nd : xs.Nodup) (h : ∀ s ∈ ss, ScrOk s ∧ shows xs s = true) : tornAll ss = false := by
  unfold tornAll
  rw [List.any_eq_false]
  intro s hs z
  obtain ⟨t, ht, z2⟩ := List.any_eq_true.mp z
  obtain ⟨os, ss1⟩ := h s hs
  obtain ⟨ot, ts1⟩ := h t ht
  have inX : ∀ {u : Scr} {w : Str}, shows xs u = true → w ∈ u.ys → w ∈ xs := fun {u w} su hw => by
    rw [← of_decide_eq_true su] at hw
    exact (List.mem_filter.mp ((List.take_sublist _ _).subset hw)).1
  unfold tornS at z2
  rw [Bool.or_eq_true] at z2
  rcases z2 with z2 | z2
  · obtain ⟨w, hw, hm⟩ := List.any_eq_true.mp z2
    unfold missS at hm
    rw [Bool.and_eq_true, Bool.and_eq_true, decide_eq_true_eq, Bool.not_eq_true', decide_eq_false_iff_not] at hm
    obtain ⟨m1, m2, m3⟩ := hm
    have e := of_decide_eq_true ss1
    have hl : (xs.filter (preS s.b)).length < s.l := by
      have := congrArg List.length e
      rw [List.length_take] at this
      omega
    rw [List.take_of_length_le (Nat.le_of_lt hl)] at e
    exact m3 (by rw [← e]; exact List.mem_filter.mpr ⟨inX ts1 hw, m2⟩)
  · obtain ⟨x, hx, z3⟩ := List.any_eq_true.mp z2
    obtain ⟨y, hy, z4⟩ := List.any_eq_true.mp z3
    rw [Bool.and_eq_true] at z4
    have p1 := ahead_sub os ss1 z4.1 (inX ts1 hy)
    have p2 := ahead_sub ot ts1 z4.2 (inX ss1 hx)
    obtain ⟨i, hi⟩ := List.getElem?_of_mem (inX ss1 hx)
    obtain ⟨j, hj⟩ := List.getElem?_of_mem (inX ts1 hy)
    have := sub2_lt nd p1 hi hj
    have := sub2_lt nd p2 hj hi
    omega
theorem sameOk_non {m : Nat} (h : 0 < m) : SameOk m .none := ⟨rfl, h, rfl⟩
theorem clash_non {ss : List Scr} (h : ∀ s ∈ ss, ScrOk s) : nonD (match clashF ss with | none => .none | some d => d) = !tornAll ss := by
  cases hc : clashF ss with
  | none => rw [(clashF_none h).mp hc]; rfl
  | some d =>
    obtain ⟨i, k, s, t, _, _, hp⟩ := clashF_at hc
    have ht : tornAll ss = true := by
      cases h2 : tornAll ss with
      | true => rfl
      | false => rw [(clashF_none h).mpr h2] at hc; cases hc
    rw [ht]
    unfold pairF at hp
    cases hf : t.ys.find? (missS s) with
    | some w => rw [hf] at hp; cases hp; rfl
    | none =>
      rw [hf] at hp
      cases hw : swapS s t with
      | none => rw [hw] at hp; cases hp
      | some p => rw [hw] at hp; cases hp; rfl
end DL

set_option linter.all false
set_option maxRecDepth 100000
set_option maxHeartbeats 4000000
namespace DL
open PySem PySem.Spec PyProof.Rows L2

def kT (e : Int × Value) : Str :=
  match e.2 with
  | .str k _ => k
  | _ => Str.empty
def GdT (w : World) (e : Int × Value) : Prop := ∃ k tk, e.2 = Value.str k tk ∧ e.1 = hashStr w k
def SetT (w : World) (g : Heap) (a : Addr) (S : Str → Bool) (n : Nat) : Prop :=
  ∃ ob rows age tb, g.get? a = some ob ∧ ob.ExactSet ∧ ob.data = .set rows age tb ∧ (∀ e ∈ rows.toList, GdT w e) ∧ (rows.toList.map kT).Nodup ∧ (∀ k, S k = true ↔ k ∈ rows.toList.map kT) ∧ rows.size < scanBound ∧ tb.fits rows.size = true ∧ rows.size = n ∧ Ris tb.place.toList ∧ (w.params.followText "set-order" = true ∨ tb.led = true)

section
variable {P : Program} {w : World} {g g' : Heap} {a : Addr} {S : Str → Bool} {n : Nat}
theorem SetT.at (R : SetT w g a S n) (k : ∀ o, g.get? a = some o → g'.get? a = some o) : SetT w g' a S n := by
  obtain ⟨ob, rows, age, tb, go, rest⟩ := R
  exact ⟨ob, rows, age, tb, k ob go, rest⟩
theorem gdT_elems {l : List (Int × Value)} (gd : ∀ e ∈ l, GdT w e) : ElemsOf (strKind P w) l := fun e he => by
  obtain ⟨k, tk, e1, e2⟩ := gd e he
  exact ⟨⟨k, by rw [e1]; exact strKind_is P w k tk, e2⟩, by rw [e1] <;> rfl⟩
theorem gdT_is {e : Int × Value} (gd : GdT w e) (k : Str) : (strKind P w).is k e.2 = true ↔ kT e = k := by
  obtain ⟨k0, tk, e1, _⟩ := gd
  have e2 : kT e = k0 := by unfold kT; rw [e1]
  rw [e2, e1, KeyKind.is_eq_decide (strKind_is P w k0 tk) k, decide_eq_true_eq]
  exact eq_comm
theorem gdT_mem {l : List (Int × Value)} (gd : ∀ e ∈ l, GdT w e) (k : Str) : k ∈ l.map kT ↔ ∃ e ∈ l, (strKind P w).is k e.2 = true := by
  rw [List.mem_map]
  exact ⟨fun ⟨e, he, q⟩ => ⟨e, he, (gdT_is (gd e he) k).2 q⟩, fun ⟨e, he, q⟩ => ⟨e, he, (gdT_is (gd e he) k).1 q⟩⟩
theorem SetT.setOf (R : SetT w g a S n) : g.SetOf (strKind P w) a S n := by
  obtain ⟨ob, rows, age, tb, go, gx, gd, el, nd, hm, hb, hf, hn, _⟩ := R
  exact ⟨ob, rows, age, tb, go, gx, gd, gdT_elems el, fun k => (hm k).trans (gdT_mem el k), hb, hf, hn⟩
abbrev setObj0 (w : World) : Obj := { cls := .type "set", dict := none, data := .set #[] 0 (.fresh 0 0 (!w.params.followText "set-order")) }
theorem setT_fresh (g : Heap) (w : World) : SetT w (g.push (setObj0 w)) g.objs.size (fun _ => false) 0 := by
  refine ⟨_, #[], 0, _, Heap.get?_push_size _ rfl, ⟨rfl, rfl, rfl⟩, rfl, (fun e he => by simp at he), (by simp), (fun k => by simp), (by decide), (by rfl), rfl, List.Pairwise.nil, ?_⟩
  show _ ∨ (!w.params.followText "set-order") = true
  cases w.params.followText "set-order" <;> first | exact .inl rfl | exact .inr rfl
end

section
variable {P : Program} {w : World} {A : Around} {E : Value → Shared → Prop} {s : Shared} {a : Addr} {S : Str → Bool} {n : Nat}
theorem laidT {g : Heap} {a : Addr} {ob : Obj} {rows rows' : Array (Int × Value)} {age : Nat} {tb tb' : SetTable} (go : g.get? a = some ob) (gd : ob.data = .set rows age tb) :
    (g.update a (Obj.putSet rows' tb')).get? a = some { ob with data := .set rows' (age + 1) tb' } := by
  have z := Heap.get?_update_self (Obj.putSet rows' tb') go (by rw [putSet_of rows' tb' gd]; rfl)
  rwa [putSet_of rows' tb' gd] at z
theorem setT_tail {say : Bool → Sem Unit} (hsay : ∀ (b : Bool) (s₁ : Shared) (Z : Unit → Shared → Prop), Z () s₁ → wpAny (model P w) A (say b) Z E s₁)
    {ob : Obj} {rows : Array (Int × Value)} {age : Nat} {tb : SetTable} (go : s.heap.get? a = some ob) (gx : ob.ExactSet) (gd : ob.data = .set rows age tb)
    {rows1 : Array (Int × Value)} {tb2 : SetTable} {S' : Str → Bool} (g1 : ∀ e ∈ rows1.toList, GdT w e) (nd1 : (rows1.toList.map kT).Nodup) (m1 : ∀ k, S' k = true ↔ k ∈ rows1.toList.map kT)
    (b1 : rows1.size < scanBound) (f2 : tb2.fits rows1.size = true) (r2 : Ris tb2.place.toList) (l2 : w.params.followText "set-order" = true ∨ tb2.led = true) {wasDummy : Bool} {Z : Option Bool → Shared → Prop}
    (hZ : ∀ h', Heap.SameBut a s.heap h' → SetT w h' a S' rows1.size → Z (some true) { s with heap := h' }) :
    wpAny (model P w) A (do
        storeSet a rows1 tb2
        if (!wasDummy && tb2.tooFull) = true then do
            say (relayAll tb2 rows1 (SetTable.grown rows1.size)).2.2
            storeSet a (relayAll tb2 rows1 (SetTable.grown rows1.size)).1 (relayAll tb2 rows1 (SetTable.grown rows1.size)).2.1
            pure (some true)
          else pure (some true)) Z E s := by
  refine wpAny_bind (wpAny_storeSet_of go gd ?_ (fits_of_scanBound b1))
  have go1 := laidT (rows' := rows1) (tb' := tb2) go gd
  have sb1 := Heap.SameBut.update s.heap a (Obj.putSet rows1 tb2)
  split
  · have pm := relayAll_perm tb2 rows1 (SetTable.grown rows1.size)
    have f3 := relayAll_fits tb2 rows1 (SetTable.grown rows1.size)
    have r3 := relayAll_ris tb2 rows1 (SetTable.grown rows1.size)
    have l3 := relayAll_led tb2 rows1 (SetTable.grown rows1.size)
    generalize relayAll tb2 rows1 (SetTable.grown rows1.size) = big at pm f3 r3 l3 ⊢
    obtain ⟨rows2, tb3, gave⟩ := big
    dsimp only at pm f3 r3 l3 ⊢
    have sz : rows2.size = rows1.size := by rw [← Array.length_toList, pm.length_eq, Array.length_toList]
    have b2 : rows2.size < scanBound := by rw [sz]; exact b1
    refine wpAny_bind (hsay _ _ _ (wpAny_bind (wpAny_storeSet_of go1 rfl ?_ (fits_of_scanBound b2))))
    have go2 := laidT (rows' := rows2) (tb' := tb3) go1 rfl
    refine wpAny_pure (hZ _ (sb1.trans (Heap.SameBut.update _ a _)) ⟨_, rows2, _, tb3, go2, gx, rfl, fun e he => g1 e (pm.mem_iff.mp he), (pm.map kT).nodup_iff.mpr nd1, fun k => (m1 k).trans (pm.map kT).mem_iff.symm, b2, f3, sz, r3, ?_⟩)
    exact l2.imp id fun z => by rw [l3]; exact z
  · exact wpAny_pure (hZ _ sb1 ⟨_, rows1, _, tb2, go1, gx, rfl, g1, nd1, m1, b1, f2, rfl, r2, l2⟩)
theorem setT_hashed {k : Str} {tk : Tok} {Z : Bool → Shared → Prop} (R : SetT w s.heap a S n) (room : n + 1 < scanBound)
    (hZ : ∀ h', Heap.SameBut a s.heap h' → SetT w h' a (fun j => S j || decide (j = k)) (if S k = true then n else n + 1) → Z (!S k) { s with heap := h' }) :
    wpAny (model P w) A (setAddHashed a (.str k tk) ((strKind P w).hash k)) Z E s := by
  obtain ⟨ob, rows, age, tb, go, gx, gd, el, nd, hm, hb, hf, hn, hr, hl⟩ := R
  have key : (strKind P w).is k (.str k tk) = true := strKind_is P w k tk
  have scn : (Value.str k tk).scannable = true := rfl
  have els : ElemsOf (strKind P w) rows.toList := gdT_elems el
  unfold setAddHashed setAddHashedIn
  refine wpAny_holding (wpAny_bind (wpAny_setState_of go gd hf ?_))
  dsimp only
  rw [byScan_of scn hb els]
  simp only [↓reduceIte]
  unfold setAddByScan
  refine wpAny_bind (wpAny_bind (wpAny_rule (wpAny_bind (wpAny_setScan_of key go gd hf els ?_))))
  cases fi : List.findIdx? (fun e => (strKind P w).is k e.2) rows.toList with
  | some j =>
    dsimp only
    obtain ⟨hj, pj, _⟩ := List.findIdx?_eq_some_iff_getElem.mp fi
    have inS : S k = true := (hm k).2 ((gdT_mem (P := P) (w := w) el k).2 ⟨rows.toList[j], List.getElem_mem hj, pj⟩)
    refine wpAny_pure (wpAny_pure ?_)
    have z := hZ s.heap (Heap.SameBut.refl a s.heap) ⟨ob, rows, age, tb, go, gx, gd, el, nd, fun i => by
      rw [Bool.or_eq_true, decide_eq_true_eq, ← hm i]
      exact ⟨fun y => y.elim id (fun e => e ▸ inS), .inl⟩, hb, hf, by rw [if_pos inS]; exact hn, hr, hl⟩
    rwa [inS] at z
  | none =>
    dsimp only
    have notin : k ∉ rows.toList.map kT := fun z => by
      obtain ⟨e, he, y⟩ := (gdT_mem (P := P) (w := w) el k).1 z
      have c := List.findIdx?_eq_none_iff.mp fi e he
      rw [y] at c
      cases c
    have noS : S k = false := by
      cases y : S k with
      | false => rfl
      | true => exact absurd ((hm k).1 y) notin
    have says : ∀ (b : Bool) {s₁ : Shared} {Z' : Unit → Shared → Prop}, Z' () s₁ → wpAny (model P w) A (match b with | true => rule "set.scan.the-table-gave-way" | false => pure ()) Z' E s₁ := fun b s₁ Z' y => by
      cases b <;> first | exact wpAny_pure y | exact wpAny_rule y
    have pm := layNew_perm tb rows ((strKind P w).hash k) (.str k tk)
    have f1 := layNew_fits tb rows ((strKind P w).hash k) (.str k tk)
    have r1 := layNew_ris tb rows ((strKind P w).hash k) (.str k tk) hr
    have l1 := layNew_led tb rows ((strKind P w).hash k) (.str k tk)
    generalize layNew tb rows ((strKind P w).hash k) (.str k tk) = big at pm f1 r1 l1 ⊢
    obtain ⟨rows1, tb1, wasDummy, gave⟩ := big
    dsimp only at pm f1 r1 l1 ⊢
    rw [Array.toList_push] at pm
    have pc : rows1.toList.Perm (((strKind P w).hash k, Value.str k tk) :: rows.toList) := pm.trans (List.perm_append_singleton _ _)
    have pk : (rows1.toList.map kT).Perm (k :: rows.toList.map kT) := pc.map kT
    have g1 : ∀ e ∈ rows1.toList, GdT w e := fun e he => by
      rcases List.mem_cons.mp (pc.mem_iff.mp he) with z | z
      · rw [z]; exact ⟨k, tk, rfl, rfl⟩
      · exact el e z
    have nd1 : (rows1.toList.map kT).Nodup := pk.nodup_iff.mpr (List.nodup_cons.mpr ⟨notin, nd⟩)
    have m1 : ∀ i, (S i || decide (i = k)) = true ↔ i ∈ rows1.toList.map kT := fun i => by
      rw [Bool.or_eq_true, decide_eq_true_eq, hm i, pk.mem_iff, List.mem_cons, or_comm]
    have sz : rows1.size = n + 1 := by rw [← Array.length_toList, pc.length_eq, List.length_cons, Array.length_toList, hn]
    have b1 : rows1.size < scanBound := by rw [sz]; exact room
    have ld : w.params.followText "set-order" = true ∨ tb1.led = true := hl.imp id fun z => by rw [l1]; exact z
    have fin : ∀ h', Heap.SameBut a s.heap h' → SetT w h' a (fun j => S j || decide (j = k)) rows1.size → Z true { s with heap := h' } := fun h' sb r => by
      have z := hZ h' sb
      rw [noS] at z
      rw [sz] at r
      exact z r
    refine wpAny_bind (says _ ?_)
    split
    · refine wpAny_bind ?_
      rw [hashByValue_scannable 8 scn]
      refine wpAny_pure (setT_tail ?_ go gx gd g1 nd1 m1 b1 ?_ ?_ ?_ ?_)
      · intro b s₁ Z' y; cases b <;> first | exact wpAny_pure y | exact wpAny_rule y
      · first | (split <;> first | exact f1 | exact SetTable.fits_plain_off f1) | exact f1
      · first | (split <;> exact r1) | exact r1
      · first | (split <;> exact ld) | exact ld
      · intro h' sb r; dsimp only; exact wpAny_pure (fin h' sb r)
    · refine wpAny_bind (wpAny_pure ?_)
      simp only [↓reduceIte]
      refine setT_tail ?_ go gx gd g1 nd1 m1 b1 f1 r1 ld ?_
      · intro b s₁ Z' y; cases b <;> first | exact wpAny_pure y | exact wpAny_rule y
      · intro h' sb r; dsimp only; exact wpAny_pure (fin h' sb r)
theorem setT_add {k : Str} {tk : Tok} {Z : Value → Shared → Prop} (R : SetT w s.heap a S n) (room : n + 1 < scanBound)
    (hZ : ∀ h', Heap.SameBut a s.heap h' → SetT w h' a (fun j => S j || decide (j = k)) (if S k = true then n else n + 1) → Z .none { s with heap := h', toks := s.toks + 1 }) :
    wpAny (model P w) A (call (.builtin "set.add") [.ref a, .str k tk]) Z E s := by
  have sof : s.heap.SetOf (strKind P w) a S n := R.setOf
  refine wpAny_call_entry F.slot_set_add sof.typeIs F.entry_set_add ?_ (F.args_set_add_2 _ _)
  unfold Builtin.«set.add» Builtin.Frozenset.oneOther
  simp only [List.isEmpty_nil, bind_assoc]
  unfold Builtin.Frozenset.addrOf setAdd
  refine wpAny_bind (wpAny_pure ?_)
  try dsimp only
  refine wpAny_bind (wpAny_pure ?_)
  try dsimp only
  refine wpAny_bind (wpAny_holding (wpAny_bind ((strKind P w).pyHash (strKind_is P w k tk) ?_)))
  refine setT_hashed (s := { s with toks := s.toks + 1 }) R room fun h' sb r => ?_
  show wpAny _ _ (ret Value.none) _ _ _
  exact wpAny_pure ⟨_, rfl, hZ h' sb r⟩
theorem texts_of : ∀ (l : List Value), (∀ v ∈ l, ∃ k tk, v = Value.str k tk) → StrsAre l (l.map PyProof.Rows.strOf) := strsAre_map
theorem sorted_setT {Z : Value → Shared → Prop} (R : SetT w s.heap a S n) (hh : A.handled = none)
    (hZ : ∀ s' p (out : List Value) (c : Nat) (ks : List Str), (∀ b o, s.heap.get? b = some o → s'.heap.get? b = some o) → s'.gens = s.gens → s'.os = s.os → s.heap.objs.size ≤ p →
      s'.heap.get? p = some (seqObj "list" out.toArray c) → StrsAre out ks → sortedS ks = true → ks.Nodup → (∀ k, k ∈ ks ↔ S k = true) → ks.length < scanBound → Z (.ref p) s') :
    wpAny (model P w) A (call (.builtin "sorted") [.ref a]) Z E s := by
  obtain ⟨ob, rows, age, tb, go, gx, gd, el, nd, hm, hb, hf, hn, hr, hl⟩ := R
  refine Calls.call_function_entry kind_sorted plain_sorted entry_sorted (args_sorted1 _) ?_
  unfold Builtin.«sorted»
  refine wpAny_bind (m := checkCount "sorted" 1 1 _) (wpAny_pure ?_)
  refine wpAny_bind (collect_set (A := A.in1) hh ⟨ob, go, gx.1, gd⟩ hf hb hr hl fun s1 vs k1 hz g1 o1 pm => ?_)
  have vl : vs.length = rows.size := by rw [pm.length_eq, List.length_map, Array.length_toList]
  have vz : vs.length ≤ sizeLine := by rw [vl]; exact fits_of_scanBound hb
  have hS : StrsAre vs (vs.map PyProof.Rows.strOf) := texts_of vs fun v hv => by
    obtain ⟨e, he, q⟩ := List.mem_map.mp (pm.mem_iff.mp hv)
    obtain ⟨k, tk, e1, _⟩ := el e he
    exact ⟨k, tk, by rw [← q]; exact e1⟩
  have pk : (vs.map PyProof.Rows.strOf).Perm (rows.toList.map kT) := by
    have q := pm.map PyProof.Rows.strOf
    rw [List.map_map] at q
    have e : rows.toList.map (PyProof.Rows.strOf ∘ fun x => x.2) = rows.toList.map kT := List.map_congr_left fun e he => by
      obtain ⟨k, tk, e1, _⟩ := el e he
      show PyProof.Rows.strOf e.2 = kT e
      unfold kT
      rw [e1]
      rfl
    rw [e] at q
    exact q
  refine wpAny_bind (wpAny_newList ?_ vz)
  have hoL : (s1.heap.push (seqObj "list" vs.toArray 0)).get? s1.heap.objs.size = some (seqObj "list" vs.toArray 0) := Heap.get?_push_size _ rfl
  refine wpAny_bind (wpAny_holding (wpAny_call_entry slot_list_sort ⟨_, hoL, rfl⟩ entry_list_sort (list_sort_treeKAny strKind_oneLt hoL hS.keysOf (fun v₁ v₂ rest e => keyKind_strs (by rw [← e]; exact hS)) vz fun st hp hs => ⟨_, rfl, ?_⟩) (args_list_sort _)))
  obtain ⟨ys, q1, q2, q3⟩ := sorted_out_str hS hp hs
  obtain ⟨c, hc⟩ := sortedHeap_at (vs := vs) (out := (arrOf st).map (·.2)) hoL
  have pn : ys.Perm (rows.toList.map kT) := q2.trans pk
  refine wpAny_pure ⟨_, rfl, hZ _ s1.heap.objs.size ((arrOf st).map (·.2)).toList c ys (fun b u e => ?_) g1 o1 hz (by rw [Array.toArray_toList]; exact hc) q1 q3 (pn.nodup_iff.mpr nd) (fun k => by rw [pn.mem_iff, ← hm k]) (by rw [pn.length_eq, List.length_map, Array.length_toList]; exact hb)⟩
  have q := k1 b u e
  have lt := Heap.lt_size q
  show (sortedHeap (s1.heap.push (seqObj "list" vs.toArray 0)) s1.heap.objs.size vs _).get? b = some u
  rw [sortedHeap_old (Nat.ne_of_lt lt) (by rw [size_push']; exact Nat.lt_succ_of_lt lt)]
  exact Heap.get?_push_of_some _ q
end

/-! ### as tracked things -/
def SetTO (w : World) (a : Addr) (S : Str → Bool) (n : Nat) : HO := .ext fun g => SetT w g a S n
theorem setTO_new {w : World} {P : Program} {H : Hp} {g : Heap} {a : Addr} {S : Str → Bool} {n : Nat} (R : SetT w g a S n) : ObjOk P w H g a (SetTO w a S n) := by
  obtain ⟨o, _, _, _, go, _⟩ := id R
  exact ⟨R, ⟨o, go⟩, fun h1 h2 p k => SetT.at p k⟩
section
variable {X : Cx}
theorem setTO_get {pins : List (Addr × Obj)} {σ : L2.St} {H : Hp} {s : Shared} {a : Addr} {S : Str → Bool} {n : Nat} (I : Inv X pins σ H s) (ha : H a = some (SetTO X.w a S n)) : SetT X.w s.heap a S n := (I.hok a _ ha).1
theorem addT_ok {pins : List (Addr × Obj)} {σ : L2.St} {H : Hp} {s : Shared} {E : Value → Shared → Prop} {D : Addr} {S : Str → Bool} {n : Nat} {y : Str} {tk : Tok} {Z : Value → Shared → Prop} (I : Inv X pins σ H s) (hD : H D = some (SetTO X.w D S n)) (room : n + 1 < scanBound)
    (h : ∀ s', Inv X pins σ (upd H D (SetTO X.w D (fun j => S j || decide (j = y)) (if S y = true then n else n + 1))) s' → Z .none s') : wpAny (model X.prog X.w) X.A (call (.builtin "set.add") [.ref D, .str y tk]) Z E s := by
  have R := setTO_get I hD
  refine setT_add R room fun h' sb new => ?_
  have he : ∃ u, h'.get? D = some u := by
    obtain ⟨o, _, _, _, go, _⟩ := id new
    exact ⟨o, go⟩
  exact h _ (I.write (e := D) (t' := s.toks + 1) (by rw [hD]; trivial) (.inl rfl) (fun b u hb hu => (sb.2 b hb).trans hu) he (setTO_new new))
/-- sorted(a set of texts) -/
def rSortSet (w : World) : List V → Hp → VK → Prop := fun vs H Q => ∃ (a : Addr) (S : Str → Bool) (n : Nat), vs = [V.ref a] ∧ H a = some (SetTO w a S n) ∧
  ∀ (ks : List Str) (p : Addr), sortedS ks = true → ks.Nodup → (∀ k, k ∈ ks ↔ S k = true) → ks.length < scanBound → H p = none → Q (.ref p) (upd H p (.lst (ks.map V.str)))
theorem cr_sortSet (hc : X.calm = true) : CallR X (.builtin "sorted") (rSortSet X.w) := by
  intro pins s σ H vs us Q I r h
  obtain ⟨a, S, n, rfl, ha, q⟩ := h
  have R := setTO_get I ha
  rw [Vals.ref1 r]
  refine sorted_setT R (I.ok.hd hc) fun s' p out c ks k g o hp hg hi hs hnd hm hl => ?_
  have len : (ks.map V.str).length ≤ sizeLine := by rw [List.length_map]; exact fits_of_scanBound hl
  have hn : H p = none := I.hok.fresh hp
  have J : Inv X pins σ (upd H p (.lst (ks.map V.str))) { s with heap := s'.heap, gens := s'.gens, drawn := s'.drawn, toks := s'.toks } :=
    I.call (ch := []) (Un.laid k hp hn) (I.hok.laid k hp ⟨len, out, c, vals_of_strs hi, hg⟩) (by rw [g]; exact I.bare) (fun _ z => nomatch z)
  have e : s' = { s with heap := s'.heap, gens := s'.gens, drawn := s'.drawn, toks := s'.toks } := by
    cases s' <;> cases s <;> cases o <;> rfl
  rw [e]
  exact ⟨.ref p, _, J, rfl, q ks p hs hnd hm hl hn⟩
/-- sorted(a list of texts), any number of them -/
def rSortTx (K : PySem.W.Frag) : List V → Hp → VK → Prop := fun vs H Q => ∃ (a : Addr) (xs : List Str), vs = [V.ref a] ∧ SqL K H a (xs.map V.str) ∧
  ∀ (ys : List Str) (p : Addr), ys.Perm xs → sortedS ys = true → H p = none → Q (.ref p) (upd H p (.lst (ys.map V.str)))
theorem cr_sortTx : CallR X (.builtin "sorted") (rSortTx X.K) := by
  intro pins s σ H vs us Q I r h
  obtain ⟨a, xs, rfl, hs, q⟩ := h
  obtain ⟨its, rv, hl, hz⟩ := I.list hs
  rw [Vals.ref1 r]
  have len0 := rv.length
  refine PyProof.Rows.sorted_strsAny hl.isList rv.strs (by rw [← len0]; exact hz) fun out ys q1 q2 q3 => ?_
  obtain ⟨ep, he⟩ := PyProof.Rows.sortedAll_at s.heap its out
  have len : (ys.map V.str).length ≤ sizeLine := by rw [List.length_map, q2.length_eq]; rw [List.length_map] at hz; exact hz
  exact ⟨.ref _, upd H (s.heap.objs.size + 1) (.lst (ys.map V.str)), I.laid (t' := s.toks) (fun _ _ => PyProof.Rows.sortedAll_old) (Nat.le_succ _) ⟨len, out.toList, ep, vals_of_strs q1, he⟩, rfl, q ys _ q2 q3 (I.hok.fresh (Nat.le_succ _))⟩
end
end DL

set_option linter.all false
set_option maxRecDepth 100000
set_option maxHeartbeats 4000000
namespace DL
open PySem PySem.Spec PyProof.Rows L2
/-! {elt for t0 in i0 if .. for t1 in i1 if ..} -/
theorem sturn_out (elt t0 i0 t1 i1 : Expr) (fs0 fs1 : List Expr) (sc : Scope) (pos : Pos) (it acc : Value) (env : Env) :
    compTurn (.SetComp elt [⟨t0, i0, fs0, 0⟩, ⟨t1, i1, fs1, 0⟩] sc pos) 0 it acc env = (do
      standAt i0.pos
      match ← pyNext it with
      | none => pure (.done .next)
      | some v =>
        letOwnedTupleGo t0 it v
        assign t0 env v
        let mut ok := true
        for c in fs0 do
          if ok then ok ← isTrue c env (eval c env)
        if ok then
          let x ← eval i1 env
          standAt i1.pos
          let x ← foldedSetIterable i1 env x
          let _ ← runOwn (.compStart (.SetComp elt [⟨t0, i0, fs0, 0⟩, ⟨t1, i1, fs1, 0⟩] sc pos) 1 (← holding [x] (pyIter x)) acc env) env
        again (.compLoop (.SetComp elt [⟨t0, i0, fs0, 0⟩, ⟨t1, i1, fs1, 0⟩] sc pos) 0 it acc env)) := by rfl
theorem sturn_in (elt t0 i0 t1 i1 : Expr) (fs0 fs1 : List Expr) (sc : Scope) (pos : Pos) (it acc : Value) (env : Env) :
    compTurn (.SetComp elt [⟨t0, i0, fs0, 0⟩, ⟨t1, i1, fs1, 0⟩] sc pos) 1 it acc env = (do
      standAt i1.pos
      match ← pyNext it with
      | none => pure (.done .next)
      | some v =>
        letOwnedTupleGo t1 it v
        assign t1 env v
        let mut ok := true
        for c in fs1 do
          if ok then ok ← isTrue c env (eval c env)
        if ok then
          (do let v ← eval elt env; standAt elt.pos; let _ ← call (.builtin "set.add") [acc, v])
        again (.compLoop (.SetComp elt [⟨t0, i0, fs0, 0⟩, ⟨t1, i1, fs1, 0⟩] sc pos) 1 it acc env)) := by rfl
section
variable {prog : Program} {w : World} {A : Around} {R : Result → Shared → Prop} {s : Shared} {elt t0 i0 t1 i1 : Expr} {fs0 fs1 : List Expr} {sc : Scope} {pos : Pos} {it acc : Value} {env : Env}
theorem sloop_out (hs : ∀ x, foldedSetIterable i1 env x = pure x) (J : Nat → Shared → Prop)
    (turn : ∀ n s, J n s → wpAny (model prog w) A (pyNext it) (fun r s₁ => match r with
      | none => R (.ok .next) s₁
      | some v => wpAny (model prog w) A (letOwnedTupleGo t0 it v) (fun _ s₁' => wpAny (model prog w) A (assign t0 env v) (fun _ s₂ =>
          wpAny (model prog w) A (forIn fs0 true fun c r => if r = true then do let ok ← isTrue c env (eval c env); pure (ForInStep.yield ok) else pure (ForInStep.yield r)) (fun ok s₃ =>
            if ok = true then wpAny (model prog w) A (eval i1 env) (fun x s₄ => wpAny (model prog w) A (pyIter x) (fun it1 s₅ =>
              codeAny (model prog w) A (.compStart (.SetComp elt [⟨t0, i0, fs0, 0⟩, ⟨t1, i1, fs1, 0⟩] sc pos) 1 it1 acc env) (fun r s' => match r with
                | .ok _ => ∃ m, m < n ∧ J m s'
                | .error _ => False) s₅) (notedBy (model prog w) A env fun e s' => R (.error e) s') s₄) (notedBy (model prog w) A env fun e s' => R (.error e) s') s₃
            else ∃ m, m < n ∧ J m s₃) (notedBy (model prog w) A env fun e s' => R (.error e) s') s₂) (notedBy (model prog w) A env fun e s' => R (.error e) s') s₁') (notedBy (model prog w) A env fun e s' => R (.error e) s') s₁) (notedBy (model prog w) A env fun e s' => R (.error e) s') s)
    (n : Nat) (h : J n s) :
    codeAny (model prog w) A (.compLoop (.SetComp elt [⟨t0, i0, fs0, 0⟩, ⟨t1, i1, fs1, 0⟩] sc pos) 0 it acc env) R s := by
  refine codeAny_loop rfl J (fun n s hJ => ?_) n h
  show wpAny _ A ((compTurn (.SetComp elt [⟨t0, i0, fs0, 0⟩, ⟨t1, i1, fs1, 0⟩] sc pos) 0 it acc env).onRaise (fun x => do noteFrame x env; theTreesLotGoes x)) _ _ s
  refine wpAny_noted ?_
  rw [sturn_out]
  refine wpAny_bind (wpAny_standAt (wpAny_bind (wpAny_mono (turn n s hJ) (fun r s₁ k₁ => ?_) fun _ _ z => z)))
  cases r with
  | none => exact wpAny_pure k₁
  | some v =>
    refine wpAny_bind (wpAny_mono k₁ (fun _ s₁' k₁' => ?_) fun _ _ z => z)
    refine wpAny_bind (wpAny_mono k₁' (fun _ s₂ k₂ => wpAny_bind (wpAny_mono k₂ (fun ok s₃ k₃ => ?_) fun _ _ z => z)) fun _ _ z => z)
    cases ok with
    | false => exact wpAny_pure ⟨rfl, k₃⟩
    | true =>
      refine wpAny_bind (wpAny_mono k₃ (fun x s₄ k₄ => ?_) fun _ _ z => z)
      refine wpAny_bind (wpAny_standAt (wpAny_bind (wpAny_of_eq (hs x) (wpAny_bind (wpAny_holding (wpAny_mono k₄ (fun it1 s₅ k₅ => ?_) fun _ _ z => z))))))
      refine wpAny_bind (wpAny_runOwn ?_)
      rw [Around.mark_none]
      refine codeAny_mono k₅ fun r s' hr => ?_
      cases r with
      | ok f =>
        first
          | exact wpAny_pure ⟨rfl, hr⟩
          | exact wpAny_bind (wpAny_pure (wpAny_pure ⟨rfl, hr⟩))
      | error e => exact hr.elim
theorem sloop_in (J : Nat → Shared → Prop)
    (turn : ∀ n s, J n s → wpAny (model prog w) A (pyNext it) (fun r s₁ => match r with
      | none => R (.ok .next) s₁
      | some v => wpAny (model prog w) A (letOwnedTupleGo t1 it v) (fun _ s₁' => wpAny (model prog w) A (assign t1 env v) (fun _ s₂ =>
          wpAny (model prog w) A (forIn fs1 true fun c r => if r = true then do let ok ← isTrue c env (eval c env); pure (ForInStep.yield ok) else pure (ForInStep.yield r)) (fun ok s₃ =>
            if ok = true then wpAny (model prog w) A (eval elt env) (fun x s₄ =>
              wpAny (model prog w) A (call (.builtin "set.add") [acc, x]) (fun _ s₅ => ∃ m, m < n ∧ J m s₅) (notedBy (model prog w) A env fun e s' => R (.error e) s') s₄) (notedBy (model prog w) A env fun e s' => R (.error e) s') s₃
            else ∃ m, m < n ∧ J m s₃) (notedBy (model prog w) A env fun e s' => R (.error e) s') s₂) (notedBy (model prog w) A env fun e s' => R (.error e) s') s₁') (notedBy (model prog w) A env fun e s' => R (.error e) s') s₁) (notedBy (model prog w) A env fun e s' => R (.error e) s') s)
    (n : Nat) (h : J n s) :
    codeAny (model prog w) A (.compLoop (.SetComp elt [⟨t0, i0, fs0, 0⟩, ⟨t1, i1, fs1, 0⟩] sc pos) 1 it acc env) R s := by
  refine codeAny_loop rfl J (fun n s hJ => ?_) n h
  show wpAny _ A ((compTurn (.SetComp elt [⟨t0, i0, fs0, 0⟩, ⟨t1, i1, fs1, 0⟩] sc pos) 1 it acc env).onRaise (fun x => do noteFrame x env; theTreesLotGoes x)) _ _ s
  refine wpAny_noted ?_
  rw [sturn_in]
  refine wpAny_bind (wpAny_standAt (wpAny_bind (wpAny_mono (turn n s hJ) (fun r s₁ k₁ => ?_) fun _ _ z => z)))
  cases r with
  | none => exact wpAny_pure k₁
  | some v =>
    refine wpAny_bind (wpAny_mono k₁ (fun _ s₁' k₁' => ?_) fun _ _ z => z)
    refine wpAny_bind (wpAny_mono k₁' (fun _ s₂ k₂ => wpAny_bind (wpAny_mono k₂ (fun ok s₃ k₃ => ?_) fun _ _ z => z)) fun _ _ z => z)
    cases ok with
    | false => exact wpAny_pure ⟨rfl, k₃⟩
    | true =>
      exact wpAny_bind (wpAny_bind (wpAny_mono k₃ (fun x s₄ k₄ => wpAny_bind (wpAny_standAt (wpAny_bind (wpAny_mono k₄ (fun _ s₅ k₅ => wpAny_pure (wpAny_pure ⟨rfl, k₅⟩)) fun _ _ z => z)))) fun _ _ z => z))
theorem sstart1 (h0 : codeAny (model prog w) A (.compLoop (.SetComp elt [⟨t0, i0, fs0, 0⟩, ⟨t1, i1, fs1, 0⟩] sc pos) 1 it acc env) R s)
    (h : wpAny (model prog w) A (pyIter it) (fun it' s' => codeAny (model prog w) A (.compLoop (.SetComp elt [⟨t0, i0, fs0, 0⟩, ⟨t1, i1, fs1, 0⟩] sc pos) 1 it' acc env) R s')
      (notedBy (model prog w) A env fun x s' => R (.error x) s') s) :
    codeAny (model prog w) A (.compStart (.SetComp elt [⟨t0, i0, fs0, 0⟩, ⟨t1, i1, fs1, 0⟩] sc pos) 1 it acc env) R s := by
  refine codeAny_of_tree ?_
  show wpAny _ _ ((compStart (.SetComp elt [⟨t0, i0, fs0, 0⟩, ⟨t1, i1, fs1, 0⟩] sc pos) 1 it acc env).onRaise (fun x => do noteFrame x env; standAt theWindowsPlace)) _ _ s
  refine wpAny_notedAt ?_
  unfold compStart
  show wpAny _ _ (ask >>= _) _ _ s
  refine wpAny_bind (wpAny_askSetting (wpAny_ite ?_))
  split
  · first
      | exact wpAny_bind (wpAny_pure (wpAny_pure (And.intro rfl h0)))
      | exact wpAny_pure (And.intro rfl h0)
  · first
      | exact wpAny_bind (wpAny_rule (wpAny_bind (wpAny_standAt (wpAny_bind (wpAny_mono h (fun it' s' y => wpAny_pure (And.intro rfl y)) fun _ _ x => x)))))
      | (refine wpAny_bind (wpAny_rule ?_); show wpAny _ _ (standAt i1.pos >>= _) _ _ s; exact wpAny_bind (wpAny_standAt (wpAny_bind (wpAny_mono h (fun it' s' y => wpAny_pure (And.intro rfl y)) fun _ _ x => x))))
end
section
variable {X : Cx}
/-- the transformer: the set stands at D -/
def tSc2 (w : World) (wi : TI) (g : TG) (tt : TT) (wi1 : TI) (g1 : TG) (tt1 : TT) (te : TE) (vs vs1 : List Nat) : TE := fun σ H Q => wi σ H fun J H1 => ∀ D, H1 D = none → ∃ U : Nat → Nat → Hp → Prop, (∃ m, U 0 m (upd H1 D (SetTO w D (fun _ => false) 0))) ∧ ∀ i m H, U i m H →
  (J.stop i H ∧ Q (.ref D) H) ∨ (J.go i H ∧ ∃ Nx : Hp → Prop, (∀ H', Nx H' → ∃ m', m' < m ∧ U (i + 1) m' H') ∧ ∀ x H', J.yld i H x H' → g x (wipe σ vs) H' fun σ2 H2 => wipe σ2 vs = wipe σ vs ∧ tt σ2 H2 fun b H3 =>
    if b = true then wi1 σ2 H3 fun J1 H4 => ∃ U1 : Nat → Nat → Hp → Prop, (∃ m, U1 0 m H4) ∧ ∀ j k H, U1 j k H →
      (J1.stop j H ∧ Nx H) ∨ (J1.go j H ∧ ∃ Ny : Hp → Prop, (∀ H', Ny H' → ∃ k', k' < k ∧ U1 (j + 1) k' H') ∧ ∀ x H', J1.yld j H x H' → g1 x (wipe σ2 vs1) H' fun σ3 H5 => wipe σ3 vs1 = wipe σ2 vs1 ∧ tt1 σ3 H5 fun b H6 =>
        if b = true then te σ3 H6 fun y H7 => ∃ (c : Str) (S : Str → Bool) (n : Nat), y = .str c ∧ H7 D = some (SetTO w D S n) ∧ n + 1 < scanBound ∧ Ny (upd H7 D (SetTO w D (fun j => S j || decide (j = c)) (if S c = true then n else n + 1))) else Ny H6)
    else Nx H3)
theorem sc2_core {pins : List (Addr × Obj)} {s : Shared} {σ : L2.St} {H : Hp} {Q : VK} {elt tg iter tg1 iter1 : Expr} {fs fs1 : List Expr} {scope : Scope} {own : List (Str × Nat)} {vs1 : List Nat} {pos pos' : Pos} {wi wi1 : TI} {g g1 : TG} {tt tt1 : TT} {te : TE} {use : Option (Value → Sem Unit)} {Qf : Value → Shared → Prop}
    (hc : X.calm = true) (hN : X.N.Nodup) (I : Inv X pins σ H s) (hi : PI X tg iter wi) (ok : BlkOk X.N X.env.scope scope own) (hv : ∀ i ∈ vs1, i ∈ own.map (·.2))
    (pG : ∀ (s : Shared) (H : Hp) (C : Addr) (cl : List (Str × Addr)) (fp : List Addr), PG (X.blk s H scope (compEnvC scope cl C X.env) fp) tg g) (pT : ∀ (s : Shared) (H : Hp) (C : Addr) (cl : List (Str × Addr)) (fp : List Addr), PTs (X.blk s H scope (compEnvC scope cl C X.env) fp) fs tt)
    (pE : ∀ (s : Shared) (H : Hp) (C : Addr) (cl : List (Str × Addr)) (fp : List Addr), PE (X.blk s H scope (compEnvC scope cl C X.env) fp) elt te) (hs : ∀ x, foldedSetIterable iter X.env x = pure x)
    (pI1 : ∀ (s : Shared) (H : Hp) (C : Addr) (cl : List (Str × Addr)) (fp : List Addr), PI (X.blk s H scope (compEnvC scope cl C X.env) fp) tg1 iter1 wi1)
    (pG1 : ∀ (s : Shared) (H : Hp) (C : Addr) (cl : List (Str × Addr)) (fp : List Addr), PG (X.blk s H scope (compEnvC scope cl C X.env) fp) tg1 g1)
    (pT1 : ∀ (s : Shared) (H : Hp) (C : Addr) (cl : List (Str × Addr)) (fp : List Addr), PTs (X.blk s H scope (compEnvC scope cl C X.env) fp) fs1 tt1)
    (hs1 : ∀ env x, foldedSetIterable iter1 env x = pure x)
    (h : tSc2 X.w wi g tt wi1 g1 tt1 te (own.map (·.2)) vs1 σ H Q)
    (hRR : ∀ D C s' m H', Inv X pins σ H' s' → Q (.ref D) H' → s'.heap.Ns C m → FpOk X pins H' C → compPost (model X.prog X.w) X.A X.xe use Qf (.ref D) C (.ok .next) s') :
    wpAny (model X.prog X.w) X.A (comprehension (.SetComp elt [⟨tg, iter, fs, 0⟩, ⟨tg1, iter1, fs1, 0⟩] scope pos) scope X.env pos' (PySem.newSet (.type "set")) false (eval iter X.env) use) Qf X.xe s := by
  have free0 : ∀ y ∈ scope.names, y.2 = .free → ∃ c, X.env.cells.lookup y.1 = some c := fun y hy e => by
    rcases ok.free y hy e with k | k
    · exact I.ok.has _ (.inl k)
    · exact I.ok.has _ (.inr k)
  refine wpAny_comprehension_free (use := use) rfl hs (closure_ok free0) ok.kind (fun y hy e => by rw [ok.uniq y hy, e])
    (thn (hi.run pins s σ H _ I h) fun xv s1 hx => thn hx fun itv s2 k2 => ?_)
  obtain ⟨it, fp, tn, J, H2, e, I2, T, st2, f2, q⟩ := k2
  subst e
  refine PpSet.newSet_ok (newEnv_comp ?_)
  generalize hD : s2.heap.objs.size = D
  have nD : H2 D = none := I2.hok.fresh (Nat.le_of_eq hD)
  obtain ⟨U, ⟨m0, u0⟩, turn⟩ := q D nD
  generalize hs3 : ({ s2 with heap := s2.heap.push (setObj0 X.w) } : Shared) = s3
  have I3 : Inv X pins σ (upd H2 D (SetTO X.w D (fun _ => false) 0)) s3 := by
    rw [← hs3]
    refine I2.laid (t' := s2.toks) (fun b o e => Heap.get?_push_of_some _ e) (Nat.le_of_eq hD) ?_
    rw [← hD]
    exact setTO_new (setT_fresh _ X.w)
  have e3 : s3.heap = s2.heap.push (setObj0 X.w) := by rw [← hs3]
  have small : ∀ b ∈ fp, b < s2.heap.objs.size := fun b hb => by
    obtain ⟨o, e, _⟩ := T.obj _ _ st2 b hb
    exact Heap.lt_size e
  have f3 : ∀ b ∈ fp, FpOk X pins (upd H2 D (SetTO X.w D (fun _ => false) 0)) b ∧ b < s3.heap.objs.size := fun b hb => by
    have lt := small b hb
    refine ⟨⟨?_, (f2 b hb).2⟩, by rw [e3, Heap.size_push]; exact Nat.lt_succ_of_lt lt⟩
    rw [upd_ne (by rw [← hD]; exact Nat.ne_of_lt lt)]
    exact (f2 b hb).1
  have st3 : tn 0 s3.heap := T.keep _ _ _ st2 fun b _ o e => by rw [e3]; exact Heap.get?_push_of_some _ e
  have I4 := block_start I3 ok hN f3
  have pg := pG s3 (upd H2 D (SetTO X.w D (fun _ => false) 0)) s3.heap.objs.size (cellsFrom (s3.heap.objs.size + 1) scope.names (cloFrom X.env.cells scope.names [])) fp
  have pt := pT s3 (upd H2 D (SetTO X.w D (fun _ => false) 0)) s3.heap.objs.size (cellsFrom (s3.heap.objs.size + 1) scope.names (cloFrom X.env.cells scope.names [])) fp
  have pe := pE s3 (upd H2 D (SetTO X.w D (fun _ => false) 0)) s3.heap.objs.size (cellsFrom (s3.heap.objs.size + 1) scope.names (cloFrom X.env.cells scope.names [])) fp
  have pi1 := pI1 s3 (upd H2 D (SetTO X.w D (fun _ => false) 0)) s3.heap.objs.size (cellsFrom (s3.heap.objs.size + 1) scope.names (cloFrom X.env.cells scope.names [])) fp
  have pg1 := pG1 s3 (upd H2 D (SetTO X.w D (fun _ => false) 0)) s3.heap.objs.size (cellsFrom (s3.heap.objs.size + 1) scope.names (cloFrom X.env.cells scope.names [])) fp
  have pt1 := pT1 s3 (upd H2 D (SetTO X.w D (fun _ => false) 0)) s3.heap.objs.size (cellsFrom (s3.heap.objs.size + 1) scope.names (cloFrom X.env.cells scope.names [])) fp
  show codeAny _ _ (.compStart (.SetComp elt [⟨tg, iter, fs, 0⟩, ⟨tg1, iter1, fs1, 0⟩] scope pos) 0 (.ref it) (.ref D) (compEnvC scope (cellsFrom (s3.heap.objs.size + 1) scope.names (cloFrom X.env.cells scope.names [])) s3.heap.objs.size X.env)) (compPost (model X.prog X.w) X.A X.xe use Qf (.ref D) s3.heap.objs.size) { s3 with heap := pushCells (s3.heap.push { cls := .type "dict", data := .dict #[] }) scope.names }
  have nfp : ∀ b ∈ fp, (upd H2 D (SetTO X.w D (fun _ => false) 0)) b = none := fun b hb => (f3 b hb).1.1
  generalize hce : compEnvC scope (cellsFrom (s3.heap.objs.size + 1) scope.names (cloFrom X.env.cells scope.names [])) s3.heap.objs.size X.env = ce at I4 pg pt pe pi1 pg1 pt1 ⊢
  have cL : ce.locals = s3.heap.objs.size := by subst hce; rfl
  generalize hH3 : upd H2 D (SetTO X.w D (fun _ => false) 0) = H3 at I3 I4 pg pt pe pi1 pg1 pt1 u0 nfp f3
  generalize hs4 : ({ s3 with heap := pushCells (s3.heap.push { cls := .type "dict", data := .dict #[] }) scope.names } : Shared) = s4 at I4 ⊢
  have st4 : tn 0 s4.heap := T.keep _ _ _ st3 fun b _ o e => by rw [← hs4]; exact pushCells_keeps _ _ _ _ (Heap.get?_push_of_some _ e)
  have stat : ∀ {σ' : L2.St} {H' : Hp} {s' : Shared}, Inv (X.blk s3 H3 scope ce fp) [] σ' H' s' → (∀ b ∈ fp, H' b = none) → ∀ b ∈ fp, FpOk (X.blk s3 H3 scope ce fp) [] H' b := fun {σ' H' s'} I' hn b hb =>
    ⟨hn b hb, (I'.ok.exf b hb).1, I'.ok.exfs b hb, .inl hb, fun x c e => (I'.ok.exf b hb).2 x c e, fun p hp => absurd (show p ∈ ([] : List (Addr × Obj)) ++ [] from hp) (by simp)⟩
  have loop : codeAny (model X.prog X.w) X.A (.compLoop (.SetComp elt [⟨tg, iter, fs, 0⟩, ⟨tg1, iter1, fs1, 0⟩] scope pos) 0 (.ref it) (.ref D) ce) (compPost (model X.prog X.w) X.A X.xe use Qf (.ref D) s3.heap.objs.size) s4 := by
    refine sloop_out (hs1 ce) (fun n s' => ∃ i H', Inv (X.blk s3 H3 scope ce fp) [] (wipe σ (own.map (·.2))) H' s' ∧ tn i s'.heap ∧ (∀ b ∈ fp, H' b = none) ∧ U i n H') ?_ m0 ⟨0, H3, I4, st4, nfp, u0⟩
    rintro n s5 ⟨i, H5, I5, st5, n5, u5⟩
    rcases turn i n H5 u5 with ⟨stop, qq⟩ | ⟨go, Nx, hNx, step⟩
    · have td := T.done (X.blk s3 H3 scope ce fp) rfl rfl rfl hc i [] s5 _ H5 (fun _ _ => False) I5 (stat I5 n5) st5 stop
      refine thnF td fun r s6 ⟨hr, I6⟩ => ?_
      subst hr
      have I7 : Inv X pins σ H5 s6 := I3.call' (ch := fp) I6.os I6.base I6.hok I6.bare fun b hb => ⟨(f3 b hb).1.2.2.2.1, (f3 b hb).1.2.1, (f3 b hb).1.2.2.2.2.1, (f3 b hb).1.2.2.2.2.2⟩
      have nC : H5 s3.heap.objs.size = none := by
        have z : H5 ce.locals = none := I6.free
        rwa [cL] at z
      obtain ⟨m, hn, _⟩ := I6.loc
      have hn : s6.heap.Ns ce.locals m := hn
      rw [cL] at hn
      exact hRR D s3.heap.objs.size s6 m H5 I7 qq hn (I3.fpOk (Nat.le_refl _) nC)
    · have ti := T.item (X.blk s3 H3 scope ce fp) rfl rfl rfl hc i [] s5 _ H5 (fun _ _ => False) I5 (stat I5 n5) st5 go
      refine thnF ti fun r s6 ⟨u, hr, k6⟩ => ?_
      subst hr
      refine thnF k6 fun _ s7 ⟨x, H7, I7, r7, y7, st7, n7⟩ => ?_
      have I7' := I7.pinned (stat I7 n7) (T.obj _ _ st7)
      refine thnF (pg.run _ s7 _ H7 x u _ I7' r7 (step x H7 y7)) fun _ s8 ⟨σ8, H8, I8, hw8, q8⟩ => ?_
      refine thnF (pt.run _ s8 σ8 H8 _ I8 q8) fun b s9 ⟨H9, I9, q9⟩ => ?_
      have fin : ∀ {σ9 : L2.St} {s' : Shared} {H' : Hp}, Inv (X.blk s3 H3 scope ce fp) ([] ++ pinsAt fp s7.heap) σ9 H' s' → (wipe σ (own.map (·.2))).length = σ9.length → (∀ (j : Nat) v, (wipe σ (own.map (·.2)))[j]? = some (some v) → σ9[j]? = some (some v)) → Nx H' →
          ∃ m, m < n ∧ ∃ i H', Inv (X.blk s3 H3 scope ce fp) [] (wipe σ (own.map (·.2))) H' s' ∧ tn i s'.heap ∧ (∀ b ∈ fp, H' b = none) ∧ U i m H' := fun {σ9 s' H'} I' hl hk nx => by
        obtain ⟨m', hm, u'⟩ := hNx H' nx
        have pin' : ∀ b ∈ fp, ∀ o, s7.heap.get? b = some o → s'.heap.get? b = some o ∧ H' b = none := fun b hb o e =>
          let z := I'.pin (b, o) (List.mem_append_right _ (List.mem_append_right _ (mem_pinsAt hb e)))
          ⟨z.1, z.2.1⟩
        refine ⟨m', hm, i + 1, H', (I'.unpinned (pins := [])).weak hl hk, T.keep _ _ _ st7 fun b hb o e => (pin' b hb o e).1, fun b hb => ?_, u'⟩
        obtain ⟨o, e, _⟩ := T.obj _ _ st7 b hb
        exact (pin' b hb o e).2
      have hl8 : (wipe σ (own.map (·.2))).length = σ8.length := by rw [← hw8, wipe_length]
      have hk8 : ∀ (j : Nat) v, (wipe σ (own.map (·.2)))[j]? = some (some v) → σ8[j]? = some (some v) := fun j v e => by
        rw [← hw8] at e
        exact (wipe_some e).1
      have hk9 : ∀ (j : Nat) v, (wipe σ (own.map (·.2)))[j]? = some (some v) → (wipe σ8 vs1)[j]? = some (some v) := fun j v e => by
        rw [← hw8] at e
        obtain ⟨e1, e2⟩ := wipe_some e
        rw [wipe_out fun z => e2 (hv j z)]
        exact e1
      cases b with
      | false =>
        simp only [Bool.false_eq_true, if_false] at q9 ⊢
        exact fin I9 hl8 hk8 q9
      | true =>
        simp only [if_true] at q9 ⊢
        refine thnF (pi1.run _ s9 σ8 H9 _ I9 q9) fun xv s10 hx => thnF hx fun itv s11 k11 => ?_
        obtain ⟨it1, fp1, tn1, J1, H11, e1, I11, T1, st11, f11, U1, ⟨m1, u1⟩, turn1⟩ := k11
        subst e1
        have stat1 : ∀ {H' : Hp}, (∀ b ∈ fp1, H' b = none) → ∀ b ∈ fp1, FpOk (X.blk s3 H3 scope ce fp) ([] ++ pinsAt fp s7.heap) H' b := fun hn b hb => ⟨hn b hb, (f11 b hb).2⟩
        have loop1 : codeAny (model X.prog X.w) X.A (.compLoop (.SetComp elt [⟨tg, iter, fs, 0⟩, ⟨tg1, iter1, fs1, 0⟩] scope pos) 1 (.ref it1) (.ref D) ce)
            (fun r s' => match r with
              | .ok _ => ∃ m, m < n ∧ ∃ i H', Inv (X.blk s3 H3 scope ce fp) [] (wipe σ (own.map (·.2))) H' s' ∧ tn i s'.heap ∧ (∀ b ∈ fp, H' b = none) ∧ U i m H'
              | .error _ => False) s11 := by
          refine sloop_in (fun k s' => ∃ j H', Inv (X.blk s3 H3 scope ce fp) ([] ++ pinsAt fp s7.heap) (wipe σ8 vs1) H' s' ∧ tn1 j s'.heap ∧ (∀ b ∈ fp1, H' b = none) ∧ U1 j k H') ?_ m1 ⟨0, H11, I11.weak (wipe_length _ _) (fun j v e => (wipe_some e).1), st11, fun b hb => (f11 b hb).1, u1⟩
          rintro k s12 ⟨j, H12, I12, st12, n12, u12⟩
          rcases turn1 j k H12 u12 with ⟨stop1, nx1⟩ | ⟨go1, Ny, hNy, step1⟩
          · refine thnF (T1.done (X.blk s3 H3 scope ce fp) rfl rfl rfl hc j _ s12 (wipe σ8 vs1) H12 (fun _ _ => False) I12 (stat1 n12) st12 stop1) fun r s13 ⟨hr, I13⟩ => ?_
            subst hr
            exact fin I13 (hl8.trans (wipe_length σ8 vs1).symm) hk9 nx1
          · refine thnF (T1.item (X.blk s3 H3 scope ce fp) rfl rfl rfl hc j _ s12 (wipe σ8 vs1) H12 (fun _ _ => False) I12 (stat1 n12) st12 go1) fun r s13 ⟨v1, hr, k13⟩ => ?_
            subst hr
            refine thnF k13 fun _ s14 ⟨x1, H14, I14, r14, y14, st14, n14⟩ => ?_
            have I14' := I14.pinned (stat1 n14) (T1.obj _ _ st14)
            refine thnF (pg1.run _ s14 (wipe σ8 vs1) H14 x1 v1 _ I14' r14 (step1 x1 H14 y14)) fun _ s15 ⟨σ15, H15, I15, hw15, q15⟩ => ?_
            refine thnF (pt1.run _ s15 σ15 H15 _ I15 q15) fun b1 s16 ⟨H16, I16, q16⟩ => ?_
            have fin1 : ∀ {s' : Shared} {H' : Hp}, Inv (X.blk s3 H3 scope ce fp) (([] ++ pinsAt fp s7.heap) ++ pinsAt fp1 s14.heap) σ15 H' s' → Ny H' → ∃ m, m < k ∧ ∃ j H', Inv (X.blk s3 H3 scope ce fp) ([] ++ pinsAt fp s7.heap) (wipe σ8 vs1) H' s' ∧ tn1 j s'.heap ∧ (∀ b ∈ fp1, H' b = none) ∧ U1 j m H' := fun {s' H'} I' nx => by
              obtain ⟨m', hm, u'⟩ := hNy H' nx
              have pin' : ∀ b ∈ fp1, ∀ o, s14.heap.get? b = some o → s'.heap.get? b = some o ∧ H' b = none := fun b hb o e =>
                let z := I'.pin (b, o) (List.mem_append_right _ (List.mem_append_right _ (mem_pinsAt hb e)))
                ⟨z.1, z.2.1⟩
              refine ⟨m', hm, j + 1, H', I'.unpinned.weak (by rw [← hw15, wipe_length]) (fun j v e => by rw [← hw15] at e; exact (wipe_some e).1), T1.keep _ _ _ st14 fun b hb o e => (pin' b hb o e).1, fun b hb => ?_, u'⟩
              obtain ⟨o, e, _⟩ := T1.obj _ _ st14 b hb
              exact (pin' b hb o e).2
            cases b1 with
            | false =>
              simp only [Bool.false_eq_true, if_false] at q16 ⊢
              exact fin1 I16 q16
            | true =>
              simp only [if_true] at q16 ⊢
              refine thnF (pe.run _ s16 σ15 H16 _ I16 q16) fun z s17 ⟨yv, H17, I17, r17, cb, S0, n0, ey, hD17, hz17, nx⟩ => ?_
              subst ey
              obtain ⟨tk, rfl⟩ := (show ∃ tk, z = Value.str cb tk from r17)
              exact addT_ok (X := X.blk s3 H3 scope ce fp) I17 hD17 hz17 fun s18 I18 => fin1 I18 nx
        exact sstart1 loop1 (T1.self X.A 0 _ _ _ st11 loop1)
  exact PpSet.codeAny_compStart_set loop (T.self X.A 0 _ _ _ st4 loop)
theorem pe_sc2 {elt tg iter tg1 iter1 : Expr} {fs fs1 : List Expr} {scope : Scope} {own : List (Str × Nat)} {vs1 : List Nat} {pos : Pos} {wi wi1 : TI} {g g1 : TG} {tt tt1 : TT} {te : TE} (hc : X.calm = true) (hN : X.N.Nodup) (hi : PI X tg iter wi) (ok : BlkOk X.N X.env.scope scope own) (hv : ∀ i ∈ vs1, i ∈ own.map (·.2))
    (pG : ∀ (s : Shared) (H : Hp) (C : Addr) (cl : List (Str × Addr)) (fp : List Addr), PG (X.blk s H scope (compEnvC scope cl C X.env) fp) tg g) (pT : ∀ (s : Shared) (H : Hp) (C : Addr) (cl : List (Str × Addr)) (fp : List Addr), PTs (X.blk s H scope (compEnvC scope cl C X.env) fp) fs tt)
    (pI1 : ∀ (s : Shared) (H : Hp) (C : Addr) (cl : List (Str × Addr)) (fp : List Addr), PI (X.blk s H scope (compEnvC scope cl C X.env) fp) tg1 iter1 wi1)
    (pG1 : ∀ (s : Shared) (H : Hp) (C : Addr) (cl : List (Str × Addr)) (fp : List Addr), PG (X.blk s H scope (compEnvC scope cl C X.env) fp) tg1 g1) (pT1 : ∀ (s : Shared) (H : Hp) (C : Addr) (cl : List (Str × Addr)) (fp : List Addr), PTs (X.blk s H scope (compEnvC scope cl C X.env) fp) fs1 tt1)
    (pE : ∀ (s : Shared) (H : Hp) (C : Addr) (cl : List (Str × Addr)) (fp : List Addr), PE (X.blk s H scope (compEnvC scope cl C X.env) fp) elt te) (hs : ∀ x, foldedSetIterable iter X.env x = pure x := by intro _; rfl) (hs1 : ∀ env x, foldedSetIterable iter1 env x = pure x := by intro _ _; rfl) :
    PE X (.SetComp elt [⟨tg, iter, fs, 0⟩, ⟨tg1, iter1, fs1, 0⟩] scope pos) (tSc2 X.w wi g tt wi1 g1 tt1 te (own.map (·.2)) vs1) := by
  refine ⟨fun pins s σ H Q I h => ?_⟩
  rw [PpSet.eval_SetComp]
  refine sc2_core hc hN I hi ok hv pG pT pE hs pI1 pG1 pT1 hs1 h fun D C s' m H' I' q hn f => ⟨m, hn, fun h'' sb => ?_⟩
  obtain ⟨f0, f1, f2, f3, f4, f5⟩ := f
  exact ⟨.ref D, H', I'.turned (t' := s'.toks) (fun b o hb e => (sb.2 b hb).trans e) f0 f1 f3 f4 f5, rfl, q⟩
end
end DL

set_option linter.all false
set_option maxRecDepth 100000
set_option maxHeartbeats 4000000
namespace DL
open PySem PySem.Spec PyProof.Rows L2
def ltS (x y : Str) : Bool := decide (x.cps.toList < y.cps.toList)
theorem cps_inj {x y : Str} (h : x.cps.toList = y.cps.toList) : x = y := by
  cases x
  cases y
  exact congrArg Str.mk (Array.toList_inj.mp h)
theorem ltS_trans {x y z : Str} (h : ltS x y = true) (k : ltS y z = true) : ltS x z = true := decide_eq_true (List.lt_trans (of_decide_eq_true h) (of_decide_eq_true k))
theorem ltS_irr (x : Str) : ltS x x = false := decide_eq_false (List.lt_irrefl _)
theorem ltS_asym {x y : Str} (h : ltS x y = true) : ltS y x = false := decide_eq_false (List.lt_asymm (of_decide_eq_true h))
theorem ltS_tri {x y : Str} (h : ltS x y = false) (k : ltS y x = false) : x = y :=
  cps_inj (List.le_antisymm (List.not_lt.mp (of_decide_eq_false k)) (List.not_lt.mp (of_decide_eq_false h)))
def insS (x : Str) : List Str → List Str
  | [] => [x]
  | y :: l => if x = y then y :: l else if ltS x y then x :: y :: l else y :: insS x l
def srtS (l : List Str) : List Str := l.foldr insS []
def Asc (l : List Str) : Prop := l.Pairwise fun x y => ltS x y = true
theorem mem_insS {x k : Str} : ∀ {l : List Str}, k ∈ insS x l ↔ k = x ∨ k ∈ l
  | [] => by simp [insS]
  | y :: l => by
    unfold insS
    split
    · rename_i e
      subst e
      simp
    · split
      · simp
      · rw [List.mem_cons, mem_insS (l := l), List.mem_cons]
        constructor <;> (intro h; rcases h with h | h | h <;> simp [h])
theorem mem_srtS {k : Str} : ∀ {l : List Str}, k ∈ srtS l ↔ k ∈ l
  | [] => Iff.rfl
  | x :: l => by
    show k ∈ insS x (srtS l) ↔ _
    rw [mem_insS, mem_srtS (l := l), List.mem_cons]
theorem asc_insS {x : Str} : ∀ {l : List Str}, Asc l → Asc (insS x l)
  | [], _ => List.pairwise_singleton _ _
  | y :: l, h => by
    obtain ⟨h1, h2⟩ := List.pairwise_cons.mp h
    unfold insS
    split
    · exact h
    · rename_i ne
      split
      · rename_i lt
        refine List.pairwise_cons.mpr ⟨fun z hz => ?_, h⟩
        rcases List.mem_cons.mp hz with e | hz
        · rw [e]; exact lt
        · exact ltS_trans lt (h1 z hz)
      · rename_i nlt
        refine List.pairwise_cons.mpr ⟨fun z hz => ?_, asc_insS h2⟩
        rcases mem_insS.mp hz with e | hz
        · rw [e]
          cases e2 : ltS y x with
          | true => rfl
          | false => exact absurd (ltS_tri (by simpa using nlt) e2) ne
        · exact h1 z hz
theorem asc_srtS : ∀ l : List Str, Asc (srtS l)
  | [] => List.Pairwise.nil
  | x :: l => asc_insS (asc_srtS l)
theorem Asc.nodup {l : List Str} (h : Asc l) : l.Nodup := h.imp fun {x y} lt e => by rw [e, ltS_irr] at lt; cases lt
theorem asc_ext : ∀ {a b : List Str}, Asc a → Asc b → (∀ k, k ∈ a ↔ k ∈ b) → a = b
  | [], [], _, _, _ => rfl
  | [], y :: b, _, _, h => absurd ((h y).mpr List.mem_cons_self) List.not_mem_nil
  | x :: a, [], _, _, h => absurd ((h x).mp List.mem_cons_self) List.not_mem_nil
  | x :: a, y :: b, ha, hb, h => by
    obtain ⟨a1, a2⟩ := List.pairwise_cons.mp ha
    obtain ⟨b1, b2⟩ := List.pairwise_cons.mp hb
    have e : x = y := by
      rcases List.mem_cons.mp ((h x).mp List.mem_cons_self) with e | m
      · exact e
      · rcases List.mem_cons.mp ((h y).mpr List.mem_cons_self) with e | m2
        · exact e.symm
        · have := ltS_asym (b1 x m)
          rw [a1 y m2] at this
          cases this
    subst e
    congr 1
    refine asc_ext a2 b2 fun k => ⟨fun m => ?_, fun m => ?_⟩
    · rcases List.mem_cons.mp ((h k).mp (List.mem_cons_of_mem _ m)) with e | m2
      · have := a1 k m
        rw [e, ltS_irr] at this
        cases this
      · exact m2
    · rcases List.mem_cons.mp ((h k).mpr (List.mem_cons_of_mem _ m)) with e | m2
      · have := b1 k m
        rw [e, ltS_irr] at this
        cases this
      · exact m2
theorem asc_of {l : List Str} (h : sortedS l = true) (nd : l.Nodup) : Asc l := by
  have main : ∀ (r : List Str) (x : Str), risingS x r = true → (x :: r).Nodup → Asc (x :: r) := by
    intro r
    induction r with
    | nil => intro x _ _; exact List.pairwise_singleton _ _
    | cons y r ih =>
      intro x h nd
      unfold risingS at h
      rw [Bool.and_eq_true] at h
      obtain ⟨nd1, nd2⟩ := List.nodup_cons.mp nd
      have ih' := ih y h.2 nd2
      have lt : ltS x y = true := by
        cases e : ltS x y with
        | true => rfl
        | false =>
          have e2 : ltS y x = false := by
            have h1 := h.1
            rw [Bool.not_eq_true'] at h1
            unfold ltS
            rw [← h1, ltCps_eq]
          exact absurd (List.mem_cons.mpr (.inl (ltS_tri e e2))) nd1
      refine List.pairwise_cons.mpr ⟨fun z hz => ?_, ih'⟩
      rcases List.mem_cons.mp hz with e | hz
      · rw [e]; exact lt
      · exact ltS_trans lt ((List.pairwise_cons.mp ih').1 z hz)
  cases l with
  | nil => exact List.Pairwise.nil
  | cons x r => exact main r x h nd
theorem srtS_eq {l ks : List Str} (h : sortedS ks = true) (nd : ks.Nodup) (m : ∀ k, k ∈ ks ↔ k ∈ l) : ks = srtS l :=
  asc_ext (asc_of h nd) (asc_srtS l) fun k => (m k).trans mem_srtS.symm
end DL

set_option linter.all false
set_option maxRecDepth 100000
set_option maxHeartbeats 4000000
namespace DL
open PySem PySem.Spec PyProof.Rows L2
theorem noC_set {w : World} {H : Hp} {D : Addr} {S : Str → Bool} {n : Nat} (h : H D = some (SetTO w D S n)) : NoC H D := fun q z => by
  rw [h] at z
  have z1 := Option.some.inj z
  unfold SetTO LamX.CodeO at z1
  have z2 := HO.ext.inj z1
  let oc : Obj := { cls := .none, data := .fields #[.none, .str q 0] }
  let g : Heap := ⟨Array.replicate (D + 1) oc, {}⟩
  have hg : g.get? D = some oc := by
    show (match (Array.replicate (D + 1) oc)[D]? with | some ⟨_, _, .freed, _⟩ => none | o => o) = _
    rw [Array.getElem?_replicate, if_pos (Nat.lt_succ_self D)]
  have hc : ∃ (oc : Obj) (vs : Array Value) (t : Tok), g.get? D = some oc ∧ oc.data = .fields vs ∧ vs[1]? = some (.str q t) := ⟨oc, _, 0, hg, rfl, rfl⟩
  have hs : SetT w g D S n := (congrFun z2 g).mpr hc
  obtain ⟨ob, rows, age, tb, go, _, hd, _⟩ := hs
  rw [hg] at go
  cases go
  cases hd
theorem wip_no {ρ : List SV} {i : Nat} {x : SV} : ∀ {vs : List Nat}, i ∈ vs → (wip ρ vs)[i]? = some x → x = .no
  | v :: vs, hm, e => by
    unfold wip at e
    by_cases hv : v = i
    · subst hv
      by_cases hl : v < (wip ρ vs).length
      · rw [List.getElem?_set_self hl] at e
        cases e
        rfl
      · rw [List.getElem?_eq_none (by rw [List.length_set]; omega)] at e
        cases e
    · rw [List.getElem?_set_ne hv] at e
      rcases List.mem_cons.mp hm with z | z
      · exact absurd z.symm hv
      · exact wip_no z e
theorem st8_sig {A : Amb} {F : Fp} {ρ : List SV} {σ σ' : L2.St} {H : Hp} {n : Nat} (S : St8 A F ρ σ H n) (hl : σ'.length = σ.length) (h : ∀ (i : Nat) x, ρ[i]? = some x → x = .no ∨ σ'[i]? = σ[i]?) : St8 A F ρ σ' H n where
  j := S.j
  adv := S.adv
  sub := S.sub
  trk := S.trk
  gh := S.gh
  len := by rw [hl]; exact S.len
  slot := fun i x e => by
    obtain ⟨o, h1, h2⟩ := S.slot i x e
    rcases h i x e with z | z
    · subst z
      have lt : i < σ'.length := by
        rw [hl]
        exact (List.getElem?_eq_some_iff.mp h1).1
      exact ⟨σ'[i], List.getElem?_eq_getElem lt, trivial⟩
    · exact ⟨o, by rw [z]; exact h1, h2⟩
  nd := S.nd
theorem da_strs {H : Hp} : ∀ ks : List Str, DA H (ks.map V.str) (ks.map PyData.str)
  | [] => .nil
  | k :: ks => .cons (.str k) (da_strs ks)
/-- sorted({elt for g in wi for g1 in wi1}): texts, at most 20 of each -/
theorem ef_sortSet2 {A : Amb} {ρ : List SV} {wi wi1 : TI} {g g1 : TG} {te : TE} {vs vs1 : List Nat} {c0 : Nat} {ds : List PyData} {w : World} (f : PyData → List Str) (hi : EI A wi ρ c0 (· = ds)) (hv : ∀ i ∈ vs1, i ∈ vs) (hn : ds.length ≤ 200)
    (h : ∀ (i : Nat) d, ds[i]? = some d → (f d).length ≤ 20 ∧ ∃ ρ1, TGw A g vs d (wip ρ vs) ρ1 ∧ EI A wi1 ρ1 0 (· = (f d).map .str) ∧ ∀ x ∈ f d, ∃ ρ2, TGw A g1 vs1 (.str x) (wip ρ vs) ρ2 ∧ EE A te ρ2 0 (· = .str x)) :
    EF A (tCB (rSortSet w) (tCons (tSc2 w wi g tYes wi1 g1 tYes te vs vs1) tNil)) ρ c0 (· = (srtS (ds.flatMap f)).map .str) := fun F σ H n Q S l q => by
  refine hi F σ H n _ S (by omega) fun J G Y ds' gg H1 s1 j1 r1 wk hg hG hY => ?_
  subst r1
  have S1 := S.step s1 j1
  intro D hD
  let F' : Fp := ⟨D :: F.fs, gg :: F.gh⟩
  have nD : D ∉ F.fs := S1.fresh hD
  have offD : ∀ {H2 : Hp}, Same (off A.W.fs H1) (off A.W.fs H2) → Same (off F.fs H1) (off (D :: F.fs) H2) := fun {H2} s a o e => by
    have h1 := S1.offF s a o e
    refine off_of (fun z => ?_) (off_some h1).2
    rcases List.mem_cons.mp z with z | z
    · subst z
      have := (off_some e).2
      rw [hD] at this
      cases this
    · exact (off_some e).1 z
  have mkS : ∀ {H2 : Hp} {m : Nat} {gs : List Gst}, Same (off A.W.fs H1) (off A.W.fs H2) → A.W.J m H2 → (∃ o, H2 D = some o) → (∀ x ∈ gs, x.p (off (D :: F.fs) H2)) → St8 A ⟨D :: F.fs, gs⟩ (wip ρ vs) (wipe σ vs) H2 m := fun {H2 m gs} s j hh hgp => by
    have S0 := st8_wip (S1.step s j) vs
    refine ⟨j, S0.adv, fun a ha => List.mem_cons_of_mem _ (S0.sub a ha), fun a ha => ?_, hgp, S0.len, fun i x e => ?_, S0.nd⟩
    · rcases List.mem_cons.mp ha with z | z
      · subst z
        exact hh
      · exact S0.trk a z
    · obtain ⟨o, h1, h2⟩ := (st8_wip S1 vs).slot i x e
      refine ⟨o, h1, ?_⟩
      cases x with
      | no => trivial
      | im d =>
        obtain ⟨v, e, k⟩ := h2
        exact ⟨v, e, k.mono (offD s)⟩
      | raw v => exact h2
      | own p ps =>
        obtain ⟨e, hp, hp0, xs, hx, k⟩ := h2
        exact ⟨e, List.mem_cons_of_mem _ hp, hp0, xs, (off_some (s p _ (off_of (A.fresh_nw hp0) hx))).2, k.mono (offD s)⟩
      | dct p ps =>
        obtain ⟨e, hp, hp0, xs, hx, k⟩ := h2
        exact ⟨e, List.mem_cons_of_mem _ hp, hp0, xs, (off_some (s p _ (off_of (A.fresh_nw hp0) hx))).2, k.mono (offD s)⟩
      | semi p ps pr =>
        obtain ⟨q', rest, e, hq', kr, hp, hp0, xs, hx, k⟩ := h2
        exact ⟨q', rest, e, offD s _ _ hq', kr.mono (offD s), List.mem_cons_of_mem _ hp, hp0, xs, (off_some (s p _ (off_of (A.fresh_nw hp0) hx))).2, k.mono (offD s)⟩
  have nDw : D ∉ A.W.fs := fun z => nD (S1.sub D (A.sub D z))
  have updS : ∀ {H2 : Hp} {o : HO}, Same (off A.W.fs H1) (off A.W.fs H2) → Same (off A.W.fs H1) (off A.W.fs (upd H2 D o)) := fun {H2 o} s a u e => by
    refine off_of (off_some e).1 ?_
    rw [upd_ne fun z => by rw [z] at e; have := (off_some e).2; rw [hD] at this; cases this]
    exact (off_some (s a u e)).2
  have updJ : ∀ {H2 : Hp} {o : HO} {m : Nat}, NoC H2 D → A.W.J m H2 → A.W.J m (upd H2 D o) := fun {H2 o m} nc j => A.W.stay _ _ _ j fun a ha u e => by
    rw [upd_ne (noC_elim nDw nc ha)]
    exact e
  have updG : ∀ {x : Gst} {H2 : Hp} {o : HO}, x.p (off (D :: F.fs) H2) → x.p (off (D :: F.fs) (upd H2 D o)) := fun {x H2 o} p => x.mono _ _ (off_upd List.mem_cons_self) p
  let M : Nat → Nat → List Str → Hp → Prop := fun i c es H2 => ∃ (Sf : Str → Bool) (m : Nat), Same (off A.W.fs H1) (off A.W.fs H2) ∧ A.W.J (n + c0) H2 ∧ H2 D = some (SetTO w D Sf m) ∧ m ≤ c ∧ (∀ k, Sf k = true ↔ k ∈ (ds'.take i).flatMap f ∨ k ∈ es) ∧ gg.p (off (D :: F.fs) H2)
  refine ⟨fun i m H2 => m = ds'.length - i ∧ i ≤ ds'.length ∧ M i (i * 20) [] H2, ⟨ds'.length, by simp, Nat.zero_le _, fun _ => false, 0, updS (Same.refl _), updJ (noC_none hD) j1, upd_same, Nat.zero_le _, fun k => by simp, gg.mono _ _ (offD (updS (Same.refl _))) hg⟩, ?_⟩
  rintro i m H2 ⟨rfl, hil, Sf, mm, s2, j2, e2, l2, m2, g2⟩
  by_cases hlt : i < ds'.length
  · refine .inr ⟨wk.goes i H2 hlt (hG H2 (gg.mono _ _ off_le g2)), M (i + 1) ((i + 1) * 20) [], fun H' p => ⟨ds'.length - (i + 1), by omega, rfl, hlt, p⟩, fun x H3 y => ?_⟩
    have y := wk.yields i H2 x H3 hlt (hG H2 (gg.mono _ _ off_le g2)) y
    obtain ⟨s3, d, hd', kd⟩ := hY i H2 x H3 (gg.mono _ _ off_le g2) hlt y
    obtain ⟨fl, ρ1, tg, ei1, tgs⟩ := h i d hd'
    have s13 : Same (off A.W.fs H1) (off A.W.fs H3) := s2.trans (same_off s3)
    have j3 : A.W.J (n + c0) H3 := A.W.stay _ _ _ j2 fun a _ o e => s3 a o e
    have g3 : ∀ x ∈ gg :: F.gh, x.p (off (D :: F.fs) H3) := fun x hx => by
      rcases List.mem_cons.mp hx with z | z
      · rw [z]
        exact gg.mono _ _ (same_off s3) g2
      · exact x.mono _ _ (offD s13) (S1.gh x z)
    have S3 := mkS (gs := gg :: F.gh) s13 j3 ⟨_, s3 _ _ e2⟩ g3
    have trk2 : ∀ a ∈ D :: F.fs, ∃ o, H2 a = some o := fun a ha => by
      rcases List.mem_cons.mp ha with z | z
      · rw [z]
        exact ⟨_, e2⟩
      · exact (S1.step s2 j2).trk a z
    refine tg F' σ H3 _ x _ S3 (kd (D :: F.fs) trk2 g2) fun σ' S4 hw => ⟨hw, ?_⟩
    show wi1 σ' H3 _
    refine ei1 F' σ' H3 _ _ S4 (by omega) fun J2 G2 Y2 es' gg2 H4 s4 j4 r4 wk2 hg2 hG2 hY2 => ?_
    subst r4
    have len2 : ((f d).map PyData.str).length = (f d).length := List.length_map _
    have s14 := s13.trans s4
    have e4 : H4 D = some (SetTO w D Sf mm) := (off_some (s4 D _ (off_of nDw (s3 _ _ e2)))).2
    have g4 : gg.p (off (D :: F.fs) H4) := gg.mono _ _ (S4.offF s4) (g3 gg List.mem_cons_self)
    refine ⟨fun j k H5 => k = (f d).length - j ∧ j ≤ (f d).length ∧ M i (i * 20 + j) ((f d).take j) H5 ∧ gg2.p (off (D :: F.fs) H5), ⟨(f d).length, by simp, Nat.zero_le _, ⟨Sf, mm, s14, j4, e4, l2, fun k => by rw [m2 k]; simp, g4⟩, hg2⟩, ?_⟩
    rintro j k H5 ⟨rfl, hjl, ⟨Sg, mg, s5, j5, e5, l5, m5, g5⟩, gg5⟩
    by_cases hjt : j < (f d).length
    · refine .inr ⟨wk2.goes j H5 (by rw [len2]; exact hjt) (hG2 H5 (gg2.mono _ _ off_le gg5)), fun H6 => M i (i * 20 + (j + 1)) ((f d).take (j + 1)) H6 ∧ gg2.p (off (D :: F.fs) H6), fun H' p => ⟨(f d).length - (j + 1), by omega, rfl, hjt, p⟩, fun x1 H6 y1 => ?_⟩
      have y1 := wk2.yields j H5 x1 H6 (by rw [len2]; exact hjt) (hG2 H5 (gg2.mono _ _ off_le gg5)) y1
      obtain ⟨s6, d1, hd1, kd1⟩ := hY2 j H5 x1 H6 (gg2.mono _ _ off_le gg5) (by rw [len2]; exact hjt) y1
      obtain ⟨z, rfl, hz⟩ := strs_get hd1
      obtain ⟨ρ2, tg1, ete⟩ := tgs z (List.mem_of_getElem? hz)
      have s16 : Same (off A.W.fs H1) (off A.W.fs H6) := s5.trans (same_off s6)
      have j6 : A.W.J (n + c0) H6 := A.W.stay _ _ _ j5 fun a _ o e => s6 a o e
      have g6 : ∀ x ∈ gg2 :: gg :: F.gh, x.p (off (D :: F.fs) H6) := fun x hx => by
        rcases List.mem_cons.mp hx with z | hx
        · rw [z]
          exact gg2.mono _ _ (same_off s6) gg5
        · rcases List.mem_cons.mp hx with z | z
          · rw [z]
            exact gg.mono _ _ (same_off s6) g5
          · exact x.mono _ _ (offD s16) (S1.gh x z)
      have S6' := mkS (gs := gg2 :: gg :: F.gh) s16 j6 ⟨_, s6 _ _ e5⟩ g6
      have lw : (wipe σ' vs1).length = (wipe σ vs).length := by rw [wipe_length, ← hw, wipe_length]
      have S6 := st8_sig (σ' := wipe σ' vs1) S6' lw fun p x e => by
        by_cases hp : p ∈ vs
        · exact .inl (wip_no hp e)
        · refine .inr ?_
          rw [wipe_out fun z => hp (hv p z), ← hw, wipe_out hp]
      have trk5 : ∀ a ∈ D :: F.fs, ∃ o, H5 a = some o := fun a ha => by
        rcases List.mem_cons.mp ha with z | z
        · rw [z]
          exact ⟨_, e5⟩
        · exact (S1.step s5 j5).trk a z
      refine tg1 ⟨D :: F.fs, gg2 :: gg :: F.gh⟩ σ' H6 _ x1 _ S6 (kd1 (D :: F.fs) trk5 gg5) fun σ'' S7 hw1 => ⟨hw1, ?_⟩
      show te σ'' H6 _
      refine ete _ σ'' H6 _ _ S7 (by omega) fun v e H7 s7 j7 k7 r7 => ?_
      subst r7
      cases k7
      have e7 : H7 D = some (SetTO w D Sg mg) := (off_some (s7 D _ (off_of nDw (s6 _ _ e5)))).2
      have bd : mg + 1 < scanBound := by
        have hb : scanBound = 4096 := rfl
        omega
      refine ⟨z, Sg, mg, rfl, e7, bd, ⟨_, _, updS (s16.trans s7), updJ (noC_set e7) j7, upd_same, ?_, fun k => ?_, updG (gg.mono _ _ (S7.offF s7) (g6 gg (List.mem_cons_of_mem _ List.mem_cons_self)))⟩, updG (gg2.mono _ _ (S7.offF s7) (g6 gg2 List.mem_cons_self))⟩
      · split <;> omega
      · rw [Bool.or_eq_true, decide_eq_true_eq, m5 k, List.take_add_one, hz, List.mem_append, or_assoc]
        simp
    · have ej : j = (f d).length := by omega
      subst ej
      refine .inl ⟨by have := wk2.stops H5 (hG2 H5 (gg2.mono _ _ off_le gg5)); rw [len2] at this; exact this, Sg, mg, s5, j5, e5, by rw [Nat.succ_mul]; omega, fun k => ?_, g5⟩
      rw [m5 k, List.take_add_one, hd', List.take_length, List.flatMap_append, List.mem_append]
      simp
  · have ei : i = ds'.length := by omega
    subst ei
    refine .inl ⟨wk.stops H2 (hG H2 (gg.mono _ _ off_le g2)), D, Sf, mm, rfl, e2, fun ks p hs nd hm hk hp => ?_⟩
    have sp : Same (off A.W.fs H2) (off A.W.fs (upd H2 p (.lst (ks.map V.str)))) := same_off (same_new hp)
    have S2 := S1.step s2 j2
    have np : p ∉ F.fs := S2.fresh hp
    have ek : ks = srtS (ds'.flatMap f) := srtS_eq hs nd fun k => by
      rw [hm k, m2 k, List.take_length]
      simp
    have H0p : H p = none := fresh_back S (s1.trans s2) hp j2
    refine q p (ks.map V.str) (ks.map PyData.str) _ ((s1.trans s2).trans sp) (A.W.stay _ _ _ j2 fun a _ o e => same_new hp a o e) H0p upd_same (da_strs ks) (by rw [ek])
theorem ee_sortSet2 {A : Amb} {ρ : List SV} {wi wi1 : TI} {g g1 : TG} {te : TE} {vs vs1 : List Nat} {c0 : Nat} {ds : List PyData} {w : World} (f : PyData → List Str) (hi : EI A wi ρ c0 (· = ds)) (hv : ∀ i ∈ vs1, i ∈ vs) (hn : ds.length ≤ 200)
    (h : ∀ (i : Nat) d, ds[i]? = some d → (f d).length ≤ 20 ∧ ∃ ρ1, TGw A g vs d (wip ρ vs) ρ1 ∧ EI A wi1 ρ1 0 (· = (f d).map .str) ∧ ∀ x ∈ f d, ∃ ρ2, TGw A g1 vs1 (.str x) (wip ρ vs) ρ2 ∧ EE A te ρ2 0 (· = .str x)) :
    EE A (tCB (rSortSet w) (tCons (tSc2 w wi g tYes wi1 g1 tYes te vs vs1) tNil)) ρ c0 (· = strsD (srtS (ds.flatMap f))) := ef_eq (ef_sortSet2 f hi hv hn h) fun ds e => e
end DL

set_option linter.all false
set_option maxRecDepth 100000
set_option maxHeartbeats 4000000
namespace DL
open PySem PySem.Spec PyProof.Rows L2
section
variable {X : Cx} {K : PySem.W.Frag}
theorem kSortTx (h : X.K = K := by rfl) : CallR X (.builtin "sorted") (rSortTx K) := by
  subst h
  exact cr_sortTx
theorem kSortSet {w : World} (hc : X.calm = true) (h : X.w = w := by rfl) : CallR X (.builtin "sorted") (rSortSet w) := by
  subst h
  exact cr_sortSet hc
end
section
variable {A : Amb} {ρ : List SV} {te ta tb : TE} {tl : TA} {c c1 c2 : Nat} {R : PyData → Prop} {P : Po} {u : TS} {K : PySem.W.Frag} {E : XK}
theorem ee_sortTx {xs : List Str} (h : ER A ta ρ c (· = strsD xs)) (nd : xs.Nodup) : EE A (tCB (rSortTx K) (tCons ta tNil)) ρ c (· = strsD (srtS xs)) := fun F σ H n Q S l q => by
  refine h F σ H n _ S l fun v d H1 s j k r => ?_
  subst r
  have S1 := S.step s j
  cases k with
  | lst ha kk =>
    have e := kk.strs
    subst e
    refine ⟨_, xs, rfl, .inl (.inl (off_some ha).2), fun ys p pm hs hp => ?_⟩
    have np : p ∉ F.fs := S1.fresh hp
    have ek : ys = srtS xs := srtS_eq hs (pm.nodup_iff.mpr nd) fun k => pm.mem_iff
    exact q (.ref p) (strsD ys) _ (s.trans (same_off (same_new hp))) (A.W.stay _ _ _ j fun a _ o e => same_new hp a o e) (.lst (off_of np upd_same) (da_strs ys)) (by rw [ek])
theorem ss_ext {i : Nat} {p : Addr} {ds : List PyData} (hi : ρ[i]? = some (.own p ds)) (h : EE A te ρ c R) (k : ∀ d, R d → ∃ es, d = .list es ∧ ds.length + es.length ≤ sizeLine ∧ P.nx (ρ.set i (.own p (ds ++ es)))) : SS A (tDrop (tBM K "list" rExtend (tVar i) (tCons te tNil))) ρ c P := fun D F σ H n S l k1 _ _ _ => by
  obtain ⟨o0, h1, h2, hpF, hp0, ys, hy, ky⟩ := S.slot i _ hi
  subst h2
  refine ⟨.ref p, h1, .inl ⟨rfl, ys, .inl (.inl hy)⟩, ?_⟩
  refine h F σ H n _ S l fun v d H1 s j kd r => ?_
  obtain ⟨es, rfl, hl, nx⟩ := k d r
  have S1 := S.step s j
  have hy1 : H1 p = some (.lst ys) := (off_some (s p _ (off_of (A.fresh_nw hp0) hy))).2
  have ky1 := ky.mono (S.offF s)
  cases kd with
  | lst ha kk =>
    refine ⟨p, _, ys, _, rfl, rfl, hy1, (off_some ha).2, by rw [ky.length, kk.length]; exact hl, ?_⟩
    exact k1 _ F σ _ nx (fun _ hg => hg) (st8_push S1 hi (ky1.append kk))
theorem sq_ext {i : Nat} {p : Addr} {ds : List PyData} (hi : ρ[i]? = some (.own p ds)) (h : EE A te ρ c1 R) (k : ∀ d, R d → ∃ es, d = .list es ∧ ds.length + es.length ≤ sizeLine ∧ SS A u (ρ.set i (.own p (ds ++ es))) c2 P) : SS A (tSeq (tDrop (tBM K "list" rExtend (tVar i) (tCons te tNil))) u) ρ (c1 + c2) P :=
  ss_seq (M := fun ρ1 => SS A u ρ1 c2 P) (ss_ext hi h k) fun _ h => h
/-- a draw among a drawn number -/
theorem ee_drawD {b : Deck} {i : Nat} {lo hi : Int} (hW : A.W = dW b) (hd : ρ[i]? = some (.raw (.ref b.d))) (h : EE A ta ρ c (IntIn lo hi)) (h0 : 0 < lo) (h1 : hi ≤ 1000000000) :
    EE A (tCall (SPd 1 preDraw postDraw) [] E (tCons (tVar i) (tCons ta tNil))) ρ (c + 1) (IntIn 0 (hi - 1)) :=
  ((ee_calld (RA := fun ds => ∃ m : Int, ds = [.int m] ∧ lo ≤ m ∧ m < hi) hW hd ((ea_consR h ea_nil).imp fun ds ⟨d, ds1, ⟨m, e, h1, h2⟩, e2, e3⟩ => ⟨m, by rw [e3, e2, e], h1, h2⟩) fun ds ⟨m, e, h2, h3⟩ => ⟨m, e, by omega, by omega⟩).imp fun d ⟨ds, ⟨m, e, h2, h3⟩, hq⟩ => by
    obtain ⟨r, e2, r0, r1⟩ := hq m e
    exact ⟨r, e2, r0, by omega⟩).le (by omega)
end

/-! ### known words, reasons -/
def knownS (ss : List Scr) : List Str := srtS (ss.flatMap Scr.ys)
theorem mem_known {ss : List Scr} {k : Str} : k ∈ knownS ss ↔ ∃ s ∈ ss, k ∈ s.ys := by
  unfold knownS
  rw [mem_srtS, List.mem_flatMap]
def optD : Option Nat → PyData
  | .none => .none
  | some i => .int (i : Nat)
def reasonS (ss : List Scr) (x y : Str) : Option Nat := ss.findIdx? fun s => putsS s x y
def duesD (ss : List Scr) (k : Nat) (x y : Str) : List PyData := ((ss.zipIdx k).filter fun q => putsS q.1 x y).map fun q => .int (q.2 : Nat)
theorem dues_head (x y : Str) : ∀ (ss : List Scr) (k : Nat), (duesD ss k x y ++ [PyData.none]).take 1 = [optD ((reasonS ss x y).map (· + k))]
  | [], k => rfl
  | s :: ss, k => by
    have ih := dues_head x y ss (k + 1)
    unfold duesD reasonS at ih ⊢
    rw [List.zipIdx_cons, List.filter_cons, List.findIdx?_cons]
    cases h : putsS s x y with
    | true => simp [h, optD]
    | false =>
      simp only [h, Bool.false_eq_true, if_false]
      rw [ih, Option.map_map]
      congr 3
      funext i
      show i + (k + 1) = i + 1 + k
      omega
theorem dues_none (x y : Str) : ∀ (ss : List Scr) (k : Nat), PyData.eqv (.list (duesD ss k x y)) (.list []) = !(reasonS ss x y).isSome
  | [], k => rfl
  | s :: ss, k => by
    have ih := dues_none x y ss (k + 1)
    unfold duesD reasonS at ih ⊢
    rw [List.zipIdx_cons, List.filter_cons, List.findIdx?_cons]
    cases h : putsS s x y with
    | true => simp [h, PyData.eqv, PyData.eqvAll]
    | false =>
      simp only [h, Bool.false_eq_true, if_false]
      rw [ih, Option.isSome_map]
theorem dues_plain (x y : Str) (ss : List Scr) (k : Nat) : PyData.plainAll (duesD ss k x y) = true := by
  unfold duesD
  generalize (ss.zipIdx k).filter _ = l
  induction l with
  | nil => rfl
  | cons a l ih => exact ih
def ysOf : PyData → List Str
  | .tuple [_, _, .list es] => es.map strOf
  | _ => []
theorem ysOf_scr (s : Scr) : ysOf (scrD s) = s.ys := by
  show (s.ys.map PyData.str).map strOf = s.ys
  rw [List.map_map]
  exact List.map_id' _
theorem find_idx {α : Type} {p : α → Bool} : ∀ {l : List α} {i : Nat} {a : α}, l[i]? = some a → (∀ j < i, ∀ x, l[j]? = some x → p x = false) → p a = true → l.findIdx? p = some i
  | [], _, _, h, _, _ => by simp at h
  | b :: l, 0, a, h, _, k => by
    have e : b = a := by simpa using h
    rw [List.findIdx?_cons, e, k]
    rfl
  | b :: l, i + 1, a, h, hp, k => by
    have nb : p b = false := hp 0 (Nat.succ_pos _) b rfl
    rw [List.findIdx?_cons, nb, find_idx (l := l) (i := i) (by simpa using h) (fun j hj x hx => hp (j + 1) (Nat.succ_lt_succ hj) x (by simpa using hx)) k]
    rfl
theorem find_idxN {α : Type} {p : α → Bool} {l : List α} (h : ∀ (j : Nat) x, l[j]? = some x → p x = false) : l.findIdx? p = none := by
  rw [List.findIdx?_eq_none_iff]
  intro x hx
  obtain ⟨j, hj⟩ := List.getElem?_of_mem hx
  exact h j x hj
theorem ins_len {x : Str} : ∀ {l : List Str}, (insS x l).length ≤ l.length + 1
  | [] => Nat.le_refl _
  | y :: l => by
    have := ins_len (x := x) (l := l)
    unfold insS
    split
    · exact Nat.le_succ _
    · split
      · exact Nat.le_refl _
      · exact Nat.succ_le_succ this
theorem srt_len : ∀ l : List Str, (srtS l).length ≤ l.length
  | [] => Nat.le_refl _
  | x :: l => Nat.le_trans ins_len (Nat.succ_le_succ (srt_len l))
theorem flat_len {n : Nat} : ∀ {ss : List Scr}, (∀ s ∈ ss, s.ys.length ≤ n) → (ss.flatMap Scr.ys).length ≤ ss.length * n
  | [], _ => Nat.zero_le _
  | s :: ss, h => by
    have ih := flat_len (n := n) (ss := ss) fun t ht => h t (List.mem_cons_of_mem _ ht)
    have h0 := h s List.mem_cons_self
    rw [List.flatMap_cons, List.length_append, List.length_cons, Nat.succ_mul]
    omega
theorem known_len {ss : List Scr} (h : ∀ s ∈ ss, ScrOk s) : (knownS ss).length ≤ ss.length * 20 :=
  Nat.le_trans (srt_len _) (flat_len fun s hs => Nat.le_trans (h s hs).n (h s hs).l2)
theorem known_wl {ss : List Scr} {x : Str} (h : ∀ s ∈ ss, ScrOk s) (hx : x ∈ knownS ss) : wordS x = true ∧ x.length ≤ 100 := by
  obtain ⟨s, hs, hx⟩ := mem_known.mp hx
  exact ((h s hs).w.2 x hx).1
def scrOf : PyData → Scr
  | .tuple [.str b, .int l, .list es] => ⟨b, l.toNat, es.map strOf⟩
  | _ => ⟨Str.empty, 0, []⟩
theorem scrOf_scr (s : Scr) : scrOf (scrD s) = s := by
  have e : (s.ys.map PyData.str).map strOf = s.ys := by
    rw [List.map_map]
    exact List.map_id' _
  show (⟨s.b, ((s.l : Nat) : Int).toNat, (s.ys.map PyData.str).map strOf⟩ : Scr) = s
  rw [e, Int.toNat_natCast]
def dueP (x y : Str) : PyData → Bool
  | .tuple [_, e] => putsS (scrOf e) x y
  | _ => false
def itemAt : PyData → PyData
  | .tuple [i, _] => i
  | _ => .none
theorem dueP_at (x y : Str) (i : PyData) (s : Scr) : dueP x y (.tuple [i, scrD s]) = putsS s x y := by
  show putsS (scrOf (scrD s)) x y = _
  rw [scrOf_scr]
theorem dues_enumK (x y : Str) : ∀ (ss : List Scr) (k : Nat), ((((ss.map scrD).zipIdx k).map fun p => PyData.tuple [.int (p.2 : Nat), p.1]).filter (dueP x y)).map itemAt = duesD ss k x y
  | [], k => rfl
  | s :: ss, k => by
    have ih := dues_enumK x y ss (k + 1)
    unfold duesD at ih ⊢
    rw [List.map_cons, List.zipIdx_cons, List.map_cons, List.filter_cons, List.zipIdx_cons, List.filter_cons, dueP_at]
    cases h : putsS s x y with
    | true =>
      simp only [if_true, List.map_cons, ih]
      rfl
    | false =>
      simp only [Bool.false_eq_true, if_false, ih]
theorem dues_enum (ss : List Scr) (x y : Str) : ((enumD (ss.map scrD)).filter (dueP x y)).map itemAt = duesD ss 0 x y := dues_enumK x y ss 0
theorem dues_len (ss : List Scr) (k : Nat) (x y : Str) : (duesD ss k x y).length ≤ ss.length := by
  unfold duesD
  rw [List.length_map]
  exact Nat.le_trans (List.length_filter_le _ _) (by rw [List.length_zipIdx]; exact Nat.le_refl _)
theorem opt_one {m : Nat} (o : Option Nat) (hm : 0 < m) : SameOk m (optD o) := by
  cases o with
  | none => exact sameOk_non hm
  | some i => exact ⟨rfl, hm, rfl⟩
theorem opt_same {m : Nat} (o : Option Nat) (hm : 1 < m) : SameOk m (.list [optD o, optD o]) := by
  obtain ⟨k, rfl⟩ : ∃ k, m = k + 1 := ⟨m - 1, by omega⟩
  refine sameOk_list (by show 2 ≤ 1000000; decide) (fun d hd => ?_) (by omega)
  simp only [List.mem_cons, List.not_mem_nil, or_false, or_self] at hd
  rw [hd]
  exact opt_one o (by omega)
theorem docS_ok : ∀ s ∈ ([⟨"", 2, ["car", "dog"]⟩, ⟨"c", 2, ["car", "cat"]⟩, ⟨"do", 3, ["dog", "dot"]⟩] : List Scr), ScrOk s := by
  intro s h
  have w : ∀ x ∈ (["car", "dog", "cat", "dot"] : List Str), WL x := fun x hx => by
    simp only [List.mem_cons, List.not_mem_nil, or_false] at hx
    rcases hx with rfl | rfl | rfl | rfl <;> exact ⟨by decide, by decide⟩
  simp only [List.mem_cons, List.not_mem_nil, or_false] at h
  rcases h with rfl | rfl | rfl
  all_goals
    refine ⟨by decide, by decide, by decide, by decide, by decide, by decide, fun x hx => ?_⟩
    simp only [List.mem_cons, List.not_mem_nil, or_false] at hx
    rcases hx with rfl | rfl <;> exact ⟨w _ (by simp), by decide⟩
end DL

set_option linter.all false
set_option maxRecDepth 100000
set_option maxHeartbeats 4000000
/-! DLJ: the second source of draws (a list of three numbers, made anew in each lap); a comprehension that takes items out of a list still being made -/
namespace DL
open PySem PySem.Spec L2

/-! ### the jar -/
def JarAt (n : Nat) (H : Hp) (p : Addr) : Prop := ∃ (x y : Int) (k : Nat), H p = some (.lst [.int x, .int y, .int (k : Nat)]) ∧ k ≤ n ∧ 0 ≤ y ∧ y < 1000000000000000000000000000000000067
def jW (p : Addr) : Wd where
  fs := [p]
  J := fun n H => JarAt n H p
  up := fun n m H l ⟨x, y, k, e, hk, h⟩ => ⟨x, y, k, e, Nat.le_trans hk l, h⟩
  stay := fun n H H' ⟨x, y, k, e, h⟩ s => ⟨x, y, k, s p (.inl (List.mem_singleton.mpr rfl)) _ e, h⟩
  trk := fun n H ⟨x, y, k, e, h⟩ a ha => by
    rw [List.mem_singleton.mp ha]
    exact ⟨_, e⟩
/-- a def whose first argument is the jar: it may draw cst times -/
def SPj (cst : Nat) (pre : List PyData → Prop) (post : List PyData → PyData → Prop) : Sp := fun vs H Q _ => ∃ (p : Addr) (vs' : List V) (fs : List Addr) (n : Nat) (ds : List PyData), vs = .ref p :: vs' ∧ p ∈ fs ∧ (∀ a ∈ fs, ∃ o, H a = some o) ∧ JarAt n H p ∧ n + cst ≤ LIM ∧
  DA (off fs H) vs' ds ∧ pre ds ∧ ∀ v d H', Same (off [p] H) (off [p] H') → JarAt (n + cst) H' p → DD (off fs H') v d → post ds d → Q v H'
section
variable {A : Amb} {ρ : List SV} {c cst : Nat} {tl : TA} {RA : List PyData → Prop}
theorem ee_callj {p : Addr} {i : Nat} {pre : List PyData → Prop} {post : List PyData → PyData → Prop} {E : XK} (hW : A.W = jW p) (hd : ρ[i]? = some (.raw (.ref p))) (h : EA A tl ρ c RA) (hp : ∀ ds, RA ds → pre ds) :
    EE A (tCall (SPj cst pre post) [] E (tCons (tVar i) tl)) ρ (c + cst) (fun d => ∃ ds, RA ds ∧ post ds d) := fun F σ H n Q S l q => by
  obtain ⟨o, e1, e2⟩ := S.slot i _ hd
  have e2' : o = some (.ref p) := e2
  subst e2'
  refine ⟨.ref p, e1, ?_⟩
  refine h F σ H n _ S (by omega) fun vs ds H1 s j k r => ?_
  have S1 := S.step s j
  have fsub : p ∈ F.fs := S.sub p (A.sub p (by rw [hW]; exact List.mem_singleton.mpr rfl))
  refine ⟨p, vs, F.fs, n + c, ds, by rw [List.append_nil], fsub, S1.trk, by rw [hW] at j; exact j, by omega, k, hp ds r, fun v d H2 s2 j2 k2 p2 => ?_⟩
  refine q v d H2 (s.trans (by rw [hW]; exact s2)) ?_ k2 ⟨ds, r, p2⟩
  rw [hW, ← Nat.add_assoc]
  exact j2
end
theorem spj_of {cst : Nat} {pre : List PyData → Prop} {post : List PyData → PyData → Prop} {t : TS} {N : List Str} {m k : Nat} {vs : List V} {H : Hp} {Q : VK} {E : XK} (hN : N.length - (m + 1) = k) (hm : ∀ ds, pre ds → ds.length = m)
    (h : ∀ (A : Amb) (p : Addr) (ds : List PyData), A.W = jW p → pre ds → SS A t (.raw (.ref p) :: (ds.map .im ++ List.replicate k .no)) cst { nx := fun _ => post ds .none, rt := post ds }) (hsp : SPj cst pre post vs H Q E) :
    t { nx := fun _ H' => Q .non H', rt := Q } (L2.start N vs) H := by
  obtain ⟨p, vs', fs, n, ds, rfl, fsub, trk, j, hl, kd, hp, q⟩ := hsp
  let A : Amb := ⟨jW p, fs, H, fun a ha => by rw [List.mem_singleton.mp ha]; exact fsub, trk⟩
  have hlen : vs'.length = m := by rw [kd.length]; exact hm ds hp
  have S : St8 A ⟨fs, []⟩ ((.raw (.ref p) :: ds.map .im) ++ List.replicate (N.length - (V.ref p :: vs').length) .no) (L2.start N (.ref p :: vs')) H n := st8_start (A := A) rfl j (fun i s e => by
    cases i with
    | zero =>
      cases e
      exact ⟨_, rfl, .inr rfl⟩
    | succ i =>
      rw [List.getElem?_cons_succ, List.getElem?_map] at e
      cases e2 : ds[i]? with
      | none => rw [e2] at e; cases e
      | some d =>
        rw [e2] at e
        cases e
        obtain ⟨v, hv, k⟩ := kd.at e2
        exact ⟨v, hv, .inl ⟨d, rfl, k⟩⟩) (by rw [List.length_cons, List.length_cons, List.length_map, kd.length])
  have hk : N.length - (V.ref p :: vs').length = k := by rw [List.length_cons, hlen]; exact hN
  rw [hk] at S
  refine h A p ds rfl hp _ ⟨fs, []⟩ _ H n S hl ?_ ?_ ?_ ?_
  · intro ρ' F' σ' H' a _ S'
    exact q .non .none H' S'.adv S'.j .non a
  · exact ⟨fun v d H' a s jj kk => q v d H' s jj kk a, fun _ _ _ _ z => z.elim⟩
  · intro ρ' F' σ' H' a
    exact False.elim a
  · intro ρ' F' σ' H' a
    exact False.elim a
section
variable {P : Program} {w : World} {K : PySem.W.Frag} {mg : Str → Option Value} {base : Heap}
theorem SPj.len {cst m : Nat} {pre : List PyData → Prop} {post : List PyData → PyData → Prop} (hm : ∀ ds, pre ds → ds.length = m) {vs : List V} {H : Hp} {Q : VK} {E : XK} (h : SPj cst pre post vs H Q E) : vs.length = m + 1 := by
  obtain ⟨p, vs', fs, n, ds, rfl, _, _, _, _, kd, hp, _⟩ := h
  rw [List.length_cons, kd.length, hm ds hp]
theorem okj {x qual : Str} {st : Stmt} {f : Addr} {fd : FuncData} {N ps : List Str} {k m j cst : Nat} {pre : List PyData → Prop} {post : List PyData → PyData → Prop} (F : Fun K x qual st f fd) (S : FnScope N ps (defScope st)) (hm : ∀ ds, pre ds → ds.length = m)
    (hps : ps.length = m + 1 := by rfl) (hN : N.length - (m + 1) = j := by rfl)
    (body : ∀ (cdv : Value) (A : Around) (outer : List Env) (s : Shared) (H : Hp) (E : XK), Room k (A.deeper (PyProof.Rows.envOfC qual (defScope st) s.heap.objs.size f cdv)) →
      ∃ t, PSs (cxOf CX0 P w K mg base N qual (defScope st) f cdv A outer s H E).nox (defBody st) t ∧
        ∀ (A : Amb) (p : Addr) (ds : List PyData), A.W = jW p → pre ds → SS A t (.raw (.ref p) :: (ds.map .im ++ List.replicate j .no)) cst { nx := fun _ => post ds .none, rt := post ds }) :
    FnOk P w K mg base CX0 (k + 1) f fd ps (SPj cst pre post) := by
  refine F.ok S (fun vs H Q E h => (SPj.len hm h).trans hps.symm) fun cdv A outer s H vs Q E hr h => ?_
  obtain ⟨t, h1, h2⟩ := body cdv A outer s H E hr
  exact ⟨t, h1, spj_of hN hm h2 h⟩
end
section
variable {A : Amb} {ρ : List SV} {c cst : Nat} {tl : TA} {RA : List PyData → Prop} {ta : TE} {E : XK}
theorem ee_dip {p : Addr} {i : Nat} {m : Int} (hW : A.W = jW p) (hd : ρ[i]? = some (.raw (.ref p))) (h : EA A tl ρ c (· = [.int m])) (h0 : 0 < m) (h1 : m < 1000000000) :
    EE A (tCall (SPj 1 preDraw postDraw) [] E (tCons (tVar i) tl)) ρ (c + 1) (fun d => ∃ r : Int, d = .int r ∧ 0 ≤ r ∧ r < m) :=
  (ee_callj hW hd h fun ds e => ⟨m, e, h0, h1⟩).imp fun d ⟨ds, e, k⟩ => k m e
theorem ee_dipD {p : Addr} {i : Nat} {lo hi : Int} (hW : A.W = jW p) (hd : ρ[i]? = some (.raw (.ref p))) (h : EE A ta ρ c (IntIn lo hi)) (h0 : 0 < lo) (h1 : hi ≤ 1000000000) :
    EE A (tCall (SPj 1 preDraw postDraw) [] E (tCons (tVar i) (tCons ta tNil))) ρ (c + 1) (IntIn 0 (hi - 1)) :=
  ((ee_callj (RA := fun ds => ∃ m : Int, ds = [.int m] ∧ lo ≤ m ∧ m < hi) hW hd ((ea_consR h ea_nil).imp fun ds ⟨d, ds1, ⟨m, e, h1, h2⟩, e2, e3⟩ => ⟨m, by rw [e3, e2, e], h1, h2⟩) fun ds ⟨m, e, h2, h3⟩ => ⟨m, e, by omega, by omega⟩).imp fun d ⟨ds, ⟨m, e, h2, h3⟩, hq⟩ => by
    obtain ⟨r, e2, r0, r1⟩ := hq m e
    exact ⟨r, e2, r0, by omega⟩).le (by omega)
end

/-! ### the jar is made: the world changes -/
def spJar (K : PySem.W.Frag) : Sp := fun vs H Q _ => ∃ (a : Addr) (ns : List Int) (k : Nat), vs = [.ref a, .int (k : Nat)] ∧ SqL K H a (ns.map V.int) ∧ ns.length ≤ 63 ∧ k ≤ 63 ∧ ∀ (p : Addr) H', Same H H' → H p = none → JarAt 0 H' p → Q (.ref p) H'
/-- no list still being made -/
def NoOwn (ρ : List SV) : Prop := ∀ x ∈ ρ, x.adr = none
theorem sq_jar {K : PySem.W.Frag} {A : Amb} {ρ : List SV} {i j k c : Nat} {a : Addr} {ns : List Int} {tk : TE} {u : TS} {P : Po} {E : XK} (hA : A.W = W0) (hi : ρ[i]? = some (.raw (.ref a))) (hs : SqL K (off A.W.fs A.H0) a (ns.map V.int)) (hn : ns.length ≤ 63) (hk : EE A tk ρ 0 (· = .int (k : Nat))) (hk63 : k ≤ 63) (no : NoOwn ρ)
    (h : ∀ (A' : Amb) (p : Addr), A'.W = jW p → SqL K (off A'.W.fs A'.H0) a (ns.map V.int) → SS A' u (ρ.set j (.raw (.ref p))) c { nx := fun ρ' => P.nx ρ' ∧ NoOwn ρ', rt := P.rt, bk := fun ρ' => P.bk ρ' ∧ NoOwn ρ', ct := fun ρ' => P.ct ρ' ∧ NoOwn ρ' }) :
    SS A (tSeq (tAsg (tCall (spJar K) [] E (tCons (tVar i) (tCons tk tNil))) (gName j)) u) ρ c P := fun D F σ H n S l k1 k2 k3 k4 => by
  obtain ⟨o, e1, e2⟩ := S.slot i _ hi
  have e2' : o = some (.ref a) := e2
  subst e2'
  refine ⟨.ref a, e1, ?_⟩
  refine hk F σ H n _ S (by omega) fun v d H1 s jj kd r => ?_
  subst r
  cases kd
  have S1 := S.step s jj
  have sH : SqL K H1 a (ns.map V.int) := sq_mono off_le (sq_mono S1.adv hs)
  refine ⟨a, ns, k, rfl, sH, hn, hk63, fun p H2 s2 np jp => ?_⟩
  have pF : p ∉ F.fs := S1.fresh np
  have p0 : A.H0 p = none := S1.fresh0 np
  obtain ⟨x0, y0, k0, ep, hp⟩ := jp
  let A' : Amb := ⟨jW p, p :: F.fs, H2, fun b hb => by rw [List.mem_singleton.mp hb]; exact List.mem_cons_self, fun b hb => by
    rcases List.mem_cons.mp hb with z | z
    · rw [z]; exact ⟨_, ep⟩
    · obtain ⟨o, e⟩ := S1.trk b z
      exact ⟨o, s2 _ _ e⟩⟩
  have offp : ∀ {H' : Hp}, Same (off [p] H2) (off [p] H') → Same (off F.fs H1) (off (p :: F.fs) H') := fun {H'} s' b o e => by
    obtain ⟨nb, e⟩ := off_some e
    have nbp : b ≠ p := fun z => by rw [z, np] at e; cases e
    refine off_of (fun z => (List.mem_cons.mp z).elim nbp nb) ?_
    exact (off_some (s' b o (off_of (fun z => nbp (List.mem_singleton.mp z)) (s2 _ _ e)))).2
  have same1 : ∀ {H' : Hp}, Same (off [p] H2) (off [p] H') → Same (off A.W.fs A.H0) (off A.W.fs H') := fun {H'} s' b o e => by
    have e1 := S1.adv b o e
    obtain ⟨nb, e3⟩ := off_some e1
    have nbp : b ≠ p := fun z => by rw [z, np] at e3; cases e3
    exact off_of nb (off_some (s' b o (off_of (fun z => nbp (List.mem_singleton.mp z)) (s2 _ _ e3)))).2
  have S2 : St8 A' ⟨p :: F.fs, []⟩ (ρ.set j (.raw (.ref p))) (σ.set j (some (.ref p))) H2 n := by
    refine ⟨⟨x0, y0, k0, ep, by omega, hp.2⟩, Same.refl _, fun b hb => hb, fun b hb => A'.trk b hb, fun g hg => absurd hg List.not_mem_nil, by rw [List.length_set, List.length_set, S.len], fun b x e => ?_, fun b1 b2 x y q1 q2 h1 h2 h3 h4 h5 => ?_⟩
    · by_cases hb : j = b
      · subst hb
        by_cases hl : j < ρ.length
        · rw [List.getElem?_set_self hl] at e
          cases e
          exact ⟨_, List.getElem?_set_self (by rw [S.len]; exact hl), rfl⟩
        · rw [List.getElem?_eq_none (by rw [List.length_set]; omega)] at e
          cases e
      · rw [List.getElem?_set_ne hb] at e
        rw [List.getElem?_set_ne hb]
        obtain ⟨o, h1, h2⟩ := S1.slot b x e
        refine ⟨o, h1, ?_⟩
        have hx := no x (List.mem_of_getElem? e)
        cases x with
        | no => trivial
        | im d =>
          obtain ⟨v, e, kv⟩ := h2
          exact ⟨v, e, kv.mono (offp (Same.refl _))⟩
        | raw v => exact h2
        | own q ds => cases hx
        | dct q ds => cases hx
        | semi q ds dr => cases hx
    · have h1' := adr_set (y := SV.raw (.ref p)) rfl h1 h3
      rw [no x (List.mem_of_getElem? h1')] at h3
      cases h3
  have hj' : SqL K (off A'.W.fs A'.H0) a (ns.map V.int) := by
    have hx : SqL K (off A.W.fs A.H0) a (ns.map V.int) := hs
    refine sq_mono (fun b o e => ?_) hx
    have e1 := S1.adv b o e
    have e3 := (off_some e1).2
    exact off_of (fun z => by rw [List.mem_singleton.mp z, np] at e3; cases e3) (s2 _ _ e3)
  have back : ∀ {ρ' : List SV} {F' : Fp} {σ' : L2.St} {H' : Hp} {m : Nat}, NoOwn ρ' → St8 A' F' ρ' σ' H' m → St8 A ⟨p :: F.fs, F.gh⟩ ρ' σ' H' m := fun {ρ' F' σ' H' m} no' S' => by
    refine ⟨by rw [hA]; trivial, same1 S'.adv, fun b hb => List.mem_cons_of_mem _ (S1.sub b hb), fun b hb => S'.trk b (S'.sub b hb), fun g hg => g.mono _ _ (offp S'.adv) (S1.gh g hg), S'.len, fun b x e => ?_, fun b1 b2 x y q1 q2 h1 h2 h3 h4 h5 => ?_⟩
    · obtain ⟨o, h1, h2⟩ := S'.slot b x e
      refine ⟨o, h1, ?_⟩
      have hx := no' x (List.mem_of_getElem? e)
      cases x with
      | no => trivial
      | im d =>
        obtain ⟨v, e, kv⟩ := h2
        exact ⟨v, e, kv.mono (off_sub S'.sub)⟩
      | raw v => exact h2
      | own q ds => cases hx
      | dct q ds => cases hx
      | semi q ds dr => cases hx
    · rw [no' x (List.mem_of_getElem? h1)] at h3
      cases h3
  have jW0 : ∀ (m : Nat) (H' : Hp), A.W.J m H' := fun m H' => by rw [hA]; trivial
  refine h A' p rfl hj' D ⟨p :: F.fs, []⟩ _ H2 n S2 l (fun ρ' F' σ' H' hm _ S' => k1 ρ' ⟨p :: F.fs, F.gh⟩ σ' H' hm.1 (fun g hg => hg) (back hm.2 S')) ⟨fun v d H' hd sd jd kd => k2.d v d H' hd (same1 sd) (jW0 _ _) (kd.mono (off_sub fun b hb => List.mem_cons_of_mem _ (S1.sub b hb))), fun _ _ _ _ z => z.elim⟩
    (fun ρ' F' σ' H' hm _ S' => k3 ρ' ⟨p :: F.fs, F.gh⟩ σ' H' hm.1 (fun g hg => hg) (back hm.2 S')) (fun ρ' F' σ' H' hm _ S' => k4 ρ' ⟨p :: F.fs, F.gh⟩ σ' H' hm.1 (fun g hg => hg) (back hm.2 S'))

/-! ### items taken out of a list still being made, while a comprehension goes on -/
theorem seqIx {r : Int} {n : Nat} (h0 : 0 ≤ r) (h1 : r < (n : Nat)) : seqIndex? r n = some r.toNat := by
  unfold seqIndex?
  have e : (if r < 0 then r + (n : Nat) else r) = r := if_neg (by omega)
  simp only [e, decide_eq_true h0, decide_eq_true h1, Bool.and_self, if_true]
theorem DA.erase {H : Hp} {vs : List V} {ds : List PyData} (k : Nat) (h : DA H vs ds) : DA H (vs.eraseIdx k) (ds.eraseIdx k) := by
  rw [List.eraseIdx_eq_take_drop_succ, List.eraseIdx_eq_take_drop_succ]
  exact (h.take k).append (h.drop (k + 1))
theorem perm_erase {α : Type} {l : List α} {k : Nat} (h : k < l.length) : (l[k] :: l.eraseIdx k).Perm l := by
  have e : l = l.take k ++ l[k] :: l.drop (k + 1) := by rw [List.getElem_cons_drop, List.take_append_drop]
  rw [List.eraseIdx_eq_take_drop_succ]
  exact List.perm_middle.symm.trans (List.Perm.of_eq e.symm)
theorem ss_retPop {K : PySem.W.Frag} {A : Amb} {ρ : List SV} {wi : TI} {g : TG} {ti : TE} {vs : List Nat} {i c0 c2 cN : Nat} {q : Addr} {ds rs : List PyData} {P : Po} (hi : ρ[i]? = some (.own q ds)) (only : ∀ (b : Nat) x, ρ[b]? = some x → x.adr ≠ none → b = i)
    (hr : EI A wi ρ c0 (· = rs)) (hlen : rs.length = ds.length) (hl : ds.length ≤ 16000000) (hc : ds.length * c2 ≤ cN)
    (ht : ∀ (m : Nat) d es, rs[m]? = some d → ∃ ρ1, TGw A g vs d (wip (ρ.set i (.own q es)) vs) ρ1 ∧ ρ1[i]? = some (.own q es) ∧ (0 < es.length → es.length ≤ ds.length → EE A ti ρ1 c2 (IntIn 0 (es.length : Nat))))
    (k : ∀ ys, ys.Perm ds → P.rt (.list ys)) : SS A (tRet (tLc wi g tYes (tBM K "list" rPopAt (tVar i) (tCons ti tNil)) vs)) ρ (c0 + cN) P := fun E F σ H n S l _ kr _ _ => by
  show (tLc wi g tYes (tBM K "list" rPopAt (tVar i) (tCons ti tNil)) vs) σ H E.rt
  refine hr F σ H n _ S (by omega) fun J G Y rs' gg H1 s1 j1 r1 w hg hG hY => ?_
  subst r1
  have S1 := S.step s1 j1
  obtain ⟨o0, h1, h2, qF, q0, ys0, hy0, ky0⟩ := S1.slot i _ hi
  subst h2
  have qW := A.fresh_nw q0
  intro D hD
  let F' : Fp := ⟨D :: F.fs, gg :: F.gh⟩
  have nD : D ∉ F.fs := S1.fresh hD
  have neD : D ≠ q := fun z => nD (by rw [z]; exact qF)
  have offD : ∀ {H2 : Hp}, Same (off (q :: A.W.fs) H1) (off (q :: A.W.fs) H2) → Same (off F.fs H1) (off (D :: F.fs) H2) := fun {H2} s a o e => by
    obtain ⟨na, e⟩ := off_some e
    have naq : a ∉ q :: A.W.fs := fun z => (List.mem_cons.mp z).elim (fun z => na (by rw [z]; exact qF)) fun z => na (S1.sub a (A.sub a z))
    refine off_of (fun z => (List.mem_cons.mp z).elim (fun z => by rw [z, hD] at e; cases e) na) (off_some (s a o (off_of naq e))).2
  have advD : ∀ {H2 : Hp}, Same (off (q :: A.W.fs) H1) (off (q :: A.W.fs) H2) → Same (off A.W.fs A.H0) (off A.W.fs H2) := fun {H2} s a o e => by
    obtain ⟨na, e1⟩ := off_some (S1.adv a o e)
    have naq : a ∉ q :: A.W.fs := fun z => (List.mem_cons.mp z).elim (fun z => by have e0 := (off_some e).2; rw [z, q0] at e0; cases e0) na
    exact off_of na (off_some (s a o (off_of naq e1))).2
  have mkS : ∀ {H2 : Hp} {m : Nat} {es : List PyData} {ys : List V}, Same (off (q :: A.W.fs) H1) (off (q :: A.W.fs) H2) → A.W.J m H2 → (∃ o, H2 D = some o) → H2 q = some (.lst ys) → DA (off (D :: F.fs) H2) ys es → gg.p (off (D :: F.fs) H2) → St8 A F' (ρ.set i (.own q es)) σ H2 m := fun {H2 m es ys} s j hh hq hk hgp => by
    refine ⟨j, advD s, fun a ha => List.mem_cons_of_mem _ (S1.sub a ha), fun a ha => ?_, fun x hx => ?_, by rw [List.length_set]; exact S1.len, fun b x e => ?_, fun b1 b2 x y q1 q2 e1 e2 e3 e4 e5 => ?_⟩
    · rcases List.mem_cons.mp ha with z | z
      · subst z
        exact hh
      · by_cases aq : a = q
        · exact ⟨_, by rw [aq]; exact hq⟩
        · by_cases aw : a ∈ A.W.fs
          · exact A.W.trk _ _ j a aw
          · obtain ⟨o, e⟩ := S1.trk a z
            exact ⟨o, (off_some (s a o (off_of (fun z => (List.mem_cons.mp z).elim aq aw) e))).2⟩
    · rcases List.mem_cons.mp hx with z | z
      · subst z
        exact hgp
      · exact x.mono _ _ (offD s) (S1.gh x z)
    · by_cases hb : i = b
      · subst hb
        have hl : i < ρ.length := (List.getElem?_eq_some_iff.mp hi).1
        rw [List.getElem?_set_self hl] at e
        cases e
        exact ⟨_, h1, rfl, List.mem_cons_of_mem _ qF, q0, ys, hq, hk⟩
      · rw [List.getElem?_set_ne hb] at e
        obtain ⟨o, f1, f2⟩ := S1.slot b x e
        refine ⟨o, f1, ?_⟩
        cases x with
        | no => trivial
        | im d =>
          obtain ⟨v, e, kv⟩ := f2
          exact ⟨v, e, kv.mono (offD s)⟩
        | raw v => exact f2
        | own p' ps => exact absurd (only b _ e (by simp [SV.adr])).symm hb
        | dct p' ps => exact absurd (only b _ e (by simp [SV.adr])).symm hb
        | semi p' ps dr => exact absurd (only b _ e (by simp [SV.adr])).symm hb
    · have at1 : ∀ {b : Nat} {x : SV} {r : Addr}, (ρ.set i (.own q es))[b]? = some x → x.adr = some r → b = i := fun {b x r} e e' => by
        by_cases hb : i = b
        · exact hb.symm
        · rw [List.getElem?_set_ne hb] at e
          exact only b x e (by rw [e']; exact fun z => by cases z)
      exact absurd ((at1 e1 e3).trans (at1 e2 e4).symm) e5
  have nDw : D ∉ A.W.fs := fun z => nD (S1.sub D (A.sub D z))
  have nDq : D ∉ q :: A.W.fs := fun z => (List.mem_cons.mp z).elim neD nDw
  have updS : ∀ {H2 : Hp} {o : HO}, Same (off (q :: A.W.fs) H1) (off (q :: A.W.fs) H2) → Same (off (q :: A.W.fs) H1) (off (q :: A.W.fs) (upd H2 D o)) := fun {H2 o} s a u e => by
    refine off_of (off_some e).1 ?_
    rw [upd_ne fun z => by rw [z] at e; have := (off_some e).2; rw [hD] at this; cases this]
    exact (off_some (s a u e)).2
  have updJ : ∀ {H2 : Hp} {a0 : Addr} {o : HO} {m : Nat}, a0 ∉ A.W.fs → NoC H2 a0 → A.W.J m H2 → A.W.J m (upd H2 a0 o) := fun {H2 a0 o m} na nc j => A.W.stay _ _ _ j fun a ha u e => by
    rw [upd_ne (noC_elim na nc ha)]
    exact e
  refine lc_it w (fun x H2 => ∃ acc ads ys es, Same (off (q :: A.W.fs) H1) (off (q :: A.W.fs) H2) ∧ A.W.J (n + c0 + x * c2) H2 ∧ H2 D = some (.lst acc) ∧ DA (off (D :: F.fs) H2) acc ads ∧ H2 q = some (.lst ys) ∧ DA (off (D :: F.fs) H2) ys es ∧ (ads ++ es).Perm ds ∧ ads.length = x ∧ gg.p (off (D :: F.fs) H2))
    ⟨[], [], ys0, ds, updS (Same.refl _), by rw [Nat.zero_mul]; exact updJ nDw (noC_none hD) j1, upd_same, .nil, by rw [upd_ne neD.symm]; exact hy0, ky0.mono (offD (updS (Same.refl _))), List.Perm.refl _, rfl, gg.mono _ _ (offD (updS (Same.refl _))) hg⟩ (fun x H2 _ ⟨_, _, _, _, _, _, _, _, _, _, _, _, p⟩ => hG H2 (gg.mono _ _ off_le p)) ?_ ?_
  · rintro x v H2 H3 hx ⟨acc, ads, ys, es, s2, j2, e2, k2, hq, kq, pm, l2, g2⟩ y
    obtain ⟨s3, d, hd', kd⟩ := hY x H2 v H3 (gg.mono _ _ off_le g2) hx y
    obtain ⟨ρ1, tg, hρ, et⟩ := ht x d es hd'
    have el : ads.length + es.length = ds.length := by rw [← List.length_append]; exact pm.length_eq
    have xl : x < ds.length := by rw [← hlen]; exact hx
    have epos : 0 < es.length := by omega
    have b1 : x * c2 + c2 ≤ cN := Nat.le_trans (by rw [← Nat.succ_mul]; exact Nat.mul_le_mul_right _ xl) hc
    have s13 : Same (off (q :: A.W.fs) H1) (off (q :: A.W.fs) H3) := s2.trans (same_off s3)
    have j3 : A.W.J (n + c0 + x * c2) H3 := A.W.stay _ _ _ j2 fun a _ o e => s3 a o e
    have kq3 := kq.mono (same_off s3)
    have S3 := st8_wip (mkS s13 j3 ⟨_, s3 _ _ e2⟩ (s3 _ _ hq) kq3 (gg.mono _ _ (same_off s3) g2)) vs
    have trk2 : ∀ a ∈ D :: F.fs, ∃ o, H2 a = some o := (mkS s2 j2 ⟨_, e2⟩ hq kq g2).trk
    refine tg F' σ H3 _ v _ S3 (kd (D :: F.fs) trk2 g2) fun σ' S4 hw => ⟨hw, ?_⟩
    show tBM K "list" rPopAt (tVar i) (tCons ti tNil) σ' H3 _
    obtain ⟨o4, f1, f2, f3, f4, ys4, hy4, ky4⟩ := S4.slot i _ hρ
    subst f2
    refine ⟨.ref q, f1, .inl ⟨rfl, ys4, .inl (.inl hy4)⟩, ?_⟩
    refine et epos (by omega) F' σ' H3 _ _ S4 (by omega) fun u e H4 s4 j4 k4 ⟨r, er, r0, r1⟩ => ?_
    subst er
    have S5 := S4.step s4 j4
    have hq4 : H4 q = some (.lst ys4) := (off_some (s4 q _ (off_of qW hy4))).2
    have eD4 : H4 D = some (.lst acc) := (off_some (s4 D _ (off_of nDw (s3 _ _ e2)))).2
    have ky4' : DA (off (D :: F.fs) H4) ys4 es := ky4.mono (S4.offF s4)
    have k24 : DA (off (D :: F.fs) H4) acc ads := (k2.mono (same_off s3)).mono (S4.offF s4)
    have g4 : gg.p (off (D :: F.fs) H4) := gg.mono _ _ (S4.offF s4) (gg.mono _ _ (same_off s3) g2)
    have rl : r.toNat < es.length := by omega
    have ryl : r.toNat < ys4.length := by rw [ky4.length]; exact rl
    have hed : es[r.toNat]? = some es[r.toNat] := List.getElem?_eq_getElem rl
    obtain ⟨v4, hv4, kv4⟩ := ky4'.at hed
    cases k4
    refine ⟨q, ys4, r, r.toNat, v4, rfl, rfl, hq4, by omega, by omega, seqIx r0 (by rw [ky4.length]; exact r1), hv4, ?_⟩
    have offq : ∀ (o : HO), Same (off (D :: F.fs) H4) (off (D :: F.fs) (upd H4 q o)) := fun o => off_upd (List.mem_cons_of_mem _ qF)
    have offDD : ∀ (H5 : Hp) (o : HO), Same (off (D :: F.fs) H5) (off (D :: F.fs) (upd H5 D o)) := fun H5 o => off_upd List.mem_cons_self
    have hal := k24.length
    have s5 : Same (off (q :: A.W.fs) H1) (off (q :: A.W.fs) (upd H4 q (.lst (ys4.eraseIdx r.toNat)))) := fun a u e => by
      have e4 := off_mono (fun a ha => List.mem_cons_of_mem _ ha) s4 a u (s13 a u e)
      obtain ⟨na, e5⟩ := off_some e4
      exact off_of na (by rw [upd_ne fun z => na (by rw [z]; exact List.mem_cons_self)]; exact e5)
    refine ⟨acc, by rw [upd_ne neD]; exact eD4, by rw [hal]; have := sizeLine_eq; omega, acc ++ [v4], ads ++ [es[r.toNat]], ys4.eraseIdx r.toNat, es.eraseIdx r.toNat, updS s5, updJ nDw (noC_lst (by rw [upd_ne neD]; exact eD4)) (updJ qW (noC_lst hq4) (A.W.up _ _ _ (by rw [Nat.succ_mul]; omega) j4)), upd_same, ?_, by rw [upd_ne neD.symm]; exact upd_same, ?_, ?_, by rw [List.length_append, l2]; rfl, gg.mono _ _ (offDD _ _) (gg.mono _ _ (offq _) g4)⟩
    · exact ((k24.append (.cons kv4 .nil)).mono (offq _)).mono (offDD _ _)
    · exact ((ky4'.erase _).mono (offq _)).mono (offDD _ _)
    · rw [List.append_assoc]
      exact (List.Perm.append_left ads (perm_erase rl)).trans pm
  · rintro H2 ⟨acc, ads, ys, es, s2, j2, e2, k2, hq, kq, pm, l2, g2⟩
    have el : ads.length + es.length = ds.length := by rw [← List.length_append]; exact pm.length_eq
    have e0 : es = [] := List.eq_nil_of_length_eq_zero (by omega)
    subst e0
    rw [List.append_nil] at pm
    exact kr.d (.ref D) (.list ads) H2 (k ads pm) (advD s2) (A.W.up _ _ _ (by rw [hlen]; omega) j2) (.lst (off_of (fun z => nD (S1.sub D z)) e2) (k2.mono (off_sub fun a ha => List.mem_cons_of_mem _ (S1.sub a ha))))

section
variable {A : Amb} {ρ : List SV} {c : Nat} {tl : TA} {RA : List PyData → Prop}
theorem ef_lst (h : EA A tl ρ c RA) (hl : ∀ ds, RA ds → ds.length ≤ sizeLine) : EF A (tLst tl) ρ c RA := fun F σ H n Q S l q => by
  refine h F σ H n _ S l fun vs ds H1 s j k r => ⟨by rw [k.length]; exact hl _ r, fun p hp => ?_⟩
  have S1 := S.step s j
  exact q p vs ds _ (s.trans (S1.newS hp)) (S1.newJ hp) (fresh_back S s hp j) upd_same (k.mono (off_cons hp (same_off (same_new hp)))) r
end
theorem cld_abs {i : Int} : Cld (fun xs H Q => ∃ i, xs = [.int i] ∧ Q (.int (if i < 0 then -i else i)) H) [.int i] (· = .int (if i < 0 then -i else i)) := fun H vs Q k q => by
  cases k with
  | cons h t =>
    cases t
    cases h
    exact ⟨i, rfl, q _ _ (fun G => .int _) rfl⟩
theorem od_mod {i j : Int} (h : 0 < j) : Opd (rI (fun x j => 0 < j) fun i j => .int (i % j)) (.int i) (.int j) (· = .int (i % j)) := opd_i (C := fun _ j => 0 < j) (g := fun i j => i % j) h

/-! ### repr of numbers, of None, of data without dicts -/
def natT (d : PyData) : Str := match d with | .int i => toString i | _ => "None"
def rReprN : List V → Hp → VK → Prop := fun xs H Q => (∃ i : Int, xs = [.int i] ∧ i.natAbs.log2 < 1920 ∧ Q (.str (toString i)) H) ∨ (xs = [.non] ∧ Q (.str "None") H)
def rReprPN : List V → Hp → VK → Prop := fun xs H Q => rRepr xs H Q ∨ rReprN xs H Q
section
variable {X : Cx}
theorem call_reprI : CallR X (.builtin "repr") (fun xs H Q => ∃ i : Int, xs = [.int i] ∧ i.natAbs.log2 < 1920 ∧ Q (.str (toString i)) H) := by
  intro pins s σ H xs us Q I r h
  obtain ⟨i, rfl, hl, q⟩ := h
  obtain ⟨u, rfl, ru⟩ := vals1 r
  obtain ⟨t, rfl⟩ : ∃ t, u = Value.int i t := ru
  exact PySem.P.repr_of_int hl ⟨.str _, H, I.tok _, ⟨_, rfl⟩, q⟩
theorem call_reprNone : CallR X (.builtin "repr") (fun xs H Q => xs = [.non] ∧ Q (.str "None") H) := by
  intro pins s σ H xs us Q I r h
  obtain ⟨rfl, q⟩ := h
  obtain ⟨u, rfl, ru⟩ := vals1 r
  cases (show u = Value.none from ru)
  exact PySem.P.repr_of_none ⟨.str _, H, I.tok _, ⟨_, rfl⟩, q⟩
theorem call_reprPN (hg : X.A.guards = some []) (hu : X.A.units + 64 < cLine) : CallR X (.builtin "repr") rReprPN := CallR.or (call_reprP hg hu) (CallR.or call_reprI call_reprNone)
end
theorem cld_reprO {o : Option Nat} (h : ∀ i, o = some i → i < 1000000) : Cld rReprPN [optD o] (· = .str (natT (optD o))) := fun H vs Q k q => by
  cases k with
  | cons h1 t =>
    cases t
    cases o with
    | none =>
      cases h1
      exact .inr (.inr ⟨rfl, q _ _ (fun G => .str _) rfl⟩)
    | some i =>
      cases h1
      refine .inr (.inl ⟨_, rfl, ?_, q _ _ (fun G => .str _) rfl⟩)
      have := h i rfl
      show i.log2 < 1920
      exact PySem.Flt.log2_lt_of (by decide) (Nat.lt_of_lt_of_le this (Nat.le_trans (by decide : 1000000 ≤ 2 ^ 20) (Nat.pow_le_pow_right (by decide) (by decide))))
theorem cld_reprPl2 {ds : List PyData} (h : Cld rRepr [.list ds] (· = .str (PyData.list ds).shown)) : Cld rReprPN [.list ds] (· = .str (PyData.list ds).shown) := fun H vs Q k q => .inl (h H vs Q k q)
theorem cld_reprNone : Cld rReprPN [.none] (· = .str "None") := fun H vs Q k q => by
  cases k with
  | cons h1 t =>
    cases t
    cases h1
    exact .inr (.inr ⟨rfl, q _ _ (fun G => .str _) rfl⟩)

/-- a method of a builtin value, also where a comprehension's own environment is under way -/
theorem kBm {K : PySem.W.Frag} {X : Cx} {o e : Expr} {es : List Expr} {to : TE} {t : TA} {name : Str} {apos cpos : Pos} {T id : String} {r : V → List V → Hp → VK → Prop} (h1 : PlainAttrs T) (h2 : Slot T name id) (h3 : typeOf (Value.builtin id) = pure (Value.type "method_descriptor")) (h4 : MtR X id r) (h5 : PE X o to) (h6 : PA X (e :: es) t) (hK : X.K = K := by rfl)
    (h7 : attributeBase o name X.env (eval o X.env) = eval o X.env := by rfl)
    (h8 : ((((backTo cpos (starEach (e :: es) X.env)).all fun x => !x.fst) && (backToKw cpos (keywordEach [] X.env)).all fun x => x.fst.isSome) && decide (((e :: es).length + ([] : List Keyword).length + if ([] : List Keyword).isEmpty = true then 0 else 1) < 30)) = true := by rfl)
    (h9 : (apos.endLine == cpos.line) = true := by rfl) (h10 : starEach (e :: es) X.env = (false, eval e X.env) :: starEach es X.env := by rfl) (h11 : ((backTo cpos (starEach es X.env)).any fun x => x.fst) = false := by rfl) : PE X ((o.Attribute name apos).Call (e :: es) [] cpos) (tBM K T r to t) := by
  subst hK
  exact pe_bm h1 h2 h3 h4 h5 h6 h7 h8 h9 h10 h11

/-- a drawn item of a list still being made -/
theorem ee_ixOwn {K : PySem.W.Frag} {A : Amb} {ρ : List SV} {i c2 : Nat} {q : Addr} {ds : List PyData} {tb : TE} {R : PyData → Prop} (hi : ρ[i]? = some (.own q ds)) (h2 : ER A tb ρ c2 (IntIn 0 (ds.length : Nat))) (hr : ∀ d ∈ ds, R d) : EE A (tOp (rIx K) (tVar i) tb) ρ c2 R := fun F σ H n Q S l q' => by
  obtain ⟨o, e1, e2, pF, p0, xs, hx, kx⟩ := S.slot i _ hi
  subst e2
  refine ⟨.ref q, e1, ?_⟩
  refine h2 F σ H n _ S l fun v d H1 s j kd ⟨r, er, r0, r1⟩ => ?_
  subst er
  cases kd
  have hx1 : H1 q = some (.lst xs) := (off_some (s q _ (off_of (A.fresh_nw p0) hx))).2
  have kx1 := kx.mono (S.offF s)
  have rl : r.toNat < ds.length := by omega
  obtain ⟨v, hv, kv⟩ := kx1.at (List.getElem?_eq_getElem rl)
  refine .inl ⟨q, xs, r, v, rfl, rfl, .inl (.inl hx1), ?_, q' v _ H1 s j kv (hr _ (List.getElem_mem rl))⟩
  have e : r = ((r.toNat : Nat) : Int) := by omega
  rw [e]
  exact atI_nat hv
theorem eqv_nil (ds : List PyData) : PyData.eqv (.list ds) (.list []) = decide (ds = []) := by
  cases ds with
  | nil => rfl
  | cons d ds => rfl
theorem perm_strs {ys : List PyData} {xs : List Str} (h : ys.Perm (xs.map PyData.str)) : ∃ zs : List Str, ys = zs.map .str ∧ zs.Perm xs := by
  let g : PyData → Str := fun d => match d with | .str x => x | _ => Str.empty
  refine ⟨ys.map g, ?_, ?_⟩
  · rw [List.map_map]
    have e : ∀ d ∈ ys, (PyData.str ∘ g) d = id d := fun d hd => by
      obtain ⟨x, _, rfl⟩ := List.mem_map.mp (h.mem_iff.mp hd)
      rfl
    exact ((List.map_congr_left e).trans (List.map_id ys)).symm
  · have e := h.map g
    rw [List.map_map] at e
    exact e.trans (List.Perm.of_eq (List.map_id xs))

/-! ### what decides -/
theorem preS_trans {a b x : Str} (h1 : preS a b = true) (h2 : preS b x = true) : preS a x = true := by
  unfold preS at *
  have e1 := of_decide_eq_true h1
  have e2 := of_decide_eq_true h2
  refine decide_eq_true ?_
  have hl : a.length ≤ b.length := by
    have := congrArg List.length e1
    rw [List.length_take, Array.length_toList, Array.length_toList] at this
    have f1 : a.length = a.cps.size := rfl
    have f2 : b.length = b.cps.size := rfl
    omega
  rw [← e2, List.take_take, Nat.min_eq_left hl] at e1
  exact e1
def decS (s : Scr) (b : Str) (l : Nat) : Bool := preS s.b b && (decide (s.ys.length < s.l) || decide (l ≤ (s.ys.filter (preS b)).length))
theorem dec_answer {xs : List Str} {s : Scr} {b : Str} {l : Nat} (sh : shows xs s = true) (h : decS s b l = true) : (s.ys.filter (preS b)).take l = (xs.filter (preS b)).take l := by
  have e : (xs.filter (preS s.b)).take s.l = s.ys := of_decide_eq_true sh
  unfold decS at h
  obtain ⟨hp, h⟩ := Bool.and_eq_true_iff.mp h
  have ef : xs.filter (preS b) = (xs.filter (preS s.b)).filter (preS b) := by
    rw [List.filter_filter]
    refine List.filter_congr fun x _ => ?_
    cases hx : preS b x with
    | false => rfl
    | true => rw [preS_trans hp hx]; rfl
  rcases Bool.or_eq_true_iff.mp h with h | h
  · have h := of_decide_eq_true h
    have e2 : (xs.filter (preS s.b)).take s.l = xs.filter (preS s.b) := by
      refine List.take_of_length_le ?_
      rw [← e, List.length_take] at h
      omega
    rw [ef, ← e2, e]
  · have h := of_decide_eq_true h
    have e3 : xs.filter (preS s.b) = s.ys ++ (xs.filter (preS s.b)).drop s.l := by rw [← e, List.take_append_drop]
    rw [ef, e3, List.filter_append, List.take_append_of_le_length h]
/-- what sure_answer returns, as data -/
def decF (ss : List Scr) (b : Str) (l : Nat) : Option Nat := ss.findIdx? fun s => decS s b l
def sureD (ss : List Scr) (b : Str) (l : Nat) : PyData :=
  match decF ss b l with
  | none => .none
  | some i => match ss[i]? with
    | none => .none
    | some s => strsD ((s.ys.filter (preS b)).take l)
theorem decF_some {ss : List Scr} {b : Str} {l i : Nat} (h : decF ss b l = some i) : ∃ s, ss[i]? = some s ∧ decS s b l = true := by
  unfold decF at h
  obtain ⟨hi, hp, _⟩ := List.findIdx?_eq_some_iff_getElem.mp h
  exact ⟨ss[i], List.getElem?_eq_getElem hi, hp⟩
/-- a question that may be asked -/
structure QOk (ss : List Scr) (b : Str) (l : Nat) : Prop where
  n : ss.length ≤ 20
  s : ∀ s ∈ ss, ScrOk s
  c : clashF ss = none
  bl : b.length ≤ 1000000
  b : begS b = true
  l1 : 1 ≤ l
  l2 : l ≤ 20
/-! ### the numbers of the screens that decide -/
def idxD (p : Scr → Bool) (ss : List Scr) (k : Nat) : List PyData := ((ss.zipIdx k).filter fun q => p q.1).map fun q => .int (q.2 : Nat)
theorem idx_headK (p : Scr → Bool) : ∀ (ss : List Scr) (k : Nat), (idxD p ss k ++ [PyData.none])[0]? = some (optD ((ss.findIdx? p).map (· + k)))
  | [], k => rfl
  | s :: ss, k => by
    have ih := idx_headK p ss (k + 1)
    unfold idxD at ih ⊢
    rw [List.zipIdx_cons, List.filter_cons, List.findIdx?_cons]
    cases h : p s with
    | true => simp [h, optD]
    | false =>
      simp only [h, Bool.false_eq_true, if_false]
      rw [ih, Option.map_map]
      congr 3
      funext i
      show i + (k + 1) = i + 1 + k
      omega
theorem idx_head (p : Scr → Bool) (ss : List Scr) : (idxD p ss 0 ++ [PyData.none])[0]? = some (optD (ss.findIdx? p)) := by
  rw [idx_headK]
  cases ss.findIdx? p <;> rfl
def idxP (p : Scr → Bool) : PyData → Bool
  | .tuple [_, e] => p (scrOf e)
  | _ => false
theorem idxP_at (p : Scr → Bool) (i : PyData) (s : Scr) : idxP p (.tuple [i, scrD s]) = p s := by
  show p (scrOf (scrD s)) = _
  rw [scrOf_scr]
theorem idx_enumK (p : Scr → Bool) : ∀ (ss : List Scr) (k : Nat), ((((ss.map scrD).zipIdx k).map fun q => PyData.tuple [.int (q.2 : Nat), q.1]).filter (idxP p)).map itemAt = idxD p ss k
  | [], k => rfl
  | s :: ss, k => by
    have ih := idx_enumK p ss (k + 1)
    unfold idxD at ih ⊢
    rw [List.map_cons, List.zipIdx_cons, List.map_cons, List.filter_cons, List.zipIdx_cons, List.filter_cons, idxP_at]
    cases h : p s with
    | true =>
      simp only [if_true, List.map_cons, ih]
      rfl
    | false =>
      simp only [Bool.false_eq_true, if_false, ih]
theorem idx_enum (p : Scr → Bool) (ss : List Scr) : ((enumD (ss.map scrD)).filter (idxP p)).map itemAt = idxD p ss 0 := idx_enumK p ss 0
theorem idx_len (p : Scr → Bool) (ss : List Scr) (k : Nat) : (idxD p ss k).length ≤ ss.length := by
  unfold idxD
  rw [List.length_map]
  exact Nat.le_trans (List.length_filter_le _ _) (by rw [List.length_zipIdx]; exact Nat.le_refl _)
theorem decF_lt {ss : List Scr} {b : Str} {l i : Nat} (h : decF ss b l = some i) : i < ss.length := by
  obtain ⟨s, hs, _⟩ := decF_some h
  exact (List.getElem?_eq_some_iff.mp hs).1

/-! ### the script against [] ; a conjunction whose last part is drawn -/
def rNeK (K : PySem.W.Frag) : L2.R2 := fun x y H Q => ∃ d e, Dp K H x d ∧ Dp K H y e ∧ d.plain = true ∧ e.plain = true ∧ min d.depth e.depth ≤ 60 ∧ Q (.bl (!PyData.eqv d e)) H
theorem op_neK {K : PySem.W.Frag} {X : Cx} (hu : X.A.units + 64 < cLine) (hK : X.K = K := by rfl) : OpR X (compareOp .NotEq) (rNeK K) := by
  subst hK
  intro pins s σ H x y v u Q I rx ry ⟨d, e, hd, he, pd, pe, dp, q⟩
  obtain ⟨as, r1⟩ := Dp.reads I d x v hd rx
  obtain ⟨bs, r2⟩ := Dp.reads I e y u he ry
  exact PySem.SeqAt.ne_plain r1 r2 pd pe (by omega) ⟨.bl _, H, I, rfl, q⟩
theorem dp_ints {K : PySem.W.Frag} {H : Hp} : ∀ ns : List Int, DpAll K H (ns.map V.int) (ns.map PyData.int)
  | [] => .nil
  | n :: ns => .cons (.int n) (dp_ints ns)
theorem plain_ints : ∀ ns : List Int, PyData.plainAll (ns.map PyData.int) = true
  | [] => rfl
  | _ :: ns => plain_ints ns
section
variable {A : Amb} {ρ : List SV} {c1 c2 : Nat} {ta tb : TE} {K : PySem.W.Frag}
theorem ee_scrNe {i : Nat} {a : Addr} {ns : List Int} (h : ρ[i]? = some (.raw (.ref a))) (hs : SqL K (off A.W.fs A.H0) a (ns.map V.int)) : EE A (tOp (rNeK K) (tVar i) (tLst tNil)) ρ 0 (fun d => ∃ b, d = .bool b) := fun F σ H n Q S _ q => by
  obtain ⟨o, e1, e2⟩ := S.slot i _ h
  have e2' : o = some (.ref a) := e2
  subst e2'
  refine ⟨.ref a, e1, Nat.zero_le _, fun p hp => ?_⟩
  have sH : SqL K H a (ns.map V.int) := sq_mono off_le (sq_mono S.adv hs)
  refine ⟨.list (ns.map .int), .list [], .lst (sq_mono (same_new hp) sH) (dp_ints ns), .lst (.inl (.inl upd_same)) .nil, by rw [PyData.plain]; exact plain_ints ns, rfl, by show min _ 1 ≤ 60; omega, ?_⟩
  exact q _ _ _ (S.newS hp) (S.newJ hp) (.bl _) ⟨_, rfl⟩
theorem ee_andVR (h1 : ER A ta ρ c1 (fun d => ∃ b, d = .bool b)) (h2 : EE A tb ρ c2 (fun d => ∃ b, d = .bool b)) : EE A (tAndV ta tb) ρ (c1 + c2) (fun d => ∃ b, d = .bool b) := fun F σ H n Q S l q => by
  refine h1 F σ H n _ S (by omega) fun v d H1 s j k ⟨a, r⟩ => ?_
  subst r
  cases k
  refine ⟨a, rfl, ?_⟩
  cases a with
  | true =>
    show tb σ H1 Q
    exact h2 F σ H1 (n + c1) _ (S.step s j) (by omega) fun v d H2 s2 j2 k2 r2 => q v d H2 (s.trans s2) (by rw [← Nat.add_assoc]; exact j2) k2 r2
  | false =>
    show Q (.bl false) H1
    exact q _ _ H1 s (A.W.up _ _ _ (by omega) j) (.bl _) ⟨_, rfl⟩
end
/-- what is asked for: None or a list of words -/
theorem cld_reprA {dd : PyData} (h : dd = .none ∨ ∃ xs : List Str, dd = strsD xs ∧ xs.length < 4000 ∧ ∀ x ∈ xs, begS x = true ∧ x.length ≤ 60) : ∃ t : Str, Cld rReprPN [dd] (· = .str t) := by
  rcases h with rfl | ⟨xs, rfl, hl, hx⟩
  · exact ⟨_, cld_reprNone⟩
  · exact ⟨_, cld_reprPl2 (ds := xs.map .str) (cld_reprS hl hx)⟩
theorem noc {x : SV} {ρ : List SV} (h : x.adr = none) (t : NoOwn ρ) : NoOwn (x :: ρ) := fun y hy => by
  rcases List.mem_cons.mp hy with e | hy
  · rw [e]; exact h
  · exact t y hy
theorem non : NoOwn [] := fun _ h => absurd h List.not_mem_nil
theorem NoOwn.drop {ρ : List SV} (n : Nat) (h : NoOwn ρ) : NoOwn (ρ.drop n) := fun x hx => h x (List.mem_of_mem_drop hx)
end DL

set_option linter.all false
set_option maxRecDepth 100000
set_option maxHeartbeats 4000000
/-! DLW: while; a clash of any value -/
namespace DL
open PySem PySem.Spec L2
section
variable {A : Amb} {ρ : List SV} {P : Po} {u : TS} {c2 : Nat}
/-- a while loop that draws nothing, by a measure -/
theorem ss_while {tt : TT} {tb : TS} (Iv : Nat → List SV → Prop) {m0 : Nat} (h0 : Iv m0 ρ)
    (hs : ∀ m ρ1, Iv m ρ1 → ∃ B : Bool → Prop, ET A tt ρ1 0 B ∧ (B true → SS A tb ρ1 0 { nx := fun ρ2 => ∃ m', m' < m ∧ Iv m' ρ2, ct := fun ρ2 => ∃ m', m' < m ∧ Iv m' ρ2, bk := P.nx, rt := P.rt, fr := P.fr }) ∧ (B false → P.nx ρ1)) : SS A (tWhile tt tb) ρ 0 P := fun D F σ H n S l k1 k2 k3 k4 => by
  refine ⟨fun m σ1 H1 => ∃ ρ1 F1, Iv m ρ1 ∧ (∀ x ∈ F.gh, x ∈ F1.gh) ∧ St8 A F1 ρ1 σ1 H1 n, ⟨m0, ρ, F, h0, fun _ h => h, S⟩, fun m σ1 H1 ⟨ρ1, F1, hI, hg, S1⟩ => ?_⟩
  obtain ⟨B, ht, hT, hF⟩ := hs m ρ1 hI
  refine ht F1 σ1 H1 n _ S1 (by omega) fun b H2 s j r => ?_
  have S2 := S1.step s j
  cases b with
  | false => exact k1 ρ1 F1 σ1 H2 (hF r) hg S2
  | true =>
    refine ⟨fun σ' H' => ∃ m', m' < m ∧ ∃ ρ1 F1, Iv m' ρ1 ∧ (∀ x ∈ F.gh, x ∈ F1.gh) ∧ St8 A F1 ρ1 σ' H' n, fun σ' H' h => h, ?_⟩
    have nxt : KN A F1.gh (n + 0) (fun ρ2 => ∃ m', m' < m ∧ Iv m' ρ2) (fun σ' H' => ∃ m', m' < m ∧ ∃ ρ1 F1, Iv m' ρ1 ∧ (∀ x ∈ F.gh, x ∈ F1.gh) ∧ St8 A F1 ρ1 σ' H' n) := fun ρ2 F2 σ2 H3 ⟨m', hm, hI'⟩ hg2 S3 => ⟨m', hm, ρ2, F2, hI', fun x hx => hg2 x (hg x hx), S3⟩
    exact hT r _ F1 σ1 H2 n S2 (by omega) nxt k2 (k1.gs hg) nxt
theorem sq_while {tt : TT} {tb : TS} (Iv : Nat → List SV → Prop) {m0 : Nat} (h0 : Iv m0 ρ)
    (hs : ∀ m ρ1, Iv m ρ1 → ∃ B : Bool → Prop, ET A tt ρ1 0 B ∧ (B true → SS A tb ρ1 0 { nx := fun ρ2 => ∃ m', m' < m ∧ Iv m' ρ2, ct := fun ρ2 => ∃ m', m' < m ∧ Iv m' ρ2, bk := fun ρ' => SS A u ρ' c2 P, rt := P.rt, fr := P.fr }) ∧ (B false → SS A u ρ1 c2 P)) : SS A (tSeq (tWhile tt tb) u) ρ (0 + c2) P :=
  ss_seq (M := fun ρ1 => SS A u ρ1 c2 P) (ss_while Iv h0 hs) fun _ h => h
end

/-! ### a clash, of any value -/
def idxOkD (n : Nat) : PyData → Bool
  | .int i => decide (0 ≤ i) && decide (i < (n : Nat))
  | _ => false
theorem idxOk_ex {n : Nat} {d : PyData} (h : idxOkD n d = true) : ∃ i : Nat, d = .int (i : Nat) ∧ i < n := by
  cases d with
  | int i =>
    obtain ⟨h1, h2⟩ := Bool.and_eq_true_iff.mp h
    have h1 := of_decide_eq_true h1
    have h2 := of_decide_eq_true h2
    exact ⟨i.toNat, congrArg PyData.int (by omega), by omega⟩
  | _ => cases h
theorem isStr_ex {d : PyData} (h : isiD "str" d = true) : ∃ x : Str, d = .str x := by
  cases d with
  | str x => exact ⟨x, rfl⟩
  | _ =>
    revert h
    intro h
    first | exact absurd (show false = true from h) (by decide) | cases (show false = true from h)
theorem isStrs_ex : ∀ {ds : List PyData}, ds.all (isiD "str") = true → ∃ xs : List Str, ds = xs.map .str
  | [], _ => ⟨[], rfl⟩
  | d :: ds, h => by
    rw [List.all_cons] at h
    obtain ⟨h1, h2⟩ := Bool.and_eq_true_iff.mp h
    obtain ⟨x, rfl⟩ := isStr_ex h1
    obtain ⟨xs, rfl⟩ := isStrs_ex h2
    exact ⟨x :: xs, rfl⟩
def scrAt (ss : List Scr) : PyData → Scr
  | .int i => ss.getD i.toNat ⟨Str.empty, 1, []⟩
  | _ => ⟨Str.empty, 1, []⟩
def tailV (ss : List Scr) (kd i k : PyData) : List PyData → Bool
  | [w] => PyData.eqv kd (.str "missing") && (missS (scrAt ss i) (strOf w) && decide (strOf w ∈ (scrAt ss k).ys))
  | [x, y] => PyData.eqv kd (.str "order") && (putsS (scrAt ss i) (strOf x) (strOf y) && putsS (scrAt ss k) (strOf y) (strOf x))
  | _ => false
def clashV (ss : List Scr) : PyData → Bool
  | .tuple (kd :: i :: k :: ws) => !(!idxOkD ss.length i || !idxOkD ss.length k) && (!(!isiD "str" kd || !ws.all (isiD "str")) && tailV ss kd i k ws)
  | _ => false
theorem clashV_cons (ss : List Scr) (kd i k : PyData) (ws : List PyData) : clashV ss (.tuple (kd :: i :: k :: ws)) = (!(!idxOkD ss.length i || !idxOkD ss.length k) && (!(!isiD "str" kd || !ws.all (isiD "str")) && tailV ss kd i k ws)) := rfl
theorem scrAt_at {ss : List Scr} {i : Nat} {s : Scr} (h : ss[i]? = some s) : scrAt ss (.int (i : Nat)) = s := by
  show ss.getD ((i : Nat) : Int).toNat _ = s
  rw [Int.toNat_natCast, List.getD_eq_getElem?_getD, h]
  rfl

/-! ### tuples cut and glued -/
theorem kSlT {X : Cx} {K : PySem.W.Frag} (h : X.K = K := by rfl) : SlR X (L2.rSlA K) := by
  subst h
  exact sl_tupA
theorem kCatT {X : Cx} {K : PySem.W.Frag} (h : X.K = K := by rfl) : OpR X (binaryOp .Add) (L2.rCatA K) := by
  subst h
  exact op_catA
section
variable {A : Amb} {ρ : List SV} {c c1 c2 c3 : Nat} {ta tb : TE} {K : PySem.W.Frag}
theorem ee_slT {tl th : TO} {ds : List PyData} {lo hi : Option Int} (h1 : EE A ta ρ c1 (· = .tuple ds)) (h2 : EO A tl ρ c2 (· = lo)) (h3 : EO A th ρ c3 (· = hi)) : EE A (tSl (L2.rSlA K) ta tl th) ρ (c1 + c2 + c3) (· = .tuple (cutD ds lo hi)) := fun F σ H n Q S l q => by
  refine h1 F σ H n _ S (by omega) fun v d H1 s1 j1 k1 r1 => ?_
  have S1 := S.step s1 j1
  refine h2 F σ H1 (n + c1) _ S1 (by omega) fun lo' H2 s2 j2 r2 => ?_
  have S2 := S1.step s2 j2
  refine h3 F σ H2 (n + c1 + c2) _ S2 (by omega) fun hi' H3 s3 j3 r3 => ?_
  have S3 := S2.step s3 j3
  subst r1 r2 r3
  have k3 := (k1.mono (S1.offF s2)).mono (S2.offF s3)
  cases k3 with
  | tup hp kk =>
    have hl := kk.length
    refine ⟨_, _, rfl, .inl (.inl (off_some hp).2), fun ⟨e1, e2⟩ => ?_, fun _ p hn => ?_⟩
    · have e : cutD ds lo' hi' = ds := by
        unfold cutD
        rw [hl] at e1 e2
        rw [e1, e2, List.drop_zero, Nat.sub_zero, List.take_length]
      refine q _ (.tuple (cutD ds lo' hi')) _ ((s1.trans s2).trans s3) (A.W.up _ _ _ (by omega) S3.j) ?_ rfl
      rw [e]
      exact .tup hp kk
    · exact q _ _ _ (((s1.trans s2).trans s3).trans (S3.newS hn)) (A.W.up _ _ _ (by omega) (S3.newJ hn)) (new_tup S3 hn (kk.cut lo' hi')) rfl
theorem ee_catT {ds es : List PyData} (h1 : EE A ta ρ c1 (· = .tuple ds)) (h2 : EE A tb ρ c2 (· = .tuple es)) (hl : ds.length + es.length ≤ sizeLine) : EE A (tOp (L2.rCatA K) ta tb) ρ (c1 + c2) (· = .tuple (ds ++ es)) := fun F σ H n Q S l q => by
  refine h1 F σ H n _ S (by omega) fun v d1 H1 s1 j1 k1 r1 => ?_
  have S1 := S.step s1 j1
  refine h2 F σ H1 (n + c1) _ S1 (by omega) fun w d2 H2 s2 j2 k2 r2 => ?_
  have S2 := S1.step s2 j2
  subst r1 r2
  have k1' := k1.mono (S1.offF s2)
  cases k1' with
  | tup hp kp =>
    cases k2 with
    | tup hq kq =>
      have j3 : A.W.J (n + (c1 + c2)) H2 := by rw [← Nat.add_assoc]; exact j2
      refine ⟨_, _, _, _, rfl, rfl, .inl (.inl (off_some hp).2), .inl (.inl (off_some hq).2), by rw [kp.length, kq.length]; exact hl, fun e => ?_, fun _ e => ?_, fun _ _ p hn => ?_⟩
      · subst e
        cases kp
        exact q _ _ _ (s1.trans s2) j3 (.tup hq kq) rfl
      · subst e
        cases kq
        refine q _ (.tuple (ds ++ [])) _ (s1.trans s2) j3 ?_ rfl
        rw [List.append_nil]
        exact .tup hp kp
      · exact q _ _ _ ((s1.trans s2).trans (S2.newS hn)) (by rw [← Nat.add_assoc]; exact S2.newJ hn) (new_tup S2 hn (kp.append kq)) rfl
theorem ee_listOfT {ds : List PyData} (h : EE A ta ρ c (· = .tuple ds)) : EE A (tCB (rListOf K) (tCons ta tNil)) ρ c (· = .list ds) := fun F σ H n Q S l q => by
  refine h F σ H n _ S l fun v d H1 s j k r => ?_
  subst r
  have S1 := S.step s j
  cases k with
  | tup hp kk => exact ⟨_, _, rfl, .inr (.inl (.inl (off_some hp).2)), fun p hn => q _ _ _ (s.trans (S1.newS hn)) (S1.newJ hn) (new_lst S1 hn kk) rfl⟩
end
theorem cld_bool1 {i : Int} : Cld (fun xs H Q => (∃ i, xs = [V.int i] ∧ Q (V.bl (i != 0)) H) ∨ ∃ k, xs = [V.bl k] ∧ Q (V.bl k) H) [.int i] (· = .bool (i != 0)) := fun H vs Q k q => by
  cases k with
  | cons h t =>
    cases t
    cases h
    exact .inl ⟨i, rfl, q _ _ (fun G => .bl _) rfl⟩
theorem cut_dl (ds : List PyData) : cutD ds none (some (-1)) = ds.dropLast := by
  unfold cutD
  rw [HT.sIx_none, List.drop_zero, Nat.sub_zero, List.dropLast_eq_take]
  refine List.take_eq_take_iff.mpr ?_
  rw [show HT.sIx ds.length ds.length (some (-1)) = ((-1 : Int) + (ds.length : Nat)).toNat by simp [HT.sIx]]
  omega

/-! ### screens that show no qqq -/
def ScrQ (s : Scr) : Prop := ScrOk s ∧ ∀ x ∈ s.ys, x ≠ "qqq"
theorem fresh_nq {b : Str} {j : Nat} (h1 : 1 ≤ j) (h2 : j ≤ 3) : b ++ repS "ba" j ≠ "qqq" := fun e => by
  have h : (97 : Nat) ∈ (repS "ba" j).cps.toList := by
    have : j = 1 ∨ j = 2 ∨ j = 3 := by omega
    rcases this with rfl | rfl | rfl <;> decide
  have h3 : (97 : Nat) ∈ (b ++ repS "ba" j).cps.toList := by
    rw [show (b ++ repS "ba" j).cps.toList = b.cps.toList ++ (repS "ba" j).cps.toList from TL.tl_append _ _]
    exact List.mem_append_right _ h
  rw [e] at h3
  exact absurd h3 (by decide)
theorem abb_nq {m : Int} {x : Str} (h : WordOf "abb" m x) : x ≠ "qqq" := fun e => by
  have := h.2.2 113 (by rw [e]; decide)
  exact absurd this (by decide)

/-! ### values that are no clash -/
def oddD (n : Nat) (kd : PyData) (i : Int) (j : PyData) (ws : List PyData) : List PyData :=
  (((([.none, .int 5, .str "", .str "missing", .list [], .tuple [], .dict [], .bool true, .list (kd :: .int i :: j :: ws), .tuple (cutD (kd :: .int i :: j :: ws) none (some 3)), .tuple ((kd :: .int i :: j :: ws) ++ [.str "a"]), .tuple ([.str "both"] ++ cutD (kd :: .int i :: j :: ws) (some 1) none)]
  ++ [.tuple ([.none] ++ cutD (kd :: .int i :: j :: ws) (some 1) none), .tuple ([kd, .int (n : Nat)] ++ cutD (kd :: .int i :: j :: ws) (some 2) none), .tuple ([kd, .int (-1)] ++ cutD (kd :: .int i :: j :: ws) (some 2) none)])
  ++ [.tuple ((cutD (kd :: .int i :: j :: ws) none (some 2) ++ [.int (n : Nat)]) ++ cutD (kd :: .int i :: j :: ws) (some 3) none), .tuple ((cutD (kd :: .int i :: j :: ws) none (some 2) ++ [.none]) ++ cutD (kd :: .int i :: j :: ws) (some 3) none), .tuple ((cutD (kd :: .int i :: j :: ws) none (some 3) ++ [.none]) ++ cutD (kd :: .int i :: j :: ws) (some 4) none)])
  ++ [.tuple ((cutD (kd :: .int i :: j :: ws) none (some 3) ++ [.str ""]) ++ cutD (kd :: .int i :: j :: ws) (some 4) none), .tuple ((cutD (kd :: .int i :: j :: ws) none (some 3) ++ [.list [.str "a"]]) ++ cutD (kd :: .int i :: j :: ws) (some 4) none), .tuple ((cutD (kd :: .int i :: j :: ws) none (some 3) ++ [.str "Z"]) ++ cutD (kd :: .int i :: j :: ws) (some 4) none)])
  ++ [.tuple [.tuple (kd :: .int i :: j :: ws)], .list [.tuple (kd :: .int i :: j :: ws)], .tuple ([kd, .str "0"] ++ cutD (kd :: .int i :: j :: ws) (some 2) none), .tuple ([kd, .bool (i != 0)] ++ cutD (kd :: .int i :: j :: ws) (some 2) none)])
  ++ [.tuple (cutD (kd :: .int i :: j :: ws) none (some (-1)) ++ [.str "qqq"]), .tuple (([.str "order"] ++ cutD (kd :: .int i :: j :: ws) (some 1) (some 4)) ++ [.int 5]), .tuple (([.str "missing"] ++ cutD (kd :: .int i :: j :: ws) (some 1) (some 4)) ++ [.str "a", .str "b"])]
theorem clashV_len0 (ss : List Scr) (a b c : PyData) : clashV ss (.tuple [a, b, c]) = false := by rw [clashV_cons, show tailV ss a b c [] = false from rfl, Bool.and_false, Bool.and_false]
theorem clashV_len3 (ss : List Scr) (a b c x y z : PyData) (l : List PyData) : clashV ss (.tuple (a :: b :: c :: x :: y :: z :: l)) = false := by rw [clashV_cons, show tailV ss a b c (x :: y :: z :: l) = false from rfl, Bool.and_false, Bool.and_false]
theorem clashV_i {ss : List Scr} {a b c : PyData} {ws : List PyData} (h : idxOkD ss.length b = false) : clashV ss (.tuple (a :: b :: c :: ws)) = false := by rw [clashV_cons, h]; rfl
theorem clashV_k {ss : List Scr} {a b c : PyData} {ws : List PyData} (h : idxOkD ss.length c = false) : clashV ss (.tuple (a :: b :: c :: ws)) = false := by rw [clashV_cons, h, Bool.not_false, Bool.or_true]; rfl
theorem clashV_s {ss : List Scr} {a b c : PyData} {ws : List PyData} (h : ws.all (isiD "str") = false) : clashV ss (.tuple (a :: b :: c :: ws)) = false := by rw [clashV_cons, h, Bool.not_false, Bool.or_true, Bool.not_true, Bool.false_and, Bool.and_false]
theorem clashV_n {ss : List Scr} {a b c : PyData} {ws : List PyData} (h : isiD "str" a = false) : clashV ss (.tuple (a :: b :: c :: ws)) = false := by rw [clashV_cons, h, Bool.not_false, Bool.true_or, Bool.not_true, Bool.false_and, Bool.and_false]
theorem clashV_t {ss : List Scr} {a b c : PyData} {ws : List PyData} (h : tailV ss a b c ws = false) : clashV ss (.tuple (a :: b :: c :: ws)) = false := by rw [clashV_cons, h, Bool.and_false, Bool.and_false]
theorem idx_self (n : Nat) : idxOkD n (.int (n : Nat)) = false := by
  simp [idxOkD]
theorem idx_ok {n i : Nat} (h : i < n) : idxOkD n (.int (i : Nat)) = true := by
  simp [idxOkD]
  omega
theorem clashV_w {ss : List Scr} {i j : Nat} {s t : Scr} {z w : Str} (hi : ss[i]? = some s) (hj : ss[j]? = some t) : clashV ss (.tuple [.str z, .int (i : Nat), .int (j : Nat), .str w]) = (PyData.eqv (.str z) (.str "missing") && (missS s w && decide (w ∈ t.ys))) := by
  rw [clashV_cons, idx_ok (List.getElem?_eq_some_iff.mp hi).1, idx_ok (List.getElem?_eq_some_iff.mp hj).1, show (!isiD "str" (PyData.str z) || ![PyData.str w].all (isiD "str")) = false from rfl]
  show (PyData.eqv (.str z) (.str "missing") && (missS (scrAt ss (.int (i : Nat))) w && decide (w ∈ (scrAt ss (.int (j : Nat))).ys))) = _
  rw [scrAt_at hi, scrAt_at hj]
theorem clashV_xy {ss : List Scr} {i j : Nat} {s t : Scr} {z x y : Str} (hi : ss[i]? = some s) (hj : ss[j]? = some t) : clashV ss (.tuple [.str z, .int (i : Nat), .int (j : Nat), .str x, .str y]) = (PyData.eqv (.str z) (.str "order") && (putsS s x y && putsS t y x)) := by
  rw [clashV_cons, idx_ok (List.getElem?_eq_some_iff.mp hi).1, idx_ok (List.getElem?_eq_some_iff.mp hj).1, show (!isiD "str" (PyData.str z) || ![PyData.str x, .str y].all (isiD "str")) = false from rfl]
  show (PyData.eqv (.str z) (.str "order") && (putsS (scrAt ss (.int (i : Nat))) x y && putsS (scrAt ss (.int (j : Nat))) y x)) = _
  rw [scrAt_at hi, scrAt_at hj]
theorem scrAt_no {ss : List Scr} {z : Str} (h : ∀ s ∈ ss, z ∉ s.ys) (d : PyData) : z ∉ (scrAt ss d).ys := by
  cases d with
  | int i =>
    show z ∉ (ss.getD i.toNat ⟨Str.empty, 1, []⟩).ys
    rw [List.getD_eq_getElem?_getD]
    cases e : ss[i.toNat]? with
    | none => exact List.not_mem_nil
    | some s => exact h s (List.mem_of_getElem? e)
  | _ => exact List.not_mem_nil
theorem puts_no {s : Scr} {x y : Str} (h : x ∉ s.ys) : putsS s x y = false := by
  unfold putsS
  rw [decide_eq_false h]
  rfl
theorem tail_w {ss : List Scr} {kd i j : PyData} {z : Str} (h : ∀ s ∈ ss, z ∉ s.ys) : tailV ss kd i j [.str z] = false := by
  show (PyData.eqv kd (.str "missing") && (missS (scrAt ss i) z && decide (z ∈ (scrAt ss j).ys))) = false
  rw [decide_eq_false (scrAt_no h j), Bool.and_false, Bool.and_false]
theorem tail_x {ss : List Scr} {kd i j y : PyData} {z : Str} (h : ∀ s ∈ ss, z ∉ s.ys) : tailV ss kd i j [.str z, y] = false := by
  show (PyData.eqv kd (.str "order") && (putsS (scrAt ss i) z (strOf y) && putsS (scrAt ss j) (strOf y) z)) = false
  rw [puts_no (scrAt_no h i), Bool.false_and, Bool.and_false]
theorem tail_y {ss : List Scr} {kd i j x : PyData} {z : Str} (h : ∀ s ∈ ss, z ∉ s.ys) : tailV ss kd i j [x, .str z] = false := by
  show (PyData.eqv kd (.str "order") && (putsS (scrAt ss i) (strOf x) z && putsS (scrAt ss j) z (strOf x))) = false
  rw [puts_no (scrAt_no h j), Bool.and_false, Bool.and_false]
theorem all_app {p : PyData → Prop} {l m : List PyData} (h1 : ∀ e ∈ l, p e) (h2 : ∀ e ∈ m, p e) : ∀ e ∈ l ++ m, p e := fun e he => (List.mem_append.mp he).elim (h1 e) (h2 e)
theorem all_con {p : PyData → Prop} {a : PyData} {l : List PyData} (h1 : p a) (h2 : ∀ e ∈ l, p e) : ∀ e ∈ a :: l, p e := fun e he => (List.mem_cons.mp he).elim (fun z => by rw [z]; exact h1) (h2 e)
theorem all_nl {p : PyData → Prop} : ∀ e ∈ ([] : List PyData), p e := fun e he => absurd he List.not_mem_nil
theorem noW {ss : List Scr} {z : Str} (hq : ∀ s ∈ ss, ScrQ s) (hz : wordS z = false) : ∀ s ∈ ss, z ∉ s.ys := fun s hs hx => by
  have := ((hq s hs).1.w.2 z hx).1.1
  rw [hz] at this
  cases this
theorem noQ {ss : List Scr} (hq : ∀ s ∈ ss, ScrQ s) : ∀ s ∈ ss, ("qqq" : Str) ∉ s.ys := fun s hs hx => (hq s hs).2 _ hx rfl
theorem idx_neg (n : Nat) : idxOkD n (.int (-1)) = false := by simp [idxOkD]
theorem odd_w {ss : List Scr} {i j : Nat} {w : Str} (hq : ∀ s ∈ ss, ScrQ s) : ∀ e ∈ oddD ss.length (.str "missing") (i : Nat) (.int (j : Nat)) [.str w], clashV ss e = false :=
  all_app (all_app (all_app (all_app (all_app (all_con rfl (all_con rfl (all_con rfl (all_con rfl (all_con rfl (all_con rfl (all_con rfl (all_con rfl (all_con rfl (all_con (clashV_len0 ss _ _ _) (all_con (clashV_t rfl) (all_con (clashV_t rfl) all_nl))))))))))))
    (all_con (clashV_n rfl) (all_con (clashV_i (idx_self _)) (all_con (clashV_i (idx_neg _)) all_nl))))
    (all_con (clashV_k (idx_self _)) (all_con (clashV_k rfl) (all_con (clashV_s rfl) all_nl))))
    (all_con (clashV_t (tail_w (noW hq (by decide)))) (all_con (clashV_s rfl) (all_con (clashV_t (tail_w (noW hq (by decide)))) all_nl))))
    (all_con rfl (all_con rfl (all_con (clashV_i rfl) (all_con (clashV_i rfl) all_nl)))))
    (all_con (clashV_t (tail_w (noQ hq))) (all_con (clashV_s rfl) (all_con (clashV_len3 ss _ _ _ _ _ _ _) all_nl)))
theorem odd_xy {ss : List Scr} {i j : Nat} {x y : Str} (hq : ∀ s ∈ ss, ScrQ s) : ∀ e ∈ oddD ss.length (.str "order") (i : Nat) (.int (j : Nat)) [.str x, .str y], clashV ss e = false :=
  all_app (all_app (all_app (all_app (all_app (all_con rfl (all_con rfl (all_con rfl (all_con rfl (all_con rfl (all_con rfl (all_con rfl (all_con rfl (all_con rfl (all_con (clashV_len0 ss _ _ _) (all_con (clashV_len3 ss _ _ _ _ _ _ _) (all_con (clashV_t rfl) all_nl))))))))))))
    (all_con (clashV_n rfl) (all_con (clashV_i (idx_self _)) (all_con (clashV_i (idx_neg _)) all_nl))))
    (all_con (clashV_k (idx_self _)) (all_con (clashV_k rfl) (all_con (clashV_s rfl) all_nl))))
    (all_con (clashV_t (tail_x (noW hq (by decide)))) (all_con (clashV_s rfl) (all_con (clashV_t (tail_x (noW hq (by decide)))) all_nl))))
    (all_con rfl (all_con rfl (all_con (clashV_i rfl) (all_con (clashV_i rfl) all_nl)))))
    (all_con (clashV_t (tail_y (noQ hq))) (all_con (clashV_s rfl) (all_con (clashV_len3 ss _ _ _ _ _ _ _) all_nl)))
theorem cut_len (ds : List PyData) (lo hi : Option Int) : (cutD ds lo hi).length ≤ ds.length := by
  unfold cutD
  rw [List.length_take, List.length_drop]
  omega
/-- the two kinds of things that the law asks about -/
def ThD (n : Nat) (d : PyData) : Prop := ∃ i j : Nat, i < n ∧ j < n ∧ ((∃ w : Str, d = .tuple [.str "missing", .int (i : Nat), .int (j : Nat), .str w] ∧ w.length ≤ 1000) ∨ ∃ x y : Str, d = .tuple [.str "order", .int (i : Nat), .int (j : Nat), .str x, .str y] ∧ x.length ≤ 1000 ∧ y.length ≤ 1000)
/-! ### a comprehension as a list that is still being made -/
theorem ef_lc {A : Amb} {ρ : List SV} {wi : TI} {g : TG} {tt : TT} {te : TE} {vs : List Nat} {c0 cN : Nat} {RI : List PyData → Prop} {R : List PyData → Prop} (hi : EI A wi ρ c0 RI)
    (h : ∀ ds, RI ds → ds.length ≤ 16000000 ∧ ∃ (I : Nat → List PyData → Prop) (c1 c2 : Nat), ds.length * (c1 + c2) ≤ cN ∧ I 0 [] ∧
      (∀ i d acc, ds[i]? = some d → I i acc → acc.length ≤ i → ∃ ρ1 P, TGw A g vs d (wip ρ vs) ρ1 ∧ ET A tt ρ1 c1 P ∧ (P false → I (i + 1) acc) ∧ (P true → EE A te ρ1 c2 fun e => I (i + 1) (acc ++ [e]))) ∧
      ∀ acc, I ds.length acc → R acc) : EF A (tLc wi g tt te vs) ρ (c0 + cN) R := fun F σ H n Q S l q => by
  refine hi F σ H n _ S (by omega) fun J G Y ds gg H1 s1 j1 r1 w hg hG hY => ?_
  obtain ⟨hlen, I, c1, c2, hc, h0, hs, hd⟩ := h ds r1
  have S1 := S.step s1 j1
  intro D hD
  let F' : Fp := ⟨D :: F.fs, gg :: F.gh⟩
  have nD : D ∉ F.fs := S1.fresh hD
  have offD : ∀ {H2 : Hp}, Same (off A.W.fs H1) (off A.W.fs H2) → Same (off F.fs H1) (off (D :: F.fs) H2) := fun {H2} s a o e => by
    have h1 := S1.offF s a o e
    refine off_of (fun z => ?_) (off_some h1).2
    rcases List.mem_cons.mp z with z | z
    · subst z
      have := (off_some e).2
      rw [hD] at this
      cases this
    · exact (off_some e).1 z
  have mkS : ∀ {H2 : Hp} {m : Nat}, Same (off A.W.fs H1) (off A.W.fs H2) → A.W.J m H2 → (∃ o, H2 D = some o) → gg.p (off (D :: F.fs) H2) → St8 A F' (wip ρ vs) (wipe σ vs) H2 m := fun {H2 m} s j hh hgp => by
    have S0 := st8_wip (S1.step s j) vs
    refine ⟨j, S0.adv, fun a ha => List.mem_cons_of_mem _ (S0.sub a ha), fun a ha => ?_, fun x hx => ?_, S0.len, fun i x e => ?_, S0.nd⟩
    · rcases List.mem_cons.mp ha with z | z
      · subst z
        exact hh
      · exact S0.trk a z
    · rcases List.mem_cons.mp hx with z | z
      · subst z
        exact hgp
      · exact x.mono _ _ (offD s) (S1.gh x z)
    · obtain ⟨o, h1, h2⟩ := (st8_wip S1 vs).slot i x e
      refine ⟨o, h1, ?_⟩
      cases x with
      | no => trivial
      | im d =>
        obtain ⟨v, e, k⟩ := h2
        exact ⟨v, e, k.mono (offD s)⟩
      | raw v => exact h2
      | own p ps =>
        obtain ⟨e, hp, hp0, xs, hx, k⟩ := h2
        exact ⟨e, List.mem_cons_of_mem _ hp, hp0, xs, (off_some (s p _ (off_of (A.fresh_nw hp0) hx))).2, k.mono (offD s)⟩
      | dct p ps =>
        obtain ⟨e, hp, hp0, xs, hx, k⟩ := h2
        exact ⟨e, List.mem_cons_of_mem _ hp, hp0, xs, (off_some (s p _ (off_of (A.fresh_nw hp0) hx))).2, k.mono (offD s)⟩
      | semi p ps pr =>
        obtain ⟨q', rest, e, hq', kr, hp, hp0, xs, hx, k⟩ := h2
        exact ⟨q', rest, e, offD s _ _ hq', kr.mono (offD s), List.mem_cons_of_mem _ hp, hp0, xs, (off_some (s p _ (off_of (A.fresh_nw hp0) hx))).2, k.mono (offD s)⟩
  have nDw : D ∉ A.W.fs := fun z => nD (S1.sub D (A.sub D z))
  have updS : ∀ {H2 : Hp} {o : HO}, Same (off A.W.fs H1) (off A.W.fs H2) → Same (off A.W.fs H1) (off A.W.fs (upd H2 D o)) := fun {H2 o} s a u e => by
    refine off_of (off_some e).1 ?_
    rw [upd_ne fun z => by rw [z] at e; have := (off_some e).2; rw [hD] at this; cases this]
    exact (off_some (s a u e)).2
  have updJ : ∀ {H2 : Hp} {o : HO} {m : Nat}, NoC H2 D → A.W.J m H2 → A.W.J m (upd H2 D o) := fun {H2 o m} nc j => A.W.stay _ _ _ j fun a ha u e => by
    rw [upd_ne (noC_elim nDw nc ha)]
    exact e
  refine lc_it w (fun i H2 => ∃ acc ads, Same (off A.W.fs H1) (off A.W.fs H2) ∧ A.W.J (n + c0 + i * (c1 + c2)) H2 ∧ H2 D = some (.lst acc) ∧ DA (off (D :: F.fs) H2) acc ads ∧ I i ads ∧ ads.length ≤ i ∧ gg.p (off (D :: F.fs) H2))
    ⟨[], [], updS (Same.refl _), by rw [Nat.zero_mul]; exact updJ (noC_none hD) j1, upd_same, .nil, h0, Nat.le_refl _, gg.mono _ _ (offD (updS (Same.refl _))) hg⟩ (fun i H2 _ ⟨_, _, _, _, _, _, _, _, p⟩ => hG H2 (gg.mono _ _ off_le p)) ?_ ?_
  · rintro i x H2 H3 hi' ⟨acc, ads, s2, j2, e2, k2, i2, l2, g2⟩ y
    obtain ⟨s3, d, hd', kd⟩ := hY i H2 x H3 (gg.mono _ _ off_le g2) hi' y
    obtain ⟨ρ1, P, tg, et, p0, p1⟩ := hs i d ads hd' i2 l2
    have b1 : i * (c1 + c2) + (c1 + c2) ≤ cN := Nat.le_trans (by rw [← Nat.succ_mul]; exact Nat.mul_le_mul_right _ hi') hc
    have s13 : Same (off A.W.fs H1) (off A.W.fs H3) := s2.trans (same_off s3)
    have j3 : A.W.J (n + c0 + i * (c1 + c2)) H3 := A.W.stay _ _ _ j2 fun a _ o e => s3 a o e
    have S3 := mkS s13 j3 ⟨_, s3 _ _ e2⟩ (gg.mono _ _ (same_off s3) g2)
    have trk2 : ∀ a ∈ D :: F.fs, ∃ o, H2 a = some o := (mkS s2 j2 ⟨_, e2⟩ g2).trk
    refine tg F' σ H3 _ x _ S3 (kd (D :: F.fs) trk2 g2) fun σ' S4 hw => ⟨hw, ?_⟩
    refine et F' σ' H3 _ _ S4 (by omega) fun b H4 s4 j4 r4 => ?_
    have S5 := S4.step s4 j4
    have eD : H4 D = some (.lst acc) := (off_some (s4 D _ (off_of nDw (s3 _ _ e2)))).2
    have k4 : DA (off (D :: F.fs) H4) acc ads := (k2.mono (same_off s3)).mono (S4.offF s4)
    have g4 : gg.p (off (D :: F.fs) H4) := gg.mono _ _ (S4.offF s4) (gg.mono _ _ (same_off s3) g2)
    cases b with
    | false =>
      show ∃ acc ads, _
      exact ⟨acc, ads, s13.trans s4, A.W.up _ _ _ (by rw [Nat.succ_mul]; omega) j4, eD, k4, p0 r4, Nat.le_succ_of_le l2, g4⟩
    | true =>
      show te σ' H4 _
      refine p1 r4 F' σ' H4 _ _ S5 (by omega) fun v e H5 s5 j5 k5 r5 => ?_
      have eD5 : H5 D = some (.lst acc) := (off_some (s5 D _ (off_of nDw eD))).2
      have hal := k4.length
      refine ⟨acc, eD5, ?_, acc ++ [v], ads ++ [e], updS ((s13.trans s4).trans s5), updJ (noC_lst eD5) (A.W.up _ _ _ (by rw [Nat.succ_mul]; omega) j5), upd_same, ?_, r5, by rw [List.length_append]; exact Nat.succ_le_succ l2, gg.mono _ _ (off_upd List.mem_cons_self) (gg.mono _ _ (S5.offF s5) g4)⟩
      · rw [hal]
        have : i < ds.length := hi'
        have e := sizeLine_eq
        omega
      · exact ((k4.mono (S5.offF s5)).append (.cons k5 .nil)).mono (off_upd List.mem_cons_self)
  · rintro H2 ⟨acc, ads, s2, j2, e2, k2, i2, l2, g2⟩
    exact q D acc ads H2 (s1.trans s2) (A.W.up _ _ _ (by omega) j2) (fresh_back S s1 hD j1) e2 k2 (hd ads i2)

theorem ef_mapS {A : Amb} {ρ : List SV} {wi : TI} {g : TG} {te : TE} {vs : List Nat} {c0 : Nat} {ds : List PyData} (f : PyData → PyData) (hi : EI A wi ρ c0 (· = ds)) (hl : ds.length ≤ 16000000)
    (ht : ∀ (i : Nat) d, ds[i]? = some d → ∃ ρ1, TGw A g vs d (wip ρ vs) ρ1 ∧ EE A te ρ1 0 (· = f d)) : EF A (tLc wi g tYes te vs) ρ (c0 + 0) (· = ds.map f) :=
  ef_lc hi fun ds' e => by
    subst e
    refine ⟨hl, fun i acc => acc = (ds'.take i).map f, 0, 0, Nat.le_refl _, rfl, fun i d acc hd hI _ => ?_, fun acc hI => ?_⟩
    · obtain ⟨ρ1, tg, e⟩ := ht i d hd
      refine ⟨ρ1, _, tg, et_yes, fun h => (by cases h), fun _ => e.imp fun x hx => ?_⟩
      show acc ++ [x] = (ds'.take (i + 1)).map f
      rw [show acc = (ds'.take i).map f from hI, hx, List.take_add_one, hd, List.map_append]
      rfl
    · rw [show acc = (ds'.take ds'.length).map f from hI, List.take_length]
end DL

set_option linter.all false
set_option maxRecDepth 100000
set_option maxHeartbeats 4000000
/-! DLQ: lists of numbers by tests, a star over a list, lists that hold lists still being made -/
namespace DL
open PySem PySem.Spec L2
section
variable {A : Amb} {ρ : List SV} {te ta tb : TE} {tl tr : TA} {c c1 c2 : Nat} {K : PySem.W.Frag}
theorem ea_starL {ds es : List PyData} (h1 : EE A te ρ c1 (· = .list ds)) (h2 : EA A tr ρ c2 (· = es)) : EA A (StX.tStar K te tr) ρ (c1 + c2) (· = ds ++ es) := fun F σ H n Q S l q => by
  refine h1 F σ H n _ S (by omega) fun v d H1 s1 j1 k1 r1 => ?_
  subst r1
  have S1 := S.step s1 j1
  cases k1 with
  | lst hp kk =>
    refine ⟨_, _, rfl, .inr (.inl (.inl (off_some hp).2)), ?_⟩
    refine h2 F σ H1 (n + c1) _ S1 (by omega) fun vs fs H2 s2 j2 k2 r2 => ?_
    subst r2
    exact q _ _ H2 (s1.trans s2) (by rw [← Nat.add_assoc]; exact j2) ((kk.mono (S1.offF s2)).append k2) rfl
/-- a new list of what may be lists still being made -/
theorem er_lst {ds : List PyData} (h : EAR A tl ρ c (· = ds)) (hl : ds.length ≤ 1000) : ER A (tLst tl) ρ c (· = .list ds) := fun F σ H n Q S l q => by
  refine h F σ H n _ S l fun vs ds1 H1 s j k r => ?_
  subst r
  have hz := sizeLine_eq
  refine ⟨by rw [k.length]; omega, fun p hp => ?_⟩
  have S1 := S.step s j
  have np : p ∉ A.F0 := fun z => S1.fresh hp (S1.sub p z)
  exact q _ _ _ (s.trans (S1.newS hp)) (S1.newJ hp) (.lst (off_of np upd_same) (k.mono (same_off (same_new hp)))) rfl
theorem ef_listOf {ds : List PyData} (h : EE A ta ρ c (· = .list ds)) : EF A (tCB (rListOf K) (tCons ta tNil)) ρ c (· = ds) := fun F σ H n Q S l q => by
  refine h F σ H n _ S l fun v d H1 s j k r => ?_
  subst r
  have S1 := S.step s j
  cases k with
  | lst hp kk =>
    refine ⟨_, _, rfl, .inl (.inl (.inl (off_some hp).2)), fun p hn => ?_⟩
    exact q p _ _ _ (s.trans (S1.newS hn)) (S1.newJ hn) (fresh_back S s hn j) upd_same (kk.mono (off_cons hn (same_off (same_new hn)))) rfl
end
section
variable {A : Amb} {ρ : List SV} {wi : TI} {g : TG} {tt : TT} {te : TE} {vs : List Nat} {c0 : Nat} {ds : List PyData} {K : PySem.W.Frag}
theorem ef_fil (p : PyData → Bool) (f : PyData → PyData) (hi : EI A wi ρ c0 (· = ds)) (hl : ds.length ≤ 16000000)
    (ht : ∀ (i : Nat) d, ds[i]? = some d → ∃ ρ1, TGw A g vs d (wip ρ vs) ρ1 ∧ ET A tt ρ1 0 (· = p d) ∧ (p d = true → EE A te ρ1 0 (· = f d))) : EF A (tLc wi g tt te vs) ρ (c0 + 0) (· = (ds.filter p).map f) :=
  ef_lc hi fun ds' e => by
    subst e
    refine ⟨hl, fun i acc => acc = ((ds'.take i).filter p).map f, 0, 0, Nat.le_refl _, rfl, fun i d acc hd hI _ => ?_, fun acc hI => ?_⟩
    · obtain ⟨ρ1, tg, t, e⟩ := ht i d hd
      refine ⟨ρ1, _, tg, t, fun h => ?_, fun h => (e h.symm).imp fun x hx => ?_⟩
      · show acc = ((ds'.take (i + 1)).filter p).map f
        rw [show acc = ((ds'.take i).filter p).map f from hI, filter_take_succ p hd, ← h]
        simp
      · show acc ++ [x] = ((ds'.take (i + 1)).filter p).map f
        rw [show acc = ((ds'.take i).filter p).map f from hI, hx, filter_take_succ p hd, ← h]
        simp
    · rw [show acc = ((ds'.take ds'.length).filter p).map f from hI, List.take_length]
def numB (p : Nat → Bool) : PyData → Bool
  | .int i => p i.toNat
  | _ => false
def numF (f : Nat → PyData) : PyData → PyData
  | .int i => f i.toNat
  | _ => .none
theorem rng_fil (p : Nat → Bool) (f : Nat → PyData) (n : Nat) : ((rngD 0 n).filter (numB p)).map (numF f) = ((List.range n).filter p).map f := by
  unfold rngD
  rw [List.filter_map, List.map_map]
  have e1 : (numB p ∘ fun i : Nat => PyData.int (0 + (i : Nat))) = p := funext fun i => by
    show p ((0 + (i : Int)).toNat) = p i
    rw [Int.zero_add, Int.toNat_natCast]
  have e2 : (numF f ∘ fun i : Nat => PyData.int (0 + (i : Nat))) = f := funext fun i => by
    show f ((0 + (i : Int)).toNat) = f i
    rw [Int.zero_add, Int.toNat_natCast]
  rw [e1, e2]
theorem rng_at {n i : Nat} {d : PyData} (h : (rngD 0 n)[i]? = some d) : i < n ∧ d = .int (i : Nat) := by
  have hi := (List.getElem?_eq_some_iff.mp h).1
  rw [rngD_len] at hi
  rw [rngD_get hi] at h
  cases h
  exact ⟨hi, by rw [Int.zero_add]⟩
/-- numbers by a test -/
theorem ef_num {n : Nat} (p : Nat → Bool) (f : Nat → PyData) (hi : EI A wi ρ c0 (· = rngD 0 n)) (hl : n ≤ 16000000)
    (ht : ∀ i, i < n → ∃ ρ1, TGw A g vs (.int (i : Nat)) (wip ρ vs) ρ1 ∧ ET A tt ρ1 0 (· = p i) ∧ (p i = true → EE A te ρ1 0 (· = f i))) : EF A (tLc wi g tt te vs) ρ (c0 + 0) (· = ((List.range n).filter p).map f) :=
  (ef_fil (numB p) (numF f) hi (by rw [rngD_len]; exact hl) fun i d hd => by
    obtain ⟨h1, rfl⟩ := rng_at hd
    exact ht i h1).imp fun ds e => by rw [e, rng_fil]
theorem ee_num {n : Nat} (p : Nat → Bool) (f : Nat → PyData) (hi : EI A wi ρ c0 (· = rngD 0 n)) (hl : n ≤ 16000000)
    (ht : ∀ i, i < n → ∃ ρ1, TGw A g vs (.int (i : Nat)) (wip ρ vs) ρ1 ∧ ET A tt ρ1 0 (· = p i) ∧ (p i = true → EE A te ρ1 0 (· = f i))) : EE A (tLc wi g tt te vs) ρ (c0 + 0) (· = .list (((List.range n).filter p).map f)) :=
  (ef_num p f hi hl ht).ee.imp fun d ⟨ds, e1, e2⟩ => by rw [e2, e1]
/-- any(..) over numbers -/
theorem ee_anyN {n : Nat} (p f : Nat → Bool) (hi : EI A wi ρ c0 (· = rngD 0 n)) (hl : n ≤ 16000000)
    (ht : ∀ i, i < n → ∃ ρ1, TGw A g vs (.int (i : Nat)) (wip ρ vs) ρ1 ∧ ET A tt ρ1 0 (· = p i) ∧ (p i = true → EE A te ρ1 0 (· = .bool (f i)))) : EE A (tCB (rAny K) (tCons (tLc wi g tt te vs) tNil)) ρ (c0 + 0 + 0) (· = .bool ((List.range n).any fun i => p i && f i)) := by
  have e : ((List.range n).filter p).map (fun i => PyData.bool (f i)) = (((List.range n).filter p).map f).map PyData.bool := by rw [List.map_map]; rfl
  refine (ee_cb (ear_cons (ee_num p (fun i => .bool (f i)) hi hl ht).r ear_nil) (by rw [e]; exact cld_any)).imp fun d h => ?_
  rw [h, List.any_map, List.any_filter]
  rfl
end
theorem eqv_ints : ∀ is : List Int, PyData.eqvAll (is.map PyData.int) (is.map PyData.int) = true
  | [] => by simp [PyData.eqvAll]
  | i :: is => by
    have ih := eqv_ints is
    simp only [List.map_cons, PyData.eqvAll, ih, Bool.and_true]
    rw [eqv_int]
    exact decide_eq_true rfl
theorem plain_nums : ∀ is : List Int, PyData.plainAll (is.map PyData.int) = true
  | [] => rfl
  | i :: is => by
    simp only [List.map_cons, PyData.plainAll, plain_nums is, Bool.and_true]
    rfl
theorem depth_nums : ∀ is : List Int, PyData.depthAll (is.map PyData.int) = 0
  | [] => rfl
  | i :: is => by
    simp only [List.map_cons, PyData.depthAll, depth_nums is]
    rfl
/-! ### screens that others let be left out -/
def noScr : Scr := ⟨Str.empty, 1, []⟩
def leftP (ss : List Scr) (n o : Nat) : Bool := decS (ss.getD o noScr) (ss.getD n noScr).b (ss.getD n noScr).l && (decide (o < n) || !decS (ss.getD n noScr) (ss.getD o noScr).b (ss.getD o noScr).l)
def outB (ss : List Scr) (n : Nat) : Bool := (List.range ss.length).any fun o => !decide ((o : Int) = (n : Nat)) && leftP ss n o
def redI (ss : List Scr) : List Nat := (List.range ss.length).filter fun n => !outB ss n
def redL (ss : List Scr) : List PyData := (redI ss).map fun n => .int (n : Nat)
theorem redL_ints (ss : List Scr) : redL ss = ((redI ss).map fun n : Nat => (n : Int)).map PyData.int := by unfold redL; rw [List.map_map]; rfl
theorem getD_of {ss : List Scr} {i : Nat} {s : Scr} (h : ss[i]? = some s) : ss.getD i noScr = s := by rw [List.getD_eq_getElem?_getD, h]; rfl
def implB (ss : List Scr) (i : Nat) : Bool := (ss.take i ++ ss.drop (i + 1)).any fun s => decS s (ss.getD i noScr).b (ss.getD i noScr).l
def butP (i : Nat) (q : Scr → Bool) : PyData → Bool
  | .tuple [.int j, e] => !decide (j = (i : Nat)) && q (scrOf e)
  | _ => false
theorem but_far (q : Scr → Bool) (i : Nat) : ∀ (ss : List Scr) (k : Nat), i < k → (((ss.map scrD).zipIdx k).map fun p => PyData.tuple [.int (p.2 : Nat), p.1]).any (butP i q) = ss.any q
  | [], _, _ => rfl
  | s :: ss, k, h => by
    have ih := but_far q i ss (k + 1) (by omega)
    simp only [List.map_cons, List.zipIdx_cons, List.any_cons]
    rw [ih]
    show ((!decide ((k : Int) = (i : Nat))) && q (scrOf (scrD s)) || _) = _
    rw [scrOf_scr, decide_eq_false (by omega)]
    rfl
theorem but_near (q : Scr → Bool) : ∀ (ss : List Scr) (i k : Nat), (((ss.map scrD).zipIdx k).map fun p => PyData.tuple [.int (p.2 : Nat), p.1]).any (butP (k + i) q) = (ss.take i ++ ss.drop (i + 1)).any q
  | [], i, _ => by simp
  | s :: ss, 0, k => by
    have ih := but_far q k ss (k + 1) (by omega)
    simp only [List.map_cons, List.zipIdx_cons, List.any_cons, Nat.add_zero]
    rw [ih]
    show ((!decide ((k : Int) = (k : Nat))) && q (scrOf (scrD s)) || _) = _
    rw [decide_eq_true rfl]
    simp
  | s :: ss, i + 1, k => by
    have ih := but_near q ss i (k + 1)
    rw [show k + 1 + i = k + (i + 1) by omega] at ih
    simp only [List.map_cons, List.zipIdx_cons, List.any_cons]
    rw [ih]
    show ((!decide ((k : Int) = ((k + (i + 1) : Nat) : Int))) && q (scrOf (scrD s)) || _) = _
    rw [scrOf_scr, decide_eq_false (by omega)]
    simp [List.any_append, Bool.or_assoc]
theorem but_enum (q : Scr → Bool) (ss : List Scr) (i : Nat) : (enumD (ss.map scrD)).any (butP i q) = (ss.take i ++ ss.drop (i + 1)).any q := by
  have h := but_near q ss i 0
  rw [Nat.zero_add] at h
  exact h
theorem eqv_fil (l : List PyData) (p : PyData → Bool) (f : PyData → PyData) : PyData.eqv (.list ((l.filter p).map f)) (.list []) = !l.any p := by
  rw [fil_nilG]
  induction l with
  | nil => rfl
  | cons a l ih => rw [List.all_cons, List.any_cons, ih, Bool.not_or]
theorem decF_any (ss : List Scr) (b : Str) (l : Nat) : (decF ss b l).isSome = ss.any fun s => decS s b l := by
  unfold decF
  rw [List.findIdx?_isSome]
end DL
namespace DL
open PySem PySem.Spec L2
theorem perm_scrs {ys : List PyData} {ss : List Scr} (h : ys.Perm (ss.map scrD)) : ∃ zs : List Scr, ys = zs.map scrD ∧ zs.Perm ss := by
  refine ⟨ys.map scrOf, ?_, ?_⟩
  · rw [List.map_map]
    refine Eq.symm ((List.map_congr_left fun y hy => ?_).trans (List.map_id _))
    obtain ⟨s, _, rfl⟩ := List.mem_map.mp (h.mem_iff.mp hy)
    show scrD (scrOf (scrD s)) = scrD s
    rw [scrOf_scr]
  · refine (h.map scrOf).trans (List.Perm.of_eq ?_)
    rw [List.map_map]
    refine (List.map_congr_left fun s _ => ?_).trans (List.map_id _)
    exact scrOf_scr s
end DL
namespace DL
open PySem PySem.Spec L2
theorem redL_plain (ss : List Scr) : (PyData.list (redL ss)).plain = true ∧ (PyData.list (redL ss)).depth = 1 := by
  rw [redL_ints]
  refine ⟨?_, ?_⟩
  · simp only [PyData.plain, plain_nums]
  · simp only [PyData.depth, depth_nums]
theorem redL_eqv (ss : List Scr) : PyData.eqv (.list (redL ss)) (.list (redL ss)) = true := by
  rw [redL_ints]
  simp only [PyData.eqv, eqv_ints]
theorem redI_lt {ss : List Scr} {n : Nat} (h : n ∈ redI ss) : n < ss.length := List.mem_range.mp (List.mem_filter.mp h).1
theorem redL_len (ss : List Scr) : (redL ss).length ≤ ss.length := by
  unfold redL redI
  rw [List.length_map]
  exact Nat.le_trans (List.length_filter_le _ _) (by rw [List.length_range]; exact Nat.le_refl _)
theorem showAll_of : ∀ {ds : List PyData}, (∀ d ∈ ds, d.showable = true) → PyData.showableAll ds = true
  | [], _ => rfl
  | d :: ds, h => by
    simp only [PyData.showableAll, h d List.mem_cons_self, showAll_of fun e he => h e (List.mem_cons_of_mem _ he), Bool.and_self]
theorem showable20 : ∀ l : Nat, l ≤ 20 → (PyData.int (l : Nat)).showable = true := by decide +kernel
theorem redL_show {ss : List Scr} (hn : ss.length ≤ 20) : (PyData.list (redL ss)).showable = true ∧ (PyData.list (redL ss)).shown.length ≤ 1000 := by
  have key : ∀ d ∈ redL ss, d.showable = true ∧ d.shown.length ≤ 10 := fun d hd => by
    obtain ⟨n, h, rfl⟩ := List.mem_map.mp hd
    have := redI_lt h
    exact ⟨showable20 n (by omega), shown_int20 n (by omega)⟩
  refine ⟨?_, ?_⟩
  · rw [PyData.showable]
    exact showAll_of fun d hd => (key d hd).1
  · have h1 := shown_le (m := 10) fun d hd => (key d hd).2
    have h2 := redL_len ss
    have h3 : (redL ss).length * (10 + 2) ≤ 20 * (10 + 2) := Nat.mul_le_mul_right _ (by omega)
    omega
theorem cld_reprTwo {ss : List Scr} (hn : ss.length ≤ 20) : Cld rReprPB [.list [.list (redL ss), .list (redL ss)]] (· = .str (PyData.list [.list (redL ss), .list (redL ss)]).shown) := by
  obtain ⟨k1, k2⟩ := redL_show hn
  obtain ⟨k3, k4⟩ := redL_plain ss
  refine cld_reprPl (cld_repr ?_ ?_ ?_ ?_)
  · rw [PyData.plain]
    simp only [PyData.plainAll, k3, Bool.and_self]
  · rw [PyData.showable]
    simp only [PyData.showableAll, k1, Bool.and_self]
  · rw [PyData.depth]
    simp only [PyData.depthAll, k4]
    decide
  · have h1 := shown_le (m := 1000) (ds := [.list (redL ss), .list (redL ss)]) fun d hd => by
      simp only [List.mem_cons, List.not_mem_nil, or_false, or_self] at hd
      rw [hd]
      exact k2
    have hz := sizeLine_eq
    have : ([PyData.list (redL ss), .list (redL ss)] : List PyData).length = 2 := rfl
    rw [this] at h1
    omega
end DL

set_option linter.all false
set_option maxRecDepth 100000
set_option maxHeartbeats 4000000
/-! DLO: rows of words, a new word put in -/
namespace DL
open PySem PySem.Spec L2
/-! ### all rows of different words out of some -/
def nextR (ts : List Str) (last : List (List Str)) : List (List Str) := last.flatMap fun row => (ts.filter fun t => !decide (t ∈ row)).map fun t => row ++ [t]
def lastR (ts : List Str) : Nat → List (List Str)
  | 0 => [[]]
  | n + 1 => nextR ts (lastR ts n)
def foundR (ts : List Str) : Nat → List (List Str)
  | 0 => [[]]
  | n + 1 => foundR ts n ++ lastR ts (n + 1)
theorem last_mem {ts : List Str} : ∀ {n : Nat} {R : List Str}, R.length = n → R.Nodup → (∀ x ∈ R, x ∈ ts) → R ∈ lastR ts n
  | 0, R, h, _, _ => by
    rw [List.length_eq_zero_iff.mp h]
    exact List.mem_singleton.mpr rfl
  | n + 1, R, h, nd, sub => by
    have ne : R ≠ [] := fun z => by rw [z] at h; cases h
    have e := List.dropLast_concat_getLast ne
    have nd2 : (R.dropLast ++ [R.getLast ne]).Nodup := by rw [e]; exact nd
    rw [List.nodup_append] at nd2
    have m0 : R.dropLast ∈ lastR ts n := last_mem (by rw [List.length_dropLast, h]; rfl) nd2.1 fun x hx => sub x ((List.dropLast_sublist R).subset hx)
    have nx : R.getLast ne ∉ R.dropLast := fun z => nd2.2.2 _ z _ (List.mem_singleton.mpr rfl) rfl
    show R ∈ nextR ts (lastR ts n)
    unfold nextR
    refine List.mem_flatMap.mpr ⟨_, m0, List.mem_map.mpr ⟨R.getLast ne, List.mem_filter.mpr ⟨sub _ (List.getLast_mem ne), ?_⟩, e⟩⟩
    rw [decide_eq_false nx]
    rfl
theorem found_mem {ts : List Str} {R : List Str} : ∀ {n m : Nat}, R ∈ lastR ts m → m ≤ n → R ∈ foundR ts n
  | 0, m, h, l => by
    rw [Nat.le_zero.mp l] at h
    exact h
  | n + 1, m, h, l => by
    by_cases e : m = n + 1
    · rw [e] at h
      exact List.mem_append.mpr (.inr h)
    · exact List.mem_append.mpr (.inl (found_mem h (by omega)))
theorem flatMap_le {α β : Type} {f : α → List β} {k : Nat} : ∀ {l : List α}, (∀ a ∈ l, (f a).length ≤ k) → (l.flatMap f).length ≤ l.length * k
  | [], _ => by simp
  | a :: l, h => by
    have ih := flatMap_le (l := l) fun b hb => h b (List.mem_cons_of_mem _ hb)
    have h1 := h a List.mem_cons_self
    rw [List.flatMap_cons, List.length_append, List.length_cons, Nat.add_mul]
    omega
theorem last_le {ts : List Str} (h : ts.length ≤ 5) : ∀ n, (lastR ts n).length ≤ 5 ^ n
  | 0 => Nat.le_refl _
  | n + 1 => by
    have ih := last_le h n
    have h1 : (nextR ts (lastR ts n)).length ≤ (lastR ts n).length * 5 := flatMap_le fun row _ => by
      rw [List.length_map]
      exact Nat.le_trans (List.length_filter_le _ _) h
    show (nextR ts (lastR ts n)).length ≤ _
    rw [Nat.pow_succ]
    exact Nat.le_trans h1 (Nat.mul_le_mul_right _ ih)
theorem found_le {ts : List Str} (h : ts.length ≤ 5) : ∀ n, (foundR ts n).length ≤ 5 ^ (n + 1)
  | 0 => by show 1 ≤ _; decide
  | n + 1 => by
    have ih := found_le h n
    have h1 := last_le h (n + 1)
    have h2 : 5 ^ (n + 1 + 1) = 5 ^ (n + 1) * 5 := Nat.pow_succ ..
    show (foundR ts n ++ lastR ts (n + 1)).length ≤ _
    rw [List.length_append, h2]
    omega
theorem found_short {ts : List Str} : ∀ {n : Nat} {R : List Str}, R ∈ foundR ts n → R.length ≤ n := by
  have key : ∀ {n : Nat} {R : List Str}, R ∈ lastR ts n → R.length = n := by
    intro n
    induction n with
    | zero =>
      intro R h
      rw [List.mem_singleton.mp h]
      rfl
    | succ n ih =>
      intro R h
      obtain ⟨r, hr, h2⟩ := List.mem_flatMap.mp (show R ∈ nextR ts (lastR ts n) from h)
      obtain ⟨t, _, rfl⟩ := List.mem_map.mp h2
      rw [List.length_append, ih hr]
      rfl
  intro n
  induction n with
  | zero =>
    intro R h
    rw [List.mem_singleton.mp h]
    exact Nat.le_refl _
  | succ n ih =>
    intro R h
    rcases List.mem_append.mp (show R ∈ foundR ts n ++ lastR ts (n + 1) from h) with h | h
    · exact Nat.le_succ_of_le (ih h)
    · exact Nat.le_of_eq (key h)
/-! ### a new word put in as early as it can stand -/
def insR (R : List Str) (k : Nat) (x : Str) : List Str := R.take k ++ x :: R.drop k
theorem ins_perm' (R : List Str) (k : Nat) (x : Str) : (insR R k x).Perm (x :: R) := by
  unfold insR
  exact List.perm_middle.trans (List.Perm.of_eq (by rw [List.take_append_drop]))
theorem shows_iff {xs : List Str} {s : Scr} : shows xs s = true ↔ (xs.filter (preS s.b)).take s.l = s.ys := decide_eq_true_iff
theorem filter_sub {α : Type} {p q : α → Bool} (h : ∀ x, p x = true → q x = true) : ∀ l : List α, (l.filter q).filter p = l.filter p
  | [] => rfl
  | a :: l => by
    have ih := filter_sub h l
    rw [List.filter_cons, List.filter_cons]
    cases hp : p a with
    | true =>
      rw [h a hp]
      simp [hp, ih]
    | false =>
      cases hq : q a with
      | true => simp [hp, ih]
      | false => simp [ih]
theorem ins_fits {R : List Str} {S : List Scr} {b fresh : Str} {l : Nat} (hS : ∀ s ∈ S, shows R s = true) (nd : ∀ s ∈ S, decS s b l = false) (hb : preS b fresh = true) (hl : 1 ≤ l) (hf : ∀ s ∈ S, preS s.b fresh = true → preS s.b b = true) :
    ∃ k, (∀ s ∈ S, shows (insR R k fresh) s = true) ∧ fresh ∈ ((insR R k fresh).filter (preS b)).take l := by
  have full : ∀ s ∈ S, preS s.b fresh = true → s.ys.length = s.l ∧ (s.ys.filter (preS b)).length < l := fun s hs hp => by
    have h1 := nd s hs
    unfold decS at h1
    rw [hf s hs hp, Bool.true_and, Bool.or_eq_false_iff] at h1
    have h2 := of_decide_eq_false h1.1
    have h3 := of_decide_eq_false h1.2
    have h4 := shows_iff.mp (hS s hs)
    have h5 : s.ys.length ≤ s.l := by rw [← h4]; exact List.length_take_le _ _
    exact ⟨by omega, by omega⟩
  let P : Nat → Prop := fun k => ∀ s ∈ S, preS s.b fresh = true → s.l ≤ ((R.take k).filter (preS s.b)).length
  have ex : P R.length := fun s hs hp => by
    rw [List.take_length]
    have h4 := shows_iff.mp (hS s hs)
    have h5 := (full s hs hp).1
    rw [← h4, List.length_take] at h5
    omega
  have low : ∀ n, P n → ∃ k, P k ∧ ∀ j < k, ¬ P j := by
    intro n
    induction n using Nat.strongRecOn with
    | ind n ih =>
      intro h
      by_cases q : ∃ j, j < n ∧ P j
      · obtain ⟨j, hj, pj⟩ := q
        exact ih j hj pj
      · exact ⟨n, h, fun j hj pj => q ⟨j, hj, pj⟩⟩
  obtain ⟨k, pk, mk⟩ := low _ ex
  refine ⟨k, fun s hs => ?_, ?_⟩
  · have h4 := shows_iff.mp (hS s hs)
    refine shows_iff.mpr ?_
    unfold insR
    rw [List.filter_append, List.filter_cons]
    cases hp : preS s.b fresh with
    | false =>
      simp only [Bool.false_eq_true, if_false]
      rw [← List.filter_append, List.take_append_drop]
      exact h4
    | true =>
      have h6 := pk s hs hp
      rw [if_pos rfl, List.take_append_of_le_length h6, ← h4]
      have e : R.filter (preS s.b) = (R.take k).filter (preS s.b) ++ (R.drop k).filter (preS s.b) := by rw [← List.filter_append, List.take_append_drop]
      rw [e, List.take_append_of_le_length h6]
  · have cnt : ((R.take k).filter (preS b)).length < l := by
      cases k with
      | zero =>
        rw [List.take_zero]
        exact hl
      | succ j =>
        have hj := mk j (Nat.lt_succ_self j)
        obtain ⟨s, hs, hp, hlt⟩ : ∃ s, s ∈ S ∧ preS s.b fresh = true ∧ ((R.take j).filter (preS s.b)).length < s.l := by
          by_cases q : ∃ s, s ∈ S ∧ preS s.b fresh = true ∧ ((R.take j).filter (preS s.b)).length < s.l
          · exact q
          · refine absurd (fun s hs hp => ?_) hj
            by_cases q2 : ((R.take j).filter (preS s.b)).length < s.l
            · exact absurd ⟨s, hs, hp, q2⟩ q
            · omega
        have h6 := pk s hs hp
        have h4 := shows_iff.mp (hS s hs)
        have one : ((R.take (j + 1)).filter (preS s.b)).length ≤ ((R.take j).filter (preS s.b)).length + 1 := by
          rw [List.take_add_one, List.filter_append, List.length_append]
          have : ((R[j]?.toList).filter (preS s.b)).length ≤ 1 := Nat.le_trans (List.length_filter_le _ _) (by cases R[j]? <;> simp)
          omega
        have ey : (R.take (j + 1)).filter (preS s.b) = s.ys := by
          have e : R.filter (preS s.b) = (R.take (j + 1)).filter (preS s.b) ++ (R.drop (j + 1)).filter (preS s.b) := by rw [← List.filter_append, List.take_append_drop]
          rw [← h4, e, List.take_append_of_le_length h6]
          exact (List.take_of_length_le (by omega)).symm
        have tr : ∀ x, preS b x = true → preS s.b x = true := fun x hx => preS_trans (hf s hs hp) hx
        rw [← filter_sub tr, ey]
        exact (full s hs hp).2
    unfold insR
    rw [List.filter_append, List.filter_cons, if_pos hb]
    rw [List.take_append]
    refine List.mem_append.mpr (.inr ?_)
    have : l - ((R.take k).filter (preS b)).length = (l - ((R.take k).filter (preS b)).length - 1) + 1 := by omega
    rw [this, List.take_succ_cons]
    exact List.mem_cons_self
/-- letters of some menu alone -/
def OfL (L x : Str) : Prop := ∀ c ∈ x.cps.toList, c ∈ L.cps.toList
theorem pre_new {L p b t : Str} (hp : OfL L p) (ht : ∀ c ∈ t.cps.toList, c ∉ L.cps.toList) (h : preS p (b ++ t) = true) : preS p b = true := by
  unfold preS at *
  have h := of_decide_eq_true h
  refine decide_eq_true ?_
  have e : (b ++ t).cps.toList = b.cps.toList ++ t.cps.toList := Array.toList_append
  rw [e] at h
  have pl : p.length = p.cps.toList.length := by show p.cps.size = _; rw [Array.length_toList]
  have le : p.length ≤ b.cps.toList.length := by
    by_cases q : p.length ≤ b.cps.toList.length
    · exact q
    · exfalso
      have hlen := congrArg List.length h
      rw [List.length_take, List.length_append, ← pl] at hlen
      have hz : 0 < t.cps.toList.length := by omega
      have h3 : (b.cps.toList ++ t.cps.toList).take p.length = b.cps.toList ++ t.cps.toList.take (p.length - b.cps.toList.length) := by
        rw [List.take_append, List.take_of_length_le (by omega)]
      rw [h3] at h
      obtain ⟨c, cs, et⟩ : ∃ c cs, t.cps.toList = c :: cs := by
        cases ht2 : t.cps.toList with
        | nil => rw [ht2] at hz; cases hz
        | cons c cs => exact ⟨c, cs, rfl⟩
      rw [et] at h ht
      have mem : c ∈ p.cps.toList := by
        rw [← h]
        refine List.mem_append.mpr (.inr ?_)
        have : p.length - b.cps.toList.length = (p.length - b.cps.toList.length - 1) + 1 := by omega
        rw [this, List.take_succ_cons]
        exact List.mem_cons_self
      exact ht c List.mem_cons_self (hp c mem)
  rw [List.take_append_of_le_length le] at h
  exact h
theorem OfL.append {L x y : Str} (hx : OfL L x) (hy : OfL L y) : OfL L (x ++ y) := fun c hc => by
  have e : (x ++ y).cps.toList = x.cps.toList ++ y.cps.toList := Array.toList_append
  rw [e] at hc
  exact (List.mem_append.mp hc).elim (hx c) (hy c)
theorem OfL.take {L x : Str} (hx : OfL L x) (k : Nat) : OfL L ⟨(x.cps.toList.take k).toArray⟩ := fun c hc => hx c (List.mem_of_mem_take (by simpa using hc))
theorem OfL.sgn {L x : Str} (h : Sgn L x) : OfL L x := fun c hc => by
  obtain ⟨z, rfl, hz⟩ := h
  have : c = z := by simpa using hc
  rw [this]
  exact hz
end DL
namespace DL
open PySem PySem.Spec L2
section
variable {A : Amb} {ρ : List SV} {ta tb : TE} {c1 c2 : Nat} {K : PySem.W.Frag}
theorem ee_cutSO {L x : Str} {n : Nat} {hi : Int} (h1 : EE A ta ρ c1 (· = .str x)) (h2 : ER A tb ρ c2 (IntIn 0 hi)) (hb : begS x = true) (hl : x.length ≤ n) (hn : n ≤ 100000) (ho : OfL L x) : EE A (tSl (rSlB K) ta tNoPart (tPart tb)) ρ (c1 + 0 + c2) (fun d => ∃ y, d = .str y ∧ (begS y = true ∧ y.length ≤ n) ∧ OfL L y) :=
  ee_slR h1 eo_none (eo_someR h2 fun d ⟨r, e, _⟩ => ⟨r, e⟩) fun d lo hi' e1 e2 ⟨i, e3, ⟨r, e4, r0, _⟩⟩ => .inr ⟨x, e1, by have := sizeLine_eq; omega, by
    injection e4 with e4
    subst e2 e3 e4
    have e : i = ((i.toNat : Nat) : Int) := by omega
    rw [e, cutS_take]
    exact ⟨_, rfl, ⟨begS_take hb _, by rw [len_take]; omega⟩, ho.take _⟩⟩
end
/-- what shows all of some screens -/
def fitsAll (ss : List Scr) (R : List Str) : Bool := ss.all (shows R)
theorem eqv_map_nil {α : Type} (f : α → PyData) (l : List α) : PyData.eqv (.list (l.map f)) (.list []) = l.isEmpty := by
  cases l <;> rfl
end DL
namespace DL
open PySem PySem.Spec L2
theorem map_get {α : Type} {f : α → PyData} {l : List α} {i : Nat} {d : PyData} (h : (l.map f)[i]? = some d) : ∃ x, l[i]? = some x ∧ d = f x := by
  rw [List.getElem?_map] at h
  cases e : l[i]? with
  | none => rw [e] at h; cases h
  | some x => rw [e] at h; cases h; exact ⟨x, rfl, rfl⟩
theorem sameOkP (xs : List Str) : (strsD xs).plain = true ∧ (strsD xs).depth = 1 := by
  unfold strsD
  refine ⟨?_, ?_⟩
  · simp only [PyData.plain, plain_strs]
  · simp only [PyData.depth, depth_strs]
def notP (row : List Str) : PyData → Bool
  | .str t => !decide (t ∈ row)
  | _ => false
def addF (row : List Str) : PyData → PyData
  | .str t => strsD (row ++ [t])
  | _ => .none
theorem fil_rows (row : List Str) : ∀ ts : List Str, ((ts.map PyData.str).filter (notP row)).map (addF row) = ((ts.filter fun t => !decide (t ∈ row)).map fun t => row ++ [t]).map strsD
  | [] => rfl
  | t :: ts => by
    have ih := fil_rows row ts
    have e : notP row (.str t) = !decide (t ∈ row) := rfl
    rw [List.map_cons, List.filter_cons, List.filter_cons, e]
    by_cases h : t ∈ row
    · simp only [decide_eq_true h, Bool.not_true, Bool.false_eq_true, if_false]
      exact ih
    · simp only [decide_eq_false h, Bool.not_false, if_true, List.map_cons, ih]
      rfl
end DL
namespace DL
open PySem PySem.Spec L2
section
variable {A : Amb} {ρ : List SV} {c : Nat} {P : Po}
theorem ss_par {i j : Nat} {ta : TA} {RA : List PyData → Prop} (h : EA A ta ρ c RA) (k : ∀ ds, RA ds → ∃ d e, ds = [d, e] ∧ P.nx ((ρ.set i (.im d)).set j (.im e))) : SS A (tPar i j ta) ρ c P := fun D F σ H n S l k1 _ _ _ => by
  refine h F σ H n _ S l fun vs ds H1 s jj kd r => ?_
  obtain ⟨d, e, rfl, hs⟩ := k ds r
  cases kd with
  | cons kv kt =>
    cases kt with
    | cons kw ku =>
      cases ku
      exact ⟨_, _, rfl, k1 _ F _ H1 hs (fun _ hg => hg) (((S.step s jj).set i kv).set j kw)⟩
end
def rowOf (d : PyData) : List Str := (itemsOf d).map strOf
theorem rowOf_strs (R : List Str) : rowOf (strsD R) = R := by
  show (R.map PyData.str).map strOf = R
  rw [List.map_map]
  exact (List.map_congr_left fun x _ => rfl).trans (List.map_id R)
theorem fil_strsD (p : List Str → Bool) (rows : List (List Str)) : ((rows.map strsD).filter fun d => p (rowOf d)).map (fun d => d) = (rows.filter p).map strsD := by
  rw [List.map_id', List.filter_map]
  congr 1
  refine List.filter_congr fun R _ => ?_
  show p (rowOf (strsD R)) = p R
  rw [rowOf_strs]
theorem new_word {b : Str} {xs : List Str} (hx : ∀ y ∈ xs, OfL "ab" y) : b ++ "zzzz" ∉ xs := fun z => by
  have h := hx _ z 122 (by
    have e : (b ++ "zzzz").cps.toList = b.cps.toList ++ ("zzzz" : Str).cps.toList := Array.toList_append
    rw [e]
    exact List.mem_append.mpr (.inr (by decide)))
  revert h
  decide
theorem impl_rows {xs : List Str} {ss : List Scr} {i : Nat} {x : Scr} (nd : xs.Nodup) (hx : ∀ y ∈ xs, OfL "ab" y) (hs : ∀ s ∈ ss, (ScrOk s ∧ shows xs s = true) ∧ OfL "ab" s.b) (gi : ss[i]? = some x) :
    (((foundR (xs ++ [x.b ++ "zzzz"]) (xs ++ [x.b ++ "zzzz"]).length).filter (fitsAll (ss.take i ++ ss.drop (i + 1)))).filter fun R => !fitsAll [x] R).isEmpty = implB ss i := by
  have sub : ∀ s ∈ ss.take i ++ ss.drop (i + 1), s ∈ ss := fun s h => (List.mem_append.mp h).elim List.mem_of_mem_take List.mem_of_mem_drop
  have hxs := hs x (List.mem_of_getElem? gi)
  have fx := new_word (b := x.b) hx
  have gD : ss.getD i noScr = x := getD_of gi
  cases hi : implB ss i with
  | true =>
    unfold implB at hi
    rw [gD] at hi
    obtain ⟨s, hm, hd⟩ := List.any_eq_true.mp hi
    rw [List.isEmpty_iff, List.filter_eq_nil_iff]
    intro R hR
    have fits := (List.mem_filter.mp hR).2
    have sR : shows R s = true := List.all_eq_true.mp fits s hm
    have e1 := dec_answer sR hd
    have e2 := dec_answer (hs s (sub s hm)).1.2 hd
    have e3 := shows_iff.mp hxs.1.2
    have : shows R x = true := shows_iff.mpr (by rw [← e1, e2, e3])
    unfold fitsAll
    simp [this]
  | false =>
    unfold implB at hi
    rw [gD] at hi
    have hno : ∀ s ∈ ss.take i ++ ss.drop (i + 1), decS s x.b x.l = false := fun s hm => by
      have := List.any_eq_false.mp hi s hm
      simpa using this
    obtain ⟨k, h1, h2⟩ := ins_fits (R := xs) (S := ss.take i ++ ss.drop (i + 1)) (b := x.b) (fresh := x.b ++ "zzzz") (l := x.l) (fun s hm => (hs s (sub s hm)).1.2) hno (preS_append _ _) hxs.1.1.l1 fun s hm hp => pre_new (hs s (sub s hm)).2 (by decide) hp
    have pm := ins_perm' xs k (x.b ++ "zzzz")
    have pm2 : (insR xs k (x.b ++ "zzzz")).Perm (xs ++ [x.b ++ "zzzz"]) := pm.trans (List.perm_append_comm (l₁ := [x.b ++ "zzzz"]) (l₂ := xs))
    have mem : insR xs k (x.b ++ "zzzz") ∈ foundR (xs ++ [x.b ++ "zzzz"]) (xs ++ [x.b ++ "zzzz"]).length := found_mem (last_mem pm2.length_eq (pm.nodup_iff.mpr (List.nodup_cons.mpr ⟨fx, nd⟩)) fun y hy => pm2.mem_iff.mp hy) (Nat.le_refl _)
    refine Bool.eq_false_iff.mpr fun z => ?_
    rw [List.isEmpty_iff, List.filter_eq_nil_iff] at z
    refine z _ (List.mem_filter.mpr ⟨mem, List.all_eq_true.mpr h1⟩) ?_
    have hn : shows (insR xs k (x.b ++ "zzzz")) x = false := Bool.eq_false_iff.mpr fun sh => by
      rw [shows_iff.mp sh, ← shows_iff.mp hxs.1.2] at h2
      exact fx (List.mem_filter.mp (List.mem_of_mem_take h2)).1
    unfold fitsAll
    simp [hn]
theorem bools_two (b : Bool) : (PyData.list [.bool b, .bool b]).plain = true ∧ (PyData.list [.bool b, .bool b]).showable = true ∧ (PyData.list [.bool b, .bool b]).depth ≤ 60 ∧ (PyData.list [.bool b, .bool b]).shown.length ≤ 100 := by
  cases b <;> decide +kernel
theorem cld_reprBB (b : Bool) : Cld rReprPB [.list [.bool b, .bool b]] (· = .str (PyData.list [.bool b, .bool b]).shown) := by
  obtain ⟨k1, k2, k3, k4⟩ := bools_two b
  have hz := sizeLine_eq
  exact cld_reprPl (cld_repr k1 k2 k3 (by omega))
end DL
namespace DL
open PySem PySem.Spec L2
theorem plain_rowsA : ∀ rows : List (List Str), PyData.plainAll (rows.map strsD) = true
  | [] => rfl
  | R :: rows => by
    simp only [List.map_cons, PyData.plainAll, plain_rowsA rows, (sameOkP R).1, Bool.and_self]
theorem plain_rows (rows : List (List Str)) : (PyData.list (rows.map strsD)).plain = true := by
  rw [PyData.plain]
  exact plain_rowsA rows
end DL

set_option linter.all false
set_option maxRecDepth 100000
set_option maxHeartbeats 4000000
/-! DLZ: set(a list of texts), sorted of it; in and not in of nested lists; a def that gives None or a new list -/
namespace DL
open PySem PySem.Spec PyProof.Rows L2
section
variable {P : Program} {w : World} {A : Around} {R : Result → Shared → Prop} {I : Addr} {fp wr : List Addr} {G : Array GenState → Array GenState → Prop} {n : Nat} {St : Nat → Shared → Prop}
/-- the update of a set by a list of texts -/
theorem setT_fill {Pv : Nat → Value → Prop} (W : WalksS P w A.in1 I fp wr G n Pv St) (S : Addr) (out : S ∉ fp) (val : Nat → Str) (hv : ∀ i v, Pv i v → ∃ tk, v = Value.str (val i) tk) (hb : n + 1 < scanBound) :
    ∀ (k i : Nat) (s : Shared), n - i = k → i ≤ n → St i s → SetT w s.heap S (met val i) (cnt val i) →
      (∀ s', Moved (S :: wr) G s s' → SetT w s'.heap S (met val n) (cnt val n) → R (.ok (.ret .none)) s') → codeAny (model P w) A (.builtin "set.update.loop" ⟨[.ref S, .ref I], []⟩) R s := by
  have nw : S ∉ wr := fun z => out (W.sub _ z)
  have up : ∀ b ∈ wr, b ∈ S :: wr := fun b z => List.mem_cons_of_mem _ z
  have keep : ∀ {s s' : Shared} {T : Str → Bool} {m : Nat}, Moved wr G s s' → SetT w s.heap S T m → SetT w s'.heap S T m := fun {s s' T m} mv hS => hS.at fun o e => mv.heap S o nw e
  intro k
  induction k with
  | zero =>
    intro i s hk hi st hS fin
    obtain rfl : i = n := by omega
    refine codeAny_builtin PyProof.Rows.F.entry_set_update_loop ?_
    rw [Around.under_plainId PyProof.Rows.F.plain_set_update_loop _]
    refine wpAny_bind (W.done s _ _ st fun s' mv => ?_)
    exact wpAny_pure (fin s' (mv.mono up) (keep mv hS))
  | succ k ih =>
    intro i s hk hi st hS fin
    have lt : i < n := by omega
    refine codeAny_builtin PyProof.Rows.F.entry_set_update_loop ?_
    rw [Around.under_plainId PyProof.Rows.F.plain_set_update_loop _]
    refine wpAny_bind (W.item i s _ _ lt st fun v s' hP st' mv => ?_)
    obtain ⟨tk, rfl⟩ := hv i v hP
    have hS' := keep mv hS
    refine wpAny_bind (wpAny_holding ?_)
    unfold setAdd
    refine wpAny_holding ?_
    refine wpAny_bind ((strKind P w).pyHash (strKind_is P w (val i) tk) ?_)
    have room : cnt val i + 1 < scanBound := by
      have := cnt_le val i
      omega
    refine setT_hashed (s := { s' with toks := s'.toks + 1 }) hS' room fun h' sb hS2 => ?_
    have hS3 : SetT w h' S (met val (i + 1)) (cnt val (i + 1)) := by
      have e1 : met val (i + 1) = fun j => met val i j || decide (j = val i) := funext fun j => met_succ val i j
      have e2 : cnt val (i + 1) = if met val i (val i) = true then cnt val i else cnt val i + 1 := rfl
      rw [e1, e2]
      exact hS2
    have st2 := W.frame _ s' h' _ st' (Nat.le_succ _) fun b hb o e => by
      rw [sb.2 b fun z => out (by rw [← z]; exact hb)]
      exact e
    refine wpAny_pure ⟨plainId_quiet PyProof.Rows.F.plain_set_update_loop _, ih (i + 1) _ (by omega) lt st2 hS3 fun s'' mv2 hS4 => ?_⟩
    refine fin s'' (Moved.trans W.gtrans ((mv.mono up).then_heap (Nat.le_succ _) fun b o hb e => ?_) mv2) hS4
    rw [sb.2 b fun z => hb (by rw [z]; exact List.mem_cons_self)]
    exact e
end
section
variable {P : Program} {w : World} {A : Around} {E : Value → Shared → Prop} {s : Shared}
/-- a new set, its order by the world's setting -/
theorem set_made (v : Value) {Z : Value → Shared → Prop} (z : Z (.ref s.heap.objs.size) { s with heap := s.heap.push (setObj0 w) }) : codeAny (model P w) A (.call (.builtin "set.__new__") ⟨[.type "set", v], []⟩) (wants Z E) s := by
  refine codeAny_of_tree (show wpAny _ A.in1 (checkBuiltinCall "set.__new__" ⟨[.type "set", v], []⟩ >>= fun _ => again (.builtin "set.__new__" ⟨[.type "set", v], []⟩)) _ _ s from ?_)
  refine wpAny_bind (wpAny_of_eq (PySem.F.newCall_set_1 v) (wpAny_pure (And.intro (plainId_quiet PySem.F.plain_set_new _) (codeAny_builtin PySem.F.entry_set_new ?_))))
  rw [Around.under_plainId PySem.F.plain_set_new _]; unfold Builtin.«set.__new__» Builtin.Frozenset.newClass
  have sb := sub_set_self
  obtain ⟨h0, g0, d0, t0, o0⟩ := s; dsimp only; wp_walk
  refine wpAny_askSetting (wpAny_pure ?_); dsimp only; simp only [newObj]
  exact wpAny_bind (wpAny_alloc (wpAny_pure (wpAny_pure z)))
end
end DL
namespace DL
open PySem PySem.Spec PyProof.Rows L2
section
variable {P : Program} {w : World} {A : Around} {E : Value → Shared → Prop} {s : Shared}
/-- set(xs), xs a list of texts -/
theorem setT_of_list {l : Addr} {items : Array Value} {val : Nat → Str} {Q : Value → Shared → Prop} (hh : A.handled = none) (hl : s.heap.IsList l items) (hv : ∀ i v, items[i]? = some v → ∃ tk, v = Value.str (val i) tk) (hb : items.size + 1 < scanBound)
    (h : ∀ (h' : Heap) (tk : Nat), SetT w h' s.heap.objs.size (met val items.size) (cnt val items.size) → (∀ b o, b < s.heap.objs.size → s.heap.get? b = some o → h'.get? b = some o) → Q (.ref s.heap.objs.size) { s with heap := h', toks := tk }) :
    wpAny (model P w) A (call (.type "set") [.ref l]) Q E s := by
  obtain ⟨c, tl, hmro⟩ := PySem.F.called_set.mro
  have f1 := PySem.F.called_set.made
  have f2 := PySem.F.called_set.sub
  have f3 := PySem.F.called_set.notType
  have f4 := PySem.F.called_set.canCreate
  have f5 := PySem.F.typeCall_set_1 (.ref l)
  refine wpAny_call (codeAny_of_tree (wpAny_pure ⟨Code.quiet_builtin _ (by decide +kernel), codeAny_builtin PySem.F.entry_type_call ?_⟩))
  rw [Around.under_plain (weight_type_call_type "set" [.ref l] []) rfl]
  repeat (any_goals (first | assumption | wp_step))
  refine codeAny_mono (set_made (.ref l) (E := E) (Z := fun obj s₁ => obj = .ref s.heap.objs.size ∧ s₁ = { s with heap := s.heap.push (setObj0 w) }) ⟨rfl, rfl⟩) fun r s₁ hr => ?_
  cases r with
  | error e => exact hr
  | ok fl =>
    cases fl with
    | next => exact hr.elim
    | brk => exact hr.elim
    | cont => exact hr.elim
    | ret obj =>
      obtain ⟨rfl, rfl⟩ := hr
      have hS : (s.heap.push (setObj0 w)).get? s.heap.objs.size = some (setObj0 w) := Heap.get?_push_size _ rfl
      have hT : Shared.TypeIs { s with heap := s.heap.push (setObj0 w) } (.ref s.heap.objs.size) "set" := ⟨_, hS, rfl⟩
      have g1 := PySem.F.called_set.init.lookup
      have g2 := PySem.F.called_set.init.bind (.ref s.heap.objs.size)
      repeat (any_goals (first | assumption | wp_step))
      refine codeAny_mono (codeAny_call_builtin (R := wants (fun r s₂ => r = .none ∧ ∃ h' tk, s₂ = { s with heap := h', toks := tk } ∧ SetT w h' s.heap.objs.size (met val items.size) (cnt val items.size) ∧
        (∀ b o, b < s.heap.objs.size → s.heap.get? b = some o → h'.get? b = some o)) E) PySem.F.called_set.init.plain PySem.F.entry_set_init (check_set_init_1 hT ?_)) fun r₂ s₂ hr₂ => ?_
      · obtain ⟨ol, hol, hcl, nl, hdl⟩ := hl
        obtain ⟨ocls, odict, odata, oslots⟩ := ol
        simp only at hcl hdl
        subst hcl hdl
        have hol' : (s.heap.push (setObj0 w)).get? l = some { cls := .type "list", dict := odict, data := .seq items nl, slots := oslots } := Heap.get?_push_of_some _ hol
        have k1 := PySem.F.sub_list_set
        have k2 := PySem.F.sub_list_frozenset
        have k3 : (Value.type "list" == Value.type "dict") = false := by decide
        have hl1 : (s.heap.push (setObj0 w)).IsList l items := ⟨_, hol', rfl, nl, rfl⟩
        unfold Builtin.«set.__init__» noKeywords Builtin.Frozenset.updateFrom
        generalize hPI : pyIter = PI
        wp_walk
        subst hPI
        refine wpAny_pyIter_list hl1 ?_
        refine wpAny_bind (wpAny_runValue ?_)
        have lS : l < s.heap.objs.size := Heap.lt_size hol
        have calm : A.in1.in1.in1.handled = none := by simp [hh]
        have sz : (s.heap.push (setObj0 w)).objs.size = s.heap.objs.size + 1 := Heap.size_push _ _
        have neI : l ≠ (s.heap.push (setObj0 w)).objs.size := by rw [sz]; exact Nat.ne_of_lt (Nat.lt_succ_of_lt lS)
        have out : s.heap.objs.size ∉ [(s.heap.push (setObj0 w)).objs.size, l] := by
          rw [sz]
          intro z
          simp only [List.mem_cons, List.not_mem_nil, or_false] at z
          rcases z with z | z
          · exact absurd z (Nat.ne_of_lt (Nat.lt_succ_self _))
          · exact absurd z (Nat.ne_of_gt lS)
        refine setT_fill ((Walks.list calm _ l neI items).toS) s.heap.objs.size out val hv hb (items.size - 0) 0 _ (by omega) (Nat.zero_le _) ⟨⟨_, Heap.get?_push_size _ rfl, rfl, rfl⟩, hl1.push _⟩ ?_ ?_
        · have e0 : met val 0 = fun _ => false := funext fun _ => rfl
          show SetT w _ _ (met val 0) 0
          rw [e0]
          exact (setT_fresh s.heap w).at fun o e => Heap.get?_push_of_some _ e
        · intro s' mv hS'
          obtain ⟨h', g', d', tk', os'⟩ := s'
          obtain rfl : g' = s.gens := mv.gens
          obtain rfl : d' = s.drawn := mv.drawn
          obtain rfl : os' = s.os := mv.os
          refine wpAny_pure (wpAny_pure ⟨rfl, h', tk', rfl, hS', fun b o hb e => ?_⟩)
          refine mv.heap b o (fun z => ?_) (Heap.get?_push_of_some _ (Heap.get?_push_of_some _ e))
          simp only [List.mem_cons, List.not_mem_nil, or_false] at z
          rw [sz] at z
          rcases z with z | z
          · exact absurd z (Nat.ne_of_lt hb)
          · exact absurd z (Nat.ne_of_lt (Nat.lt_succ_of_lt hb))
      · cases r₂ with
        | error e => exact hr₂
        | ok fl₂ =>
          cases fl₂ with
          | next => exact hr₂.elim
          | brk => exact hr₂.elim
          | cont => exact hr₂.elim
          | ret r =>
            obtain ⟨rfl, h', tk, rfl, hS', hk'⟩ := hr₂
            repeat (any_goals (first | assumption | wp_step))
            exact h _ _ hS' hk'
end
def rSetL (K : PySem.W.Frag) (w : World) : List V → Hp → VK → Prop := fun vs H Q => ∃ (l : Addr) (xs : List Str), vs = [V.ref l] ∧ SqL K H l (xs.map V.str) ∧ xs.length < 4000 ∧ ∀ (p : Addr) (S : Str → Bool) (n : Nat), H p = none → (∀ k, S k = true ↔ k ∈ xs) → Q (.ref p) (upd H p (SetTO w p S n))
theorem met_mem {xs : List Str} {k : Str} : met (fun i => xs.getD i Str.empty) xs.length k = true ↔ k ∈ xs := by
  unfold met
  rw [List.any_eq_true]
  constructor
  · rintro ⟨j, hj, e⟩
    have hj := List.mem_range.mp hj
    have e : xs.getD j Str.empty = k := of_decide_eq_true e
    rw [List.getD_eq_getElem?_getD, List.getElem?_eq_getElem hj] at e
    rw [← e]
    exact List.getElem_mem hj
  · intro h
    obtain ⟨j, hj, e⟩ := List.getElem_of_mem h
    refine ⟨j, List.mem_range.mpr hj, decide_eq_true ?_⟩
    show xs.getD j Str.empty = k
    rw [List.getD_eq_getElem?_getD, List.getElem?_eq_getElem hj]
    exact e
section
variable {X : Cx} {K : PySem.W.Frag} {w : World}
theorem kSetL (hc : X.calm = true) (hK : X.K = K := by rfl) (hw : X.w = w := by rfl) : CallR X (.type "set") (rSetL K w) := by
  subst hK hw
  intro pins s σ H vs us Q I r h
  obtain ⟨l, xs, rfl, hq, hn, q⟩ := h
  cases r with
  | cons r1 rr =>
    cases rr
    cases r1
    obtain ⟨its, r, pl, hz⟩ := I.list hq
    have hlen : its.toArray.size = xs.length := by rw [List.size_toArray, ← r.length, List.length_map]
    refine setT_of_list (val := fun i => xs.getD i Str.empty) (I.ok.hd hc) pl.isList (fun i v hv => ?_) (by rw [hlen]; unfold scanBound; omega) fun h' tk hS hk => ?_
    · have hv' : its[i]? = some v := by simpa using hv
      have hi : i < xs.length := by
        rw [← hlen, List.size_toArray]
        exact (List.getElem?_eq_some_iff.mp hv').1
      have hx : (xs.map V.str)[i]? = some (.str xs[i]) := by rw [List.getElem?_map, List.getElem?_eq_getElem hi]; rfl
      obtain ⟨u, hu, ru⟩ := r.get hx
      rw [hv'] at hu
      cases hu
      obtain ⟨t, rfl⟩ := ru
      have e : xs.getD i Str.empty = xs[i] := by rw [List.getD_eq_getElem?_getD, List.getElem?_eq_getElem hi]; rfl
      exact ⟨t, by rw [e]⟩
    · rw [hlen] at hS
      exact ⟨.ref _, _, I.laid (t' := tk) (fun b u e => hk b u (Heap.lt_size e) e) (Nat.le_refl _) (setTO_new hS), rfl, q _ _ _ (I.hok.fresh (Nat.le_refl _)) fun k => met_mem⟩
end
section
variable {A : Amb} {ρ : List SV} {ta : TE} {c : Nat} {K : PySem.W.Frag} {w : World}
/-- sorted(set(xs)) -/
theorem ee_sortSetL {xs : List Str} (h : ER A ta ρ c (· = strsD xs)) (hl : xs.length < 4000) : EE A (tCB (rSortSet w) (tCons (tCB (rSetL K w) (tCons ta tNil)) tNil)) ρ c (· = strsD (srtS xs)) := fun F σ H n Q S l q => by
  refine h F σ H n _ S l fun v d H1 s j k r => ?_
  subst r
  have S1 := S.step s j
  cases k with
  | lst ha kk =>
    have e := kk.strs
    subst e
    refine ⟨_, xs, rfl, .inl (.inl (off_some ha).2), hl, fun p T m hp hT => ?_⟩
    refine ⟨p, T, m, rfl, upd_same, fun ks p2 hs nd hk _ hp2 => ?_⟩
    have np2 : p2 ≠ p := fun z => by rw [z, upd_same] at hp2; cases hp2
    have e1 : Same H1 (upd H1 p (SetTO w p T m)) := same_new hp
    have e2 : Same (upd H1 p (SetTO w p T m)) (upd (upd H1 p (SetTO w p T m)) p2 (.lst (ks.map V.str))) := same_new hp2
    have hp2' : H1 p2 = none := by rw [upd_ne np2] at hp2; exact hp2
    have nF : p2 ∉ F.fs := S1.fresh hp2'
    have ek : ks = srtS xs := srtS_eq hs nd fun k => (hk k).trans (hT k)
    exact q (.ref p2) (strsD ks) _ ((s.trans (same_off e1)).trans (same_off e2)) (A.W.stay _ _ _ j fun a _ o e => e2 _ _ (e1 _ _ e)) (.lst (off_of nF upd_same) (da_strs ks)) (by rw [ek])
end
end DL
namespace DL
open PySem PySem.Spec PyProof.Rows L2
/-! ### not in, of nested lists -/
theorem lay_str {x : Str} (h : begS x = true) : (PyData.str x).canLay0 = true := by
  have h : x.cps.toList.all ltrN = true := h
  simp only [PyData.canLay0]
  show x.cps.all (fun c => decide (c < 0x110000)) = true
  rw [← Array.all_toList]
  refine List.all_eq_true.mpr fun c hc => decide_eq_true ?_
  have := List.all_eq_true.mp h c hc
  unfold ltrN at this
  have := of_decide_eq_true (Bool.and_eq_true_iff.mp this).2
  omega
theorem lay_all : ∀ {ds : List PyData}, (∀ d ∈ ds, d.canLay0 = true) → PyData.canLayAll0 ds = true
  | [], _ => rfl
  | d :: ds, h => by
    simp only [PyData.canLayAll0, Bool.and_eq_true]
    exact ⟨h d List.mem_cons_self, lay_all fun e he => h e (List.mem_cons_of_mem _ he)⟩
theorem lay_strs {xs : List Str} (h : ∀ x ∈ xs, begS x = true) : (strsD xs).canLay0 = true := by
  unfold strsD
  simp only [PyData.canLay0]
  refine lay_all fun d hd => ?_
  obtain ⟨x, hx, rfl⟩ := List.mem_map.mp hd
  exact lay_str (h x hx)
theorem lay_rows {rs : List (List Str)} (h : ∀ r ∈ rs, ∀ x ∈ r, begS x = true) : (PyData.list (rs.map strsD)).canLay0 = true := by
  simp only [PyData.canLay0]
  refine lay_all fun d hd => ?_
  obtain ⟨r, hr, rfl⟩ := List.mem_map.mp hd
  exact lay_strs (h r hr)
def rNiP : L2.R2 := fun x y H Q => ∃ d ds, DD H x d ∧ DD H y (.list ds) ∧ d.plain = true ∧ (PyData.list ds).plain = true ∧ (d.canLay0 = true ∧ (PyData.list ds).canLay0 = true) ∧ d.depth ≤ 60 ∧ (PyData.list ds).depth ≤ 60 ∧ Q (.bl (!ds.any fun z => PyData.eqv z d)) H
theorem units65 {k : Nat} {A : Around} (r : Room k A) : A.units + 65 < cLine := by have := r.un; omega
theorem op_niP {X : Cx} (hu : X.A.units + 65 < cLine) : OpR X (compareOp .NotIn) rNiP := by
  intro pins s σ H x y v u Q I rx ry ⟨d, ds, hd, he, pd, pe, ⟨c1, c2⟩, d1, d2, q⟩
  exact op_notInD hu pins s σ H x y v u Q I rx ry ⟨d, ds, hd.toDp pd, he.toDp pe, by unfold PySem.SeqAt.shaped; rw [c1, decide_eq_true (by omega)]; rfl, by unfold PySem.SeqAt.shaped; rw [c2, decide_eq_true (by omega)]; rfl, q⟩
theorem od_niP {d : PyData} {ds : List PyData} (p1 : d.plain = true) (p2 : (PyData.list ds).plain = true) (c1 : d.canLay0 = true) (c2 : (PyData.list ds).canLay0 = true) (l1 : d.depth ≤ 60) (l2 : (PyData.list ds).depth ≤ 60) : Opd rNiP d (.list ds) (· = .bool (!ds.any fun z => PyData.eqv z d)) := fun H x y Q h1 h2 q =>
  ⟨d, ds, h1, h2, p1, p2, ⟨c1, c2⟩, l1, l2, q _ _ (fun _ => .bl _) rfl⟩
/-! ### a def that gives None, or a new list -/
def SPo (pre : List PyData → Prop) (postN : List PyData → Prop) (postF : List PyData → List PyData → Prop) : Sp := fun vs H Q _ => ∃ (fs : List Addr) (ds : List PyData), (∀ a ∈ fs, ∃ o, H a = some o) ∧ DA (off fs H) vs ds ∧ pre ds ∧
  (∀ H', Same H H' → postN ds → Q .non H') ∧ ∀ p xs es H', Same H H' → H p = none → H' p = some (.lst xs) → DA (off (p :: fs) H') xs es → postF ds es → Q (.ref p) H'
section
variable {pre postN : List PyData → Prop} {postF : List PyData → List PyData → Prop}
theorem SPo.len {m : Nat} (hm : ∀ ds, pre ds → ds.length = m) {vs : List V} {H : Hp} {Q : VK} {E : XK} (h : SPo pre postN postF vs H Q E) : vs.length = m := by
  obtain ⟨fs, ds, _, k, hp, _⟩ := h
  rw [k.length]
  exact hm ds hp
variable {P : Program} {w : World} {K : PySem.W.Frag} {mg : Str → Option Value} {base : Heap}
theorem oko {x qual : Str} {st : Stmt} {f : Addr} {fd : FuncData} {N ps : List Str} {k m j c : Nat} (F : Fun K x qual st f fd) (S : FnScope N ps (defScope st)) (hm : ∀ ds, pre ds → ds.length = m) (hc : c ≤ LIM)
    (hps : ps.length = m := by rfl) (hN : N.length - m = j := by rfl)
    (body : ∀ (cdv : Value) (A : Around) (outer : List Env) (s : Shared) (H : Hp) (E : XK), Room k (A.deeper (PyProof.Rows.envOfC qual (defScope st) s.heap.objs.size f cdv)) →
      ∃ t, PSs (cxOf CX0 P w K mg base N qual (defScope st) f cdv A outer s H E).nox (defBody st) t ∧
        ∀ (A : Amb) (ds : List PyData), A.W = W0 → pre ds → SS A t (ds.map .im ++ List.replicate j .no) c { nx := fun _ => False, rt := fun d => d = .none ∧ postN ds, fr := postF ds }) :
    FnOk P w K mg base CX0 (k + 1) f fd ps (SPo pre postN postF) := by
  refine F.ok S (fun vs H Q E h => (SPo.len hm h).trans hps.symm) fun cdv A outer s H vs Q E hr h => ?_
  obtain ⟨t, h1, h2⟩ := body cdv A outer s H E hr
  refine ⟨t, h1, ?_⟩
  obtain ⟨fs, ds, trk, kd, hp, qn, q⟩ := h
  let A : Amb := ⟨W0, fs, H, fun a ha => absurd ha List.not_mem_nil, trk⟩
  have hl : vs.length = m := by rw [kd.length]; exact hm ds hp
  have S : St8 A ⟨fs, []⟩ (ds.map .im ++ List.replicate (N.length - vs.length) .no) (L2.start N vs) H 0 := st8_start (A := A) rfl trivial (fun i s e => by
    rw [List.getElem?_map] at e
    cases e2 : ds[i]? with
    | none => rw [e2] at e; cases e
    | some d =>
      rw [e2] at e
      cases e
      obtain ⟨v, hv, k⟩ := kd.at e2
      exact ⟨v, hv, .inl ⟨d, rfl, k⟩⟩) (by rw [List.length_map, kd.length])
  have hk : N.length - vs.length = j := by rw [hl]; exact hN
  rw [hk] at S
  have s0 : ∀ {H' : Hp}, Same (off A.W.fs A.H0) (off A.W.fs H') → Same H H' := fun {H'} s a o e => (off_some (s a o (off_of List.not_mem_nil e))).2
  refine h2 A ds rfl hp _ ⟨fs, []⟩ _ H 0 S (by omega) ?_ ?_ ?_ ?_
  · intro ρ' F' σ' H' a
    exact False.elim a
  · refine ⟨fun v d H' ⟨e, hn⟩ s _ kd => ?_, fun p xs es H' a s _ hp hx k => q p xs es H' (s0 s) hp hx k a⟩
    subst e
    cases kd
    exact qn H' (s0 s) hn
  · intro ρ' F' σ' H' a
    exact False.elim a
  · intro ρ' F' σ' H' a
    exact False.elim a
end
section
variable {A : Amb} {ρ : List SV} {tl : TA} {c c1 c2 : Nat} {ds0 : List PyData} {pre postN : List PyData → Prop} {postF : List PyData → List PyData → Prop} {E : XK} {ta tb te : TE} {Rf : List PyData → Prop} {K : PySem.W.Frag} {P : Po} {R : PyData → Prop}
theorem ee_callo (h : EA A tl ρ c (· = ds0)) (hp : pre ds0) (hn : ∀ es, ¬ postF ds0 es) : EE A (tCall (SPo pre postN postF) [] E tl) ρ c (· = .none) := fun F σ H n Q S l q => by
  refine h F σ H n _ S l fun vs ds H1 s j k r => ?_
  subst r
  have S1 := S.step s j
  refine ⟨F.fs, ds, S1.trk, by rw [List.append_nil]; exact k, hp, fun H2 s2 _ => ?_, fun p xs es H2 _ _ _ _ hf => absurd hf (hn es)⟩
  exact q .non .none H2 (s.trans (same_off s2)) (A.W.stay _ _ _ j fun a _ o e => s2 a o e) .non rfl
theorem ef_callo (h : EA A tl ρ c (· = ds0)) (hp : pre ds0) (hn : ¬ postN ds0) : EF A (tCall (SPo pre postN postF) [] E tl) ρ c (postF ds0) := fun F σ H n Q S l q => by
  refine h F σ H n _ S l fun vs ds H1 s j k r => ?_
  subst r
  have S1 := S.step s j
  refine ⟨F.fs, ds, S1.trk, by rw [List.append_nil]; exact k, hp, fun H2 s2 z => absurd z hn, fun p xs es H2 s2 np hx k2 p2 => ?_⟩
  exact q p xs es H2 (s.trans (same_off s2)) (A.W.stay _ _ _ j fun a _ o e => s2 a o e) (fresh_back S s np j) hx k2 p2
theorem ee_callo0K {gV : List V → List V → List V} {pd : List PyData → List PyData} (h : EA A tl ρ c (· = ds0)) (hg : ∀ H vs, DA H vs ds0 → DA H (gV [] vs) (pd ds0)) (hp : pre (pd ds0)) (hn : ∀ es, ¬ postF (pd ds0) es) : EE A (tCall0K (SPo pre postN postF) gV E tl) ρ c (· = .none) := fun F σ H n Q S l q => by
  refine h F σ H n _ S l fun vs ds H1 s j k r => ?_
  subst r
  have S1 := S.step s j
  refine ⟨F.fs, _, S1.trk, hg _ _ k, hp, fun H2 s2 _ => ?_, fun p xs es H2 _ _ _ _ hf => absurd hf (hn es)⟩
  exact q .non .none H2 (s.trans (same_off s2)) (A.W.stay _ _ _ j fun a _ o e => s2 a o e) .non rfl
theorem ef_callo0K {gV : List V → List V → List V} {pd : List PyData → List PyData} (h : EA A tl ρ c (· = ds0)) (hg : ∀ H vs, DA H vs ds0 → DA H (gV [] vs) (pd ds0)) (hp : pre (pd ds0)) (hn : ¬ postN (pd ds0)) : EF A (tCall0K (SPo pre postN postF) gV E tl) ρ c (postF (pd ds0)) := fun F σ H n Q S l q => by
  refine h F σ H n _ S l fun vs ds H1 s j k r => ?_
  subst r
  have S1 := S.step s j
  refine ⟨F.fs, _, S1.trk, hg _ _ k, hp, fun H2 s2 z => absurd z hn, fun p xs es H2 s2 np hx k2 p2 => ?_⟩
  exact q p xs es H2 (s.trans (same_off s2)) (A.W.stay _ _ _ j fun a _ o e => s2 a o e) (fresh_back S s np j) hx k2 p2
theorem ef_ifF {t : TT} (h : ET A t ρ c1 (· = false)) (h2 : EF A tb ρ c2 Rf) : EF A (tIf t ta tb) ρ (c1 + c2) Rf := fun F σ H n Q S l q => by
  refine h F σ H n _ S (by omega) fun b H1 s j r => ?_
  subst r
  show tb σ H1 Q
  refine h2 F σ H1 (n + c1) _ (S.step s j) (by omega) fun p xs ds H2 s2 j2 np hx k2 r2 => ?_
  exact q p xs ds H2 (s.trans s2) (by rw [← Nat.add_assoc]; exact j2) (fresh_back S s np j) hx k2 r2
theorem er_ixSemi {i : Nat} {p : Addr} {ds dr : List PyData} (hi : ρ[i]? = some (.semi p ds dr)) : ER A (tOp (rIx K) (tVar i) (tC (.int 0))) ρ 0 (· = .list ds) := fun F σ H n Q S _ q => by
  obtain ⟨o0, h1, q0, rest, h2, hq, kr, hpF, hp0, ys, hy, ky⟩ := S.slot i _ hi
  subst h2
  refine ⟨.ref q0, h1, .inl ⟨q0, _, 0, .ref p, rfl, rfl, .inl (.inl (off_some hq).2), by show atI _ ((0 : Nat) : Int) = _; exact atI_nat rfl, ?_⟩⟩
  refine q _ _ H (Same.refl _) S.j (.lst (off_of (fun z => ?_) hy) (ky.mono (off_sub S.sub))) rfl
  obtain ⟨o, e⟩ := A.trk p z
  rw [hp0] at e
  cases e
theorem ss_semiapp {i : Nat} {p : Addr} {ds dr : List PyData} (hi : ρ[i]? = some (.semi p ds dr)) (hl : ds.length < sizeLine) (h : EE A te ρ c R) (k : P.nx (ρ.set i .no)) :
    SS A (tDrop (tBM K "list" rAppend (tOp (rIx K) (tVar i) (tC (.int 0))) (tCons te tNil))) ρ c P := fun D F σ H n S l k1 _ _ _ => by
  obtain ⟨o0, h1, q0, rest, h2, hq, kr, hpF, hp0, ys, hy, ky⟩ := S.slot i _ hi
  subst h2
  refine ⟨.ref q0, h1, .inl ⟨q0, _, 0, .ref p, rfl, rfl, .inl (.inl (off_some hq).2), by show atI _ ((0 : Nat) : Int) = _; exact atI_nat rfl, .inl ⟨rfl, ys, .inl (.inl hy)⟩, ?_⟩⟩
  refine h F σ H n _ S l fun v d H1 s j kd r => ?_
  have S1 := S.step s j
  have hy1 : H1 p = some (.lst ys) := (off_some (s p _ (off_of (A.fresh_nw hp0) hy))).2
  refine ⟨p, ys, v, rfl, rfl, hy1, by rw [ky.length]; exact hl, ?_⟩
  exact k1 _ F σ _ k (fun _ hg => hg) (st8_semi S1 hi _)
end
end DL

set_option linter.all false
set_option maxRecDepth 100000
set_option maxHeartbeats 4000000
/-! DLY: all orders of some words, with a new word; the answer of all that fit -/
namespace DL
open PySem PySem.Spec L2
theorem perm_nd {α : Type} [DecidableEq α] : ∀ {l m : List α}, l.Nodup → m.Nodup → (∀ x, x ∈ l ↔ x ∈ m) → l.Perm m
  | [], m, _, _, h => by
    cases m with
    | nil => exact .nil
    | cons a m => exact absurd ((h a).mpr List.mem_cons_self) List.not_mem_nil
  | a :: l, m, h1, h2, h => by
    have ha := (h a).mp List.mem_cons_self
    have nd := List.nodup_cons.mp h1
    have p := List.perm_cons_erase ha
    refine (List.Perm.cons a (perm_nd nd.2 (h2.erase a) fun x => ?_)).trans p.symm
    rw [h2.mem_erase_iff]
    constructor
    · intro hx
      exact ⟨fun e => nd.1 (by rw [← e]; exact hx), (h x).mp (List.mem_cons_of_mem _ hx)⟩
    · rintro ⟨ne, hx⟩
      rcases List.mem_cons.mp ((h x).mpr hx) with e | e
      · exact absurd e ne
      · exact e
theorem nd_le {α : Type} [DecidableEq α] : ∀ {l m : List α}, l.Nodup → (∀ x ∈ l, x ∈ m) → l.length ≤ m.length
  | [], _, _, _ => Nat.zero_le _
  | a :: l, m, h1, h => by
    have nd := List.nodup_cons.mp h1
    have ha := h a List.mem_cons_self
    have ih := nd_le (l := l) (m := m.erase a) nd.2 fun x hx => (List.mem_erase_of_ne fun e => nd.1 (by rw [← e]; exact hx)).mpr (h x (List.mem_cons_of_mem _ hx))
    have p := (List.perm_cons_erase ha).length_eq
    rw [List.length_cons] at p ⊢
    omega
/-! ### orders -/
def ordR : Nat → List Str → List (List Str)
  | 0, _ => [[]]
  | n + 1, ts => (List.range ts.length).flatMap fun i => (ordR n (ts.take i ++ ts.drop (i + 1))).map fun r => ts.getD i Str.empty :: r
theorem ord_mem : ∀ {n : Nat} {ts R : List Str}, ts.length = n → R.Perm ts → R ∈ ordR n ts
  | 0, ts, R, h, p => by
    have := List.length_eq_zero_iff.mp h
    subst this
    rw [List.perm_nil.mp p]
    exact List.mem_singleton.mpr rfl
  | n + 1, ts, R, h, p => by
    cases R with
    | nil => rw [← p.length_eq] at h; cases h
    | cons x R =>
      obtain ⟨i, hi, e⟩ := List.getElem_of_mem (p.mem_iff.mp List.mem_cons_self)
      have pe := perm_erase hi
      rw [e] at pe
      have p2 : R.Perm (ts.eraseIdx i) := (p.trans pe.symm).cons_inv
      rw [List.eraseIdx_eq_take_drop_succ] at p2
      have l2 : (ts.take i ++ ts.drop (i + 1)).length = n := by rw [List.length_append, List.length_take, List.length_drop]; omega
      refine List.mem_flatMap.mpr ⟨i, List.mem_range.mpr hi, List.mem_map.mpr ⟨R, ord_mem l2 p2, ?_⟩⟩
      rw [List.getD_eq_getElem?_getD, List.getElem?_eq_getElem hi]
      show ts[i] :: R = _
      rw [e]
theorem ord_of : ∀ {n : Nat} {ts R : List Str}, ts.length = n → R ∈ ordR n ts → R.length = n ∧ ∀ x ∈ R, x ∈ ts
  | 0, ts, R, _, h => by
    rw [List.mem_singleton.mp h]
    exact ⟨rfl, fun x hx => absurd hx List.not_mem_nil⟩
  | n + 1, ts, R, hl, h => by
    obtain ⟨i, hi, h2⟩ := List.mem_flatMap.mp h
    obtain ⟨r, hr, rfl⟩ := List.mem_map.mp h2
    have hi := List.mem_range.mp hi
    obtain ⟨k1, k2⟩ := ord_of (by rw [List.length_append, List.length_take, List.length_drop]; omega) hr
    refine ⟨by rw [List.length_cons, k1], fun x hx => ?_⟩
    rcases List.mem_cons.mp hx with e | e
    · rw [e, List.getD_eq_getElem?_getD, List.getElem?_eq_getElem hi]
      exact List.getElem_mem hi
    · rcases List.mem_append.mp (k2 x e) with m | m
      · exact List.mem_of_mem_take m
      · exact List.mem_of_mem_drop m
theorem ord_le : ∀ {n : Nat} {ts : List Str}, ts.length = n → n ≤ 5 → (ordR n ts).length ≤ 5 ^ n
  | 0, _, _, _ => Nat.le_refl _
  | n + 1, ts, h, l => by
    have h1 : (ordR (n + 1) ts).length ≤ (List.range ts.length).length * 5 ^ n := flatMap_le fun i hi => by
      rw [List.length_map]
      exact ord_le (by have := List.mem_range.mp hi; rw [List.length_append, List.length_take, List.length_drop]; omega) (by omega)
    rw [List.length_range, h] at h1
    rw [Nat.pow_succ, Nat.mul_comm]
    exact Nat.le_trans h1 (Nat.mul_le_mul_right _ l)
/-! ### with a new word -/
def insN (row : List Str) (x : Str) : List (List Str) := row :: (List.range (row.length + 1)).map fun k => insR row k x
def newR (rows : List (List Str)) (x : Str) : List (List Str) := rows.flatMap fun row => insN row x
theorem insR_len (R : List Str) (k : Nat) (x : Str) : (insR R k x).length = R.length + 1 := (ins_perm' R k x).length_eq
theorem insR_over {R : List Str} {k : Nat} {x : Str} (h : R.length ≤ k) : insR R k x = insR R R.length x := by
  unfold insR
  rw [List.take_of_length_le h, List.drop_eq_nil_of_le h, List.take_length, List.drop_length]
theorem insN_mem {R : List Str} (k : Nat) (x : Str) : insR R k x ∈ insN R x := by
  refine List.mem_cons_of_mem _ (List.mem_map.mpr ?_)
  by_cases h : k ≤ R.length
  · exact ⟨k, List.mem_range.mpr (by omega), rfl⟩
  · exact ⟨R.length, List.mem_range.mpr (by omega), (insR_over (by omega)).symm⟩
theorem new_of {rows : List (List Str)} {x : Str} {n : Nat} {L : List Str} (h : ∀ r ∈ rows, r.length ≤ n ∧ ∀ y ∈ r, y ∈ L) : ∀ R ∈ newR rows x, R.length ≤ n + 1 ∧ ∀ y ∈ R, y ∈ x :: L := fun R hR => by
  obtain ⟨r, hr, h2⟩ := List.mem_flatMap.mp hR
  obtain ⟨h3, h4⟩ := h r hr
  rcases List.mem_cons.mp h2 with e | e
  · rw [e]
    exact ⟨by omega, fun y hy => List.mem_cons_of_mem _ (h4 y hy)⟩
  · obtain ⟨k, _, rfl⟩ := List.mem_map.mp e
    refine ⟨by rw [insR_len]; omega, fun y hy => ?_⟩
    rcases List.mem_cons.mp ((ins_perm' r k x).mem_iff.mp hy) with e | e
    · rw [e]; exact List.mem_cons_self
    · exact List.mem_cons_of_mem _ (h4 y e)
/-! ### each once -/
def ddS (acc : List (List Str)) (a : List Str) : List (List Str) := if a ∈ acc then acc else acc ++ [a]
def ddL (l : List (List Str)) : List (List Str) := l.foldl ddS []
theorem dd_step (l : List (List Str)) (a : List Str) : ddL (l ++ [a]) = ddS (ddL l) a := by
  unfold ddL
  rw [List.foldl_append]
  rfl
theorem dd_mem0 : ∀ {l acc : List (List Str)} {a : List Str}, a ∈ l.foldl ddS acc ↔ a ∈ acc ∨ a ∈ l
  | [], acc, a => by simp
  | b :: l, acc, a => by
    rw [List.foldl_cons, dd_mem0]
    unfold ddS
    by_cases h : b ∈ acc
    · rw [if_pos h, List.mem_cons]
      constructor
      · rintro (z | z)
        · exact .inl z
        · exact .inr (.inr z)
      · rintro (z | z | z)
        · exact .inl z
        · rw [z]; exact .inl h
        · exact .inr z
    · rw [if_neg h, List.mem_append, List.mem_singleton, List.mem_cons, or_assoc]
theorem dd_mem {l : List (List Str)} {a : List Str} : a ∈ ddL l ↔ a ∈ l := by
  unfold ddL
  rw [dd_mem0]
  simp
theorem dd_len0 : ∀ {l acc : List (List Str)}, (l.foldl ddS acc).length ≤ acc.length + l.length
  | [], acc => Nat.le_refl _
  | b :: l, acc => by
    have ih := dd_len0 (l := l) (acc := ddS acc b)
    have : (ddS acc b).length ≤ acc.length + 1 := by
      unfold ddS
      split
      · omega
      · rw [List.length_append]; exact Nat.le_refl _
    rw [List.foldl_cons, List.length_cons]
    omega
theorem dd_len (l : List (List Str)) : (ddL l).length ≤ l.length := by
  have := dd_len0 (l := l) (acc := [])
  simp only [List.length_nil, Nat.zero_add] at this
  exact this
theorem dd_const0 {a : List Str} : ∀ {l : List (List Str)}, (∀ x ∈ l, x = a) → l.foldl ddS [a] = [a]
  | [], _ => rfl
  | b :: l, h => by
    rw [List.foldl_cons, h b List.mem_cons_self]
    unfold ddS
    rw [if_pos (List.mem_singleton.mpr rfl)]
    exact dd_const0 fun x hx => h x (List.mem_cons_of_mem _ hx)
theorem dd_const {a : List Str} {l : List (List Str)} (h : ∀ x ∈ l, x = a) (ne : l ≠ []) : ddL l = [a] := by
  cases l with
  | nil => exact absurd rfl ne
  | cons b l =>
    unfold ddL
    rw [List.foldl_cons, h b List.mem_cons_self]
    exact dd_const0 fun x hx => h x (List.mem_cons_of_mem _ hx)
/-! ### the answer of all that fit -/
def ansR (b : Str) (l : Nat) (R : List Str) : List Str := (R.filter (preS b)).take l
def oneD : List (List Str) → PyData
  | [a] => strsD a
  | _ => .none
def dueD (ss : List Scr) (b : Str) (l : Nat) : PyData := oneD (ddL (((newR (ordR (knownS ss).length (knownS ss)) (b ++ "zzzz")).filter (fitsAll ss)).map (ansR b l)))
theorem take_fil {α : Type} {q : α → Bool} : ∀ {F : List α} {l : Nat}, (∀ x ∈ F.take l, q x = true) → (F.filter q).take l = F.take l
  | [], _, _ => rfl
  | _ :: _, 0, _ => by simp
  | a :: F, l + 1, h => by
    rw [List.take_succ_cons] at h
    have ha := h a List.mem_cons_self
    rw [List.filter_cons, if_pos ha, List.take_succ_cons, List.take_succ_cons, take_fil fun x hx => h x (List.mem_cons_of_mem _ hx)]
/-- the known words of a dictionary, in its order, show what it shows -/
theorem known_fits {xs : List Str} {ss : List Scr} (hs : ∀ s ∈ ss, shows xs s = true) : ∀ s ∈ ss, shows (xs.filter fun x => decide (x ∈ knownS ss)) s = true := fun s hm => by
  have h := shows_iff.mp (hs s hm)
  refine shows_iff.mpr ?_
  have e : (xs.filter fun x => decide (x ∈ knownS ss)).filter (preS s.b) = (xs.filter (preS s.b)).filter fun x => decide (x ∈ knownS ss) := by
    rw [List.filter_filter, List.filter_filter]
    exact List.filter_congr fun x _ => Bool.and_comm _ _
  rw [e, take_fil fun x hx => decide_eq_true (mem_known.mpr ⟨s, hm, by rw [← h]; exact hx⟩)]
  exact h
theorem known_nd (ss : List Scr) : (knownS ss).Nodup := (asc_srtS _).nodup
theorem due_sure {xs : List Str} {ss : List Scr} {b : Str} {l : Nat} (nd : xs.Nodup) (hx : ∀ y ∈ xs, OfL "ab" y) (hs : ∀ s ∈ ss, (ScrOk s ∧ shows xs s = true) ∧ OfL "ab" s.b) (hl : 1 ≤ l) : dueD ss b l = sureD ss b l := by
  have sh : ∀ s ∈ ss, shows xs s = true := fun s h => (hs s h).1.2
  have kx : ∀ y ∈ knownS ss, y ∈ xs := fun y hy => by
    obtain ⟨s, hm, hk⟩ := mem_known.mp hy
    rw [← shows_iff.mp (sh s hm)] at hk
    exact (List.mem_filter.mp (List.mem_of_mem_take hk)).1
  have fit0 := known_fits sh
  generalize hR0 : (xs.filter fun x => decide (x ∈ knownS ss)) = R0 at fit0
  have nd0 : R0.Nodup := by rw [← hR0]; exact nd.sublist List.filter_sublist
  have m0 : ∀ x, x ∈ R0 ↔ x ∈ knownS ss := fun x => by
    rw [← hR0, List.mem_filter]
    exact ⟨fun h => of_decide_eq_true h.2, fun h => ⟨kx x h, decide_eq_true h⟩⟩
  have p0 : R0.Perm (knownS ss) := perm_nd nd0 (known_nd ss) m0
  have o0 : R0 ∈ ordR (knownS ss).length (knownS ss) := ord_mem rfl p0
  have r0 : R0 ∈ (newR (ordR (knownS ss).length (knownS ss)) (b ++ "zzzz")).filter (fitsAll ss) := List.mem_filter.mpr ⟨List.mem_flatMap.mpr ⟨R0, o0, List.mem_cons_self⟩, List.all_eq_true.mpr fit0⟩
  unfold dueD
  cases hd : decF ss b l with
  | some i =>
    obtain ⟨s, hsi, hdec⟩ := decF_some hd
    have hm := List.mem_of_getElem? hsi
    have e : sureD ss b l = strsD ((s.ys.filter (preS b)).take l) := by
      unfold sureD
      rw [hd]
      show (match ss[i]? with | none => PyData.none | some s => strsD ((s.ys.filter (preS b)).take l)) = _
      rw [hsi]
    rw [e, dd_const (a := (s.ys.filter (preS b)).take l) (fun x hx => ?_) fun z => ?_]
    · rfl
    · obtain ⟨R, hR, rfl⟩ := List.mem_map.mp hx
      exact (dec_answer (List.all_eq_true.mp (List.mem_filter.mp hR).2 s hm) hdec).symm
    · have := (List.mem_map.mpr ⟨R0, r0, rfl⟩ : ansR b l R0 ∈ ((newR (ordR (knownS ss).length (knownS ss)) (b ++ "zzzz")).filter (fitsAll ss)).map (ansR b l))
      rw [z] at this
      exact absurd this List.not_mem_nil
  | none =>
    have e : sureD ss b l = .none := by unfold sureD; rw [hd]
    have hno : ∀ s ∈ ss, decS s b l = false := fun s hm => by
      have h2 : (decF ss b l).isSome = false := by rw [hd]; rfl
      rw [decF_any] at h2
      have := List.any_eq_false.mp h2 s hm
      simpa using this
    obtain ⟨k, h1, h2⟩ := ins_fits (R := R0) (S := ss) (b := b) (fresh := b ++ "zzzz") (l := l) fit0 hno (preS_append _ _) hl fun s hm hp => pre_new (hs s hm).2 (by decide) hp
    have fx := new_word (b := b) hx
    have r1 : insR R0 k (b ++ "zzzz") ∈ (newR (ordR (knownS ss).length (knownS ss)) (b ++ "zzzz")).filter (fitsAll ss) := List.mem_filter.mpr ⟨List.mem_flatMap.mpr ⟨R0, o0, insN_mem k _⟩, List.all_eq_true.mpr h1⟩
    have a0 := dd_mem.mpr (List.mem_map.mpr ⟨R0, r0, rfl⟩ : ansR b l R0 ∈ ((newR (ordR (knownS ss).length (knownS ss)) (b ++ "zzzz")).filter (fitsAll ss)).map (ansR b l))
    have a1 := dd_mem.mpr (List.mem_map.mpr ⟨_, r1, rfl⟩ : ansR b l (insR R0 k (b ++ "zzzz")) ∈ ((newR (ordR (knownS ss).length (knownS ss)) (b ++ "zzzz")).filter (fitsAll ss)).map (ansR b l))
    have ne : ansR b l R0 ≠ ansR b l (insR R0 k (b ++ "zzzz")) := fun z => by
      have h3 : b ++ "zzzz" ∈ ansR b l R0 := by rw [z]; exact h2
      exact fx (kx _ ((m0 _).mp (List.mem_filter.mp (List.mem_of_mem_take h3)).1))
    rw [e]
    match ddL (((newR (ordR (knownS ss).length (knownS ss)) (b ++ "zzzz")).filter (fitsAll ss)).map (ansR b l)), a0, a1 with
    | [], a0, _ => exact absurd a0 List.not_mem_nil
    | [a], a0, a1 => exact absurd ((List.mem_singleton.mp a0).trans (List.mem_singleton.mp a1).symm) ne
    | _ :: _ :: _, _, _ => rfl
end DL
namespace DL
open PySem PySem.Spec L2
def qD (ss : List Scr) (b : Str) (l : Nat) : List PyData := [screensD ss, .str b, .int (l : Nat)]
theorem qD_inj {ss ss' : List Scr} {b b' : Str} {l l' : Nat} (h : qD ss b l = qD ss' b' l') : ss = ss' ∧ b = b' ∧ l = l' := by
  injection h with e1 e2
  injection e2 with e2 e3
  injection e3 with e3 _
  injection e2 with e2
  injection e3 with e3
  exact ⟨screensD_inj e1, e2, Int.ofNat.inj e3⟩
def preSure (ds : List PyData) : Prop := ∃ (ss : List Scr) (b : Str) (l : Nat), ds = qD ss b l ∧ QOk ss b l
def postSN (ds : List PyData) : Prop := ∀ (ss : List Scr) (b : Str) (l : Nat), ds = qD ss b l → decF ss b l = none
def postSF (ds es : List PyData) : Prop := ∀ (ss : List Scr) (b : Str) (l : Nat), ds = qD ss b l → (decF ss b l).isSome = true ∧ sureD ss b l = .list es
theorem sureN {ss : List Scr} {b : Str} {l : Nat} (h : decF ss b l = none) : sureD ss b l = .none := by unfold sureD; rw [h]
section
variable {A : Amb} {ρ : List SV} {tl : TA} {c : Nat} {E : XK} {ss : List Scr} {b : Str} {l : Nat}
theorem ef_sureO (h : EA A tl ρ c (· = qD ss b l)) (q : QOk ss b l) (hs : (decF ss b l).isSome = true) : EF A (tCall (SPo preSure postSN postSF) [] E tl) ρ c (fun es => sureD ss b l = .list es) :=
  (ef_callo h ⟨ss, b, l, rfl, q⟩ fun z => by rw [z ss b l rfl] at hs; cases hs).imp fun es p => (p ss b l rfl).2
theorem ee_sureO (h : EA A tl ρ c (· = qD ss b l)) (q : QOk ss b l) : EE A (tCall (SPo preSure postSN postSF) [] E tl) ρ c (· = sureD ss b l) := by
  cases hd : decF ss b l with
  | none => exact (ee_callo h ⟨ss, b, l, rfl, q⟩ fun es z => by have := (z ss b l rfl).1; rw [hd] at this; cases this).imp fun d e => by rw [e, sureN hd]
  | some i => exact (ef_sureO h q (by rw [hd]; rfl)).ee.imp fun d ⟨es, e1, e2⟩ => by rw [e1, e2]
theorem ee_sureO0K {gV : List V → List V → List V} (h : EA A tl ρ c (· = [.int (l : Nat), .str b, screensD ss])) (hg : ∀ H vs, DA H vs [.int (l : Nat), .str b, screensD ss] → DA H (gV [] vs) (qD ss b l)) (q : QOk ss b l) : EE A (tCall0K (SPo preSure postSN postSF) gV E tl) ρ c (· = sureD ss b l) := by
  cases hd : decF ss b l with
  | none => exact (ee_callo0K (pd := fun _ => qD ss b l) h hg ⟨ss, b, l, rfl, q⟩ fun es z => by have := (z ss b l rfl).1; rw [hd] at this; cases this).imp fun d e => by rw [e, sureN hd]
  | some i => exact (ef_callo0K (pd := fun _ => qD ss b l) h hg ⟨ss, b, l, rfl, q⟩ fun z => by rw [z ss b l rfl] at hd; cases hd).ee.imp fun d ⟨es, e1, e2⟩ => by rw [e2, (e1 ss b l rfl).2]
end
section
variable {A : Amb} {ρ : List SV} {tl : TA} {c : Nat} {RA : List PyData → Prop} {pre : List PyData → Prop} {post : List PyData → PyData → Prop} {E : XK}
theorem ee_callRA (h : EA A tl ρ c RA) (hp : ∀ ds, RA ds → pre ds) : EE A (tCall (SPp pre post) [] E tl) ρ c (fun d => ∃ ds, RA ds ∧ post ds d) :=
  (ee_callp (dds := []) h fun ds r => by rw [List.append_nil]; exact hp ds r).imp fun d ⟨ds, r, p⟩ => ⟨ds, r, by rw [List.append_nil] at p; exact p⟩
end
/-- the sure answer, as a list of at most twenty words -/
def SmallA (d : PyData) : Prop := d = .none ∨ ∃ ys : List Str, d = strsD ys ∧ ys.length ≤ 20 ∧ ∀ x ∈ ys, begS x = true ∧ x.length ≤ 100
theorem small_sure {ss : List Scr} {b : Str} {l : Nat} (hs : ∀ s ∈ ss, ScrOk s) : SmallA (sureD ss b l) := by
  cases hd : decF ss b l with
  | none => exact .inl (sureN hd)
  | some i =>
    obtain ⟨s, hsi, _⟩ := decF_some hd
    have so := hs s (List.mem_of_getElem? hsi)
    refine .inr ⟨(s.ys.filter (preS b)).take l, ?_, ?_, fun x hx => ?_⟩
    · unfold sureD
      rw [hd]
      show (match ss[i]? with | none => PyData.none | some s => strsD ((s.ys.filter (preS b)).take l)) = _
      rw [hsi]
    · have h1 := List.length_filter_le (preS b) s.ys
      have h2 := so.n
      have h3 := so.l2
      rw [List.length_take]
      omega
    · have := (so.w.2 x (List.mem_filter.mp (List.mem_of_mem_take hx)).1).1
      exact ⟨wordS_beg this.1, this.2⟩
theorem small_plain {d : PyData} (h : SmallA d) : d.plain = true ∧ d.showable = true ∧ d.depth ≤ 1 ∧ d.shown.length ≤ 30000 := by
  rcases h with rfl | ⟨ys, rfl, h1, h2⟩
  · exact ⟨rfl, rfl, Nat.zero_le _, by decide⟩
  · refine ⟨(sameOkP ys).1, showable_strs ys, Nat.le_of_eq (sameOkP ys).2, ?_⟩
    have h3 := shown_le (m := 1002) (ds := ys.map .str) fun d hd => by
      obtain ⟨x, hx, rfl⟩ := List.mem_map.mp hd
      exact shown_wl (n := 100) (h2 x hx).1 (h2 x hx).2
    rw [List.length_map] at h3
    have h4 : ys.length * (1002 + 2) ≤ 20 * (1002 + 2) := Nat.mul_le_mul_right _ h1
    show (PyData.list (ys.map .str)).shown.length ≤ _
    omega
theorem cld_two {d : PyData} (h1 : d.plain = true) (h2 : d.showable = true) (h3 : d.depth ≤ 1) (h4 : d.shown.length ≤ 30000) : Cld rReprPN [.list [d, d]] (· = .str (PyData.list [d, d]).shown) := by
  refine cld_reprPl2 (cld_repr ?_ ?_ ?_ ?_)
  · rw [PyData.plain]
    simp only [PyData.plainAll, h1, Bool.and_self]
  · rw [PyData.showable]
    simp only [PyData.showableAll, h2, Bool.and_self]
  · rw [PyData.depth]
    simp only [PyData.depthAll]
    omega
  · have h5 := shown_le (m := 30000) (ds := [d, d]) fun e he => by
      simp only [List.mem_cons, List.not_mem_nil, or_false, or_self] at he
      rw [he]
      exact h4
    have hz := sizeLine_eq
    have : ([d, d] : List PyData).length = 2 := rfl
    rw [this] at h5
    omega
theorem cld_twoA {d : PyData} (h : SmallA d) : Cld rReprPN [.list [d, d]] (· = .str (PyData.list [d, d]).shown) := by
  obtain ⟨h1, h2, h3, h4⟩ := small_plain h
  exact cld_two h1 h2 h3 h4
theorem cld_twoO {o : Option Nat} (h : ∀ i, o = some i → i ≤ 20) : Cld rReprPN [.list [optD o, optD o]] (· = .str (PyData.list [optD o, optD o]).shown) := by
  cases o with
  | none => exact cld_two rfl rfl (Nat.zero_le _) (by decide)
  | some i =>
    have := h i rfl
    exact cld_two rfl (showable20 i this) (Nat.zero_le _) (Nat.le_trans (shown_int20 i this) (by decide))
theorem cld_scrN {ts : List Scr} (hn : ts.length ≤ 20) (h : ∀ s ∈ ts, ScrOk s) : Cld rReprPN [screensD ts] (· = .str (screensD ts).shown) := by
  obtain ⟨k1, k2, k3⟩ := screens_plain ts
  have hz := sizeLine_eq
  have := shown_screens (ss := ts) (by omega) h
  exact cld_reprPl2 (cld_repr k1 (k3 fun s hs => (h s hs).l2) (by show (screensD ts).depth ≤ 60; omega) (by show (screensD ts).shown.length ≤ _; omega))
def consF (x : Str) (d : PyData) : PyData := strsD (x :: rowOf d)
theorem map_cons (x : Str) (rows : List (List Str)) : (rows.map strsD).map (consF x) = (rows.map fun r => x :: r).map strsD := by
  rw [List.map_map, List.map_map]
  refine List.map_congr_left fun r _ => ?_
  show strsD (x :: rowOf (strsD r)) = _
  rw [rowOf_strs]
  rfl
theorem known5 {xs : List Str} {ss : List Scr} (nd : xs.Nodup) (hs : ∀ s ∈ ss, shows xs s = true) : (knownS ss).length ≤ xs.length := nd_le (known_nd ss) fun y hy => by
  obtain ⟨s, hm, hk⟩ := mem_known.mp hy
  rw [← shows_iff.mp (hs s hm)] at hk
  exact (List.mem_filter.mp (List.mem_of_mem_take hk)).1
end DL
namespace DL
open PySem PySem.Spec L2
theorem depth_rowsA : ∀ rows : List (List Str), PyData.depthAll (rows.map strsD) ≤ 1
  | [] => Nat.zero_le _
  | R :: rows => by
    have ih := depth_rowsA rows
    simp only [List.map_cons, PyData.depthAll, (sameOkP R).2]
    omega
theorem depth_rows (rows : List (List Str)) : (PyData.list (rows.map strsD)).depth ≤ 60 := by
  have := depth_rowsA rows
  rw [PyData.depth]
  omega
end DL
namespace DL
open PySem PySem.Spec L2
section
variable {P : Program} {w : World} {K : PySem.W.Frag} {mg : Str → Option Value} {base : Heap}
/-- as okp, where no repr is under way -/
theorem okpG {x qual : Str} {st : Stmt} {f : Addr} {fd : FuncData} {N ps : List Str} {k m j c : Nat} {pre : List PyData → Prop} {post : List PyData → PyData → Prop} (F : Fun K x qual st f fd) (S : FnScope N ps (defScope st)) (hm : ∀ ds, pre ds → ds.length = m) (hc : c ≤ LIM)
    (hps : ps.length = m := by rfl) (hN : N.length - m = j := by rfl)
    (body : ∀ (cdv : Value) (A : Around) (outer : List Env) (s : Shared) (H : Hp) (E : XK), Room k (A.deeper (PyProof.Rows.envOfC qual (defScope st) s.heap.objs.size f cdv)) → A.guards = some [] →
      ∃ t, PSs (cxOf CX0 P w K mg base N qual (defScope st) f cdv A outer s H E).nox (defBody st) t ∧
        ∀ (A : Amb) (ds : List PyData), A.W = W0 → pre ds → SS A t (ds.map .im ++ List.replicate j .no) c { nx := fun _ => post ds .none, rt := post ds }) :
    FnG P w K mg base CX0 (k + 1) f fd ps (SPp pre post) := by
  refine DL.Fun.okG F S (fun vs H Q E h => (SPp.len hm h).trans hps.symm) fun cdv A outer s H vs Q E hr hgd h => ?_
  obtain ⟨t, h1, h2⟩ := body cdv A outer s H E hr hgd
  exact ⟨t, PSs.nox h1, spp_of hN hm hc h2 h⟩
end
end DL
namespace DL
open PySem PySem.Spec L2
def docV : List Scr := [⟨"", 2, ["car", "dog"]⟩, ⟨"c", 2, ["car", "cat"]⟩, ⟨"do", 3, ["dog", "dot"]⟩]
theorem docV_q {y : Str} (h1 : begS y = true) (h2 : y.length ≤ 1000000) : QOk docV y 5 := ⟨by decide, docS_ok, by decide, h2, h1, by decide, by decide⟩
theorem docV_sure : ([PyData.str "c", .str "dot", .str "dox"].map fun d => sureD docV (strOf d) 5) = [.none, .list [.str "dot"], .list []] := by
  have h1 : decF docV "c" 5 = none := by decide
  have h2 : decF docV "dot" 5 = some 2 := by decide
  have h3 : decF docV "dox" 5 = some 2 := by decide
  have e2 : sureD docV "dot" 5 = .list [.str "dot"] := by
    unfold sureD
    rw [h2]
    exact congrArg strsD (show ((["dog", "dot"] : List Str).filter (preS "dot")).take 5 = (["dot"] : List Str) by decide)
  have e3 : sureD docV "dox" 5 = .list [] := by
    unfold sureD
    rw [h3]
    exact congrArg strsD (show ((["dog", "dot"] : List Str).filter (preS "dox")).take 5 = ([] : List Str) by decide)
  show [sureD docV "c" 5, sureD docV "dot" 5, sureD docV "dox" 5] = _
  rw [sureN h1, e2, e3]
end DL

set_option linter.all false
set_option maxRecDepth 100000
set_option maxHeartbeats 4000000
/-! DLN: a list of a text's signs; dicts still being made -/
namespace DL
open PySem PySem.Spec L2
/-! ### list of a text -/
def rListS : List V → Hp → VK → Prop := fun vs H Q => ∃ x : Str, vs = [.str x] ∧ x.length ≤ 1000 ∧ ∀ p, H p = none → Q (.ref p) (upd H p (.lst (x.cps.toList.map fun z => V.str ⟨#[z]⟩)))
theorem vals_signs : ∀ (l : List Nat) (us : List Value), us.length = l.length → (∀ (j c : Nat), l[j]? = some c → ∃ u, us[j]? = some (Value.str ⟨#[c]⟩ u)) → Vals (l.map fun z => V.str ⟨#[z]⟩) us
  | [], us, hl, _ => by
    rw [List.length_eq_zero_iff.mp hl]
    exact .nil
  | c :: l, us, hl, h => by
    cases us with
    | nil => cases hl
    | cons u us =>
      obtain ⟨t, e⟩ := h 0 c rfl
      cases e
      exact .cons ⟨t, rfl⟩ (vals_signs l us (by simpa using hl) fun j d hd => h (j + 1) d hd)
theorem kListS {X : Cx} (hc : X.calm = true) : CallR X (.type "list") rListS := by
  intro pins s σ H vs us Q I r h
  obtain ⟨x, rfl, hx, q⟩ := h
  cases r with
  | cons r1 rr =>
    cases rr
    obtain ⟨t, rfl⟩ := r1
    have hz := sizeLine_eq
    have hx' : x.cps.size ≤ 1000 := hx
    refine call_list_str (I.ok.hd hc) x t (fun h' tk acc' c' kp e it => ?_) (by omega)
    have vals : Vals (x.cps.toList.map fun z => V.str ⟨#[z]⟩) acc'.toList := vals_signs _ _ (by rw [Array.length_toList, it.1, Array.length_toList]) fun j c hc => by
      have hj : j < acc'.size := by
        rw [it.1]
        have := (List.getElem?_eq_some_iff.mp hc).1
        rw [Array.length_toList] at this
        exact this
      obtain ⟨c2, t2, h1, h2⟩ := it.2 j acc'[j] (Array.getElem?_eq_getElem hj)
      rw [Array.getElem?_toList] at hc
      rw [hc] at h1
      cases h1
      exact ⟨t2, by rw [Array.getElem?_toList, Array.getElem?_eq_getElem hj, h2]⟩
    exact ⟨.ref s.heap.objs.size, _, I.laid (t' := tk) kp (Nat.le_refl _) (show ObjOk X.prog X.w _ h' _ (.lst _) from ⟨by rw [List.length_map, Array.length_toList]; omega, acc'.toList, c', vals, by rw [Array.toArray_toList]; exact e⟩), rfl, q _ (I.hok.fresh (Nat.le_refl _))⟩
section
variable {A : Amb} {ρ : List SV} {te ta tb : TE} {c c1 c2 : Nat} {K : PySem.W.Frag} {P : Po} {u : TS}
theorem da_signs {H : Hp} : ∀ l : List Nat, DA H (l.map fun z => V.str ⟨#[z]⟩) (l.map fun z => PyData.str ⟨#[z]⟩)
  | [] => .nil
  | z :: l => .cons (.str _) (da_signs l)
theorem ef_listS {x : Str} (h : ER A ta ρ c (· = .str x)) (hx : x.length ≤ 1000) : EF A (tCB rListS (tCons ta tNil)) ρ c (· = signsD x) := fun F σ H n Q S l q => by
  refine h F σ H n _ S l fun v d H1 s j k r => ?_
  subst r
  cases k
  have S1 := S.step s j
  refine ⟨x, rfl, hx, fun p hp => ?_⟩
  exact q p _ _ _ (s.trans (S1.newS hp)) (S1.newJ hp) (fresh_back S s hp j) upd_same ((da_signs _).mono (off_cons hp (same_off (same_new hp)))) rfl
/-! ### a slot with a new object -/
theorem slot_adrF {F : Fp} {σ : L2.St} {H : Hp} {n : Nat} (S : St8 A F ρ σ H n) {b : Nat} {x : SV} {r : Addr} (e : ρ[b]? = some x) (hx : x.adr = some r) : r ∈ F.fs := by
  obtain ⟨o, _, h2⟩ := S.slot b _ e
  cases x with
  | own q fs => cases hx; exact h2.2.1
  | dct q fs => cases hx; exact h2.2.1
  | semi q fs gs =>
    cases hx
    obtain ⟨_, _, _, _, _, h3, _⟩ := h2
    exact h3
  | _ => cases hx
/-- slot i gets y, whose own address p is new -/
theorem st8_put {F : Fp} {σ : L2.St} {H H1 : Hp} {n m : Nat} (S : St8 A F ρ σ H n) {i : Nat} {p : Addr} {y : SV} (e0 : H p = none) (S3 : St8 A ⟨p :: F.fs, F.gh⟩ ρ σ H1 m) (ha : y.adr = some p) (hy : SlotOk A (p :: F.fs) H1 y (some (.ref p))) :
    St8 A ⟨p :: F.fs, F.gh⟩ (ρ.set i y) (σ.set i (some (.ref p))) H1 m := by
  refine ⟨S3.j, S3.adv, S3.sub, S3.trk, S3.gh, by rw [List.length_set, List.length_set, S3.len], fun b x eb => ?_, fun a b x z r1 r2 ha' hb hx hz ne => ?_⟩
  · by_cases hk : i = b
    · subst hk
      by_cases hi : i < ρ.length
      · rw [List.getElem?_set_self hi] at eb
        cases eb
        exact ⟨some (.ref p), List.getElem?_set_self (by rw [S3.len]; exact hi), hy⟩
      · rw [List.getElem?_eq_none (by rw [List.length_set]; omega)] at eb
        cases eb
    · rw [List.getElem?_set_ne hk] at eb
      rw [List.getElem?_set_ne hk]
      exact S3.slot b x eb
  · have key : ∀ {b : Nat} {x : SV} {r : Addr}, (ρ.set i y)[b]? = some x → x.adr = some r → (b = i ∧ r = p) ∨ (b ≠ i ∧ ρ[b]? = some x) := fun {b x r} e hx => by
      by_cases hk : i = b
      · subst hk
        by_cases hi : i < ρ.length
        · rw [List.getElem?_set_self hi] at e
          cases e
          rw [ha] at hx
          cases hx
          exact .inl ⟨rfl, rfl⟩
        · rw [List.getElem?_eq_none (by rw [List.length_set]; omega)] at e
          cases e
      · rw [List.getElem?_set_ne hk] at e
        exact .inr ⟨fun z => hk z.symm, e⟩
    have nF := S.fresh e0
    rcases key ha' hx with ⟨a1, a2⟩ | ⟨a1, a2⟩ <;> rcases key hb hz with ⟨b1, b2⟩ | ⟨b1, b2⟩
    · exact absurd (a1.trans b1.symm) ne
    · intro z
      exact nF (by rw [← a2, z]; exact slot_adrF S b2 hz)
    · intro z
      exact nF (by rw [← b2, ← z]; exact slot_adrF S a2 hx)
    · exact S.nd a b x z r1 r2 a2 b2 hx hz ne
/-- a, b = a new list, {} -/
theorem sq_asgOD {i j : Nat} {ds : List PyData} (h : EF A te ρ c1 (· = ds)) (k : ∀ p p2, SS A u ((ρ.set i (.own p ds)).set j (.dct p2 [])) c2 P) :
    SS A (tSeq (tAsg (tTup (tCons te (tCons tDNewK tNil))) (gTup K 2 (gCons (gName i) (gCons (gName j) gNil)))) u) ρ (c1 + c2) P := fun D F σ H n S l k1 k2 k3 k4 => by
  refine h F σ H n _ S (by omega) fun p xs ds1 H1 s1 j1 e0 e1 kd r => ?_
  subst r
  have hz := sizeLine_eq
  have S3 := st8_grow S e0 s1 j1 e1
  have T1 := st8_put (i := i) (y := .own p ds1) S e0 S3 rfl ⟨rfl, List.mem_cons_self, S.fresh0 e0, xs, e1, kd⟩
  intro p2 hp2
  have T2 := st8_grow (o0 := .dK []) T1 hp2 (same_off (same_new hp2)) (T1.newJ hp2) upd_same
  have T3 := st8_put (i := j) (y := .dct p2 []) T1 hp2 T2 rfl ⟨rfl, List.mem_cons_self, T1.fresh0 hp2, [], upd_same, .nil⟩
  refine ⟨by show 2 ≤ sizeLine; omega, fun q hq => ?_⟩
  have T4 := T3.new (o := .tup [.ref p, .ref p2]) hq
  have e : n + (c1 + c2) = n + c1 + c2 := by omega
  rw [e] at k1 k2 k3 k4
  refine ⟨q, [.ref p, .ref p2], rfl, SqT.of upd_same, rfl, .ref p, [.ref p2], rfl, .ref p2, [], rfl, rfl, ?_⟩
  exact k p p2 D ⟨p2 :: p :: F.fs, F.gh⟩ _ _ (n + c1) T4 (by omega) k1 k2 k3 k4
/-! ### dict items -/
def isKey (x : Str) : PyData → Bool
  | .str y => decide (y = x)
  | _ => false
def putD (kd : List (PyData × PyData)) (x : Str) (d : PyData) : List (PyData × PyData) := if (kd.any fun e => isKey x e.1) = true then kd.map (fun e => if isKey x e.1 = true then (e.1, d) else e) else kd ++ [(.str x, d)]
def lookD (kd : List (PyData × PyData)) (x : Str) : Option PyData := (kd.find? fun e => isKey x e.1).map (·.2)
theorem key_is (k : Key) (x : Str) : isKey x (keyD k) = decide (k = .inr x) := by
  cases k with
  | inl i => rfl
  | inr y =>
    show decide (y = x) = _
    exact decide_eq_decide.mpr ⟨fun e => by rw [e], fun e => by injection e⟩
theorem dk_any {H : Hp} {x : Str} : ∀ {kvs : List (Key × V)} {kd : List (PyData × PyData)}, DK H kvs kd → (kvs.any fun kv => decide (kv.1 = .inr x)) = kd.any fun e => isKey x e.1
  | _, _, .nil => rfl
  | _, _, .cons (k := k) h t => by
    rw [List.any_cons, List.any_cons, dk_any t, key_is]
theorem dk_app {H : Hp} {k : Key} {v : V} {d : PyData} (h : DD H v d) : ∀ {kvs : List (Key × V)} {kd : List (PyData × PyData)}, DK H kvs kd → DK H (kvs ++ [(k, v)]) (kd ++ [(keyD k, d)])
  | _, _, .nil => .cons h .nil
  | _, _, .cons h2 t => .cons h2 (dk_app h t)
theorem dk_map {H : Hp} {x : Str} {v : V} {d : PyData} (h : DD H v d) : ∀ {kvs : List (Key × V)} {kd : List (PyData × PyData)}, DK H kvs kd → DK H (kvs.map fun kv => if kv.1 = .inr x then (kv.1, v) else kv) (kd.map fun e => if isKey x e.1 = true then (e.1, d) else e)
  | _, _, .nil => .nil
  | _, _, .cons (k := k) h2 t => by
    rw [List.map_cons, List.map_cons]
    have ih := dk_map (x := x) h t
    by_cases e : k = .inr x
    · have e2 : isKey x (keyD k) = true := by rw [key_is]; exact decide_eq_true e
      simp only [e2, if_true, if_pos e]
      exact .cons h ih
    · have e2 : isKey x (keyD k) = false := by rw [key_is]; exact decide_eq_false e
      simp only [e2, Bool.false_eq_true, if_false, if_neg e]
      exact .cons h2 ih
theorem dk_put {H : Hp} {x : Str} {v : V} {d : PyData} {kvs : List (Key × V)} {kd : List (PyData × PyData)} (k : DK H kvs kd) (h : DD H v d) : DK H (putK kvs (.inr x) v) (putD kd x d) := by
  unfold putK putD
  rw [dk_any k]
  split
  · exact dk_map h k
  · exact dk_app (k := .inr x) h k
theorem dk_len {H : Hp} : ∀ {kvs : List (Key × V)} {kd : List (PyData × PyData)}, DK H kvs kd → kvs.length = kd.length
  | _, _, .nil => rfl
  | _, _, .cons _ t => by rw [List.length_cons, List.length_cons, dk_len t]
theorem dk_look {H : Hp} {x : Str} {d : PyData} : ∀ {kvs : List (Key × V)} {kd : List (PyData × PyData)}, DK H kvs kd → lookD kd x = some d → ∃ v, valV kvs (.inr x) = some v ∧ DD H v d
  | _, _, .nil, h => by cases h
  | _, _, .cons (k := k) (v := v) (d := d') (r := r) h2 t, h => by
    unfold lookD at h
    rw [List.find?_cons] at h
    cases e : isKey x (keyD k) with
    | true =>
      rw [e] at h
      cases h
      rw [key_is] at e
      exact ⟨v, valV_pos (of_decide_eq_true e), h2⟩
    | false =>
      rw [e] at h
      rw [key_is] at e
      obtain ⟨w, h3, h4⟩ := dk_look t h
      exact ⟨w, (valV_neg (of_decide_eq_false e)).trans h3, h4⟩
theorem units1 {k : Nat} {A : Around} (r : Room k A) : A.units + 1 < cLine := by have := r.un; omega
/-- d[x], of a dict as data -/
theorem ee_dget {kd : List (PyData × PyData)} {x : Str} {d : PyData} (h1 : EE A ta ρ c1 (· = .dict kd)) (h2 : EE A tb ρ c2 (· = .str x)) (hl : lookD kd x = some d) : EE A (tDGet ta tb) ρ (c1 + c2) (· = d) := fun F σ H n Q S l q => by
  refine h1 F σ H n _ S (by omega) fun v d1 H1 s1 j1 k1 r1 => ?_
  subst r1
  have S1 := S.step s1 j1
  refine h2 F σ H1 (n + c1) _ S1 (by omega) fun w d2 H2 s2 j2 k2 r2 => ?_
  subst r2
  cases k2
  cases k1.mono (S1.offF s2) with
  | dct hp kk =>
    obtain ⟨y, hy, dy⟩ := dk_look kk hl
    exact ⟨_, y, rfl, .inl ⟨_, .inr x, .inl (off_some hp).2, rfl, hy.symm⟩, q y d H2 (s1.trans s2) (by rw [← Nat.add_assoc]; exact j2) dy rfl⟩
/-- a dict that is changed no more -/
theorem ss_freezeD {i : Nat} {p : Addr} {kd : List (PyData × PyData)} {t : TS} (hi : ρ[i]? = some (.dct p kd)) (h : SS A t (ρ.set i (.im (.dict kd))) c P) : SS A t ρ c P := fun D F σ H n S l k1 k2 k3 k4 => by
  obtain ⟨o0, h1, h2, hpF, hp0, ys, hy, ky⟩ := S.slot i _ hi
  subst h2
  have nf : p ∉ F.fs.filter (fun a => decide (a ≠ p)) := fun z => by
    have := (List.mem_filter.mp z).2
    simp at this
  have sub : ∀ a ∈ F.fs.filter (fun a => decide (a ≠ p)), a ∈ F.fs := fun a ha => (List.mem_filter.mp ha).1
  have offp : Same (off F.fs H) (off (F.fs.filter (fun a => decide (a ≠ p))) H) := off_sub sub
  have hl : i < ρ.length := (List.getElem?_eq_some_iff.mp hi).1
  refine h D ⟨F.fs.filter (fun a => decide (a ≠ p)), F.gh⟩ σ H n ⟨S.j, S.adv, fun a ha => List.mem_filter.mpr ⟨S.sub a ha, decide_eq_true fun z => A.fresh_nfs hp0 (by rw [← z]; exact ha)⟩, fun a ha => S.trk a (sub a ha), fun g hg => g.mono _ _ offp (S.gh g hg), by rw [List.length_set]; exact S.len, fun k x e => ?_, fun a b x y q r ha hb hx' hy' ne => S.nd a b x y q r (adr_set rfl ha hx') (adr_set rfl hb hy') hx' hy' ne⟩ l k1 k2 k3 k4
  by_cases hk : i = k
  · subst hk
    rw [List.getElem?_set_self hl] at e
    cases e
    exact ⟨_, h1, _, rfl, .dct (off_of nf hy) (ky.mono offp)⟩
  · rw [List.getElem?_set_ne hk] at e
    obtain ⟨o, h3, h4⟩ := S.slot k x e
    refine ⟨o, h3, ?_⟩
    cases x with
    | no => trivial
    | im d =>
      obtain ⟨v, e, kd⟩ := h4
      exact ⟨v, e, kd.mono offp⟩
    | raw v => exact h4
    | own q ps =>
      obtain ⟨e', hq, hq0, zs, hz, kd⟩ := h4
      have ne : q ≠ p := S.nd k i _ _ q p e hi rfl rfl (fun z => hk z.symm)
      exact ⟨e', List.mem_filter.mpr ⟨hq, decide_eq_true ne⟩, hq0, zs, hz, kd.mono offp⟩
    | dct q ps =>
      obtain ⟨e', hq, hq0, zs, hz, kd⟩ := h4
      have ne : q ≠ p := S.nd k i _ _ q p e hi rfl rfl (fun z => hk z.symm)
      exact ⟨e', List.mem_filter.mpr ⟨hq, decide_eq_true ne⟩, hq0, zs, hz, kd.mono offp⟩
    | semi q ps pr =>
      obtain ⟨q', rest, e', hq', kr, hq, hq0, zs, hz, kd⟩ := h4
      have ne : q ≠ p := S.nd k i _ _ q p e hi rfl rfl (fun z => hk z.symm)
      exact ⟨q', rest, e', offp _ _ hq', kr.mono offp, List.mem_filter.mpr ⟨hq, decide_eq_true ne⟩, hq0, zs, hz, kd.mono offp⟩
/-- a dict that is still being made is written -/
theorem st8_pushD {F : Fp} {σ : L2.St} {H : Hp} {n : Nat} (S : St8 A F ρ σ H n) {i : Nat} {p : Addr} {kd kd' : List (PyData × PyData)} {kvs : List (Key × V)} (hi : ρ[i]? = some (.dct p kd)) (hx : DK (off F.fs H) kvs kd') : St8 A F (ρ.set i (.dct p kd')) σ (upd H p (.dK kvs)) n := by
  obtain ⟨o0, h1, h2, hpF, hp0, ys, hy, ky⟩ := S.slot i _ hi
  have offp : Same (off F.fs H) (off F.fs (upd H p (.dK kvs))) := off_upd hpF
  have nw := A.fresh_nw hp0
  have adv : Same (off A.W.fs A.H0) (off A.W.fs (upd H p (.dK kvs))) := fun a o e => by
    refine off_of (off_some e).1 ?_
    rw [upd_ne fun z => by rw [z] at e; have := (off_some e).2; rw [hp0] at this; cases this]
    exact (off_some (S.adv a o e)).2
  have hl : i < ρ.length := (List.getElem?_eq_some_iff.mp hi).1
  refine ⟨A.W.stay _ _ _ S.j fun a ha o e => by rw [upd_ne (noC_elim nw (noC_dK hy) ha)]; exact e, adv, S.sub, fun a ha => ?_, fun g hg => g.mono _ _ offp (S.gh g hg), by rw [List.length_set]; exact S.len, fun k x e => ?_, fun a b x y q r ha hb hx' hy' ne => ?_⟩
  · by_cases e : a = p
    · exact ⟨_, by rw [e]; exact upd_same⟩
    · rw [upd_ne e]
      exact S.trk a ha
  · by_cases hk : i = k
    · subst hk
      rw [List.getElem?_set_self hl] at e
      cases e
      exact ⟨o0, h1, h2, hpF, hp0, kvs, upd_same, hx.mono offp⟩
    · rw [List.getElem?_set_ne hk] at e
      obtain ⟨o, h3, h4⟩ := S.slot k x e
      refine ⟨o, h3, ?_⟩
      cases x with
      | no => trivial
      | im d =>
        obtain ⟨v, e, kd⟩ := h4
        exact ⟨v, e, kd.mono offp⟩
      | raw v => exact h4
      | own q ps =>
        obtain ⟨e', hq, hq0, zs, hz, kd⟩ := h4
        have ne : q ≠ p := S.nd k i _ _ q p e hi rfl rfl (fun z => hk z.symm)
        exact ⟨e', hq, hq0, zs, by rw [upd_ne ne]; exact hz, kd.mono offp⟩
      | dct q ps =>
        obtain ⟨e', hq, hq0, zs, hz, kd⟩ := h4
        have ne : q ≠ p := S.nd k i _ _ q p e hi rfl rfl (fun z => hk z.symm)
        exact ⟨e', hq, hq0, zs, by rw [upd_ne ne]; exact hz, kd.mono offp⟩
      | semi q ps pr =>
        obtain ⟨q', rest, e', hq', kr, hq, hq0, zs, hz, kd⟩ := h4
        have ne : q ≠ p := S.nd k i _ _ q p e hi rfl rfl (fun z => hk z.symm)
        exact ⟨q', rest, e', offp _ _ hq', kr.mono offp, hq, hq0, zs, by rw [upd_ne ne]; exact hz, kd.mono offp⟩
  · have key : ∀ {d : Nat} {x : SV} {r : Addr}, (ρ.set i (.dct p kd'))[d]? = some x → x.adr = some r → ∃ x', ρ[d]? = some x' ∧ x'.adr = some r := fun {d x r} e hx => by
      by_cases hk : i = d
      · subst hk
        rw [List.getElem?_set_self hl] at e
        cases e
        exact ⟨_, hi, hx⟩
      · rw [List.getElem?_set_ne hk] at e
        exact ⟨x, e, hx⟩
    obtain ⟨x1, a1, a2⟩ := key ha hx'
    obtain ⟨y1, b1, b2⟩ := key hb hy'
    exact S.nd a b x1 y1 q r a1 b1 a2 b2 ne
/-- d[x] = l.pop(i) -/
theorem ss_dpop {i j m : Nat} {p p2 : Addr} {ds : List PyData} {kd : List (PyData × PyData)} {x : Str} {ti : TE} (hi : ρ[i]? = some (.own p ds)) (hj : ρ[j]? = some (.dct p2 kd)) (hm : ρ[m]? = some (.im (.str x))) (ne : i ≠ j) (hc : EE A ti ρ c (IntIn 0 (ds.length : Nat))) (hl : ds.length ≤ 1000) (hk : kd.length ≤ 1000)
    (k : ∀ t d, ds[t]? = some d → P.nx ((ρ.set i (.own p (ds.eraseIdx t))).set j (.dct p2 (putD kd x d)))) :
    SS A (tAsg (tBM K "list" rPopAt (tVar i) (tCons ti tNil)) (gSub (tVar j) (tVar m) L2.rSetD)) ρ c P := fun D F σ H n S l k1 _ _ _ => by
  have hz := sizeLine_eq
  obtain ⟨o0, h1, h2, hpF, hp0, xs, hx, kx⟩ := S.slot i _ hi
  subst h2
  refine ⟨.ref p, h1, .inl ⟨rfl, xs, .inl (.inl hx)⟩, ?_⟩
  refine hc F σ H n _ S l fun v d H1 s1 j1 kv ⟨r, e, r0, r1⟩ => ?_
  subst e
  cases kv
  have S1 := S.step s1 j1
  have hx1 : H1 p = some (.lst xs) := (off_some (s1 p _ (off_of (A.fresh_nw hp0) hx))).2
  have kx1 := kx.mono (S.offF s1)
  have xl := kx1.length
  have tl : r.toNat < ds.length := by omega
  have hd : ds[r.toNat]? = some ds[r.toNat] := List.getElem?_eq_getElem tl
  obtain ⟨y, hy, ky⟩ := kx1.at hd
  refine ⟨p, xs, r, r.toNat, y, rfl, rfl, hx1, by omega, by omega, seqIx r0 (by rw [xl]; omega), hy, ?_⟩
  have S2 := st8_push S1 hi (kx1.erase r.toNat)
  have nip : (ρ.set i (.own p (ds.eraseIdx r.toNat)))[j]? = some (.dct p2 kd) := by rw [List.getElem?_set_ne ne]; exact hj
  obtain ⟨o1, g1, g2, hqF, hq0, kvs, hq, kk⟩ := S2.slot j _ nip
  subst g2
  obtain ⟨o2, f1, v2, f2, f3⟩ := S1.slot m _ hm
  subst f2
  cases f3
  refine ⟨.ref p2, g1, .str x, f1, ?_⟩
  unfold L2.rSetD
  refine ⟨p2, _, rfl, .inl ⟨kvs, .inr x, hq, rfl, by rw [dk_len kk]; omega, rfl⟩, ?_⟩
  have ky2 : DD (off F.fs (upd H1 p (.lst (xs.eraseIdx r.toNat)))) y ds[r.toNat] := ky.mono (off_upd hpF)
  have S3 := st8_pushD S2 nip (dk_put (x := x) kk ky2)
  exact k1 _ F σ _ (k _ _ hd) (fun _ hg => hg) S3
end
end DL

set_option linter.all false
set_option maxRecDepth 100000
set_option maxHeartbeats 4000000
/-! DLH: what is before what in all that fit; other letters -/
namespace DL
open PySem PySem.Spec L2
/-! ### orders by insertion -/
def insA (row : List Str) (t : Str) : List (List Str) := (List.range (row.length + 1)).map fun k => insR row k t
def ordS (rows : List (List Str)) (t : Str) : List (List Str) := rows.flatMap fun row => insA row t
def ordI (ts : List Str) : List (List Str) := ts.foldl ordS [[]]
theorem ordI_snoc (ts : List Str) (t : Str) : ordI (ts ++ [t]) = ordS (ordI ts) t := by
  unfold ordI
  rw [List.foldl_append]
  rfl
theorem ins_back {R : List Str} {k : Nat} (h : k < R.length) : insR (R.eraseIdx k) k R[k] = R := by
  unfold insR
  rw [List.eraseIdx_eq_take_drop_succ]
  have h1 : (R.take k).length = k := by rw [List.length_take]; omega
  rw [List.take_append_of_le_length (by omega), List.take_of_length_le (by omega), List.drop_append_of_le_length (by omega), List.drop_of_length_le (by omega), List.nil_append]
  have := List.take_append_drop k R
  rw [List.drop_eq_getElem_cons h] at this
  exact this
theorem ordI_mem : ∀ {n : Nat} {ts R : List Str}, ts.length = n → R.Perm ts → R ∈ ordI ts
  | 0, ts, R, h, p => by
    have := List.length_eq_zero_iff.mp h
    subst this
    rw [List.perm_nil.mp p]
    exact List.mem_singleton.mpr rfl
  | n + 1, ts, R, h, p => by
    have ne : ts ≠ [] := fun z => by rw [z] at h; cases h
    have e := List.dropLast_concat_getLast ne
    generalize hu : ts.dropLast = us at e
    generalize ts.getLast ne = t at e
    subst e
    have hus : us.length = n := by rw [List.length_append] at h; exact Nat.succ.inj h
    obtain ⟨k, hk, ek⟩ := List.getElem_of_mem (p.mem_iff.mpr (List.mem_append.mpr (.inr List.mem_cons_self)) : t ∈ R)
    have p1 := perm_erase hk
    rw [ek] at p1
    have p2 : (R.eraseIdx k).Perm us := (p1.trans (p.trans (List.perm_append_comm (l₁ := us) (l₂ := [t])))).cons_inv
    rw [ordI_snoc]
    refine List.mem_flatMap.mpr ⟨_, ordI_mem hus p2, List.mem_map.mpr ⟨k, List.mem_range.mpr ?_, ?_⟩⟩
    · rw [List.length_eraseIdx_of_lt hk]
      omega
    · rw [← ek]
      exact ins_back hk
theorem ordI_perm : ∀ {n : Nat} {ts R : List Str}, ts.length = n → R ∈ ordI ts → R.Perm ts
  | 0, ts, R, h, m => by
    have := List.length_eq_zero_iff.mp h
    subst this
    rw [List.mem_singleton.mp m]
  | n + 1, ts, R, h, m => by
    have ne : ts ≠ [] := fun z => by rw [z] at h; cases h
    have e := List.dropLast_concat_getLast ne
    generalize hu : ts.dropLast = us at e
    generalize ts.getLast ne = t at e
    subst e
    have hus : us.length = n := by rw [List.length_append] at h; exact Nat.succ.inj h
    rw [ordI_snoc] at m
    obtain ⟨r, hr, h2⟩ := List.mem_flatMap.mp m
    obtain ⟨k, _, rfl⟩ := List.mem_map.mp h2
    exact (ins_perm' r k t).trans (((ordI_perm hus hr).cons t).trans (List.perm_append_comm (l₁ := [t]) (l₂ := us)))
theorem ordI_le : ∀ {n : Nat} {ts : List Str}, ts.length = n → n ≤ 6 → (ordI ts).length ≤ 6 ^ n
  | 0, ts, h, _ => by
    have := List.length_eq_zero_iff.mp h
    subst this
    exact Nat.le_refl _
  | n + 1, ts, h, l => by
    have ne : ts ≠ [] := fun z => by rw [z] at h; cases h
    have e := List.dropLast_concat_getLast ne
    generalize hu : ts.dropLast = us at e
    generalize ts.getLast ne = t at e
    subst e
    have hus : us.length = n := by rw [List.length_append] at h; exact Nat.succ.inj h
    rw [ordI_snoc]
    have h1 := flatMap_le (f := fun row => insA row t) (k := 6) (l := ordI us) fun r hr => by
      have := (ordI_perm hus hr).length_eq
      show ((List.range (r.length + 1)).map _).length ≤ 6
      rw [List.length_map, List.length_range]
      omega
    have h2 := ordI_le hus (by omega)
    rw [Nat.pow_succ]
    exact Nat.le_trans h1 (Nat.mul_le_mul_right _ h2)
/-! ### what screens put before what -/
theorem sub_two {l : List Str} (nd : l.Nodup) {x y : Str} (hx : x ∈ l) (hy : y ∈ l) (ne : x ≠ y) : [x, y].Sublist l ∨ [y, x].Sublist l := by
  obtain ⟨i, hi⟩ := List.getElem?_of_mem hx
  obtain ⟨j, hj⟩ := List.getElem?_of_mem hy
  rcases Nat.lt_trichotomy i j with h | h | h
  · exact .inl (sub2_of hi hj h)
  · rw [h, hj] at hi
    exact absurd (Option.some.inj hi).symm ne
  · exact .inr (sub2_of hj hi h)
theorem not_both {l : List Str} (nd : l.Nodup) {x y : Str} (h1 : [x, y].Sublist l) (h2 : [y, x].Sublist l) : False := by
  have hx : x ∈ l := h1.subset List.mem_cons_self
  have hy : y ∈ l := h2.subset List.mem_cons_self
  obtain ⟨i, hi⟩ := List.getElem?_of_mem hx
  obtain ⟨j, hj⟩ := List.getElem?_of_mem hy
  have a := sub2_lt nd h1 hi hj
  have b := sub2_lt nd h2 hj hi
  omega
section
variable {xs : List Str} {s : Scr}
theorem ys_sub (sh : shows xs s = true) : s.ys.Sublist xs := by
  rw [← shows_iff.mp sh]
  exact (List.take_sublist _ _).trans List.filter_sublist
theorem order_in (nd : xs.Nodup) (sh : shows xs s = true) {t v : Str} (ht : t ∈ s.ys) (hv : v ∈ s.ys) (h : [t, v].Sublist xs) : [t, v].Sublist s.ys := by
  have ne : t ≠ v := fun e => by rw [e] at h; exact not_both nd h h
  rcases sub_two (nd.sublist (ys_sub sh)) ht hv ne with z | z
  · exact z
  · exact (not_both nd h (z.trans (ys_sub sh))).elim
theorem earlier_in (nd : xs.Nodup) (sh : shows xs s = true) {t u : Str} (hu : u ∈ s.ys) (hp : preS s.b t = true) (h : [t, u].Sublist xs) : t ∈ s.ys := by
  have e := shows_iff.mp sh
  have hup : preS s.b u = true := by
    rw [← e] at hu
    exact (List.mem_filter.mp (List.mem_of_mem_take hu)).2
  have hF := (sub2_filter (p := preS s.b) (l := xs) hp hup).mpr h
  have ndF : (xs.filter (preS s.b)).Nodup := nd.sublist List.filter_sublist
  obtain ⟨i, hi⟩ := List.getElem?_of_mem (hF.subset List.mem_cons_self : t ∈ xs.filter (preS s.b))
  rw [← e] at hu ⊢
  obtain ⟨j, hj⟩ := List.getElem?_of_mem hu
  rw [List.getElem?_take] at hj
  split at hj
  · rename_i hjl
    have := sub2_lt ndF hF hi hj
    refine List.mem_of_getElem? (i := i) ?_
    rw [List.getElem?_take, if_pos (by omega)]
    exact hi
  · cases hj
theorem pre_two {a b u : Str} (h1 : preS a u = true) (h2 : preS b u = true) : preS a b = true ∨ preS b a = true := by
  have al : a.length = a.cps.toList.length := by show a.cps.size = _; rw [Array.length_toList]
  have bl : b.length = b.cps.toList.length := by show b.cps.size = _; rw [Array.length_toList]
  unfold preS at *
  have h1 := of_decide_eq_true h1
  have h2 := of_decide_eq_true h2
  rcases Nat.le_total a.length b.length with h | h
  · refine .inl (decide_eq_true ?_)
    rw [← h2, List.take_take, Nat.min_eq_left h]
    exact h1
  · refine .inr (decide_eq_true ?_)
    rw [← h1, List.take_take, Nat.min_eq_left h]
    exact h2
theorem puts_trans {ss : List Scr} (nd : xs.Nodup) (hs : ∀ s ∈ ss, ScrOk s ∧ shows xs s = true) {s s' : Scr} (h1 : s ∈ ss) (h2 : s' ∈ ss) {t u v : Str} (hu : u ∈ xs) (hv : v ∈ xs) (p1 : putsS s t u = true) (p2 : putsS s' u v = true) : ∃ r ∈ ss, putsS r t v = true := by
  obtain ⟨so, sh⟩ := hs s h1
  obtain ⟨so', sh'⟩ := hs s' h2
  have tu := ahead_sub so sh p1 hu
  have uv := ahead_sub so' sh' p2 hv
  obtain ⟨a1, a2, a3, a4⟩ := (putsS_iff so).mp p1
  obtain ⟨b1, b2, b3, b4⟩ := (putsS_iff so').mp p2
  have ht : t ∈ xs := (ys_sub sh).subset a1
  have tv : [t, v].Sublist xs := by
    obtain ⟨i, hi⟩ := List.getElem?_of_mem ht
    obtain ⟨j, hj⟩ := List.getElem?_of_mem hu
    obtain ⟨k, hk⟩ := List.getElem?_of_mem hv
    exact sub2_of hi hk (Nat.lt_trans (sub2_lt nd tu hi hj) (sub2_lt nd uv hj hk))
  have ne : t ≠ v := fun e => by rw [e] at tv; exact not_both nd tv tv
  have pu' : preS s'.b u = true := (so'.w.2 u b1).2
  rcases pre_two a3 pu' with c | c
  · refine ⟨s, h1, (putsS_iff so).mpr ⟨a1, ne, preS_trans c b3, ?_⟩⟩
    by_cases hm : v ∈ s.ys
    · exact .inr (order_in nd sh a1 hm tv)
    · exact .inl hm
  · have pt : preS s'.b t = true := preS_trans c (so.w.2 t a1).2
    have ht' := earlier_in nd sh' b1 pt tu
    refine ⟨s', h2, (putsS_iff so').mpr ⟨ht', ne, b3, ?_⟩⟩
    by_cases hm : v ∈ s'.ys
    · exact .inr (order_in nd sh' ht' hm tv)
    · exact .inl hm
end
/-! ### those first that stand before a word -/
def Dc (A : Str → Bool) (Y Z : List Str) : Prop := ∀ (Y1 : List Str) (f : Str) (Y2 : List Str), Y = Y1 ++ f :: Y2 → ∀ g ∈ Y2 ++ Z, A g = true → A f = true
theorem part_head {A : Str → Bool} : ∀ {Y Z : List Str}, Dc A Y Z → ∃ W, (Y ++ Z).filter A ++ (Y ++ Z).filter (fun g => !A g) = Y ++ W
  | [], Z, _ => ⟨_, rfl⟩
  | f :: Y, Z, h => by
    have ih := part_head (Y := Y) (Z := Z) fun Y1 g Y2 e => h (f :: Y1) g Y2 (by rw [e]; rfl)
    cases hf : A f with
    | true =>
      obtain ⟨W, e⟩ := ih
      refine ⟨W, ?_⟩
      rw [List.cons_append, List.filter_cons, if_pos hf, List.filter_cons, if_neg (by rw [hf]; decide), List.cons_append, e]
      rfl
    | false =>
      have none : ∀ g ∈ Y ++ Z, A g = false := fun g hg => by
        cases q : A g with
        | false => rfl
        | true => rw [h [] f Y rfl g hg q] at hf; cases hf
      refine ⟨Z, ?_⟩
      rw [List.cons_append, List.filter_cons, if_neg (by rw [hf]; decide), List.filter_eq_nil_iff.mpr fun g hg => by rw [none g hg]; decide, List.nil_append, List.filter_cons, if_pos (by rw [hf]; rfl)]
      rw [List.filter_eq_self.mpr fun g hg => by rw [none g hg]; rfl]
theorem part_shows {R : List Str} {s : Scr} {A : Str → Bool} (sh : shows R s = true) (hd : Dc A s.ys ((R.filter (preS s.b)).drop s.l)) : shows (R.filter A ++ R.filter fun g => !A g) s = true := by
  have e := shows_iff.mp sh
  have eF : R.filter (preS s.b) = s.ys ++ (R.filter (preS s.b)).drop s.l := by
    conv => lhs; rw [← List.take_append_drop s.l (R.filter (preS s.b))]
    rw [e]
  obtain ⟨W, hW⟩ := part_head hd
  rw [← eF] at hW
  refine shows_iff.mpr ?_
  have e2 : (R.filter A ++ R.filter fun g => !A g).filter (preS s.b) = s.ys ++ W := by
    rw [List.filter_append, List.filter_filter, List.filter_filter, ← hW, List.filter_filter, List.filter_filter]
    congr 1
    · exact List.filter_congr fun x _ => Bool.and_comm _ _
    · exact List.filter_congr fun x _ => Bool.and_comm _ _
  rw [e2]
  have yl : s.ys.length = min s.l (R.filter (preS s.b)).length := by rw [← e, List.length_take]
  rcases Nat.lt_or_ge s.ys.length s.l with h | h
  · have wl : (s.ys ++ W).length = (R.filter (preS s.b)).length := by
      rw [← hW, List.length_append]
      have := List.length_eq_countP_add_countP A (l := R.filter (preS s.b))
      rw [List.countP_eq_length_filter, List.countP_eq_length_filter] at this
      have e3 : (R.filter (preS s.b)).filter (fun a => decide ¬A a = true) = (R.filter (preS s.b)).filter fun g => !A g := List.filter_congr fun x _ => by cases A x <;> rfl
      rw [e3] at this
      exact this.symm
    have : W = [] := by
      rw [List.length_append] at wl
      exact List.length_eq_zero_iff.mp (by omega)
    rw [this, List.append_nil, List.take_of_length_le (by omega)]
  · rw [List.take_append_of_le_length h, List.take_of_length_le (by omega)]
/-- is_before by all orders that fit -/
theorem before_rows {xs : List Str} {ss : List Scr} (nd : xs.Nodup) (hs : ∀ s ∈ ss, ScrOk s ∧ shows xs s = true) {x y : Str} (hx : x ∈ knownS ss) (hy : y ∈ knownS ss) :
    (reasonS ss x y).isSome = (!decide (x = y) && !((ordI (knownS ss)).filter (fitsAll ss)).any fun R => decide (R.idxOf y < R.idxOf x)) := by
  have kx : ∀ z ∈ knownS ss, z ∈ xs := fun z hz => by
    obtain ⟨s, hm, hk⟩ := mem_known.mp hz
    exact (ys_sub (hs s hm).2).subset hk
  unfold reasonS
  rw [List.findIdx?_isSome]
  cases hr : ss.any fun s => putsS s x y with
  | true =>
    obtain ⟨s, hm, hp⟩ := List.any_eq_true.mp hr
    obtain ⟨so, sh⟩ := hs s hm
    obtain ⟨a1, a2, a3, a4⟩ := (putsS_iff so).mp hp
    rw [decide_eq_false a2]
    suffices zz : (((ordI (knownS ss)).filter (fitsAll ss)).any fun R => decide (R.idxOf y < R.idxOf x)) = false by rw [zz]; rfl
    refine Bool.eq_false_iff.mpr fun z => ?_
    obtain ⟨R, hR, hlt⟩ := List.any_eq_true.mp z
    have hlt := of_decide_eq_true hlt
    obtain ⟨h1, h2⟩ := List.mem_filter.mp hR
    have pm := ordI_perm rfl h1
    have ndR : R.Nodup := pm.nodup_iff.mpr (known_nd ss)
    have xy := ahead_sub so (List.all_eq_true.mp h2 s hm) hp (pm.mem_iff.mpr hy)
    have yx := (idx_sub2 ndR (pm.mem_iff.mpr hy) (pm.mem_iff.mpr hx)).mp hlt
    exact not_both ndR xy yx
  | false =>
    have no : ∀ s ∈ ss, putsS s x y = false := fun s hm => by
      have := List.any_eq_false.mp hr s hm
      simpa using this
    by_cases exy : x = y
    · rw [decide_eq_true exy]
      rfl
    · rw [decide_eq_false exy]
      suffices zz : (((ordI (knownS ss)).filter (fitsAll ss)).any fun R => decide (R.idxOf y < R.idxOf x)) = true by rw [zz]; rfl
      let A : Str → Bool := fun z => decide (z = y) || ss.any fun s => putsS s z y
      have fit0 := known_fits (ss := ss) fun s hm => (hs s hm).2
      generalize hR0 : (xs.filter fun x => decide (x ∈ knownS ss)) = R0 at fit0
      have nd0 : R0.Nodup := by rw [← hR0]; exact nd.sublist List.filter_sublist
      have m0 : ∀ z, z ∈ R0 ↔ z ∈ knownS ss := fun z => by
        rw [← hR0, List.mem_filter]
        exact ⟨fun h => of_decide_eq_true h.2, fun h => ⟨kx z h, decide_eq_true h⟩⟩
      have p0 : R0.Perm (knownS ss) := perm_nd nd0 (known_nd ss) m0
      have hs0 : ∀ s ∈ ss, ScrOk s ∧ shows R0 s = true := fun s hm => ⟨(hs s hm).1, fit0 s hm⟩
      have down : ∀ s ∈ ss, Dc A s.ys ((R0.filter (preS s.b)).drop s.l) := fun s hm Y1 f Y2 e g hg hA => by
        obtain ⟨so, sh⟩ := hs0 s hm
        have eF : R0.filter (preS s.b) = s.ys ++ (R0.filter (preS s.b)).drop s.l := by
          conv => lhs; rw [← List.take_append_drop s.l (R0.filter (preS s.b))]
          rw [shows_iff.mp sh]
        have gF : g ∈ R0.filter (preS s.b) := by
          rw [eF, e]
          rcases List.mem_append.mp hg with h | h
          · exact List.mem_append.mpr (.inl (List.mem_append.mpr (.inr (List.mem_cons_of_mem _ h))))
          · exact List.mem_append.mpr (.inr h)
        have fg : [f, g].Sublist R0 := by
          refine List.Sublist.trans ?_ (List.filter_sublist (p := preS s.b))
          rw [eF, e, List.append_assoc]
          refine List.Sublist.trans ?_ (List.sublist_append_right Y1 _)
          show [f, g].Sublist (f :: (Y2 ++ _))
          exact List.Sublist.cons_cons f (List.singleton_sublist.mpr hg)
        have ne : f ≠ g := fun e => by rw [e] at fg; exact not_both nd0 fg fg
        have fy : f ∈ s.ys := by rw [e]; exact List.mem_append.mpr (.inr List.mem_cons_self)
        have pf : putsS s f g = true := (putsS_iff so).mpr ⟨fy, ne, (List.mem_filter.mp gF).2, by
          by_cases hm2 : g ∈ s.ys
          · exact .inr (order_in nd0 sh fy hm2 fg)
          · exact .inl hm2⟩
        have gR : g ∈ R0 := (List.mem_filter.mp gF).1
        rcases Bool.or_eq_true_iff.mp hA with h | h
        · have := of_decide_eq_true h
          subst this
          exact Bool.or_eq_true_iff.mpr (.inr (List.any_eq_true.mpr ⟨s, hm, pf⟩))
        · obtain ⟨s', hm', hp'⟩ := List.any_eq_true.mp h
          obtain ⟨r, hr2, hp2⟩ := puts_trans nd0 hs0 hm hm' gR ((m0 y).mpr hy) pf hp'
          exact Bool.or_eq_true_iff.mpr (.inr (List.any_eq_true.mpr ⟨r, hr2, hp2⟩))
      let R1 := R0.filter A ++ R0.filter fun g => !A g
      have p1 : R1.Perm R0 := List.filter_append_perm A R0
      have in1 : R1 ∈ (ordI (knownS ss)).filter (fitsAll ss) := List.mem_filter.mpr ⟨ordI_mem rfl (p1.trans p0), List.all_eq_true.mpr fun s hm => part_shows (fit0 s hm) (down s hm)⟩
      have yA : A y = true := Bool.or_eq_true_iff.mpr (.inl (decide_eq_true rfl))
      have xA : A x = false := by
        show (decide (x = y) || ss.any fun s => putsS s x y) = false
        rw [decide_eq_false exy, hr]
        rfl
      have nd1 : R1.Nodup := p1.nodup_iff.mpr nd0
      have yx : [y, x].Sublist R1 := List.Sublist.append (l₁ := [y]) (l₂ := R0.filter A) (r₁ := [x]) (r₂ := R0.filter fun g => !A g) (List.singleton_sublist.mpr (List.mem_filter.mpr ⟨(m0 y).mpr hy, yA⟩)) (List.singleton_sublist.mpr (List.mem_filter.mpr ⟨(m0 x).mpr hx, by rw [xA]; rfl⟩))
      exact List.any_eq_true.mpr ⟨R1, in1, decide_eq_true ((idx_sub2 nd1 (p1.mem_iff.mpr ((m0 y).mpr hy)) (p1.mem_iff.mpr ((m0 x).mpr hx))).mpr yx)⟩
end DL
namespace DL
open PySem PySem.Spec L2
instance (L x : Str) : Decidable (OfL L x) := inferInstanceAs (Decidable (∀ c ∈ x.cps.toList, c ∈ L.cps.toList))
/-! ### other letters -/
theorem str_ext {x y : Str} (h : x.cps.toList = y.cps.toList) : x = y := by
  obtain ⟨a⟩ := x
  obtain ⟨b⟩ := y
  exact congrArg Str.mk (Array.toList_inj.mp h)
def mapS (f : Nat → Nat) (x : Str) : Str := ⟨(x.cps.toList.map f).toArray⟩
def phi (a : Str) (f : Nat → Nat) (x : Str) : Str := a ++ mapS f x
theorem mapS_list (f : Nat → Nat) (x : Str) : (mapS f x).cps.toList = x.cps.toList.map f := by
  unfold mapS
  simp
theorem phi_list (a : Str) (f : Nat → Nat) (x : Str) : (phi a f x).cps.toList = a.cps.toList ++ x.cps.toList.map f := by
  have e : (phi a f x).cps.toList = a.cps.toList ++ (mapS f x).cps.toList := Array.toList_append
  rw [e, mapS_list]
theorem len_list (x : Str) : x.length = x.cps.toList.length := by show x.cps.size = _; rw [Array.length_toList]
theorem phi_len (a : Str) (f : Nat → Nat) (x : Str) : (phi a f x).length = a.length + x.length := by
  rw [len_list, phi_list, List.length_append, List.length_map, ← len_list, ← len_list]
/-- f tells the letters of L apart -/
def InjL (L : Str) (f : Nat → Nat) : Prop := ∀ c ∈ L.cps.toList, ∀ d ∈ L.cps.toList, f c = f d → c = d
theorem map_injL {L : Str} {f : Nat → Nat} (hf : InjL L f) : ∀ {l m : List Nat}, (∀ c ∈ l, c ∈ L.cps.toList) → (∀ c ∈ m, c ∈ L.cps.toList) → l.map f = m.map f → l = m
  | [], [], _, _, _ => rfl
  | [], _ :: _, _, _, h => by cases h
  | _ :: _, [], _, _, h => by cases h
  | c :: l, d :: m, h1, h2, h => by
    rw [List.map_cons, List.map_cons] at h
    injection h with e1 e2
    rw [hf c (h1 c List.mem_cons_self) d (h2 d List.mem_cons_self) e1, map_injL hf (fun x hx => h1 x (List.mem_cons_of_mem _ hx)) (fun x hx => h2 x (List.mem_cons_of_mem _ hx)) e2]
section
variable {L a : Str} {f : Nat → Nat} (hf : InjL L f)
include hf
theorem phi_inj {x y : Str} (hx : OfL L x) (hy : OfL L y) (h : phi a f x = phi a f y) : x = y := by
  have e := congrArg (fun z : Str => z.cps.toList) h
  simp only [phi_list] at e
  exact str_ext (map_injL hf hx hy (List.append_cancel_left e))
theorem phi_pre {b x : Str} (hb : OfL L b) (hx : OfL L x) : preS (phi a f b) (phi a f x) = preS b x := by
  unfold preS
  refine decide_eq_decide.mpr ?_
  rw [phi_len, phi_list, phi_list, List.take_append, len_list a, Nat.add_sub_cancel_left, List.take_of_length_le (by omega), ← List.map_take]
  constructor
  · intro h
    exact map_injL hf (fun c hc => hx c (List.mem_of_mem_take hc)) hb (List.append_cancel_left h)
  · intro h
    rw [h]
end
def dressS (a : Str) (f : Nat → Nat) (s : Scr) : Scr := ⟨phi a f s.b, s.l, s.ys.map (phi a f)⟩
theorem dress_shows {L a : Str} {f : Nat → Nat} (hf : InjL L f) {xs : List Str} {s : Scr} (hx : ∀ x ∈ xs, OfL L x) (hb : OfL L s.b) (sh : shows xs s = true) : shows (xs.map (phi a f)) (dressS a f s) = true := by
  refine shows_iff.mpr ?_
  show ((xs.map (phi a f)).filter (preS (phi a f s.b))).take s.l = s.ys.map (phi a f)
  rw [List.filter_map, ← shows_iff.mp sh, List.map_take]
  congr 2
  exact List.filter_congr fun x h => phi_pre hf hb (hx x h)
theorem nodup_phi {L a : Str} {f : Nat → Nat} (hf : InjL L f) : ∀ {xs : List Str}, xs.Nodup → (∀ x ∈ xs, OfL L x) → (xs.map (phi a f)).Nodup
  | [], _, _ => List.nodup_nil
  | x :: xs, nd, h => by
    have nd' := List.nodup_cons.mp nd
    rw [List.map_cons]
    refine List.nodup_cons.mpr ⟨fun z => ?_, nodup_phi hf nd'.2 fun y hy => h y (List.mem_cons_of_mem _ hy)⟩
    obtain ⟨y, hy, e⟩ := List.mem_map.mp z
    exact nd'.1 (by rw [← phi_inj hf (h y (List.mem_cons_of_mem _ hy)) (h x List.mem_cons_self) e]; exact hy)
theorem phi_beg {L a : Str} {f : Nat → Nat} (ha : begS a = true) (hl : ∀ c ∈ L.cps.toList, ltrN (f c) = true) {x : Str} (hx : OfL L x) : begS (phi a f x) = true := by
  show (phi a f x).cps.toList.all ltrN = true
  rw [phi_list, List.all_append, Bool.and_eq_true]
  refine ⟨ha, List.all_eq_true.mpr fun c hc => ?_⟩
  obtain ⟨d, hd, rfl⟩ := List.mem_map.mp hc
  exact hl d (hx d hd)
/-- what the letters are changed in -/
structure SeenL (L : Str) (xs : List Str) (s : Scr) : Prop where
  ok : ScrOk s
  sh : shows xs s = true
  bo : OfL L s.b
  bl : s.b.length ≤ 61
theorem dress_ok {L a : Str} {f : Nat → Nat} (hf : InjL L f) (ha : begS a = true) (al : a.length ≤ 20) (hl : ∀ c ∈ L.cps.toList, ltrN (f c) = true) {xs : List Str} {s : Scr} (hb : BkOk 1000 xs) (hx : ∀ x ∈ xs, OfL L x) (h : SeenL L xs s) : ScrOk (dressS a f s) := by
  have yx : ∀ y ∈ s.ys, y ∈ xs := fun y hy => (ys_sub h.sh).subset hy
  refine ⟨phi_beg ha hl h.bo, ?_, h.ok.l1, h.ok.l2, ?_, nodup_phi hf h.ok.w.1 fun y hy => hx y (yx y hy), fun z hz => ?_⟩
  · show (phi a f s.b).length ≤ 90
    rw [phi_len]
    have := h.bl
    omega
  · show (s.ys.map _).length ≤ s.l
    rw [List.length_map]
    exact h.ok.n
  · obtain ⟨y, hy, rfl⟩ := List.mem_map.mp (show z ∈ s.ys.map (phi a f) from hz)
    have hw := hb.2.2 y (yx y hy)
    have yl : 1 ≤ y.length := by
      rcases Nat.eq_zero_or_pos y.length with z | z
      · exfalso
        have e : y = Str.empty := str_ext (by
          have z2 := List.length_eq_zero_iff.mp (show y.cps.toList.length = 0 by rw [← len_list]; exact z)
          rw [z2]
          rfl)
        have hw1 := hw.1
        rw [e] at hw1
        revert hw1
        decide
      · exact z
    refine ⟨⟨wordS_of (phi_beg ha hl (hx y (yx y hy))) (by rw [phi_len]; omega), by rw [phi_len]; have := hw.2; omega⟩, ?_⟩
    show preS (phi a f s.b) (phi a f y) = true
    rw [phi_pre hf h.bo (hx y (yx y hy))]
    exact (h.ok.w.2 y hy).2
theorem dress_known {a : Str} {f : Nat → Nat} {ss : List Scr} : (knownS (ss.map (dressS a f))).length ≤ (knownS ss).length := by
  have h := nd_le (known_nd (ss.map (dressS a f))) (m := (knownS ss).map (phi a f)) fun z hz => by
    obtain ⟨s', hm, hk⟩ := mem_known.mp hz
    obtain ⟨s, hs, rfl⟩ := List.mem_map.mp hm
    obtain ⟨y, hy, rfl⟩ := List.mem_map.mp (show z ∈ s.ys.map (phi a f) from hk)
    exact List.mem_map.mpr ⟨y, mem_known.mpr ⟨s, hs, hy⟩, rfl⟩
  rw [List.length_map] at h
  exact h
theorem join_map (f : Nat → Nat) (x : Str) : Txt.join Str.empty (x.cps.toList.map fun z => (⟨#[f z]⟩ : Str)) = mapS f x := by
  refine str_ext ?_
  rw [join_empty, mapS_list, List.map_map]
  generalize x.cps.toList = l
  induction l with
  | nil => rfl
  | cons c l ih =>
    rw [List.map_cons, List.flatten_cons, ih, List.map_cons]
    rfl
/-- three letters for a, b and x -/
def chF (n1 n2 n3 : Nat) (c : Nat) : Nat := if c = 97 then n1 else if c = 98 then n2 else n3
def chD (n1 n2 n3 : Nat) : List (PyData × PyData) := [(.str "a", .str ⟨#[n1]⟩), (.str "b", .str ⟨#[n2]⟩), (.str "x", .str ⟨#[n3]⟩)]
theorem abx_mem {c : Nat} (h : c ∈ ("abx" : Str).cps.toList) : c = 97 ∨ c = 98 ∨ c = 120 := by
  have : ("abx" : Str).cps.toList = [97, 98, 120] := by decide
  rw [this] at h
  simpa using h
theorem ch_look {n1 n2 n3 c : Nat} (h : c ∈ ("abx" : Str).cps.toList) : lookD (chD n1 n2 n3) ⟨#[c]⟩ = some (.str ⟨#[chF n1 n2 n3 c]⟩) := by
  rcases abx_mem h with rfl | rfl | rfl <;> rfl
theorem ch_inj {n1 n2 n3 : Nat} (h1 : n1 ≠ n2) (h2 : n1 ≠ n3) (h3 : n2 ≠ n3) : InjL "abx" (chF n1 n2 n3) := fun c hc d hd e => by
  rcases abx_mem hc with rfl | rfl | rfl <;> rcases abx_mem hd with rfl | rfl | rfl <;> first | rfl | (exfalso; revert e; show _ = _ → False; simp [chF]; omega)
theorem ch_ltr {n1 n2 n3 : Nat} (h1 : ltrN n1 = true) (h2 : ltrN n2 = true) (h3 : ltrN n3 = true) : ∀ c ∈ ("abx" : Str).cps.toList, ltrN (chF n1 n2 n3 c) = true := fun c hc => by
  rcases abx_mem hc with rfl | rfl | rfl
  · exact h1
  · exact h2
  · exact h3
def StrOL (L : Str) (n : Nat) (d : PyData) : Prop := ∃ y : Str, d = .str y ∧ (begS y = true ∧ y.length ≤ n) ∧ OfL L y
end DL
namespace DL
open PySem PySem.Spec L2
theorem abb_abx (c : Nat) (h : c ∈ ("abb" : Str).cps.toList) : c ∈ ("abx" : Str).cps.toList := by
  have e1 : ("abb" : Str).cps.toList = [97, 98, 98] := by decide
  have e2 : ("abx" : Str).cps.toList = [97, 98, 120] := by decide
  rw [e1] at h
  rw [e2]
  simp only [List.mem_cons, List.not_mem_nil, or_false] at h ⊢
  rcases h with h | h | h
  · exact .inl h
  · exact .inr (.inl h)
  · exact .inr (.inl h)
end DL
namespace DL
open PySem PySem.Spec L2
theorem wip_len : ∀ (ρ : List SV) (vs : List Nat), (wip ρ vs).length = ρ.length
  | _, [] => rfl
  | ρ, v :: vs => by
    show ((wip ρ vs).set v .no).length = _
    rw [List.length_set, wip_len]
theorem wip_out {ρ : List SV} {i : Nat} {x : SV} : ∀ {vs : List Nat}, i ∉ vs → ρ[i]? = some x → (wip ρ vs)[i]? = some x
  | [], _, h => h
  | v :: vs, hn, h => by
    show ((wip ρ vs).set v .no)[i]? = some x
    rw [List.getElem?_set_ne fun e => hn (by rw [e]; exact List.mem_cons_self)]
    exact wip_out (fun z => hn (List.mem_cons_of_mem _ z)) h
end DL
namespace DL
open PySem PySem.Spec L2
theorem rows_ne {xs : List Str} {ss : List Scr} (nd : xs.Nodup) (hs : ∀ s ∈ ss, ScrOk s ∧ shows xs s = true) : ((ordI (knownS ss)).filter (fitsAll ss)) ≠ [] := fun z => by
  have fit0 := known_fits (ss := ss) fun s hm => (hs s hm).2
  have p0 : (xs.filter fun x => decide (x ∈ knownS ss)).Perm (knownS ss) := perm_nd (nd.sublist List.filter_sublist) (known_nd ss) fun z => by
    rw [List.mem_filter]
    refine ⟨fun h => of_decide_eq_true h.2, fun h => ⟨?_, decide_eq_true h⟩⟩
    obtain ⟨s, hm, hk⟩ := mem_known.mp h
    exact (ys_sub (hs s hm).2).subset hk
  have := (List.mem_filter.mpr ⟨ordI_mem rfl p0, List.all_eq_true.mpr fit0⟩ : (xs.filter fun x => decide (x ∈ knownS ss)) ∈ (ordI (knownS ss)).filter (fitsAll ss))
  rw [z] at this
  exact absurd this List.not_mem_nil
def latP (x y : Str) (d : PyData) : Bool := decide ((rowOf d).idxOf y < (rowOf d).idxOf x)
theorem lat_any (x y : Str) (rows : List (List Str)) : ((rows.map strsD).any (latP x y)) = rows.any fun R => decide (R.idxOf y < R.idxOf x) := by
  rw [List.any_map]
  congr 1
  funext R
  show decide ((rowOf (strsD R)).idxOf y < (rowOf (strsD R)).idxOf x) = _
  rw [rowOf_strs]
end DL

set_option linter.all false
set_option maxRecDepth 100000
set_option maxHeartbeats 4000000
/-! Screens of which no two clash are shown by some order of their words; screens with changes. -/
namespace DL
open PySem PySem.Spec L2
/-- words in an order that keeps a partial order -/
theorem linear {α : Type} [DecidableEq α] (P : α → α → Bool) : ∀ {l : List α}, l.Nodup → (∀ x ∈ l, ∀ y ∈ l, P x y = true → P y x = false) → (∀ x ∈ l, ∀ y ∈ l, ∀ z ∈ l, P x y = true → P y z = true → P x z = true) → ∃ R : List α, R.Perm l ∧ ∀ x ∈ R, ∀ y ∈ R, P x y = true → [x, y].Sublist R
  | [], _, _, _ => ⟨[], .nil, fun x h => absurd h List.not_mem_nil⟩
  | k :: l, nd, as, tr => by
    obtain ⟨nk, nl⟩ := List.nodup_cons.mp nd
    obtain ⟨R, pm, hR⟩ := linear P nl (fun x hx y hy => as x (List.mem_cons_of_mem _ hx) y (List.mem_cons_of_mem _ hy)) fun x hx y hy z hz => tr x (List.mem_cons_of_mem _ hx) y (List.mem_cons_of_mem _ hy) z (List.mem_cons_of_mem _ hz)
    have rl : ∀ {x}, x ∈ R → x ∈ l := fun h => pm.mem_iff.mp h
    have k0 : k ∈ k :: l := List.mem_cons_self
    have up : ∀ {x}, x ∈ R → x ∈ k :: l := fun h => List.mem_cons_of_mem _ (rl h)
    refine ⟨R.filter (P · k) ++ k :: R.filter fun y => !P y k, ?_, ?_⟩
    · refine List.perm_middle.trans (List.Perm.cons _ ?_)
      exact (List.filter_append_perm _ R).trans pm
    · intro x hx y hy hp
      have cx : x = k ∨ x ∈ R := by
        rcases List.mem_append.mp hx with h | h
        · exact .inr (List.mem_filter.mp h).1
        · rcases List.mem_cons.mp h with h | h
          · exact .inl h
          · exact .inr (List.mem_filter.mp h).1
      have cy : y = k ∨ y ∈ R := by
        rcases List.mem_append.mp hy with h | h
        · exact .inr (List.mem_filter.mp h).1
        · rcases List.mem_cons.mp h with h | h
          · exact .inl h
          · exact .inr (List.mem_filter.mp h).1
      have irr : ∀ z ∈ k :: l, P z z = true → False := fun z hz h => by
        have := as z hz z hz h
        rw [h] at this
        cases this
      rcases cx with rfl | cx
      · rcases cy with rfl | cy
        · exact (irr _ k0 hp).elim
        · have h1 := as _ k0 _ (up cy) hp
          refine List.Sublist.trans ?_ (List.sublist_append_right _ _)
          refine List.Sublist.cons_cons _ (List.singleton_sublist.mpr (List.mem_filter.mpr ⟨cy, ?_⟩))
          rw [h1]
          rfl
      · rcases cy with rfl | cy
        · have h2 : [x, y] = [x] ++ [y] := rfl
          rw [h2]
          exact List.Sublist.append (List.singleton_sublist.mpr (List.mem_filter.mpr ⟨cx, hp⟩)) (List.Sublist.cons_cons _ (List.nil_sublist _))
        · have sub := hR x cx y cy hp
          cases py : P y k with
          | true =>
            have px := tr x (up cx) y (up cy) k k0 hp py
            exact List.Sublist.trans ((sub2_filter (p := (P · k)) px py).mpr sub) (List.sublist_append_left _ _)
          | false =>
            cases px : P x k with
            | true =>
              have h2 : [x, y] = [x] ++ [y] := rfl
              rw [h2]
              exact List.Sublist.append (List.singleton_sublist.mpr (List.mem_filter.mpr ⟨cx, px⟩)) (List.Sublist.trans (List.singleton_sublist.mpr (List.mem_filter.mpr ⟨cy, by rw [py]; rfl⟩)) (List.sublist_cons_self _ _))
            | false =>
              refine List.Sublist.trans ((sub2_filter (p := fun y => !P y k) (by rw [px]; rfl) (by rw [py]; rfl)).mpr sub) (List.Sublist.trans (List.sublist_cons_self _ _) (List.sublist_append_right _ _))
/-- what stands in front of all others is how the list begins -/
theorem front_pre {α : Type} [DecidableEq α] : ∀ {ys F : List α}, ys.Nodup → F.Nodup → (∀ x ∈ ys, x ∈ F) → (∀ x ∈ ys, ∀ y ∈ F, x ≠ y → (y ∉ ys ∨ [x, y].Sublist ys) → [x, y].Sublist F) → ∃ Z, F = ys ++ Z
  | [], F, _, _, _, _ => ⟨F, rfl⟩
  | a :: ys, [], _, _, h, _ => absurd (h a List.mem_cons_self) List.not_mem_nil
  | a :: ys, f :: F, n1, n2, h1, h2 => by
    obtain ⟨na, n1⟩ := List.nodup_cons.mp n1
    obtain ⟨nf, n2'⟩ := List.nodup_cons.mp n2
    have e : a = f := Classical.byContradiction fun ne => by
      have hs := h2 a List.mem_cons_self f List.mem_cons_self ne (by
        by_cases hf : f ∈ ys
        · exact .inr (List.Sublist.cons_cons _ (List.singleton_sublist.mpr hf))
        · exact .inl fun z => by
            rcases List.mem_cons.mp z with z | z
            · exact ne z.symm
            · exact hf z)
      rcases sub2_cons.mp hs with ⟨e, _⟩ | hs
      · exact ne e
      · exact nf (hs.subset (by simp))
    subst e
    obtain ⟨Z, hZ⟩ := front_pre (ys := ys) (F := F) n1 n2' (fun x hx => by
      rcases List.mem_cons.mp (h1 x (List.mem_cons_of_mem _ hx)) with e | h
      · rw [e] at hx; exact absurd hx na
      · exact h) fun x hx y hy ne hd => by
      have ya : y ≠ a := fun e => nf (e ▸ hy)
      have xa : x ≠ a := fun e => na (e ▸ hx)
      have hs := h2 x (List.mem_cons_of_mem _ hx) y (List.mem_cons_of_mem _ hy) ne (by
        rcases hd with hd | hd
        · exact .inl fun z => by
            rcases List.mem_cons.mp z with z | z
            · exact ya z
            · exact hd z
        · exact .inr (hd.cons _))
      rcases sub2_cons.mp hs with ⟨e, _⟩ | hs
      · exact absurd e xa
      · exact hs
    exact ⟨Z, by rw [hZ]; rfl⟩
def prec (ss : List Scr) (x y : Str) : Bool := ss.any fun s => putsS s x y
theorem prec_iff {ss : List Scr} {x y : Str} : prec ss x y = true ↔ ∃ s ∈ ss, putsS s x y = true := List.any_eq_true
theorem torn_none {ss : List Scr} (h : tornAll ss = false) {s t : Scr} (hs : s ∈ ss) (ht : t ∈ ss) : (∀ w ∈ t.ys, missS s w = false) ∧ ∀ x ∈ s.ys, ∀ y ∈ t.ys, putsS s x y = true → putsS t y x = true → False := by
  have h1 : tornS s t = false := by
    cases e : tornS s t with
    | false => rfl
    | true =>
      have : tornAll ss = true := List.any_eq_true.mpr ⟨s, hs, List.any_eq_true.mpr ⟨t, ht, e⟩⟩
      rw [h] at this
      cases this
  unfold tornS at h1
  rw [Bool.or_eq_false_iff] at h1
  refine ⟨fun w hw => ?_, fun x hx y hy p q => ?_⟩
  · cases e : missS s w with
    | false => rfl
    | true =>
      have := List.any_eq_true.mpr ⟨w, hw, e⟩
      rw [h1.1] at this
      cases this
  · have : (s.ys.any fun x => t.ys.any fun y => putsS s x y && putsS t y x) = true := List.any_eq_true.mpr ⟨x, hx, List.any_eq_true.mpr ⟨y, hy, show (putsS s x y && putsS t y x) = true by rw [p, q]; rfl⟩⟩
    rw [h1.2] at this
    cases this
theorem prec_asym {ss : List Scr} (hk : ∀ s ∈ ss, ScrOk s) (h : tornAll ss = false) {x y : Str} (p : prec ss x y = true) : prec ss y x = false := by
  cases q : prec ss y x with
  | false => rfl
  | true =>
    obtain ⟨s, hs, p⟩ := prec_iff.mp p
    obtain ⟨t, ht, q⟩ := prec_iff.mp q
    exact ((torn_none h hs ht).2 x ((putsS_iff (hk s hs)).mp p).1 y ((putsS_iff (hk t ht)).mp q).1 p q).elim
theorem prec_trans {ss : List Scr} (hk : ∀ s ∈ ss, ScrOk s) (h : tornAll ss = false) {t u v : Str} (p1 : prec ss t u = true) (p2 : prec ss u v = true) : prec ss t v = true := by
  obtain ⟨s, hs, p1⟩ := prec_iff.mp p1
  obtain ⟨s', hs', p2⟩ := prec_iff.mp p2
  have k1 := hk s hs
  have k2 := hk s' hs'
  have a1 := (putsS_iff k1).mp p1
  have a2 := (putsS_iff k2).mp p2
  have pu : preS s'.b u = true := (k2.w.2 u a2.1).2
  have no : ∀ {r : Scr}, r ∈ ss → ∀ {x y : Str}, putsS s x y = true → putsS r y x = true → False := fun {r} hr {x y} g1 g2 => (torn_none h hs hr).2 x ((putsS_iff k1).mp g1).1 y ((putsS_iff (hk _ hr)).mp g2).1 g1 g2
  rcases pre_two a1.2.2.1 pu with hb | hb
  · -- the first beginning is the shorter one
    have pv : preS s.b v = true := preS_trans hb a2.2.2.1
    refine prec_iff.mpr ⟨s, hs, (putsS_iff k1).mpr ⟨a1.1, ?_, pv, ?_⟩⟩
    · rintro rfl
      exact no hs' p1 p2
    · by_cases hv : v ∈ s.ys
      · refine .inr ?_
        rcases a1.2.2.2 with hu | hu
        · exact (no hs' ((putsS_iff k1).mpr ⟨hv, fun e => a2.2.1 e.symm, a1.2.2.1, .inl hu⟩) p2).elim
        · have hum : u ∈ s.ys := hu.subset (by simp)
          rcases sub_two k1.w.1 hum hv a2.2.1 with g | g
          · have hi := (idx_sub2 k1.w.1 a1.1 hum).mpr hu
            have hj := (idx_sub2 k1.w.1 hum hv).mpr g
            exact (idx_sub2 k1.w.1 a1.1 hv).mp (by omega)
          · exact (no hs' ((putsS_iff k1).mpr ⟨hv, fun e => a2.2.1 e.symm, a1.2.2.1, .inr g⟩) p2).elim
      · exact .inl hv
  · -- the second one is
    have pt : preS s'.b t = true := preS_trans hb (k1.w.2 t a1.1).2
    have ht : t ∈ s'.ys := Classical.byContradiction fun ht => no hs' p1 ((putsS_iff k2).mpr ⟨a2.1, fun e => a1.2.1 e.symm, pt, .inl ht⟩)
    have tu : [t, u].Sublist s'.ys := by
      rcases sub_two k2.w.1 ht a2.1 a1.2.1 with g | g
      · exact g
      · exact (no hs' p1 ((putsS_iff k2).mpr ⟨a2.1, fun e => a1.2.1 e.symm, pt, .inr g⟩)).elim
    refine prec_iff.mpr ⟨s', hs', (putsS_iff k2).mpr ⟨ht, ?_, a2.2.2.1, ?_⟩⟩
    · rintro rfl
      exact no hs' p1 p2
    · rcases a2.2.2.2 with hv | hv
      · exact .inl hv
      · have hvm : v ∈ s'.ys := hv.subset (by simp)
        have hi := (idx_sub2 k2.w.1 ht a2.1).mpr tu
        have hj := (idx_sub2 k2.w.1 a2.1 hvm).mpr hv
        exact .inr ((idx_sub2 k2.w.1 ht hvm).mp (by omega))
/-- no two clash: some order shows all -/
theorem rows_of {ss : List Scr} (hk : ∀ s ∈ ss, ScrOk s) (h : tornAll ss = false) : (ordI (knownS ss)).filter (fitsAll ss) ≠ [] := by
  obtain ⟨R, pm, hR⟩ := linear (prec ss) (known_nd ss) (fun x _ y _ p => prec_asym hk h p) fun x _ y _ z _ p q => prec_trans hk h p q
  have nd : R.Nodup := pm.nodup_iff.mpr (known_nd ss)
  have fit : fitsAll ss R = true := List.all_eq_true.mpr fun s hs => by
    have k1 := hk s hs
    have nF : (R.filter (preS s.b)).Nodup := nd.sublist List.filter_sublist
    obtain ⟨Z, hZ⟩ := front_pre (ys := s.ys) (F := R.filter (preS s.b)) k1.w.1 nF (fun x hx => List.mem_filter.mpr ⟨pm.mem_iff.mpr (mem_known.mpr ⟨s, hs, hx⟩), (k1.w.2 x hx).2⟩) fun x hx y hy ne hd => by
      have hy' := List.mem_filter.mp hy
      have px : preS s.b x = true := (k1.w.2 x hx).2
      exact (sub2_filter px hy'.2).mpr (hR x (pm.mem_iff.mpr (mem_known.mpr ⟨s, hs, hx⟩)) y hy'.1 (prec_iff.mpr ⟨s, hs, (putsS_iff k1).mpr ⟨hx, ne, hy'.2, hd⟩⟩))
    refine shows_iff.mpr ?_
    rw [hZ]
    rcases Nat.lt_or_ge s.ys.length s.l with lt | ge
    · have z0 : Z = [] := List.eq_nil_iff_forall_not_mem.mpr fun z hz => by
        have hz' : z ∈ R.filter (preS s.b) := by rw [hZ]; exact List.mem_append_right _ hz
        have hz2 := List.mem_filter.mp hz'
        have zn : z ∉ s.ys := fun zy => by
          rw [hZ] at nF
          exact (List.nodup_append.mp nF).2.2 z zy z hz rfl
        obtain ⟨t, ht, hzt⟩ := mem_known.mp (pm.mem_iff.mp hz2.1)
        have := (torn_none h hs ht).1 z hzt
        unfold missS at this
        rw [decide_eq_true lt, hz2.2, decide_eq_false zn] at this
        cases this
      rw [z0, List.append_nil]
      exact List.take_of_length_le (by omega)
    · have e : s.l = s.ys.length := by have := k1.n; omega
      rw [e, List.take_left']
      rfl
  intro z
  have := (List.mem_filter.mpr ⟨ordI_mem rfl pm, fit⟩ : R ∈ (ordI (knownS ss)).filter (fitsAll ss))
  rw [z] at this
  exact absurd this List.not_mem_nil
theorem rows_torn {ss : List Scr} (hk : ∀ s ∈ ss, ScrOk s) : ((ordI (knownS ss)).filter (fitsAll ss)).isEmpty = tornAll ss := by
  cases h : tornAll ss with
  | false =>
    have := rows_of hk h
    cases e : (ordI (knownS ss)).filter (fitsAll ss) with
    | nil => exact absurd e this
    | cons _ _ => rfl
  | true =>
    cases e : (ordI (knownS ss)).filter (fitsAll ss) with
    | nil => rfl
    | cons R l =>
      have hm := List.mem_filter.mp (show R ∈ (ordI (knownS ss)).filter (fitsAll ss) by rw [e]; exact List.mem_cons_self)
      have nd : R.Nodup := (ordI_perm rfl hm.1).nodup_iff.mpr (known_nd ss)
      rw [untorn nd fun s hs => ⟨hk s hs, List.all_eq_true.mp hm.2 s hs⟩] at h
      cases h
/-- screens with changes, whose letters can be changed -/
structure LooseL (L : Str) (s : Scr) : Prop where
  ok : ScrOk s
  bo : OfL L s.b
  bl : s.b.length ≤ 61
  yo : ∀ y ∈ s.ys, OfL L y ∧ y.length ≤ 70
theorem SeenL.loose {L : Str} {xs : List Str} {s : Scr} (hb : BkOk 1000 xs) (hx : ∀ x ∈ xs, OfL L x) (h : SeenL L xs s) : LooseL L s :=
  ⟨h.ok, h.bo, h.bl, fun y hy => ⟨hx y ((ys_sub h.sh).subset hy), by have := (hb.2.2 y ((ys_sub h.sh).subset hy)).2; omega⟩⟩
theorem dress_okL {L a : Str} {f : Nat → Nat} (hf : InjL L f) (ha : begS a = true) (al : a.length ≤ 20) (hl : ∀ c ∈ L.cps.toList, ltrN (f c) = true) {s : Scr} (h : LooseL L s) : ScrOk (dressS a f s) := by
  refine ⟨phi_beg ha hl h.bo, ?_, h.ok.l1, h.ok.l2, ?_, nodup_phi hf h.ok.w.1 fun y hy => (h.yo y hy).1, fun z hz => ?_⟩
  · show (phi a f s.b).length ≤ 90
    rw [phi_len]
    have := h.bl
    omega
  · show (s.ys.map _).length ≤ s.l
    rw [List.length_map]
    exact h.ok.n
  · obtain ⟨y, hy, rfl⟩ := List.mem_map.mp (show z ∈ s.ys.map (phi a f) from hz)
    have hw := h.ok.w.2 y hy
    have hy' := h.yo y hy
    have yl : 1 ≤ y.length := by
      rcases Nat.eq_zero_or_pos y.length with z | z
      · exfalso
        have e : y = Str.empty := str_ext (by
          have z2 := List.length_eq_zero_iff.mp (show y.cps.toList.length = 0 by rw [← len_list]; exact z)
          rw [z2]
          rfl)
        have hw1 := hw.1.1
        rw [e] at hw1
        revert hw1
        decide
      · exact z
    refine ⟨⟨wordS_of (phi_beg ha hl hy'.1) (by rw [phi_len]; omega), by rw [phi_len]; have := hy'.2; omega⟩, ?_⟩
    show preS (phi a f s.b) (phi a f y) = true
    rw [phi_pre hf h.bo hy'.1]
    exact hw.2
theorem cld_reprT {ds : List PyData} (hp : (PyData.tuple ds).plain = true) (hs : (PyData.tuple ds).showable = true) (hd : (PyData.tuple ds).depth ≤ 60) (hl : (PyData.tuple ds).shown.length ≤ sizeLine) : Cld rReprPN [.tuple ds] (· = .str (PyData.tuple ds).shown) := fun H vs Q k q => by
  cases k with
  | cons h t =>
    cases t
    exact .inl ⟨_, _, rfl, h, hp, hs, hd, hl, by cases h; exact ⟨_, rfl⟩, q _ _ (fun G => .str _) rfl⟩
theorem cld_clash {ss : List Scr} {d : PyData} (hn : ss.length ≤ 20) (hk : ∀ s ∈ ss, ScrOk s) (h : clashF ss = some d) : ∃ t : Str, Cld rReprPN [d] (· = .str t) := by
  obtain ⟨i, k, s, t, hi, hj, hp⟩ := clashF_at h
  have hs := hk s (List.mem_of_getElem? hi)
  have ht := hk t (List.mem_of_getElem? hj)
  have li : i < ss.length := (List.getElem?_eq_some_iff.mp hi).1
  have lk : k < ss.length := (List.getElem?_eq_some_iff.mp hj).1
  have wl : ∀ {x : Str} {u : Scr}, ScrOk u → x ∈ u.ys → (PyData.str x).shown.length ≤ 1002 := fun {x u} hu h => by
    have hw := (hu.w.2 x h).1
    exact shown_wl (n := 100) (wordS_beg hw.1) hw.2
  have i1 := shown_int20 i (by omega)
  have i2 := shown_int20 k (by omega)
  have s1 := showable20 i (by omega)
  have s2 := showable20 k (by omega)
  have hz := sizeLine_eq
  unfold pairF at hp
  cases hf : t.ys.find? (missS s) with
  | some w =>
    rw [hf] at hp
    cases hp
    refine ⟨_, cld_reprT rfl ?_ ?_ ?_⟩
    · simp [PyData.showable, PyData.showableAll] at s1 s2 ⊢
      exact ⟨s1, s2⟩
    · simp [PyData.depth, PyData.depthAll]
    · have := wl ht (List.mem_of_find?_eq_some hf)
      refine Nat.le_trans (shownT_le (m := 1002) fun d hd => ?_) (by show 4 * (1002 + 2) + 3 ≤ sizeLine; omega)
      simp only [List.mem_cons, List.not_mem_nil, or_false] at hd
      have km : (PyData.str "missing").shown.length ≤ 1002 := shown_wl (n := 100) (x := "missing") (by decide) (by decide)
      rcases hd with rfl | rfl | rfl | rfl <;> omega
  | none =>
    rw [hf] at hp
    cases hsw : swapS s t with
    | none => rw [hsw] at hp; cases hp
    | some p =>
      rw [hsw] at hp
      cases hp
      obtain ⟨p1, p2, p3, p4⟩ := swapS_puts hs ht (x := p.1) (y := p.2) hsw
      refine ⟨_, cld_reprT rfl ?_ ?_ ?_⟩
      · simp [PyData.showable, PyData.showableAll] at s1 s2 ⊢
        exact ⟨s1, s2⟩
      · simp [PyData.depth, PyData.depthAll]
      · have w1 := wl hs p1
        have w2 := wl ht p2
        refine Nat.le_trans (shownT_le (m := 1002) fun d hd => ?_) (by show 5 * (1002 + 2) + 3 ≤ sizeLine; omega)
        simp only [List.mem_cons, List.not_mem_nil, or_false] at hd
        have km : (PyData.str "order").shown.length ≤ 1002 := shown_wl (n := 100) (x := "order") (by decide) (by decide)
        rcases hd with rfl | rfl | rfl | rfl | rfl <;> omega
end DL

set_option linter.all false
set_option maxRecDepth 100000
set_option maxHeartbeats 4000000
/-! DLB: sorted with a lambda as the key -/
namespace DL
open PySem PySem.Spec L2 PyProof.Rows
theorem lam_len {prog : Program} {w : World} {A : Around} {s : Shared} {f c' a : Addr} {q row : Str} {params : Arguments} {scope : Scope} {cl : List (Str × Addr)} {pm ctv : Value} {p1 p2 p3 p4 p5 : Pos} {j : Nat} {mg mb : Str → Option Value} {its : Array Value} {x : Str} {t : Tok}
    (hroom : A.depth < recursionLimit) (lim : s.heap.NoLimit) (hg : s.heap.Ns mainGlobals mg) (hm : mg "len" = none) (hb : s.heap.Ns builtinsNs mb) (hl : mb "len" = some (.builtin "len"))
    (hf : s.heap.get? f = some (PySem.W.kla_obj "<lambda>" q params (.Call (.Name "len" p1) [.Subscript (.Name row p2) (.Constant (.int 0) j p3) p4] [] p5) scope cl pm c' ctv)) (hcd : s.heap.CodeRec (.ref c') q)
    (hbind : ∀ (b : Expr) (v : Value), bindArgs (PySem.W.kla_fn "<lambda>" q params b scope cl pm (.ref c') ctv) ⟨[v], []⟩ = pure [(row, v)])
    (hk : scope.kind = .function) (hco : scope.isCoroutine = false) (hgen : scope.isGenerator = false) (hcell : ∀ y ∈ scope.names, y.2 ≠ .cell) (hrow : scope.names.lookup row = some .local) (hlen : scope.names.lookup (Str.ofString "len") = some NameKind.globalImplicit) (hd : (row == ("__debug__" : Str)) = false)
    (ht : IsTup s.heap a its) (hx : its[0]? = some (.str x t)) (hsz : its.size < 1000000) (hxl : x.length < 1000000) :
    wpAny (model prog w) A (call (.ref f) [.ref a]) (PySem.W.KeyPure (.int x.length) s) (fun _ _ => False) s := by
  have rc : codeAny (model prog w) A (.call (.ref f) ⟨[.ref a], []⟩) (fun r s' => ∃ v, r = .ok (.ret v) ∧ PySem.W.KeyPure (.int x.length) s v s') s := by
    refine PySem.W.kla_callFunE hroom hf rfl hco hgen rfl hcd ?_
    rw [hbind]
    refine wpAny_pure (wpAny_newFunctionEnv hcell (fun y hy => by rw [List.mem_singleton.mp hy]; exact hrow) (fun h₁ hns hsb => ?_) hk)
    have kp : ∀ b o, s.heap.get? b = some o → h₁.get? b = some o := fun b o e => hsb.extBut b o (Nat.ne_of_lt (Heap.lt_size e)) (Heap.get?_push_of_some _ e)
    refine ⟨lim.fresh _ hsb, ?_⟩
    show codeAny _ _ (.expr _ (PySem.W.envX q scope s.heap.objs.size f (.ref c') cl)) _ _
    refine PySem.W.kla_codeExpr ?_
    have ht1 := ht.keeps kp
    refine wpAny_Call_Name_kw (Calls.Name_function_global hk hlen (Calls.loadGlobal_builtin (hg.keeps kp) hm (hb.keeps kp) hl ?_) (by decide))
    refine PySem.callWith_builtin1 ?_
    refine PySem.Subscript_Constant (wpAny_Name (wpAny_loadName_local (v := .ref a) hk hrow hns (by simp) ?_) hd)
    refine wpAny_Constant_int ⟨"tuple", _, slot_tuple_getitem.lookup, ht1.typeIs, ?_⟩
    have hj : 0 < its.size := (Array.getElem?_eq_some_iff.mp hx).1
    refine getItem_tuple (j := 0) ht1 (by decide) (by decide) (by unfold seqIndex?; simp [hj]) hx ?_
    refine PySem.P.len_str (by omega) ?_
    exact ⟨_, rfl, _, _, rfl, kp, .int _ _⟩
  refine wpAny_call (codeAny_mono rc fun r s' hq => ?_)
  obtain ⟨v, rfl, hq⟩ := hq
  exact hq
section
variable {X : Cx} {pins : List (Addr × Obj)} {σ : L2.St} {H : Hp} {s : Shared}
/-- all but the object at P stays -/
def ButP (P : Addr) (H H' : Hp) : Prop := ∀ b o, b ≠ P → H b = some o → H' b = some o
/-- a lambda is made: nothing but its maker's table changes -/
theorem lam_new {T : List (Addr × Str)} {c P : Addr} {params : Arguments} {body : Expr} {scope : Scope} {pos : Pos} {E : Value → Shared → Prop} {Q : Value → Shared → Prop} (I : Inv X pins σ H s) (TB : LamX.TabB X.base X.mg c P) (hcode : X.env.code = .ref c)
    (hm : (P, X.env.qual ++ "<lambda>") ∈ T) (hu : ∀ p ∈ T, p.1 = P → p.2 = X.env.qual ++ "<lambda>") (hT : LamX.Tabs T H) (hdef : defaultsOf params X.env = ([], [])) (hfree : ∀ y ∈ scope.names, y.2 = .free → ∃ c, X.env.cells.lookup y.1 = some c)
    (h : ∀ (f c' : Addr) (cl : List (Str × Addr)) (pm ctv : Value) (H1 : Hp) (s' : Shared), Inv X pins σ H1 s' → ButP P H H1 → LamX.Tabs T H1 → s'.heap.get? f = some (PySem.W.kla_obj "<lambda>" (X.env.qual ++ "<lambda>") params body scope cl pm c' ctv) → H1 c' = some (LamX.CodeO c' (X.env.qual ++ "<lambda>")) → Q (.ref f) s') :
    wpAny (model X.prog X.w) X.A (eval (.Lambda params body scope pos) X.env) Q E s := by
  have q0 := hT _ hm
  obtain ⟨ps, hP, okp, known⟩ := q0
  have inH : s.heap.get? P = some { cls := .none, data := .fields ps } := I.hok P _ hP
  have clos := closure_ok hfree
  have glob := I.mod.glob.keeps I.bk
  have head := TB.code.keeps I.bk
  have blt := TB.bm.keeps I.bk
  have other : ∀ (H1 : Hp), ButP P H H1 → (∀ p ∈ T, p.1 ≠ P → LamX.TabS H1 p.1 p.2) := fun H1 bp p hp ne => by
    obtain ⟨ps1, a1, a2, a3⟩ := hT p hp
    refine ⟨ps1, bp _ _ ne a1, a2, fun pos1 cv hc => ?_⟩
    obtain ⟨c1, e1, e2⟩ := a3 pos1 cv hc
    refine ⟨c1, e1, bp _ _ (fun z => ?_) e2⟩
    rw [z, hP] at e2
    exact LamX.codeO_ne ps (Option.some.inj e2).symm
  refine PySem.W.kla_eval hdef ?_
  cases hc : codeAmong pos ps.toList with
  | some cv =>
    obtain ⟨c1, rfl, e2⟩ := known pos cv hc
    refine PySem.W.kla_makeFunctionHit (mg := X.mg) (c := c) (P := P) (ps := ps) clos I.ok.glob glob hcode head inH okp hc blt fun ctv h' tk hx hsz => ?_
    exact h _ c1 _ _ ctv H _ (I.kept fun b o e => Heap.get?_push_of_some _ (hx b o e)) (fun b o _ e => e) hT (Heap.get?_push_size _ rfl) e2
  | none =>
    refine PySem.W.kla_makeFunction (mg := X.mg) (c := c) (P := P) (ps := ps) clos I.ok.glob glob hcode head inH okp hc TB.gP blt fun c1 ctv h' tk hx hge hlt hrec htb => ?_
    obtain ⟨c2, oc, vs, t, e2, hoc, hd, hv⟩ := hrec
    cases e2
    have nC : H c1 = none := I.hok.fresh hge
    have nPC : P ≠ c1 := fun z => by rw [z, nC] at hP; cases hP
    have I1 := LamX.inv_table (t' := tk) (more := #[rawInt pos.line, rawInt pos.col, .ref c1]) (h' := h'.push (PySem.W.kla_obj "<lambda>" (X.env.qual ++ "<lambda>") params body scope (cloFrom X.env.cells scope.names []) ((X.mg "__name__").getD .none) c1 ctv)) I hP
      (fun b o hb e => Heap.get?_push_of_some _ (hx b o hb e)) (Heap.get?_push_of_some _ htb) hge ⟨oc, vs, t, Heap.get?_push_of_some _ hoc, hd, hv⟩
    have bp : ButP P H (upd (upd H P (.tbl (ps ++ #[rawInt pos.line, rawInt pos.col, .ref c1]))) c1 (LamX.CodeO c1 (X.env.qual ++ "<lambda>"))) := fun b o ne e => by
      have n2 : b ≠ c1 := fun z => by rw [z, nC] at e; cases e
      rw [upd_ne n2, upd_ne ne]
      exact e
    refine h _ c1 _ _ ctv _ _ I1 bp (fun p hp => ?_) (Heap.get?_push_size _ rfl) upd_same
    by_cases hb : p.1 = P
    · rw [hu p hp hb, hb]
      refine ⟨ps ++ #[rawInt pos.line, rawInt pos.col, .ref c1], by rw [upd_ne nPC, upd_same], by rw [Array.toList_append]; exact PySem.TriplesOk_snoc _ _ _ _ okp, fun pos1 cv hcv => ?_⟩
      rw [Array.toList_append] at hcv
      rcases LamX.among_app _ okp hcv with z | z
      · obtain ⟨c0, e1, e2⟩ := known pos1 cv z
        exact ⟨c0, e1, bp _ _ (fun z => by rw [z, hP] at e2; exact LamX.codeO_ne ps (Option.some.inj e2).symm) e2⟩
      · exact ⟨c1, z, upd_same⟩
    · exact other _ bp p hp hb
end
/-- what a list of tuples that begin with a text reads as -/
def tSortLen (K : PySem.W.Frag) (T : List (Addr × Str)) (P : Addr) (te : TE) : TE := fun σ H Q => tCons te tNil σ H fun vs H1 => ∃ (l : Addr) (bs : List (Addr × Str)), vs = [.ref l] ∧ SqL K H1 l (bs.map fun b => V.ref b.1) ∧ (∀ b ∈ bs, b.2.length < 1000000 ∧ ∃ rest : List V, rest.length < 100000 ∧ SqT K H1 b.1 (.str b.2 :: rest)) ∧ LamX.Tabs T H1 ∧ (∃ ps, H1 P = some (.tbl ps)) ∧
  ∀ H2, ButP P H1 H2 → LamX.Tabs T H2 → ∀ p, H2 p = none → Q (.ref p) (upd H2 p (.lst ((bs.mergeSort fun a b => decide (a.2.length ≤ b.2.length)).map fun b => V.ref b.1)))
theorem rd_ext {H H' : Hp} {a P : Addr} {u : HO} (e : ButP P H H') (hp : ∃ ps, H P = some (.tbl ps)) (n : ∀ ps, u ≠ .tbl ps) (h : Rd H a u) : Rd H' a u := by
  obtain ⟨ps, hp⟩ := hp
  rcases h with h | ⟨o, h⟩
  · exact .inl (e _ _ (fun z => by rw [z, hp] at h; exact n ps (Option.some.inj h).symm) h)
  · exact .inr ⟨o, e _ _ (fun z => by rw [z, hp] at h; cases h) h⟩
theorem sqL_ext {K : PySem.W.Frag} {H H' : Hp} {a P : Addr} {xs : List V} (e : ButP P H H') (hp : ∃ ps, H P = some (.tbl ps)) (h : SqL K H a xs) : SqL K H' a xs := h.elim (fun h => .inl (rd_ext e hp (fun ps z => by cases z) h)) .inr
theorem sqT_ext {K : PySem.W.Frag} {H H' : Hp} {a P : Addr} {xs : List V} (e : ButP P H H') (hp : ∃ ps, H P = some (.tbl ps)) (h : SqT K H a xs) : SqT K H' a xs := h.elim (fun h => .inl (rd_ext e hp (fun ps z => by cases z) h)) .inr
theorem vals_each {bs : List (Addr × Str)} {vs : List Value} (h : PySem.W.EachIs (fun v b => v = Value.ref b.1) vs bs) : Vals (bs.map fun b => V.ref b.1) vs := by
  induction h with
  | nil => exact .nil
  | cons e _ ih => exact .cons e ih
theorem each_vals : ∀ {bs : List (Addr × Str)} {vs : List Value}, Vals (bs.map fun b => V.ref b.1) vs → PySem.W.EachIs (fun v b => v = Value.ref b.1) vs bs
  | [], _, h => by cases h; exact .nil
  | b :: bs, _, h => by
    cases h with
    | cons e h => exact .cons e (each_vals h)
section
variable {X : Cx}
/-- sorted(e, key=lambda row: len(row[0])) -/
theorem pe_sortLen {T : List (Addr × Str)} {c P : Addr} {k : Nat} {params : Arguments} {scope : Scope} {row : Str} {e : Expr} {te : TE} {p lpos pos kpos p1 p2 p3 p4 p5 : Pos} {j : Nat} (hg : Gl X "sorted") (hm : X.mg "sorted" = none) (hv : bootBuiltins "sorted" = some (.builtin "sorted")) (hlm : X.mg "len" = none) (hlv : bootBuiltins "len" = some (.builtin "len")) (ha : PE X e te)
    (TB : LamX.TabB X.base X.mg c P) (hcode : X.env.code = .ref c) (hmT : (P, X.env.qual ++ "<lambda>") ∈ T) (hu : ∀ p ∈ T, p.1 = P → p.2 = X.env.qual ++ "<lambda>") (hr : Room k X.A) (hdef : defaultsOf params X.env = ([], [])) (hfree : ∀ y ∈ scope.names, y.2 = .free → ∃ c, X.env.cells.lookup y.1 = some c)
    (hbind : ∀ (q : Str) (b : Expr) (cl : List (Str × Addr)) (pm cv ctv v : Value), bindArgs (PySem.W.kla_fn "<lambda>" q params b scope cl pm cv ctv) ⟨[v], []⟩ = pure [(row, v)])
    (hk : scope.kind = .function) (hco : scope.isCoroutine = false) (hgen : scope.isGenerator = false) (hcell : ∀ y ∈ scope.names, y.2 ≠ .cell) (hrow : scope.names.lookup row = some .local) (hlen : scope.names.lookup (Str.ofString "len") = some NameKind.globalImplicit) (hd : (row == ("__debug__" : Str)) = false)
    (he : starEach [e] X.env = [(false, eval e X.env)] := by rfl) :
    PE X (.Call (.Name "sorted" p) [e] [⟨some "key", .Lambda params (.Call (.Name "len" p1) [.Subscript (.Name row p2) (.Constant (.int 0) j p3) p4] [] p5) scope lpos, kpos⟩] pos) (tSortLen X.K T P te) := by
  refine ⟨fun pins s σ H Q I h => ?_⟩
  refine wpAny_Call_Name_kw (ld_blt I hg hm hv ?_ (by decide) (by decide))
  refine PyProof.Rows.callWith_kw (thn ((pa_cons ha pa_nil (hs := he)).run pos pins s σ H _ I h) fun us s1 ⟨vs, H1, I1, r1, q1⟩ => ?_) (by rw [he]; rfl) (by rw [he]; rfl) rfl rfl
  obtain ⟨l, bs, rfl, hl, hb, hT, hPt, q⟩ := q1
  obtain rfl := Vals.ref1 r1
  show wpAny _ _ (evalAll [do let v ← eval (.Lambda params (.Call (.Name "len" p1) [.Subscript (.Name row p2) (.Constant (.int 0) j p3) p4] [] p5) scope lpos) X.env; standAt pos; pure v]) _ _ s1
  refine wpAny_evalAll_cons (wpAny_bind (lam_new I1 TB hcode hmT hu hT hdef hfree fun f c' cl pm ctv H2 s2 I2 eN T2 hf hc => wpAny_bind (wpAny_standAt (wpAny_pure (wpAny_evalAll_nil ?_)))))
  have hl2 := sqL_ext eN hPt hl
  obtain ⟨its, rv, pl, hz⟩ := I2.list hl2
  obtain ⟨⟨oc, fs, t, e1, e2, e3⟩, _⟩ := I2.hok c' _ hc
  obtain ⟨mb, b1, b2⟩ := I2.ok.mod.blt
  rw [List.length_map] at hz
  refine PySem.W.sorted_key_data (b := false) (R := fun v b => v = Value.ref b.1) (fun b : Addr × Str => PyData.int b.2.length) pl.isList (each_vals rv) (PySem.W.AllAlike.of fun _ _ => by simp [PySem.W.alike]) (PySem.W.Sortable.others fun _ => ⟨(fun z => by cases z), fun _ z => by cases z⟩) hz (fun x _ => ?_) (PyProof.Rows.ksk_s1 _ _) (fun _ => PyProof.Rows.ksk_l1 _ _) (fun _ => ksk_t1 _ _) (fun v b eb hbm h tk kp => ?_) fun out ci h' tk kp fr hout hlen' each => ?_
  · have := hr.un
    show X.A.units + 2 + 0 < _
    omega
  · rw [eb]
    obtain ⟨bl, rest, rl, ht⟩ := hb b hbm
    obtain ⟨is, r, it, iz⟩ := I2.tuple (sqT_ext eN hPt ht)
    have ln := r.length
    cases r with
    | cons r0 r =>
      obtain ⟨t0, rfl⟩ := r0
      refine lam_len (mg := X.mg) (mb := mb) (its := _) (t := t0) ?_ (I2.nolimit.keeps kp) ?_ hlm ?_ ((b2 "len" (by decide)).trans hlv) (kp _ _ hf) ⟨c', oc, fs, t, rfl, kp _ _ e1, e2, e3⟩ (fun b v => hbind _ b _ _ _ _ v) hk hco hgen hcell hrow hlen hd (it.keeps kp) (by simp) ?_ bl
      · have := hr.dp
        show X.A.depth < _
        omega
      · exact (I2.mod.glob.keeps I2.bk).keeps kp
      · exact (b1.keeps I2.bk).keeps kp
      · rw [List.size_toArray, ← ln]
        show rest.length + 1 < _
        omega
  · rw [PySem.W.dataLe_int (fun b : Addr × Str => ((b.2.length : Nat) : Int))] at each
    have hle : (fun a b : Addr × Str => decide (((a.2.length : Nat) : Int) ≤ ((b.2.length : Nat) : Int))) = fun a b => decide (a.2.length ≤ b.2.length) := by
      funext a b
      exact decide_eq_decide.mpr (by omega)
    rw [hle] at each
    have hn : H2 (s2.heap.objs.size + 1) = none := I2.hok.fresh (Nat.le_succ _)
    exact ⟨.ref _, _, I2.laid (o := .lst ((bs.mergeSort fun a b => decide (a.2.length ≤ b.2.length)).map fun b => V.ref b.1)) (t' := tk) kp (Nat.le_succ _) ⟨by rw [List.length_map, List.length_mergeSort]; exact hz, out, ci, vals_each each, hout⟩, rfl, q H2 eN T2 _ hn⟩
end
end DL

set_option linter.all false
set_option maxRecDepth 100000
set_option maxHeartbeats 4000000
/-! DLA: worlds with tables of code; defs that may add to them -/
namespace DL
open PySem PySem.Spec L2 PyProof.Rows
def fsT (T : List (Addr × Str)) : List Addr := T.map (·.1)
theorem mem_fsT {T : List (Addr × Str)} {p : Addr × Str} (h : p ∈ T) : p.1 ∈ fsT T := List.mem_map.mpr ⟨p, h, rfl⟩
theorem tab_of {T : List (Addr × Str)} {H : Hp} (h : LamX.Tabs T H) {a : Addr} (ha : a ∈ fsT T) : ∃ ps, H a = some (.tbl ps) := by
  obtain ⟨p, hp, rfl⟩ := List.mem_map.mp ha
  obtain ⟨ps, e, _⟩ := h p hp
  exact ⟨ps, e⟩
theorem code_out {T : List (Addr × Str)} {H : Hp} (h : LamX.Tabs T H) {a : Addr} {q : Str} (e : H a = some (LamX.CodeO a q)) : a ∉ fsT T := fun z => by
  obtain ⟨ps, e2⟩ := tab_of h z
  rw [e] at e2
  exact LamX.codeO_ne ps (Option.some.inj e2)
theorem tabs_stay {T : List (Addr × Str)} {H H' : Hp} (h : LamX.Tabs T H) (s : ∀ a, (a ∈ fsT T ∨ ∃ q, H a = some (LamX.CodeO a q)) → ∀ o, H a = some o → H' a = some o) : LamX.Tabs T H' := fun p hp => by
  obtain ⟨ps, e, ok, am⟩ := h p hp
  refine ⟨ps, s _ (.inl (mem_fsT hp)) _ e, ok, fun pos cv hc => ?_⟩
  obtain ⟨c, e1, e2⟩ := am pos cv hc
  exact ⟨c, e1, s c (.inr ⟨p.2, e2⟩) _ e2⟩
/-- a world, and tables of code besides -/
def addT (W : Wd) (T : List (Addr × Str)) : Wd where
  fs := W.fs ++ fsT T
  J := fun n H => W.J n H ∧ LamX.Tabs T H ∧ ∀ a ∈ W.fs, a ∉ fsT T
  up := fun n m H l h => ⟨W.up n m H l h.1, h.2⟩
  stay := fun n H H' h s => ⟨W.stay n H H' h.1 fun a ha o e => s a (ha.imp_left fun h => List.mem_append_left _ h) o e, tabs_stay h.2.1 fun a ha o e => s a (ha.imp_left fun h => List.mem_append_right _ h) o e, h.2.2⟩
  trk := fun n H h a ha => by
    rcases List.mem_append.mp ha with ha | ha
    · exact W.trk n H h.1 a ha
    · obtain ⟨ps, e⟩ := tab_of h.2.1 ha
      exact ⟨_, e⟩
/-- a def that changes nothing but the tables -/
def SPt (T : List (Addr × Str)) (pre : List PyData → Prop) (post : List PyData → PyData → Prop) : Sp := fun vs H Q _ => ∃ (fs : List Addr) (ds : List PyData), (∀ a ∈ fsT T, a ∈ fs) ∧ (∀ a ∈ fs, ∃ o, H a = some o) ∧ LamX.Tabs T H ∧ DA (off fs H) vs ds ∧ pre ds ∧
  ∀ v d H', Same (off (fsT T) H) (off (fsT T) H') → LamX.Tabs T H' → DD (off fs H') v d → post ds d → Q v H'
theorem SPt.len {T : List (Addr × Str)} {pre : List PyData → Prop} {post : List PyData → PyData → Prop} {m : Nat} (hm : ∀ ds, pre ds → ds.length = m) {vs : List V} {H : Hp} {Q : VK} {E : XK} (h : SPt T pre post vs H Q E) : vs.length = m := by
  obtain ⟨fs, ds, _, _, _, kd, hp, _⟩ := h
  rw [kd.length, hm ds hp]
/-- what changes the tables alone keeps the world -/
theorem addT_step {A : Amb} {W : Wd} {T : List (Addr × Str)} {n : Nat} {H1 H2 : Hp} (hW : A.W = addT W T) (j : A.W.J n H1) (s : Same (off (fsT T) H1) (off (fsT T) H2)) (t : LamX.Tabs T H2) : Same (off A.W.fs H1) (off A.W.fs H2) ∧ A.W.J n H2 := by
  rw [hW] at j ⊢
  have keep : ∀ a o, a ∉ fsT T → H1 a = some o → H2 a = some o := fun a o na e => (off_some (s a o (off_of na e))).2
  refine ⟨fun a o e => ?_, W.stay _ _ _ j.1 fun a ha o e => keep a o ?_ e, t, j.2.2⟩
  · obtain ⟨na, e1⟩ := off_some e
    exact off_of na (keep a o (fun z => na (List.mem_append_right _ z)) e1)
  · rcases ha with ha | ⟨q, hq⟩
    · exact j.2.2 a ha
    · exact code_out j.2.1 hq
section
variable {A : Amb} {ρ : List SV} {c : Nat} {tl : TA} {RA : List PyData → Prop} {ds0 : List PyData} {pre : List PyData → Prop} {post : List PyData → PyData → Prop} {E : XK} {W : Wd} {T : List (Addr × Str)}
theorem ee_callt (hW : A.W = addT W T) (h : EA A tl ρ c RA) (hp : ∀ ds, RA ds → pre ds) : EE A (tCall (SPt T pre post) [] E tl) ρ c (fun d => ∃ ds, RA ds ∧ post ds d) := fun F σ H n Q S l q => by
  refine h F σ H n _ S l fun vs ds H1 s j k r => ?_
  have S1 := S.step s j
  have j' := j
  rw [hW] at j'
  refine ⟨F.fs, ds, fun a ha => S1.sub a (A.sub a (by rw [hW]; exact List.mem_append_right _ ha)), S1.trk, j'.2.1, by rw [List.append_nil]; exact k, hp ds r, fun v d H2 s2 t2 k2 p2 => ?_⟩
  obtain ⟨s3, j3⟩ := addT_step hW j s2 t2
  exact q v d H2 (s.trans s3) j3 k2 ⟨ds, r, p2⟩
theorem ee_calltf {e : PyData} (hW : A.W = addT W T) (h : EA A tl ρ c (· = ds0)) (hp : pre ds0) (hf : ∀ r, post ds0 r → r = e) : EE A (tCall (SPt T pre post) [] E tl) ρ c (· = e) :=
  (ee_callt hW h fun ds e => by rw [e]; exact hp).imp fun d ⟨ds, e, k⟩ => by
    rw [e] at k
    exact hf d k
theorem ee_callt0K {gV : List V → List V → List V} {pd : List PyData → List PyData} (hW : A.W = addT W T) (h : EA A tl ρ c (· = ds0)) (hg : ∀ H vs, DA H vs ds0 → DA H (gV [] vs) (pd ds0)) (hp : pre (pd ds0)) : EE A (tCall0K (SPt T pre post) gV E tl) ρ c (post (pd ds0)) := fun F σ H n Q S l q => by
  refine h F σ H n _ S l fun vs ds H1 s j k r => ?_
  subst r
  have S1 := S.step s j
  have j' := j
  rw [hW] at j'
  refine ⟨F.fs, pd ds, fun a ha => S1.sub a (A.sub a (by rw [hW]; exact List.mem_append_right _ ha)), S1.trk, j'.2.1, hg _ _ k, hp, fun v d H2 s2 t2 k2 p2 => ?_⟩
  obtain ⟨s3, j3⟩ := addT_step hW j s2 t2
  exact q v d H2 (s.trans s3) j3 k2 p2
/-- sorted(screens, key=lambda row: len(row[0])) -/
theorem scr_items {G : Hp} : ∀ {xs : List V} {ss : List Scr}, DA G xs (ss.map scrD) → ∃ bs : List (Addr × Scr), xs = bs.map (fun b => V.ref b.1) ∧ bs.map (·.2) = ss ∧ ∀ b ∈ bs, DD G (.ref b.1) (scrD b.2) := fun {xs ss} => by
  induction ss generalizing xs with
  | nil =>
    intro h
    cases h
    exact ⟨[], rfl, rfl, fun b hb => absurd hb List.not_mem_nil⟩
  | cons s ss ih =>
    intro h
    cases h with
    | cons k1 k2 =>
      obtain ⟨bs, e1, e2, e3⟩ := ih k2
      have kk := k1
      cases k1 with
      | tup hp _ =>
        refine ⟨(_, s) :: bs, by rw [e1]; rfl, by rw [List.map_cons, e2], fun b hb => ?_⟩
        rcases List.mem_cons.mp hb with e | hb
        · rw [e]
          exact kk
        · exact e3 b hb
theorem items_da {G : Hp} : ∀ {bs : List (Addr × Scr)}, (∀ b ∈ bs, DD G (.ref b.1) (scrD b.2)) → DA G (bs.map fun b => V.ref b.1) ((bs.map (·.2)).map scrD)
  | [], _ => .nil
  | b :: bs, h => .cons (h b List.mem_cons_self) (items_da fun x hx => h x (List.mem_cons_of_mem _ hx))
def byLen (ss : List Scr) : List Scr := ss.mergeSort fun s t => decide (s.b.length ≤ t.b.length)
theorem ee_sortLen {K : PySem.W.Frag} {P : Addr} {te : TE} {ss : List Scr} (hW : A.W = addT W T) (hP : P ∈ fsT T) (h : EE A te ρ c (· = screensD ss)) (hs : ∀ s ∈ ss, ScrOk s) (hn : ss.length ≤ 1000) : EE A (tSortLen K T P te) ρ c (· = screensD (byLen ss)) := fun F σ H n Q S l q => by
  show te σ H _
  refine h F σ H n _ S l fun v d H1 s j k r => ?_
  subst r
  have S1 := S.step s j
  have j' := j
  rw [hW] at j'
  obtain ⟨W1, T1, dis⟩ := j'
  have subT : ∀ a ∈ fsT T, a ∈ F.fs := fun a ha => S1.sub a (A.sub a (by rw [hW]; exact List.mem_append_right _ ha))
  cases k with
  | lst hp kk =>
    obtain ⟨bs, e1, e2, e3⟩ := scr_items kk
    refine ⟨_, bs.map fun b => (b.1, b.2.b), rfl, .inl ?_, fun b hb => ?_, T1, tab_of T1 hP, fun H2 bp T2 p np => ?_⟩
    · rw [List.map_map]
      refine .inl ?_
      rw [(off_some hp).2, e1]
      rfl
    · obtain ⟨b0, hb0, rfl⟩ := List.mem_map.mp hb
      have hsm : b0.2 ∈ ss := by rw [← e2]; exact List.mem_map_of_mem hb0
      refine ⟨by have := (hs _ hsm).bl; show b0.2.b.length < _; omega, ?_⟩
      cases e3 b0 hb0 with
      | tup hq kq =>
        cases kq with
        | cons k1 k2 =>
          cases k1
          have := k2.length
          exact ⟨_, by rw [this]; show 2 < 100000; decide, .inl (.inl (off_some hq).2)⟩
    · have s2 : Same (off (fsT T) H1) (off (fsT T) H2) := fun a o e => by
        obtain ⟨na, e1⟩ := off_some e
        exact off_of na (bp a o (fun z => na (by rw [z]; exact hP)) e1)
      obtain ⟨s3, j3⟩ := addT_step hW j s2 T2
      have S2 := S1.step s3 j3
      have e4 : (bs.map fun b => (b.1, b.2.b)).mergeSort (fun a b => decide (a.2.length ≤ b.2.length)) = (bs.mergeSort fun a b => decide (a.2.b.length ≤ b.2.b.length)).map fun b => (b.1, b.2.b) := (List.map_mergeSort (r := fun a b => decide (a.2.b.length ≤ b.2.b.length)) (s := fun a b => decide (a.2.length ≤ b.2.length)) (f := fun b : Addr × Scr => (b.1, b.2.b)) (l := bs) fun a _ b _ => rfl).symm
      have e5 : (bs.mergeSort fun a b => decide (a.2.b.length ≤ b.2.b.length)).map (·.2) = byLen ss := by
        unfold byLen
        rw [← e2]
        exact List.map_mergeSort (r := fun a b : Addr × Scr => decide (a.2.b.length ≤ b.2.b.length)) (s := fun s t : Scr => decide (s.b.length ≤ t.b.length)) (f := (·.2)) (l := bs) fun a _ b _ => rfl
      rw [e4, List.map_map]
      refine q _ _ _ ((s.trans s3).trans (same_off (same_new np))) (A.W.stay _ _ _ j3 fun a _ o e => same_new np a o e) (.lst (off_of (S2.fresh np) upd_same) ?_) rfl
      have g : Same (off F.fs H1) (off F.fs (upd H2 p (.lst ((bs.mergeSort fun a b => decide (a.2.b.length ≤ b.2.b.length)).map ((fun b => V.ref b.1) ∘ fun b => (b.1, b.2.b)))))) := (S1.offF s3).trans (same_off (same_new np))
      have := items_da (bs := bs.mergeSort fun a b => decide (a.2.b.length ≤ b.2.b.length)) fun b hb => (e3 b (List.mem_mergeSort.mp hb)).mono g
      rw [e5] at this
      exact this
end
section
variable {P : Program} {w : World} {K : PySem.W.Frag} {mg : Str → Option Value} {base : Heap}
/-- a def, its code object known -/
theorem Fun.okC {x qual : Str} {st : Stmt} {f : Addr} {fd : FuncData} {N ps : List Str} {k : Nat} {sp : Sp} (F : Fun K x qual st f fd) (S : FnScope N ps (defScope st)) (len : ∀ vs H Q E, sp vs H Q E → vs.length = ps.length)
    (body : ∀ (A : Around) (outer : List Env) (s : Shared) (H : Hp) (vs : List V) (Q : VK) (E : XK), Room k (A.deeper (envOfC qual (defScope st) s.heap.objs.size f fd.code)) → sp vs H Q E →
      ∃ t, PSs (cxOf CX0 P w K mg base N qual (defScope st) f fd.code A outer s H E).nox (defBody st) t ∧ t { nx := fun _ H' => Q .non H', rt := Q } (L2.start N vs) H) : FnOk P w K mg base CX0 (k + 1) f fd ps sp := by
  obtain ⟨oc, od, kV, doc, pm, an, cdv, ct, osl, rfl, lk, code⟩ := F.ex
  refine fn_of lk code S len fun A outer s H vs Q E hr wish => ?_
  obtain ⟨t, h, q⟩ := body A outer s H vs Q E hr wish
  exact ⟨t, h.nox, q⟩
theorem okt {T : List (Addr × Str)} {x qual : Str} {st : Stmt} {f : Addr} {fd : FuncData} {N ps : List Str} {k m j c : Nat} {pre : List PyData → Prop} {post : List PyData → PyData → Prop} (F : Fun K x qual st f fd) (S : FnScope N ps (defScope st)) (hm : ∀ ds, pre ds → ds.length = m) (hc : c ≤ LIM)
    (hps : ps.length = m := by rfl) (hN : N.length - m = j := by rfl)
    (body : ∀ (A : Around) (outer : List Env) (s : Shared) (H : Hp) (E : XK), Room k (A.deeper (envOfC qual (defScope st) s.heap.objs.size f fd.code)) →
      ∃ t, PSs (cxOf CX0 P w K mg base N qual (defScope st) f fd.code A outer s H E).nox (defBody st) t ∧
        ∀ (A : Amb) (ds : List PyData), A.W = addT W0 T → pre ds → SS A t (ds.map .im ++ List.replicate j .no) c { nx := fun _ => post ds .none, rt := post ds }) :
    FnOk P w K mg base CX0 (k + 1) f fd ps (SPt T pre post) := by
  refine Fun.okC F S (fun vs H Q E h => (SPt.len hm h).trans hps.symm) fun A outer s H vs Q E hr h => ?_
  obtain ⟨t, h1, h2⟩ := body A outer s H E hr
  refine ⟨t, h1, ?_⟩
  obtain ⟨fs, ds, sub, trk, tabs, kd, hp, q⟩ := h
  let A : Amb := ⟨addT W0 T, fs, H, sub, trk⟩
  have hl : vs.length = m := by rw [kd.length]; exact hm ds hp
  have S : St8 A ⟨fs, []⟩ (ds.map .im ++ List.replicate (N.length - vs.length) .no) (L2.start N vs) H 0 := st8_start (A := A) rfl ⟨trivial, tabs, fun a ha => absurd ha List.not_mem_nil⟩ (fun i s e => by
    rw [List.getElem?_map] at e
    cases e2 : ds[i]? with
    | none => rw [e2] at e; cases e
    | some d =>
      rw [e2] at e
      cases e
      obtain ⟨v, hv, k⟩ := kd.at e2
      exact ⟨v, hv, .inl ⟨d, rfl, k⟩⟩) (by rw [List.length_map, kd.length])
  have hk : N.length - vs.length = j := by rw [hl]; exact hN
  rw [hk] at S
  refine h2 A ds rfl hp _ ⟨fs, []⟩ _ H 0 S (by omega) ?_ ?_ ?_ ?_
  · intro ρ' F' σ' H' a _ S'
    exact q .non .none H' S'.adv S'.j.2.1 .non a
  · exact ⟨fun v d H' a s jj b => q v d H' s jj.2.1 b a, fun _ _ _ _ z => z.elim⟩
  · intro ρ' F' σ' H' a
    exact False.elim a
  · intro ρ' F' σ' H' a
    exact False.elim a
end
section
variable {A : Amb} {ρ : List SV} {ta te : TE} {u : TS} {c c2 : Nat} {P : Po}
/-- d = {} -/
theorem sq_newD {i : Nat} (k : ∀ p, SS A u (ρ.set i (.dct p [])) c P) : SS A (tSeq (tAsg tDNewK (gName i)) u) ρ c P := fun D F σ H n S l k1 k2 k3 k4 => by
  intro p hp
  have T := st8_put (i := i) (y := .dct p []) S hp (st8_grow (o0 := .dK []) S hp (same_off (same_new hp)) (S.newJ hp) upd_same) rfl ⟨rfl, List.mem_cons_self, S.fresh0 hp, [], upd_same, .nil⟩
  exact k p D ⟨p :: F.fs, F.gh⟩ _ _ n T l k1 k2 k3 k4
/-- d[x] = v -/
theorem ss_dput {j m : Nat} {p : Addr} {kd : List (PyData × PyData)} {x : Str} {d : PyData} (hj : ρ[j]? = some (.dct p kd)) (hm : ρ[m]? = some (.im (.str x))) (h : EE A te ρ c (· = d)) (hk : kd.length ≤ 1000000) (k : P.nx (ρ.set j (.dct p (putD kd x d)))) :
    SS A (tAsg te (gSub (tVar j) (tVar m) L2.rSetD)) ρ c P := fun D F σ H n S l k1 _ _ _ => by
  have hz := sizeLine_eq
  refine h F σ H n _ S l fun v d1 H1 s1 j1 kv e => ?_
  subst e
  have S1 := S.step s1 j1
  obtain ⟨o1, g1, g2, hqF, hq0, kvs, hq, kk⟩ := S1.slot j _ hj
  subst g2
  obtain ⟨o2, f1, v2, f2, f3⟩ := S1.slot m _ hm
  subst f2
  cases f3
  refine ⟨.ref p, g1, .str x, f1, ?_⟩
  unfold L2.rSetD
  refine ⟨p, _, rfl, .inl ⟨kvs, .inr x, hq, rfl, by rw [dk_len kk]; omega, rfl⟩, ?_⟩
  exact k1 _ F σ _ k (fun _ hg => hg) (st8_pushD S1 hj (dk_put (x := x) kk kv))
theorem dk_keys {H : Hp} : ∀ {kvs : List (Key × V)} {kd : List (PyData × PyData)}, DK H kvs kd → DA H (kvs.map fun kv => kV kv.1) (kd.map (·.1))
  | _, _, .nil => .nil
  | _, _, .cons (k := k) _ h => .cons (by cases k with
    | inl i => exact .int i
    | inr x => exact .str x) (dk_keys h)
/-- list(d) -/
theorem ee_listD {kd : List (PyData × PyData)} (h : EE A ta ρ c (· = .dict kd)) : EE A (tCB rListD (tCons ta tNil)) ρ c (· = .list (kd.map (·.1))) := fun F σ H n Q S l q => by
  refine h F σ H n _ S l fun v d H1 s j k r => ?_
  subst r
  have S1 := S.step s j
  cases k with
  | dct hp kk =>
    refine ⟨_, _, rfl, (off_some hp).2, fun q2 nq => ?_⟩
    exact q _ _ _ (s.trans (S1.newS nq)) (S1.newJ nq) (.lst (off_of (S1.fresh nq) upd_same) ((dk_keys kk).mono (same_off (same_new nq)))) rfl
end
def addK (acc : List Str) (y : Str) : List Str := if y ∈ acc then acc else acc ++ [y]
def kdOf (ys : List Str) : List (PyData × PyData) := ys.map fun y => (.str y, .bool true)
theorem put_kd (acc : List Str) (y : Str) : putD (kdOf acc) y (.bool true) = kdOf (addK acc y) := by
  have ha : ((kdOf acc).any fun e => isKey y e.1) = decide (y ∈ acc) := by
    unfold kdOf
    rw [List.any_map]
    induction acc with
    | nil => rfl
    | cons a acc ih =>
      rw [List.any_cons, ih]
      show (decide (a = y) || _) = _
      by_cases e : a = y
      · subst e; simp
      · have e2 : ¬ y = a := fun z => e z.symm
        simp [e, e2]
  unfold putD addK
  rw [ha]
  by_cases h : y ∈ acc
  · rw [if_pos (decide_eq_true h), if_pos h]
    unfold kdOf
    rw [List.map_map]
    refine List.map_congr_left fun z _ => ?_
    show (if isKey y (.str z) = true then (PyData.str z, PyData.bool true) else (.str z, .bool true)) = _
    split <;> rfl
  · rw [if_neg (by rw [decide_eq_false h]; decide), if_neg h]
    unfold kdOf
    rw [List.map_append]
    rfl
theorem kd_keys (ys : List Str) : (kdOf ys).map (·.1) = ys.map .str := by
  unfold kdOf
  rw [List.map_map]
  rfl
theorem addK_len (ys : List Str) : ∀ acc : List Str, (ys.foldl addK acc).length ≤ acc.length + ys.length := by
  induction ys with
  | nil => intro acc; exact Nat.le_refl _
  | cons y ys ih =>
    intro acc
    refine Nat.le_trans (ih _) ?_
    unfold addK
    split
    · simp only [List.length_cons]; omega
    · simp only [List.length_append, List.length_cons, List.length_nil]; omega
/-- the words above a word, the highest one first -/
def aboveS (ss : List Scr) (x : Str) : List Str := ((byLen ss).flatMap fun s => aheadS s x).foldl addK []
/-- the table of one def's lambdas -/
def tabsOf (P : Addr) (name : Str) : List (Addr × Str) := [(P, name ++ ".<locals>." ++ "<lambda>")]
theorem kSortLen {X : Cx} {K : PySem.W.Frag} {T : List (Addr × Str)} {c P : Addr} {k : Nat} {params : Arguments} {scope : Scope} {row : Str} {e : Expr} {te : TE} {p lpos pos kpos p1 p2 p3 p4 p5 : Pos} {j : Nat} (tb : LamX.TabB X.base X.mg c P) (hcode : X.env.code = .ref c) (hr : Room k X.A) (hm : X.mg "sorted" = none) (hlm : X.mg "len" = none)
    (hT : T = [(P, X.env.qual ++ "<lambda>")]) (ha : PE X e te) (hg : Gl X "sorted" := by rfl) (hdef : defaultsOf params X.env = ([], []) := by rfl)
    (hbind : ∀ (q : Str) (b : Expr) (cl : List (Str × Addr)) (pm cv ctv v : Value), bindArgs (PySem.W.kla_fn "<lambda>" q params b scope cl pm cv ctv) ⟨[v], []⟩ = pure [(row, v)] := by intros; rfl)
    (hk : scope.kind = .function := by rfl) (hco : scope.isCoroutine = false := by rfl) (hgen : scope.isGenerator = false := by rfl) (hnm : (scope.names.all fun y => decide (y.2 ≠ .free) && decide (y.2 ≠ .cell)) = true := by rfl) (hrow : scope.names.lookup row = some .local := by rfl) (hlen : scope.names.lookup (Str.ofString "len") = some NameKind.globalImplicit := by rfl) (hd : (row == ("__debug__" : Str)) = false := by decide)
    (he : starEach [e] X.env = [(false, eval e X.env)] := by rfl) (hK : X.K = K := by rfl) :
    PE X (.Call (.Name "sorted" p) [e] [⟨some "key", .Lambda params (.Call (.Name "len" p1) [.Subscript (.Name row p2) (.Constant (.int 0) j p3) p4] [] p5) scope lpos, kpos⟩] pos) (tSortLen K T P te) := by
  subst hK
  have nm : ∀ y ∈ scope.names, y.2 ≠ .free ∧ y.2 ≠ .cell := fun y hy => by
    have := List.all_eq_true.mp hnm y hy
    rw [Bool.and_eq_true] at this
    exact ⟨of_decide_eq_true this.1, of_decide_eq_true this.2⟩
  refine pe_sortLen hg hm PyProof.Rows.boot_sorted hlm PySem.boot_len ha tb hcode (by rw [hT]; exact List.mem_singleton.mpr rfl) (fun q hq _ => ?_) hr hdef (fun y hy z => absurd z (nm y hy).1) hbind hk hco hgen (fun y hy => (nm y hy).2) hrow hlen hd he
  rw [hT] at hq
  rw [List.mem_singleton.mp hq]
/-! ### a def that gives a new list and may change the tables -/
def SPft (T : List (Addr × Str)) (pre : List PyData → Prop) (post : List PyData → List PyData → Prop) : Sp := fun vs H Q _ => ∃ (fs : List Addr) (ds : List PyData), (∀ a ∈ fsT T, a ∈ fs) ∧ (∀ a ∈ fs, ∃ o, H a = some o) ∧ LamX.Tabs T H ∧ DA (off fs H) vs ds ∧ pre ds ∧
  ∀ p xs es H', Same (off (fsT T) H) (off (fsT T) H') → LamX.Tabs T H' → H p = none → H' p = some (.lst xs) → DA (off (p :: fs) H') xs es → post ds es → Q (.ref p) H'
theorem SPft.len {T : List (Addr × Str)} {pre : List PyData → Prop} {post : List PyData → List PyData → Prop} {m : Nat} (hm : ∀ ds, pre ds → ds.length = m) {vs : List V} {H : Hp} {Q : VK} {E : XK} (h : SPft T pre post vs H Q E) : vs.length = m := by
  obtain ⟨fs, ds, _, _, _, kd, hp, _⟩ := h
  rw [kd.length, hm ds hp]
section
variable {A : Amb} {ρ : List SV} {tl : TA} {te : TE} {c : Nat} {ds0 : List PyData} {pre : List PyData → Prop} {post : List PyData → List PyData → Prop} {E : XK} {W : Wd} {T : List (Addr × Str)}
theorem ef_callt (hW : A.W = addT W T) (h : EA A tl ρ c (· = ds0)) (hp : pre ds0) : EF A (tCall (SPft T pre post) [] E tl) ρ c (post ds0) := fun F σ H n Q S l q => by
  refine h F σ H n _ S l fun vs ds H1 s j k r => ?_
  subst r
  have S1 := S.step s j
  have j' := j
  rw [hW] at j'
  refine ⟨F.fs, ds, fun a ha => S1.sub a (A.sub a (by rw [hW]; exact List.mem_append_right _ ha)), S1.trk, j'.2.1, by rw [List.append_nil]; exact k, hp, fun p xs es H2 s2 t2 e0 e1 k2 p2 => ?_⟩
  obtain ⟨s3, j3⟩ := addT_step hW j s2 t2
  exact q p xs es H2 (s.trans s3) j3 (fresh_back S s e0 j) e1 k2 p2
theorem ef_callt0K {gV : List V → List V → List V} {pd : List PyData → List PyData} (hW : A.W = addT W T) (h : EA A tl ρ c (· = ds0)) (hg : ∀ H vs, DA H vs ds0 → DA H (gV [] vs) (pd ds0)) (hp : pre (pd ds0)) : EF A (tCall0K (SPft T pre post) gV E tl) ρ c (post (pd ds0)) := fun F σ H n Q S l q => by
  refine h F σ H n _ S l fun vs ds H1 s j k r => ?_
  subst r
  have S1 := S.step s j
  have j' := j
  rw [hW] at j'
  refine ⟨F.fs, pd ds, fun a ha => S1.sub a (A.sub a (by rw [hW]; exact List.mem_append_right _ ha)), S1.trk, j'.2.1, hg _ _ k, hp, fun p xs es H2 s2 t2 e0 e1 k2 p2 => ?_⟩
  obtain ⟨s3, j3⟩ := addT_step hW j s2 t2
  exact q p xs es H2 (s.trans s3) j3 (fresh_back S s e0 j) e1 k2 p2
/-- list(d), as a new list -/
theorem ef_listD {kd : List (PyData × PyData)} (h : EE A te ρ c (· = .dict kd)) : EF A (tCB rListD (tCons te tNil)) ρ c (· = kd.map (·.1)) := fun F σ H n Q S l q => by
  refine h F σ H n _ S l fun v d H1 s j k r => ?_
  subst r
  have S1 := S.step s j
  cases k with
  | dct hp kk =>
    refine ⟨_, _, rfl, (off_some hp).2, fun q2 nq => ?_⟩
    exact q q2 _ _ _ (s.trans (S1.newS nq)) (S1.newJ nq) (fresh_back S s nq j) upd_same ((dk_keys kk).mono (off_cons nq (same_off (same_new nq)))) rfl
end
section
variable {P : Program} {w : World} {K : PySem.W.Frag} {mg : Str → Option Value} {base : Heap}
theorem okft {T : List (Addr × Str)} {x qual : Str} {st : Stmt} {f : Addr} {fd : FuncData} {N ps : List Str} {k m j c : Nat} {pre : List PyData → Prop} {post : List PyData → List PyData → Prop} (F : Fun K x qual st f fd) (S : FnScope N ps (defScope st)) (hm : ∀ ds, pre ds → ds.length = m) (hc : c ≤ LIM)
    (hps : ps.length = m := by rfl) (hN : N.length - m = j := by rfl)
    (body : ∀ (A : Around) (outer : List Env) (s : Shared) (H : Hp) (E : XK), Room k (A.deeper (envOfC qual (defScope st) s.heap.objs.size f fd.code)) →
      ∃ t, PSs (cxOf CX0 P w K mg base N qual (defScope st) f fd.code A outer s H E).nox (defBody st) t ∧
        ∀ (A : Amb) (ds : List PyData), A.W = addT W0 T → pre ds → SS A t (ds.map .im ++ List.replicate j .no) c { nx := fun _ => False, rt := fun _ => False, fr := post ds }) :
    FnOk P w K mg base CX0 (k + 1) f fd ps (SPft T pre post) := by
  refine Fun.okC F S (fun vs H Q E h => (SPft.len hm h).trans hps.symm) fun A outer s H vs Q E hr h => ?_
  obtain ⟨t, h1, h2⟩ := body A outer s H E hr
  refine ⟨t, h1, ?_⟩
  obtain ⟨fs, ds, sub, trk, tabs, kd, hp, q⟩ := h
  let A : Amb := ⟨addT W0 T, fs, H, sub, trk⟩
  have hl : vs.length = m := by rw [kd.length]; exact hm ds hp
  have S : St8 A ⟨fs, []⟩ (ds.map .im ++ List.replicate (N.length - vs.length) .no) (L2.start N vs) H 0 := st8_start (A := A) rfl ⟨trivial, tabs, fun a ha => absurd ha List.not_mem_nil⟩ (fun i s e => by
    rw [List.getElem?_map] at e
    cases e2 : ds[i]? with
    | none => rw [e2] at e; cases e
    | some d =>
      rw [e2] at e
      cases e
      obtain ⟨v, hv, k⟩ := kd.at e2
      exact ⟨v, hv, .inl ⟨d, rfl, k⟩⟩) (by rw [List.length_map, kd.length])
  have hk : N.length - vs.length = j := by rw [hl]; exact hN
  rw [hk] at S
  refine h2 A ds rfl hp _ ⟨fs, []⟩ _ H 0 S (by omega) ?_ ?_ ?_ ?_
  · intro ρ' F' σ' H' a
    exact False.elim a
  · exact ⟨fun _ _ _ z => z.elim, fun p xs es H' r s jj e0 e1 kd' => q p xs es H' s jj.2.1 e0 e1 kd' r⟩
  · intro ρ' F' σ' H' a
    exact False.elim a
  · intro ρ' F' σ' H' a
    exact False.elim a
end
/-! ### the sources of draws beside tables -/
theorem deck_lst {b : Deck} {n : Nat} {H : Hp} (j : dJ b n H) : ∀ x ∈ b.fs, ∃ ys, H x = some (.lst ys) := fun x hx => by
  obtain ⟨pos, h1, h2, _, _, h5⟩ := j
  rcases List.mem_cons.mp hx with e | hx
  · rw [e]
    exact ⟨_, h1⟩
  · rcases List.mem_cons.mp hx with e | hx
    · rw [e]
      exact ⟨_, h2⟩
    · obtain ⟨c, f, k, e, _⟩ := h5 x hx
      exact ⟨_, e⟩
section
variable {A : Amb} {ρ : List SV} {c cst : Nat} {tl : TA} {RA : List PyData → Prop} {T : List (Addr × Str)}
theorem ee_calldT {b : Deck} {i : Nat} {pre : List PyData → Prop} {post : List PyData → PyData → Prop} {E : XK} (hW : A.W = addT (dW b) T) (hd : ρ[i]? = some (.raw (.ref b.d))) (h : EA A tl ρ c RA) (hp : ∀ ds, RA ds → pre ds) :
    EE A (tCall (SPd cst pre post) [] E (tCons (tVar i) tl)) ρ (c + cst) (fun d => ∃ ds, RA ds ∧ post ds d) := fun F σ H n Q S l q => by
  obtain ⟨o, e1, e2⟩ := S.slot i _ hd
  have e2' : o = some (.ref b.d) := e2
  subst e2'
  refine ⟨.ref b.d, e1, ?_⟩
  refine h F σ H n _ S (by omega) fun vs ds H1 s j k r => ?_
  have S1 := S.step s j
  have j' := j
  rw [hW] at j'
  obtain ⟨j0, t0, dis⟩ := j'
  have j0' : dJ b (n + c) H1 := j0
  have fsub : ∀ a ∈ b.fs, a ∈ F.fs := fun a ha => S.sub a (A.sub a (by rw [hW]; exact List.mem_append_left _ ha))
  refine ⟨b, vs, F.fs, n + c, ds, by rw [List.append_nil], fsub, S1.trk, j0', by omega, k, hp ds r, fun v d H2 s2 j2 k2 p2 => ?_⟩
  have t2 : LamX.Tabs T H2 := tabs_stay t0 fun a ha o e => (off_some (s2 a o (off_of (fun z => by
    rcases ha with ha | ⟨q, hq⟩
    · exact dis a z ha
    · obtain ⟨ys, e3⟩ := deck_lst j0' a z
      exact noC_lst e3 q hq) e))).2
  refine q v d H2 (s.trans fun a u e => ?_) ?_ k2 ⟨ds, r, p2⟩
  · rw [hW] at e ⊢
    obtain ⟨na, e1⟩ := off_some e
    exact off_of na (off_some (s2 a u (off_of (fun z => na (List.mem_append_left _ z)) e1))).2
  · rw [hW]
    exact ⟨by rw [← Nat.add_assoc]; exact j2, t2, dis⟩
theorem ee_drawT {b : Deck} {i : Nat} {m : Int} {E : XK} (hW : A.W = addT (dW b) T) (hd : ρ[i]? = some (.raw (.ref b.d))) (h : EA A tl ρ c (· = [.int m])) (h0 : 0 < m) (h1 : m < 1000000000) :
    EE A (tCall (SPd 1 preDraw postDraw) [] E (tCons (tVar i) tl)) ρ (c + 1) (fun d => ∃ r : Int, d = .int r ∧ 0 ≤ r ∧ r < m) :=
  (ee_calldT hW hd h fun ds e => ⟨m, e, h0, h1⟩).imp fun d ⟨ds, e, k⟩ => k m e
theorem ee_calljT {p : Addr} {i : Nat} {pre : List PyData → Prop} {post : List PyData → PyData → Prop} {E : XK} (hW : A.W = addT (jW p) T) (hd : ρ[i]? = some (.raw (.ref p))) (h : EA A tl ρ c RA) (hp : ∀ ds, RA ds → pre ds) :
    EE A (tCall (SPj cst pre post) [] E (tCons (tVar i) tl)) ρ (c + cst) (fun d => ∃ ds, RA ds ∧ post ds d) := fun F σ H n Q S l q => by
  obtain ⟨o, e1, e2⟩ := S.slot i _ hd
  have e2' : o = some (.ref p) := e2
  subst e2'
  refine ⟨.ref p, e1, ?_⟩
  refine h F σ H n _ S (by omega) fun vs ds H1 s j k r => ?_
  have S1 := S.step s j
  have j' := j
  rw [hW] at j'
  obtain ⟨j0, t0, dis⟩ := j'
  have j0' : JarAt (n + c) H1 p := j0
  have pin : p ∈ F.fs := S.sub p (A.sub p (by rw [hW]; exact List.mem_append_left _ (List.mem_singleton.mpr rfl)))
  obtain ⟨x, y, k0, ej, hj⟩ := id j0'
  refine ⟨p, vs, F.fs, n + c, ds, by rw [List.append_nil], pin, S1.trk, j0', by omega, k, hp ds r, fun v d H2 s2 j2 k2 p2 => ?_⟩
  have t2 : LamX.Tabs T H2 := tabs_stay t0 fun a ha o e => (off_some (s2 a o (off_of (fun z => by
    rw [List.mem_singleton.mp z] at ha
    rcases ha with ha | ⟨q, hq⟩
    · exact dis p (List.mem_singleton.mpr rfl) ha
    · exact noC_lst ej q hq) e))).2
  refine q v d H2 (s.trans fun a u e => ?_) ?_ k2 ⟨ds, r, p2⟩
  · rw [hW] at e ⊢
    obtain ⟨na, e1⟩ := off_some e
    exact off_of na (off_some (s2 a u (off_of (fun z => na (List.mem_append_left _ z)) e1))).2
  · rw [hW]
    exact ⟨by rw [← Nat.add_assoc]; exact j2, t2, dis⟩
end
end DL

set_option linter.all false
set_option maxRecDepth 100000
set_option maxHeartbeats 4000000
/-! DLAE: the end of a law whose defs make lambdas -/
namespace DL
open PySem PySem.Spec PyProof.Rows L2
/-- nothing is tracked but the script and tables -/
def OnlyT (tb : List Addr) (H : Hp) : Prop := ∀ b, H b = none ∨ (b ∈ tb ∧ H b = some (.tbl #[])) ∨ ∃ ob xs, H b = some (.frz ob (.lst xs))
theorem law_callGT {P : Program} {w : World} {K : PySem.W.Frag} {mg mb : Str → Option Value} {CX : CXT} {k : Nat} {fa a : Addr} {cs : List (Addr × Addr)} {fd : FuncData} {x : Str} {sp : Sp} {s₁ : Shared} {vs : List Value} {ns : List Int}
    (KX : K.In s₁.heap) (hns : s₁.heap.Ns mainGlobals mg) (hb : s₁.heap.Ns builtinsNs mb) (hbb : ∀ x : Str, x ≠ "__name__" → mb x = bootBuiltins x) (hlim : s₁.heap.NoLimit) (hg : s₁.gens = #[])
    (hT : ∀ p ∈ cs, s₁.heap.get? p.2 = some { cls := .none, data := .fields #[] }) (nT : ∀ p ∈ cs, K.lookup p.2 = none) (C : ∀ p ∈ cs, PySem.W.CodeHd s₁.heap p.1 p.2)
    (hbm : ∃ (bm : Addr) (ob : Obj), mg "__builtins__" = some (.ref bm) ∧ bm ≠ builtinsNs ∧ s₁.heap.get? bm = some ob ∧ ob.cls = .type "module" ∧ ob.dict = some builtinsNs ∧ ob.data = .plain)
    (ha : s₁.heap.get? a = some { cls := .type "list", data := .seq vs.toArray }) (hi : IntsAre vs ns) (hl : ns.length ≤ sizeLine) (hr : Room k callerA)
    (F : ∀ base : Heap, K.In base → base.Ns mainGlobals mg → (∀ p ∈ cs, LamX.TabB base mg p.1 p.2) → FnG P w K mg base CX k fa fd [x] sp) (hbind : ∀ (s : Shared) (u : Value), BindsTo s fd ⟨[u], []⟩ [(x, u)])
    (hsp : ∀ H : Hp, OnlyT (cs.map (·.2)) H → (∀ p ∈ cs, H p.2 = some (.tbl #[])) → SqL K H a (ns.map V.int) → sp [.ref a] H (fun v _ => v = .bl true) fun _ _ _ => False)
    (hCX : ∀ H e s', CX [] H s₁ (fun _ _ _ => False) e s' → False) :
    codeAny (model P w) callerA (.call (.ref fa) ⟨[.ref a], []⟩) (fun r s' => r = .ok (.ret (.bool true)) ∧ OldK s₁.heap s'.heap ∧ s'.os = s₁.os ∧ AllBare s'.gens) s₁ := by
  have rv : Vals (ns.map V.int) vs := vals_ints hi
  have tabAt : ∀ {b : Addr}, b ∈ cs.map (·.2) → s₁.heap.get? b = some { cls := .none, data := .fields #[] } := fun {b} hb => by
    obtain ⟨p, hp, rfl⟩ := List.mem_map.mp hb
    exact hT p hp
  have aN : a ∉ cs.map (·.2) := fun z => by
    have z2 := congrArg (Option.map Obj.data) (ha.symm.trans (tabAt z))
    cases z2
  have main : ∀ H : Hp, OnlyT (cs.map (·.2)) H → (∀ p ∈ cs, H p.2 = some (.tbl #[])) → SqL K H a (ns.map V.int) → HOk P w H s₁.heap → (∀ b, H b ≠ none → b = a ∨ b ∈ cs.map (·.2)) → (H a ≠ none → K.lookup a = none) →
      codeAny (model P w) callerA (.call (.ref fa) ⟨[.ref a], []⟩) (fun r s' => r = .ok (.ret (.bool true)) ∧ OldK s₁.heap s'.heap ∧ s'.os = s₁.os ∧ AllBare s'.gens) s₁ := by
    intro H only tabs scr ok isA notK
    have out : ∀ {b : Addr} {o : Obj}, s₁.heap.get? b = some o → (∀ us n, o.data ≠ .seq us n) → o.data ≠ .fields #[] → H b = none := fun {b o} e h1 h2 => by
      cases q : H b with
      | none => rfl
      | some u =>
        rcases isA b (by rw [q]; exact fun z => nomatch z) with rfl | hb
        · rw [ha] at e
          cases e
          exact absurd rfl (h1 _ _)
        · rw [tabAt hb] at e
          cases e
          exact absurd rfl h2
    have ns' : ∀ {b : Addr} {m : Str → Option Value}, s₁.heap.Ns b m → (hidT s₁.heap H).Ns b m := fun {b m} ⟨o, es, ep, e, d, r⟩ =>
      ⟨o, es, ep, hidT_get e (out e (fun us n z => by rw [d] at z; cases z) fun z => by rw [d] at z; cases z), d, r⟩
    have inB : K.In (hidT s₁.heap H) := fun b o e => hidT_get (KX b o e) (by
      cases q : H b with
      | none => rfl
      | some u =>
        rcases isA b (by rw [q]; exact fun z => nomatch z) with rfl | hb
        · rw [notK (by rw [q]; exact fun z => nomatch z)] at e
          cases e
        · obtain ⟨p, hp, rfl⟩ := List.mem_map.mp hb
          rw [nT p hp] at e
          cases e)
    have tb : ∀ p ∈ cs, LamX.TabB (hidT s₁.heap H) mg p.1 p.2 := fun p hp => by
      refine ⟨?_, ?_, fun z => ?_⟩
      · have hc := C p hp
        unfold PySem.W.CodeHd at hc ⊢
        obtain ⟨o, us, file, tf, flags, tg, inF, text, tt, e1, r1, r2, r3, rest⟩ := hc
        refine ⟨o, us, file, tf, flags, tg, inF, text, tt, hidT_get e1 (out e1 (fun us n z => ?_) fun z => ?_), r1, r2, r3, rest⟩
        · rw [r2] at z
          cases z
        · rw [r2] at z
          cases z
          simp at r3
      · obtain ⟨bm, ob, b1, b2, b3, b4, b5, b6⟩ := hbm
        refine ⟨bm, ob, b1, b2, fun z => ?_, fun z => ?_, hidT_get b3 (out b3 (fun us n z => by rw [b6] at z; cases z) fun z => by rw [b6] at z; cases z), b4, b5, b6⟩
        · obtain ⟨o, es, ep, e, d, _⟩ := hns
          rw [z, e] at b3
          cases b3
          rw [d] at b6
          cases b6
        · rw [z, hT p hp] at b3
          cases b3
          cases b6
      · obtain ⟨o, es, ep, e, d, _⟩ := hns
        rw [z, hT p hp] at e
        cases e
        cases d
    have hM : Mod K mg (hidT s₁.heap H) := ⟨inB, ns' hns, ⟨mb, ns' hb, hbb⟩, let ⟨mc, h1, h2⟩ := hlim; ⟨mc, ns' h1, h2⟩⟩
    have env : Env0 P w K mg (hidT s₁.heap H) callerA [] s₁ H := ⟨rfl, hM, fun b o e => of_hidT e, Nat.le_of_eq (hidT_size _ _), trivial, fun b z => absurd (show b ∈ ([] : List Addr) from z) List.not_mem_nil, ok, .of_eq hg⟩
    refine codeAny_mono ((F _ inB (ns' hns) tb).run callerA [] s₁ H ⟨[.ref a], []⟩ [.ref a] [.ref a] _ _ hr rfl env (hbind s₁ (.ref a)) (.cons rfl .nil) (hsp H only tabs scr)) fun r s' h => ?_
    cases r with
    | error e => exact (hCX H e s' h).elim
    | ok fl =>
      cases fl with
      | next => exact h.elim
      | brk => exact h.elim
      | cont => exact h.elim
      | ret u =>
        obtain ⟨v, H', os, bare, un, ok', r', q⟩ := h
        have q' : v = .bl true := q
        subst q'
        obtain rfl : u = Value.bool true := r'
        have grown : ∀ p ∈ cs, ∃ more : Array Value, s'.heap.get? p.2 = some { cls := .none, data := .fields more } := fun p hp => by
          obtain ⟨more, z⟩ := un.tbls p.2 #[] (tabs p hp)
          exact ⟨_, ok' p.2 _ z⟩
        have keep : ∀ b o, b ∉ cs.map (·.2) → s₁.heap.get? b = some o → s'.heap.get? b = some o := fun b o nb e => by
          cases q : H b with
          | none => exact un.keep b o e q (fun z => absurd (show b ∈ ([] : List Addr) from z) List.not_mem_nil) List.not_mem_nil
          | some u =>
            rcases only b with z | ⟨z, _⟩ | ⟨ob, xs, z⟩
            · rw [q] at z
              cases z
            · exact absurd z nb
            · obtain ⟨e1, _⟩ := ok b _ z
              obtain ⟨e2, _⟩ := ok' b _ (un.frzs b ob _ z)
              rw [e] at e1
              cases e1
              exact e2
        refine ⟨rfl, ⟨fun b o e => ?_, fun b o e => ?_⟩, os, bare⟩
        · by_cases hb : b ∈ cs.map (·.2)
          · obtain ⟨p, hp, rfl⟩ := List.mem_map.mp hb
            obtain ⟨more, hm⟩ := grown p hp
            rw [hT p hp] at e
            cases e
            exact .inr (.inl ⟨((C p hp).tab (hT p hp)).isCodeTable, rfl, #[], more, rfl, by rw [Array.empty_append]; exact hm⟩)
          · exact .inl (keep b o hb e)
        · by_cases hb : b ∈ cs.map (·.2)
          · obtain ⟨p, hp, rfl⟩ := List.mem_map.mp hb
            obtain ⟨more, hm⟩ := grown p hp
            exact ⟨_, hm⟩
          · exact ⟨o, keep b o hb e⟩
  cases hk : K.lookup a with
  | some o =>
    have e := KX a o hk
    rw [ha] at e
    cases e
    refine main (fun b => if b ∈ cs.map (·.2) then some (.tbl #[]) else none) (fun b => ?_) (fun p hp => if_pos (List.mem_map_of_mem hp)) (.inr ⟨_, vs.toArray, _, hk, rfl, rfl, rfl, by rw [List.size_toArray, hi.length]; exact hl, by simpa using rv⟩) (fun b u z => ?_) (fun b z => ?_) fun z => absurd (if_neg aN) z
    · by_cases hb : b ∈ cs.map (·.2)
      · exact .inr (.inl ⟨hb, if_pos hb⟩)
      · exact .inl (if_neg hb)
    · by_cases hb : b ∈ cs.map (·.2)
      · cases (if_pos hb).symm.trans z
        exact tabAt hb
      · cases (if_neg hb).symm.trans z
    · by_cases hb : b ∈ cs.map (·.2)
      · exact .inr hb
      · exact absurd (if_neg hb) z
  | none =>
    let ob : Obj := { cls := .type "list", data := .seq vs.toArray }
    refine main (fun b => if b ∈ cs.map (·.2) then some (.tbl #[]) else if b = a then some (.frz ob (.lst (ns.map V.int))) else none) (fun b => ?_) (fun p hp => if_pos (List.mem_map_of_mem hp)) (.inl (.inr ⟨ob, (if_neg aN).trans (if_pos rfl)⟩)) (fun b u z => ?_) (fun b z => ?_) fun _ => hk
    · by_cases hb : b ∈ cs.map (·.2)
      · exact .inr (.inl ⟨hb, if_pos hb⟩)
      · by_cases h2 : b = a
        · exact .inr (.inr ⟨_, _, (if_neg hb).trans (if_pos h2)⟩)
        · exact .inl ((if_neg hb).trans (if_neg h2))
    · by_cases hb : b ∈ cs.map (·.2)
      · cases (if_pos hb).symm.trans z
        exact tabAt hb
      · by_cases h2 : b = a
        · cases ((if_neg hb).trans (if_pos h2)).symm.trans z
          rw [h2]
          exact ⟨ha, by rw [List.length_map]; exact hl, vs, _, rv, ha⟩
        · cases ((if_neg hb).trans (if_neg h2)).symm.trans z
    · by_cases hb : b ∈ cs.map (·.2)
      · exact .inr hb
      · by_cases h2 : b = a
        · exact .inl h2
        · exact absurd ((if_neg hb).trans (if_neg h2)) z
theorem walk_GT {l : PySem.W.OpenLaw} {n k : Nat} {q : Program} {loose : List Str} {XP : (Str → Option Value) → Heap → Prop} {YP : World → Heap → Prop} {d : DefRec} {CX : World → CXT} {x : Str}
    (hn : l.most = some n) (hn2 : n ≤ sizeLine) (hdf : d.params.defaults = []) (hr : Room k callerA)
    (F : ∀ (w : World) (mg : Str → Option Value) (fa : Addr) (h : Heap), YP w h → h.Ns mainGlobals mg → mg d.name = some (.ref fa) →
      ∃ (K : PySem.W.Frag) (fd : FuncData) (cs : List (Addr × Addr)) (sp : Sp), K.In h ∧ (∀ p ∈ cs, h.get? p.2 = some { cls := .none, data := .fields #[] }) ∧ (∀ p ∈ cs, K.lookup p.2 = none) ∧ (∀ p ∈ cs, PySem.W.CodeHd h p.1 p.2) ∧ (∀ (s : Shared) (u : Value), BindsTo s fd ⟨[u], []⟩ [(x, u)]) ∧
        (∀ (H : Hp) (a : Addr) (ns : List Int), ns.length ≤ n → OnlyT (cs.map (·.2)) H → (∀ p ∈ cs, H p.2 = some (.tbl #[])) → SqL K H a (ns.map V.int) → sp [.ref a] H (fun v _ => v = .bl true) fun _ _ _ => False) ∧
        ∀ base : Heap, K.In base → base.Ns mainGlobals mg → (∀ p ∈ cs, LamX.TabB base mg p.1 p.2) → FnG l.prog w K mg base (CX w) k fa fd [x] sp)
    (hCX : ∀ (w : World) (H : Hp) (s : Shared) (e : Value) (s' : Shared), CX w [] H s (fun _ _ _ => False) e s' → False) :
    PySem.W.WalkO q loose XP YP l.row.toRowW d [] (fun f vs => PySem.call f vs) := by
  refine Att.attach_call hn hdf fun w s₀ s₁ mg mb fa o pm cd doc a vs ns G Y ho hd hcd hmg hobj hints hlen hg => ?_
  obtain ⟨K, fd, cs, sp, KX, hT, nT, C, bind, hsp, hF⟩ := F w mg fa _ Y G.T.g hmg
  exact law_callGT KX G.T.g G.T.b G.T.builtins G.T.nolimit hg hT nT C G.T.bmain hobj hints (Nat.le_trans hlen hn2) hr hF bind (fun H only tabs hS => hsp H a ns hlen only tabs hS) fun H e s' => hCX w H s₁ e s'
/-- a module's objects without some of them -/
def lessK (K : PySem.W.Frag) (tb : List Addr) : PySem.W.Frag := K.filter fun p => !tb.contains p.1
theorem less_lookup {tb : List Addr} {a : Addr} (h : tb.contains a = false) : ∀ K : PySem.W.Frag, (lessK K tb).lookup a = K.lookup a
  | [] => rfl
  | (b, o) :: K => by
    have ih := less_lookup h K
    unfold lessK at ih ⊢
    rw [List.filter_cons, List.lookup_cons]
    by_cases e : a = b
    · subst e
      rw [if_pos (show (!tb.contains (a, o).1) = true by show (!tb.contains a) = true; rw [h]; rfl), List.lookup_cons]
      simp
    · have e2 : (a == b) = false := by simpa using e
      rw [e2]
      split
      · rw [List.lookup_cons, e2]
        exact ih
      · exact ih
theorem less_none {tb : List Addr} {a : Addr} (h : a ∈ tb) : ∀ K : PySem.W.Frag, (lessK K tb).lookup a = none
  | [] => rfl
  | (b, o) :: K => by
    have ih := less_none h K
    unfold lessK at ih ⊢
    rw [List.filter_cons]
    split
    · rename_i hb
      rw [List.lookup_cons]
      have e : (a == b) = false := by
        cases q : a == b with
        | false => rfl
        | true =>
          have q2 : a = b := by simpa using q
          rw [← q2] at hb
          have : tb.contains a = true := by simpa using h
          rw [show (!tb.contains (a, o).1) = !tb.contains a from rfl, this] at hb
          cases hb
      rw [e]
      exact ih
    · exact ih
theorem less_in {K : PySem.W.Frag} {tb : List Addr} {h : Heap} (X : K.In h) : (lessK K tb).In h := fun a o e => by
  by_cases ha : a ∈ tb
  · rw [less_none ha] at e
    cases e
  · rw [less_lookup (by simpa using ha)] at e
    exact X a o e
/-- what a law promises whose defs make lambdas -/
def spLawT (K : PySem.W.Frag) (T : List (Addr × Str)) : Sp := fun vs H Q _ => ∃ (a : Addr) (ns : List Int), vs = [.ref a] ∧ SqL K H a (ns.map V.int) ∧ ns.length ≤ 63 ∧ OnlyT (fsT T) H ∧ LamX.Tabs T H ∧ ∀ H', Q (.bl true) H'
/-- the source of draws and the tables, where a law begins -/
theorem jT_of {b : Deck} {T : List (Addr × Str)} {H H' : Hp} (tabs : LamX.Tabs T H) (s : Same H H') (j : dJ b 0 H') : (addT (dW b) T).J 0 H' := by
  have t := tabs.ext fun b o e => s b o e
  refine ⟨j, t, fun a ha z => ?_⟩
  obtain ⟨ys, e1⟩ := deck_lst j a ha
  obtain ⟨ps, e2⟩ := tab_of t z
  rw [e1] at e2
  cases e2
theorem scr_offT {K : PySem.W.Frag} {b : Deck} {T : List (Addr × Str)} {n : Nat} {H H' : Hp} {a : Addr} {xs : List V} (only : OnlyT (fsT T) H) (tabs : LamX.Tabs T H) (s : Same H H') (j : dJ b n H') (h : SqL K H a xs) : SqL K (off (b.fs ++ fsT T) H') a xs := by
  rcases h with h | h
  · have e : ∃ ob, H a = some (.frz ob (.lst xs)) := by
      rcases only a with e | ⟨_, e⟩ | ⟨ob, zs, e⟩
      · rcases h with h | ⟨o, h⟩
        · rw [e] at h; cases h
        · rw [e] at h; cases h
      · rcases h with h | ⟨o, h⟩
        · rw [e] at h; cases h
        · rw [e] at h; cases h
      · rcases h with h | ⟨o, h⟩
        · rw [e] at h; cases h
        · rw [e] at h
          cases h
          exact ⟨_, e⟩
    obtain ⟨ob, e⟩ := e
    refine .inl (.inr ⟨ob, off_of (fun z => ?_) (s _ _ e)⟩)
    rcases List.mem_append.mp z with z | z
    · obtain ⟨ys, e2⟩ := deck_lst j a z
      rw [s _ _ e] at e2
      cases e2
    · obtain ⟨ps, e3⟩ := tab_of tabs z
      rw [e] at e3
      cases e3
  · exact .inr h
end DL

set_option linter.all false
set_option maxRecDepth 100000
set_option maxHeartbeats 4000000
/-! DLSO: sorted of a dict with texts as keys, sorted of any data that can be ordered -/
namespace DL
open PySem PySem.Spec PyProof.Rows L2
section
variable {X : Cx}
/-- sorted(a dict whose keys are texts), any number of them -/
def rSortDK : List V → Hp → VK → Prop := fun vs H Q => ∃ (a : Addr) (kvs : List (Key × V)) (ks : List Str), vs = [V.ref a] ∧ H a = some (.dK kvs) ∧ kvs.map (·.1) = ks.map Sum.inr ∧ ks.length ≤ 1000000 ∧
  ∀ (ys : List Str) (p : Addr), ys.Perm ks → sortedS ys = true → H p = none → Q (.ref p) (upd H p (.lst (ys.map V.str)))
theorem kv_keys {ks : List Str} {kvs : List (Key × V)} {vs : List (Key × Value)} (h : KV kvs vs) (e : kvs.map (·.1) = ks.map Sum.inr) : vs.map (·.1) = ks.map Sum.inr := by
  induction h generalizing ks with
  | nil => exact e
  | cons r1 r2 ih =>
    cases ks with
    | nil => cases e
    | cons k ks =>
      injection e with e1 e2
      rw [List.map_cons, List.map_cons, ih e2, ← r1.1]
      exact congrArg (· :: _) e1
theorem strs_of {ks : List Str} {acc : List Value} (hl : acc.length = ks.length) (h : ∀ (i : Nat) v, acc[i]? = some v → ∃ t, v = Value.str (ks.getD i Str.empty) t) : StrsAre acc ks := by
  have e : acc.map PyProof.Rows.strOf = ks := by
    refine List.ext_getElem (by rw [List.length_map, hl]) fun i h1 h2 => ?_
    rw [List.length_map] at h1
    obtain ⟨t, e⟩ := h i acc[i] (List.getElem?_eq_getElem h1)
    rw [List.getElem_map, e]
    show ks.getD i Str.empty = ks[i]
    rw [List.getD_eq_getElem?_getD, List.getElem?_eq_getElem h2]
    rfl
  have q := texts_of acc fun v hv => by
    obtain ⟨i, hi, e⟩ := List.getElem_of_mem hv
    obtain ⟨t, e2⟩ := h i v (by rw [← e]; exact List.getElem?_eq_getElem hi)
    exact ⟨_, t, e2⟩
  rw [e] at q
  exact q
theorem iadd_dict {P : Program} {w : World} {A : Around} {R : Result → Shared → Prop} {s : Shared} {S d : Addr} {κ : Type} [DecidableEq κ] {knd : KeyKind P w κ} {kvs : List (κ × Value)} {ep : Nat} (hs : (d == sysModules) = false) (hh : A.handled = none) (hd : Heap.DictAt knd s.heap d kvs ep) (hz : kvs.length ≤ sizeLine) (ne : S ≠ d)
    (hS : s.heap.get? S = some { cls := Value.type "list", data := Data.seq #[] })
    (k : ∀ (h' : Heap) (tk : Nat) (acc : Array Value) (c : Nat), (∀ b o, b ≠ S → s.heap.get? b = some o → h'.get? b = some o) → h'.get? S = some { cls := Value.type "list", data := Data.seq acc c } → ItemsOf (fun i v => ∃ k x, kvs[i]? = some (k, x) ∧ knd.is k v = true) acc kvs.length → R (.ok (.ret (.ref S))) { heap := h', gens := s.gens, drawn := s.drawn, toks := tk, os := s.os }) :
    codeAny (model P w) A (.builtin "list.__iadd__" ⟨[.ref S, .ref d], []⟩) R s := by
  refine codeAny_builtin PyProof.Rows.entry_list_iadd' ?_
  rw [Around.under_plainId PySem.F.plain_list_iadd _]
  unfold Builtin.«list.__iadd__»
  refine wpAny_bind (m := slotArgs "__iadd__" 1 _) (wpAny_pure ?_)
  exact PySem.W.kdl_extend (PySem.W.kdl_dict (knd := knd) (kvs := kvs) (ep := ep) hs) hh hd S ne ne (.ref S) 0 hS k hz
theorem collect_dict {P : Program} {w : World} {A : Around} {E : Value → Shared → Prop} {s : Shared} {d : Addr} {κ : Type} [DecidableEq κ] {knd : KeyKind P w κ} {kvs : List (κ × Value)} {ep : Nat} {Q : List Value → Shared → Prop} (hs : (d == sysModules) = false) (hh : A.handled = none) (hd : Heap.DictAt knd s.heap d kvs ep) (hz : kvs.length ≤ sizeLine)
    (k : ∀ (h' : Heap) (tk : Nat) (acc : Array Value), (∀ b o, s.heap.get? b = some o → h'.get? b = some o) → s.heap.objs.size ≤ h'.objs.size → ItemsOf (fun i v => ∃ k x, kvs[i]? = some (k, x) ∧ knd.is k v = true) acc kvs.length → Q acc.toList { heap := h', gens := s.gens, drawn := s.drawn, toks := tk, os := s.os }) :
    wpAny (model P w) A (collect (.ref d)) Q E s := by
  have src := PySem.W.kdl_dict (knd := knd) (kvs := kvs) (ep := ep) hs
  have lt : d < s.heap.objs.size := (src.there _ hd).1
  unfold collect
  refine wpAny_bind (wpAny_runValue (codeAny_builtin PySem.F.entry_proto_collect ?_))
  unfold Builtin.«proto.collect»
  refine wpAny_bind (wpAny_newList ?_ (Nat.zero_le _))
  refine wpAny_pure ⟨plainId_quiet PySem.F.plain_list_iadd _, ?_⟩
  have h1 : ∀ b o, s.heap.get? b = some o → (s.heap.push { cls := Value.type "list", data := Data.seq #[] }).get? b = some o := fun b o e => Heap.get?_push_of_some _ e
  refine iadd_dict (knd := knd) (kvs := kvs) (ep := ep) hs hh (src.keep _ _ hd fun b _ o e => h1 b o e) hz (Nat.ne_of_gt lt) (Heap.get?_push_size _ rfl) (fun h' tk acc c' e1 e2 items => ?_)
  refine wpAny_bind (wpAny_load e2 (wpAny_pure (k h' tk acc (fun b o e => e1 b o (Nat.ne_of_lt (Heap.lt_size e)) (h1 b o e)) (Nat.le_of_lt (Heap.lt_size e2)) items)))
theorem cr_sortDK (hc : X.calm = true) : CallR X (.builtin "sorted") rSortDK := by
  intro pins s σ H vs us Q I r h
  obtain ⟨a, kvs, ks, rfl, ha, hk, hn, q⟩ := h
  obtain ⟨hl, hs, vs, kv, hd⟩ := dk_of I.hok ha
  rw [Vals.ref1 r]
  have hh : X.A.handled = none := I.ok.hd hc
  have hkeys := kv_keys kv hk
  have vlen : vs.length = ks.length := by
    have := congrArg List.length hkeys
    rwa [List.length_map, List.length_map] at this
  obtain ⟨o, es, ep, hd⟩ := hd
  have hz : vs.length ≤ sizeLine := by rw [vlen]; exact Nat.le_trans hn (by rw [sizeLine_eq]; decide)
  refine Calls.call_function_entry kind_sorted plain_sorted entry_sorted (args_sorted1 _) ?_
  unfold Builtin.«sorted»
  refine wpAny_bind (m := checkCount "sorted" 1 1 _) (wpAny_pure ?_)
  refine wpAny_bind (collect_dict (A := X.A.in1) (knd := mixKind X.prog X.w) (ep := ep) hs hh ⟨o, es, hd⟩ hz fun h' tk acc k1 hsz items => ?_)
  obtain ⟨i1, i2⟩ := items
  have alen : acc.toList.length = ks.length := by rw [Array.length_toList, i1, vlen]
  have hS : StrsAre acc.toList ks := strs_of alen fun i v e => by
    obtain ⟨key, x, e1, e2⟩ := i2 i v (by rw [← e, Array.getElem?_toList])
    have e3 : (ks.map Sum.inr)[i]? = some key := by rw [← hkeys, List.getElem?_map, e1]; rfl
    rw [List.getElem?_map] at e3
    cases e4 : ks[i]? with
    | none => rw [e4] at e3; cases e3
    | some z =>
      rw [e4] at e3
      cases e3
      rcases keyIs_shape (k := Sum.inr z) (v := v) e2 with ⟨j, t, z1, _⟩ | ⟨x', t, z1, z2⟩
      · cases z1
      · cases z1
        exact ⟨t, by rw [z2, List.getD_eq_getElem?_getD, e4]; rfl⟩
  have vz : acc.toList.length ≤ sizeLine := by rw [alen, ← vlen]; exact hz
  refine wpAny_bind (wpAny_newList ?_ vz)
  have hoL : (h'.push (seqObj "list" acc.toList.toArray 0)).get? h'.objs.size = some (seqObj "list" acc.toList.toArray 0) := Heap.get?_push_size _ rfl
  refine wpAny_bind (wpAny_holding (wpAny_call_entry slot_list_sort ⟨_, hoL, rfl⟩ entry_list_sort (list_sort_treeKAny strKind_oneLt hoL hS.keysOf (fun v₁ v₂ rest e => keyKind_strs (by rw [← e]; exact hS)) vz fun st hp hs => ⟨_, rfl, ?_⟩) (args_list_sort _)))
  obtain ⟨ys, q1, q2, q3⟩ := sorted_out_str hS hp hs
  obtain ⟨c, hcc⟩ := sortedHeap_at (vs := acc.toList) (out := (arrOf st).map (·.2)) hoL
  have len : (ys.map V.str).length ≤ sizeLine := by rw [List.length_map, q2.length_eq, ← vlen]; exact hz
  have kk : ∀ (b : Addr) (u : Obj), s.heap.get? b = some u → (sortedHeap (h'.push (seqObj "list" acc.toList.toArray 0)) h'.objs.size acc.toList ((arrOf st).map (·.2))).get? b = some u := fun b u e => by
    have q := k1 b u e
    have lt := Heap.lt_size q
    rw [sortedHeap_old (Nat.ne_of_lt lt) (by rw [size_push']; exact Nat.lt_succ_of_lt lt)]
    exact Heap.get?_push_of_some _ q
  refine wpAny_pure ⟨_, rfl, ?_⟩
  exact ⟨.ref _, upd H h'.objs.size (.lst (ys.map V.str)), I.laid kk hsz ⟨len, ((arrOf st).map (·.2)).toList, c, vals_of_strs q1, by rw [Array.toArray_toList]; exact hcc⟩, rfl, q ys _ q2 q3 (I.hok.fresh hsz)⟩

/-! ### any data that can be ordered -/
theorem tri_of {pins : List (Addr × Obj)} {σ : L2.St} {G H : Hp} {s : Shared} (I : Inv X pins σ H s) (sg : Same G H) : ∀ {xs : List V} {its : List Value} {ds : List PyData}, Vals xs its → DA G xs ds → ∃ bs : List (V × Value × PyData), bs.map (·.1) = xs ∧ bs.map (·.2.2) = ds ∧
    PySem.W.EachIs (fun v b => v = b.2.1) its bs ∧ PySem.W.EachIs (fun v b => ∃ as, Reads s.heap v b.2.2 as) its bs ∧ ∀ b ∈ bs, RelV b.1 b.2.1 ∧ DD G b.1 b.2.2
  | _, _, _, .nil, .nil => ⟨[], rfl, rfl, .nil, .nil, fun b h => absurd h List.not_mem_nil⟩
  | x :: xs, u :: us, d :: ds, .cons r1 r2, .cons h t => by
    obtain ⟨bs, e1, e2, e3, e4, e5⟩ := tri_of I sg r2 t
    obtain ⟨as, q, _⟩ := DD.reads I (h.mono sg) _ r1
    exact ⟨(x, u, d) :: bs, by rw [List.map_cons, e1], by rw [List.map_cons, e2], .cons rfl e3, .cons ⟨as, q⟩ e4, fun b hb => by
      rcases List.mem_cons.mp hb with e | hb
      · rw [e]
        exact ⟨r1, h⟩
      · exact e5 b hb⟩
theorem vals_tri {H : Hp} : ∀ {bs : List (V × Value × PyData)} {out : List Value}, PySem.W.EachIs (fun v b => v = b.2.1) out bs → (∀ b ∈ bs, RelV b.1 b.2.1 ∧ DD H b.1 b.2.2) → Vals (bs.map (·.1)) out ∧ DA H (bs.map (·.1)) (bs.map (·.2.2))
  | _, _, .nil, _ => ⟨.nil, .nil⟩
  | b :: bs, v :: vs, .cons h t, k => by
    obtain ⟨q1, q2⟩ := vals_tri t fun c hc => k c (List.mem_cons_of_mem _ hc)
    obtain ⟨r1, r2⟩ := k b List.mem_cons_self
    subst h
    exact ⟨.cons r1 q1, .cons r2 q2⟩
def dLe : PyData → PyData → Bool := PySem.W.dataLe false id
def rSortDt (K : PySem.W.Frag) : List V → Hp → VK → Prop := fun vs H Q => ∃ (a : Addr) (xs : List V) (ds : List PyData) (G : Hp), vs = [V.ref a] ∧ SqL K H a xs ∧ Same G H ∧ DA G xs ds ∧ PySem.W.AllAlike ds ∧ PySem.W.Sortable ds ∧ (∀ d ∈ ds, d.depth ≤ 60) ∧
  ∀ (ys : List V) (p : Addr), DA G ys (ds.mergeSort dLe) → H p = none → Q (.ref p) (upd H p (.lst ys))
theorem cr_sortDt (hu : X.A.units + 64 < cLine) : CallR X (.builtin "sorted") (rSortDt X.K) := by
  intro pins s σ H vs us Q I r h
  obtain ⟨a, xs, ds, G, rfl, hs, sg, kd, al, so, dp, q⟩ := h
  obtain ⟨its, rv, hl, hz⟩ := I.list hs
  rw [Vals.ref1 r]
  have len0 := rv.length
  obtain ⟨bs, b1, b2, b3, b4, b5⟩ := tri_of I sg rv kd
  have bl : bs.length = xs.length := by rw [← b1, List.length_map]
  refine PySem.W.sorted_data (enc := fun b : V × Value × PyData => b.2.2) hl.isList b3 b4 (by rw [b2]; exact al) (by rw [b2]; exact so) (by rw [bl]; exact hz) (fun b hb => ?_) fun out hol hout => ?_
  · have := dp b.2.2 (by rw [← b2]; exact List.mem_map_of_mem hb)
    omega
  · obtain ⟨ep, he⟩ := PyProof.Rows.sortedAll_at s.heap its out.toArray
    obtain ⟨q1, q2⟩ := vals_tri (H := G) hout fun b hb => b5 b (List.mem_mergeSort.mp hb)
    have e : (bs.mergeSort (PySem.W.dataLe false fun b : V × Value × PyData => b.2.2)).map (·.2.2) = ds.mergeSort dLe := by
      rw [← b2]
      exact List.map_mergeSort fun _ _ _ _ => rfl
    rw [e] at q2
    have len : (((bs.mergeSort (PySem.W.dataLe false fun b : V × Value × PyData => b.2.2)).map (·.1))).length ≤ sizeLine := by rw [List.length_map, List.length_mergeSort, bl]; exact hz
    exact ⟨.ref _, upd H (s.heap.objs.size + 1) (.lst _), I.laid (t' := s.toks) (fun _ _ => PyProof.Rows.sortedAll_old) (Nat.le_succ _) ⟨len, out, ep, q1, he⟩, rfl, q _ _ q2 (I.hok.fresh (Nat.le_succ _))⟩
theorem kSortDK (hc : X.calm = true) : CallR X (.builtin "sorted") rSortDK := cr_sortDK hc
theorem kSortDt {K : PySem.W.Frag} (hu : X.A.units + 64 < cLine) (h : X.K = K := by rfl) : CallR X (.builtin "sorted") (rSortDt K) := by
  subst h
  exact cr_sortDt hu
end
section
variable {A : Amb} {ρ : List SV} {ta te : TE} {c : Nat} {K : PySem.W.Frag}
theorem dk_inr {H : Hp} : ∀ {kvs : List (Key × V)} {kd : List (PyData × PyData)} {ks : List Str}, DK H kvs kd → kd.map (·.1) = ks.map .str → kvs.map (·.1) = ks.map Sum.inr
  | _, _, [], .nil, _ => rfl
  | _, _, k :: ks, .cons (k := key) h t, e => by
    rw [List.map_cons, List.map_cons] at e
    injection e with e1 e2
    rw [List.map_cons, List.map_cons, dk_inr t e2]
    cases key with
    | inl i => cases e1
    | inr x => cases e1; rfl
/-- sorted(a dict with texts as keys) -/
theorem ee_sortDK {kd : List (PyData × PyData)} {ks : List Str} (h : EE A te ρ c (· = .dict kd)) (hk : kd.map (·.1) = ks.map .str) (nd : ks.Nodup) (hl : ks.length ≤ 1000000) : EE A (tCB rSortDK (tCons te tNil)) ρ c (· = strsD (srtS ks)) := fun F σ H n Q S l q => by
  refine h F σ H n _ S l fun v d H1 s j k r => ?_
  subst r
  have S1 := S.step s j
  cases k with
  | dct ha kk =>
    refine ⟨_, _, ks, rfl, (off_some ha).2, dk_inr kk hk, hl, fun ys p pm hs hp => ?_⟩
    have np : p ∉ F.fs := S1.fresh hp
    have ek : ys = srtS ks := srtS_eq hs (pm.nodup_iff.mpr nd) fun k => pm.mem_iff
    exact q (.ref p) (strsD ys) _ (s.trans (same_off (same_new hp))) (A.W.stay _ _ _ j fun a _ o e => same_new hp a o e) (.lst (off_of np upd_same) (da_strs ys)) (by rw [ek])
/-- sorted(a list of data that can be ordered) -/
theorem ee_sortDt {ds : List PyData} (h : EE A te ρ c (· = .list ds)) (al : PySem.W.AllAlike ds) (so : PySem.W.Sortable ds) (dp : ∀ d ∈ ds, d.depth ≤ 60) : EE A (tCB (rSortDt K) (tCons te tNil)) ρ c (· = .list (ds.mergeSort dLe)) := fun F σ H n Q S l q => by
  refine h F σ H n _ S l fun v d H1 s j k r => ?_
  subst r
  have S1 := S.step s j
  cases k with
  | lst ha kk =>
    refine ⟨_, _, ds, off F.fs H1, rfl, .inl (.inl (off_some ha).2), off_le, kk, al, so, dp, fun ys p ky hp => ?_⟩
    have np : p ∉ F.fs := S1.fresh hp
    exact q (.ref p) _ _ (s.trans (same_off (same_new hp))) (A.W.stay _ _ _ j fun a _ o e => same_new hp a o e) (.lst (off_of np upd_same) (ky.mono (same_off (same_new hp)))) rfl
end
end DL

set_option linter.all false
set_option maxRecDepth 100000
set_option maxHeartbeats 4000000
/-! DLTB: the words above a word, as a table; they stand in one row, each behind those above it -/
namespace DL
open PySem PySem.Spec PyProof.Rows L2
def tabStep (x : Str) (acc : List Str) (s : Scr) : List Str := acc ++ (aheadS s x).filter fun t => !decide (t ∈ acc)
def tabS (ss : List Scr) (x : Str) : List Str := ss.foldl (tabStep x) []
theorem ahead_nd {s : Scr} (h : ScrOk s) (x : Str) : (aheadS s x).Nodup := by
  unfold aheadS
  split
  · split
    · exact h.w.1.sublist (List.take_sublist _ _)
    · exact h.w.1
  · exact List.nodup_nil
theorem ahead_len {s : Scr} (k : ScrOk s) (x : Str) : (aheadS s x).length ≤ 20 := by
  have k1 := k.n
  have k2 := k.l2
  unfold aheadS
  split
  · split
    · rw [List.length_take]; omega
    · omega
  · exact Nat.zero_le _
theorem tab_mem0 {x t : Str} : ∀ {ss : List Scr} {acc : List Str}, t ∈ ss.foldl (tabStep x) acc ↔ t ∈ acc ∨ ∃ s ∈ ss, t ∈ aheadS s x
  | [], acc => by simp
  | s :: ss, acc => by
    rw [List.foldl_cons, tab_mem0]
    unfold tabStep
    rw [List.mem_append, List.mem_filter]
    constructor
    · rintro ((h | ⟨h, _⟩) | ⟨r, hr, h⟩)
      · exact .inl h
      · exact .inr ⟨s, List.mem_cons_self, h⟩
      · exact .inr ⟨r, List.mem_cons_of_mem _ hr, h⟩
    · rintro (h | ⟨r, hr, h⟩)
      · exact .inl (.inl h)
      · rcases List.mem_cons.mp hr with e | hr
        · subst e
          by_cases ha : t ∈ acc
          · exact .inl (.inl ha)
          · exact .inl (.inr ⟨h, by simpa using ha⟩)
        · exact .inr ⟨r, hr, h⟩
theorem tab_nd0 {x : Str} : ∀ {ss : List Scr} {acc : List Str}, (∀ s ∈ ss, ScrOk s) → acc.Nodup → (ss.foldl (tabStep x) acc).Nodup
  | [], acc, _, h => h
  | s :: ss, acc, hs, h => by
    rw [List.foldl_cons]
    refine tab_nd0 (fun r hr => hs r (List.mem_cons_of_mem _ hr)) ?_
    unfold tabStep
    rw [List.nodup_append]
    refine ⟨h, (ahead_nd (hs s List.mem_cons_self) x).sublist List.filter_sublist, fun a ha b hb e => ?_⟩
    subst e
    have := (List.mem_filter.mp hb).2
    simp [ha] at this
theorem mem_tab {ss : List Scr} (hs : ∀ s ∈ ss, ScrOk s) {x t : Str} : t ∈ tabS ss x ↔ prec ss t x = true := by
  unfold tabS
  rw [tab_mem0, prec_iff]
  constructor
  · rintro (h | ⟨s, h, k⟩)
    · cases h
    · exact ⟨s, h, (aheadS_puts (hs s h) t x).mp k⟩
  · rintro ⟨s, h, k⟩
    exact .inr ⟨s, h, (aheadS_puts (hs s h) t x).mpr k⟩
theorem tab_nd {ss : List Scr} (hs : ∀ s ∈ ss, ScrOk s) (x : Str) : (tabS ss x).Nodup := tab_nd0 hs List.nodup_nil
theorem tab_len0 {x : Str} : ∀ {ss : List Scr} {acc : List Str}, (∀ s ∈ ss, ScrOk s) → (ss.foldl (tabStep x) acc).length ≤ acc.length + ss.length * 20
  | [], acc, _ => Nat.le_add_right _ _
  | s :: ss, acc, hs => by
    rw [List.foldl_cons]
    have h1 := tab_len0 (x := x) (acc := tabStep x acc s) fun r hr => hs r (List.mem_cons_of_mem s hr)
    have h2 : (tabStep x acc s).length ≤ acc.length + 20 := by
      unfold tabStep
      rw [List.length_append]
      have h3 : ((aheadS s x).filter fun t => !decide (t ∈ acc)).length ≤ (aheadS s x).length := List.length_filter_le _ _
      have k := hs s List.mem_cons_self
      have k1 := k.n
      have k2 := k.l2
      have h4 : (aheadS s x).length ≤ 20 := by
        unfold aheadS
        split
        · split
          · rw [List.length_take]; omega
          · omega
        · exact Nat.zero_le _
      omega
    rw [List.length_cons]
    omega
theorem tab_len {ss : List Scr} (hs : ∀ s ∈ ss, ScrOk s) (x : Str) : (tabS ss x).length ≤ ss.length * 20 := by
  have := tab_len0 (x := x) (acc := []) hs
  rw [List.length_nil, Nat.zero_add] at this
  exact this
theorem prec_known {ss : List Scr} {t x : Str} (h : prec ss t x = true) : t ∈ knownS ss := by
  obtain ⟨s, hs, p⟩ := prec_iff.mp h
  refine mem_known.mpr ⟨s, hs, ?_⟩
  unfold putsS at p
  simp only [Bool.and_eq_true, decide_eq_true_eq] at p
  exact p.1
theorem prec_irr {ss : List Scr} {x : Str} : prec ss x x = false := by
  cases e : prec ss x x with
  | false => rfl
  | true =>
    obtain ⟨s, hs, p⟩ := prec_iff.mp e
    unfold putsS at p
    simp at p
theorem addK_mem {ys : List Str} {t : Str} : ∀ {acc : List Str}, t ∈ ys.foldl addK acc ↔ t ∈ acc ∨ t ∈ ys := by
  induction ys with
  | nil => intro acc; simp
  | cons y ys ih =>
    intro acc
    rw [List.foldl_cons, ih]
    unfold addK
    split
    · rename_i h
      rw [List.mem_cons]
      constructor
      · rintro (h | h)
        · exact .inl h
        · exact .inr (.inr h)
      · rintro (h1 | h1 | h1)
        · exact .inl h1
        · subst h1; exact .inl h
        · exact .inr h1
    · rw [List.mem_append, List.mem_singleton, List.mem_cons]
      exact or_assoc
theorem addK_nd {ys : List Str} : ∀ {acc : List Str}, acc.Nodup → (ys.foldl addK acc).Nodup := by
  induction ys with
  | nil => intro acc h; exact h
  | cons y ys ih =>
    intro acc h
    rw [List.foldl_cons]
    refine ih ?_
    unfold addK
    split
    · exact h
    · rename_i hn
      rw [List.nodup_append]
      refine ⟨h, by simp, fun a ha b hb e => ?_⟩
      rw [List.mem_singleton] at hb
      subst e
      subst hb
      exact hn ha
theorem mem_above {ss : List Scr} (hs : ∀ s ∈ ss, ScrOk s) {x t : Str} : t ∈ aboveS ss x ↔ prec ss t x = true := by
  unfold aboveS
  rw [addK_mem, prec_iff]
  have pm : (byLen ss).Perm ss := List.mergeSort_perm _ _
  constructor
  · rintro (h | h)
    · cases h
    · obtain ⟨s, h1, h2⟩ := List.mem_flatMap.mp h
      have h3 := pm.mem_iff.mp h1
      exact ⟨s, h3, (aheadS_puts (hs s h3) t x).mp h2⟩
  · rintro ⟨s, h, k⟩
    exact .inr (List.mem_flatMap.mpr ⟨s, pm.mem_iff.mpr h, (aheadS_puts (hs s h) t x).mpr k⟩)
theorem above_nd (ss : List Scr) (x : Str) : (aboveS ss x).Nodup := addK_nd List.nodup_nil
theorem ahead_pw {ss : List Scr} {s : Scr} (h : ScrOk s) (hm : s ∈ ss) (x : Str) : (aheadS s x).Pairwise fun y z => prec ss y z = true := by
  have k : s.ys.Pairwise fun y z => prec ss y z = true := List.pairwise_iff_forall_sublist.mpr fun {y z} hsub => prec_iff.mpr ⟨s, hm, (putsS_iff h).mpr ⟨hsub.subset List.mem_cons_self, fun e => by
    subst e
    have := h.w.1.sublist hsub
    simp at this, (h.w.2 z (hsub.subset (List.mem_cons_of_mem _ List.mem_cons_self))).2, .inr hsub⟩⟩
  unfold aheadS
  split
  · split
    · exact k.sublist (List.take_sublist _ _)
    · exact k
  · exact List.Pairwise.nil
theorem pre_len {a b : Str} (h : preS a b = true) : a.length ≤ b.length := by
  unfold preS at h
  have e := congrArg List.length (of_decide_eq_true h)
  rw [List.length_take] at e
  rw [len_list a, len_list b]
  omega
theorem pre_refl (a : Str) : preS a a = true := by
  unfold preS
  rw [len_list a, List.take_length]
  exact decide_eq_true rfl
theorem pre_eq {a b : Str} (h : preS a b = true) (l : b.length ≤ a.length) : a = b := by
  unfold preS at h
  have e := of_decide_eq_true h
  rw [List.take_of_length_le (by rw [← len_list]; exact l)] at e
  exact (cps_inj e).symm
theorem ahead_far {ss : List Scr} {s s' : Scr} (hk : ScrOk s) (hk' : ScrOk s') (hm : s ∈ ss) (hl : s.b.length ≤ s'.b.length) {x y z : Str} (hy : y ∈ aheadS s x) (hz : z ∈ aheadS s' x) (hn : z ∉ aheadS s x) : prec ss y z = true := by
  obtain ⟨y1, y2, y3, y4⟩ := (putsS_iff hk).mp ((aheadS_puts hk y x).mp hy)
  obtain ⟨z1, z2, z3, z4⟩ := (putsS_iff hk').mp ((aheadS_puts hk' z x).mp hz)
  have pz : preS s'.b z = true := (hk'.w.2 z z1).2
  have pp : preS s.b s'.b = true := by
    rcases pre_two y3 z3 with p | p
    · exact p
    · rw [pre_eq p hl]
      exact pre_refl _
  refine prec_iff.mpr ⟨s, hm, (putsS_iff hk).mpr ⟨y1, fun e => hn (e ▸ hy), preS_trans pp pz, ?_⟩⟩
  by_cases hzs : z ∈ s.ys
  · right
    have nz : ¬ (x ∉ s.ys ∨ [z, x].Sublist s.ys) := fun q => hn ((aheadS_puts hk z x).mpr ((putsS_iff hk).mpr ⟨hzs, z2, y3, q⟩))
    have hx : x ∈ s.ys := Classical.byContradiction fun q => nz (.inl q)
    have nd := hk.w.1
    have h1 : [y, x].Sublist s.ys := by
      rcases y4 with q | q
      · exact absurd hx q
      · exact q
    have h2 : [x, z].Sublist s.ys := by
      rcases sub_two nd hzs hx z2 with q | q
      · exact absurd (.inr q) nz
      · exact q
    have i1 := (idx_sub2 nd y1 hx).mpr h1
    have i2 := (idx_sub2 nd hx hzs).mpr h2
    exact (idx_sub2 nd y1 hzs).mp (Nat.lt_trans i1 i2)
  · exact .inl hzs
theorem addK_pw {R : Str → Str → Prop} : ∀ {l acc : List Str}, acc.Pairwise R → l.Pairwise R → (∀ y ∈ acc, ∀ z ∈ l, z ∉ acc → R y z) → (l.foldl addK acc).Pairwise R
  | [], acc, h, _, _ => h
  | z :: l, acc, h, hl, hc => by
    rw [List.foldl_cons]
    have hl2 := List.pairwise_cons.mp hl
    by_cases hz : z ∈ acc
    · rw [show addK acc z = acc from if_pos hz]
      exact addK_pw h hl2.2 fun y hy w hw hn => hc y hy w (List.mem_cons_of_mem _ hw) hn
    · rw [show addK acc z = acc ++ [z] from if_neg hz]
      refine addK_pw (List.pairwise_append.mpr ⟨h, List.pairwise_singleton _ _, fun y hy w hw => ?_⟩) hl2.2 fun y hy w hw hn => ?_
      · rw [List.mem_singleton] at hw
        subst hw
        exact hc y hy w List.mem_cons_self hz
      · rcases List.mem_append.mp hy with hy | hy
        · exact hc y hy w (List.mem_cons_of_mem _ hw) fun q => hn (List.mem_append_left _ q)
        · rw [List.mem_singleton] at hy
          subst hy
          exact hl2.1 w hw
theorem above_pw0 {ss : List Scr} {x : Str} (hs : ∀ s ∈ ss, ScrOk s) : ∀ {L : List Scr} {acc : List Str}, (∀ s ∈ L, s ∈ ss) → L.Pairwise (fun s t => s.b.length ≤ t.b.length) → acc.Pairwise (fun y z => prec ss y z = true) → (∀ y ∈ acc, ∀ s ∈ L, ∀ z ∈ aheadS s x, z ∉ acc → prec ss y z = true) →
    ((L.flatMap fun s => aheadS s x).foldl addK acc).Pairwise fun y z => prec ss y z = true
  | [], acc, _, _, h, _ => h
  | s :: L, acc, hm, hL, h, hc => by
    rw [List.flatMap_cons, List.foldl_append]
    have hL2 := List.pairwise_cons.mp hL
    refine above_pw0 hs (fun r hr => hm r (List.mem_cons_of_mem _ hr)) hL2.2 (addK_pw h (ahead_pw (hs s (hm s List.mem_cons_self)) (hm s List.mem_cons_self) x) fun y hy z hz hn => hc y hy s List.mem_cons_self z hz hn) fun y hy r hr z hz hn => ?_
    rw [addK_mem] at hn
    rcases addK_mem.mp hy with hy | hy
    · exact hc y hy r (List.mem_cons_of_mem _ hr) z hz fun q => hn (.inl q)
    · exact ahead_far (hs s (hm s List.mem_cons_self)) (hs r (hm r (List.mem_cons_of_mem _ hr))) (hm s List.mem_cons_self) (hL2.1 r hr) hy hz fun q => hn (.inr q)
theorem byLen_pw (ss : List Scr) : (byLen ss).Pairwise fun s t => s.b.length ≤ t.b.length := by
  have h := List.pairwise_mergeSort (le := fun s t : Scr => decide (s.b.length ≤ t.b.length)) (fun a b c h1 h2 => decide_eq_true (Nat.le_trans (of_decide_eq_true h1) (of_decide_eq_true h2))) (fun a b => by
    rcases Nat.le_total a.b.length b.b.length with q | q <;> simp [q]) ss
  exact h.imp fun q => of_decide_eq_true q
theorem above_pw {ss : List Scr} (hs : ∀ s ∈ ss, ScrOk s) (x : Str) : (aboveS ss x).Pairwise fun y z => prec ss y z = true :=
  above_pw0 hs (fun s h => (List.mergeSort_perm _ _).mem_iff.mp h) (byLen_pw ss) List.Pairwise.nil fun y hy => absurd hy List.not_mem_nil
theorem tab_above {ss : List Scr} (hs : ∀ s ∈ ss, ScrOk s) (x : Str) : (tabS ss x).Perm (aboveS ss x) := perm_nd (tab_nd hs x) (above_nd ss x) fun t => by rw [mem_tab hs, mem_above hs]
theorem tab_take {ss : List Scr} (hs : ∀ s ∈ ss, ScrOk s) (nc : tornAll ss = false) {x y : Str} {i : Nat} (hi : (aboveS ss x)[i]? = some y) : (tabS ss y).Perm ((aboveS ss x).take i) := by
  have nd := above_nd ss x
  have pw := List.pairwise_iff_getElem.mp (above_pw hs x)
  obtain ⟨hil, hie⟩ := List.getElem?_eq_some_iff.mp hi
  refine perm_nd (tab_nd hs y) (nd.sublist (List.take_sublist _ _)) fun t => ?_
  rw [mem_tab hs]
  constructor
  · intro p
    have hy : prec ss y x = true := (mem_above hs).mp (List.mem_of_getElem? hi)
    have ht := (mem_above hs).mpr (prec_trans hs nc p hy)
    obtain ⟨j, hj, e⟩ := List.getElem_of_mem ht
    rcases Nat.lt_trichotomy j i with h | h | h
    · refine List.mem_of_getElem? (i := j) ?_
      rw [List.getElem?_take, if_pos h, List.getElem?_eq_getElem hj, e]
    · subst h
      rw [hie] at e
      rw [e, prec_irr] at p
      cases p
    · have q := pw i j hil hj h
      rw [hie, e] at q
      rw [prec_asym hs nc q] at p
      cases p
  · intro m
    obtain ⟨j, hj⟩ := List.getElem?_of_mem m
    rw [List.getElem?_take] at hj
    split at hj
    · rename_i h
      obtain ⟨hjl, hje⟩ := List.getElem?_eq_some_iff.mp hj
      have q := pw j i hjl hil h
      rw [hie, hje] at q
      exact q
    · cases hj
theorem tab_at {ss : List Scr} (hs : ∀ s ∈ ss, ScrOk s) (nc : tornAll ss = false) {x y : Str} {i : Nat} (hi : (aboveS ss x)[i]? = some y) : (tabS ss y).length = i := by
  have h := (tab_take hs nc hi).length_eq
  rw [List.length_take] at h
  have := (List.getElem?_eq_some_iff.mp hi).1
  omega
/-! ### the row, by the numbers of words above -/
theorem dLe_eq (a b : PyData) : dLe a b = !lexLt itemOrd (PySem.W.keyToks b) (PySem.W.keyToks a) := rfl
theorem dLe_trans (a b c : PyData) (h1 : dLe a b = true) (h2 : dLe b c = true) : dLe a c = true := by
  rw [dLe_eq, Bool.not_eq_true'] at *
  cases e : lexLt itemOrd (PySem.W.keyToks c) (PySem.W.keyToks a) with
  | false => rfl
  | true =>
    rcases (listOrd itemOrd).negTrans _ (PySem.W.keyToks b) _ e with q | q
    · exact q.symm.trans h2
    · exact q.symm.trans h1
theorem dLe_total (a b : PyData) : (dLe a b || dLe b a) = true := by
  rw [dLe_eq, dLe_eq]
  cases e : lexLt itemOrd (PySem.W.keyToks b) (PySem.W.keyToks a) with
  | false => rfl
  | true =>
    cases e2 : lexLt itemOrd (PySem.W.keyToks a) (PySem.W.keyToks b) with
    | false => rfl
    | true =>
      have q : lexLt itemOrd (PySem.W.keyToks b) (PySem.W.keyToks b) = true := (listOrd itemOrd).trans _ _ _ e e2
      have q2 : lexLt itemOrd (PySem.W.keyToks b) (PySem.W.keyToks b) = false := (listOrd itemOrd).irrefl _
      rw [q2] at q
      cases q
def numP (n : Nat) (x : Str) : PyData := .tuple [.int (n : Nat), .str x]
theorem num_lt {n m : Nat} {x y : Str} (h : n < m) : dLe (numP n x) (numP m y) = true ∧ dLe (numP m y) (numP n x) = false := by
  unfold dLe PySem.W.dataLe PySem.W.sortLe numP
  constructor
  · simp [PySem.W.keyToks, PySem.W.keyToksAll, PyProof.Rows.lexLt, PyProof.Rows.itemLt]
    omega
  · simp [PySem.W.keyToks, PySem.W.keyToksAll, PyProof.Rows.lexLt, PyProof.Rows.itemLt]
    omega
theorem sorted_by {l A : List Str} {f : Str → Nat} (pm : l.Perm A) (h : A.Pairwise fun x y => f x < f y) : (l.map fun t => numP (f t) t).mergeSort dLe = A.map fun t => numP (f t) t := by
  refine List.Perm.eq_of_pairwise (le := fun a b => dLe a b = true) (fun a b ha hb h1 h2 => ?_) (List.pairwise_mergeSort dLe_trans dLe_total _) (List.pairwise_map.mpr (h.imp fun q => (num_lt q).1)) ((List.mergeSort_perm _ _).trans (pm.map _))
  have ha' := List.mem_mergeSort.mp ha
  obtain ⟨x, hx, rfl⟩ := List.mem_map.mp ha'
  obtain ⟨y, hy, rfl⟩ := List.mem_map.mp hb
  rcases Nat.lt_trichotomy (f x) (f y) with q | q | q
  · rw [(num_lt q).2] at h2; cases h2
  · have hx2 := pm.mem_iff.mp hx
    obtain ⟨i, hi, e1⟩ := List.getElem_of_mem hx2
    obtain ⟨j, hj, e2⟩ := List.getElem_of_mem hy
    have pw := List.pairwise_iff_getElem.mp h
    rcases Nat.lt_trichotomy i j with z | z | z
    · have := pw i j hi hj z
      rw [e1, e2] at this
      omega
    · subst z
      rw [← e1, ← e2]
    · have := pw j i hj hi z
      rw [e1, e2] at this
      omega
  · rw [(num_lt q).2] at h1; cases h1
theorem row_sorted {ss : List Scr} (hs : ∀ s ∈ ss, ScrOk s) (nc : tornAll ss = false) (x : Str) : ((tabS ss x).map fun t => numP (tabS ss t).length t).mergeSort dLe = (aboveS ss x).map fun t => numP (tabS ss t).length t := by
  refine sorted_by (tab_above hs x) (List.pairwise_iff_getElem.mpr fun i j hi hj h => ?_)
  rw [tab_at hs nc (List.getElem?_eq_getElem hi), tab_at hs nc (List.getElem?_eq_getElem hj)]
  exact h
def tabD (ss : List Scr) : List (PyData × PyData) := (knownS ss).map fun x => (.str x, strsD (tabS ss x))
theorem look_map {f : Str → PyData} {x : Str} : ∀ {l : List Str}, x ∈ l → lookD (l.map fun y => (PyData.str y, f y)) x = some (f x)
  | y :: l, h => by
    by_cases e : y = x
    · subst e
      simp [lookD, isKey]
    · rcases List.mem_cons.mp h with h | h
      · exact absurd h.symm e
      · have q := look_map (f := f) h
        unfold lookD at q ⊢
        rw [List.map_cons, List.find?_cons_of_neg (by simp [isKey, e])]
        exact q
theorem tab_look {ss : List Scr} {x : Str} (h : x ∈ knownS ss) : lookD (tabD ss) x = some (strsD (tabS ss x)) := look_map (f := fun x => strsD (tabS ss x)) h
theorem put_new {f : Str → PyData} {l : List Str} {x : Str} (h : x ∉ l) : putD (l.map fun y => (PyData.str y, f y)) x (f x) = (l ++ [x]).map fun y => (PyData.str y, f y) := by
  unfold putD
  rw [if_neg, List.map_append]
  · rfl
  · rw [List.any_map]
    intro q
    obtain ⟨y, hy, e⟩ := List.any_eq_true.mp q
    have : y = x := of_decide_eq_true e
    exact h (this ▸ hy)
theorem srt_perm {l m : List Str} (h : l.Perm m) : srtS l = srtS m := asc_ext (asc_srtS _) (asc_srtS _) fun k => by rw [mem_srtS, mem_srtS, h.mem_iff]
theorem srt_known (ss : List Scr) : srtS (knownS ss) = knownS ss := asc_ext (asc_srtS _) (asc_srtS _) fun k => mem_srtS
def sndP : PyData → Str
  | .tuple [_, .str x] => x
  | _ => Str.empty
theorem snd_num (f : Str → Nat) (l : List Str) : (l.map fun t => numP (f t) t).map sndP = l := by
  rw [List.map_map]
  exact (List.map_congr_left fun t _ => rfl).trans (List.map_id l)
theorem tabD_inj {ss ts : List Scr} (h : tabD ss = tabD ts) : knownS ss = knownS ts ∧ ∀ x ∈ knownS ss, tabS ss x = tabS ts x := by
  have hk : knownS ss = knownS ts := by
    have q := congrArg (List.map fun e => strOf e.1) h
    unfold tabD at q
    rw [List.map_map, List.map_map] at q
    have id1 : ∀ us : List Scr, (knownS us).map ((fun e : PyData × PyData => strOf e.1) ∘ fun x => (PyData.str x, strsD (tabS us x))) = knownS us := fun us => (List.map_congr_left fun t _ => rfl).trans (List.map_id _)
    rw [id1, id1] at q
    exact q
  refine ⟨hk, fun x hx => ?_⟩
  have a := tab_look hx
  have b := tab_look (hk ▸ hx)
  rw [h, b] at a
  injection a with a
  exact (strsD_inj a).symm
theorem above_tab {ss ts : List Scr} (h : tabD ss = tabD ts) (hs : ∀ s ∈ ss, ScrOk s) (ht : ∀ s ∈ ts, ScrOk s) (n1 : tornAll ss = false) (n2 : tornAll ts = false) {x : Str} (hx : x ∈ knownS ss) : aboveS ss x = aboveS ts x := by
  obtain ⟨hk, he⟩ := tabD_inj h
  have e : (tabS ss x).map (fun t => numP (tabS ss t).length t) = (tabS ts x).map (fun t => numP (tabS ts t).length t) := by
    rw [he x hx]
    refine List.map_congr_left fun t m => ?_
    rw [← he x hx] at m
    rw [he t (prec_known ((mem_tab hs).mp m))]
  have a := row_sorted hs n1 x
  have b := row_sorted ht n2 x
  rw [e, b] at a
  have q := congrArg (List.map sndP) a
  rw [snd_num (fun t => (tabS ts t).length), snd_num (fun t => (tabS ss t).length)] at q
  exact q.symm
theorem alike_num {f : Str → Nat} (l : List Str) : PySem.W.AllAlike (l.map fun t => numP (f t) t) := fun d hd d' hd' => by
  obtain ⟨x, _, rfl⟩ := List.mem_map.mp hd
  obtain ⟨y, _, rfl⟩ := List.mem_map.mp hd'
  rfl
theorem sortable_num {f : Str → Nat} (l : List Str) : PySem.W.Sortable (l.map fun t => numP (f t) t) := .inl fun d hd => by
  obtain ⟨x, _, rfl⟩ := List.mem_map.mp hd
  exact ⟨_, _, rfl⟩
theorem below_prec (ss : List Scr) (x : Str) : ((knownS ss).filter fun y => decide (x ∈ tabS ss y)) = (knownS ss).filter fun y => ss.any fun s => decide (x ∈ tabS [s] y) := by
  refine List.filter_congr fun y _ => ?_
  unfold tabS
  rw [Bool.eq_iff_iff, decide_eq_true_eq, List.any_eq_true, tab_mem0]
  constructor
  · rintro (h | ⟨s, hs, h⟩)
    · cases h
    · exact ⟨s, hs, decide_eq_true (tab_mem0.mpr (.inr ⟨s, List.mem_singleton.mpr rfl, h⟩))⟩
  · rintro ⟨s, hs, h⟩
    rcases tab_mem0.mp (of_decide_eq_true h) with h | ⟨r, hr, h⟩
    · cases h
    · rw [List.mem_singleton.mp hr] at h
      exact .inr ⟨s, hs, h⟩
section
variable {A : Amb} {ρ : List SV} {ta : TE} {c : Nat} {T : List (Addr × Str)} {E : XK}
theorem ee_drawDT {b : Deck} {i : Nat} {lo hi : Int} (hW : A.W = addT (dW b) T) (hd : ρ[i]? = some (.raw (.ref b.d))) (h : EE A ta ρ c (IntIn lo hi)) (h0 : 0 < lo) (h1 : hi ≤ 1000000000) :
    EE A (tCall (SPd 1 preDraw postDraw) [] E (tCons (tVar i) (tCons ta tNil))) ρ (c + 1) (IntIn 0 (hi - 1)) :=
  ((ee_calldT (RA := fun ds => ∃ m : Int, ds = [.int m] ∧ lo ≤ m ∧ m < hi) hW hd ((ea_consR h ea_nil).imp fun ds ⟨d, ds1, ⟨m, e, h1, h2⟩, e2, e3⟩ => ⟨m, by rw [e3, e2, e], h1, h2⟩) fun ds ⟨m, e, h2, h3⟩ => ⟨m, e, by omega, by omega⟩).imp fun d ⟨ds, ⟨m, e, h2, h3⟩, hq⟩ => by
    obtain ⟨r, e2, r0, r1⟩ := hq m e
    exact ⟨r, e2, r0, by omega⟩).le (by omega)
end
def belowS (ss : List Scr) (x : Str) : List Str := (knownS ss).filter fun y => ss.any fun s => putsS s x y
theorem below_tab {ss : List Scr} (hs : ∀ s ∈ ss, ScrOk s) (x : Str) : ((knownS ss).filter fun y => decide (x ∈ tabS ss y)) = belowS ss x := by
  refine List.filter_congr fun y _ => ?_
  rw [Bool.eq_iff_iff, decide_eq_true_eq, mem_tab hs]
  rfl
theorem fil_strsP (p : Str → Bool) (l : List Str) : ((l.map PyData.str).filter fun d => p (strOf d)).map (fun d => d) = (l.filter p).map .str := filter_strs p _ (fun _ => rfl) l
theorem known_keys (ss : List Scr) : (tabD ss).map (·.1) = (knownS ss).map .str := by
  unfold tabD
  rw [List.map_map]
  rfl
end DL

set_option linter.all false
set_option maxRecDepth 100000
set_option maxHeartbeats 4000000
/-! DLTJ: the jar beside tables: a world that begins inside a lap -/
namespace DL
open PySem PySem.Spec PyProof.Rows L2
theorem sq_jarT {K : PySem.W.Frag} {T : List (Addr × Str)} {A : Amb} {ρ : List SV} {i j k c : Nat} {a : Addr} {ns : List Int} {tk : TE} {u : TS} {P : Po} {E : XK} (hA : A.W = addT W0 T) (hi : ρ[i]? = some (.raw (.ref a))) (hs : SqL K (off A.W.fs A.H0) a (ns.map V.int)) (hn : ns.length ≤ 63) (hk : EE A tk ρ 0 (· = .int (k : Nat))) (hk63 : k ≤ 63) (no : NoOwn ρ)
    (h : ∀ (A' : Amb) (p : Addr), A'.W = addT (jW p) T → SqL K (off A'.W.fs A'.H0) a (ns.map V.int) → SS A' u (ρ.set j (.raw (.ref p))) c { nx := fun ρ' => P.nx ρ' ∧ NoOwn ρ', rt := P.rt, bk := fun ρ' => P.bk ρ' ∧ NoOwn ρ', ct := fun ρ' => P.ct ρ' ∧ NoOwn ρ' }) :
    SS A (tSeq (tAsg (tCall (spJar K) [] E (tCons (tVar i) (tCons tk tNil))) (gName j)) u) ρ c P := fun D F σ H n S l k1 k2 k3 k4 => by
  obtain ⟨o, e1, e2⟩ := S.slot i _ hi
  have e2' : o = some (.ref a) := e2
  subst e2'
  refine ⟨.ref a, e1, ?_⟩
  refine hk F σ H n _ S (by omega) fun v d H1 s jj kd r => ?_
  subst r
  cases kd
  have S1 := S.step s jj
  have sH : SqL K H1 a (ns.map V.int) := sq_mono off_le (sq_mono S1.adv hs)
  refine ⟨a, ns, k, rfl, sH, hn, hk63, fun p H2 s2 np jp => ?_⟩
  have pF : p ∉ F.fs := S1.fresh np
  have p0 : A.H0 p = none := S1.fresh0 np
  obtain ⟨x0, y0, k0, ep, hp⟩ := jp
  have jA : (addT W0 T).J (n + 0) H1 := by rw [← hA]; exact jj
  have subT : ∀ b ∈ fsT T, b ∈ F.fs := fun b hb => S1.sub b (A.sub b (by rw [hA]; exact hb))
  have tabs2 : LamX.Tabs T H2 := jA.2.1.ext fun b o e => s2 b o e
  have pT : p ∉ fsT T := fun z => pF (subT p z)
  have pW : p ∉ A.W.fs := fun z => pF (S1.sub p (A.sub p z))
  have hfs : A.W.fs = fsT T := by rw [hA]; rfl
  let A' : Amb := ⟨addT (jW p) T, p :: F.fs, H2, fun b hb => by
    rcases List.mem_append.mp hb with hb | hb
    · rw [List.mem_singleton.mp hb]; exact List.mem_cons_self
    · exact List.mem_cons_of_mem _ (subT b hb), fun b hb => by
    rcases List.mem_cons.mp hb with z | z
    · rw [z]; exact ⟨_, ep⟩
    · obtain ⟨o, e⟩ := S1.trk b z
      exact ⟨o, s2 _ _ e⟩⟩
  have offp : ∀ {H' : Hp}, Same (off ([p] ++ fsT T) H2) (off ([p] ++ fsT T) H') → Same (off F.fs H1) (off (p :: F.fs) H') := fun {H'} s' b o e => by
    obtain ⟨nb, e⟩ := off_some e
    have nbp : b ≠ p := fun z => by rw [z, np] at e; cases e
    refine off_of (fun z => (List.mem_cons.mp z).elim nbp nb) ?_
    exact (off_some (s' b o (off_of (fun z => (List.mem_append.mp z).elim (fun z => nbp (List.mem_singleton.mp z)) fun z => nb (subT b z)) (s2 _ _ e)))).2
  have same1 : ∀ {H' : Hp}, Same (off ([p] ++ fsT T) H2) (off ([p] ++ fsT T) H') → Same (off A.W.fs A.H0) (off A.W.fs H') := fun {H'} s' b o e => by
    have e1 := S1.adv b o e
    obtain ⟨nb, e3⟩ := off_some e1
    have nbp : b ≠ p := fun z => by rw [z, np] at e3; cases e3
    exact off_of nb (off_some (s' b o (off_of (fun z => (List.mem_append.mp z).elim (fun z => nbp (List.mem_singleton.mp z)) fun z => nb (by rw [hfs]; exact z)) (s2 _ _ e3)))).2
  have S2 : St8 A' ⟨p :: F.fs, []⟩ (ρ.set j (.raw (.ref p))) (σ.set j (some (.ref p))) H2 n := by
    refine ⟨⟨⟨x0, y0, k0, ep, by omega, hp.2⟩, tabs2, fun b hb => by rw [List.mem_singleton.mp hb]; exact pT⟩, Same.refl _, fun b hb => hb, fun b hb => A'.trk b hb, fun g hg => absurd hg List.not_mem_nil, by rw [List.length_set, List.length_set, S.len], fun b x e => ?_, fun b1 b2 x y q1 q2 h1 h2 h3 h4 h5 => ?_⟩
    · by_cases hb : j = b
      · subst hb
        by_cases hl : j < ρ.length
        · rw [List.getElem?_set_self hl] at e
          cases e
          exact ⟨_, List.getElem?_set_self (by rw [S.len]; exact hl), rfl⟩
        · rw [List.getElem?_eq_none (by rw [List.length_set]; omega)] at e
          cases e
      · rw [List.getElem?_set_ne hb] at e
        rw [List.getElem?_set_ne hb]
        obtain ⟨o, h1, h2⟩ := S1.slot b x e
        refine ⟨o, h1, ?_⟩
        have hx := no x (List.mem_of_getElem? e)
        cases x with
        | no => trivial
        | im d =>
          obtain ⟨v, e, kv⟩ := h2
          exact ⟨v, e, kv.mono (offp (Same.refl _))⟩
        | raw v => exact h2
        | own q ds => cases hx
        | dct q ds => cases hx
        | semi q ds dr => cases hx
    · have h1' := adr_set (y := SV.raw (.ref p)) rfl h1 h3
      rw [no x (List.mem_of_getElem? h1')] at h3
      cases h3
  have hj' : SqL K (off A'.W.fs A'.H0) a (ns.map V.int) := by
    have hx : SqL K (off A.W.fs A.H0) a (ns.map V.int) := hs
    refine sq_mono (fun b o e => ?_) hx
    have e1 := S1.adv b o e
    have e3 := (off_some e1).2
    exact off_of (fun z => (List.mem_append.mp z).elim (fun z => by rw [List.mem_singleton.mp z, np] at e3; cases e3) fun z => (off_some e1).1 (by rw [hfs]; exact z)) (s2 _ _ e3)
  have back : ∀ {ρ' : List SV} {F' : Fp} {σ' : L2.St} {H' : Hp} {m : Nat}, NoOwn ρ' → St8 A' F' ρ' σ' H' m → St8 A ⟨p :: F.fs, F.gh⟩ ρ' σ' H' m := fun {ρ' F' σ' H' m} no' S' => by
    refine ⟨by rw [hA]; exact ⟨trivial, S'.j.2.1, fun a h => absurd h List.not_mem_nil⟩, same1 S'.adv, fun b hb => List.mem_cons_of_mem _ (S1.sub b hb), fun b hb => S'.trk b (S'.sub b hb), fun g hg => g.mono _ _ (offp S'.adv) (S1.gh g hg), S'.len, fun b x e => ?_, fun b1 b2 x y q1 q2 h1 h2 h3 h4 h5 => ?_⟩
    · obtain ⟨o, h1, h2⟩ := S'.slot b x e
      refine ⟨o, h1, ?_⟩
      have hx := no' x (List.mem_of_getElem? e)
      cases x with
      | no => trivial
      | im d =>
        obtain ⟨v, e, kv⟩ := h2
        exact ⟨v, e, kv.mono (off_sub S'.sub)⟩
      | raw v => exact h2
      | own q ds => cases hx
      | dct q ds => cases hx
      | semi q ds dr => cases hx
    · rw [no' x (List.mem_of_getElem? h1)] at h3
      cases h3
  have jW0 : ∀ (m : Nat) (H' : Hp), A'.W.J m H' → A.W.J m H' := fun m H' j' => by rw [hA]; exact ⟨trivial, j'.2.1, fun a h => absurd h List.not_mem_nil⟩
  refine h A' p rfl hj' D ⟨p :: F.fs, []⟩ _ H2 n S2 l (fun ρ' F' σ' H' hm _ S' => k1 ρ' ⟨p :: F.fs, F.gh⟩ σ' H' hm.1 (fun g hg => hg) (back hm.2 S')) ⟨fun v d H' hd sd jd kd => k2.d v d H' hd (same1 sd) (jW0 _ _ jd) (kd.mono (off_sub fun b hb => List.mem_cons_of_mem _ (S1.sub b hb))), fun _ _ _ _ z => z.elim⟩
    (fun ρ' F' σ' H' hm _ S' => k3 ρ' ⟨p :: F.fs, F.gh⟩ σ' H' hm.1 (fun g hg => hg) (back hm.2 S')) (fun ρ' F' σ' H' hm _ S' => k4 ρ' ⟨p :: F.fs, F.gh⟩ σ' H' hm.1 (fun g hg => hg) (back hm.2 S'))

theorem scr_off0 {K : PySem.W.Frag} {T : List (Addr × Str)} {H : Hp} {a : Addr} {xs : List V} (only : OnlyT (fsT T) H) (tabs : LamX.Tabs T H) (h : SqL K H a xs) : SqL K (off (fsT T) H) a xs := by
  rcases h with h | h
  · have na : a ∉ fsT T := fun z => by
      obtain ⟨ps, e⟩ := tab_of tabs z
      rcases h with h | ⟨o, h⟩
      · rw [e] at h; cases h
      · rw [e] at h; cases h
    rcases h with h | ⟨o, h⟩
    · exact .inl (.inl (off_of na h))
    · exact .inl (.inr ⟨o, off_of na h⟩)
  · exact .inr h
section
variable {A : Amb} {ρ : List SV} {ta : TE} {tl : TA} {c : Nat} {T : List (Addr × Str)} {E : XK}
theorem ee_dipT {p : Addr} {i : Nat} {m : Int} (hW : A.W = addT (jW p) T) (hd : ρ[i]? = some (.raw (.ref p))) (h : EA A tl ρ c (· = [.int m])) (h0 : 0 < m) (h1 : m < 1000000000) :
    EE A (tCall (SPj 1 preDraw postDraw) [] E (tCons (tVar i) tl)) ρ (c + 1) (fun d => ∃ r : Int, d = .int r ∧ 0 ≤ r ∧ r < m) :=
  (ee_calljT (RA := (· = [.int m])) hW hd h fun ds e => ⟨m, e, h0, h1⟩).imp fun d ⟨ds, e, hq⟩ => hq m e
theorem ee_dipDT {p : Addr} {i : Nat} {lo hi : Int} (hW : A.W = addT (jW p) T) (hd : ρ[i]? = some (.raw (.ref p))) (h : EE A ta ρ c (IntIn lo hi)) (h0 : 0 < lo) (h1 : hi ≤ 1000000000) :
    EE A (tCall (SPj 1 preDraw postDraw) [] E (tCons (tVar i) (tCons ta tNil))) ρ (c + 1) (IntIn 0 (hi - 1)) :=
  ((ee_calljT (RA := fun ds => ∃ m : Int, ds = [.int m] ∧ lo ≤ m ∧ m < hi) hW hd ((ea_consR h ea_nil).imp fun ds ⟨d, ds1, ⟨m, e, h1, h2⟩, e2, e3⟩ => ⟨m, by rw [e3, e2, e], h1, h2⟩) fun ds ⟨m, e, h2, h3⟩ => ⟨m, e, by omega, by omega⟩).imp fun d ⟨ds, ⟨m, e, h2, h3⟩, hq⟩ => by
    obtain ⟨r, e2, r0, r1⟩ := hq m e
    exact ⟨r, e2, r0, by omega⟩).le (by omega)
end
end DL

set_option linter.all false
set_option maxRecDepth 100000
set_option maxHeartbeats 4000000
/-! DLBG: places and beginnings by the words above: least places, the beginnings that may do, those that surely do -/
namespace DL
open PySem PySem.Spec PyProof.Rows L2
/-! ### the truth of a list -/
def tTru (K : PySem.W.Frag) (ta : TE) : TT := fun σ H Q => ta σ H fun x H' => ∃ k, TruV K x H' k ∧ Q k H'
theorem kTru {X : Cx} {K : PySem.W.Frag} {a : Expr} {ta : TE} (ha : PE X a ta) (he : ∀ (whole : Sem Value), isTrue a X.env whole = (do let v ← whole; standAt a.pos; holding [v] (truthy v)) := by intro _; rfl) (hK : X.K = K := by rfl) : PT X a (tTru K ta) := by
  subst hK
  exact pt_truth ha he
section
variable {A : Amb} {ρ : List SV} {ta : TE} {c : Nat} {K : PySem.W.Frag}
theorem et_tru {ds : List PyData} (h : ER A ta ρ c (· = .list ds)) : ET A (tTru K ta) ρ c (· = !ds.isEmpty) := fun F σ H n Q S l q => by
  refine h F σ H n _ S l fun v d H1 s j k r => ?_
  subst r
  cases k with
  | lst ha kk =>
    refine ⟨_, .inl ⟨_, .inl (.inl (off_some ha).2), rfl⟩, q _ H1 s j ?_⟩
    have e := kk.length
    cases ds with
    | nil => cases kk; rfl
    | cons d ds => cases kk; rfl
end
/-! ### numbers of words above that match -/
def cntB (ss : List Scr) (x b : Str) : Nat := ((knownS ss).filter fun y => prec ss y x && preS b y).length
theorem above_known {ss : List Scr} (hs : ∀ s ∈ ss, ScrOk s) (x : Str) : (aboveS ss x).Perm ((knownS ss).filter fun y => prec ss y x) :=
  perm_nd (above_nd ss x) ((known_nd ss).sublist List.filter_sublist) fun t => by
    rw [mem_above hs, List.mem_filter]
    exact ⟨fun h => ⟨prec_known h, h⟩, fun h => h.2⟩
theorem cnt_above {ss : List Scr} (hs : ∀ s ∈ ss, ScrOk s) (x b : Str) : ((aboveS ss x).filter (preS b)).length = cntB ss x b := by
  rw [((above_known hs x).filter (preS b)).length_eq, List.filter_filter]
  unfold cntB
  congr 2
  funext y
  exact Bool.and_comm _ _
theorem cnt_fil (ss : List Scr) (x b : Str) : (((knownS ss).filter fun y => prec ss y x).filter (preS b)).length = cntB ss x b := by
  rw [List.filter_filter]
  unfold cntB
  congr 2
  funext y
  exact Bool.and_comm _ _
theorem cntB_le (ss : List Scr) (x b : Str) : cntB ss x b ≤ (knownS ss).length := List.length_filter_le _ _
def takeS (x : Str) (n : Nat) : Str := ⟨(x.cps.toList.take n).toArray⟩
def fronts (x : Str) : List Str := (List.range (x.length + 1)).map (takeS x)
def possB (ss : List Scr) (x : Str) (l : Nat) : List Str := (fronts x).filter fun b => decide (cntB ss x b < l)
def oneB (ss : List Scr) (b x : Str) : Bool := ss.any fun s => decide (x ∈ s.ys) && preS s.b b
def optS : Option Str → PyData
  | none => .none
  | some x => .str x
def sureB (ss : List Scr) (x : Str) (l : Nat) : Option Str := (possB ss x l).find? fun b => oneB ss b x
def possF (ss : List Scr) (x : Str) (l : Nat) : Option Str := (possB ss x l)[0]?
theorem front_len {x b : Str} (h : b ∈ fronts x) : b.length ≤ x.length := by
  obtain ⟨n, _, rfl⟩ := List.mem_map.mp h
  unfold takeS
  rw [len_take]
  exact Nat.min_le_right _ _
theorem fronts_len (x : Str) : (fronts x).length = x.length + 1 := by
  unfold fronts
  rw [List.length_map, List.length_range]
/-- what the law asks of one screen -/
def sureP (b x : Str) (l : Nat) (s : Scr) : Bool := (preS s.b b && decide (x ∈ s.ys)) && decide (((s.ys.take (s.ys.idxOf x)).filter (preS b)).length < l)
theorem above_row {ss : List Scr} (hs : ∀ s ∈ ss, ScrOk s) (nc : tornAll ss = false) {x b : Str} {s : Scr} (hm : s ∈ ss) (hx : x ∈ s.ys) (hb : preS s.b b = true) : ((s.ys.take (s.ys.idxOf x)).filter (preS b)).length = cntB ss x b := by
  have hk := hs s hm
  have nd := hk.w.1
  have ea : aheadS s x = s.ys.take (s.ys.idxOf x) := by
    unfold aheadS
    rw [if_pos (hk.w.2 x hx).2, if_pos hx]
  rw [← ea]
  unfold cntB
  refine (perm_nd ((ahead_nd hk x).sublist List.filter_sublist) ((known_nd ss).sublist List.filter_sublist) fun y => ?_).length_eq
  rw [List.mem_filter, List.mem_filter, aheadS_puts hk, Bool.and_eq_true]
  constructor
  · rintro ⟨h1, h2⟩
    have p := prec_iff.mpr ⟨s, hm, h1⟩
    exact ⟨prec_known p, p, h2⟩
  · rintro ⟨_, p, h2⟩
    refine ⟨?_, h2⟩
    have hy : preS s.b y = true := preS_trans hb h2
    have ne : x ≠ y := fun e => by rw [e, prec_irr] at p; cases p
    have back : ∀ q : y ∉ s.ys ∨ [x, y].Sublist s.ys, False := fun q => by
      have z := prec_iff.mpr ⟨s, hm, (putsS_iff hk).mpr ⟨hx, ne, hy, q⟩⟩
      rw [prec_asym hs nc p] at z
      cases z
    have yin : y ∈ s.ys := Classical.byContradiction fun z => back (.inl z)
    refine (putsS_iff hk).mpr ⟨yin, ne.symm, (hk.w.2 x hx).2, .inr ?_⟩
    rcases sub_two nd hx yin ne with q | q
    · exact absurd (.inr q) (fun z => back z)
    · exact q
theorem sure_one {ss : List Scr} (hs : ∀ s ∈ ss, ScrOk s) (nc : tornAll ss = false) (x b : Str) (l : Nat) : ss.any (sureP b x l) = (decide (cntB ss x b < l) && oneB ss b x) := by
  rw [Bool.eq_iff_iff, List.any_eq_true, Bool.and_eq_true, decide_eq_true_eq]
  unfold oneB
  rw [List.any_eq_true]
  constructor
  · rintro ⟨s, hm, h⟩
    unfold sureP at h
    simp only [Bool.and_eq_true, decide_eq_true_eq] at h
    obtain ⟨⟨h1, h2⟩, h3⟩ := h
    rw [above_row hs nc hm h2 h1] at h3
    exact ⟨h3, s, hm, by simp [h1, h2]⟩
  · rintro ⟨h3, s, hm, h⟩
    simp only [Bool.and_eq_true, decide_eq_true_eq] at h
    refine ⟨s, hm, ?_⟩
    unfold sureP
    rw [above_row hs nc hm h.1 h.2]
    simp [h.1, h.2, h3]
theorem sure_head {ss : List Scr} (hs : ∀ s ∈ ss, ScrOk s) (nc : tornAll ss = false) (x : Str) (l : Nat) : (((fronts x).filter fun b => ss.any (sureP b x l)).map PyData.str ++ [PyData.none])[0]? = some (optS (sureB ss x l)) := by
  unfold sureB possB
  induction fronts x with
  | nil => rfl
  | cons b bs ih =>
    rw [List.filter_cons, List.filter_cons, sure_one hs nc]
    cases h1 : decide (cntB ss x b < l) with
    | false =>
      rw [Bool.false_and, if_neg Bool.noConfusion, if_neg Bool.noConfusion]
      exact ih
    | true =>
      rw [Bool.true_and, if_pos rfl, List.find?_cons]
      cases h2 : oneB ss b x with
      | false =>
        rw [if_neg Bool.noConfusion]
        exact ih
      | true =>
        rw [if_pos rfl]
        rfl
theorem poss_head (ss : List Scr) (x : Str) (l : Nat) : ((possB ss x l).map PyData.str ++ [PyData.none])[0]? = some (optS (possF ss x l)) := by
  unfold possF
  cases possB ss x l with
  | nil => rfl
  | cons b bs => rfl
def OptOk (o : Option Str) : Prop := ∀ x, o = some x → begS x = true ∧ x.length ≤ 100
theorem opt_show {o : Option Str} (h : OptOk o) : (optS o).plain = true ∧ (optS o).showable = true ∧ (optS o).depth = 0 ∧ (optS o).shown.length ≤ 2000 := by
  cases o with
  | none => exact ⟨rfl, rfl, rfl, by decide⟩
  | some x =>
    obtain ⟨h1, h2⟩ := h x rfl
    exact ⟨rfl, rfl, rfl, Nat.le_trans (shown_wl h1 h2) (by decide)⟩
theorem cld_opt2 {a b : Option Str} (ha : OptOk a) (hb : OptOk b) : Cld rReprPN [.list [optS a, optS b]] (· = .str (PyData.list [optS a, optS b]).shown) := by
  obtain ⟨a1, a2, a3, a4⟩ := opt_show ha
  obtain ⟨b1, b2, b3, b4⟩ := opt_show hb
  refine cld_reprPl2 (cld_repr ?_ ?_ ?_ ?_)
  · simp [PyData.plain, PyData.plainAll, a1, b1]
  · simp [PyData.showable, PyData.showableAll, a2, b2]
  · simp [PyData.depth, PyData.depthAll, a3, b3]
  · refine Nat.le_trans (shown_le (m := 2000) fun d hd => ?_) (by show 2 * (2000 + 2) + 2 ≤ _; rw [sizeLine_eq]; decide)
    simp only [List.mem_cons, List.not_mem_nil, or_false] at hd
    rcases hd with rfl | rfl
    · exact a4
    · exact b4
theorem poss_ok {ss : List Scr} {x : Str} {l : Nat} (h1 : begS x = true) (h2 : x.length ≤ 100) : ∀ b ∈ possB ss x l, begS b = true ∧ b.length ≤ 100 := fun b hb => by
  have hf := (List.mem_filter.mp hb).1
  refine ⟨?_, Nat.le_trans (front_len hf) h2⟩
  obtain ⟨n, _, rfl⟩ := List.mem_map.mp hf
  exact begS_take h1 n
theorem sure_ok {ss : List Scr} {x : Str} {l : Nat} (h1 : begS x = true) (h2 : x.length ≤ 100) : OptOk (sureB ss x l) := fun b hb => poss_ok h1 h2 b (List.mem_of_find?_eq_some hb)
theorem possF_ok {ss : List Scr} {x : Str} {l : Nat} (h1 : begS x = true) (h2 : x.length ≤ 100) : OptOk (possF ss x l) := fun b hb => poss_ok h1 h2 b (List.mem_of_getElem? hb)
end DL

set_option linter.all false
set_option maxRecDepth 100000
set_option maxHeartbeats 4000000
/-! DLBO: beginnings by all orders with a block of new words -/
namespace DL
open PySem PySem.Spec PyProof.Rows L2
def blkW (b : Str) (l : Nat) : List Str := (List.range l).map fun j => (b ++ "zzzz") ++ repS "z" j
def insB (R : List Str) (k : Nat) (B : List Str) : List Str := R.take k ++ B ++ R.drop k
def blkN (row : List Str) (B : List Str) : List (List Str) := row :: (List.range (row.length + 1)).map fun k => insB row k B
def rowsB (ts : List Str) (B : List Str) : List (List Str) := (ordR ts.length ts).flatMap fun row => blkN row B
def fitB (ss : List Scr) (b : Str) (l : Nat) : List (List Str) := (rowsB (knownS ss) (blkW b l)).filter (fitsAll ss)
def inAns (b x : Str) (l : Nat) (R : List Str) : Bool := decide (x ∈ (R.filter (preS b)).take l)
theorem appAss (x y z : Str) : (x ++ y) ++ z = x ++ (y ++ z) := cps_inj (by
  show ((x.cps ++ y.cps) ++ z.cps).toList = (x.cps ++ (y.cps ++ z.cps)).toList
  simp)
theorem app_list (x y : Str) : (x ++ y).cps.toList = x.cps.toList ++ y.cps.toList := by
  show (x.cps ++ y.cps).toList = _
  simp
theorem blk_tail (j : Nat) : ∀ c ∈ (("zzzz" : Str) ++ repS "z" j).cps.toList, c ∉ ("ab" : Str).cps.toList := fun c hc => by
  have hz : c = 122 := by
    rw [app_list, List.mem_append] at hc
    rcases hc with hc | hc
    · have : c ∈ [122, 122, 122, 122] := hc
      simp at this
      exact this
    · rw [rep_list] at hc
      obtain ⟨l, hl, hc⟩ := List.mem_flatten.mp hc
      have e := (List.mem_replicate.mp hl).2
      rw [e] at hc
      exact List.mem_singleton.mp hc
  rw [hz]
  decide
theorem blk_mem {b w : Str} {l : Nat} (h : w ∈ blkW b l) : ∃ t : Str, w = b ++ t ∧ (∀ c ∈ t.cps.toList, c ∉ ("ab" : Str).cps.toList) ∧ (122 : Nat) ∈ t.cps.toList := by
  obtain ⟨j, _, rfl⟩ := List.mem_map.mp h
  refine ⟨"zzzz" ++ repS "z" j, appAss _ _ _, blk_tail j, ?_⟩
  rw [app_list]
  exact List.mem_append_left _ (by decide)
theorem blk_new {b w y : Str} {l : Nat} (h : w ∈ blkW b l) (hy : OfL "ab" y) : w ≠ y := fun e => by
  obtain ⟨t, rfl, ht, hz⟩ := blk_mem h
  have : (122 : Nat) ∈ y.cps.toList := by
    rw [← e, app_list]
    exact List.mem_append_right _ hz
  exact ht _ hz (hy _ this)
theorem blk_nd (b : Str) (l : Nat) : (blkW b l).Nodup := List.pairwise_map.mpr ((List.nodup_range (n := l)).imp fun {i j} ne e => by
  have := congrArg Str.length e
  simp only [len_append, rep_len] at this
  have h1 : ("z" : Str).length = 1 := by decide
  rw [h1] at this
  exact ne (by omega))
theorem blk_pre {b w : Str} {l : Nat} (h : w ∈ blkW b l) : preS b w = true := by
  obtain ⟨t, rfl, _⟩ := blk_mem h
  exact preS_append b t
theorem blk_len (b : Str) (l : Nat) : (blkW b l).length = l := by
  unfold blkW
  rw [List.length_map, List.length_range]
theorem rows_in {ts B R : List Str} (h : R ∈ rowsB ts B) : ∃ row k, row ∈ ordR ts.length ts ∧ (R = row ∨ R = insB row k B) := by
  obtain ⟨row, h1, h2⟩ := List.mem_flatMap.mp h
  rcases List.mem_cons.mp h2 with h2 | h2
  · exact ⟨row, 0, h1, .inl h2⟩
  · obtain ⟨k, _, h3⟩ := List.mem_map.mp h2
    exact ⟨row, k, h1, .inr h3.symm⟩
theorem rows_row {ts B R : List Str} (h : R ∈ ordR ts.length ts) : R ∈ rowsB ts B := List.mem_flatMap.mpr ⟨R, h, List.mem_cons_self⟩
theorem rows_ins {ts B R : List Str} {k : Nat} (h : R ∈ ordR ts.length ts) (hk : k ≤ R.length) : insB R k B ∈ rowsB ts B := List.mem_flatMap.mpr ⟨R, h, List.mem_cons_of_mem _ (List.mem_map.mpr ⟨k, List.mem_range.mpr (Nat.lt_succ_of_le hk), rfl⟩)⟩
theorem ord_perm : ∀ {n : Nat} {ts R : List Str}, ts.length = n → R ∈ ordR n ts → R.Perm ts
  | 0, ts, R, h, m => by
    have : ts = [] := List.length_eq_zero_iff.mp h
    subst this
    rw [List.mem_singleton.mp m]
  | n + 1, ts, R, h, m => by
    obtain ⟨i, hi, m⟩ := List.mem_flatMap.mp m
    obtain ⟨r, hr, rfl⟩ := List.mem_map.mp m
    have hi := List.mem_range.mp hi
    have e : ts.take i ++ ts.drop (i + 1) = ts.eraseIdx i := (List.eraseIdx_eq_take_drop_succ ts i).symm
    have hl : (ts.take i ++ ts.drop (i + 1)).length = n := by
      rw [e, List.length_eraseIdx, if_pos hi, h]
      rfl
    have p := ord_perm hl hr
    rw [e] at p
    have g : ts.getD i Str.empty = ts[i] := by
      rw [List.getD_eq_getElem?_getD, List.getElem?_eq_getElem hi]
      rfl
    rw [g]
    exact (p.cons _).trans (perm_erase hi)
section
variable {xs : List Str} {ss : List Scr} (nd : xs.Nodup) (hx0 : ∀ y ∈ xs, OfL "ab" y) (hs : ∀ s ∈ ss, (ScrOk s ∧ shows xs s = true) ∧ OfL "ab" s.b)
include hs
theorem known_in {y : Str} (h : y ∈ knownS ss) : y ∈ xs := by
  obtain ⟨s, hm, hy⟩ := mem_known.mp h
  exact (ys_sub (hs s hm).1.2).subset hy
include nd hx0
theorem fit_row {b : Str} {l : Nat} {R : List Str} (h : R ∈ fitB ss b l) : R.Nodup ∧ (∀ s ∈ ss, shows R s = true) ∧ ∀ y ∈ knownS ss, y ∈ R := by
  obtain ⟨h1, h2⟩ := List.mem_filter.mp h
  obtain ⟨row, k, hr, e⟩ := rows_in h1
  have pm := ord_perm rfl hr
  have rn : row.Nodup := pm.nodup_iff.mpr (known_nd ss)
  refine ⟨?_, List.all_eq_true.mp h2, ?_⟩
  · rcases e with e | e
    · rw [e]; exact rn
    · rw [e]
      unfold insB
      have hsub : (row.take k ++ blkW b l ++ row.drop k).Perm (blkW b l ++ row) := ins_perm row k (blkW b l)
      rw [hsub.nodup_iff, List.nodup_append]
      refine ⟨blk_nd b l, rn, fun w hw y hy => ?_⟩
      exact blk_new hw (hx0 y (known_in hs (pm.mem_iff.mp hy)))
  · intro y hy
    have := pm.mem_iff.mpr hy
    rcases e with e | e
    · rw [e]; exact this
    · rw [e]
      exact (ins_perm row k (blkW b l)).mem_iff.mpr (List.mem_append_right _ this)
omit hx0
theorem base_fit (b : Str) (l : Nat) : (xs.filter fun y => decide (y ∈ knownS ss)) ∈ ordR (knownS ss).length (knownS ss) ∧ fitsAll ss (xs.filter fun y => decide (y ∈ knownS ss)) = true := by
  refine ⟨ord_mem rfl (perm_nd (nd.sublist List.filter_sublist) (known_nd ss) fun y => ?_), List.all_eq_true.mpr (known_fits fun s h => (hs s h).1.2)⟩
  rw [List.mem_filter, decide_eq_true_eq]
  exact ⟨fun h => h.2, fun h => ⟨known_in hs h, h⟩⟩
end
theorem idx_take {F : List Str} {x : Str} (h : x ∈ F) (l : Nat) : x ∈ F.take l ↔ F.idxOf x < l := by
  constructor
  · intro m
    rw [← List.take_append_drop l F, List.idxOf_append, if_pos m]
    exact Nat.lt_of_lt_of_le (List.idxOf_lt_length_iff.mpr m) (by rw [List.length_take]; exact Nat.min_le_left _ _)
  · intro lt
    refine List.mem_of_getElem? (i := F.idxOf x) ?_
    rw [List.getElem?_take, if_pos lt]
    exact get_idx h
theorem idx_before {F : List Str} (nd : F.Nodup) {x y : Str} (hx : x ∈ F) : y ∈ F.take (F.idxOf x) ↔ [y, x].Sublist F := by
  constructor
  · intro m
    obtain ⟨j, hj⟩ := List.getElem?_of_mem m
    rw [List.getElem?_take] at hj
    split at hj
    · rename_i h
      exact sub2_of hj (get_idx hx) h
    · cases hj
  · intro h
    have hy : y ∈ F := h.subset List.mem_cons_self
    have lt := (idx_sub2 nd hy hx).mpr h
    refine List.mem_of_getElem? (i := F.idxOf y) ?_
    rw [List.getElem?_take, if_pos lt]
    exact get_idx hy
/-- the place of a word among those that match, at least and at most -/
theorem place_ge {R : List Str} {ss : List Scr} (rn : R.Nodup) (sh : ∀ s ∈ ss, shows R s = true) (hk : ∀ s ∈ ss, ScrOk s) {x b : Str} (hx : x ∈ R) (hb : preS b x = true) : cntB ss x b ≤ (R.filter (preS b)).idxOf x := by
  have fn : (R.filter (preS b)).Nodup := rn.sublist List.filter_sublist
  have xf : x ∈ R.filter (preS b) := List.mem_filter.mpr ⟨hx, hb⟩
  have h := nd_le (l := (knownS ss).filter fun y => prec ss y x && preS b y) (m := (R.filter (preS b)).take ((R.filter (preS b)).idxOf x)) ((known_nd ss).sublist List.filter_sublist) fun y hy => by
    obtain ⟨_, h2⟩ := List.mem_filter.mp hy
    rw [Bool.and_eq_true] at h2
    obtain ⟨s, hm, p⟩ := prec_iff.mp h2.1
    have q := ahead_sub (hk s hm) (sh s hm) p hx
    exact (idx_before fn xf).mpr ((sub2_filter h2.2 hb).mpr q)
  rw [List.length_take] at h
  exact Nat.le_trans h (Nat.min_le_left _ _)
theorem place_le {R : List Str} {ss : List Scr} {x b : Str} (rn : R.Nodup) (hx : x ∈ R) (hb : preS b x = true) (h : ∀ y, [y, x].Sublist R → preS b y = true → prec ss y x = true) : (R.filter (preS b)).idxOf x ≤ cntB ss x b := by
  have fn : (R.filter (preS b)).Nodup := rn.sublist List.filter_sublist
  have xf : x ∈ R.filter (preS b) := List.mem_filter.mpr ⟨hx, hb⟩
  have k := nd_le (l := (R.filter (preS b)).take ((R.filter (preS b)).idxOf x)) (m := (knownS ss).filter fun y => prec ss y x && preS b y) (fn.sublist (List.take_sublist _ _)) fun y hy => by
    have hs := (idx_before fn xf).mp hy
    have hy2 := (List.mem_filter.mp (hs.subset List.mem_cons_self)).2
    have p := h y (hs.trans List.filter_sublist) hy2
    exact List.mem_filter.mpr ⟨prec_known p, by rw [p, hy2]; rfl⟩
  rw [List.length_take] at k
  have := List.idxOf_lt_length_iff.mpr xf
  unfold cntB
  omega
section
variable {xs : List Str} {ss : List Scr} (nd : xs.Nodup) (hx0 : ∀ y ∈ xs, OfL "ab" y) (hs : ∀ s ∈ ss, (ScrOk s ∧ shows xs s = true) ∧ OfL "ab" s.b)
include nd hs
theorem least_fit {b : Str} {l : Nat} {x : Str} (hx : x ∈ knownS ss) (hb : preS b x = true) (hl : cntB ss x b < l) : ∃ R ∈ fitB ss b l, inAns b x l R = true := by
  have hk : ∀ s ∈ ss, ScrOk s := fun s h => (hs s h).1.1
  have nc : tornAll ss = false := untorn nd fun s h => (hs s h).1
  obtain ⟨r1, r2⟩ := base_fit nd hs b l
  have pm := ord_perm rfl r1
  generalize (xs.filter fun y => decide (y ∈ knownS ss)) = R0 at r1 r2 pm
  have rn : R0.Nodup := pm.nodup_iff.mpr (known_nd ss)
  let C : Str → Bool := fun g => prec ss g x || decide (g = x)
  have sh0 := List.all_eq_true.mp r2
  have dn : ∀ g f, C g = true → prec ss f g = true → C f = true := fun g f hg p => by
    show (prec ss f x || _) = true
    rcases (Bool.or_eq_true _ _).mp hg with q | q
    · rw [prec_trans hk nc p q]; rfl
    · rw [← of_decide_eq_true q, p]; rfl
  let R := R0.filter C ++ R0.filter fun g => !C g
  have pR : R.Perm R0 := List.filter_append_perm C R0
  have shR : ∀ s ∈ ss, shows R s = true := fun s hm => by
    refine part_shows (sh0 s hm) fun Y1 f Y2 e g hg hC => dn g f hC (prec_iff.mpr ⟨s, hm, ?_⟩)
    have fy : f ∈ s.ys := by rw [e]; exact List.mem_append_right _ List.mem_cons_self
    have ysn := (hk s hm).w.1
    refine (putsS_iff (hk s hm)).mpr ⟨fy, ?_, ?_, ?_⟩
    · intro z
      subst z
      rcases List.mem_append.mp hg with hg | hg
      · rw [e, List.nodup_append] at ysn
        exact (List.nodup_cons.mp ysn.2.1).1 hg
      · have sub : (R0.filter (preS s.b)).Nodup := rn.sublist List.filter_sublist
        rw [← List.take_append_drop s.l (R0.filter (preS s.b)), List.nodup_append] at sub
        have t : f ∈ (R0.filter (preS s.b)).take s.l := by rw [shows_iff.mp (sh0 s hm)]; exact fy
        exact sub.2.2 f t f hg rfl
    · rcases List.mem_append.mp hg with hg | hg
      · exact ((hk s hm).w.2 g (by rw [e]; exact List.mem_append_right _ (List.mem_cons_of_mem _ hg))).2
      · exact (List.mem_filter.mp (List.mem_of_mem_drop hg)).2
    · rcases List.mem_append.mp hg with hg | hg
      · right
        rw [e]
        exact ((List.singleton_sublist.mpr hg).cons_cons f).trans (List.sublist_append_right Y1 _)
      · left
        intro gy
        have sub : (R0.filter (preS s.b)).Nodup := rn.sublist List.filter_sublist
        rw [← List.take_append_drop s.l (R0.filter (preS s.b)), List.nodup_append] at sub
        have t : g ∈ (R0.filter (preS s.b)).take s.l := by rw [shows_iff.mp (sh0 s hm)]; exact gy
        exact sub.2.2 g t g hg rfl
  have rnR : R.Nodup := pR.nodup_iff.mpr rn
  have xR0 : x ∈ R0 := pm.mem_iff.mpr hx
  have xR : x ∈ R := pR.mem_iff.mpr xR0
  refine ⟨R, List.mem_filter.mpr ⟨rows_row (ord_mem rfl (pR.trans pm)), List.all_eq_true.mpr shR⟩, ?_⟩
  have xC : x ∈ R0.filter C := List.mem_filter.mpr ⟨xR0, by show (_ || decide (x = x)) = true; simp⟩
  refine decide_eq_true ((idx_take (List.mem_filter.mpr ⟨xR, hb⟩) l).mpr (Nat.lt_of_le_of_lt (place_le (ss := ss) rnR xR hb fun y hy _ => ?_) hl))
  have ym : y ∈ R := hy.subset List.mem_cons_self
  rcases List.mem_append.mp ym with ym | ym
  · have hc := (List.mem_filter.mp ym).2
    rcases (Bool.or_eq_true _ _).mp hc with q | q
    · exact q
    · exfalso
      have e := of_decide_eq_true q
      subst e
      have := rnR.sublist hy
      simp at this
  · exfalso
    have back : [x, y].Sublist R := (List.singleton_sublist.mpr xC).append (List.singleton_sublist.mpr ym)
    exact not_both rnR hy back
include hx0
theorem poss_iff {b : Str} {l : Nat} {x : Str} (hx : x ∈ knownS ss) (hb : preS b x = true) : (fitB ss b l).any (inAns b x l) = decide (cntB ss x b < l) := by
  rw [Bool.eq_iff_iff, List.any_eq_true, decide_eq_true_eq]
  constructor
  · rintro ⟨R, hR, h⟩
    obtain ⟨rn, sh, hin⟩ := fit_row nd hx0 hs hR
    have xR := hin x hx
    have h2 := (idx_take (List.mem_filter.mpr ⟨xR, hb⟩) l).mp (of_decide_eq_true h)
    exact Nat.lt_of_le_of_lt (place_ge rn sh (fun s h => (hs s h).1.1) xR hb) h2
  · exact least_fit nd hs hx hb
theorem sure_iff {b : Str} {l : Nat} {x : Str} (hx : x ∈ knownS ss) (hb : preS b x = true) (hl : 1 ≤ l) : (fitB ss b l).all (inAns b x l) = (decide (cntB ss x b < l) && oneB ss b x) := by
  have hk : ∀ s ∈ ss, ScrOk s := fun s h => (hs s h).1.1
  have nc : tornAll ss = false := untorn nd fun s h => (hs s h).1
  obtain ⟨r1, r2⟩ := base_fit nd hs b l
  have pm := ord_perm rfl r1
  generalize (xs.filter fun y => decide (y ∈ knownS ss)) = R0 at r1 r2 pm
  have rn : R0.Nodup := pm.nodup_iff.mpr (known_nd ss)
  have sh0 := List.all_eq_true.mp r2
  have xR0 : x ∈ R0 := pm.mem_iff.mpr hx
  have in0 : R0 ∈ fitB ss b l := List.mem_filter.mpr ⟨rows_row r1, r2⟩
  rw [Bool.eq_iff_iff, List.all_eq_true, Bool.and_eq_true]
  constructor
  · intro hall
    refine ⟨by rw [← poss_iff nd hx0 hs hx hb]; exact List.any_eq_true.mpr ⟨R0, in0, hall R0 in0⟩, ?_⟩
    cases ho : oneB ss b x with
    | true => rfl
    | false =>
      exfalso
      have noS : ∀ s ∈ ss, preS s.b b = true → x ∉ s.ys := fun s hm hp hy => by
        have := List.any_eq_false.mp ho s hm
        rw [decide_eq_true hy, hp] at this
        exact this rfl
      let k := R0.idxOf x
      have hkl : k < R0.length := List.idxOf_lt_length_iff.mpr xR0
      have xt : x ∉ R0.take k := fun m => by
        have h1 := (idx_take xR0 k).mp m
        exact Nat.lt_irrefl _ h1
      have dropx : R0.drop k = x :: R0.drop (k + 1) := by
        have g := get_idx xR0
        obtain ⟨h1, h2⟩ := List.getElem?_eq_some_iff.mp g
        rw [List.drop_eq_getElem_cons hkl, h2]
      have shR : ∀ s ∈ ss, shows (insB R0 k (blkW b l)) s = true := fun s hm => by
        refine shows_iff.mpr ?_
        have e0 := shows_iff.mp (sh0 s hm)
        unfold insB
        rw [List.filter_append, List.filter_append]
        cases hp : preS s.b b with
        | false =>
          have eB : (blkW b l).filter (preS s.b) = [] := List.filter_eq_nil_iff.mpr fun w hw z => by
            obtain ⟨t, rfl, ht, _⟩ := blk_mem hw
            rw [pre_new (hs s hm).2 ht z] at hp
            cases hp
          rw [eB, List.append_nil, ← List.filter_append, List.take_append_drop]
          exact e0
        | true =>
          have px : preS s.b x = true := preS_trans hp hb
          have xG : x ∈ R0.filter (preS s.b) := List.mem_filter.mpr ⟨xR0, px⟩
          have eG : R0.filter (preS s.b) = (R0.take k).filter (preS s.b) ++ (x :: (R0.drop (k + 1)).filter (preS s.b)) := by
            conv => lhs; rw [← List.take_append_drop k R0, List.filter_append, dropx, List.filter_cons, if_pos px]
          have xn : x ∉ (R0.take k).filter (preS s.b) := fun m => xt (List.mem_filter.mp m).1
          have gi : (R0.filter (preS s.b)).idxOf x = ((R0.take k).filter (preS s.b)).length := by
            rw [eG, List.idxOf_append, if_neg xn, List.idxOf_cons_self, Nat.zero_add]
          have ge : s.l ≤ ((R0.take k).filter (preS s.b)).length := by
            rw [← gi]
            refine Nat.le_of_not_lt fun lt => noS s hm hp ?_
            rw [← e0]
            exact (idx_take xG s.l).mpr lt
          rw [List.append_assoc, List.take_append_of_le_length ge, ← e0]
          conv => rhs; rw [eG, List.take_append_of_le_length ge]
      have inR : insB R0 k (blkW b l) ∈ fitB ss b l := List.mem_filter.mpr ⟨rows_ins r1 (Nat.le_of_lt hkl), List.all_eq_true.mpr shR⟩
      have h := of_decide_eq_true (hall _ inR)
      have eB : (blkW b l).filter (preS b) = blkW b l := List.filter_eq_self.mpr fun w hw => blk_pre hw
      have ef : (insB R0 k (blkW b l)).filter (preS b) = ((R0.take k).filter (preS b) ++ blkW b l) ++ (R0.drop k).filter (preS b) := by
        unfold insB
        rw [List.filter_append, List.filter_append, eB]
      rw [ef, List.take_append_of_le_length (by rw [List.length_append, blk_len]; omega)] at h
      rcases List.mem_append.mp (List.mem_of_mem_take h) with h | h
      · exact xt (List.mem_filter.mp h).1
      · exact blk_new h (hx0 x (known_in hs hx)) rfl
  · rintro ⟨h1, h2⟩ R hR
    obtain ⟨rnR, sh, hin⟩ := fit_row nd hx0 hs hR
    have xR := hin x hx
    obtain ⟨s, hm, h3⟩ := List.any_eq_true.mp h2
    rw [Bool.and_eq_true] at h3
    have xy := of_decide_eq_true h3.1
    refine decide_eq_true ((idx_take (List.mem_filter.mpr ⟨xR, hb⟩) l).mpr (Nat.lt_of_le_of_lt (place_le (ss := ss) rnR xR hb fun y hy py => ?_) (of_decide_eq_true h1)))
    have psy : preS s.b y = true := preS_trans h3.2 py
    have yin := earlier_in rnR (sh s hm) xy psy hy
    have ys2 := order_in rnR (sh s hm) yin xy hy
    refine prec_iff.mpr ⟨s, hm, (putsS_iff (hk s hm)).mpr ⟨yin, fun e => ?_, ((hk s hm).w.2 x xy).2, .inr ys2⟩⟩
    subst e
    have := rnR.sublist hy
    simp at this
end
theorem front_pre_of {x b : Str} (h : b ∈ fronts x) : preS b x = true := by
  obtain ⟨n, _, rfl⟩ := List.mem_map.mp h
  unfold preS takeS
  refine decide_eq_true ?_
  rw [len_take]
  show _ = x.cps.toList.take n
  rw [len_list]
  simp
end DL

set_option linter.all false
set_option maxRecDepth 100000
set_option maxHeartbeats 4000000
/-! DLBP: defs with tables where no repr is under way; a text taken any number of times, also none -/
namespace DL
open PySem PySem.Spec PyProof.Rows L2
section
variable {P : Program} {w : World} {K : PySem.W.Frag} {mg : Str → Option Value} {base : Heap}
theorem oktG {T : List (Addr × Str)} {x qual : Str} {st : Stmt} {f : Addr} {fd : FuncData} {N ps : List Str} {k m j c : Nat} {pre : List PyData → Prop} {post : List PyData → PyData → Prop} (F : Fun K x qual st f fd) (S : FnScope N ps (defScope st)) (hm : ∀ ds, pre ds → ds.length = m) (hc : c ≤ LIM)
    (hps : ps.length = m := by rfl) (hN : N.length - m = j := by rfl)
    (body : ∀ (cdv : Value) (A : Around) (outer : List Env) (s : Shared) (H : Hp) (E : XK), Room k (A.deeper (PyProof.Rows.envOfC qual (defScope st) s.heap.objs.size f cdv)) → A.guards = some [] →
      ∃ t, PSs (cxOf CX0 P w K mg base N qual (defScope st) f cdv A outer s H E).nox (defBody st) t ∧
        ∀ (A : Amb) (ds : List PyData), A.W = addT W0 T → pre ds → SS A t (ds.map .im ++ List.replicate j .no) c { nx := fun _ => post ds .none, rt := post ds }) :
    FnG P w K mg base CX0 (k + 1) f fd ps (SPt T pre post) := by
  refine DL.Fun.okG F S (fun vs H Q E h => (SPt.len hm h).trans hps.symm) fun cdv A outer s H vs Q E hr hgd h => ?_
  obtain ⟨t, h1, h2⟩ := body cdv A outer s H E hr hgd
  refine ⟨t, PSs.nox h1, ?_⟩
  obtain ⟨fs, ds, sub, trk, tabs, kd, hp, q⟩ := h
  let A : Amb := ⟨addT W0 T, fs, H, sub, trk⟩
  have hl : vs.length = m := by rw [kd.length]; exact hm ds hp
  have S : St8 A ⟨fs, []⟩ (ds.map .im ++ List.replicate (N.length - vs.length) .no) (L2.start N vs) H 0 := st8_start (A := A) rfl ⟨trivial, tabs, fun a ha => absurd ha List.not_mem_nil⟩ (fun i s e => by
    rw [List.getElem?_map] at e
    cases e2 : ds[i]? with
    | none => rw [e2] at e; cases e
    | some d =>
      rw [e2] at e
      cases e
      obtain ⟨v, hv, k⟩ := kd.at e2
      exact ⟨v, hv, .inl ⟨d, rfl, k⟩⟩) (by rw [List.length_map, kd.length])
  have hk : N.length - vs.length = j := by rw [hl]; exact hN
  rw [hk] at S
  refine h2 A ds rfl hp _ ⟨fs, []⟩ _ H 0 S (by omega) ?_ ?_ ?_ ?_
  · intro ρ' F' σ' H' a _ S'
    exact q .non .none H' S'.adv S'.j.2.1 .non a
  · exact ⟨fun v d H' a s jj b => q v d H' s jj.2.1 b a, fun _ _ _ _ z => z.elim⟩
  · intro ρ' F' σ' H' a
    exact False.elim a
  · intro ρ' F' σ' H' a
    exact False.elim a
end
def rMulZ : L2.R2 := fun x y H Q => ∃ (z : Str) (k : Nat), x = .str z ∧ y = .int (k : Nat) ∧ k ≤ 1000 ∧ 1 ≤ z.length ∧ z.length ≤ 1000 ∧ Q (.str (repS z k)) H
section
variable {X : Cx}
theorem op_mulZ : OpR X (binaryOp .Mult) rMulZ := by
  intro pins s σ H x y v u Q I rx ry h
  obtain ⟨z, k, rfl, rfl, k2, z1, z2, q⟩ := h
  by_cases k1 : 1 ≤ k
  · exact op_mulS _ _ _ _ _ _ _ _ _ I rx ry ⟨z, k, rfl, rfl, k1, k2, z1, z2, q⟩
  · have hk0 : k = 0 := by omega
    subst hk0
    obtain ⟨t, rfl⟩ := rx
    obtain ⟨t', rfl⟩ := ry
    refine PySem.P.mul_str ?_ (fun _ _ => ?_) (fun _ _ => ?_) ?_
    · rfl
    · exfalso; omega
    · exfalso; omega
    · rw [if_pos (by decide)]
      exact ⟨Nat.zero_le _, ⟨.str (repS z 0), H, I.tok _, ⟨_, rfl⟩, q⟩⟩
end
section
variable {A : Amb} {ρ : List SV} {ta te : TE} {c : Nat} {K : PySem.W.Frag}
theorem od_mulZ {z : Str} {k : Nat} (h : k ≤ 1000 ∧ 1 ≤ z.length ∧ z.length ≤ 1000) : Opd rMulZ (.str z) (.int (k : Nat)) (· = .str (repS z k)) := fun H x y Q h1 h2 q => by
  cases h1; cases h2
  exact ⟨z, k, rfl, rfl, h.1, h.2.1, h.2.2, q _ _ (fun G => .str _) rfl⟩
end
/-! ### what the law finds by all orders -/
theorem fit_len {ss : List Scr} {b : Str} {l : Nat} {R : List Str} (hR : R ∈ rowsB (knownS ss) (blkW b l)) : R.length ≤ (knownS ss).length + l := by
  obtain ⟨row, k, hr, e⟩ := rows_in hR
  have pm := (ord_perm rfl hr).length_eq
  rcases e with e | e
  · rw [e, pm]; omega
  · rw [e]
    unfold insB
    rw [List.length_append, List.length_append, blk_len, List.length_take, List.length_drop]
    omega
theorem rows_len {ts B : List Str} (h : ts.length ≤ 5) : (rowsB ts B).length ≤ 5 ^ 5 * 10 := by
  have ob := Nat.le_trans (ord_le (ts := ts) rfl h) (Nat.pow_le_pow_right (n := 5) (by decide) h)
  have h1 := flatMap_le (f := fun row => blkN row B) (k := 10) (l := ordR ts.length ts) fun row hr => by
    have h2 := (ord_of (ts := ts) rfl hr).1
    show ((List.range (row.length + 1)).map _).length + 1 ≤ 10
    rw [List.length_map, List.length_range]
    omega
  exact Nat.le_trans h1 (Nat.mul_le_mul_right _ ob)
theorem all_len {α : Type} {p : α → Bool} (l : List α) : decide (((l.filter p).length : Int) = (l.length : Nat)) = l.all p := by
  rw [Bool.eq_iff_iff, decide_eq_true_eq, List.all_eq_true, ← List.length_filter_eq_length_iff]
  omega
theorem any_len {α : Type} {p : α → Bool} (l : List α) : decide ((0 : Int) < ((l.filter p).length : Nat)) = l.any p := by
  rw [Bool.eq_iff_iff, decide_eq_true_eq, List.any_eq_true, ← List.length_filter_pos_iff]
  omega
theorem sure_headB {ss : List Scr} (hs : ∀ s ∈ ss, ScrOk s) (nc : tornAll ss = false) (x : Str) (l : Nat) : (((fronts x).filter fun b => decide (cntB ss x b < l) && oneB ss b x).map PyData.str ++ [PyData.none])[0]? = some (optS (sureB ss x l)) := by
  rw [← sure_head hs nc x l]
  congr 4
  funext b
  exact (sure_one hs nc x b l).symm
theorem fronts_at {x : Str} {i : Nat} (h : i < x.length + 1) : (fronts x)[i]? = some (takeS x i) := by
  unfold fronts
  rw [List.getElem?_map, List.getElem?_range h]
  rfl
theorem rep_one (b : Bool) (y : Str) : (List.replicate (if b = true then 1 else 0) [PyData.str y]).flatten = (if b = true then [y] else []).map PyData.str := by
  cases b <;> rfl
theorem cld_opt4 {a b : Option Str} (ha : OptOk a) (hb : OptOk b) : Cld rReprPN [.list [.list [optS a, optS b], .list [optS a, optS b]]] (· = .str (PyData.list [.list [optS a, optS b], .list [optS a, optS b]]).shown) := by
  obtain ⟨a1, a2, a3, a4⟩ := opt_show ha
  obtain ⟨b1, b2, b3, b4⟩ := opt_show hb
  have one : (PyData.list [optS a, optS b]).shown.length ≤ 5000 := by
    refine Nat.le_trans (shown_le (m := 2000) fun d hd => ?_) (by show 2 * (2000 + 2) + 2 ≤ _; decide)
    simp only [List.mem_cons, List.not_mem_nil, or_false] at hd
    rcases hd with rfl | rfl
    · exact a4
    · exact b4
  refine cld_reprPl2 (cld_repr ?_ ?_ ?_ ?_)
  · simp [PyData.plain, PyData.plainAll, a1, b1]
  · simp [PyData.showable, PyData.showableAll, a2, b2]
  · simp [PyData.depth, PyData.depthAll, a3, b3]
  · refine Nat.le_trans (shown_le (m := 5000) fun d hd => ?_) (by show 2 * (5000 + 2) + 2 ≤ _; rw [sizeLine_eq]; decide)
    simp only [List.mem_cons, List.not_mem_nil, or_false, or_self] at hd
    rw [hd]
    exact one
end DL

set_option linter.all false
set_option maxRecDepth 100000
set_option maxHeartbeats 4000000
/-! DLKW: defs with one keyword-only argument: called with it, and without it -/
namespace DL
open PySem PySem.Spec PyProof.Rows L2
theorem vals_app : ∀ {vs ws : List V} {us xs : List Value}, Vals vs us → Vals ws xs → Vals (vs ++ ws) (us ++ xs)
  | _, _, _, _, .nil, k => k
  | _, _, _, _, .cons r t, k => .cons r (vals_app t k)
theorem Fun.kbn {K : PySem.W.Frag} {x qual : Str} {st : Stmt} {f : Addr} {fd : FuncData} {ps ks : List Str} {n : Nat} (F : Fun K x qual st f fd)
    (h : ∀ (kV doc pm : Value) (an : Option Addr) (cdv ct : Value) (us ws : List Value), us.length = n → ws.length = ks.length → bindArgs (PySem.W.fnOf x qual (defArgs st) (defBody st) (defScope st) .none kV doc pm an cdv ct) ⟨us, ks.zip ws⟩ = pure (ps.zip (us ++ ws))) :
    KBn K fd ps n ks (fun us ws => us ++ ws) (fun vs zs => vs ++ zs) := by
  obtain ⟨oc, od, kV, doc, pm, an, cdv, ct, osl, rfl, lk, hcd⟩ := F.ex
  exact ⟨fun s us ws _ hu hw => .of_eq (h kV doc pm an cdv ct us ws hu hw), fun a b => vals_app a b⟩
theorem binds_kw {K : PySem.W.Frag} {x qual nm : Str} {st : Stmt} {f D : Addr} {oc doc pm cdv ct : Value} {od an : Option Addr} {sl : Array (Option Value)} {ps : List Str} {b : Bool}
    (l : K.lookup f = some ⟨oc, od, .func (PySem.W.fnOf x qual (defArgs st) (defBody st) (defScope st) .none (.ref D) doc pm an cdv ct), sl⟩) (c : PySem.W.codeIn K cdv qual = true) (k : PySem.W.keepIn K (.ref f) = true) (q : PySem.W.nsIn K D nm = some (some (.bool b))) (_ : True = True) (n : Nat) (hn : n + 1 = ps.length)
    (h : ∀ (D : Addr) (doc pm : Value) (an : Option Addr) (cdv ct : Value) (us ks : List Value), us.length = n → ks.length = 1 → KwChain D (([nm] : List Str).zip ks) (bindArgs (PySem.W.fnOf x qual (defArgs st) (defBody st) (defScope st) .none (.ref D) doc pm an cdv ct) ⟨us, []⟩) (ps.zip (us ++ ks))) :
    Binds K (PySem.W.fnOf x qual (defArgs st) (defBody st) (defScope st) .none (.ref D) doc pm an cdv ct) ps [.bool b] := by
  have FD : FunD K x qual (defArgs st) (defBody st) (defScope st) [] [(nm, .bl b)] f (PySem.W.fnOf x qual (defArgs st) (defBody st) (defScope st) .none (.ref D) doc pm an cdv ct) :=
    ⟨⟨oc, od, .none, .ref D, doc, pm, an, cdv, ct, sl, rfl, l, c, .inl ⟨rfl, rfl⟩, .inr ⟨D, rfl, fun z hz => by
      rw [List.mem_singleton.mp hz]
      exact ⟨.bool b, q, rfl⟩⟩⟩, k⟩
  obtain ⟨ds, v, bb⟩ := FD.binds0 (ps := ps) n (List.cons_ne_nil _ _) hn fun D doc pm an cdv ct us ks hu hk => h D doc pm an cdv ct us ks hu hk
  cases v with
  | cons r t =>
    cases t
    cases r
    exact bb
section
variable {A : Amb} {ρ : List SV} {c c1 c2 : Nat} {tl tk : TA} {ds0 es0 : List PyData} {pre : List PyData → Prop} {post : List PyData → PyData → Prop} {E : XK} {W : Wd} {T : List (Addr × Str)}
theorem ee_calltD {b : Bool} {e : PyData} (hW : A.W = addT W T) (h : EA A tl ρ c (· = ds0)) (hp : pre (ds0 ++ [.bool b])) (hf : ∀ r, post (ds0 ++ [.bool b]) r → r = e) : EE A (tCall (SPt T pre post) [.bl b] E tl) ρ c (· = e) := fun F σ H n Q S l q => by
  refine h F σ H n _ S l fun vs ds H1 s j k r => ?_
  subst r
  have S1 := S.step s j
  have j' := j
  rw [hW] at j'
  refine ⟨F.fs, ds ++ [.bool b], fun a ha => S1.sub a (A.sub a (by rw [hW]; exact List.mem_append_right _ ha)), S1.trk, j'.2.1, k.append (.cons (.bl b) .nil), hp, fun v d H2 s2 t2 k2 p2 => ?_⟩
  obtain ⟨s3, j3⟩ := addT_step hW j s2 t2
  exact q v d H2 (s.trans s3) j3 k2 (hf d p2)
theorem ee_calltN {e : PyData} (hW : A.W = addT W T) (h : EA A tl ρ c1 (· = ds0)) (h2 : EA A tk ρ c2 (· = es0)) {n m : Nat} (hn : ds0.length = n) (hm : es0.length = m) (hp : pre (ds0 ++ es0)) (hf : ∀ r, post (ds0 ++ es0) r → r = e) : EE A (tCallN n m (SPt T pre post) (fun vs zs => vs ++ zs) E tl tk) ρ (c1 + c2) (· = e) := fun F σ H n0 Q S l q => by
  refine h F σ H n0 _ S (by omega) fun vs ds H1 s j k r => ?_
  subst r
  have S1 := S.step s j
  refine h2 F σ H1 (n0 + c1) _ S1 (by omega) fun zs es H2 s2 j2 k2 r2 => ?_
  subst r2
  have S2 := S1.step s2 j2
  have j' := j2
  rw [hW] at j'
  refine ⟨k.length.trans hn, k2.length.trans hm, F.fs, ds ++ es, fun a ha => S2.sub a (A.sub a (by rw [hW]; exact List.mem_append_right _ ha)), S2.trk, j'.2.1, (k.mono (S1.offF s2)).append k2, hp, fun v d H3 s3 t3 k3 p3 => ?_⟩
  obtain ⟨s4, j4⟩ := addT_step hW j2 s3 t3
  exact q v d H3 ((s.trans s2).trans s4) (by rw [← Nat.add_assoc]; exact j4) k3 (hf d p3)
end
end DL

set_option linter.all false
set_option maxRecDepth 100000
set_option maxHeartbeats 4000000
/-! DLPR: the places of a word: the least, the greatest, the one of a dictionary -/
namespace DL
open PySem PySem.Spec PyProof.Rows L2
def mostB (ss : List Scr) (x b : Str) : Nat := (((knownS ss).filter (preS b)).filter fun y => !prec ss x y).length - 1
def rangeD (ss : List Scr) (b x : Str) (o : Bool) : PyData := .tuple [.int (cntB ss x b : Nat), if o = true then .int (mostB ss x b : Nat) else if oneB ss b x = true then .int (cntB ss x b : Nat) else .none]
theorem filter_parts {α : Type} (p : α → Bool) : ∀ l : List α, (l.filter p).length + (l.filter fun a => !p a).length = l.length
  | [] => rfl
  | a :: l => by
    have ih := filter_parts p l
    rw [List.filter_cons, List.filter_cons]
    cases p a with
    | true =>
      simp
      omega
    | false =>
      simp
      omega
theorem below_known (ss : List Scr) (x : Str) : belowS ss x = (knownS ss).filter fun y => prec ss x y := rfl
theorem most_pos {ss : List Scr} {x b : Str} (hx : x ∈ knownS ss) (hb : preS b x = true) : 1 ≤ (((knownS ss).filter (preS b)).filter fun y => !prec ss x y).length := by
  refine List.length_pos_of_mem (a := x) (List.mem_filter.mpr ⟨List.mem_filter.mpr ⟨hx, hb⟩, ?_⟩)
  rw [prec_irr]
  rfl
theorem most_int {ss : List Scr} {x b : Str} (hx : x ∈ knownS ss) (hb : preS b x = true) : ((((knownS ss).filter (preS b)).length : Nat) : Int) - 1 - (((belowS ss x).filter (preS b)).length : Nat) = (mostB ss x b : Nat) := by
  have h1 := filter_parts (fun y => prec ss x y) ((knownS ss).filter (preS b))
  have h2 : (((knownS ss).filter (preS b)).filter fun y => prec ss x y) = (belowS ss x).filter (preS b) := by
    rw [below_known, List.filter_filter, List.filter_filter]
    refine List.filter_congr fun y _ => Bool.and_comm _ _
  have h3 := most_pos hx hb
  rw [h2] at h1
  unfold mostB
  omega
theorem most_law {ss : List Scr} {x b : Str} (hx : x ∈ knownS ss) (hb : preS b x = true) : (((((knownS ss).filter (preS b)).filter fun y => !prec ss x y).length : Nat) : Int) - 1 = (mostB ss x b : Nat) := by
  have h3 := most_pos hx hb
  unfold mostB
  omega
theorem cnt_law (ss : List Scr) (x b : Str) : (((knownS ss).filter (preS b)).filter fun y => prec ss y x).length = cntB ss x b := by
  rw [List.filter_filter]
  rfl
/-- where a screen shows the word and its beginning is one of this one -/
theorem fixed_le {xs : List Str} {ss : List Scr} (nd : xs.Nodup) (hs : ∀ s ∈ ss, ScrOk s ∧ shows xs s = true) {x b : Str} (hx : x ∈ xs) (hb : preS b x = true) (ho : oneB ss b x = true) : (xs.filter (preS b)).idxOf x = cntB ss x b := by
  have hk : ∀ s ∈ ss, ScrOk s := fun s h => (hs s h).1
  refine Nat.le_antisymm (place_le (ss := ss) nd hx hb fun y hy py => ?_) (place_ge nd (fun s h => (hs s h).2) hk hx hb)
  obtain ⟨s, hm, h3⟩ := List.any_eq_true.mp ho
  rw [Bool.and_eq_true] at h3
  have xy := of_decide_eq_true h3.1
  have psy : preS s.b y = true := preS_trans h3.2 py
  have yin := earlier_in nd (hs s hm).2 xy psy hy
  have ys2 := order_in nd (hs s hm).2 yin xy hy
  refine prec_iff.mpr ⟨s, hm, (putsS_iff (hk s hm)).mpr ⟨yin, fun e => ?_, ((hk s hm).w.2 x xy).2, .inr ys2⟩⟩
  subst e
  have := nd.sublist hy
  simp at this
theorem fixed_most {ss : List Scr} (hk : ∀ s ∈ ss, ScrOk s) (nc : tornAll ss = false) {x b : Str} (hx : x ∈ knownS ss) (hb : preS b x = true) (ho : oneB ss b x = true) : mostB ss x b = cntB ss x b := by
  obtain ⟨s, hm, h3⟩ := List.any_eq_true.mp ho
  rw [Bool.and_eq_true] at h3
  have xy := of_decide_eq_true h3.1
  have e : (((knownS ss).filter (preS b)).filter fun y => !prec ss x y) = ((knownS ss).filter (preS b)).filter fun y => prec ss y x || decide (y = x) := by
    refine List.filter_congr fun y hy => ?_
    have py := (List.mem_filter.mp hy).2
    have psy : preS s.b y = true := preS_trans h3.2 py
    by_cases e : y = x
    · subst e
      rw [prec_irr]
      simp
    · rw [decide_eq_false e, Bool.or_false]
      cases p : prec ss x y with
      | true => rw [prec_asym hk nc p]; rfl
      | false =>
        have notx : ¬ (y ∉ s.ys ∨ [x, y].Sublist s.ys) := fun q => by
          have := prec_iff.mpr ⟨s, hm, (putsS_iff (hk s hm)).mpr ⟨xy, fun z => e z.symm, psy, q⟩⟩
          rw [p] at this
          cases this
        have yin : y ∈ s.ys := Classical.byContradiction fun q => notx (.inl q)
        have yx : [y, x].Sublist s.ys := by
          rcases sub_two (hk s hm).w.1 yin xy e with q | q
          · exact q
          · exact absurd (.inr q) notx
        have q := prec_iff.mpr ⟨s, hm, (putsS_iff (hk s hm)).mpr ⟨yin, e, ((hk s hm).w.2 x xy).2, .inr yx⟩⟩
        rw [q]
        rfl
  have nd2 : ((knownS ss).filter (preS b)).Nodup := (known_nd ss).sublist List.filter_sublist
  have pm : (((knownS ss).filter (preS b)).filter fun y => prec ss y x || decide (y = x)).Perm (x :: ((knownS ss).filter (preS b)).filter fun y => prec ss y x) := by
    refine perm_nd (nd2.sublist List.filter_sublist) (List.nodup_cons.mpr ⟨fun m => ?_, nd2.sublist List.filter_sublist⟩) fun y => ?_
    · have := (List.mem_filter.mp m).2
      rw [prec_irr] at this
      cases this
    · rw [List.mem_cons]
      constructor
      · intro h
        obtain ⟨h1, h2⟩ := List.mem_filter.mp h
        rcases (Bool.or_eq_true _ _).mp h2 with h2 | h2
        · exact .inr (List.mem_filter.mpr ⟨h1, h2⟩)
        · exact .inl (of_decide_eq_true h2)
      · rintro (h | h)
        · rw [h]
          exact List.mem_filter.mpr ⟨List.mem_filter.mpr ⟨hx, hb⟩, by simp⟩
        · obtain ⟨h1, h2⟩ := List.mem_filter.mp h
          exact List.mem_filter.mpr ⟨h1, by rw [h2]; rfl⟩
  unfold mostB
  rw [e, pm.length_eq, List.length_cons, cnt_law]
  rfl
theorem int_show : ∀ l : Nat, l ≤ 400 → (PyData.int (l : Nat)).showable = true ∧ (PyData.int (l : Nat)).shown.length ≤ 10 := by decide +kernel
def SmI (d : PyData) : Prop := d = .none ∨ ∃ l : Nat, d = .int (l : Nat) ∧ l ≤ 400
theorem smI_show {d : PyData} (h : SmI d) : d.plain = true ∧ d.showable = true ∧ d.depth = 0 ∧ d.shown.length ≤ 10 := by
  rcases h with rfl | ⟨l, rfl, h⟩
  · exact ⟨rfl, rfl, rfl, by decide⟩
  · obtain ⟨h1, h2⟩ := int_show l h
    exact ⟨rfl, h1, rfl, h2⟩
theorem cld_places {a b c d : PyData} (ha : SmI a) (hb : SmI b) (hc : SmI c) (hd : SmI d) : Cld rReprPN [.list [.tuple [a, b], .tuple [c, d]]] (· = .str (PyData.list [.tuple [a, b], .tuple [c, d]]).shown) := by
  obtain ⟨a1, a2, a3, a4⟩ := smI_show ha
  obtain ⟨b1, b2, b3, b4⟩ := smI_show hb
  obtain ⟨c1, c2, c3, c4⟩ := smI_show hc
  obtain ⟨d1, d2, d3, d4⟩ := smI_show hd
  have one : ∀ {x y : PyData}, x.shown.length ≤ 10 → y.shown.length ≤ 10 → (PyData.tuple [x, y]).shown.length ≤ 100 := fun {x y} h1 h2 => by
    refine Nat.le_trans (shownT_le (m := 10) fun d hd => ?_) (by show 2 * (10 + 2) + 3 ≤ 100; decide)
    simp only [List.mem_cons, List.not_mem_nil, or_false] at hd
    rcases hd with rfl | rfl
    · exact h1
    · exact h2
  refine cld_reprPl2 (cld_repr ?_ ?_ ?_ ?_)
  · simp [PyData.plain, PyData.plainAll, a1, b1, c1, d1]
  · simp [PyData.showable, PyData.showableAll, a2, b2, c2, d2]
  · simp [PyData.depth, PyData.depthAll, a3, b3, c3, d3]
  · refine Nat.le_trans (shown_le (m := 100) fun e he => ?_) (by show 2 * (100 + 2) + 2 ≤ _; rw [sizeLine_eq]; decide)
    simp only [List.mem_cons, List.not_mem_nil, or_false] at he
    rcases he with rfl | rfl
    · exact one a4 b4
    · exact one c4 d4
end DL

set_option linter.all false
set_option maxRecDepth 100000
set_option maxHeartbeats 4000000
/-! DLRO: places by all orders; least and greatest of a list of numbers -/
namespace DL
open PySem PySem.Spec PyProof.Rows L2
theorem kMinL {X : Cx} {K : PySem.W.Frag} (hc : X.calm = true) (h : X.K = K := by rfl) : CallR X (.builtin "min") (rMin K) := by
  subst h
  exact cr_min hc
theorem kMaxL {X : Cx} {K : PySem.W.Frag} (hc : X.calm = true) (h : X.K = K := by rfl) : CallR X (.builtin "max") (rMax K) := by
  subst h
  exact cr_max hc
theorem cld_minL {K : PySem.W.Frag} {ns : List Int} {m : Int} (hm : m ∈ ns) (h : ∀ y ∈ ns, m ≤ y) : Cld (rMin K) [.list (ns.map .int)] (· = .int m) := fun H vs Q k q => by
  cases k with
  | cons h1 t =>
    cases t
    cases h1 with
    | lst hp kk =>
      have e := kk.ints
      subst e
      refine ⟨_, ns, rfl, .inl (.inl hp), List.length_pos_of_mem hm, fun m' hm' h' => ?_⟩
      have e : m' = m := Int.le_antisymm (h' m hm) (h m' hm')
      rw [e]
      exact q _ _ (fun G => .int _) rfl
theorem cld_maxL {K : PySem.W.Frag} {ns : List Int} {m : Int} (hm : m ∈ ns) (h : ∀ y ∈ ns, y ≤ m) : Cld (rMax K) [.list (ns.map .int)] (· = .int m) := fun H vs Q k q => by
  cases k with
  | cons h1 t =>
    cases t
    cases h1 with
    | lst hp kk =>
      have e := kk.ints
      subst e
      refine ⟨_, ns, rfl, .inl (.inl hp), List.length_pos_of_mem hm, fun m' hm' h' => ?_⟩
      have e : m' = m := Int.le_antisymm (h m' hm') (h' m hm)
      rw [e]
      exact q _ _ (fun G => .int _) rfl
/-! ### all orders that fit -/
def rowsF (ss : List Scr) : List (List Str) := (ordR (knownS ss).length (knownS ss)).filter (fitsAll ss)
def plc (b x : Str) (R : List Str) : Nat := (R.filter (preS b)).idxOf x
def freeR (ss : List Scr) (b x : Str) : List (List Str) := ((newR (ordR (knownS ss).length (knownS ss)) (b ++ "zzzz")).filter fun R => decide ((b ++ "zzzz") ∈ R)).filter fun R => decide (R.idxOf (b ++ "zzzz") < R.idxOf x)
theorem place_most {R : List Str} {ss : List Scr} {x b : Str} (rn : R.Nodup) (hR : ∀ y ∈ R, y ∈ knownS ss) (sh : ∀ s ∈ ss, shows R s = true) (hk : ∀ s ∈ ss, ScrOk s) (hx : x ∈ R) (hb : preS b x = true) : plc b x R ≤ mostB ss x b := by
  have fn : (R.filter (preS b)).Nodup := rn.sublist List.filter_sublist
  have xf : x ∈ R.filter (preS b) := List.mem_filter.mpr ⟨hx, hb⟩
  have il := List.idxOf_lt_length_iff.mpr xf
  have nd2 : (((knownS ss).filter (preS b)).filter fun y => !prec ss x y).Nodup := ((known_nd ss).sublist List.filter_sublist).sublist List.filter_sublist
  have h := nd_le (l := x :: (R.filter (preS b)).take ((R.filter (preS b)).idxOf x)) (m := ((knownS ss).filter (preS b)).filter fun y => !prec ss x y) (List.nodup_cons.mpr ⟨fun m => Nat.lt_irrefl _ ((idx_take xf _).mp m), fn.sublist (List.take_sublist _ _)⟩) fun y hy => by
    rcases List.mem_cons.mp hy with e | hy
    · rw [e]
      exact List.mem_filter.mpr ⟨List.mem_filter.mpr ⟨hR x hx, hb⟩, by rw [prec_irr]; rfl⟩
    · have sub := (idx_before fn xf).mp hy
      have ym := List.mem_filter.mp (sub.subset List.mem_cons_self)
      refine List.mem_filter.mpr ⟨List.mem_filter.mpr ⟨hR y ym.1, ym.2⟩, ?_⟩
      cases p : prec ss x y with
      | false => rfl
      | true =>
        exfalso
        obtain ⟨s, hm, q⟩ := prec_iff.mp p
        have back := ahead_sub (hk s hm) (sh s hm) q ym.1
        exact not_both rn (sub.trans List.filter_sublist) back
  rw [List.length_cons, List.length_take] at h
  unfold plc mostB
  omega
section
variable {xs : List Str} {ss : List Scr} (nd : xs.Nodup) (hx0 : ∀ y ∈ xs, OfL "ab" y) (hs : ∀ s ∈ ss, (ScrOk s ∧ shows xs s = true) ∧ OfL "ab" s.b)
theorem rowF_facts {R : List Str} (h : R ∈ rowsF ss) : R.Perm (knownS ss) ∧ R.Nodup ∧ ∀ s ∈ ss, shows R s = true := by
  obtain ⟨h1, h2⟩ := List.mem_filter.mp h
  have pm := ord_perm rfl h1
  exact ⟨pm, pm.nodup_iff.mpr (known_nd ss), List.all_eq_true.mp h2⟩
include nd hs
/-- a row in two parts -/
theorem part_row {C : Str → Bool} (dn : ∀ g f, C g = true → prec ss f g = true → C f = true) : ∃ R0, R0 ∈ rowsF ss ∧ (R0.filter C ++ R0.filter fun g => !C g) ∈ rowsF ss := by
  have hk : ∀ s ∈ ss, ScrOk s := fun s h => (hs s h).1.1
  obtain ⟨r1, r2⟩ := base_fit nd hs Str.empty 0
  have pm := ord_perm rfl r1
  generalize (xs.filter fun y => decide (y ∈ knownS ss)) = R0 at r1 r2 pm
  have rn : R0.Nodup := pm.nodup_iff.mpr (known_nd ss)
  have sh0 := List.all_eq_true.mp r2
  let R := R0.filter C ++ R0.filter fun g => !C g
  have pR : R.Perm R0 := List.filter_append_perm C R0
  have shR : ∀ s ∈ ss, shows R s = true := fun s hm => by
    refine part_shows (sh0 s hm) fun Y1 f Y2 e g hg hC => dn g f hC (prec_iff.mpr ⟨s, hm, ?_⟩)
    have fy : f ∈ s.ys := by rw [e]; exact List.mem_append_right _ List.mem_cons_self
    have ysn := (hk s hm).w.1
    have sub : (R0.filter (preS s.b)).Nodup := rn.sublist List.filter_sublist
    refine (putsS_iff (hk s hm)).mpr ⟨fy, ?_, ?_, ?_⟩
    · intro z
      subst z
      rcases List.mem_append.mp hg with hg | hg
      · rw [e, List.nodup_append] at ysn
        exact (List.nodup_cons.mp ysn.2.1).1 hg
      · rw [← List.take_append_drop s.l (R0.filter (preS s.b)), List.nodup_append] at sub
        have t : f ∈ (R0.filter (preS s.b)).take s.l := by rw [shows_iff.mp (sh0 s hm)]; exact fy
        exact sub.2.2 f t f hg rfl
    · rcases List.mem_append.mp hg with hg | hg
      · exact ((hk s hm).w.2 g (by rw [e]; exact List.mem_append_right _ (List.mem_cons_of_mem _ hg))).2
      · exact (List.mem_filter.mp (List.mem_of_mem_drop hg)).2
    · rcases List.mem_append.mp hg with hg | hg
      · right
        rw [e]
        exact ((List.singleton_sublist.mpr hg).cons_cons f).trans (List.sublist_append_right Y1 _)
      · left
        intro gy
        rw [← List.take_append_drop s.l (R0.filter (preS s.b)), List.nodup_append] at sub
        have t : g ∈ (R0.filter (preS s.b)).take s.l := by rw [shows_iff.mp (sh0 s hm)]; exact gy
        exact sub.2.2 g t g hg rfl
  exact ⟨R0, List.mem_filter.mpr ⟨r1, r2⟩, List.mem_filter.mpr ⟨ord_mem rfl (pR.trans pm), List.all_eq_true.mpr shR⟩⟩
theorem plc_least {x b : Str} (hx : x ∈ knownS ss) (hb : preS b x = true) : ∃ R ∈ rowsF ss, plc b x R = cntB ss x b := by
  have hk : ∀ s ∈ ss, ScrOk s := fun s h => (hs s h).1.1
  have nc : tornAll ss = false := untorn nd fun s h => (hs s h).1
  let C : Str → Bool := fun g => prec ss g x || decide (g = x)
  obtain ⟨R0, h0, hR⟩ := part_row (C := C) nd hs fun g f hg p => by
    show (prec ss f x || _) = true
    rcases (Bool.or_eq_true _ _).mp hg with q | q
    · rw [prec_trans hk nc p q]; rfl
    · rw [← of_decide_eq_true q, p]; rfl
  obtain ⟨pm, rn, sh⟩ := rowF_facts hR
  obtain ⟨pm0, rn0, _⟩ := rowF_facts h0
  have xR : x ∈ (R0.filter C ++ R0.filter fun g => !C g) := pm.mem_iff.mpr hx
  have xC : x ∈ R0.filter C := List.mem_filter.mpr ⟨pm0.mem_iff.mpr hx, by show (_ || decide (x = x)) = true; simp⟩
  refine ⟨_, hR, Nat.le_antisymm (place_le (ss := ss) rn xR hb fun y hy _ => ?_) (place_ge rn sh hk xR hb)⟩
  have ym := hy.subset List.mem_cons_self
  rcases List.mem_append.mp ym with ym | ym
  · have hc := (List.mem_filter.mp ym).2
    rcases (Bool.or_eq_true _ _).mp hc with q | q
    · exact q
    · exfalso
      have e := of_decide_eq_true q
      subst e
      have := rn.sublist hy
      simp at this
  · exfalso
    have back : [x, y].Sublist (R0.filter C ++ R0.filter fun g => !C g) := (List.singleton_sublist.mpr xC).append (List.singleton_sublist.mpr ym)
    exact not_both rn hy back
theorem plc_most {x b : Str} (hx : x ∈ knownS ss) (hb : preS b x = true) : ∃ R ∈ rowsF ss, plc b x R = mostB ss x b := by
  have hk : ∀ s ∈ ss, ScrOk s := fun s h => (hs s h).1.1
  have nc : tornAll ss = false := untorn nd fun s h => (hs s h).1
  let C : Str → Bool := fun g => !prec ss x g && !decide (g = x)
  obtain ⟨R0, h0, hR⟩ := part_row (C := C) nd hs fun g f hg p => by
    have h1 : prec ss x g = false := by
      cases q : prec ss x g with
      | false => rfl
      | true => rw [show C g = (!prec ss x g && _) from rfl, q] at hg; cases hg
    show (!prec ss x f && !decide (f = x)) = true
    cases q : prec ss x f with
    | true => rw [prec_trans hk nc q p] at h1; cases h1
    | false =>
      by_cases e : f = x
      · subst e; rw [p] at h1; cases h1
      · rw [decide_eq_false e]; rfl
  obtain ⟨pm, rn, sh⟩ := rowF_facts hR
  obtain ⟨pm0, rn0, sh0⟩ := rowF_facts h0
  have xR0 : x ∈ R0 := pm0.mem_iff.mpr hx
  have xR : x ∈ (R0.filter C ++ R0.filter fun g => !C g) := pm.mem_iff.mpr hx
  refine ⟨_, hR, Nat.le_antisymm (place_most rn (fun y hy => pm.mem_iff.mp hy) sh hk xR hb) ?_⟩
  have fn : ((R0.filter C ++ R0.filter fun g => !C g).filter (preS b)).Nodup := rn.sublist List.filter_sublist
  have xf : x ∈ (R0.filter C ++ R0.filter fun g => !C g).filter (preS b) := List.mem_filter.mpr ⟨xR, hb⟩
  have x2 : x ∈ R0.filter fun g => !C g := List.mem_filter.mpr ⟨xR0, by show (!(_ && !decide (x = x))) = true; simp⟩
  have h := nd_le (l := ((knownS ss).filter (preS b)).filter fun y => !prec ss x y) (m := x :: ((R0.filter C ++ R0.filter fun g => !C g).filter (preS b)).take (((R0.filter C ++ R0.filter fun g => !C g).filter (preS b)).idxOf x)) (((known_nd ss).sublist List.filter_sublist).sublist List.filter_sublist) fun y hy => by
    obtain ⟨h1, h2⟩ := List.mem_filter.mp hy
    obtain ⟨h3, h4⟩ := List.mem_filter.mp h1
    by_cases e : y = x
    · rw [e]; exact List.mem_cons_self
    · refine List.mem_cons_of_mem _ ((idx_before fn xf).mpr ((sub2_filter h4 hb).mpr ?_))
      have y1 : y ∈ R0.filter C := List.mem_filter.mpr ⟨pm0.mem_iff.mpr h3, by show (!prec ss x y && !decide (y = x)) = true; rw [h2, decide_eq_false e]; rfl⟩
      exact (List.singleton_sublist.mpr y1).append (List.singleton_sublist.mpr x2)
  rw [List.length_cons, List.length_take] at h
  unfold plc mostB
  omega
include hx0
theorem free_iff {x b : Str} (hx : x ∈ knownS ss) (hb : preS b x = true) : (freeR ss b x).any (fitsAll ss) = !oneB ss b x := by
  have hk : ∀ s ∈ ss, ScrOk s := fun s h => (hs s h).1.1
  have tail : ∀ c ∈ ("zzzz" : Str).cps.toList, c ∉ ("ab" : Str).cps.toList := by decide
  have fz : (122 : Nat) ∈ (b ++ "zzzz").cps.toList := by
    rw [app_list]
    exact List.mem_append_right _ (by decide)
  have fnew : ∀ y, OfL "ab" y → (b ++ "zzzz") ≠ y := fun y hy e => absurd (hy 122 (by rw [← e]; exact fz)) (by decide)
  have fpre : preS b (b ++ "zzzz") = true := preS_append b _
  rw [Bool.eq_iff_iff, List.any_eq_true, Bool.not_eq_true']
  constructor
  · rintro ⟨R, hR, hf⟩
    obtain ⟨h1, h2⟩ := List.mem_filter.mp hR
    obtain ⟨h3, h4⟩ := List.mem_filter.mp h1
    have h2 := of_decide_eq_true h2
    have h4 := of_decide_eq_true h4
    have sh := List.all_eq_true.mp hf
    have rn : R.Nodup ∧ x ∈ R := by
      obtain ⟨row, hr, hi⟩ := List.mem_flatMap.mp h3
      have pm := ord_perm rfl hr
      have rn := pm.nodup_iff.mpr (known_nd ss)
      rcases List.mem_cons.mp hi with e | hi
      · rw [e]
        exact ⟨rn, pm.mem_iff.mpr hx⟩
      · obtain ⟨k, _, rfl⟩ := List.mem_map.mp hi
        have p2 := ins_perm' row k (b ++ "zzzz")
        refine ⟨p2.nodup_iff.mpr (List.nodup_cons.mpr ⟨fun m => fnew _ (hx0 _ (known_in hs (pm.mem_iff.mp m))) rfl, rn⟩), p2.mem_iff.mpr (List.mem_cons_of_mem _ (pm.mem_iff.mpr hx))⟩
    have before := (idx_sub2 rn.1 h4 rn.2).mp h2
    cases ho : oneB ss b x with
    | false => rfl
    | true =>
      exfalso
      obtain ⟨s, hm, h5⟩ := List.any_eq_true.mp ho
      rw [Bool.and_eq_true] at h5
      have fin := earlier_in rn.1 (sh s hm) (of_decide_eq_true h5.1) (preS_trans h5.2 fpre) before
      exact fnew _ (hx0 _ (known_in hs (mem_known.mpr ⟨s, hm, fin⟩))) rfl
  · intro ho
    obtain ⟨r1, r2⟩ := base_fit nd hs b 0
    have pm := ord_perm rfl r1
    generalize (xs.filter fun y => decide (y ∈ knownS ss)) = R0 at r1 r2 pm
    have rn : R0.Nodup := pm.nodup_iff.mpr (known_nd ss)
    have sh0 := List.all_eq_true.mp r2
    have xR0 : x ∈ R0 := pm.mem_iff.mpr hx
    have noS : ∀ s ∈ ss, preS s.b b = true → x ∉ s.ys := fun s hm hp hy => by
      have := List.any_eq_false.mp ho s hm
      rw [decide_eq_true hy, hp] at this
      exact this rfl
    let k := R0.idxOf x
    have hkl : k < R0.length := List.idxOf_lt_length_iff.mpr xR0
    have xt : x ∉ R0.take k := fun m => Nat.lt_irrefl _ ((idx_take xR0 k).mp m)
    have dropx : R0.drop k = x :: R0.drop (k + 1) := by
      obtain ⟨h1, h2⟩ := List.getElem?_eq_some_iff.mp (get_idx xR0)
      rw [List.drop_eq_getElem_cons hkl, h2]
    have shR : ∀ s ∈ ss, shows (insR R0 k (b ++ "zzzz")) s = true := fun s hm => by
      refine shows_iff.mpr ?_
      have e0 := shows_iff.mp (sh0 s hm)
      unfold insR
      rw [List.filter_append]
      cases hp : preS s.b b with
      | false =>
        have nf : preS s.b (b ++ "zzzz") = false := by
          cases z : preS s.b (b ++ "zzzz") with
          | false => rfl
          | true => rw [pre_new (hs s hm).2 tail z] at hp; cases hp
        rw [List.filter_cons, nf, if_neg Bool.noConfusion, ← List.filter_append, List.take_append_drop]
        exact e0
      | true =>
        have px : preS s.b x = true := preS_trans hp hb
        have xG : x ∈ R0.filter (preS s.b) := List.mem_filter.mpr ⟨xR0, px⟩
        have eG : R0.filter (preS s.b) = (R0.take k).filter (preS s.b) ++ (x :: (R0.drop (k + 1)).filter (preS s.b)) := by
          conv => lhs; rw [← List.take_append_drop k R0, List.filter_append, dropx, List.filter_cons, if_pos px]
        have xn : x ∉ (R0.take k).filter (preS s.b) := fun m => xt (List.mem_filter.mp m).1
        have gi : (R0.filter (preS s.b)).idxOf x = ((R0.take k).filter (preS s.b)).length := by
          rw [eG, List.idxOf_append, if_neg xn, List.idxOf_cons_self, Nat.zero_add]
        have ge : s.l ≤ ((R0.take k).filter (preS s.b)).length := by
          rw [← gi]
          refine Nat.le_of_not_lt fun lt => noS s hm hp ?_
          rw [← e0]
          exact (idx_take xG s.l).mpr lt
        rw [List.take_append_of_le_length ge, ← e0]
        conv => rhs; rw [eG, List.take_append_of_le_length ge]
    have p2 := ins_perm' R0 k (b ++ "zzzz")
    have nd2 : (insR R0 k (b ++ "zzzz")).Nodup := p2.nodup_iff.mpr (List.nodup_cons.mpr ⟨fun m => fnew _ (hx0 _ (known_in hs (pm.mem_iff.mp m))) rfl, rn⟩)
    have fin : (b ++ "zzzz") ∈ insR R0 k (b ++ "zzzz") := p2.mem_iff.mpr List.mem_cons_self
    have xin : x ∈ insR R0 k (b ++ "zzzz") := p2.mem_iff.mpr (List.mem_cons_of_mem _ xR0)
    have sub : [b ++ "zzzz", x].Sublist (insR R0 k (b ++ "zzzz")) := by
      unfold insR
      rw [dropx]
      exact (((List.singleton_sublist.mpr List.mem_cons_self).cons_cons _).trans (List.sublist_append_right (R0.take k) _))
    refine ⟨insR R0 k (b ++ "zzzz"), List.mem_filter.mpr ⟨List.mem_filter.mpr ⟨List.mem_flatMap.mpr ⟨R0, r1, List.mem_cons_of_mem _ (List.mem_map.mpr ⟨k, List.mem_range.mpr (by omega), rfl⟩)⟩, decide_eq_true fin⟩, decide_eq_true ((idx_sub2 nd2 fin xin).mpr sub)⟩, List.all_eq_true.mpr shR⟩
end
theorem cld_place1 {a b : PyData} (ha : SmI a) (hb : SmI b) : Cld rReprPN [.tuple [a, b]] (· = .str (PyData.tuple [a, b]).shown) := by
  obtain ⟨a1, a2, a3, a4⟩ := smI_show ha
  obtain ⟨b1, b2, b3, b4⟩ := smI_show hb
  refine cld_reprT ?_ ?_ ?_ ?_
  · simp [PyData.plain, PyData.plainAll, a1, b1]
  · simp [PyData.showable, PyData.showableAll, a2, b2]
  · simp [PyData.depth, PyData.depthAll, a3, b3]
  · refine Nat.le_trans (shownT_le (m := 10) fun d hd => ?_) (by show 2 * (10 + 2) + 3 ≤ _; rw [sizeLine_eq]; decide)
    simp only [List.mem_cons, List.not_mem_nil, or_false] at hd
    rcases hd with rfl | rfl
    · exact a4
    · exact b4
end DL

set_option linter.all false
set_option maxRecDepth 100000
set_option maxHeartbeats 4000000
namespace Lw
open PySem PySem.Spec L2 DL
def topS (i : Nat) : Stmt := PySem.Challenge.pw_topmatches_k32_places_by_all_dictionarie.main.body.getD i (.Pass ⟨0, 0, 0, 0⟩)
abbrev s_valid_integer : Stmt := topS 10
abbrev N_valid_integer : List Str := ["value"]
theorem sc_valid_integer : FnScope N_valid_integer ["value"] (defScope s_valid_integer) := ⟨rfl, rfl, rfl, by decide +kernel, rfl, by decide +kernel, by decide +kernel⟩
abbrev s_valid_beginning : Stmt := topS 11
abbrev N_valid_beginning : List Str := ["value", "letter"]
theorem sc_valid_beginning : FnScope N_valid_beginning ["value"] (defScope s_valid_beginning) := ⟨rfl, rfl, rfl, by decide +kernel, rfl, by decide +kernel, by decide +kernel⟩
abbrev s_valid_word : Stmt := topS 12
abbrev N_valid_word : List Str := ["value"]
theorem sc_valid_word : FnScope N_valid_word ["value"] (defScope s_valid_word) := ⟨rfl, rfl, rfl, by decide +kernel, rfl, by decide +kernel, by decide +kernel⟩
abbrev s_valid_limit : Stmt := topS 13
abbrev N_valid_limit : List Str := ["value"]
theorem sc_valid_limit : FnScope N_valid_limit ["value"] (defScope s_valid_limit) := ⟨rfl, rfl, rfl, by decide +kernel, rfl, by decide +kernel, by decide +kernel⟩
abbrev s_valid_dictionary : Stmt := topS 14
abbrev N_valid_dictionary : List Str := ["value", "word"]
theorem sc_valid_dictionary : FnScope N_valid_dictionary ["value"] (defScope s_valid_dictionary) := ⟨rfl, rfl, rfl, by decide +kernel, rfl, by decide +kernel, by decide +kernel⟩
abbrev s_valid_screen : Stmt := topS 15
abbrev N_valid_screen : List Str := ["value", "beginning", "limit", "shown", "word"]
theorem sc_valid_screen : FnScope N_valid_screen ["value"] (defScope s_valid_screen) := ⟨rfl, rfl, rfl, by decide +kernel, rfl, by decide +kernel, by decide +kernel⟩
abbrev s_valid_screens : Stmt := topS 16
abbrev N_valid_screens : List Str := ["value", "screen"]
theorem sc_valid_screens : FnScope N_valid_screens ["value"] (defScope s_valid_screens) := ⟨rfl, rfl, rfl, by decide +kernel, rfl, by decide +kernel, by decide +kernel⟩
abbrev s_check_beginning : Stmt := topS 18
abbrev N_check_beginning : List Str := ["value"]
theorem sc_check_beginning : FnScope N_check_beginning ["value"] (defScope s_check_beginning) := ⟨rfl, rfl, rfl, by decide +kernel, rfl, by decide +kernel, by decide +kernel⟩
abbrev s_check_screens : Stmt := topS 19
abbrev N_check_screens : List Str := ["value"]
theorem sc_check_screens : FnScope N_check_screens ["value"] (defScope s_check_screens) := ⟨rfl, rfl, rfl, by decide +kernel, rfl, by decide +kernel, by decide +kernel⟩
abbrev s_check_known : Stmt := topS 20
abbrev N_check_known : List Str := ["known", "word"]
theorem sc_check_known : FnScope N_check_known ["known", "word"] (defScope s_check_known) := ⟨rfl, rfl, rfl, by decide +kernel, rfl, by decide +kernel, by decide +kernel⟩
abbrev s_find_clash : Stmt := topS 22
abbrev N_find_clash : List Str := ["screens"]
theorem sc_find_clash : FnScope N_find_clash ["screens"] (defScope s_find_clash) := ⟨rfl, rfl, rfl, by decide +kernel, rfl, by decide +kernel, by decide +kernel⟩
abbrev s_check_no_clash : Stmt := topS 23
abbrev N_check_no_clash : List Str := ["screens", "clash"]
theorem sc_check_no_clash : FnScope N_check_no_clash ["screens"] (defScope s_check_no_clash) := ⟨rfl, rfl, rfl, by decide +kernel, rfl, by decide +kernel, by decide +kernel⟩
abbrev s_shown_words : Stmt := topS 24
abbrev N_shown_words : List Str := ["screens", "screen", "word"]
theorem sc_shown_words : FnScope N_shown_words ["screens"] (defScope s_shown_words) := ⟨rfl, rfl, rfl, by decide +kernel, rfl, by decide +kernel, by decide +kernel⟩
abbrev s_first_clash : Stmt := topS 25
abbrev N_first_clash : List Str := ["screens", "i", "one", "k", "other", "word", "pair"]
theorem sc_first_clash : FnScope N_first_clash ["screens"] (defScope s_first_clash) := ⟨rfl, rfl, rfl, by decide +kernel, rfl, by decide +kernel, by decide +kernel⟩
abbrev s_put_before : Stmt := topS 26
abbrev N_put_before : List Str := ["screen", "word", "beginning", "_", "shown"]
theorem sc_put_before : FnScope N_put_before ["screen", "word"] (defScope s_put_before) := ⟨rfl, rfl, rfl, by decide +kernel, rfl, by decide +kernel, by decide +kernel⟩
abbrev s_misses : Stmt := topS 27
abbrev N_misses : List Str := ["screen", "word", "beginning", "limit", "shown"]
theorem sc_misses : FnScope N_misses ["screen", "word"] (defScope s_misses) := ⟨rfl, rfl, rfl, by decide +kernel, rfl, by decide +kernel, by decide +kernel⟩
abbrev s_swapped_words : Stmt := topS 28
abbrev N_swapped_words : List Str := ["one", "other", "ours", "theirs", "first", "second", "word"]
theorem sc_swapped_words : FnScope N_swapped_words ["one", "other"] (defScope s_swapped_words) := ⟨rfl, rfl, rfl, by decide +kernel, rfl, by decide +kernel, by decide +kernel⟩
abbrev s_all_above : Stmt := topS 30
abbrev N_all_above : List Str := ["screens", "word", "found", "screen", "above"]
theorem sc_all_above : FnScope N_all_above ["screens", "word"] (defScope s_all_above) := ⟨rfl, rfl, rfl, by decide +kernel, rfl, by decide +kernel, by decide +kernel⟩
abbrev s_all_below : Stmt := topS 31
abbrev N_all_below : List Str := ["screens", "word", "other", "screen"]
theorem sc_all_below : FnScope N_all_below ["screens", "word"] (defScope s_all_below) := ⟨rfl, rfl, rfl, by decide +kernel, rfl, by decide +kernel, by decide +kernel⟩
abbrev s_place_range : Stmt := topS 33
abbrev N_place_range : List Str := ["screens", "beginning", "word", "only_known", "least", "behind"]
theorem sc_place_range : FnScope N_place_range ["screens", "beginning", "word", "only_known"] (defScope s_place_range) := ⟨rfl, rfl, rfl, by decide +kernel, rfl, by decide +kernel, by decide +kernel⟩
abbrev s_least_place : Stmt := topS 34
abbrev N_least_place : List Str := ["screens", "beginning", "word"]
theorem sc_least_place : FnScope N_least_place ["screens", "beginning", "word"] (defScope s_least_place) := ⟨rfl, rfl, rfl, by decide +kernel, rfl, by decide +kernel, by decide +kernel⟩
abbrev s_has_one_place : Stmt := topS 35
abbrev N_has_one_place : List Str := ["screens", "beginning", "word", "own_beginning", "_", "shown"]
theorem sc_has_one_place : FnScope N_has_one_place ["screens", "beginning", "word"] (defScope s_has_one_place) := ⟨rfl, rfl, rfl, by decide +kernel, rfl, by decide +kernel, by decide +kernel⟩
abbrev s_matching : Stmt := topS 36
abbrev N_matching : List Str := ["words", "beginning", "word"]
theorem sc_matching : FnScope N_matching ["words", "beginning"] (defScope s_matching) := ⟨rfl, rfl, rfl, by decide +kernel, rfl, by decide +kernel, by decide +kernel⟩
abbrev s_law_jar : Stmt := topS 38
abbrev N_law_jar : List Str := ["script", "k", "cell"]
theorem sc_law_jar : FnScope N_law_jar ["script", "k"] (defScope s_law_jar) := ⟨rfl, rfl, rfl, by decide +kernel, rfl, by decide +kernel, by decide +kernel⟩
abbrev s_law_dip : Stmt := topS 39
abbrev N_law_dip : List Str := ["jar", "many", "mixed", "digit"]
theorem sc_law_dip : FnScope N_law_dip ["jar", "many"] (defScope s_law_dip) := ⟨rfl, rfl, rfl, by decide +kernel, rfl, by decide +kernel, by decide +kernel⟩
abbrev s_law_terms : Stmt := topS 40
abbrev N_law_terms : List Str := ["jar", "most", "signs", "longest", "found", "turn", "term", "step"]
theorem sc_law_terms : FnScope N_law_terms ["jar", "most", "signs", "longest"] (defScope s_law_terms) := ⟨rfl, rfl, rfl, by decide +kernel, rfl, by decide +kernel, by decide +kernel⟩
abbrev s_law_answer : Stmt := topS 41
abbrev N_law_answer : List Str := ["terms", "front", "top", "term"]
theorem sc_law_answer : FnScope N_law_answer ["terms", "front", "top"] (defScope s_law_answer) := ⟨rfl, rfl, rfl, by decide +kernel, rfl, by decide +kernel, by decide +kernel⟩
abbrev s_law_front : Stmt := topS 42
abbrev N_law_front : List Str := ["jar", "terms", "signs", "way", "term", "front"]
theorem sc_law_front : FnScope N_law_front ["jar", "terms", "signs"] (defScope s_law_front) := ⟨rfl, rfl, rfl, by decide +kernel, rfl, by decide +kernel, by decide +kernel⟩
abbrev s_law_views : Stmt := topS 43
abbrev N_law_views : List Str := ["jar", "terms", "many", "most", "signs", "found", "turn", "front", "top"]
theorem sc_law_views : FnScope N_law_views ["jar", "terms", "many", "most", "signs"] (defScope s_law_views) := ⟨rfl, rfl, rfl, by decide +kernel, rfl, by decide +kernel, by decide +kernel⟩
abbrev s_law_known : Stmt := topS 44
abbrev N_law_known : List Str := ["views", "found", "front", "top", "row"]
theorem sc_law_known : FnScope N_law_known ["views"] (defScope s_law_known) := ⟨rfl, rfl, rfl, by decide +kernel, rfl, by decide +kernel, by decide +kernel⟩
abbrev s_law_shows : Stmt := topS 45
abbrev N_law_shows : List Str := ["terms", "views", "front", "top", "row"]
theorem sc_law_shows : FnScope N_law_shows ["terms", "views"] (defScope s_law_shows) := ⟨rfl, rfl, rfl, by decide +kernel, rfl, by decide +kernel, by decide +kernel⟩
abbrev s_law_orders : Stmt := topS 47
abbrev N_law_orders : List Str := ["terms", "found", "at", "term", "rest"]
theorem sc_law_orders : FnScope N_law_orders ["terms"] (defScope s_law_orders) := ⟨rfl, rfl, rfl, by decide +kernel, rfl, by decide +kernel, by decide +kernel⟩
abbrev s_law_with_new : Stmt := topS 48
abbrev N_law_with_new : List Str := ["terms", "fresh", "found", "row", "at"]
theorem sc_law_with_new : FnScope N_law_with_new ["terms", "fresh"] (defScope s_law_with_new) := ⟨rfl, rfl, rfl, by decide +kernel, rfl, by decide +kernel, by decide +kernel⟩
abbrev s_law_places : Stmt := topS 49
abbrev N_law_places : List Str := ["rows", "front", "term", "row"]
theorem sc_law_places : FnScope N_law_places ["rows", "front", "term"] (defScope s_law_places) := ⟨rfl, rfl, rfl, by decide +kernel, rfl, by decide +kernel, by decide +kernel⟩
abbrev s_law_right : Stmt := topS 50
abbrev N_law_right : List Str := ["views", "known", "front", "term", "rows", "places", "fresh", "more", "is_free", "dues", "told", "again", "row"]
theorem sc_law_right : FnScope N_law_right ["views", "known", "front", "term"] (defScope s_law_right) := ⟨rfl, rfl, rfl, by decide +kernel, rfl, by decide +kernel, by decide +kernel⟩
abbrev s_law : Stmt := topS 51
abbrev N_law : List Str := ["script", "k", "views", "jar", "known", "kept", "turn", "term", "front"]
theorem sc_law : FnScope N_law ["script"] (defScope s_law) := ⟨rfl, rfl, rfl, by decide +kernel, rfl, by decide +kernel, by decide +kernel⟩
structure Tx (K : PySem.W.Frag) (mg : Str → Option Value) where
  a_valid_integer : Addr
  d_valid_integer : FuncData
  F_valid_integer : Fun K "valid_integer" "valid_integer" s_valid_integer a_valid_integer d_valid_integer
  m_valid_integer : mg "valid_integer" = some (.ref a_valid_integer)
  b_valid_integer : Binds K d_valid_integer ["value"] []
  a_valid_beginning : Addr
  d_valid_beginning : FuncData
  F_valid_beginning : Fun K "valid_beginning" "valid_beginning" s_valid_beginning a_valid_beginning d_valid_beginning
  m_valid_beginning : mg "valid_beginning" = some (.ref a_valid_beginning)
  b_valid_beginning : Binds K d_valid_beginning ["value"] []
  a_valid_word : Addr
  d_valid_word : FuncData
  F_valid_word : Fun K "valid_word" "valid_word" s_valid_word a_valid_word d_valid_word
  m_valid_word : mg "valid_word" = some (.ref a_valid_word)
  b_valid_word : Binds K d_valid_word ["value"] []
  a_valid_limit : Addr
  d_valid_limit : FuncData
  F_valid_limit : Fun K "valid_limit" "valid_limit" s_valid_limit a_valid_limit d_valid_limit
  m_valid_limit : mg "valid_limit" = some (.ref a_valid_limit)
  b_valid_limit : Binds K d_valid_limit ["value"] []
  a_valid_dictionary : Addr
  d_valid_dictionary : FuncData
  F_valid_dictionary : Fun K "valid_dictionary" "valid_dictionary" s_valid_dictionary a_valid_dictionary d_valid_dictionary
  m_valid_dictionary : mg "valid_dictionary" = some (.ref a_valid_dictionary)
  b_valid_dictionary : Binds K d_valid_dictionary ["value"] []
  a_valid_screen : Addr
  d_valid_screen : FuncData
  F_valid_screen : Fun K "valid_screen" "valid_screen" s_valid_screen a_valid_screen d_valid_screen
  m_valid_screen : mg "valid_screen" = some (.ref a_valid_screen)
  b_valid_screen : Binds K d_valid_screen ["value"] []
  a_valid_screens : Addr
  d_valid_screens : FuncData
  F_valid_screens : Fun K "valid_screens" "valid_screens" s_valid_screens a_valid_screens d_valid_screens
  m_valid_screens : mg "valid_screens" = some (.ref a_valid_screens)
  b_valid_screens : Binds K d_valid_screens ["value"] []
  a_check_beginning : Addr
  d_check_beginning : FuncData
  F_check_beginning : Fun K "check_beginning" "check_beginning" s_check_beginning a_check_beginning d_check_beginning
  m_check_beginning : mg "check_beginning" = some (.ref a_check_beginning)
  b_check_beginning : Binds K d_check_beginning ["value"] []
  a_check_screens : Addr
  d_check_screens : FuncData
  F_check_screens : Fun K "check_screens" "check_screens" s_check_screens a_check_screens d_check_screens
  m_check_screens : mg "check_screens" = some (.ref a_check_screens)
  b_check_screens : Binds K d_check_screens ["value"] []
  a_check_known : Addr
  d_check_known : FuncData
  F_check_known : Fun K "check_known" "check_known" s_check_known a_check_known d_check_known
  m_check_known : mg "check_known" = some (.ref a_check_known)
  b_check_known : Binds K d_check_known ["known", "word"] []
  a_find_clash : Addr
  d_find_clash : FuncData
  F_find_clash : Fun K "find_clash" "find_clash" s_find_clash a_find_clash d_find_clash
  m_find_clash : mg "find_clash" = some (.ref a_find_clash)
  b_find_clash : Binds K d_find_clash ["screens"] []
  a_check_no_clash : Addr
  d_check_no_clash : FuncData
  F_check_no_clash : Fun K "check_no_clash" "check_no_clash" s_check_no_clash a_check_no_clash d_check_no_clash
  m_check_no_clash : mg "check_no_clash" = some (.ref a_check_no_clash)
  b_check_no_clash : Binds K d_check_no_clash ["screens"] []
  a_shown_words : Addr
  d_shown_words : FuncData
  F_shown_words : Fun K "shown_words" "shown_words" s_shown_words a_shown_words d_shown_words
  m_shown_words : mg "shown_words" = some (.ref a_shown_words)
  b_shown_words : Binds K d_shown_words ["screens"] []
  a_first_clash : Addr
  d_first_clash : FuncData
  F_first_clash : Fun K "first_clash" "first_clash" s_first_clash a_first_clash d_first_clash
  m_first_clash : mg "first_clash" = some (.ref a_first_clash)
  b_first_clash : Binds K d_first_clash ["screens"] []
  a_put_before : Addr
  d_put_before : FuncData
  F_put_before : Fun K "put_before" "put_before" s_put_before a_put_before d_put_before
  m_put_before : mg "put_before" = some (.ref a_put_before)
  b_put_before : Binds K d_put_before ["screen", "word"] []
  a_misses : Addr
  d_misses : FuncData
  F_misses : Fun K "_misses" "_misses" s_misses a_misses d_misses
  m_misses : mg "_misses" = some (.ref a_misses)
  b_misses : Binds K d_misses ["screen", "word"] []
  a_swapped_words : Addr
  d_swapped_words : FuncData
  F_swapped_words : Fun K "_swapped_words" "_swapped_words" s_swapped_words a_swapped_words d_swapped_words
  m_swapped_words : mg "_swapped_words" = some (.ref a_swapped_words)
  b_swapped_words : Binds K d_swapped_words ["one", "other"] []
  a_all_above : Addr
  d_all_above : FuncData
  F_all_above : Fun K "all_above" "all_above" s_all_above a_all_above d_all_above
  m_all_above : mg "all_above" = some (.ref a_all_above)
  b_all_above : Binds K d_all_above ["screens", "word"] []
  a_all_below : Addr
  d_all_below : FuncData
  F_all_below : Fun K "all_below" "all_below" s_all_below a_all_below d_all_below
  m_all_below : mg "all_below" = some (.ref a_all_below)
  b_all_below : Binds K d_all_below ["screens", "word"] []
  a_place_range : Addr
  d_place_range : FuncData
  F_place_range : Fun K "place_range" "place_range" s_place_range a_place_range d_place_range
  m_place_range : mg "place_range" = some (.ref a_place_range)
  b_place_range : Binds K d_place_range ["screens", "beginning", "word", "only_known"] [.bool false]
  a_least_place : Addr
  d_least_place : FuncData
  F_least_place : Fun K "_least_place" "_least_place" s_least_place a_least_place d_least_place
  m_least_place : mg "_least_place" = some (.ref a_least_place)
  b_least_place : Binds K d_least_place ["screens", "beginning", "word"] []
  a_has_one_place : Addr
  d_has_one_place : FuncData
  F_has_one_place : Fun K "_has_one_place" "_has_one_place" s_has_one_place a_has_one_place d_has_one_place
  m_has_one_place : mg "_has_one_place" = some (.ref a_has_one_place)
  b_has_one_place : Binds K d_has_one_place ["screens", "beginning", "word"] []
  a_matching : Addr
  d_matching : FuncData
  F_matching : Fun K "_matching" "_matching" s_matching a_matching d_matching
  m_matching : mg "_matching" = some (.ref a_matching)
  b_matching : Binds K d_matching ["words", "beginning"] []
  a_law_jar : Addr
  d_law_jar : FuncData
  F_law_jar : Fun K "_law_jar" "_law_jar" s_law_jar a_law_jar d_law_jar
  m_law_jar : mg "_law_jar" = some (.ref a_law_jar)
  b_law_jar : Binds K d_law_jar ["script", "k"] []
  a_law_dip : Addr
  d_law_dip : FuncData
  F_law_dip : Fun K "_law_dip" "_law_dip" s_law_dip a_law_dip d_law_dip
  m_law_dip : mg "_law_dip" = some (.ref a_law_dip)
  b_law_dip : Binds K d_law_dip ["jar", "many"] []
  a_law_terms : Addr
  d_law_terms : FuncData
  F_law_terms : Fun K "_law_terms" "_law_terms" s_law_terms a_law_terms d_law_terms
  m_law_terms : mg "_law_terms" = some (.ref a_law_terms)
  b_law_terms : Binds K d_law_terms ["jar", "most", "signs", "longest"] []
  a_law_answer : Addr
  d_law_answer : FuncData
  F_law_answer : Fun K "_law_answer" "_law_answer" s_law_answer a_law_answer d_law_answer
  m_law_answer : mg "_law_answer" = some (.ref a_law_answer)
  b_law_answer : Binds K d_law_answer ["terms", "front", "top"] []
  a_law_front : Addr
  d_law_front : FuncData
  F_law_front : Fun K "_law_front" "_law_front" s_law_front a_law_front d_law_front
  m_law_front : mg "_law_front" = some (.ref a_law_front)
  b_law_front : Binds K d_law_front ["jar", "terms", "signs"] []
  a_law_views : Addr
  d_law_views : FuncData
  F_law_views : Fun K "_law_views" "_law_views" s_law_views a_law_views d_law_views
  m_law_views : mg "_law_views" = some (.ref a_law_views)
  b_law_views : Binds K d_law_views ["jar", "terms", "many", "most", "signs"] []
  a_law_known : Addr
  d_law_known : FuncData
  F_law_known : Fun K "_law_known" "_law_known" s_law_known a_law_known d_law_known
  m_law_known : mg "_law_known" = some (.ref a_law_known)
  b_law_known : Binds K d_law_known ["views"] []
  a_law_shows : Addr
  d_law_shows : FuncData
  F_law_shows : Fun K "_law_shows" "_law_shows" s_law_shows a_law_shows d_law_shows
  m_law_shows : mg "_law_shows" = some (.ref a_law_shows)
  b_law_shows : Binds K d_law_shows ["terms", "views"] []
  a_law_orders : Addr
  d_law_orders : FuncData
  F_law_orders : Fun K "_law_orders" "_law_orders" s_law_orders a_law_orders d_law_orders
  m_law_orders : mg "_law_orders" = some (.ref a_law_orders)
  b_law_orders : Binds K d_law_orders ["terms"] []
  a_law_with_new : Addr
  d_law_with_new : FuncData
  F_law_with_new : Fun K "_law_with_new" "_law_with_new" s_law_with_new a_law_with_new d_law_with_new
  m_law_with_new : mg "_law_with_new" = some (.ref a_law_with_new)
  b_law_with_new : Binds K d_law_with_new ["terms", "fresh"] []
  a_law_places : Addr
  d_law_places : FuncData
  F_law_places : Fun K "_law_places" "_law_places" s_law_places a_law_places d_law_places
  m_law_places : mg "_law_places" = some (.ref a_law_places)
  b_law_places : Binds K d_law_places ["rows", "front", "term"] []
  a_law_right : Addr
  d_law_right : FuncData
  F_law_right : Fun K "_law_right" "_law_right" s_law_right a_law_right d_law_right
  m_law_right : mg "_law_right" = some (.ref a_law_right)
  b_law_right : Binds K d_law_right ["views", "known", "front", "term"] []
  a_law : Addr
  d_law : FuncData
  F_law : Fun K "law" "law" s_law a_law d_law
  m_law : mg "law" = some (.ref a_law)
  b_law : Binds K d_law ["script"] []
  z_abs : mg "abs" = none
  z_all : mg "all" = none
  z_any : mg "any" = none
  z_bool : mg "bool" = none
  z_enumerate : mg "enumerate" = none
  z_int : mg "int" = none
  z_isinstance : mg "isinstance" = none
  z_len : mg "len" = none
  z_list : mg "list" = none
  z_max : mg "max" = none
  z_min : mg "min" = none
  z_range : mg "range" = none
  z_repr : mg "repr" = none
  z_set : mg "set" = none
  z_sorted : mg "sorted" = none
  z_str : mg "str" = none
  z_tuple : mg "tuple" = none
  z_zip : mg "zip" = none
  t_MOST_SHOWN : Tok
  c_MOST_SHOWN : mg "MOST_SHOWN" = some (.int 20 t_MOST_SHOWN)
  t_MOST_SCREENS : Tok
  c_MOST_SCREENS : mg "MOST_SCREENS" = some (.int 20 t_MOST_SCREENS)
def g_kb_place_range_only_known_word_beginning_screens {α : Type} : List α → List α → List α
  | [], [x0, x1, x2, x3] => [x3, x2, x1, x0]
  | _, _ => []
theorem rel_kb_place_range_only_known_word_beginning_screens {vs zs : List V} {us ws : List Value} (h1 : Vals vs us) (h2 : Vals zs ws) : Vals (g_kb_place_range_only_known_word_beginning_screens vs zs) (g_kb_place_range_only_known_word_beginning_screens us ws) := by
  cases h1 with
  | cons a b =>
    cases h2 with
    | cons c d => exact .nil
    | nil => exact .nil
  | nil =>
    match zs, ws, h2 with
    | [], [], .nil => exact .nil
    | [_], [_], .cons _ (.nil) => exact .nil
    | [_, _], [_, _], .cons _ (.cons _ (.nil)) => exact .nil
    | [_, _, _], [_, _, _], .cons _ (.cons _ (.cons _ (.nil))) => exact .nil
    | [_, _, _, _], [_, _, _, _], .cons r0 (.cons r1 (.cons r2 (.cons r3 (.nil)))) => exact .cons r3 (.cons r2 (.cons r1 (.cons r0 (.nil))))
    | _ :: _ :: _ :: _ :: _ :: _, _ :: _ :: _ :: _ :: _ :: _, .cons _ (.cons _ (.cons _ (.cons _ (.cons _ (_))))) => exact .nil
theorem kb_place_range_only_known_word_beginning_screens {K : PySem.W.Frag} {f : Addr} {fd : FuncData} (F : Fun K "place_range" "place_range" s_place_range f fd) : KBinds K fd ["screens", "beginning", "word", "only_known"] ["only_known", "word", "beginning", "screens"] g_kb_place_range_only_known_word_beginning_screens g_kb_place_range_only_known_word_beginning_screens :=
  DL.Fun.kbinds F g_kb_place_range_only_known_word_beginning_screens rel_kb_place_range_only_known_word_beginning_screens fun _ _ _ _ _ _ us ws hl => match us, ws, hl with | [], [_, _, _, _], _ => rfl
theorem kbn_place_range_only_known {K : PySem.W.Frag} {f : Addr} {fd : FuncData} (F : Fun K "place_range" "place_range" s_place_range f fd) : KBn K fd ["screens", "beginning", "word", "only_known"] 3 ["only_known"] (fun us ws => us ++ ws) (fun vs zs => vs ++ zs) :=
  DL.Fun.kbn F fun _ _ _ _ _ _ us ws hu hw => match us, ws, hu, hw with | [_, _, _], [_], _, _ => rfl
section
variable {P : Program} {w : World} {K : PySem.W.Frag} {mg : Str → Option Value} {base : Heap} (T : Tx K mg)
include T
variable {cA PA : Addr} (tb : LamX.TabB base mg cA PA) (hcA : T.d_all_above.code = .ref cA)
theorem ok_law_dip : FnOk P w K mg base CX0 1 T.a_law_dip T.d_law_dip ["jar", "many"] (SPj 1 preDraw postDraw) := by
  refine T.F_law_dip.ok sc_law_dip (fun vs H Q E h => SPj.len (m := 1) (fun ds ⟨m, e, _⟩ => by rw [e]; rfl) h) (fun cdv A outer s H vs Q E hr h => ?_)
  refine ⟨_, (Evl.pss_cut (ps_if (pt_cmpR op_gtA (pe_ix (kIx (K := K)) (pv 0) pe_int (fun _ _ => rfl)) pe_int (nomark _)) (pss_cons (ps_set (i := 3) sc_law_dip.nd rfl (by first | exact .inl rfl | exact .inr rfl) (pe_op op_mod (pe_ix (kIx (K := K)) (pv 0) pe_int (fun _ _ => rfl)) (pv 1))) (pss_cons (ps_asg (pe_op op_fdiv (pe_ix (kIx (K := K)) (pv 0) pe_int (fun _ _ => rfl)) (pv 1)) (pg_sub (pv 0) pe_int set_list)) (pss_one (ps_ret (pv 3))))) pss_nil) (pss_cons (ps_asg (pe_op op_addA (pe_ix (kIx (K := K)) (pv 0) pe_int (fun _ _ => rfl)) pe_int) (pg_sub (pv 0) pe_int set_list)) (pss_cons (ps_set (i := 2) sc_law_dip.nd rfl (by first | exact .inl rfl | exact .inr rfl) (pe_op op_mod (pe_op op_powW (pe_op op_addA (pe_ix (kIx (K := K)) (pv 0) pe_int (fun _ _ => rfl)) (pe_op op_mulA pe_int (pe_ix (kIx (K := K)) (pv 0) pe_int (fun _ _ => rfl)))) pe_int) (pe_op op_addA (pe_op op_powW pe_int pe_int) pe_int))) (pss_cons (ps_set (i := 2) sc_law_dip.nd rfl (by first | exact .inl rfl | exact .inr rfl) (pe_op op_mod (pe_op op_powW (pe_op op_addA (pv 2) (pe_op op_mulA pe_int (pe_ix (kIx (K := K)) (pv 0) pe_int (fun _ _ => rfl)))) pe_int) (pe_op op_addA (pe_op op_powW pe_int pe_int) pe_int))) (pss_one (ps_ret (pe_op op_mod (pe_op op_fdiv (pv 2) (pe_op op_powW pe_int pe_int)) (pv 1)))))))), ?_⟩
  obtain ⟨p, vs', fs, n, ds, rfl, pfs, trk, j, hl, kd, ⟨m, rfl, m0, m1⟩, q⟩ := h
  cases kd with
  | cons kv kt =>
  cases kt
  cases kv
  obtain ⟨x, y, k, hp, hk, y0, y1⟩ := j
  have sp : SqL K H p [.int x, .int y, .int (k : Nat)] := .inl (.inl hp)
  have at0 : atI [V.int x, .int y, .int (k : Nat)] 0 = some (.int x) := atI_nat (j := 0) rfl
  have at2 : atI [V.int x, .int y, .int (k : Nat)] 2 = some (.int (k : Nat)) := atI_nat (j := 2) rfl
  have fin : ∀ (H3 : Hp) (x' : Int) (k' : Nat) (r : Int), H3 p = some (.lst [.int x', .int y, .int (k' : Nat)]) → k' ≤ k + 1 → (∀ a, a ≠ p → H3 a = H a) → 0 ≤ r → r < m → Q (.int r) H3 := fun H3 x' k' r hp3 hk' ne3 r0 r1 => by
    refine q (.int r) (.int r) H3 (fun a o e => ?_) ⟨x', y, k', hp3, by omega, y0, y1⟩ (.int r) fun m' em => ⟨r, rfl, r0, by cases em; exact r1⟩
    have h1 := off_some e
    exact off_of h1.1 (by rw [ne3 a fun z => h1.1 (List.mem_singleton.mpr z)]; exact h1.2)
  refine ⟨fun σ' H' => σ' = [some (.ref p), some (.int m), none, none] ∧ H' = H, ?_, ?_⟩
  · refine ⟨.ref p, rfl, .inl ⟨p, _, 0, _, rfl, rfl, sp, at0, ?_⟩⟩
    refine .inl ⟨_, _, rfl, rfl, _, rfl, ?_⟩
    refine ite2 (fun _ => ?_) (fun _ => ⟨rfl, rfl⟩)
    refine ⟨.ref p, rfl, .inl ⟨p, _, 0, _, rfl, rfl, sp, at0, _, rfl, _, _, rfl, rfl, m0, ?_⟩⟩
    refine ⟨.ref p, rfl, .inl ⟨p, _, 0, _, rfl, rfl, sp, at0, _, rfl, _, _, rfl, rfl, ⟨m0, by omega⟩, ?_⟩⟩
    refine ⟨.ref p, rfl, p, _, 0, 0, rfl, rfl, hp, rfl, ?_⟩
    refine ⟨_, rfl, fin _ (x / m) k (x % m) ?_ (by omega) (fun a ha => upd_ne ha) (Int.emod_nonneg _ (by omega)) (Int.emod_lt_of_pos _ m0)⟩
    rw [upd_same]
    rfl
  · rintro σ' H' ⟨rfl, rfl⟩
    refine ⟨.ref p, rfl, .inl ⟨p, _, 2, _, rfl, rfl, sp, at2, .inl ⟨_, _, rfl, rfl, ?_⟩⟩⟩
    refine ⟨.ref p, rfl, p, _, 2, 2, rfl, rfl, hp, rfl, ?_⟩
    generalize hH2 : upd H' p _ = H2
    have hc2 : H2 p = some (.lst [.int x, .int y, .int ((k + 1 : Nat) : Int)]) := by
      rw [← hH2, upd_same]
      rfl
    have sp2 : SqL K H2 p [.int x, .int y, .int ((k + 1 : Nat) : Int)] := .inl (.inl hc2)
    have aty2 : atI [V.int x, .int y, .int ((k + 1 : Nat) : Int)] 1 = some (.int y) := atI_nat (j := 1) rfl
    have atk2 : atI [V.int x, .int y, .int ((k + 1 : Nat) : Int)] 2 = some (.int ((k + 1 : Nat) : Int)) := atI_nat (j := 2) rfl
    have small : ∀ (e z : Int) (i : Int), (0 ≤ i ∧ i ≤ 100) → 0 ≤ e → e < 1000000000000000000000000000000000000003 → 0 ≤ z → z ≤ 1000000000 → CPowW (e + z * ((k + 1 : Nat) : Int)) i := fun e z i hi h1 h2 h3 h4 => by
      refine ⟨hi.1, hi.2, ?_⟩
      have hl : LIM = 1152921504606846976 := by unfold LIM; rfl
      have h5 : ((k + 1 : Nat) : Int) ≤ 1152921504606850000 := by omega
      have h6 : z * ((k + 1 : Nat) : Int) ≤ 1000000000 * 1152921504606850000 := Int.mul_le_mul h4 h5 (by omega) (by decide)
      have h7 : 0 ≤ z * ((k + 1 : Nat) : Int) := Int.mul_nonneg h3 (by omega)
      have h8 : (e + z * ((k + 1 : Nat) : Int)).natAbs < 2 ^ 200 := by omega
      exact Nat.lt_of_lt_of_le h8 (Nat.pow_le_pow_right (by decide) (by decide))
    -- mixed = ..
    refine ⟨.ref p, rfl, .inl ⟨p, _, 1, _, rfl, rfl, sp2, aty2, .ref p, rfl, .inl ⟨p, _, 2, _, rfl, rfl, sp2, atk2, .inl ⟨_, _, rfl, rfl, .inl ⟨by decide, by decide⟩, .inl ⟨_, _, rfl, rfl, ?_⟩⟩⟩⟩⟩
    refine ⟨_, _, rfl, rfl, small _ _ _ ⟨by decide, by decide⟩ y0 (Int.lt_trans y1 (by decide)) (by decide) (by decide), ?_⟩
    refine ⟨_, _, rfl, rfl, ⟨by decide, by decide, by decide⟩, .inl ⟨_, _, rfl, rfl, ?_⟩⟩
    refine ⟨_, _, rfl, rfl, (by show (0 : Int) < _; decide), ?_⟩
    refine ⟨_, rfl, .ref p, rfl, .inl ⟨p, _, 2, _, rfl, rfl, sp2, atk2, .inl ⟨_, _, rfl, rfl, .inl ⟨by decide, by decide⟩, .inl ⟨_, _, rfl, rfl, ?_⟩⟩⟩⟩
    refine ⟨_, _, rfl, rfl, small _ _ _ ⟨by decide, by decide⟩ (Int.emod_nonneg _ (by decide)) (Int.lt_of_lt_of_le (Int.emod_lt_of_pos _ (by decide)) (by decide)) (by decide) (by decide), ?_⟩
    refine ⟨_, _, rfl, rfl, ⟨by decide, by decide, by decide⟩, .inl ⟨_, _, rfl, rfl, ?_⟩⟩
    refine ⟨_, _, rfl, rfl, (by show (0 : Int) < _; decide), ?_⟩
    refine ⟨_, rfl, _, _, rfl, rfl, ⟨by decide, by decide, by decide⟩, _, _, rfl, rfl, ⟨by decide, by decide⟩, _, rfl, _, _, rfl, rfl, m0, ?_⟩
    exact fin H2 x (k + 1) _ hc2 (by omega) (fun a ha => by rw [← hH2, upd_ne ha]) (Int.emod_nonneg _ (by omega)) (Int.emod_lt_of_pos _ m0)
theorem ok_law_jar : FnOk P w K mg base CX0 1 T.a_law_jar T.d_law_jar ["script", "k"] (spJar K) := by
  refine T.F_law_jar.ok sc_law_jar (fun vs H Q E ⟨a, ns, k, e, _⟩ => by rw [e]; rfl) (fun cdv A outer s H vs Q E hr ⟨a, ns, k, e, hS, hl, hk, q⟩ => ?_)
  subst e
  refine ⟨_, (pss_cons (ps_set (i := 2) sc_law_jar.nd rfl (by first | exact .inl rfl | exact .inr rfl) (pe_ifExp (pt_cmpR op_ltA (pv 1) (pe_callB (kLen (K := K)) (by rfl) T.z_len PySem.boot_len (pa_cons (pv 0) pa_nil)) (nomark _)) (pe_ix (kIx (K := K)) (pv 0) (pv 1) (fun _ _ => rfl)) pe_int)) (pss_one (ps_ret (pe_lst (pa_cons (pe_callB (call_max2 rfl) (by rfl) T.z_max PyProof.Rows.boot_max (pa_cons pe_int (pa_cons (pe_op op_sub (pe_callB call_abs (by rfl) T.z_abs PyProof.Rows.boot_abs (pa_cons (pv 2) pa_nil)) (pe_op op_powW pe_int pe_int)) pa_nil))) (pa_cons (pe_op op_mod (pe_op op_addA (pe_op op_addA (pe_op op_mulA (pv 2) pe_int) (pe_op op_mulA pe_int (pv 1))) pe_int) (pe_op op_addA (pe_op op_powW pe_int pe_int) pe_int)) (pa_cons pe_int pa_nil))))))), ?_⟩
  let A : Amb := ⟨W0, [], H, fun a ha => absurd ha List.not_mem_nil, fun a ha => absurd ha List.not_mem_nil⟩
  have hs : SqL K (off A.W.fs A.H0) a (ns.map V.int) := by
    have e : off A.W.fs A.H0 = H := funext fun x => if_neg List.not_mem_nil
    rw [e]
    exact hS
  have S : St8 A ⟨[], []⟩ [.raw (.ref a), .im (.int (k : Nat)), .no] [some (.ref a), some (.int (k : Nat)), none] H 0 := st8_start (A := A) (N := N_law_jar) (ρ := [.raw (.ref a), .im (.int (k : Nat))]) (vs := [.ref a, .int (k : Nat)]) rfl trivial (fun i s e => by
    match i, e with
    | 0, e => cases e; exact ⟨_, rfl, .inr rfl⟩
    | 1, e => cases e; exact ⟨_, rfl, .inl ⟨_, rfl, .int _⟩⟩
    | i + 2, e => simp at e) rfl
  refine SS.run (P := { nx := fun _ => False, rt := fun _ => False, fr := fun ds => ∃ x y : Int, ds = [.int x, .int y, .int 0] ∧ 0 ≤ y ∧ y < 1000000000000000000000000000000000067 }) (c := 0) S (Nat.zero_le _) ?_ (fun _ _ _ _ z => z.elim) ⟨fun v d H' z => z.elim, fun p xs ds H' ⟨x, y, e, y0, y1⟩ s _ e0 e1 kd => ?_⟩ (fun _ _ _ _ z => z.elim) (fun _ _ _ _ z => z.elim)
  · refine SS.le (sq_set (c2 := 0) (R := fun d => ∃ c : Int, d = .int c) (ee_ifR (c1 := 0) (c2 := 0) (P := fun b => b = decide ((k : Int) < (ns.map V.int).length)) (et_testB (ee_op (ee_var (d := .int (k : Nat)) rfl).r (er_lenScr (K := K) (i := 0) rfl hs).r od_ltI).r) (fun hb => ?_) fun _ => ee_int.imp fun d e => ⟨_, e⟩) fun d ⟨c, e⟩ => ?_) (by decide)
    · have hk' : k < ns.length := by
        have := of_decide_eq_true hb.symm
        rw [List.length_map] at this
        omega
      exact (er_ixScr (k := k) rfl hs hk' (ee_var (d := .int (k : Nat)) rfl).r).imp fun d e => ⟨_, e⟩
    · subst e
      refine SS.le (ss_retF (ef_lst (ea_cons (ee_cb (ear_cons ee_int.r (ear_cons (ee_op (ee_cb (ear_cons (ee_var (d := .int c) rfl).r ear_nil) cld_abs).r (ee_op ee_int.r ee_int.r (od_pow ⟨by decide, by decide, by decide⟩)).r od_subI).r ear_nil)) cld_max2) (ea_cons (ee_op (ee_op (ee_op (ee_op (ee_var (d := .int c) rfl).r ee_int.r (od_mulI (.inr ⟨by decide, by decide⟩))).r (ee_op ee_int.r (ee_var (d := .int (k : Nat)) rfl).r (od_mulI (.inl ⟨by decide, by decide⟩))).r od_addI).r ee_int.r od_addI).r (ee_op (ee_op ee_int.r ee_int.r (od_pow ⟨by decide, by decide, by decide⟩)).r ee_int.r od_addI).r (od_mod (by show (0 : Int) < _; decide))) (ea_cons ee_int ea_nil))) fun ds e => by rw [e]; show 3 ≤ sizeLine; decide) fun ds e => ⟨_, _, e, Int.emod_nonneg _ (by decide), Int.emod_lt_of_pos _ (by decide)⟩) (by decide)
  · subst e
    have e2 : off A.W.fs A.H0 = H := funext fun x => if_neg List.not_mem_nil
    have s' : Same H H' := fun b o eb => off_le _ _ (s b o (by rw [e2]; exact eb))
    cases kd with
    | cons k1 k2 =>
    cases k2 with
    | cons k3 k4 =>
    cases k4 with
    | cons k5 k6 =>
    cases k6
    cases k5
    cases k3
    cases k1
    exact q p H' s' e0 ⟨x, y, 0, e1, Nat.le_refl _, y0, y1⟩
theorem ok_valid_integer : FnOk P w K mg base CX0 1 T.a_valid_integer T.d_valid_integer ["value"] (SPp (fun ds => ∃ d, ds = [d]) (fun ds r => ∀ d, ds = [d] → r = .bool (intD d))) := by
  refine okp (c := 0) (m := 1) T.F_valid_integer sc_valid_integer (fun ds ⟨d, e⟩ => by rw [e]; rfl) (Nat.zero_le _) (body := fun cdv A outer s H E hr => ⟨_, (pss_one (ps_ret (pe_and (pe_callB (kIsi (K := K)) (by rfl) T.z_isinstance PyProof.Rows.boot_isinstance (pa_cons (pv 0) (pa_cons (pe_bltn (v := .ty "int") (by rfl) T.z_int PyProof.Rows.boot_int rfl) pa_nil))) (pe_one (pe_not (pe_callB (kIsi (K := K)) (by rfl) T.z_isinstance PyProof.Rows.boot_isinstance (pa_cons (pv 0) (pa_cons (pe_bltn (v := .ty "bool") (by rfl) T.z_bool PyProof.Rows.boot_bool rfl) pa_nil)))))))), fun A ds hW ⟨d, e⟩ => ?_⟩)
  subst e
  refine SS.le (ss_ret (ee_andV (ee_isi (ee_var rfl).r).r (fun _ => ee_notV (ee_isi (ee_var rfl).r).r)) fun r e d' e' => ?_) (by decide)
  cases e'
  rw [e]
  cases d <;> rfl
theorem ok_valid_beginning : FnOk P w K mg base CX0 1 T.a_valid_beginning T.d_valid_beginning ["value"] (SPp (fun ds => ∃ d, ds = [d] ∧ ∀ x, d = .str x → x.length ≤ 1000000) (fun ds r => ∀ d, ds = [d] → r = .bool (begD d))) := by
  refine okp (c := 0) (m := 1) T.F_valid_beginning sc_valid_beginning (fun ds ⟨d, e, _⟩ => by rw [e]; rfl) (Nat.zero_le _) (body := fun cdv A outer s H E hr => ⟨_, (pss_one (ps_ret (pe_and (pe_callB (kIsi (K := K)) (by rfl) T.z_isinstance PyProof.Rows.boot_isinstance (pa_cons (pv 0) (pa_cons (pe_bltn (v := .ty "str") (by rfl) T.z_str PyProof.Rows.boot_str rfl) pa_nil))) (pe_one (pe_callB (kAll (K := K) rfl) (by rfl) T.z_all PyProof.Rows.boot_all (pa_cons (pe_lc (own := [("letter", 1)]) (g := (gName 1)) (tt := tYes)  rfl sc_valid_beginning.nd (pi_str (pv 0)) (blkOk_by (own := [("letter", 1)]) (N := N_valid_beginning) (sc := defScope s_valid_beginning) (by decide +kernel)) (fun _ _ _ _ _ => (pg_name (i := 1) sc_valid_beginning.nd rfl (by first | exact .inl rfl | exact .inr rfl))) (fun _ _ _ _ _ => pts_nil) (fun _ _ _ _ _ => (pe_chain op_leA op_leA pe_str (pv 1) pe_str))) pa_nil)))))), fun A ds hW ⟨d, e, hs⟩ => ?_⟩)
  subst e
  refine SS.le (ss_ret (ee_andV (c2 := 0) (b := begD d) (ee_isi (ee_var rfl).r).r (fun hb => ?_)) fun r e d' e' => ?_) (by decide)
  · cases d with
    | str x =>
      refine EE.le (c := 0 + 0 + 0) (ee_cb (ear_cons (ee_map (fun e => .bool (ltrN (sgn1 e))) (ei_str (ee_var rfl).r) (by rw [show (signsD x).length = x.length by unfold signsD; rw [List.length_map, Array.length_toList]; rfl]; have := hs x rfl; omega) fun i e he => ?_).r ear_nil) ?_) (by decide)
      · unfold signsD at he
        rw [List.getElem?_map] at he
        cases hc : x.cps.toList[i]? with
        | none => rw [hc] at he; cases he
        | some z =>
          rw [hc] at he
          cases he
          refine ⟨_, tgw_name (List.mem_singleton.mpr rfl), (ee_chain (ee_str).r (ee_var rfl).r (ee_str).r od_leS od_leS).imp fun r e => ?_⟩
          rw [e]
          refine congrArg PyData.bool ?_
          exact congr (congrArg _ (le_sgn 97 z)) (le_sgn z 122)
      · have e : (signsD x).map (fun e => PyData.bool (ltrN (sgn1 e))) = (x.cps.toList.map ltrN).map .bool := by
          unfold signsD
          rw [List.map_map, List.map_map]
          rfl
        rw [e]
        have h : begD (.str x) = (x.cps.toList.map ltrN).all id := by
          show x.cps.toList.all ltrN = _
          rw [List.all_map]
          rfl
        rw [h]
        exact cld_all
    | _ => cases hb
  · cases e'
    rw [e]
    cases d <;> rfl
theorem ok_valid_word : FnOk P w K mg base CX0 2 T.a_valid_word T.d_valid_word ["value"] (SPp (fun ds => ∃ d, ds = [d] ∧ ∀ x, d = .str x → x.length ≤ 1000000) (fun ds r => ∀ d, ds = [d] → r = .bool (wordD d))) := by
  refine okp (c := 0) (m := 1) T.F_valid_word sc_valid_word (fun ds ⟨d, e, _⟩ => by rw [e]; rfl) (Nat.zero_le _) (body := fun cdv A outer s H E hr => ⟨_, (pss_one (ps_ret (pe_and (pe_call (ok_valid_beginning T) (hr.mono (by decide)) (by rfl) T.m_valid_beginning T.F_valid_beginning.kp T.b_valid_beginning .nil pass0 (pa_cons (pv 0) pa_nil)) (pe_one (pe_cmpR (op_neP hr.units) (pv 0) pe_str (nomark _)))))), fun A ds hW ⟨d, e, hs⟩ => ?_⟩)
  subst e
  refine SS.le (ss_ret (ee_andV (c2 := 0) (b := !PyData.eqv d (.str Str.empty)) (ee_callf (e := .bool (begD d)) (ea_cons (ee_var rfl) ea_nil) ⟨d, rfl, hs⟩ fun r h => h d rfl).r fun hb => ?_) fun r e d' e' => ?_) (by decide)
  · cases d with
    | str x => exact EE.le (c := 0 + 0) (ee_op (ee_var rfl).r ee_str.r (od_ne rfl rfl (Nat.zero_le _))) (by decide)
    | _ => cases hb
  · cases e'
    rw [e]
    rfl
theorem ok_valid_limit : FnOk P w K mg base CX0 2 T.a_valid_limit T.d_valid_limit ["value"] (SPp (fun ds => ∃ d, ds = [d]) (fun ds r => ∀ d, ds = [d] → r = .bool (limD d))) := by
  refine okp (c := 0) (m := 1) T.F_valid_limit sc_valid_limit (fun ds ⟨d, e⟩ => by rw [e]; rfl) (Nat.zero_le _) (body := fun cdv A outer s H E hr => ⟨_, (pss_one (ps_ret (pe_and (pe_call (ok_valid_integer T) (hr.mono (by decide)) (by rfl) T.m_valid_integer T.F_valid_integer.kp T.b_valid_integer .nil pass0 (pa_cons (pv 0) pa_nil)) (pe_one (pe_chain op_leA op_leA pe_int (pv 0) (pe_glob (v := .int 20) (by rfl) T.c_MOST_SHOWN ⟨_, rfl⟩)))))), fun A ds hW ⟨d, e⟩ => ?_⟩)
  subst e
  refine SS.le (ss_ret (ee_andV (c2 := 0) (b := limD d) (ee_callf (e := .bool (intD d)) (ea_cons (ee_var rfl) ea_nil) ⟨d, rfl⟩ fun r h => h d rfl).r fun hb => ?_) fun r e d' e' => ?_) (by decide)
  · cases d with
    | int i => exact EE.le (c := 0 + 0 + 0) (ee_chain ee_int.r (ee_var rfl).r ee_int.r od_leI od_leI) (by decide)
    | _ => cases hb
  · cases e'
    rw [e]
    cases d <;> rfl
theorem ok_valid_dictionary : FnOk P w K mg base CX0 3 T.a_valid_dictionary T.d_valid_dictionary ["value"] (SPp (fun ds => ∃ d, ds = [d] ∧ BigL d) (fun ds r => ∀ d, ds = [d] → r = .bool (dictD d))) := by
  refine okp (c := 0) (m := 1) T.F_valid_dictionary sc_valid_dictionary (fun ds ⟨d, e, _⟩ => by rw [e]; rfl) (Nat.zero_le _) (body := fun cdv A outer s H E hr => ⟨_, (pss_one (ps_ret (pe_and (pe_callB (kIsi (K := K)) (by rfl) T.z_isinstance PyProof.Rows.boot_isinstance (pa_cons (pv 0) (pa_cons (pe_bltn (v := .ty "list") (by rfl) T.z_list PyProof.Rows.boot_list rfl) pa_nil))) (pe_and (pe_callB (kAll (K := K) rfl) (by rfl) T.z_all PyProof.Rows.boot_all (pa_cons (pe_lc (own := [("word", 1)]) (g := (gName 1)) (tt := tYes)  rfl sc_valid_dictionary.nd (kList (K := K) (pv 0)) (blkOk_by (own := [("word", 1)]) (N := N_valid_dictionary) (sc := defScope s_valid_dictionary) (by decide +kernel)) (fun _ _ _ _ _ => (pg_name (i := 1) sc_valid_dictionary.nd rfl (by first | exact .inl rfl | exact .inr rfl))) (fun _ _ _ _ _ => pts_nil) (fun _ _ _ _ _ => (pe_call (ok_valid_word T) (hr.mono (by decide)) (by rfl) T.m_valid_word T.F_valid_word.kp T.b_valid_word .nil pass0 (pa_cons (pv 1) pa_nil)))) pa_nil)) (pe_one (pe_cmpR (op_eqP hr.units) (kLenSet (K := K) (by rfl) T.z_len (by rfl) T.z_set (pv 0)) (pe_callB (kLen (K := K)) (by rfl) T.z_len PySem.boot_len (pa_cons (pv 0) pa_nil)) (nomark _))))))), fun A ds hW ⟨d, e, hl, hs⟩ => ?_⟩)
  subst e
  refine SS.le (ss_ret (ee_andV (a := listD d) (b := (itemsOf d).all wordD && decide (cnt (fun i => ((itemsOf d).map strOf).getD i Str.empty) ((itemsOf d).map strOf).length = (itemsOf d).length)) (c2 := 0) ((ee_isi (ee_var rfl).r).imp fun r e => ?_).r fun hb => ?_) fun r e d' e' => ?_) (by decide)
  · rw [e]
    cases d <;> rfl
  · cases d with
    | list es =>
      refine EE.le (c := 0 + 0 + (0 + 0)) (ee_andV (a := es.all wordD) (b := decide (cnt (fun i => (es.map strOf).getD i Str.empty) (es.map strOf).length = es.length)) (c2 := 0 + 0) ((ee_cb (ds := [.list ((es.map wordD).map .bool)]) (ear_cons ((ee_map (fun d => .bool (wordD d)) (ei_list (ee_var rfl)) (Nat.le_of_lt (Nat.lt_of_lt_of_le hl (by decide))) fun i e he => ?_).imp fun r e => ?_).r ear_nil) cld_all).imp fun r e => ?_).r fun h2 => (ee_op (ee_lenSet (xs := es.map strOf) ((ee_var (d := .list es) rfl).imp fun r e => ?_).r (by rw [List.length_map]; exact hl)).r (ee_cb (ear_cons (ee_var (d := .list es) rfl).r ear_nil) cld_lenL).r (od_eq rfl rfl (Nat.zero_le _))).imp fun r e => ?_) (by decide)
      · exact ⟨_, tgw_name (List.mem_singleton.mpr rfl), ee_callf (ea_cons (ee_var rfl) ea_nil) ⟨e, rfl, hs e (List.mem_of_getElem? he)⟩ fun r h => h _ rfl⟩
      · rw [e, List.map_map]
        rfl
      · rw [e, List.all_map]
        rfl
      · rw [e, ← words_strs h2]
      · rw [e, eqv_nat]
    | _ => cases hb
  · cases e'
    exact e
theorem ok_valid_screen : FnOk P w K mg base CX0 4 T.a_valid_screen T.d_valid_screen ["value"] (SPp (fun ds => ∃ d, ds = [d] ∧ BigT d) (fun ds r => ∀ d, ds = [d] → r = .bool (scrB d))) := by
  refine okp (c := 0) (m := 1) T.F_valid_screen sc_valid_screen (fun ds ⟨d, e, _⟩ => by rw [e]; rfl) (Nat.zero_le _) (body := fun cdv A outer s H E hr => ⟨_, (pss_cons (ps_if (PW.pt (pw_or (pt_not (pt_val (pe_callB (kIsi (K := K)) (by rfl) T.z_isinstance PyProof.Rows.boot_isinstance (pa_cons (pv 0) (pa_cons (pe_bltn (v := .ty "tuple") (by rfl) T.z_tuple PyProof.Rows.boot_tuple rfl) pa_nil))))) (pw_or1 (pt_cmpR (op_neP hr.units) (pe_callB (kLen (K := K)) (by rfl) T.z_len PySem.boot_len (pa_cons (pv 0) pa_nil)) pe_int (nomark _))))) (pss_one (ps_ret pe_bl)) pss_nil) (pss_cons (ps_asg (pv 0) (kPgTup (K := K) rfl (pgs_cons (pg_name (i := 1) sc_valid_screen.nd rfl (by first | exact .inl rfl | exact .inr rfl)) (pgs_cons (pg_name (i := 2) sc_valid_screen.nd rfl (by first | exact .inl rfl | exact .inr rfl)) (pgs_cons (pg_name (i := 3) sc_valid_screen.nd rfl (by first | exact .inl rfl | exact .inr rfl)) pgs_nil))))) (pss_cons (ps_if (PW.pt (pw_or (pt_not (pt_val (pe_call (ok_valid_beginning T) (hr.mono (by decide)) (by rfl) T.m_valid_beginning T.F_valid_beginning.kp T.b_valid_beginning .nil pass0 (pa_cons (pv 1) pa_nil)))) (pw_or (pt_not (pt_val (pe_call (ok_valid_limit T) (hr.mono (by decide)) (by rfl) T.m_valid_limit T.F_valid_limit.kp T.b_valid_limit .nil pass0 (pa_cons (pv 2) pa_nil)))) (pw_or1 (pt_not (pt_val (pe_call (ok_valid_dictionary T) (hr.mono (by decide)) (by rfl) T.m_valid_dictionary T.F_valid_dictionary.kp T.b_valid_dictionary .nil pass0 (pa_cons (pv 3) pa_nil)))))))) (pss_one (ps_ret pe_bl)) pss_nil) (pss_one (ps_ret (pe_and (pe_cmpR op_leA (pe_callB (kLen (K := K)) (by rfl) T.z_len PySem.boot_len (pa_cons (pv 3) pa_nil)) (pv 2) (nomark _)) (pe_one (pe_callB (kAll (K := K) rfl) (by rfl) T.z_all PyProof.Rows.boot_all (pa_cons (pe_lc (own := [("word", 4)]) (g := (gName 4)) (tt := tYes)  rfl sc_valid_screen.nd (kList (K := K) (pv 3)) (blkOk_by (own := [("word", 4)]) (N := N_valid_screen) (sc := defScope s_valid_screen) (by decide +kernel)) (fun _ _ _ _ _ => (pg_name (i := 4) sc_valid_screen.nd rfl (by first | exact .inl rfl | exact .inr rfl))) (fun _ _ _ _ _ => pts_nil) (fun _ _ _ _ _ => (pe_m1 PySem.F.slot_str_startswith PySem.F.type_str_startswith mt_startswith (pv 4) (pv 1)))) pa_nil))))))))), fun A ds hW ⟨d, e, hs⟩ => ?_⟩)
  subst e
  have other : isiD "tuple" d = false → scrB d = false := fun h => by
    cases d with
    | tuple es => cases h
    | _ => rfl
  cases hT : isiD "tuple" d with
  | false =>
    refine SS.le (sq_if (c2 := 0) (c3 := 0) (et_or (a := true) (b := true) (c2 := 0) ((et_notB (et_bool (ee_isi (ee_var (d := d) rfl).r).r)).imp fun b e => by rw [e, hT]; rfl) fun h => by cases h) (fun _ => SS.le (ss_ret ee_bl fun r e d' e' => ?_) (by decide)) fun h => by cases h) (by decide)
    cases e'
    rw [e, other hT]
  | true =>
    cases d with
    | tuple es =>
      have hes := hs es rfl
      refine SS.le (sq_if (c2 := 0) (c3 := 0) (et_or (a := false) (b := !decide ((es.length : Int) = 3)) (c2 := 0) ((et_notB (et_bool (ee_isi (ee_var (d := .tuple es) rfl).r).r)).imp fun b e => by rw [e]; rfl) fun _ => ((et_testB (ee_op (ee_cb (ear_cons (ee_var (d := .tuple es) rfl).r ear_nil) cld_lenT).r ee_int.r (od_ne rfl rfl (Nat.zero_le _))).r).imp fun b e => by rw [e, eqv_int]).le (by decide)) (fun h => SS.le (ss_ret ee_bl fun r e d' e' => ?_) (by decide)) fun h => ss_next ?_) (by decide)
      · cases e'
        rw [e]
        match es, h with
        | [], _ => rfl
        | [_], _ => rfl
        | [_, _], _ => rfl
        | [_, _, _], h => simp at h
        | _ :: _ :: _ :: _ :: _, _ => rfl
      · match es, h, hes with
        | [], h, _ => simp at h
        | [_], h, _ => simp at h
        | [_, _], h, _ => simp at h
        | _ :: _ :: _ :: _ :: _, h, _ =>
          exfalso
          simp only [List.length_cons, Bool.false_or] at h
          have h2 := h.symm
          rw [Bool.not_eq_false', decide_eq_true_eq] at h2
          omega
        | [b, l, s], _, hes =>
          have hb := (hes b (by simp)).1
          have hsl := (hes s (by simp)).2
          refine SS.le (c := 0 + (0 + (0 + (0 + 0)) + 0 + (0 + 0 + (0 + 0 + 0)))) (sq_asg (ee_var (d := .tuple [b, l, s]) rfl) fun d e => ?_) (by decide)
          subst e
          refine ⟨_, tg_tup (tgs_cons tg_name (tgs_cons tg_name (tgs_cons tg_name tgs_nil))) rfl, ?_⟩
          refine sq_if (c2 := 0) (c3 := 0 + 0 + (0 + 0 + 0)) (et_or (a := !begD b) (b := (!limD l || !dictD s)) (c2 := 0 + (0 + 0)) (et_notB (et_bool (ee_callf (e := .bool (begD b)) (ea_cons (ee_var (d := b) rfl) ea_nil) ⟨_, rfl, hb⟩ fun r h => h _ rfl).r)) fun _ => et_or (a := !limD l) (b := !dictD s) (c2 := 0 + 0) (et_notB (et_bool (ee_callf (e := .bool (limD l)) (ea_cons (ee_var (d := l) rfl) ea_nil) ⟨_, rfl⟩ fun r h => h _ rfl).r)) fun _ => et_notB (et_bool (ee_callf (e := .bool (dictD s)) (ea_cons (ee_var (d := s) rfl) ea_nil) ⟨s, rfl, hsl⟩ fun r h => h s rfl).r)) (fun h => SS.le (ss_ret ee_bl fun r e d' e' => ?_) (by decide)) fun h => ss_next ?_
          · cases e'
            rw [e]
            refine congrArg PyData.bool ?_
            show false = scr3 b l s
            unfold scr3
            cases h1 : begD b with
            | false => rfl
            | true =>
              cases h2 : limD l with
              | false => rfl
              | true =>
                cases h3 : dictD s with
                | false => rfl
                | true => rw [h1, h2, h3] at h; cases h
          · have h1 : begD b = true := by
              cases h1 : begD b with
              | true => rfl
              | false => rw [h1] at h; cases h
            have h2 : limD l = true := by
              cases h2 : limD l with
              | true => rfl
              | false => rw [h1, h2] at h; cases h
            have h3 : dictD s = true := by
              cases h3 : dictD s with
              | true => rfl
              | false => rw [h1, h2, h3] at h; cases h
            clear h
            cases b with
            | str bx =>
              cases l with
              | int li =>
                cases s with
                | list es =>
                  have hw : es.all wordD = true := by
                    have h4 : (true && (es.all wordD && _)) = true := h3
                    rw [Bool.true_and, Bool.and_eq_true] at h4
                    exact h4.1
                  refine ss_ret (ee_andV (a := decide ((es.length : Int) ≤ li)) (b := es.all fun e => preS bx (strOf e)) (c2 := 0 + 0 + 0) (ee_op (ee_cb (ear_cons (ee_var (d := .list es) rfl).r ear_nil) cld_lenL).r (ee_var (d := .int li) rfl).r od_leI).r fun _ => EE.imp (ee_cb (ds := [.list ((es.map fun e => preS bx (strOf e)).map .bool)]) (ear_cons ((ee_map (fun e => .bool (preS bx (strOf e))) (ei_list (ee_var (d := .list es) rfl)) (Nat.le_of_lt (Nat.lt_of_lt_of_le hsl.1 (by decide))) fun i d hd => ?_).imp fun r e => ?_).r ear_nil) cld_all) fun r e => ?_) fun r e d' e' => ?_
                  · have := List.all_eq_true.mp hw d (List.mem_of_getElem? hd)
                    cases d with
                    | str x => exact ⟨_, tgw_name (List.mem_singleton.mpr rfl), (ee_starts (ee_var (d := .str x) rfl).r (ee_var (d := .str bx) rfl)).imp fun r e => by rw [e, startswith_pre]; rfl⟩
                    | _ => cases this
                  · rw [e, List.map_map]
                    rfl
                  · rw [e, List.all_map]
                    rfl
                  · cases e'
                    rw [e]
                    show _ = PyData.bool (scr3 (.str bx) (.int li) (.list es))
                    unfold scr3
                    rw [h1, h2, h3]
                    rfl
                | _ => cases h3
              | _ => cases h2
            | _ => cases h1
    | _ => cases hT
theorem ok_valid_screens : FnOk P w K mg base CX0 5 T.a_valid_screens T.d_valid_screens ["value"] (SPp (fun ds => ∃ d, ds = [d] ∧ BigA d) (fun ds r => ∀ d, ds = [d] → r = .bool (scrsB d))) := by
  refine okp (c := 0) (m := 1) T.F_valid_screens sc_valid_screens (fun ds ⟨s, e, _⟩ => by rw [e]; rfl) (Nat.zero_le _) (body := fun cdv A outer s H E hr => ⟨_, (pss_one (ps_ret (pe_and (pe_callB (kIsi (K := K)) (by rfl) T.z_isinstance PyProof.Rows.boot_isinstance (pa_cons (pv 0) (pa_cons (pe_bltn (v := .ty "list") (by rfl) T.z_list PyProof.Rows.boot_list rfl) pa_nil))) (pe_and (pe_cmpR op_leA (pe_callB (kLen (K := K)) (by rfl) T.z_len PySem.boot_len (pa_cons (pv 0) pa_nil)) (pe_glob (v := .int 20) (by rfl) T.c_MOST_SCREENS ⟨_, rfl⟩) (nomark _)) (pe_one (pe_callB (kAll (K := K) rfl) (by rfl) T.z_all PyProof.Rows.boot_all (pa_cons (pe_lc (own := [("screen", 1)]) (g := (gName 1)) (tt := tYes)  rfl sc_valid_screens.nd (kList (K := K) (pv 0)) (blkOk_by (own := [("screen", 1)]) (N := N_valid_screens) (sc := defScope s_valid_screens) (by decide +kernel)) (fun _ _ _ _ _ => (pg_name (i := 1) sc_valid_screens.nd rfl (by first | exact .inl rfl | exact .inr rfl))) (fun _ _ _ _ _ => pts_nil) (fun _ _ _ _ _ => (pe_call (ok_valid_screen T) (hr.mono (by decide)) (by rfl) T.m_valid_screen T.F_valid_screen.kp T.b_valid_screen .nil pass0 (pa_cons (pv 1) pa_nil)))) pa_nil))))))), fun A ds hW ⟨d, e, hl, hs⟩ => ?_⟩)
  subst e
  refine SS.le (c := 0 + (0 + 0 + (0 + 0 + 0))) (ss_ret (ee_andV (a := listD d) (b := decide ((itemsOf d).length ≤ 20) && (itemsOf d).all scrB) (c2 := 0 + 0 + (0 + 0 + 0)) ((ee_isi (ee_var (d := d) rfl).r).imp fun r e => ?_).r fun hb => ?_) fun r e d' e' => ?_) (by decide)
  · rw [e]
    cases d <;> rfl
  · cases d with
    | list es =>
      refine ee_andV (a := decide (es.length ≤ 20)) (b := es.all scrB) (c2 := 0 + 0 + 0) ((ee_op (ee_cb (ear_cons (ee_var (d := .list es) rfl).r ear_nil) cld_lenL).r ee_int.r od_leI).imp fun r e => ?_).r fun _ => EE.imp (ee_cb (ds := [.list ((es.map scrB).map .bool)]) (ear_cons ((ee_map (fun d => .bool (scrB d)) (ei_list (ee_var (d := .list es) rfl)) (Nat.le_of_lt (Nat.lt_of_lt_of_le hl (by decide))) fun i d hd => ?_).imp fun r e => ?_).r ear_nil) cld_all) fun r e => ?_
      · rw [e]
        exact congrArg PyData.bool (decide_eq_decide.mpr (by omega))
      · exact ⟨_, tgw_name (List.mem_singleton.mpr rfl), ee_callf (ea_cons (ee_var (d := d) rfl) ea_nil) ⟨d, rfl, hs d (List.mem_of_getElem? hd)⟩ fun r h => h d rfl⟩
      · rw [e, List.map_map]
        rfl
      · rw [e, List.all_map]
        rfl
    | _ => cases hb
  · cases e'
    exact e
theorem ok_check_screens : FnOk P w K mg base CX0 6 T.a_check_screens T.d_check_screens ["value"] (SPp (fun ds => ∃ ss, ds = [screensD ss] ∧ ss.length ≤ 20 ∧ ∀ s ∈ ss, ScrOk s) (fun ds r => r = .none)) := by
  refine okp (c := 0) (m := 1) T.F_check_screens sc_check_screens (fun ds ⟨x, e, _⟩ => by rw [e]; rfl) (Nat.zero_le _) (body := fun cdv A outer s H E hr => ⟨_, (pss_one (ps_if (pt_not (pt_val (pe_call (ok_valid_screens T) (hr.mono (by decide)) (by rfl) T.m_valid_screens T.F_valid_screens.kp T.b_valid_screens .nil pass0 (pa_cons (pv 0) pa_nil)))) (pss_one ps_never) pss_nil)), fun A ds hW ⟨ss, e, hn, hs⟩ => ?_⟩)
  subst e
  refine SS.le (ss_if (c2 := 0) (et_notB (et_bool (ee_callf (e := .bool true) (ea_cons (ee_var (d := screensD ss) rfl) ea_nil) ⟨_, rfl, big_screens (by omega) hs⟩ fun r h => (h _ rfl).trans (congrArg PyData.bool (scrsB_ok hn hs))).r)) (fun h => ?_) fun _ => ss_next rfl) (by decide)
  cases h
theorem ok_misses : FnOk P w K mg base CX0 1 T.a_misses T.d_misses ["screen", "word"] (SPp (fun ds => ∃ (s : Scr) (x : Str), ds = [scrD s, .str x] ∧ ScrOk s) (fun ds r => ∀ (s : Scr) (x : Str), ds = [scrD s, .str x] → r = .bool (missS s x))) := by
  refine okp (c := 0) (m := 2) T.F_misses sc_misses (fun ds ⟨s, x, e, _⟩ => by rw [e]; rfl) (Nat.zero_le _) (body := fun cdv A outer s H E hr => ⟨_, (pss_cons (ps_asg (pv 0) (kPgTup (K := K) rfl (pgs_cons (pg_name (i := 2) sc_misses.nd rfl (by first | exact .inl rfl | exact .inr rfl)) (pgs_cons (pg_name (i := 3) sc_misses.nd rfl (by first | exact .inl rfl | exact .inr rfl)) (pgs_cons (pg_name (i := 4) sc_misses.nd rfl (by first | exact .inl rfl | exact .inr rfl)) pgs_nil))))) (pss_one (ps_ret (pe_and (pe_cmpR op_ltA (pe_callB (kLen (K := K)) (by rfl) T.z_len PySem.boot_len (pa_cons (pv 4) pa_nil)) (pv 3) (nomark _)) (pe_and (pe_m1 PySem.F.slot_str_startswith PySem.F.type_str_startswith mt_startswith (pv 1) (pv 2)) (pe_one (pe_cmpR (kNi (K := K)) (pv 1) (pv 4) (by rfl)))))))), fun A ds hW ⟨s, x, e, hs⟩ => ?_⟩)
  subst e
  refine SS.le (c := 0 + (0 + 0 + (0 + 0 + (0 + 0)))) (sq_asg (ee_var (d := .tuple [.str s.b, .int (s.l : Nat), strsD s.ys]) rfl) fun d e => ?_) (by decide)
  subst e
  refine ⟨_, tg_tup (tgs_cons tg_name (tgs_cons tg_name (tgs_cons tg_name tgs_nil))) rfl, ?_⟩
  refine ss_ret (ee_andV (a := decide (s.ys.length < s.l)) (b := preS s.b x && !decide (x ∈ s.ys)) (c2 := 0 + 0 + (0 + 0)) ((ee_op (ee_cb (ear_cons (ee_var (d := strsD s.ys) rfl).r ear_nil) cld_lenL).r (ee_var (d := .int (s.l : Nat)) rfl).r od_ltI).imp fun r e => ?_).r fun _ => ee_andV (a := preS s.b x) (b := !decide (x ∈ s.ys)) (c2 := 0 + 0) ((ee_starts (ee_var (d := .str x) rfl).r (ee_var (d := .str s.b) rfl)).imp fun r e => by rw [e, startswith_pre]).r fun _ => (ee_op (ee_var (d := .str x) rfl).r (ee_var (d := .list (s.ys.map .str)) rfl).r (od_in rfl (flat_strs s.ys))).imp fun r e => ?_) fun r e s' x' e' => ?_
  · rw [e, List.length_map]
    exact congrArg PyData.bool (decide_eq_decide.mpr (by omega))
  · rw [e, any_strs]
    rfl
  · injection e' with e1 e2
    injection e2 with e2 _
    injection e2 with e2
    rw [e, ← scrD_inj e1, ← e2]
    rfl
def pairD : Option (Str × Str) → PyData
  | none => .none
  | some p => .tuple [.str p.1, .str p.2]
theorem ok_swapped_words : FnOk P w K mg base CX0 1 T.a_swapped_words T.d_swapped_words ["one", "other"] (SPp (fun ds => ∃ (s t : Scr), ds = [scrD s, scrD t] ∧ ScrOk s ∧ ScrOk t) (fun ds r => ∀ (s t : Scr), ds = [scrD s, scrD t] → r = pairD (swapS s t))) := by
  refine okp (c := 0) (m := 2) T.F_swapped_words sc_swapped_words (fun ds ⟨s, t, e, _⟩ => by rw [e]; rfl) (Nat.zero_le _) (body := fun cdv A outer s H E hr => ⟨_, (pss_cons (ps_setLc (i := 2) (own := [("word", 6)]) (g := (gName 6))  rfl sc_swapped_words.nd rfl rfl (sw_true rfl rfl rfl (by decide +kernel)) (kList (K := K) (pe_ix (kIx (K := K)) (pv 0) pe_int (fun _ _ => rfl))) (blkOk_by (own := [("word", 6)]) (N := N_swapped_words) (sc := defScope s_swapped_words) (by decide +kernel)) (fun _ _ _ _ _ => (pg_name (i := 6) sc_swapped_words.nd rfl (by first | exact .inl rfl | exact .inr rfl))) (fun _ _ _ _ _ => pts_one (pt_val (pe_m1 PySem.F.slot_str_startswith PySem.F.type_str_startswith mt_startswith (pv 6) (pe_ix (kIx (K := K)) (pv 1) pe_int (fun _ _ => rfl))))) (fun _ _ _ _ _ => (pv 6))) (pss_cons (ps_setLc (i := 3) (own := [("word", 6)]) (g := (gName 6))  rfl sc_swapped_words.nd rfl rfl (sw_true rfl rfl rfl (by decide +kernel)) (kList (K := K) (pe_ix (kIx (K := K)) (pv 1) pe_int (fun _ _ => rfl))) (blkOk_by (own := [("word", 6)]) (N := N_swapped_words) (sc := defScope s_swapped_words) (by decide +kernel)) (fun _ _ _ _ _ => (pg_name (i := 6) sc_swapped_words.nd rfl (by first | exact .inl rfl | exact .inr rfl))) (fun _ _ _ _ _ => pts_one (pt_val (pe_m1 PySem.F.slot_str_startswith PySem.F.type_str_startswith mt_startswith (pv 6) (pe_ix (kIx (K := K)) (pv 0) pe_int (fun _ _ => rfl))))) (fun _ _ _ _ _ => (pv 6))) (pss_cons (ps_for PassesOwn.never rfl (kZip (K := K) (by rfl) T.z_zip (pa_cons (pv 2) (pa_cons (pv 3) pa_nil))) (kPgTup (K := K) rfl (pgs_cons (pg_name (i := 4) sc_swapped_words.nd rfl (by first | exact .inl rfl | exact .inr rfl)) (pgs_cons (pg_name (i := 5) sc_swapped_words.nd rfl (by first | exact .inl rfl | exact .inr rfl)) pgs_nil))) (pss_one (ps_if (pt_cmpR (op_neP hr.units) (pv 4) (pv 5) (nomark _)) (pss_one (ps_ret (pe_tup (pa_cons (pv 4) (pa_cons (pv 5) pa_nil))))) pss_nil))) (pss_one (ps_ret pe_non))))), fun A ds hW ⟨s, t, e, hs, ht⟩ => ?_⟩)
  subst e
  have ns : s.ys.length ≤ 20 := Nat.le_trans hs.n hs.l2
  have nt : t.ys.length ≤ 20 := Nat.le_trans ht.n ht.l2
  have fin : ∀ r, r = pairD (swapS s t) → ∀ s' t', [scrD s, scrD t] = [scrD s', scrD t'] → r = pairD (swapS s' t') := fun r e s' t' e' => by
    injection e' with e1 e2
    injection e2 with e2 _
    rw [e, scrD_inj e1, scrD_inj e2]
  refine SS.le (c := (0 + 0 + 0) + ((0 + 0 + 0) + (0 + 0 + 0))) (sq_set (R := (· = strsD (s.ys.filter (preS t.b)))) ((ee_fil (fun d => match d with | .str x => preS t.b x | _ => false) (fun d => d) (ei_list (ee_prt (i := 2) (d := .list (s.ys.map .str)) (ee_var (d := scrD s) rfl) ee_int.r rfl)) (by rw [List.length_map]; omega) fun i e he => ?f1).imp fun r e => ?g1) fun d e => ?_) (by decide)
  case f1 =>
    obtain ⟨x, rfl, hx⟩ := strs_get he
    exact ⟨_, tgw_name (List.mem_singleton.mpr rfl), ((et_bool (ee_starts (ee_var (d := .str x) rfl).r (ee_prt (i := 0) (d := .str t.b) (ee_var (d := scrD t) rfl) ee_int.r rfl)).r).imp fun r e => by rw [e]; exact startswith_pre x t.b).le (by decide), fun _ => ee_var rfl⟩
  case g1 =>
    rw [e]
    exact congrArg PyData.list (filter_strs (preS t.b) _ (fun _ => rfl) s.ys)
  subst e
  refine sq_set (R := (· = strsD (t.ys.filter (preS s.b)))) ((ee_fil (fun d => match d with | .str x => preS s.b x | _ => false) (fun d => d) (ei_list (ee_prt (i := 2) (d := .list (t.ys.map .str)) (ee_var (d := scrD t) rfl) ee_int.r rfl)) (by rw [List.length_map]; omega) fun i e he => ?f2).imp fun r e => ?g2) fun d e => ?_
  case f2 =>
    obtain ⟨x, rfl, hx⟩ := strs_get he
    exact ⟨_, tgw_name (List.mem_singleton.mpr rfl), ((et_bool (ee_starts (ee_var (d := .str x) rfl).r (ee_prt (i := 0) (d := .str s.b) (ee_var (d := scrD s) rfl) ee_int.r rfl)).r).imp fun r e => by rw [e]; exact startswith_pre x s.b).le (by decide), fun _ => ee_var rfl⟩
  case g2 =>
    rw [e]
    exact congrArg PyData.list (filter_strs (preS s.b) _ (fun _ => rfl) t.ys)
  subst e
  let AA := s.ys.filter (preS t.b)
  let BB := t.ys.filter (preS s.b)
  refine sq_for (cN := 0) (c2 := 0) (ei_zipA (ea_cons (ee_var (d := .list (AA.map .str)) rfl) (ea_cons (ee_var (d := .list (BB.map .str)) rfl) ea_nil))) fun ds e => ?_
  subst e
  refine ⟨fun i ρ' => ∃ (s3 s4 s5 s6 : SV), ρ' = [.im (scrD s), .im (scrD t), .im (strsD AA), .im (strsD BB), s3, s4, s5] ∧ ∀ j < i, ∀ p, (AA.zip BB)[j]? = some p → p.1 = p.2, 0, by omega, ⟨_, _, _, .no, rfl, fun j hj => absurd hj (Nat.not_lt_zero _)⟩, ?_, ?_⟩
  · rintro i d ρ1 hd ⟨s3, s4, s5, s6, rfl, hp⟩
    obtain ⟨x, y, hz, rfl⟩ := zip_strs hd
    refine ⟨_, tg_tup (tgs_cons tg_name (tgs_cons tg_name tgs_nil)) rfl, ?_⟩
    refine SS.le (c := 0 + 0 + 0) (ss_if (c2 := 0) (et_testB (ee_op (ee_var (d := .str x) rfl).r (ee_var (d := .str y) rfl).r (od_ne rfl rfl (Nat.zero_le _))).r) (fun h => ?_) fun h => ss_next ?_) (by decide)
    · rw [eqv_str] at h
      have ne : x ≠ y := by simpa using h.symm
      refine SS.le (ss_ret (ee_tup (ea_cons (ee_var (d := .str x) rfl) (ea_cons (ee_var (d := .str y) rfl) ea_nil))) fun r e => fin r ?_) (by decide)
      have e2 : swapS s t = some (x, y) := swp_at hz hp ne
      rw [e2]
      exact e
    · rw [eqv_str] at h
      have eq : x = y := by simpa using h.symm
      refine ⟨_, _, _, .no, rfl, fun j hj p hpj => ?_⟩
      by_cases hji : j = i
      · rw [hji, hz] at hpj
        cases hpj
        exact eq
      · exact hp j (by omega) p hpj
  · rintro ρ1 ⟨s3, s4, s5, s6, rfl, hp⟩
    refine SS.le (ss_ret ee_non fun r e => fin r ?_) (by decide)
    have e2 : swapS s t = none := swp_end fun j p hpj => hp j (by
      have := (List.getElem?_eq_some_iff.mp hpj).1
      unfold zipD
      rw [List.length_map, List.length_zip, List.length_map, List.length_map]
      rw [List.length_zip] at this
      exact this) p hpj
    rw [e2]
    exact e
def clashD : Option PyData → PyData
  | none => .none
  | some d => d
theorem ok_first_clash : FnOk P w K mg base CX0 2 T.a_first_clash T.d_first_clash ["screens"] (SPp (fun ds => ∃ ss, ds = [screensD ss] ∧ ss.length ≤ 20 ∧ ∀ s ∈ ss, ScrOk s) (fun ds r => ∀ ss, ds = [screensD ss] → r = clashD (clashF ss))) := by
  refine okp (c := 0) (m := 1) T.F_first_clash sc_first_clash (fun ds ⟨ss, e, _⟩ => by rw [e]; rfl) (Nat.zero_le _) (body := fun cdv A outer s H E hr => ⟨_, (pss_cons (ps_for PassesOwn.never rfl (kEnum (K := K) (by rfl) T.z_enumerate (pa_cons (pv 0) pa_nil)) (kPgTup (K := K) rfl (pgs_cons (pg_name (i := 1) sc_first_clash.nd rfl (by first | exact .inl rfl | exact .inr rfl)) (pgs_cons (pg_name (i := 2) sc_first_clash.nd rfl (by first | exact .inl rfl | exact .inr rfl)) pgs_nil))) (pss_one (ps_for PassesOwn.never rfl (kEnum (K := K) (by rfl) T.z_enumerate (pa_cons (pv 0) pa_nil)) (kPgTup (K := K) rfl (pgs_cons (pg_name (i := 3) sc_first_clash.nd rfl (by first | exact .inl rfl | exact .inr rfl)) (pgs_cons (pg_name (i := 4) sc_first_clash.nd rfl (by first | exact .inl rfl | exact .inr rfl)) pgs_nil))) (pss_cons (ps_for PassesOwn.never rfl (kList (K := K) (pe_ix (kIx (K := K)) (pv 4) pe_int (fun _ _ => rfl))) (pg_name (i := 5) sc_first_clash.nd rfl (by first | exact .inl rfl | exact .inr rfl)) (pss_one (ps_if (pt_val (pe_call (ok_misses T) (hr.mono (by decide)) (by rfl) T.m_misses T.F_misses.kp T.b_misses .nil pass0 (pa_cons (pv 2) (pa_cons (pv 5) pa_nil)))) (pss_one (ps_ret (pe_tup (pa_cons pe_str (pa_cons (pv 1) (pa_cons (pv 3) (pa_cons (pv 5) pa_nil))))))) pss_nil))) (pss_cons (ps_set (i := 6) sc_first_clash.nd rfl (by first | exact .inl rfl | exact .inr rfl) (pe_call (ok_swapped_words T) (hr.mono (by decide)) (by rfl) T.m_swapped_words T.F_swapped_words.kp T.b_swapped_words .nil pass0 (pa_cons (pv 2) (pa_cons (pv 4) pa_nil)))) (pss_one (ps_if (pt_cmpR op_notN (pv 6) pe_non (nomark _)) (pss_one (ps_ret (pe_tup (pa_cons pe_str (pa_cons (pv 1) (pa_cons (pv 3) (kStar (K := K) (pv 6) pa_nil))))))) pss_nil))))))) (pss_one (ps_ret pe_non))), fun A ds hW ⟨ss, e, hn, hss⟩ => ?_⟩)
  subst e
  have fin : ∀ r, r = clashD (clashF ss) → ∀ ss', [screensD ss] = [screensD ss'] → r = clashD (clashF ss') := fun r e ss' e' => by
    injection e' with e1 _
    rw [e, screensD_inj e1]
  refine SS.le (sq_for (cN := 0) (c2 := 0) (ei_enum (ea_cons (ee_var (d := .list (ss.map scrD)) rfl) ea_nil)) fun ds e => ?_) (by decide)
  subst e
  refine ⟨fun i ρ' => ∃ (s1 s2 s3 s4 s5 s6 : SV), ρ' = [.im (screensD ss), s1, s2, s3, s4, s5, s6] ∧ ∀ j < i, ∀ q, ss.zipIdx[j]? = some q → rowF ss q.2 q.1 = none, 0, by omega, ⟨_, _, _, _, _, _, rfl, fun j hj => absurd hj (Nat.not_lt_zero _)⟩, ?_, ?_⟩
  · rintro i d ρ1 hd ⟨s1, s2, s3, s4, s5, s6, rfl, hp⟩
    obtain ⟨s, hsi, rfl⟩ := enum_get hd
    have hs := hss s (List.mem_of_getElem? hsi)
    refine ⟨_, tg_tup (tgs_cons tg_name (tgs_cons tg_name tgs_nil)) rfl, ?_⟩
    refine SS.le (c := 0 + 0) (ss_for (cN := 0) (ei_enum (ea_cons (ee_var (d := .list (ss.map scrD)) rfl) ea_nil)) fun ds e => ?_) (by decide)
    subst e
    refine ⟨fun k ρ' => ∃ (s3 s4 s5 s6 : SV), ρ' = [.im (screensD ss), .im (.int (i : Nat)), .im (scrD s), s3, s4, s5, s6] ∧ ∀ j < k, ∀ q, ss.zipIdx[j]? = some q → pairF i s q.2 q.1 = none, 0, by omega, ⟨_, _, _, _, rfl, fun j hj => absurd hj (Nat.not_lt_zero _)⟩, ?_, ?_⟩
    · rintro k d ρ1 hd2 ⟨s3, s4, s5, s6, rfl, hp2⟩
      obtain ⟨t, htk, rfl⟩ := enum_get hd2
      have ht := hss t (List.mem_of_getElem? htk)
      have found : ∀ d, pairF i s k t = some d → clashF ss = some d := fun d h => by
        refine find_some_at (get_idx2 hsi) hp ?_
        exact find_some_at (get_idx2 htk) hp2 h
      refine ⟨_, tg_tup (tgs_cons tg_name (tgs_cons tg_name tgs_nil)) rfl, ?_⟩
      refine SS.le (c := 0 + 0 + 0) (sq_for (cN := 0) (c2 := 0) (ei_list (ee_prt (i := 2) (d := .list (t.ys.map .str)) (ee_var (d := scrD t) rfl) ee_int.r rfl)) fun ds e => ?_) (by decide)
      subst e
      refine ⟨fun m ρ' => ∃ (s5 s6 : SV), ρ' = [.im (screensD ss), .im (.int (i : Nat)), .im (scrD s), .im (.int (k : Nat)), .im (scrD t), s5, s6] ∧ ∀ j < m, ∀ w, t.ys[j]? = some w → missS s w = false, 0, by omega, ⟨_, _, rfl, fun j hj => absurd hj (Nat.not_lt_zero _)⟩, ?_, ?_⟩
      · rintro m d ρ1 hd3 ⟨s5, s6, rfl, hp3⟩
        obtain ⟨w, rfl, hw⟩ := strs_get hd3
        refine ⟨_, tg_name, ?_⟩
        refine SS.le (c := 0 + 0) (ss_if (c2 := 0) (et_bool (ee_callf (e := .bool (missS s w)) (ea_cons (ee_var (d := scrD s) rfl) (ea_cons (ee_var (d := .str w) rfl) ea_nil)) ⟨s, w, rfl, hs⟩ fun r h => h s w rfl).r) (fun h => ?_) fun h => ss_next ⟨_, _, rfl, fun j hj w' hw' => ?_⟩) (by decide)
        · refine SS.le (ss_ret (ee_tup (ea_cons ee_str (ea_cons (ee_var (d := .int (i : Nat)) rfl) (ea_cons (ee_var (d := .int (k : Nat)) rfl) (ea_cons (ee_var (d := .str w) rfl) ea_nil))))) fun r e => fin r ?_) (by decide)
          rw [found (.tuple [.str "missing", .int (i : Nat), .int (k : Nat), .str w]) ?_]
          · exact e
          · unfold pairF
            rw [show t.ys.find? (missS s) = some w from find_at hw (fun j hj x hx => hp3 j hj x hx) h.symm]
        · by_cases hjm : j = m
          · rw [hjm, hw] at hw'
            cases hw'
            exact h.symm
          · exact hp3 j (by omega) w' hw'
      · rintro ρ1 ⟨s5, s6, rfl, hp3⟩
        have nomiss : t.ys.find? (missS s) = none := List.find?_eq_none.mpr fun x hx => by
          obtain ⟨j, hj⟩ := List.getElem?_of_mem hx
          rw [hp3 j (by rw [List.length_map]; exact (List.getElem?_eq_some_iff.mp hj).1) x hj]
          exact Bool.false_ne_true
        have pf : pairF i s k t = (swapS s t).map fun p => .tuple [.str "order", .int (i : Nat), .int (k : Nat), .str p.1, .str p.2] := by
          unfold pairF
          rw [nomiss]
        refine SS.le (c := 0 + 0) (sq_set (c2 := 0) (ee_callf (e := pairD (swapS s t)) (ea_cons (ee_var (d := scrD s) rfl) (ea_cons (ee_var (d := scrD t) rfl) ea_nil)) ⟨s, t, rfl, hs, ht⟩ fun r h => h s t rfl) fun d e => ?_) (by decide)
        subst e
        cases hw : swapS s t with
        | none =>
          rw [hw] at pf
          refine SS.le (c := 0 + 0 + 0) (ss_if (c2 := 0) (et_testB (ee_op (ee_var (d := .none) rfl).r ee_non.r od_notN).r) (fun h => by cases h) fun _ => ss_next ⟨_, _, _, _, rfl, fun j hj q hq => ?_⟩) (by decide)
          by_cases hjk : j = k
          · rw [hjk, get_idx2 htk] at hq
            cases hq
            exact pf
          · exact hp2 j (by omega) q hq
        | some p =>
          rw [hw] at pf
          refine SS.le (c := 0 + 0 + 0) (ss_if (c2 := 0) (et_testB (ee_op (ee_var (d := .tuple [.str p.1, .str p.2]) rfl).r ee_non.r od_notN).r) (fun _ => SS.le (ss_ret (ee_tup (ea_cons ee_str (ea_cons (ee_var (d := .int (i : Nat)) rfl) (ea_cons (ee_var (d := .int (k : Nat)) rfl) (ea_star (ds := [.str p.1, .str p.2]) (ee_var rfl) ea_nil)))) (by show 5 ≤ sizeLine; decide)) fun r e => fin r ?_) (by decide)) fun h => by cases h) (by decide)
          rw [found _ pf]
          exact e
    · rintro ρ1 ⟨s3, s4, s5, s6, rfl, hp2⟩
      refine ⟨_, _, _, _, _, _, rfl, fun j hj q hq => ?_⟩
      by_cases hji : j = i
      · rw [hji, get_idx2 hsi] at hq
        cases hq
        exact find_none_all fun k x hk => hp2 k (by rw [enum_len, List.length_map]; have := (List.getElem?_eq_some_iff.mp hk).1; rw [List.length_zipIdx] at this; exact this) x hk
      · exact hp j (by omega) q hq
  · rintro ρ1 ⟨s1, s2, s3, s4, s5, s6, rfl, hp⟩
    refine SS.le (ss_ret ee_non fun r e => fin r ?_) (by decide)
    have e2 : clashF ss = none := find_none_all fun i x hi => hp i (by rw [enum_len, List.length_map]; have := (List.getElem?_eq_some_iff.mp hi).1; rw [List.length_zipIdx] at this; exact this) x hi
    rw [e2]
    exact e
theorem ok_find_clash : FnOk P w K mg base CX0 7 T.a_find_clash T.d_find_clash ["screens"] (SPp (fun ds => ∃ ss, ds = [screensD ss] ∧ ss.length ≤ 20 ∧ ∀ s ∈ ss, ScrOk s) (fun ds r => ∀ ss, ds = [screensD ss] → r = clashD (clashF ss))) := by
  refine okp (c := 0) (m := 1) T.F_find_clash sc_find_clash (fun ds ⟨ss, e, _⟩ => by rw [e]; rfl) (Nat.zero_le _) (body := fun cdv A outer s H E hr => ⟨_, (pss_cons (ps_expr (pe_call (ok_check_screens T) (hr.mono (by decide)) (by rfl) T.m_check_screens T.F_check_screens.kp T.b_check_screens .nil pass0 (pa_cons (pv 0) pa_nil))) (pss_one (ps_ret (pe_call (ok_first_clash T) (hr.mono (by decide)) (by rfl) T.m_first_clash T.F_first_clash.kp T.b_first_clash .nil pass0 (pa_cons (pv 0) pa_nil))))), fun A ds hW ⟨ss, e, hn, hss⟩ => ?_⟩)
  subst e
  refine SS.le (sq_drop (ee_callg (ea_cons (ee_var (d := screensD ss) rfl) ea_nil) ⟨ss, rfl, hn, hss⟩).r (ss_ret (ee_callg (ea_cons (ee_var (d := screensD ss) rfl) ea_nil) ⟨ss, rfl, hn, hss⟩) fun r h => h)) (by decide)
theorem ok_put_before : FnOk P w K mg base CX0 1 T.a_put_before T.d_put_before ["screen", "word"] (SPp (fun ds => ∃ (s : Scr) (x : Str), ds = [scrD s, .str x] ∧ ScrOk s) (fun ds r => ∀ (s : Scr) (x : Str), ds = [scrD s, .str x] → r = strsD (aheadS s x))) := by
  refine okp (c := 0) (m := 2) T.F_put_before sc_put_before (fun ds ⟨s, x, e, _⟩ => by rw [e]; rfl) (Nat.zero_le _) (body := fun cdv A outer s H E hr => ⟨_, (pss_cons (ps_asg (pv 0) (kPgTup (K := K) rfl (pgs_cons (pg_name (i := 2) sc_put_before.nd rfl (by first | exact .inl rfl | exact .inr rfl)) (pgs_cons (pg_name (i := 3) sc_put_before.nd rfl (by first | exact .inl rfl | exact .inr rfl)) (pgs_cons (pg_name (i := 4) sc_put_before.nd rfl (by first | exact .inl rfl | exact .inr rfl)) pgs_nil))))) (pss_cons (ps_if (pt_not (pt_val (pe_m1 PySem.F.slot_str_startswith PySem.F.type_str_startswith mt_startswith (pv 1) (pv 2)))) (pss_one (ps_ret (pe_lst pa_nil))) pss_nil) (pss_one (ps_ret (pe_ifExp (pt_cmpR (kIn (K := K)) (pv 1) (pv 4) (by rfl)) (pe_slice (kSl (K := K)) (pv 4) po_none (po_some (kBm (K := K) PySem.F.plainAttrs_list PySem.F.slot_list_index PySem.F.type_list_index (kIndex (K := K)) (pv 4) (pa_cons (pv 1) pa_nil)))) (pe_callTy (kListOf (K := K)) (by rfl) T.z_list PyProof.Rows.boot_list (pa_cons (pv 4) pa_nil))))))), fun A ds hW ⟨s, x, e, hs⟩ => ?_⟩)
  subst e
  have fin : ∀ r : PyData, r = strsD (aheadS s x) → ∀ (s' : Scr) (x' : Str), [scrD s, PyData.str x] = [scrD s', PyData.str x'] → r = strsD (aheadS s' x') := fun r e s' x' e' => by
    injection e' with e1 e2
    injection e2 with e2 _
    injection e2 with e2
    rw [e, scrD_inj e1, e2]
  refine SS.le (c := 0 + 0) (sq_asg (c2 := 0) (ee_var (d := .tuple [.str s.b, .int (s.l : Nat), strsD s.ys]) rfl) fun d e => ?_) (by decide)
  subst e
  refine ⟨_, tg_tup (tgs_cons tg_name (tgs_cons tg_name (tgs_cons tg_name tgs_nil))) rfl, ?_⟩
  have vy : ∀ {ρ : List SV}, ρ[4]? = some (.im (strsD s.ys)) → EE A (tVar 4) ρ 0 (· = .list (s.ys.map .str)) := fun h => ee_var h
  refine SS.le (c := 0 + 0 + 0) (sq_if (c2 := 0) (c3 := 0) ((et_notB (et_bool (ee_starts (ee_var (d := .str x) rfl).r (ee_var (d := .str s.b) rfl)).r)).imp fun b e => by rw [startswith_pre] at e; exact e) (fun h => SS.le (ss_ret (ee_lst ea_nil) fun r e => fin r ?_) (by decide)) fun h => ss_next ?_) (by decide)
  · have hp : preS s.b x = false := by simpa using h.symm
    rw [e]
    unfold aheadS
    rw [hp]
    rfl
  · have hp : preS s.b x = true := by simpa using h.symm
    refine SS.le (ss_ret (R := (· = strsD (aheadS s x))) (ee_ifR (c2 := 0) ((et_testB (ee_op (ee_var (d := .str x) rfl).r (vy rfl).r (od_in rfl (flat_strs s.ys))).r).imp (R' := (· = decide (x ∈ s.ys))) fun b e => by rw [e, any_strs]; rfl) (fun hb => EE.le ((ee_tk (f := PyData.str) (vy rfl) (ee_index (ys := s.ys) (ee_var rfl) (ee_var rfl) (of_decide_eq_true hb.symm)).r).imp fun d e => ?_) (by decide)) fun hb => (ee_listOf (vy rfl)).imp fun d e => ?_) fun r e => fin r e) (by decide)
    · rw [e]
      unfold aheadS
      rw [if_pos hp, if_pos (of_decide_eq_true hb.symm)]
      rfl
    · rw [e]
      unfold aheadS
      rw [if_pos hp, if_neg (of_decide_eq_false hb.symm)]
      rfl
theorem ok_shown_words : FnOk P w K mg base CX0 1 T.a_shown_words T.d_shown_words ["screens"] (SPp (fun ds => ∃ ss, ds = [screensD ss] ∧ ss.length ≤ 200 ∧ ∀ s ∈ ss, ScrOk s) (fun ds r => ∀ ss, ds = [screensD ss] → r = strsD (knownS ss))) := by
  refine okp (c := 0) (m := 1) T.F_shown_words sc_shown_words (fun ds ⟨ss, e, _⟩ => by rw [e]; rfl) (Nat.zero_le _) (body := fun cdv A outer s H E hr => ⟨_, (pss_one (ps_ret (pe_callB (kSortSet rfl) (by rfl) T.z_sorted PyProof.Rows.boot_sorted (pa_cons (pe_sc2 (own := [("screen", 1), ("word", 2)]) (vs1 := [2]) (g := (gName 1)) (g1 := (gName 2)) (tt := tYes) (tt1 := tYes) rfl sc_shown_words.nd (kList (K := K) (pv 0)) (blkOk_by (own := [("screen", 1), ("word", 2)]) (N := N_shown_words) (sc := defScope s_shown_words) (by decide +kernel)) (by decide) (fun _ _ _ _ _ => (pg_name (i := 1) sc_shown_words.nd rfl (by first | exact .inl rfl | exact .inr rfl))) (fun _ _ _ _ _ => pts_nil) (fun _ _ _ _ _ => (kList (K := K) (pe_ix (kIx (K := K)) (pv 1) pe_int (fun _ _ => rfl)))) (fun _ _ _ _ _ => (pg_name (i := 2) sc_shown_words.nd rfl (by first | exact .inl rfl | exact .inr rfl))) (fun _ _ _ _ _ => pts_nil) (fun _ _ _ _ _ => (pv 2))) pa_nil)))), fun A ds hW ⟨ss, e, hn, hss⟩ => ?_⟩)
  subst e
  refine SS.le (ss_ret (ee_sortSet2 (ds := ss.map scrD) ysOf (ei_list (ee_var (d := .list (ss.map scrD)) rfl)) (by decide) (by rw [List.length_map]; exact hn) fun i d hd => ?_) fun r e ss' e' => ?_) (by decide)
  · rw [List.getElem?_map] at hd
    cases hs : ss[i]? with
    | none => rw [hs] at hd; cases hd
    | some s =>
      rw [hs] at hd
      cases hd
      have so := hss s (List.mem_of_getElem? hs)
      exact ⟨by rw [ysOf_scr]; exact Nat.le_trans so.n so.l2, _, tgw_name (by decide), (ei_list (ee_prt (i := 2) (d := .list (s.ys.map .str)) (ee_var (d := scrD s) rfl) ee_int.r rfl)).imp fun ds e => by rw [e, ysOf_scr], fun x hx => ⟨_, tgw_name (by decide), ee_var rfl⟩⟩
  · injection e' with e1 _
    rw [e, ← screensD_inj e1]
    unfold knownS
    rw [List.flatMap_map]
    have h : (fun s => ysOf (scrD s)) = Scr.ys := funext ysOf_scr
    rw [show (ss.flatMap fun s => ysOf (scrD s)) = ss.flatMap Scr.ys from by rw [h]]
theorem ok_check_known : FnOk P w K mg base CX0 1 T.a_check_known T.d_check_known ["known", "word"] (SPp (fun ds => ∃ (xs : List Str) (x : Str), ds = [strsD xs, .str x] ∧ x ∈ xs) (fun ds r => r = .none)) := by
  refine okp (c := 0) (m := 2) T.F_check_known sc_check_known (fun ds ⟨xs, x, e, _⟩ => by rw [e]; rfl) (Nat.zero_le _) (body := fun cdv A outer s H E hr => ⟨_, (pss_one (ps_if (PW.pt (pw_or (pt_not (pt_val (pe_callB (kIsi (K := K)) (by rfl) T.z_isinstance PyProof.Rows.boot_isinstance (pa_cons (pv 1) (pa_cons (pe_bltn (v := .ty "str") (by rfl) T.z_str PyProof.Rows.boot_str rfl) pa_nil))))) (pw_or1 (pt_cmpR (kNi (K := K)) (pv 1) (pv 0) (by rfl))))) (pss_one ps_never) pss_nil)), fun A ds hW ⟨xs, x, e, hx⟩ => ?_⟩)
  subst e
  refine SS.le (c := 0 + 0 + 0) (ss_if (c2 := 0) (et_or (a := false) (b := false) (c2 := 0) ((et_notB (et_bool (ee_isi (T := "str") (ee_var (d := .str x) rfl).r).r)).imp fun b e => by rw [e]; rfl) fun _ => ((et_testB (ee_op (ee_var (d := .str x) rfl).r (ee_var (d := .list (xs.map .str)) rfl).r (od_in rfl (flat_strs xs))).r).imp fun b e => by rw [e, any_strs, if_pos rfl, decide_eq_true hx]; rfl).le (by decide)) (fun h => by cases h) fun _ => ss_next rfl) (by decide)
theorem ok_check_no_clash : FnOk P w K mg base CX0 8 T.a_check_no_clash T.d_check_no_clash ["screens"] (SPp (fun ds => ∃ ss, ds = [screensD ss] ∧ ss.length ≤ 20 ∧ (∀ s ∈ ss, ScrOk s) ∧ clashF ss = none) (fun ds r => r = .none)) := by
  refine okp (c := 0) (m := 1) T.F_check_no_clash sc_check_no_clash (fun ds ⟨ss, e, _⟩ => by rw [e]; rfl) (Nat.zero_le _) (body := fun cdv A outer s H E hr => ⟨_, (pss_cons (ps_set (i := 1) sc_check_no_clash.nd rfl (by first | exact .inl rfl | exact .inr rfl) (pe_call (ok_find_clash T) (hr.mono (by decide)) (by rfl) T.m_find_clash T.F_find_clash.kp T.b_find_clash .nil pass0 (pa_cons (pv 0) pa_nil))) (pss_one (ps_if (pt_cmpR op_notN (pv 1) pe_non (nomark _)) (pss_one ps_never) pss_nil))), fun A ds hW ⟨ss, e, hn, hs, hc⟩ => ?_⟩)
  subst e
  refine SS.le (sq_set (c2 := 0) (ee_callf (e := .none) (ea_cons (ee_var (d := screensD ss) rfl) ea_nil) ⟨ss, rfl, hn, hs⟩ fun r h => by rw [h ss rfl, hc]; rfl) fun d e => ?_) (by decide)
  subst e
  exact SS.le (c := 0 + 0 + 0) (ss_if (c2 := 0) (et_testB (ee_op (ee_var (d := .none) rfl).r ee_non.r od_notN).r) (fun h => by cases h) fun _ => ss_next rfl) (by decide)
theorem ok_check_beginning : FnOk P w K mg base CX0 2 T.a_check_beginning T.d_check_beginning ["value"] (SPp (fun ds => ∃ x : Str, ds = [.str x] ∧ x.length ≤ 1000000 ∧ begS x = true) (fun ds r => r = .none)) := by
  refine okp (c := 0) (m := 1) T.F_check_beginning sc_check_beginning (fun ds ⟨x, e, _⟩ => by rw [e]; rfl) (Nat.zero_le _) (body := fun cdv A outer s H E hr => ⟨_, (pss_one (ps_if (pt_not (pt_val (pe_call (ok_valid_beginning T) (hr.mono (by decide)) (by rfl) T.m_valid_beginning T.F_valid_beginning.kp T.b_valid_beginning .nil pass0 (pa_cons (pv 0) pa_nil)))) (pss_one ps_never) pss_nil)), fun A ds hW ⟨x, e, hl, hb⟩ => ?_⟩)
  subst e
  refine SS.le (ss_if (c2 := 0) (et_notB (et_bool (ee_callf (e := .bool true) (ea_cons (ee_var rfl) ea_nil) ⟨_, rfl, fun y hy => by cases hy; exact hl⟩ fun r h => (h _ rfl).trans (congrArg PyData.bool hb)).r)) (fun h => ?_) fun _ => ss_next rfl) (by decide)
  cases h
include tb hcA
theorem ok_all_above : FnOk P w K mg base CX0 2 T.a_all_above T.d_all_above ["screens", "word"] (SPft (tabsOf PA "all_above") (fun ds => ∃ (ss : List Scr) (x : Str), ds = [screensD ss, .str x] ∧ ss.length ≤ 20 ∧ ∀ s ∈ ss, ScrOk s) (fun ds es => ∀ (ss : List Scr) (x : Str), ds = [screensD ss, .str x] → es = (aboveS ss x).map .str)) := by
  refine okft (c := 0) (m := 2) T.F_all_above sc_all_above (fun ds ⟨ss, x, e, _⟩ => by rw [e]; rfl) (Nat.zero_le _) (body := fun A outer s H E hr => ⟨_, (pss_cons (ps_set (i := 2) sc_all_above.nd rfl (by first | exact .inl rfl | exact .inr rfl) pe_dnewK) (pss_cons (ps_for PassesOwn.never rfl (kList (K := K) (kSortLen (K := K) (T := tabsOf PA "all_above") tb hcA hr T.z_sorted T.z_len rfl (pv 0))) (pg_name (i := 3) sc_all_above.nd rfl (by first | exact .inl rfl | exact .inr rfl)) (pss_one (ps_for PassesOwn.never rfl (kList (K := K) (pe_call (ok_put_before T) (hr.mono (by decide)) (by rfl) T.m_put_before T.F_put_before.kp T.b_put_before .nil pass0 (pa_cons (pv 3) (pa_cons (pv 1) pa_nil)))) (pg_name (i := 4) sc_all_above.nd rfl (by first | exact .inl rfl | exact .inr rfl)) (pss_one (ps_asg pe_bl (pg_sub (pv 2) (pv 4) (set_dict (units1 hr)))))))) (pss_one (ps_ret (pe_callTy (call_list_dK rfl) (by rfl) T.z_list PyProof.Rows.boot_list (pa_cons (pv 2) pa_nil)))))), fun A ds hW ⟨ss, x, e, hn, hs⟩ => ?_⟩)
  subst e
  have pm : (byLen ss).Perm ss := List.mergeSort_perm _ _
  have bn : (byLen ss).length ≤ 20 := by rw [pm.length_eq]; exact hn
  have bs : ∀ s ∈ byLen ss, ScrOk s := fun s h => hs s (pm.mem_iff.mp h)
  have al : ∀ s ∈ byLen ss, (aheadS s x).length ≤ 20 := fun s h => by
    have k := bs s h
    have h1 := k.n
    have h2 := k.l2
    unfold aheadS
    split
    · split
      · rw [List.length_take]; omega
      · omega
    · exact Nat.zero_le _
  let R : Nat → List Str := fun i => ((byLen ss).take i).flatMap fun s => aheadS s x
  have Rl : ∀ i, (R i).length ≤ 400 := fun i => by
    have h1 := flatMap_le (f := fun s => aheadS s x) (k := 20) (l := (byLen ss).take i) fun s h => al s (List.mem_of_mem_take h)
    have h2 : ((byLen ss).take i).length ≤ 20 := by rw [List.length_take]; omega
    have h3 := Nat.mul_le_mul_right 20 h2
    show (List.flatMap _ _).length ≤ 400
    omega
  have fin : ∀ r : List PyData, r = (aboveS ss x).map .str → ∀ (ss' : List Scr) (x' : Str), [screensD ss, PyData.str x] = [screensD ss', PyData.str x'] → r = (aboveS ss' x').map .str := fun r e ss' x' e' => by
    injection e' with e1 e2
    injection e2 with e2 _
    injection e2 with e2
    rw [e, screensD_inj e1, e2]
  refine SS.le (c := 0) (sq_newD fun p => ?_) (by decide)
  refine SS.le (c := 0 + 0 + 0) (sq_for (cN := 0) (c2 := 0) (ei_list (ee_sortLen (T := tabsOf PA "all_above") hW (List.mem_singleton.mpr rfl) (ee_var (d := screensD ss) rfl) hs (by omega))) fun ds e => ?_) (by decide)
  subst e
  refine ⟨fun i ρ' => ∃ (s3 s4 : SV), ρ' = [.im (screensD ss), .im (.str x), .dct p (kdOf ((R i).foldl addK [])), s3, s4], 0, by omega, ⟨_, _, rfl⟩, ?_, ?_⟩
  · rintro i d ρ1 hd ⟨s3, s4, rfl⟩
    obtain ⟨s, hsi, rfl⟩ := map_get hd
    have sm := List.mem_of_getElem? hsi
    refine ⟨_, tg_name, ?_⟩
    refine SS.le (c := 0 + 0) (ss_for (cN := 0) (ei_list (ee_callf (c := 0) (e := strsD (aheadS s x)) (ea_cons (c1 := 0) (c2 := 0) (ee_var (d := scrD s) rfl) (ea_cons (c1 := 0) (c2 := 0) (ee_var (d := .str x) rfl) ea_nil)) ⟨s, x, rfl, bs s sm⟩ fun r h => h s x rfl)) fun ds e => ?_) (by decide)
    subst e
    refine ⟨fun k ρ' => ∃ (s4 : SV), ρ' = [.im (screensD ss), .im (.str x), .dct p (kdOf ((R i ++ (aheadS s x).take k).foldl addK [])), .im (scrD s), s4], 0, by omega, ⟨_, by rw [List.take_zero, List.append_nil]; rfl⟩, ?_, ?_⟩
    · rintro k d ρ1 hd2 ⟨s4, rfl⟩
      obtain ⟨y, rfl, hy⟩ := strs_get hd2
      refine ⟨_, tg_name, ?_⟩
      refine SS.le (c := 0) (ss_dput (p := p) (kd := kdOf ((R i ++ (aheadS s x).take k).foldl addK [])) (x := y) (d := .bool true) rfl rfl ee_bl (by
        have h1 := addK_len (R i ++ (aheadS s x).take k) []
        have h2 := Rl i
        have h3 := al s sm
        rw [List.length_append, List.length_take] at h1
        unfold kdOf
        rw [List.length_map]
        simp only [List.length_nil] at h1
        omega) ⟨.im (.str y), ?_⟩) (by decide)
      rw [put_kd]
      have e5 : addK ((R i ++ (aheadS s x).take k).foldl addK []) y = (R i ++ (aheadS s x).take (k + 1)).foldl addK [] := by
        rw [List.take_add_one, hy, ← List.append_assoc, List.foldl_append (l' := (some y).toList)]
        rfl
      rw [e5]
      rfl
    · rintro ρ1 ⟨s4, rfl⟩
      have e6 : R (i + 1) = R i ++ aheadS s x := by
        show (List.flatMap _ _) = List.flatMap _ _ ++ _
        rw [List.take_add_one, hsi, List.flatMap_append]
        show _ ++ ([s].flatMap _) = _
        rw [List.flatMap_singleton]
      rw [List.length_map, List.take_length, ← e6]
      exact ⟨_, _, rfl⟩
  · rintro ρ1 ⟨s3, s4, rfl⟩
    rw [List.length_map]
    have e7 : (R (byLen ss).length).foldl addK [] = aboveS ss x := by
      show (List.flatMap _ _).foldl addK [] = _
      rw [List.take_length]
      rfl
    rw [e7]
    refine ss_freezeD (i := 2) (p := p) rfl (SS.le (c := 0) (ss_retF (ef_listD (ee_var (d := .dict (kdOf (aboveS ss x))) rfl)) fun r e => fin r ?_) (by decide))
    rw [e, kd_keys]
omit tb hcA
theorem ok_all_below : FnOk P w K mg base CX0 2 T.a_all_below T.d_all_below ["screens", "word"] (SPf (fun ds => ∃ (ss : List Scr) (x : Str), ds = [screensD ss, .str x] ∧ ss.length ≤ 20 ∧ ∀ s ∈ ss, ScrOk s) (fun ds es => ∀ (ss : List Scr) (x : Str), ds = [screensD ss, .str x] → es = (belowS ss x).map .str)) := by
  refine okf (c := 0) (m := 2) T.F_all_below sc_all_below (fun ds ⟨ss, x, e, _⟩ => by rw [e]; rfl) (Nat.zero_le _) (body := fun cdv A outer s H E hr => ⟨_, (pss_one (ps_ret (pe_lc (own := [("other", 2)]) (g := (gName 2))  rfl sc_all_below.nd (kList (K := K) (pe_call (ok_shown_words T) (hr.mono (by decide)) (by rfl) T.m_shown_words T.F_shown_words.kp T.b_shown_words .nil pass0 (pa_cons (pv 0) pa_nil))) (blkOk_by (own := [("other", 2)]) (N := N_all_below) (sc := defScope s_all_below) (by decide +kernel)) (fun _ _ _ _ _ => (pg_name (i := 2) sc_all_below.nd rfl (by first | exact .inl rfl | exact .inr rfl))) (fun _ _ _ _ _ => pts_one (pt_val (pe_callB (kAny (K := K) rfl) (by rfl) T.z_any PyProof.Rows.boot_any (pa_cons (pe_lc (own := [("screen", 3)]) (g := (gName 3)) (tt := tYes)  rfl sc_all_below.nd (kList (K := K) (pv 0)) (blkOk_by (own := [("screen", 3)]) (N := N_all_below) (sc := ({ kind := .function, names := [(".0", .local), ("other", .cell), ("any", .globalImplicit), ("screens", .cell), ("word", .cell)], isGenerator := false, isCoroutine := false } : Scope)) (by decide +kernel)) (fun _ _ _ _ _ => (pg_name (i := 3) sc_all_below.nd rfl (by first | exact .inl rfl | exact .inr rfl))) (fun _ _ _ _ _ => pts_nil) (fun _ _ _ _ _ => (pe_cmpR (kIn (K := K)) (pv 1) (pe_call (ok_put_before T) (hr.mono (by decide)) (by rfl) T.m_put_before T.F_put_before.kp T.b_put_before .nil pass0 (pa_cons (pv 3) (pa_cons (pv 2) pa_nil))) (by rfl)))) pa_nil)))) (fun _ _ _ _ _ => (pv 2))))), fun A ds hW ⟨ss, x, e, hn, hs⟩ => ?_⟩)
  subst e
  refine SS.le (c := 0) (ss_retF (ef_fil (fun d => ss.any fun s => putsS s x (strOf d)) (fun d => d) (ei_list (ee_callf (c := 0) (e := strsD (knownS ss)) (ea_cons (c1 := 0) (c2 := 0) (ee_var (d := screensD ss) rfl) ea_nil) ⟨ss, rfl, by omega, hs⟩ fun r h => h ss rfl)) (by rw [List.length_map]; have := known_len hs; omega) fun i d hd => ?t) fun es e ss' x' e' => ?_) (by decide)
  case t =>
    obtain ⟨y, rfl, hy⟩ := strs_get hd
    refine ⟨_, tgw_name (by decide), (et_bool ((ee_cb (ds := [.list ((ss.map fun s => putsS s x y).map .bool)]) (ear_cons (c1 := 0) (c2 := 0) ((ee_map (fun d => .bool (decide (x ∈ aheadS (scrOf d) y))) (ei_list (ee_var (d := .list (ss.map scrD)) rfl)) (by rw [List.length_map]; omega) fun k d hd2 => ?u).imp fun r e => ?v).r ear_nil) cld_any).imp fun r e => ?w).r).imp fun t e => e, fun _ => ee_var rfl⟩
    case u =>
      obtain ⟨s, hs2, rfl⟩ := map_get hd2
      refine ⟨_, tgw_name (by decide), (ee_op (c1 := 0) (c2 := 0) (ee_var (d := .str x) rfl).r (ee_callf (c := 0) (e := strsD (aheadS s y)) (ea_cons (c1 := 0) (c2 := 0) (ee_var (d := scrD s) rfl) (ea_cons (c1 := 0) (c2 := 0) (ee_var (d := .str y) rfl) ea_nil)) ⟨s, y, rfl, hs s (List.mem_of_getElem? hs2)⟩ fun r h => h s y rfl).r (od_in rfl (flat_strs _))).imp fun r e => ?_⟩
      rw [e, any_strs, scrOf_scr]
      rfl
    case v =>
      rw [e, List.map_map, List.map_map]
      refine congrArg PyData.list (List.map_congr_left fun s hm => ?_)
      show PyData.bool (decide (x ∈ aheadS (scrOf (scrD s)) y)) = .bool (putsS s x y)
      rw [scrOf_scr]
      refine congrArg PyData.bool ?_
      cases h : putsS s x y with
      | true => exact decide_eq_true ((aheadS_puts (hs s hm) x y).mpr h)
      | false => exact decide_eq_false fun z => by rw [(aheadS_puts (hs s hm) x y).mp z] at h; cases h
    case w =>
      rw [e, List.any_map]
      rfl
  · injection e' with e1 e2
    injection e2 with e2 _
    injection e2 with e2
    rw [e, ← screensD_inj e1, ← e2]
    unfold belowS
    generalize knownS ss = l
    induction l with
    | nil => rfl
    | cons y l ih =>
      rw [List.map_cons, List.filter_cons, List.filter_cons]
      show List.map _ (if (ss.any fun s => putsS s x y) = true then _ else _) = _
      split
      · rw [List.map_cons, List.map_cons, ih]
      · exact ih
theorem ok_matching : FnOk P w K mg base CX0 1 T.a_matching T.d_matching ["words", "beginning"] (SPp (fun ds => ∃ (xs : List Str) (b : Str), ds = [strsD xs, .str b] ∧ xs.length < 4000) (fun ds r => ∀ (xs : List Str) (b : Str), ds = [strsD xs, .str b] → r = strsD (xs.filter (preS b)))) := by
  refine okp (c := 0) (m := 2) T.F_matching sc_matching (fun ds ⟨xs, b, e, _⟩ => by rw [e]; rfl) (Nat.zero_le _) (body := fun cdv A outer s H E hr => ⟨_, (pss_one (ps_ret (pe_lc (own := [("word", 2)]) (g := (gName 2))  rfl sc_matching.nd (kList (K := K) (pv 0)) (blkOk_by (own := [("word", 2)]) (N := N_matching) (sc := defScope s_matching) (by decide +kernel)) (fun _ _ _ _ _ => (pg_name (i := 2) sc_matching.nd rfl (by first | exact .inl rfl | exact .inr rfl))) (fun _ _ _ _ _ => pts_one (pt_val (pe_m1 PySem.F.slot_str_startswith PySem.F.type_str_startswith mt_startswith (pv 2) (pv 1)))) (fun _ _ _ _ _ => (pv 2))))), fun A ds hW ⟨xs, b, e, hl⟩ => ?_⟩)
  subst e
  refine SS.le (c := 0 + 0) (ss_ret (R := (· = strsD (xs.filter (preS b)))) ((ee_fil (fun d => preS b (strOf d)) (fun d => d) (ei_list (ee_var (d := .list (xs.map .str)) rfl)) (by rw [List.length_map]; omega) fun i e he => ?_).imp fun r e => ?_) fun r e xs' b' e' => ?_) (by decide)
  · obtain ⟨x, rfl, hi⟩ := strs_get he
    exact ⟨_, tgw_name (List.mem_singleton.mpr rfl), (et_bool (ee_starts (ee_var rfl).r (ee_var rfl)).r).imp fun r e => by rw [e]; exact startswith_pre x b, fun _ => ee_var rfl⟩
  · rw [e, fil_strsP (preS b) xs]
    rfl
  · injection e' with e1 e2
    injection e2 with e2 _
    injection e2 with e2
    rw [e, strsD_inj e1, e2]
theorem ok_has_one_place : FnOk P w K mg base CX0 1 T.a_has_one_place T.d_has_one_place ["screens", "beginning", "word"] (SPp (fun ds => ∃ (ss : List Scr) (b x : Str), ds = [screensD ss, .str b, .str x] ∧ ss.length ≤ 20) (fun ds r => ∀ (ss : List Scr) (b x : Str), ds = [screensD ss, .str b, .str x] → r = .bool (oneB ss b x))) := by
  refine okp (c := 0) (m := 3) T.F_has_one_place sc_has_one_place (fun ds ⟨ss, b, x, e, _⟩ => by rw [e]; rfl) (Nat.zero_le _) (body := fun cdv A outer s H E hr => ⟨_, (pss_one (ps_ret (pe_callB (kAny (K := K) rfl) (by rfl) T.z_any PyProof.Rows.boot_any (pa_cons (pe_lc (own := [("own_beginning", 3), ("_", 4), ("shown", 5)]) (g := (gTup K 3 (gCons (gName 3) (gCons (gName 4) (gCons (gName 5) gNil))))) (tt := tYes)  rfl sc_has_one_place.nd (kList (K := K) (pv 0)) (blkOk_by (own := [("own_beginning", 3), ("_", 4), ("shown", 5)]) (N := N_has_one_place) (sc := defScope s_has_one_place) (by decide +kernel)) (fun _ _ _ _ _ => (kPgTup (K := K) rfl (pgs_cons (pg_name (i := 3) sc_has_one_place.nd rfl (by first | exact .inl rfl | exact .inr rfl)) (pgs_cons (pg_name (i := 4) sc_has_one_place.nd rfl (by first | exact .inl rfl | exact .inr rfl)) (pgs_cons (pg_name (i := 5) sc_has_one_place.nd rfl (by first | exact .inl rfl | exact .inr rfl)) pgs_nil))))) (fun _ _ _ _ _ => pts_nil) (fun _ _ _ _ _ => (pe_and (pe_cmpR (kIn (K := K)) (pv 2) (pv 5) (by rfl)) (pe_one (pe_m1 PySem.F.slot_str_startswith PySem.F.type_str_startswith mt_startswith (pv 1) (pv 3)))))) pa_nil)))), fun A ds hW ⟨ss, b, x, e, hn⟩ => ?_⟩)
  subst e
  refine SS.le (c := 0 + 0) (ss_ret (R := (· = .bool (oneB ss b x))) ((ee_cb (ds := [.list ((ss.map fun s => decide (x ∈ s.ys) && preS s.b b).map .bool)]) (ear_cons (c1 := 0) (c2 := 0) ((ee_map (fun d => .bool (decide (x ∈ (scrOf d).ys) && preS (scrOf d).b b)) (ei_list (ee_var (d := .list (ss.map scrD)) rfl)) (by rw [List.length_map]; omega) fun k d hd => ?u).imp fun r e => ?v).r ear_nil) cld_any).imp fun r e => ?w) fun r e ss' b' x' e' => ?_) (by decide)
  case u =>
    obtain ⟨s, hs2, rfl⟩ := map_get hd
    refine ⟨_, tgw_tup (ds := [.str s.b, .int (s.l : Nat), strsD s.ys]) (tgsw_name (by decide) (tgsw_name (by decide) (tgsw_name (by decide) tgsw_nil))) rfl, EE.imp (EE.le (c := 0 + 0 + 0) (ee_andV (a := decide (x ∈ s.ys)) (b := preS s.b b) ((ee_op (c1 := 0) (c2 := 0) (ee_var (d := .str x) rfl).r (ee_var (d := .list (s.ys.map .str)) rfl).r (od_in rfl (flat_strs _))).imp fun d e => by rw [e, any_strs]; rfl).r fun _ => (ee_starts (c1 := 0) (c2 := 0) (ee_var (d := .str b) rfl).r (ee_var (d := .str s.b) rfl)).imp fun d e => by rw [e, startswith_pre]) (by decide)) fun d e => by rw [e, scrOf_scr]⟩
  case v =>
    rw [e, List.map_map, List.map_map]
    exact congrArg PyData.list (List.map_congr_left fun s _ => by show PyData.bool (decide (x ∈ (scrOf (scrD s)).ys) && preS (scrOf (scrD s)).b b) = _; rw [scrOf_scr]; rfl)
  case w =>
    rw [e, List.any_map]
    rfl
  injection e' with e1 e2
  injection e2 with e2 e3
  injection e3 with e3 _
  injection e2 with e2
  injection e3 with e3
  rw [e, screensD_inj e1, e2, e3]
include tb hcA
theorem ok_least_place : FnOk P w K mg base CX0 3 T.a_least_place T.d_least_place ["screens", "beginning", "word"] (SPt (tabsOf PA "all_above") (fun ds => ∃ (ss : List Scr) (b x : Str), ds = [screensD ss, .str b, .str x] ∧ ss.length ≤ 20 ∧ ∀ s ∈ ss, ScrOk s) (fun ds r => ∀ (ss : List Scr) (b x : Str), ds = [screensD ss, .str b, .str x] → r = .int (cntB ss x b : Nat))) := by
  refine okt (c := 0) (m := 3) T.F_least_place sc_least_place (fun ds ⟨ss, b, x, e, _⟩ => by rw [e]; rfl) (Nat.zero_le _) (body := fun A outer s H E hr => ⟨_, (pss_one (ps_ret (pe_callB (kLen (K := K)) (by rfl) T.z_len PySem.boot_len (pa_cons (pe_call (ok_matching T) (hr.mono (by decide)) (by rfl) T.m_matching T.F_matching.kp T.b_matching .nil pass0 (pa_cons (pe_call (ok_all_above T tb hcA) (hr.mono (by decide)) (by rfl) T.m_all_above T.F_all_above.kp T.b_all_above .nil pass0 (pa_cons (pv 0) (pa_cons (pv 2) pa_nil))) (pa_cons (pv 1) pa_nil))) pa_nil)))), fun A ds hW ⟨ss, b, x, e, hn, hs⟩ => ?_⟩)
  subst e
  have al : (aboveS ss x).length ≤ 400 := by rw [← (tab_above hs x).length_eq]; exact Nat.le_trans (tab_len hs x) (by omega)
  refine SS.le (c := 0) (ss_ret (ee_cb (ear_cons (c1 := 0) (c2 := 0) (ee_callf (c := 0) (e := strsD ((aboveS ss x).filter (preS b))) (ea_cons (c1 := 0) (c2 := 0) (ef_eq (es := (aboveS ss x).map .str) (ef_callt hW (ea_cons (c1 := 0) (c2 := 0) (ee_var (d := screensD ss) rfl) (ea_cons (c1 := 0) (c2 := 0) (ee_var (d := .str x) rfl) ea_nil)) ⟨ss, x, rfl, hn, hs⟩) fun es h => h ss x rfl) (ea_cons (c1 := 0) (c2 := 0) (ee_var (d := .str b) rfl) ea_nil)) ⟨aboveS ss x, b, rfl, by omega⟩ fun r h => h (aboveS ss x) b rfl).r ear_nil) (cld_lenL.toLen ((List.length_map _).trans (cnt_above hs x b)))) fun r e ss' b' x' e' => ?_) (by decide)
  injection e' with e1 e2
  injection e2 with e2 e3
  injection e3 with e3 _
  injection e2 with e2
  injection e3 with e3
  rw [e, screensD_inj e1, e2, e3]
theorem ok_place_range : FnOk P w K mg base CX0 9 T.a_place_range T.d_place_range ["screens", "beginning", "word", "only_known"] (SPt (tabsOf PA "all_above") (fun ds => ∃ (ss : List Scr) (b x : Str) (o : Bool), ds = [screensD ss, .str b, .str x, .bool o] ∧ ss.length ≤ 20 ∧ (∀ s ∈ ss, ScrOk s) ∧ clashF ss = none ∧ x ∈ knownS ss ∧ b.length ≤ 1000000 ∧ begS b = true ∧ preS b x = true) (fun ds r => ∀ (ss : List Scr) (b x : Str) (o : Bool), ds = [screensD ss, .str b, .str x, .bool o] → r = rangeD ss b x o)) := by
  refine okt (c := 0) (m := 4) T.F_place_range sc_place_range (fun ds ⟨ss, b, x, o, e, _⟩ => by rw [e]; rfl) (Nat.zero_le _) (body := fun A outer s H E hr => ⟨_, (pss_cons (ps_expr (pe_call (ok_check_no_clash T) (hr.mono (by decide)) (by rfl) T.m_check_no_clash T.F_check_no_clash.kp T.b_check_no_clash .nil pass0 (pa_cons (pv 0) pa_nil))) (pss_cons (ps_expr (pe_call (ok_check_beginning T) (hr.mono (by decide)) (by rfl) T.m_check_beginning T.F_check_beginning.kp T.b_check_beginning .nil pass0 (pa_cons (pv 1) pa_nil))) (pss_cons (ps_expr (pe_call (ok_check_known T) (hr.mono (by decide)) (by rfl) T.m_check_known T.F_check_known.kp T.b_check_known .nil pass0 (pa_cons (pe_call (ok_shown_words T) (hr.mono (by decide)) (by rfl) T.m_shown_words T.F_shown_words.kp T.b_shown_words .nil pass0 (pa_cons (pv 0) pa_nil)) (pa_cons (pv 2) pa_nil)))) (pss_cons (ps_if (pt_not (pt_val (pe_m1 PySem.F.slot_str_startswith PySem.F.type_str_startswith mt_startswith (pv 2) (pv 1)))) (pss_one ps_never) pss_nil) (pss_cons (ps_set (i := 4) sc_place_range.nd rfl (by first | exact .inl rfl | exact .inr rfl) (pe_call (ok_least_place T tb hcA) (hr.mono (by decide)) (by rfl) T.m_least_place T.F_least_place.kp T.b_least_place .nil pass0 (pa_cons (pv 0) (pa_cons (pv 1) (pa_cons (pv 2) pa_nil))))) (pss_cons (ps_if (pt_val (pv 3)) (pss_cons (ps_set (i := 5) sc_place_range.nd rfl (by first | exact .inl rfl | exact .inr rfl) (pe_call (ok_matching T) (hr.mono (by decide)) (by rfl) T.m_matching T.F_matching.kp T.b_matching .nil pass0 (pa_cons (pe_call (ok_all_below T) (hr.mono (by decide)) (by rfl) T.m_all_below T.F_all_below.kp T.b_all_below .nil pass0 (pa_cons (pv 0) (pa_cons (pv 2) pa_nil))) (pa_cons (pv 1) pa_nil)))) (pss_one (ps_ret (pe_tup (pa_cons (pv 4) (pa_cons (pe_op op_sub (pe_op op_sub (pe_callB (kLen (K := K)) (by rfl) T.z_len PySem.boot_len (pa_cons (pe_call (ok_matching T) (hr.mono (by decide)) (by rfl) T.m_matching T.F_matching.kp T.b_matching .nil pass0 (pa_cons (pe_call (ok_shown_words T) (hr.mono (by decide)) (by rfl) T.m_shown_words T.F_shown_words.kp T.b_shown_words .nil pass0 (pa_cons (pv 0) pa_nil)) (pa_cons (pv 1) pa_nil))) pa_nil)) pe_int) (pe_callB (kLen (K := K)) (by rfl) T.z_len PySem.boot_len (pa_cons (pv 5) pa_nil))) pa_nil)))))) pss_nil) (pss_one (ps_ret (pe_tup (pa_cons (pv 4) (pa_cons (pe_ifExp (pt_val (pe_call (ok_has_one_place T) (hr.mono (by decide)) (by rfl) T.m_has_one_place T.F_has_one_place.kp T.b_has_one_place .nil pass0 (pa_cons (pv 0) (pa_cons (pv 1) (pa_cons (pv 2) pa_nil))))) (pv 4) pe_non) pa_nil))))))))))), fun A ds hW ⟨ss, b, x, o, e, hn, hs, hc, hx, bl, bb, hp⟩ => ?_⟩)
  subst e
  have fin : ∀ r : PyData, r = rangeD ss b x o → ∀ (ss' : List Scr) (b' x' : Str) (o' : Bool), [screensD ss, PyData.str b, .str x, .bool o] = [screensD ss', .str b', .str x', .bool o'] → r = rangeD ss' b' x' o' := fun r e ss' b' x' o' e' => by
    injection e' with e1 e2
    injection e2 with e2 e3
    injection e3 with e3 e4
    injection e4 with e4 _
    injection e2 with e2
    injection e3 with e3
    injection e4 with e4
    rw [e, screensD_inj e1, e2, e3, e4]
  have kl : (knownS ss).length ≤ 400 := by have := known_len hs; omega
  have bel : (belowS ss x).length ≤ 400 := Nat.le_trans (List.length_filter_le _ _) kl
  refine SS.le (sq_drop (c2 := 0) (ee_callg (ea_cons (ee_var (d := screensD ss) rfl) ea_nil) ⟨ss, rfl, hn, hs, hc⟩).r ?_) (by decide)
  refine SS.le (c := 0 + 0) (sq_drop (c2 := 0) (ee_callg (c := 0) (ea_cons (c1 := 0) (c2 := 0) (ee_var (d := .str b) rfl) ea_nil) ⟨b, rfl, bl, bb⟩).r ?_) (by decide)
  refine SS.le (c := 0 + 0) (sq_drop (c2 := 0) (ee_callg (c := 0) (ds0 := [strsD (knownS ss), .str x]) (ea_cons (c1 := 0) (c2 := 0) (ee_callf (e := strsD (knownS ss)) (ea_cons (ee_var (d := screensD ss) rfl) ea_nil) ⟨ss, rfl, by omega, hs⟩ fun r h => h ss rfl) (ea_cons (c1 := 0) (c2 := 0) (ee_var (d := .str x) rfl) ea_nil)) ⟨knownS ss, x, rfl, hx⟩).r ?_) (by decide)
  refine SS.le (c := 0 + 0 + 0) (sq_if (c1 := 0) (c2 := 0) (c3 := 0) ((et_notB (et_bool (ee_starts (c1 := 0) (c2 := 0) (ee_var (d := .str x) rfl).r (ee_var (d := .str b) rfl)).r)).imp (R' := (· = false)) fun t e => by rw [e, startswith_pre, hp]; rfl) (fun h => by cases h) fun _ => ss_next ?_) (by decide)
  refine SS.le (c := 0 + 0) (sq_set (c2 := 0) (R := (· = .int (cntB ss x b : Nat))) (ee_calltf (c := 0) hW (ea_cons (c1 := 0) (c2 := 0) (ee_var (d := screensD ss) rfl) (ea_cons (c1 := 0) (c2 := 0) (ee_var (d := .str b) rfl) (ea_cons (c1 := 0) (c2 := 0) (ee_var (d := .str x) rfl) ea_nil))) ⟨ss, b, x, rfl, hn, hs⟩ fun r h => h ss b x rfl) fun d e => ?_) (by decide)
  subst e
  have two : 2 ≤ sizeLine := by have := sizeLine_eq; omega
  refine SS.le (c := 0 + 0 + 0) (sq_if (c1 := 0) (c2 := 0) (c3 := 0) (et_bool (ee_var (d := .bool o) rfl).r) (fun ho => ?_) fun ho => ss_next ?_) (by decide)
  · refine SS.le (c := 0 + 0) (sq_set (c2 := 0) (R := (· = strsD ((belowS ss x).filter (preS b)))) (ee_callf (c := 0) (ea_cons (c1 := 0) (c2 := 0) (ef_eq (es := (belowS ss x).map .str) (ef_call (ea_cons (c1 := 0) (c2 := 0) (ee_var (d := screensD ss) rfl) (ea_cons (c1 := 0) (c2 := 0) (ee_var (d := .str x) rfl) ea_nil)) ⟨ss, x, rfl, hn, hs⟩) fun es h => h ss x rfl) (ea_cons (c1 := 0) (c2 := 0) (ee_var (d := .str b) rfl) ea_nil)) ⟨belowS ss x, b, rfl, by omega⟩ fun r h => h (belowS ss x) b rfl) fun d e => ?_) (by decide)
    subst e
    refine SS.le (c := 0) (ss_ret (R := (· = .tuple [.int (cntB ss x b : Nat), .int (mostB ss x b : Nat)])) (ee_tup (ea_cons (c1 := 0) (c2 := 0) (ee_var rfl) (ea_cons (c1 := 0) (c2 := 0) (EE.imp (EE.le (c := 0 + 0 + 0) (ee_op (ee_op (c1 := 0) (c2 := 0) (ee_cb (c := 0) (ds := [.list (((knownS ss).filter (preS b)).map .str)]) (ear_cons (c1 := 0) (c2 := 0) (ee_callf (c := 0) (ea_cons (c1 := 0) (c2 := 0) (ee_callf (c := 0) (e := strsD (knownS ss)) (ea_cons (c1 := 0) (c2 := 0) (ee_var (d := screensD ss) rfl) ea_nil) ⟨ss, rfl, by omega, hs⟩ fun r h => h ss rfl) (ea_cons (c1 := 0) (c2 := 0) (ee_var (d := .str b) rfl) ea_nil)) ⟨knownS ss, b, rfl, by omega⟩ fun r h => h (knownS ss) b rfl).r ear_nil) (cld_lenL.toLen (List.length_map _))).r ee_int.r od_subI).r (ee_cb (c := 0) (ds := [.list (((belowS ss x).filter (preS b)).map .str)]) (ear_cons (c1 := 0) (c2 := 0) (ee_var rfl).r ear_nil) (cld_lenL.toLen (List.length_map _))).r od_subI) (by decide)) fun d e => by rw [e, most_int hx hp]) ea_nil)) two) fun r e => fin r ?_) (by decide)
    rw [e]
    unfold rangeD
    rw [← ho]
    rfl
  · refine SS.le (c := 0) (ss_ret (R := (· = .tuple [.int (cntB ss x b : Nat), if oneB ss b x = true then .int (cntB ss x b : Nat) else .none])) (ee_tup (ea_cons (c1 := 0) (c2 := 0) (ee_var rfl) (ea_cons (c1 := 0) (c2 := 0) (EE.le (c := 0 + 0) (ee_ifR (c1 := 0) (c2 := 0) (et_bool (ee_callf (c := 0) (e := .bool (oneB ss b x)) (ea_cons (c1 := 0) (c2 := 0) (ee_var (d := screensD ss) rfl) (ea_cons (c1 := 0) (c2 := 0) (ee_var (d := .str b) rfl) (ea_cons (c1 := 0) (c2 := 0) (ee_var (d := .str x) rfl) ea_nil))) ⟨ss, b, x, rfl, hn⟩ fun r h => h ss b x rfl).r) (fun h => (ee_var (d := .int (cntB ss x b : Nat)) rfl).imp fun d e => by rw [e, if_pos h.symm]) fun h => ee_non.imp fun d e => by rw [e, if_neg (by rw [← h]; exact Bool.noConfusion)]) (by decide)) ea_nil)) two) fun r e => fin r ?_) (by decide)
    rw [e]
    unfold rangeD
    rw [← ho]
    rfl
omit tb hcA
theorem ok_law_terms : FnOk P w K mg base CX0 2 T.a_law_terms T.d_law_terms ["jar", "most", "signs", "longest"] (SPj 8000 (fun ds => ∃ (k : Int) (L : Str) (m : Int), ds = [.int k, .str L, .int m] ∧ 0 ≤ k ∧ k ≤ 1000 ∧ 1 ≤ L.length ∧ L.length ≤ 1000 ∧ m ≤ 30 ∧ begS L = true) (fun ds r => ∀ (k : Int) (L : Str) (m : Int), ds = [.int k, .str L, .int m] → ∃ xs : List Str, r = strsD xs ∧ (xs.length : Int) ≤ k ∧ BkOk 1000 xs ∧ ∀ x ∈ xs, OfL L x)) := by
  refine okj (cst := 8000) (m := 3) T.F_law_terms sc_law_terms (fun ds ⟨k, L, m, e, _⟩ => by rw [e]; rfl) (body := fun cdv A outer s H E hr => ⟨_, (pss_cons (ps_set (i := 4) sc_law_terms.nd rfl (by first | exact .inl rfl | exact .inr rfl) (pe_lst pa_nil)) (pss_cons (ps_for PassesOwn.never rfl (pi_range1 (by rfl) T.z_range (pa_cons (pe_call (ok_law_dip T) (hr.mono (by decide)) (by rfl) T.m_law_dip T.F_law_dip.kp T.b_law_dip .nil pass0 (pa_cons (pv 0) (pa_cons (pe_op op_addA (pv 1) pe_int) pa_nil))) pa_nil)) (pg_name (i := 5) sc_law_terms.nd rfl (by first | exact .inl rfl | exact .inr rfl)) (pss_cons (ps_set (i := 6) sc_law_terms.nd rfl (by first | exact .inl rfl | exact .inr rfl) pe_str) (pss_cons (ps_if (PW.pt (pw_and (pt_cmpR (op_neP hr.units) (pv 4) (pe_lst pa_nil) (nomark _)) (pw_and1 (pt_cmpR (op_eqP hr.units) (pe_call (ok_law_dip T) (hr.mono (by decide)) (by rfl) T.m_law_dip T.F_law_dip.kp T.b_law_dip .nil pass0 (pa_cons (pv 0) (pa_cons pe_int pa_nil))) pe_int (nomark _))))) (pss_one (ps_set (i := 6) sc_law_terms.nd rfl (by first | exact .inl rfl | exact .inr rfl) (pe_ix (kIx (K := K)) (pv 4) (pe_call (ok_law_dip T) (hr.mono (by decide)) (by rfl) T.m_law_dip T.F_law_dip.kp T.b_law_dip .nil pass0 (pa_cons (pv 0) (pa_cons (pe_callB (kLen (K := K)) (by rfl) T.z_len PySem.boot_len (pa_cons (pv 4) pa_nil)) pa_nil))) (fun _ _ => rfl)))) pss_nil) (pss_cons (ps_for PassesOwn.never rfl (pi_range1 (by rfl) T.z_range (pa_cons (pe_op op_addA pe_int (pe_call (ok_law_dip T) (hr.mono (by decide)) (by rfl) T.m_law_dip T.F_law_dip.kp T.b_law_dip .nil pass0 (pa_cons (pv 0) (pa_cons pe_int pa_nil)))) pa_nil)) (pg_name (i := 7) sc_law_terms.nd rfl (by first | exact .inl rfl | exact .inr rfl)) (pss_one (ps_set (i := 6) sc_law_terms.nd rfl (by first | exact .inl rfl | exact .inr rfl) (pe_op op_addA (pv 6) (pe_ix (kIx (K := K)) (pv 2) (pe_call (ok_law_dip T) (hr.mono (by decide)) (by rfl) T.m_law_dip T.F_law_dip.kp T.b_law_dip .nil pass0 (pa_cons (pv 0) (pa_cons (pe_callB (kLen (K := K)) (by rfl) T.z_len PySem.boot_len (pa_cons (pv 2) pa_nil)) pa_nil))) (fun _ _ => rfl)))))) (pss_one (ps_if (PW.pt (pw_and (pt_cmpR op_leA (pe_callB (kLen (K := K)) (by rfl) T.z_len PySem.boot_len (pa_cons (pv 6) pa_nil)) (pv 3) (nomark _)) (pw_and1 (pt_cmpR (kNi (K := K)) (pv 6) (pv 4) (by rfl))))) (pss_one (ps_expr (pe_bm PySem.F.plainAttrs_list PySem.F.slot_list_append PySem.F.type_list_append mt_append (pv 4) (pa_cons (pv 6) pa_nil)))) pss_nil)))))) (pss_one (ps_ret (pe_lc (own := [("turn", 5)]) (g := (gName 5)) (tt := tYes)  rfl sc_law_terms.nd (pi_range1 (by rfl) T.z_range (pa_cons (pe_callB (kLen (K := K)) (by rfl) T.z_len PySem.boot_len (pa_cons (pv 4) pa_nil)) pa_nil)) (blkOk_by (own := [("turn", 5)]) (N := N_law_terms) (sc := defScope s_law_terms) (by decide +kernel)) (fun _ _ _ _ _ => (pg_name (i := 5) sc_law_terms.nd rfl (by first | exact .inl rfl | exact .inr rfl))) (fun _ _ _ _ _ => pts_nil) (fun _ _ _ _ _ => (kBm (K := K) PySem.F.plainAttrs_list PySem.F.slot_list_pop PySem.F.type_list_pop mt_popAt (pv 4) (pa_cons (pe_call (ok_law_dip T) (hr.mono (by decide)) (by rfl) T.m_law_dip T.F_law_dip.kp T.b_law_dip .nil pass0 (pa_cons (pv 0) (pa_cons (pe_callB (kLen (K := K)) (by rfl) T.z_len PySem.boot_len (pa_cons (pv 4) pa_nil)) pa_nil))) pa_nil)))))))), fun A p ds hW ⟨k, L, m, e, k0, k1, l1, l2, m1, hL⟩ => ?_⟩)
  subst e
  have hz := sizeLine_eq
  refine SS.le (sq_new fun q => sq_for (cN := 6000) (c2 := 1000) (ei_rngD (lo := 0) (hi := k + 1) (ee_dip (m := k + 1) hW rfl (ea_cons (ee_op (ee_var (d := .int k) rfl).r ee_int.r od_addI) ea_nil) (by omega) (by omega)).r (by omega) (by omega)) fun ds ⟨r, r1, r2, e⟩ => ?_) (by decide)
  subst e
  rw [rngD_len]
  refine ⟨fun i ρ' => ∃ (xs : List Str) (s5 s6 s7 : SV), ρ' = [.raw (.ref p), .im (.int k), .im (.str L), .im (.int m), .own q (xs.map .str), s5, s6, s7] ∧ s5.adr = none ∧ s6.adr = none ∧ s7.adr = none ∧ xs.length ≤ i ∧ xs.Nodup ∧ ∀ x ∈ xs, (wordS x = true ∧ x.length ≤ 30) ∧ OfL L x, 6, by omega, ⟨[], .no, .no, .no, rfl, rfl, rfl, rfl, Nat.le_refl _, List.nodup_nil, fun x hx => absurd hx List.not_mem_nil⟩, ?_, ?_⟩
  · rintro i d ρ1 hd ⟨xs, s5, s6, s7, rfl, a5, a6, a7, h1, h2, h3⟩
    have hi := (List.getElem?_eq_some_iff.mp hd).1
    rw [rngD_len] at hi
    rw [rngD_get hi] at hd
    cases hd
    refine ⟨_, tg_name, ?_⟩
    refine SS.le (c := 0 + 6) (sq_set (c2 := 6) (ee_str (x := "")) fun d e => ?_) (by decide)
    subst e
    refine SS.le (c := (1 + 1) + 4) (ss_seq (c1 := 1 + 1) (c2 := 4) (M := fun ρ' => ∃ x : Str, ρ' = [.raw (.ref p), .im (.int k), .im (.str L), .im (.int m), .own q (xs.map .str), .im (.int (0 + (i : Nat))), .im (.str x), s7] ∧ begS x = true ∧ x.length ≤ 30 ∧ OfL L x) (ss_if (c1 := 1) (c2 := 1) (B := fun b => b = true → xs ≠ []) ((et_andR (c1 := 0) (c2 := 1) (P := fun b => b = !(PyData.eqv (.list (xs.map .str)) (.list []))) (P' := fun _ => True) (RR := fun b => b = true → xs ≠ []) (et_testB (ee_op (er_own (p := q) (ds := xs.map .str) rfl) (ee_lst ea_nil).r (od_ne (sameOk_strs (m := 2) (by omega) (by decide)).1 rfl (by show min _ 1 ≤ 60; omega))).r) (fun _ => (et_test (R := fun d => ∃ b, d = .bool b) (ee_opR (ee_dip (m := 2) hW rfl (ea_cons ee_int ea_nil) (by decide) (by decide)).r ee_int.r fun d1 d2 ⟨r, e1, _⟩ e2 => by subst e1 e2; exact (od_eq rfl rfl (Nat.zero_le _)).imp fun d e => ⟨_, e⟩).r fun d h => h).imp fun _ _ => trivial) (fun _ h => by cases h) (fun b hb _ _ => fun e => by rw [e] at hb; cases hb))) (fun hb => ?_) fun _ => SS.le (ss_next ⟨_, rfl, by decide, by decide, fun c hc => absurd hc List.not_mem_nil⟩) (by decide)) ?_) (by decide)
    · have hx := hb rfl
      have hp : 0 < xs.length := List.length_pos_iff.mpr hx
      refine ss_set (ee_ixOwn (q := q) (ds := xs.map .str) (R := fun d => ∃ x ∈ xs, d = .str x) rfl ((ee_dip (c := 0) (m := (xs.length : Nat)) hW rfl ((ea_cons (ee_cb (ear_cons (er_own (p := q) (ds := xs.map .str) rfl) ear_nil) (cld_lenL.toLen (List.length_map (f := PyData.str)))) ea_nil)) (by omega) (by omega)).r.to fun d ⟨r, e, e0, e1⟩ => ⟨r, e, e0, by rw [List.length_map]; exact e1⟩) fun d hd => by obtain ⟨x, hx, rfl⟩ := List.mem_map.mp hd; exact ⟨x, hx, rfl⟩) fun d ⟨x, hx, e⟩ => ?_
      subst e
      exact ⟨x, rfl, wordS_beg (h3 x hx).1.1, (h3 x hx).1.2, (h3 x hx).2⟩
    · rintro ρ2 ⟨x, rfl, xb, xl, xo⟩
      refine SS.le (c := (0 + 1) + 3 + 0) (sq_for (cN := 3) (c2 := 0) (ei_rngD (lo := 1) (hi := 1 + 3) (ee_addD ee_int.r ((ee_dip (m := 3) hW rfl (ea_cons ee_int ea_nil) (by decide) (by decide)).imp fun d ⟨r, e, e0, e1⟩ => (⟨r, e, e0, e1⟩ : IntIn 0 3 d)).r).r (by decide) (by decide)) fun ds ⟨r, r1, r2, e⟩ => ?_) (by decide)
      subst e
      rw [rngD_len]
      refine ⟨fun i' ρ' => ∃ (y : Str) (s7 : SV), ρ' = [.raw (.ref p), .im (.int k), .im (.str L), .im (.int m), .own q (xs.map .str), .im (.int (0 + (i : Nat))), .im (.str y), s7] ∧ s7.adr = none ∧ begS y = true ∧ y.length ≤ 30 + i' ∧ i' ≤ y.length ∧ OfL L y, 1, by omega, ⟨x, s7, rfl, a7, xb, xl, Nat.zero_le _, xo⟩, ?_, ?_⟩
      · rintro i' d ρ1 hd ⟨y, s7', rfl, a7', yb, y1, y2, yo⟩
        have hi' := (List.getElem?_eq_some_iff.mp hd).1
        rw [rngD_len] at hi'
        refine ⟨_, tg_name, SS.le (ss_set (R := fun d => ∃ z, d = .str (y ++ z) ∧ Sgn L z) (ee_opR (ee_var (d := .str y) rfl).r (ee_ixSD (L := L) l2 (ee_var rfl).r (ee_dip hW rfl (ea_cons (ee_cb (ear_cons (ee_var rfl).r ear_nil) (cld_lenS (x := L) (Nat.le_trans l2 (by decide)))) ea_nil) (by omega) (by omega)).r).r fun d1 d2 e1 ⟨z, e2, hz⟩ => ?_) fun d ⟨z, e, hz⟩ => ?_) (by decide)⟩
        · subst e1 e2
          obtain ⟨c, rfl, hc⟩ := hz
          exact (od_addS (by show y.length + 1 ≤ _; omega)).imp fun d e => ⟨_, e, c, rfl, hc⟩
        · subst e
          obtain ⟨c, rfl, hc⟩ := hz
          refine ⟨_, _, rfl, rfl, begS_append yb ?_, by rw [len_append]; show y.length + 1 ≤ _; omega, by rw [len_append]; show i' + 1 ≤ y.length + 1; omega, yo.append (OfL.sgn ⟨c, rfl, hc⟩)⟩
          exact List.all_eq_true.mpr fun e he => by
            have : e = c := by simpa using he
            rw [this]
            exact List.all_eq_true.mp hL c hc
      · rintro ρ1 ⟨y, s7', rfl, a7', yb, y1, y2, yo⟩
        have yw : wordS y = true := wordS_of yb (by omega)
        refine SS.le (c := 0 + 0) (ss_if (c1 := 0) (c2 := 0) (et_and (c1 := 0) (c2 := 0) (a := decide ((y.length : Int) ≤ m)) (b := !decide (y ∈ xs)) (et_testB (ee_op (ee_cb (ear_cons (ee_var (d := .str y) rfl).r ear_nil) (cld_lenS (x := y) (by omega))).r (ee_var (d := .int m) rfl).r od_leI).r) fun _ => (et_testB (ee_op (ee_var (d := .str y) rfl).r (er_own (p := q) (ds := xs.map .str) rfl) (od_in rfl (flat_strs xs))).r).imp fun b e => by rw [e, any_strs]; rfl) (fun hb => ?_) fun hb => ss_next ⟨xs, _, _, _, rfl, rfl, rfl, a7', by omega, h2, h3⟩) (by decide)
        have hb' := Bool.and_eq_true_iff.mp hb.symm
        have hm := of_decide_eq_true hb'.1
        have nx : y ∉ xs := by simpa using hb'.2
        refine SS.le (ss_app (p := q) (ds := xs.map .str) rfl (ee_var (d := .str y) rfl) (by rw [List.length_map]; omega) fun d e => ?_) (by decide)
        subst e
        refine ⟨xs ++ [y], _, _, _, by rw [List.map_append]; rfl, rfl, rfl, a7', by rw [List.length_append]; exact Nat.succ_le_succ h1, ?_, fun z hz => ?_⟩
        · rw [List.nodup_append]
          exact ⟨h2, by simp, fun a ha c hc e => nx (by rw [List.mem_singleton.mp hc] at e; rw [← e]; exact ha)⟩
        · rcases List.mem_append.mp hz with hz | hz
          · exact h3 z hz
          · rw [List.mem_singleton.mp hz]
            exact ⟨⟨yw, by omega⟩, yo⟩
  · rintro ρ1 ⟨xs, s5, s6, s7, rfl, a5, a6, a7, h1, h2, h3⟩
    have hlm : (xs.map PyData.str).length = xs.length := List.length_map _
    refine SS.le (c := 0 + 1000) (ss_retPop (i := 4) (q := q) (ds := xs.map .str) (rs := rngD 0 (xs.map PyData.str).length) (c2 := 1) (cN := 1000) rfl (fun b x e na => ?_) (ei_rng1 (ear_cons (ee_cb (ear_cons (er_own (p := q) (ds := xs.map .str) rfl) ear_nil) cld_lenL).r ear_nil) (by omega) (by omega)) (rngD_len _ _) (by omega) (by omega) (fun m' d es hd => ⟨_, tgw_name (by decide), rfl, fun e0 e1 => ?_⟩) fun ys pm k' L' m' e' => ?_) (by decide)
    · match b, e with
      | 0, e => cases e; exact absurd rfl na
      | 1, e => cases e; exact absurd rfl na
      | 2, e => cases e; exact absurd rfl na
      | 3, e => cases e; exact absurd rfl na
      | 4, e => rfl
      | 5, e => cases e; exact absurd a5 na
      | 6, e => cases e; exact absurd a6 na
      | 7, e => cases e; exact absurd a7 na
      | b + 8, e => simp at e
    · exact (ee_dip (c := 0) (m := (es.length : Nat)) hW rfl (ea_cons (ee_cb (ear_cons (er_own (p := q) (ds := es) rfl) ear_nil) cld_lenL) ea_nil) (by omega) (by omega)).imp fun d h => h
    · injection e' with e1 e2
      injection e1 with e1
      injection e2 with e2 _
      injection e2 with e2
      subst e1
      subst e2
      obtain ⟨zs, rfl, pz⟩ := perm_strs pm
      have wx : Wds (fun x => wordS x = true ∧ x.length ≤ 30) xs := ⟨h2, fun x hx => (h3 x hx).1⟩
      exact ⟨zs, rfl, by rw [pz.length_eq]; omega, ⟨by rw [pz.length_eq]; omega, wx.perm pz⟩, fun x hx => (h3 x (pz.mem_iff.mp hx)).2⟩
theorem ok_law_front : FnOk P w K mg base CX0 2 T.a_law_front T.d_law_front ["jar", "terms", "signs"] (SPj 10 (fun ds => ∃ (xs : List Str) (L : Str), ds = [strsD xs, .str L] ∧ BkOk 1000 xs ∧ 1 ≤ L.length ∧ L.length ≤ 1000 ∧ begS L = true ∧ ∀ x ∈ xs, OfL L x) (fun ds r => ∀ (xs : List Str) (L : Str), ds = [strsD xs, .str L] → ∃ y : Str, r = .str y ∧ (begS y = true ∧ y.length ≤ 31) ∧ OfL L y)) := by
  refine okj (cst := 10) (m := 2) T.F_law_front sc_law_front (fun ds ⟨xs, L, e, _⟩ => by rw [e]; rfl) (body := fun cdv A outer s H E hr => ⟨_, (pss_cons (ps_set (i := 3) sc_law_front.nd rfl (by first | exact .inl rfl | exact .inr rfl) (pe_call (ok_law_dip T) (hr.mono (by decide)) (by rfl) T.m_law_dip T.F_law_dip.kp T.b_law_dip .nil pass0 (pa_cons (pv 0) (pa_cons pe_int pa_nil)))) (pss_cons (ps_if (PW.pt (pw_or (pt_cmpR (op_eqP hr.units) (pv 3) pe_int (nomark _)) (pw_or1 (pt_cmpR (op_eqP hr.units) (pv 1) (pe_lst pa_nil) (nomark _))))) (pss_one (ps_ret pe_str)) pss_nil) (pss_cons (ps_set (i := 4) sc_law_front.nd rfl (by first | exact .inl rfl | exact .inr rfl) (pe_ix (kIx (K := K)) (pv 1) (pe_call (ok_law_dip T) (hr.mono (by decide)) (by rfl) T.m_law_dip T.F_law_dip.kp T.b_law_dip .nil pass0 (pa_cons (pv 0) (pa_cons (pe_callB (kLen (K := K)) (by rfl) T.z_len PySem.boot_len (pa_cons (pv 1) pa_nil)) pa_nil))) (fun _ _ => rfl))) (pss_cons (ps_set (i := 5) sc_law_front.nd rfl (by first | exact .inl rfl | exact .inr rfl) (pe_slice (kSl (K := K)) (pv 4) po_none (po_some (pe_call (ok_law_dip T) (hr.mono (by decide)) (by rfl) T.m_law_dip T.F_law_dip.kp T.b_law_dip .nil pass0 (pa_cons (pv 0) (pa_cons (pe_op op_addA (pe_callB (kLen (K := K)) (by rfl) T.z_len PySem.boot_len (pa_cons (pv 4) pa_nil)) pe_int) pa_nil)))))) (pss_one (ps_ret (pe_ifExp (pt_cmpR op_ltA (pv 3) pe_int (nomark _)) (pv 5) (pe_op op_addA (pv 5) (pe_ix (kIx (K := K)) (pv 2) (pe_call (ok_law_dip T) (hr.mono (by decide)) (by rfl) T.m_law_dip T.F_law_dip.kp T.b_law_dip .nil pass0 (pa_cons (pv 0) (pa_cons (pe_callB (kLen (K := K)) (by rfl) T.z_len PySem.boot_len (pa_cons (pv 2) pa_nil)) pa_nil))) (fun _ _ => rfl)))))))))), fun A p ds hW ⟨xs, L, e, hb, l1, l2, hL, hx0⟩ => ?_⟩)
  subst e
  have fin : ∀ r : PyData, (∃ y : Str, r = .str y ∧ (begS y = true ∧ y.length ≤ 31) ∧ OfL L y) → ∀ (xs' : List Str) (L' : Str), [strsD xs, PyData.str L] = [strsD xs', .str L'] → ∃ y : Str, r = .str y ∧ (begS y = true ∧ y.length ≤ 31) ∧ OfL L' y := fun r h xs' L' e' => by
    injection e' with e1 e2
    injection e2 with e2 _
    injection e2 with e2
    rw [← e2]
    exact h
  have hz := sizeLine_eq
  have hn := hb.1
  refine SS.le (c := 1 + 9) (sq_set (c2 := 9) (R := IntIn 0 5) (ee_dip (m := 5) hW rfl (ea_cons ee_int ea_nil) (by decide) (by decide)) fun d ⟨r, e, r0, r1⟩ => ?_) (by decide)
  subst e
  refine SS.le (c := 0 + 0 + 0 + 8) (sq_if (c2 := 0) (c3 := 8) (et_or (c1 := 0) (c2 := 0) (a := PyData.eqv (.int r) (.int 0)) (b := PyData.eqv (strsD xs) (.list [])) (et_testB (ee_op (ee_var (d := .int r) rfl).r ee_int.r (od_eq rfl rfl (Nat.zero_le _))).r) fun _ => (et_testB (ee_op (ee_var (d := strsD xs) rfl).r (ee_lst ea_nil).r (od_eq (sameOk_strs (m := 2) (by omega) (by decide)).1 rfl (by show min _ 1 ≤ 60; omega))).r)) (fun hb => SS.le (ss_ret ee_str fun d e => fin d ⟨_, e, ⟨by decide, by decide⟩, fun c hc => absurd hc List.not_mem_nil⟩) (by decide)) fun hb2 => ss_next ?_) (by decide)
  have hx : xs ≠ [] := fun z => by
    rw [z] at hb2
    have : PyData.eqv (strsD []) (.list []) = true := rfl
    rw [this, Bool.or_true] at hb2
    cases hb2
  have hp : 0 < xs.length := List.length_pos_iff.mpr hx
  refine SS.le (c := 1 + 7) (sq_set (c2 := 7) (R := fun d => ∃ x ∈ xs, d = .str x) (ee_ixLD (ds := xs.map .str) (ee_var (d := .list (xs.map .str)) rfl) ((ee_dip (c := 0) (m := ((xs.map PyData.str).length : Nat)) hW rfl (ea_cons (ee_cb (ear_cons (ee_var (d := .list (xs.map .str)) rfl).r ear_nil) cld_lenL) ea_nil) (by rw [List.length_map]; omega) (by rw [List.length_map]; omega)).imp fun d h => h).r fun d hd => by obtain ⟨x, hx, rfl⟩ := List.mem_map.mp hd; exact ⟨x, hx, rfl⟩) fun d ⟨x, hx, e⟩ => ?_) (by decide)
  subst e
  have wx := hb.2.2 x hx
  refine SS.le (c := 1 + 6) (sq_set (c2 := 6) (ee_cutSO (L := L) (x := x) (n := 30) (hi := (x.length : Int) + 1) (ee_var rfl) (ee_dip (m := (x.length : Int) + 1) hW rfl (ea_cons (ee_op (ee_cb (ear_cons (ee_var (d := .str x) rfl).r ear_nil) (cld_lenS (x := x) (by omega))).r ee_int.r od_addI) ea_nil) (by omega) (by omega)).r (wordS_beg wx.1) wx.2 (by omega) (hx0 x hx)) fun d ⟨y, e, ⟨yb, yl⟩, yo⟩ => ?_) (by decide)
  subst e
  refine SS.le (ss_ret (R := fun d => ∃ y : Str, d = .str y ∧ (begS y = true ∧ y.length ≤ 31) ∧ OfL L y) (ee_ifR (c1 := 0) (c2 := 1) (P := fun _ => True) ((et_testB (ee_op (ee_var (d := .int r) rfl).r ee_int.r od_ltI).r).imp fun _ _ => trivial) (fun _ => ((ee_var (d := .str y) rfl).imp fun d e => ⟨y, e, ⟨yb, by omega⟩, yo⟩).le (by decide)) fun _ => (ee_opR (Rb := fun d => ∃ y, d = .str y ∧ Sgn L y) (ee_var (d := .str y) rfl).r (ee_ixSD (L := L) l2 (ee_var rfl).r (ee_dip hW rfl (ea_cons (ee_cb (ear_cons (ee_var rfl).r ear_nil) (cld_lenS (x := L) (Nat.le_trans l2 (by decide)))) ea_nil) (by omega) (by omega)).r).r fun d1 d2 e1 ⟨z, e2, hz⟩ => ?_).le (by decide)) fun d h => fin d h) (by decide)
  subst e1 e2
  obtain ⟨c, rfl, hc⟩ := hz
  refine (od_addS (by show y.length + 1 ≤ _; omega)).imp fun d e => ⟨_, e, ⟨begS_append yb ?_, by rw [len_append]; show y.length + 1 ≤ _; omega⟩, yo.append (OfL.sgn ⟨c, rfl, hc⟩)⟩
  exact List.all_eq_true.mpr fun e he => by
    have : e = c := by simpa using he
    rw [this]
    exact List.all_eq_true.mp hL c hc
theorem ok_law_answer : FnOk P w K mg base CX0 1 T.a_law_answer T.d_law_answer ["terms", "front", "top"] (SPp (fun ds => ∃ (xs : List Str) (b : Str) (l : Nat), ds = [strsD xs, .str b, .int (l : Nat)] ∧ xs.length < 4000) (fun ds r => ∀ (xs : List Str) (b : Str) (l : Nat), ds = [strsD xs, .str b, .int (l : Nat)] → r = strsD ((xs.filter (preS b)).take l))) := by
  refine okp (c := 0) (m := 3) T.F_law_answer sc_law_answer (fun ds ⟨xs, b, l, e, _⟩ => by rw [e]; rfl) (Nat.zero_le _) (body := fun cdv A outer s H E hr => ⟨_, (pss_one (ps_ret (pe_slice (kSl (K := K)) (pe_lc (own := [("term", 3)]) (g := (gName 3))  rfl sc_law_answer.nd (kList (K := K) (pv 0)) (blkOk_by (own := [("term", 3)]) (N := N_law_answer) (sc := defScope s_law_answer) (by decide +kernel)) (fun _ _ _ _ _ => (pg_name (i := 3) sc_law_answer.nd rfl (by first | exact .inl rfl | exact .inr rfl))) (fun _ _ _ _ _ => pts_one (pt_val (pe_m1 PySem.F.slot_str_startswith PySem.F.type_str_startswith mt_startswith (pv 3) (pv 1)))) (fun _ _ _ _ _ => (pv 3))) po_none (po_some (pv 2))))), fun A ds hW ⟨xs, b, l, e, hl⟩ => ?_⟩)
  subst e
  refine SS.le (ss_ret (R := (· = strsD ((xs.filter (preS b)).take l))) (ee_tk (xs := xs.filter (preS b)) ((ee_fil (fun d => match d with | .str x => preS b x | _ => false) (fun d => d) (ei_list (ee_var (d := .list (xs.map .str)) rfl)) (by rw [List.length_map]; omega) fun i e he => ?_).imp fun r e => ?_) (ee_var rfl).r) fun r e xs' b' l' e' => ?_) (by decide)
  · obtain ⟨x, rfl, hi⟩ := strs_get he
    exact ⟨_, tgw_name (List.mem_singleton.mpr rfl), (et_bool (ee_starts (ee_var rfl).r (ee_var rfl)).r).imp fun r e => by rw [e]; exact startswith_pre x b, fun _ => ee_var rfl⟩
  · rw [e]
    exact congrArg PyData.list (filter_strs (preS b) _ (fun _ => rfl) xs)
  · injection e' with e1 e2
    injection e2 with e2 e3
    injection e3 with e3 _
    injection e2 with e2
    injection e3 with e3
    rw [e, strsD_inj e1, e2, Int.ofNat.inj e3]
theorem ok_law_views : FnOk P w K mg base CX0 3 T.a_law_views T.d_law_views ["jar", "terms", "many", "most", "signs"] (SPj 400 (fun ds => ∃ (xs : List Str) (k m : Int) (L : Str), ds = [strsD xs, .int k, .int m, .str L] ∧ BkOk 1000 xs ∧ 0 ≤ k ∧ k ≤ 20 ∧ 1 ≤ m ∧ m ≤ 20 ∧ 1 ≤ L.length ∧ L.length ≤ 1000 ∧ begS L = true ∧ ∀ x ∈ xs, OfL L x) (fun ds r => ∀ (xs : List Str) (k m : Int) (L : Str), ds = [strsD xs, .int k, .int m, .str L] → ∃ ss : List Scr, r = screensD ss ∧ (ss.length : Int) ≤ k ∧ ∀ s ∈ ss, (ScrOk s ∧ shows xs s = true) ∧ OfL L s.b)) := by
  refine okj (cst := 400) (m := 4) T.F_law_views sc_law_views (fun ds ⟨xs, k, m, L, e, _⟩ => by rw [e]; rfl) (body := fun cdv A outer s H E hr => ⟨_, (pss_cons (ps_set (i := 5) sc_law_views.nd rfl (by first | exact .inl rfl | exact .inr rfl) (pe_lst pa_nil)) (pss_cons (ps_for PassesOwn.never rfl (pi_range1 (by rfl) T.z_range (pa_cons (pe_call (ok_law_dip T) (hr.mono (by decide)) (by rfl) T.m_law_dip T.F_law_dip.kp T.b_law_dip .nil pass0 (pa_cons (pv 0) (pa_cons (pe_op op_addA (pv 2) pe_int) pa_nil))) pa_nil)) (pg_name (i := 6) sc_law_views.nd rfl (by first | exact .inl rfl | exact .inr rfl)) (pss_cons (ps_par (i := 7) (j := 8) rfl sc_law_views.nd rfl rfl (by decide) rfl rfl (pa_cons (pe_call (ok_law_front T) (hr.mono (by decide)) (by rfl) T.m_law_front T.F_law_front.kp T.b_law_front .nil pass0 (pa_cons (pv 0) (pa_cons (pv 1) (pa_cons (pv 4) pa_nil)))) (pa_cons (pe_op op_addA pe_int (pe_call (ok_law_dip T) (hr.mono (by decide)) (by rfl) T.m_law_dip T.F_law_dip.kp T.b_law_dip .nil pass0 (pa_cons (pv 0) (pa_cons (pv 3) pa_nil)))) pa_nil)) rfl) (pss_one (ps_expr (pe_bm PySem.F.plainAttrs_list PySem.F.slot_list_append PySem.F.type_list_append mt_append (pv 5) (pa_cons (pe_tup (pa_cons (pv 7) (pa_cons (pv 8) (pa_cons (pe_call (ok_law_answer T) (hr.mono (by decide)) (by rfl) T.m_law_answer T.F_law_answer.kp T.b_law_answer .nil pass0 (pa_cons (pv 1) (pa_cons (pv 7) (pa_cons (pv 8) pa_nil)))) pa_nil)))) pa_nil)))))) (pss_one (ps_ret (pv 5))))), fun A p ds hW ⟨xs, k, m, L, e, hb, k1, k2, m1, m2, l1, l2, hL, hx0⟩ => ?_⟩)
  subst e
  have hn : xs.length < 4000 := by have := hb.1; omega
  refine SS.le (sq_new fun q => sq_for (cN := 300) (c2 := 0) (ei_rngD (lo := 0) (hi := k + 1) (ee_dip (m := k + 1) hW rfl (ea_cons (ee_op (ee_var (d := .int k) rfl).r ee_int.r od_addI) ea_nil) (by omega) (by omega)).r (by omega) (by omega)) fun ds ⟨r, r1, r2, e⟩ => ?_) (by decide)
  subst e
  rw [rngD_len]
  refine ⟨fun i ρ' => ∃ (ss : List Scr) (s6 s7 s8 : SV), ρ' = [.raw (.ref p), .im (strsD xs), .im (.int k), .im (.int m), .im (.str L), .own q (ss.map scrD), s6, s7, s8] ∧ ss.length ≤ i ∧ ∀ s ∈ ss, (ScrOk s ∧ shows xs s = true) ∧ OfL L s.b, 15, by omega, ⟨[], .no, .no, .no, rfl, Nat.le_refl _, fun s hs => absurd hs List.not_mem_nil⟩, ?_, ?_⟩
  · rintro i d ρ1 hd ⟨ss, s6, s7, s8, rfl, h1, h2⟩
    have hi := (List.getElem?_eq_some_iff.mp hd).1
    rw [rngD_len] at hi
    refine ⟨_, tg_name, ?_⟩
    refine SS.le (c := 11 + 0) (sq_par (c2 := 0) (ea_consR (R := fun d => ∃ y : Str, d = .str y ∧ (begS y = true ∧ y.length ≤ 31) ∧ OfL L y) ((ee_callj (c := 0) hW rfl (ea_cons (ee_var (d := strsD xs) rfl) (ea_cons (ee_var (d := .str L) rfl) ea_nil)) fun ds e => ⟨xs, L, e, hb, l1, l2, hL, hx0⟩).imp fun d ⟨ds, e, h⟩ => h xs L e) (ea_consR (R := IntIn (1 + 0) (1 + m)) (ee_addD ee_int.r ((ee_dip (m := m) hW rfl (ea_cons (ee_var (d := .int m) rfl) ea_nil) (by omega) (by omega)).imp fun d ⟨r, e, e0, e1⟩ => (⟨r, e, e0, e1⟩ : IntIn 0 m d)).r) ea_nil)) fun ds ⟨d1, ds1, ⟨y, e1, ⟨y1, y2⟩, yo⟩, ⟨d2, ds2, ⟨l, e2, l1, l2⟩, e3, e4⟩, e5⟩ => ⟨.str y, .int l, by rw [e5, e4, e3, e1, e2], ?_⟩) (by decide)
    have eo : l = ((l.toNat : Nat) : Int) := by omega
    generalize l.toNat = l' at eo
    subst eo
    have key := scr_of (b := y) (l := l') hb y1 (by omega) (by omega) (by omega)
    refine SS.le (ss_app (p := q) (ds := ss.map scrD) rfl (ee_tup (ea_cons (ee_var (d := .str y) rfl) (ea_cons (ee_var (d := .int (l' : Nat)) rfl) (ea_cons (ee_callf (e := strsD ((xs.filter (preS y)).take l')) (ea_cons (ee_var (d := strsD xs) rfl) (ea_cons (ee_var (d := .str y) rfl) (ea_cons (ee_var (d := .int (l' : Nat)) rfl) ea_nil))) ⟨xs, y, l', rfl, hn⟩ fun r h => h xs y l' rfl) ea_nil)))) (by rw [List.length_map]; have := sizeLine_eq; omega) fun d e => ?_) (by decide)
    subst e
    refine ⟨ss ++ [⟨y, l', (xs.filter (preS y)).take l'⟩], _, _, _, by rw [List.map_append]; rfl, by rw [List.length_append]; exact Nat.succ_le_succ h1, fun s hs => ?_⟩
    rcases List.mem_append.mp hs with hs | hs
    · exact h2 s hs
    · rw [List.mem_singleton.mp hs]
      exact ⟨key, yo⟩
  · rintro ρ1 ⟨ss, s6, s7, s8, rfl, h1, h2⟩
    refine ss_freeze (i := 5) rfl (ss_ret (ee_var (d := screensD ss) rfl) fun d e xs' k' m' L' e' => ?_)
    injection e' with e1 e2
    injection e2 with e2 e3
    injection e3 with _ e5
    injection e5 with e5 _
    injection e5 with e5
    injection e2 with e2
    subst e2
    subst e5
    have e1 := strsD_inj e1
    subst e1
    exact ⟨ss, e, by omega, h2⟩
theorem ok_law_known : FnOk P w K mg base CX0 1 T.a_law_known T.d_law_known ["views"] (SPp (fun ds => ∃ ss : List Scr, ds = [screensD ss] ∧ ss.length ≤ 20 ∧ ∀ s ∈ ss, ScrOk s) (fun ds r => ∀ ss : List Scr, ds = [screensD ss] → r = strsD (knownS ss))) := by
  refine okp (c := 0) (m := 1) T.F_law_known sc_law_known (fun ds ⟨ss, e, _⟩ => by rw [e]; rfl) (Nat.zero_le _) (body := fun cdv A outer s H E hr => ⟨_, (pss_cons (ps_set (i := 1) sc_law_known.nd rfl (by first | exact .inl rfl | exact .inr rfl) (pe_lst pa_nil)) (pss_cons (ps_for PassesOwn.never rfl (kList (K := K) (pv 0)) (kPgTup (K := K) rfl (pgs_cons (pg_name (i := 2) sc_law_known.nd rfl (by first | exact .inl rfl | exact .inr rfl)) (pgs_cons (pg_name (i := 3) sc_law_known.nd rfl (by first | exact .inl rfl | exact .inr rfl)) (pgs_cons (pg_name (i := 4) sc_law_known.nd rfl (by first | exact .inl rfl | exact .inr rfl)) pgs_nil)))) (pss_one (ps_expr (pe_bm PySem.F.plainAttrs_list PySem.F.slot_list_extend PySem.F.type_list_extend mt_extend (pv 1) (pa_cons (pv 4) pa_nil))))) (pss_one (ps_ret (pe_callB (kSortSet rfl) (by rfl) T.z_sorted PyProof.Rows.boot_sorted (pa_cons (pe_callTy (kSetL (K := K) rfl) (by rfl) T.z_set PyProof.Rows.boot_set (pa_cons (pv 1) pa_nil)) pa_nil)))))), fun A ds hW ⟨ss, e, hn, hs⟩ => ?_⟩)
  subst e
  have hz := sizeLine_eq
  have fl : ∀ {ts : List Scr}, (∀ s ∈ ts, s ∈ ss) → ts.length ≤ 20 → (ts.flatMap Scr.ys).length ≤ 400 := fun h1 h2 => by
    have h3 := flat_len (n := 20) fun s h => Nat.le_trans (hs s (h1 s h)).n (hs s (h1 s h)).l2
    have h4 := Nat.mul_le_mul_right 20 h2
    omega
  refine SS.le (sq_new fun q => sq_for (cN := 0) (c2 := 0) (ei_list (ee_var (d := .list (ss.map scrD)) rfl)) fun ds e => ?_) (by decide)
  subst e
  refine ⟨fun i ρ' => ∃ (s2 s3 s4 : SV), ρ' = [.im (screensD ss), .own q (((ss.take i).flatMap Scr.ys).map .str), s2, s3, s4], 0, by omega, ⟨_, _, _, rfl⟩, ?_, ?_⟩
  · rintro i d ρ1 hd ⟨s2, s3, s4, rfl⟩
    obtain ⟨s, hsi, rfl⟩ := map_get hd
    have so := hs s (List.mem_of_getElem? hsi)
    refine ⟨_, tg_tup (ds := [.str s.b, .int (s.l : Nat), strsD s.ys]) (tgs_cons tg_name (tgs_cons tg_name (tgs_cons tg_name tgs_nil))) rfl, ?_⟩
    refine SS.le (c := 0) (ss_ext (p := q) (ds := ((ss.take i).flatMap Scr.ys).map .str) rfl (ee_var (d := strsD s.ys) rfl) fun d e => ⟨s.ys.map .str, e, ?_, ?_⟩) (by decide)
    · have h1 := fl (ts := ss.take i) (fun s h => List.mem_of_mem_take h) (by rw [List.length_take]; omega)
      have h2 := so.n
      have h3 := so.l2
      rw [List.length_map, List.length_map]
      omega
    · have e4 : (ss.take i).flatMap Scr.ys ++ s.ys = (ss.take (i + 1)).flatMap Scr.ys := by
        rw [List.take_add_one, hsi, List.flatMap_append]
        simp
      rw [← List.map_append, e4]
      exact ⟨_, _, _, rfl⟩
  · rintro ρ1 ⟨s2, s3, s4, rfl⟩
    rw [List.length_map, List.take_length]
    refine SS.le (c := 0) (ss_ret (ee_sortSetL (xs := ss.flatMap Scr.ys) (er_own (p := q) rfl) (by have := fl (ts := ss) (fun s h => h) hn; omega)) fun r e ss' e' => ?_) (by decide)
    injection e' with e1 _
    rw [e, ← screensD_inj e1]
    rfl
theorem ok_law_shows : FnOk P w K mg base CX0 2 T.a_law_shows T.d_law_shows ["terms", "views"] (SPp (fun ds => ∃ (R : List Str) (ss : List Scr), ds = [strsD R, screensD ss] ∧ R.length < 4000 ∧ ss.length ≤ 1000) (fun ds r => ∀ (R : List Str) (ss : List Scr), ds = [strsD R, screensD ss] → r = .bool (fitsAll ss R))) := by
  refine okp (c := 0) (m := 2) T.F_law_shows sc_law_shows (fun ds ⟨R, ss, e, _⟩ => by rw [e]; rfl) (Nat.zero_le _) (body := fun cdv A outer s H E hr => ⟨_, (pss_one (ps_ret (pe_cmpR (op_eqP hr.units) (pe_lc (own := [("front", 2), ("top", 3), ("row", 4)]) (g := (gTup K 3 (gCons (gName 2) (gCons (gName 3) (gCons (gName 4) gNil)))))  rfl sc_law_shows.nd (kList (K := K) (pv 1)) (blkOk_by (own := [("front", 2), ("top", 3), ("row", 4)]) (N := N_law_shows) (sc := defScope s_law_shows) (by decide +kernel)) (fun _ _ _ _ _ => (kPgTup (K := K) rfl (pgs_cons (pg_name (i := 2) sc_law_shows.nd rfl (by first | exact .inl rfl | exact .inr rfl)) (pgs_cons (pg_name (i := 3) sc_law_shows.nd rfl (by first | exact .inl rfl | exact .inr rfl)) (pgs_cons (pg_name (i := 4) sc_law_shows.nd rfl (by first | exact .inl rfl | exact .inr rfl)) pgs_nil))))) (fun _ _ _ _ _ => pts_one (pt_cmpR (op_neP hr.units) (pe_call (ok_law_answer T) (hr.mono (by decide)) (by rfl) T.m_law_answer T.F_law_answer.kp T.b_law_answer .nil pass0 (pa_cons (pv 0) (pa_cons (pv 2) (pa_cons (pv 3) pa_nil)))) (pv 4) (nomark _))) (fun _ _ _ _ _ => pe_int)) (pe_lst pa_nil) (nomark _)))), fun A ds hW ⟨R, ss, e, hR, hn⟩ => ?_⟩)
  subst e
  refine SS.le (c := 0 + 0 + 0) (ss_ret (ee_op (c1 := 0 + 0) (c2 := 0) (ee_fil (fun d => !shows R (scrOf d)) (fun _ => .int 1) (ei_list (ee_var (d := .list (ss.map scrD)) rfl)) (by rw [List.length_map]; omega) fun i d hd => ?_).r (ee_lst ea_nil).r (od_eq (plain_ones _) rfl (Nat.le_trans (Nat.min_le_right _ _) (by decide)))) fun r e R' ss' e' => ?_) (by decide)
  · obtain ⟨s, hs, rfl⟩ := map_get hd
    refine ⟨_, tgw_tup (ds := [.str s.b, .int (s.l : Nat), strsD s.ys]) (tgsw_name (by decide) (tgsw_name (by decide) (tgsw_name (by decide) tgsw_nil))) rfl, (et_testB (ee_op (c1 := 0) (c2 := 0) (ee_callf (c := 0) (e := strsD ((R.filter (preS s.b)).take s.l)) (ea_cons (ee_var (d := strsD R) rfl) (ea_cons (ee_var (d := .str s.b) rfl) (ea_cons (ee_var (d := .int (s.l : Nat)) rfl) ea_nil))) ⟨R, s.b, s.l, rfl, hR⟩ fun r h => h R s.b s.l rfl).r (ee_var (d := strsD s.ys) rfl).r (od_ne (sameOkP _).1 (sameOkP _).1 (by rw [(sameOkP _).2, (sameOkP _).2]; decide))).r).imp fun b e => ?_, fun _ => ee_int⟩
    rw [e, eqv_strs, scrOf_scr]
    rfl
  · injection e' with e1 e2
    injection e2 with e2 _
    rw [e, ← strsD_inj e1, ← screensD_inj e2]
    refine congrArg PyData.bool ?_
    rw [fil_nil (f := scrD) (g := shows R) fun s _ => by rw [scrOf_scr]]
    rfl
theorem ok_law_orders_n : ∀ m : Nat, FnOk P w K mg base CX0 m T.a_law_orders T.d_law_orders ["terms"] (SPp (fun ds => ∃ ts : List Str, ds = [strsD ts] ∧ ts.length < m ∧ ts.length ≤ 5) (fun ds r => ∀ ts : List Str, ds = [strsD ts] → r = .list ((ordR ts.length ts).map strsD))) := by
  intro m
  induction m with
  | zero =>
    exact ⟨fun vs H Q E h => SPp.len (m := 1) (fun ds ⟨ts, e, _⟩ => by rw [e]; rfl) h, fun A outer s H args us vs Q E _ _ _ _ ⟨fs, ds, _, _, ⟨ts, _, z, _⟩, _⟩ => absurd z (Nat.not_lt_zero _)⟩
  | succ m ih =>
  refine okp (c := 0) (m := 1) T.F_law_orders sc_law_orders (fun ds ⟨ts, e, _⟩ => by rw [e]; rfl) (Nat.zero_le _) (body := fun cdv A outer s H E hr => ⟨_, (pss_cons (ps_if (pt_cmpR (op_eqP hr.units) (pv 0) (pe_lst pa_nil) (nomark _)) (pss_one (ps_ret (pe_lst (pa_cons (pe_lst pa_nil) pa_nil)))) pss_nil) (pss_cons (ps_set (i := 1) sc_law_orders.nd rfl (by first | exact .inl rfl | exact .inr rfl) (pe_lst pa_nil)) (pss_cons (ps_for PassesOwn.never rfl (kEnum (K := K) (by rfl) T.z_enumerate (pa_cons (pv 0) pa_nil)) (kPgTup (K := K) rfl (pgs_cons (pg_name (i := 2) sc_law_orders.nd rfl (by first | exact .inl rfl | exact .inr rfl)) (pgs_cons (pg_name (i := 3) sc_law_orders.nd rfl (by first | exact .inl rfl | exact .inr rfl)) pgs_nil))) (pss_one (ps_expr (pe_bm PySem.F.plainAttrs_list PySem.F.slot_list_extend PySem.F.type_list_extend mt_extend (pv 1) (pa_cons (pe_lc (own := [("rest", 4)]) (g := (gName 4)) (tt := tYes)  rfl sc_law_orders.nd (kList (K := K) (pe_call ih hr (by rfl) T.m_law_orders T.F_law_orders.kp T.b_law_orders .nil pass0 (pa_cons (pe_op op_addA (pe_slice (kSl (K := K)) (pv 0) po_none (po_some (pv 2))) (pe_slice (kSl (K := K)) (pv 0) (po_some (pe_op op_addA (pv 2) pe_int)) po_none)) pa_nil))) (blkOk_by (own := [("rest", 4)]) (N := N_law_orders) (sc := defScope s_law_orders) (by decide +kernel)) (fun _ _ _ _ _ => (pg_name (i := 4) sc_law_orders.nd rfl (by first | exact .inl rfl | exact .inr rfl))) (fun _ _ _ _ _ => pts_nil) (fun _ _ _ _ _ => (pe_op op_addA (pe_lst (pa_cons (pv 3) pa_nil)) (pv 4)))) pa_nil))))) (pss_one (ps_ret (pv 1)))))), fun A ds hW ⟨ts, e, hm, h5⟩ => ?_⟩)
  subst e
  have hz := sizeLine_eq
  have tm : (ts.map PyData.str).length = ts.length := List.length_map _
  have fin : ∀ r : PyData, r = .list ((ordR ts.length ts).map strsD) → ∀ ts' : List Str, [strsD ts] = [strsD ts'] → r = .list ((ordR ts'.length ts').map strsD) := fun r e ts' e' => by
    injection e' with e1 _
    rw [e, strsD_inj e1]
  refine SS.le (c := 0 + 0 + 0) (sq_if (c1 := 0) (c2 := 0) (c3 := 0) ((et_testB (ee_op (c1 := 0) (c2 := 0) (ee_var (d := strsD ts) rfl).r (ee_lst ea_nil).r (od_eq (sameOkP ts).1 rfl (Nat.le_trans (Nat.min_le_right _ _) (by decide)))).r).imp fun b e => (show b = decide (ts = []) by rw [e]; cases ts <;> rfl)) (fun h => SS.le (ss_ret (ee_lst (ds := [.list []]) (ea_cons (c1 := 0) (c2 := 0) (ee_lst (ds := []) ea_nil (Nat.zero_le _)) ea_nil) (by show 1 ≤ sizeLine; omega)) fun r e => fin r ?_) (by decide)) fun h => ss_next ?_) (by decide)
  · have : ts = [] := of_decide_eq_true h.symm
    subst this
    exact e
  have hne : ts ≠ [] := of_decide_eq_false h.symm
  have hp : 0 < ts.length := List.length_pos_iff.mpr hne
  obtain ⟨n, hn⟩ : ∃ n, ts.length = n + 1 := ⟨ts.length - 1, by omega⟩
  let part : Nat → List (List Str) := fun i => (ordR n (ts.take i ++ ts.drop (i + 1))).map fun r => ts.getD i Str.empty :: r
  have l2 : ∀ i, i < ts.length → (ts.take i ++ ts.drop (i + 1)).length = n := fun i hi => by rw [List.length_append, List.length_take, List.length_drop]; omega
  have pl : ∀ i, i < ts.length → (part i).length ≤ 5 ^ 5 := fun i hi => by
    show ((ordR n (ts.take i ++ ts.drop (i + 1))).map _).length ≤ _
    rw [List.length_map]
    exact Nat.le_trans (ord_le (l2 i hi) (by omega)) (Nat.pow_le_pow_right (by decide) (by omega))
  have acc : ∀ i, i ≤ ts.length → ((List.range i).flatMap part).length ≤ 5 * 5 ^ 5 := fun i hi => by
    have h1 := flatMap_le (f := part) (k := 5 ^ 5) (l := List.range i) fun j hj => pl j (by have := List.mem_range.mp hj; omega)
    rw [List.length_range] at h1
    exact Nat.le_trans h1 (Nat.mul_le_mul_right _ (by omega))
  refine SS.le (sq_new fun q => sq_for (cN := 0) (c2 := 0) (ei_enum (ea_cons (c1 := 0) (c2 := 0) (ee_var (d := .list (ts.map .str)) rfl) ea_nil)) fun ds e => ?_) (by decide)
  subst e
  refine ⟨fun i ρ' => ∃ (s2 s3 s4 : SV), ρ' = [.im (strsD ts), .own q (((List.range i).flatMap part).map strsD), s2, s3, s4], 0, by omega, ⟨_, _, _, rfl⟩, ?_, ?_⟩
  · rintro i d ρ1 hd ⟨s2, s3, s4, rfl⟩
    obtain ⟨x, hx, rfl⟩ := enum_get hd
    have hi := (List.getElem?_eq_some_iff.mp hx).1
    have gx : ts.getD i Str.empty = x := by rw [List.getD_eq_getElem?_getD, hx]; rfl
    have lo := l2 i hi
    have ol := ord_le lo (by omega)
    have ob := Nat.le_trans ol (Nat.pow_le_pow_right (n := 5) (by decide) (show n ≤ 5 by omega))
    refine ⟨_, tg_tup (tgs_cons tg_name (tgs_cons tg_name tgs_nil)) rfl, ?_⟩
    refine SS.le (c := 0 + 0) (ss_ext (p := q) (ds := ((List.range i).flatMap part).map strsD) rfl (ee_map (ds := (ordR n (ts.take i ++ ts.drop (i + 1))).map strsD) (consF x) ((ei_list (ee_callf (c := 0) (e := .list ((ordR n (ts.take i ++ ts.drop (i + 1))).map strsD)) (ea_cons (c1 := 0) (c2 := 0) (ee_ct (f := PyData.str) (c1 := 0) (c2 := 0) (ee_tk (f := PyData.str) (xs := ts) (k := i) (c1 := 0) (c2 := 0) (ee_var rfl) (ee_var rfl).r) (ee_dr (f := PyData.str) (xs := ts) (k := i + 1) (c1 := 0) (c2 := 0) (ee_var rfl) (ee_pl (i := i) (k := 1) (c1 := 0) (c2 := 0) (ee_var rfl).r ee_int.r).r) (by rw [List.length_take, List.length_drop]; omega)) ea_nil) ⟨_, rfl, by omega, by omega⟩ fun r h => (h _ rfl).trans (by rw [lo])))) (by rw [List.length_map]; omega) fun k d3 hd3 => ?_) fun d3 e3 => ⟨_, e3, ?_, ?_⟩) (by decide)
    · obtain ⟨r, hr3, rfl⟩ := map_get hd3
      have rl := (ord_of lo (List.mem_of_getElem? hr3)).1
      refine ⟨_, tgw_name (by decide), (ee_addL (ds := [.str x]) (es := r.map .str) (c1 := 0) (c2 := 0) (ee_lst (ea_cons (c1 := 0) (c2 := 0) (ee_var rfl) ea_nil)) (ee_var rfl) (by rw [List.length_map]; show 1 + r.length ≤ _; omega)).imp fun d e => ?_⟩
      rw [e]
      show PyData.list ([.str x] ++ r.map .str) = strsD (x :: rowOf (strsD r))
      rw [rowOf_strs]
      rfl
    · have h1 := acc i (by omega)
      rw [map_cons, List.length_map, List.length_map, List.length_map]
      omega
    · have e4 : (List.range i).flatMap part ++ (ordR n (ts.take i ++ ts.drop (i + 1))).map (fun r => x :: r) = (List.range (i + 1)).flatMap part := by
        rw [List.range_succ, List.flatMap_append, List.flatMap_cons, List.flatMap_nil, List.append_nil]
        show _ = _ ++ (ordR n (ts.take i ++ ts.drop (i + 1))).map fun r => ts.getD i Str.empty :: r
        rw [gx]
      rw [map_cons, ← List.map_append, e4]
      exact ⟨_, _, _, rfl⟩
  · rintro ρ1 ⟨s2, s3, s4, rfl⟩
    rw [enum_len, List.length_map]
    refine ss_freeze (i := 1) (p := q) rfl (SS.le (c := 0) (ss_ret (ee_var (d := .list (((List.range ts.length).flatMap part).map strsD)) rfl) fun r e => fin r ?_) (by decide))
    rw [e]
    have : (List.range ts.length).flatMap part = ordR ts.length ts := by
      rw [hn]
      show _ = (List.range ts.length).flatMap _
      rw [hn]
    rw [this]
theorem ok_law_orders : FnOk P w K mg base CX0 9 T.a_law_orders T.d_law_orders ["terms"] (SPp (fun ds => ∃ ts : List Str, ds = [strsD ts] ∧ ts.length < 9 ∧ ts.length ≤ 5) (fun ds r => ∀ ts : List Str, ds = [strsD ts] → r = .list ((ordR ts.length ts).map strsD))) := ok_law_orders_n T 9
theorem ok_law_with_new : FnOk P w K mg base CX0 10 T.a_law_with_new T.d_law_with_new ["terms", "fresh"] (SPp (fun ds => ∃ (ts : List Str) (x : Str), ds = [strsD ts, .str x] ∧ ts.length ≤ 5) (fun ds r => ∀ (ts : List Str) (x : Str), ds = [strsD ts, .str x] → r = .list ((newR (ordR ts.length ts) x).map strsD))) := by
  refine okp (c := 0) (m := 2) T.F_law_with_new sc_law_with_new (fun ds ⟨ts, x, e, _⟩ => by rw [e]; rfl) (Nat.zero_le _) (body := fun cdv A outer s H E hr => ⟨_, (pss_cons (ps_set (i := 2) sc_law_with_new.nd rfl (by first | exact .inl rfl | exact .inr rfl) (pe_lst pa_nil)) (pss_cons (ps_for PassesOwn.never rfl (kList (K := K) (pe_call (ok_law_orders T) (hr.mono (by decide)) (by rfl) T.m_law_orders T.F_law_orders.kp T.b_law_orders .nil pass0 (pa_cons (pv 0) pa_nil))) (pg_name (i := 3) sc_law_with_new.nd rfl (by first | exact .inl rfl | exact .inr rfl)) (pss_cons (ps_expr (pe_bm PySem.F.plainAttrs_list PySem.F.slot_list_append PySem.F.type_list_append mt_append (pv 2) (pa_cons (pv 3) pa_nil))) (pss_one (ps_expr (pe_bm PySem.F.plainAttrs_list PySem.F.slot_list_extend PySem.F.type_list_extend mt_extend (pv 2) (pa_cons (pe_lc (own := [("at", 4)]) (g := (gName 4)) (tt := tYes)  rfl sc_law_with_new.nd (pi_range1 (by rfl) T.z_range (pa_cons (pe_op op_addA (pe_callB (kLen (K := K)) (by rfl) T.z_len PySem.boot_len (pa_cons (pv 3) pa_nil)) pe_int) pa_nil)) (blkOk_by (own := [("at", 4)]) (N := N_law_with_new) (sc := defScope s_law_with_new) (by decide +kernel)) (fun _ _ _ _ _ => (pg_name (i := 4) sc_law_with_new.nd rfl (by first | exact .inl rfl | exact .inr rfl))) (fun _ _ _ _ _ => pts_nil) (fun _ _ _ _ _ => (pe_op op_addA (pe_op op_addA (pe_slice (kSl (K := K)) (pv 3) po_none (po_some (pv 4))) (pe_lst (pa_cons (pv 1) pa_nil))) (pe_slice (kSl (K := K)) (pv 3) (po_some (pv 4)) po_none)))) pa_nil)))))) (pss_one (ps_ret (pv 2))))), fun A ds hW ⟨ts, x, e, h5⟩ => ?_⟩)
  subst e
  have hz := sizeLine_eq
  have ob := Nat.le_trans (ord_le (ts := ts) rfl h5) (Nat.pow_le_pow_right (n := 5) (by decide) h5)
  have nl : ∀ i, (newR ((ordR ts.length ts).take i) x).length ≤ 5 ^ 5 * 10 := fun i => by
    have h1 := flatMap_le (f := fun row => insN row x) (k := 10) (l := (ordR ts.length ts).take i) fun row hr => by
      have h2 := (ord_of (ts := ts) rfl (List.mem_of_mem_take hr)).1
      show ((List.range (row.length + 1)).map _).length + 1 ≤ 10
      rw [List.length_map, List.length_range]
      omega
    exact Nat.le_trans h1 (Nat.mul_le_mul_right _ (by rw [List.length_take]; omega))
  refine SS.le (sq_new fun q => sq_for (cN := 0) (c2 := 0) (ei_list (ee_callf (c := 0) (e := .list ((ordR ts.length ts).map strsD)) (ea_cons (c1 := 0) (c2 := 0) (ee_var (d := strsD ts) rfl) ea_nil) ⟨ts, rfl, Nat.lt_of_le_of_lt h5 (by decide), h5⟩ fun r h => h ts rfl)) fun ds e => ?_) (by decide)
  subst e
  refine ⟨fun i ρ' => ∃ (s3 s4 : SV), ρ' = [.im (strsD ts), .im (.str x), .own q ((newR ((ordR ts.length ts).take i) x).map strsD), s3, s4], 0, by omega, ⟨_, _, rfl⟩, ?_, ?_⟩
  · rintro i d ρ1 hd ⟨s3, s4, rfl⟩
    obtain ⟨row, hrow, rfl⟩ := map_get hd
    have rl := (ord_of (ts := ts) rfl (List.mem_of_getElem? hrow)).1
    have rm : (row.map PyData.str).length = row.length := List.length_map _
    have nli := nl i
    have nx : newR ((ordR ts.length ts).take (i + 1)) x = newR ((ordR ts.length ts).take i) x ++ insN row x := by
      unfold newR
      rw [List.take_add_one, hrow, List.flatMap_append]
      simp
    refine ⟨_, tg_name, ?_⟩
    refine SS.le (c := 0 + 0) (sq_app (c1 := 0) (c2 := 0) (p := q) (ds := (newR ((ordR ts.length ts).take i) x).map strsD) rfl (ee_var (d := strsD row) rfl) (by rw [List.length_map]; omega) fun d e => ?_) (by decide)
    subst e
    refine SS.le (c := 0 + 0) (ss_ext (p := q) (ds := (newR ((ordR ts.length ts).take i) x).map strsD ++ [strsD row]) rfl (ee_num (n := row.length + 1) (fun _ => true) (fun k => strsD (insR row k x)) ((ei_rng1 (c := 0) (ear_cons (c1 := 0) (c2 := 0) (ee_pl (i := row.length) (k := 1) (c1 := 0) (c2 := 0) (ee_cb (c := 0) (ear_cons (c1 := 0) (c2 := 0) (ee_var (d := .list (row.map .str)) rfl).r ear_nil) (cld_lenL.toLen rm)).r ee_int.r).r ear_nil) (by omega) (by omega)).imp fun ds e => by rw [e, Int.toNat_natCast]) (by omega) fun k hk => ⟨_, tgw_name (by decide), et_yes, fun _ => ?_⟩) fun d3 e3 => ⟨_, e3, ?_, ?_⟩) (by decide)
    · refine (ee_ct (f := PyData.str) (xs := row.take k ++ [x]) (ys := row.drop k) (c1 := 0) (c2 := 0) (ee_ct (f := PyData.str) (xs := row.take k) (ys := [x]) (c1 := 0) (c2 := 0) (ee_tk (f := PyData.str) (xs := row) (k := k) (c1 := 0) (c2 := 0) (ee_var rfl) (ee_var rfl).r) (ee_l1 (f := PyData.str) (x := x) (c := 0) (ee_var rfl)) (by rw [List.length_take]; show _ + 1 ≤ _; omega)) (ee_dr (f := PyData.str) (xs := row) (k := k) (c1 := 0) (c2 := 0) (ee_var rfl) (ee_var rfl).r) (by rw [List.length_append, List.length_take, List.length_drop]; show _ + 1 + _ ≤ _; omega)).imp fun d e => ?_
      rw [e]
      unfold insR
      show PyData.list ((row.take k ++ [x] ++ row.drop k).map .str) = strsD (row.take k ++ x :: row.drop k)
      rw [List.append_assoc]
      rfl
    · rw [List.length_append, List.length_map, List.length_map]
      have h1 := List.length_filter_le (fun _ => true) (List.range (row.length + 1))
      rw [List.length_range] at h1
      show _ + 1 + _ ≤ _
      omega
    · have e2 : ((List.range (row.length + 1)).filter fun _ => true) = List.range (row.length + 1) := List.filter_eq_self.mpr fun _ _ => rfl
      have e3 : (insN row x).map strsD = strsD row :: (List.range (row.length + 1)).map fun k => strsD (insR row k x) := by
        unfold insN
        rw [List.map_cons, List.map_map]
        rfl
      have e4 : (newR ((ordR ts.length ts).take i) x).map strsD ++ [strsD row] ++ ((List.range (row.length + 1)).filter fun _ => true).map (fun k => strsD (insR row k x)) = (newR ((ordR ts.length ts).take (i + 1)) x).map strsD := by
        rw [e2, nx, List.map_append, e3, List.append_assoc]
        rfl
      rw [e4]
      exact ⟨_, _, rfl⟩
  · rintro ρ1 ⟨s3, s4, rfl⟩
    rw [List.length_map, List.take_length]
    refine ss_freeze (i := 2) (p := q) rfl (SS.le (c := 0) (ss_ret (ee_var (d := .list ((newR (ordR ts.length ts) x).map strsD)) rfl) fun r e ts' x' e' => ?_) (by decide))
    injection e' with e1 e2
    injection e2 with e2 _
    injection e2 with e2
    rw [e, ← strsD_inj e1, ← e2]
theorem ok_law_places : FnOk P w K mg base CX0 2 T.a_law_places T.d_law_places ["rows", "front", "term"] (SPp (fun ds => ∃ (rows : List (List Str)) (b x : Str), ds = [.list (rows.map strsD), .str b, .str x] ∧ rows.length ≤ 100000 ∧ ∀ R ∈ rows, R.length < 4000 ∧ x ∈ R ∧ preS b x = true) (fun ds r => ∀ (rows : List (List Str)) (b x : Str), ds = [.list (rows.map strsD), .str b, .str x] → r = .list ((rows.map fun R => ((plc b x R : Nat) : Int)).map .int))) := by
  refine okp (c := 0) (m := 3) T.F_law_places sc_law_places (fun ds ⟨rows, b, x, e, _⟩ => by rw [e]; rfl) (Nat.zero_le _) (body := fun cdv A outer s H E hr => ⟨_, (pss_one (ps_ret (pe_lc (own := [("row", 3)]) (g := (gName 3)) (tt := tYes)  rfl sc_law_places.nd (kList (K := K) (pv 0)) (blkOk_by (own := [("row", 3)]) (N := N_law_places) (sc := defScope s_law_places) (by decide +kernel)) (fun _ _ _ _ _ => (pg_name (i := 3) sc_law_places.nd rfl (by first | exact .inl rfl | exact .inr rfl))) (fun _ _ _ _ _ => pts_nil) (fun _ _ _ _ _ => (kBm (K := K) PySem.F.plainAttrs_list PySem.F.slot_list_index PySem.F.type_list_index (kIndex (K := K)) (pe_call (ok_law_answer T) (hr.mono (by decide)) (by rfl) T.m_law_answer T.F_law_answer.kp T.b_law_answer .nil pass0 (pa_cons (pv 3) (pa_cons (pv 1) (pa_cons (pe_callB (kLen (K := K)) (by rfl) T.z_len PySem.boot_len (pa_cons (pv 3) pa_nil)) pa_nil)))) (pa_cons (pv 2) pa_nil)))))), fun A ds hW ⟨rows, b, x, e, hl, hr2⟩ => ?_⟩)
  subst e
  refine SS.le (c := 0 + 0) (ss_ret (R := (· = .list ((rows.map fun R => ((plc b x R : Nat) : Int)).map .int))) ((ee_map (fun d => .int (plc b x (rowOf d) : Nat)) (ei_list (ee_var (d := .list (rows.map strsD)) rfl)) (by rw [List.length_map]; omega) fun k d hd => ?u).imp fun d e => ?v) fun r e rows' b' x' e' => ?_) (by decide)
  case u =>
    obtain ⟨R, hR, rfl⟩ := map_get hd
    obtain ⟨h1, h2, h3⟩ := hr2 R (List.mem_of_getElem? hR)
    refine ⟨_, tgw_name (by decide), EE.imp (EE.le (c := 0 + 0) (ee_index (ys := R.filter (preS b)) (x := x) (ee_callf (c := 0) (e := strsD (R.filter (preS b))) (ea_cons (c1 := 0) (c2 := 0) (ee_var (d := strsD R) rfl) (ea_cons (c1 := 0) (c2 := 0) (ee_var (d := .str b) rfl) (ea_cons (c1 := 0) (c2 := 0) (ee_cb (c := 0) (ear_cons (c1 := 0) (c2 := 0) (ee_var (d := strsD R) rfl).r ear_nil) (cld_lenL.toLen (List.length_map _))) ea_nil))) ⟨R, b, R.length, rfl, h1⟩ fun r h => (h R b R.length rfl).trans (by rw [List.take_of_length_le (List.length_filter_le _ _)])) (ee_var rfl) (List.mem_filter.mpr ⟨h2, h3⟩)) (by decide)) fun d e => by rw [e, rowOf_strs]; rfl⟩
  case v =>
    rw [e, List.map_map, List.map_map]
    exact congrArg PyData.list (List.map_congr_left fun R _ => by show PyData.int (plc b x (rowOf (strsD R)) : Nat) = _; rw [rowOf_strs]; rfl)
  injection e' with e1 e2
  injection e1 with e1
  injection e2 with e2 e3
  injection e3 with e3 _
  injection e2 with e2
  injection e3 with e3
  have er : rows = rows' := by
    have q := congrArg (List.map rowOf) e1
    rw [List.map_map, List.map_map] at q
    have id1 : ∀ us : List (List Str), us.map (rowOf ∘ strsD) = us := fun us => (List.map_congr_left fun t _ => rowOf_strs t).trans (List.map_id us)
    rwa [id1, id1] at q
  rw [e, er, e2, e3]
include tb hcA
def Ctx32 (xs : List Str) (ss : List Scr) : Prop := xs.Nodup ∧ xs.length ≤ 5 ∧ (∀ y ∈ xs, OfL "ab" y) ∧ (∀ s ∈ ss, (ScrOk s ∧ shows xs s = true) ∧ OfL "ab" s.b) ∧ ss.length ≤ 20
theorem ok_law_right : FnG P w K mg base CX0 11 T.a_law_right T.d_law_right ["views", "known", "front", "term"] (SPt (tabsOf PA "all_above") (fun ds => ∃ (xs : List Str) (ss : List Scr) (b x : Str), ds = [screensD ss, strsD (knownS ss), .str b, .str x] ∧ Ctx32 xs ss ∧ x ∈ knownS ss ∧ b ∈ fronts x) (fun ds r => r = .bool true)) := by
  refine oktG (c := 0) (m := 4) T.F_law_right sc_law_right (fun ds ⟨xs, ss, b, x, e, _⟩ => by rw [e]; rfl) (Nat.zero_le _) (body := fun cdv A outer s H E hr hgd => ⟨_, (pss_cons (ps_setLc (i := 4) (own := [("row", 12)]) (g := (gName 12))  rfl sc_law_right.nd rfl rfl (sw_true rfl rfl rfl (by decide +kernel)) (kList (K := K) (pe_call (ok_law_orders T) (hr.mono (by decide)) (by rfl) T.m_law_orders T.F_law_orders.kp T.b_law_orders .nil pass0 (pa_cons (pv 1) pa_nil))) (blkOk_by (own := [("row", 12)]) (N := N_law_right) (sc := defScope s_law_right) (by decide +kernel)) (fun _ _ _ _ _ => (pg_name (i := 12) sc_law_right.nd rfl (by first | exact .inl rfl | exact .inr rfl))) (fun _ _ _ _ _ => pts_one (pt_val (pe_call (ok_law_shows T) (hr.mono (by decide)) (by rfl) T.m_law_shows T.F_law_shows.kp T.b_law_shows .nil pass0 (pa_cons (pv 12) (pa_cons (pv 0) pa_nil))))) (fun _ _ _ _ _ => (pv 12))) (pss_cons (ps_set (i := 5) sc_law_right.nd rfl (by first | exact .inl rfl | exact .inr rfl) (pe_call (ok_law_places T) (hr.mono (by decide)) (by rfl) T.m_law_places T.F_law_places.kp T.b_law_places .nil pass0 (pa_cons (pv 4) (pa_cons (pv 2) (pa_cons (pv 3) pa_nil))))) (pss_cons (ps_set (i := 6) sc_law_right.nd rfl (by first | exact .inl rfl | exact .inr rfl) (pe_op op_addA (pv 2) pe_str)) (pss_cons (ps_setLc (i := 7) (own := [("row", 12)]) (g := (gName 12))  rfl sc_law_right.nd rfl rfl (sw_true rfl rfl rfl (by decide +kernel)) (kList (K := K) (pe_call (ok_law_with_new T) (hr.mono (by decide)) (by rfl) T.m_law_with_new T.F_law_with_new.kp T.b_law_with_new .nil pass0 (pa_cons (pv 1) (pa_cons (pv 6) pa_nil)))) (blkOk_by (own := [("row", 12)]) (N := N_law_right) (sc := defScope s_law_right) (by decide +kernel)) (fun _ _ _ _ _ => (pg_name (i := 12) sc_law_right.nd rfl (by first | exact .inl rfl | exact .inr rfl))) (fun _ _ _ _ _ => pts_one (pt_cmpR (kIn (K := K)) (pv 6) (pv 12) (by rfl))) (fun _ _ _ _ _ => (pv 12))) (pss_cons (ps_setLc (i := 7) (own := [("row", 12)]) (g := (gName 12))  rfl sc_law_right.nd rfl rfl (sw_true rfl rfl rfl (by decide +kernel)) (kList (K := K) (pv 7)) (blkOk_by (own := [("row", 12)]) (N := N_law_right) (sc := defScope s_law_right) (by decide +kernel)) (fun _ _ _ _ _ => (pg_name (i := 12) sc_law_right.nd rfl (by first | exact .inl rfl | exact .inr rfl))) (fun _ _ _ _ _ => pts_one (pt_cmpR op_ltA (kBm (K := K) PySem.F.plainAttrs_list PySem.F.slot_list_index PySem.F.type_list_index (kIndex (K := K)) (pv 12) (pa_cons (pv 6) pa_nil)) (kBm (K := K) PySem.F.plainAttrs_list PySem.F.slot_list_index PySem.F.type_list_index (kIndex (K := K)) (pv 12) (pa_cons (pv 3) pa_nil)) (nomark _))) (fun _ _ _ _ _ => (pv 12))) (pss_cons (ps_set (i := 8) sc_law_right.nd rfl (by first | exact .inl rfl | exact .inr rfl) (pe_cmpR (op_neP hr.units) (pe_lc (own := [("row", 12)]) (g := (gName 12))  rfl sc_law_right.nd (kList (K := K) (pv 7)) (blkOk_by (own := [("row", 12)]) (N := N_law_right) (sc := defScope s_law_right) (by decide +kernel)) (fun _ _ _ _ _ => (pg_name (i := 12) sc_law_right.nd rfl (by first | exact .inl rfl | exact .inr rfl))) (fun _ _ _ _ _ => pts_one (pt_val (pe_call (ok_law_shows T) (hr.mono (by decide)) (by rfl) T.m_law_shows T.F_law_shows.kp T.b_law_shows .nil pass0 (pa_cons (pv 12) (pa_cons (pv 0) pa_nil))))) (fun _ _ _ _ _ => pe_int)) (pe_lst pa_nil) (nomark _))) (pss_cons (ps_set (i := 9) sc_law_right.nd rfl (by first | exact .inl rfl | exact .inr rfl) (pe_lst (pa_cons (pe_tup (pa_cons (pe_callB (kMinL (K := K) rfl) (by rfl) T.z_min PyProof.Rows.boot_min (pa_cons (pv 5) pa_nil)) (pa_cons (pe_ifExp (pt_val (pv 8)) pe_non (pe_callB (kMaxL (K := K) rfl) (by rfl) T.z_max PyProof.Rows.boot_max (pa_cons (pv 5) pa_nil))) pa_nil))) (pa_cons (pe_tup (pa_cons (pe_callB (kMinL (K := K) rfl) (by rfl) T.z_min PyProof.Rows.boot_min (pa_cons (pv 5) pa_nil)) (pa_cons (pe_callB (kMaxL (K := K) rfl) (by rfl) T.z_max PyProof.Rows.boot_max (pa_cons (pv 5) pa_nil)) pa_nil))) pa_nil)))) (pss_cons (ps_set (i := 10) sc_law_right.nd rfl (by first | exact .inl rfl | exact .inr rfl) (pe_lst (pa_cons (pe_call (dvs := [V.bl false]) (ok_place_range T tb hcA) (hr.mono (by decide)) (by rfl) T.m_place_range T.F_place_range.kp T.b_place_range (.cons rfl .nil) pass0 (pa_cons (pv 0) (pa_cons (pv 2) (pa_cons (pv 3) pa_nil)))) (pa_cons (pe_callN (ok_place_range T tb hcA) (hr.mono (by decide)) (by rfl) T.m_place_range T.F_place_range.kp (kbn_place_range_only_known T.F_place_range) pass0 (pa_cons (pv 0) (pa_cons (pv 2) (pa_cons (pv 3) pa_nil))) (pk_cons pe_bl pk_nil)) pa_nil)))) (pss_cons (ps_set (i := 11) sc_law_right.nd rfl (by first | exact .inl rfl | exact .inr rfl) (pe_call0K (ok_place_range T tb hcA) (hr.mono (by decide)) (by rfl) T.m_place_range T.F_place_range.kp (kb_place_range_only_known_word_beginning_screens T.F_place_range) pass0 (pk_cons pe_bl (pk_cons (pv 3) (pk_cons (pv 2) (pk_cons (pv 0) pk_nil)))))) (pss_one (ps_ret (pe_and (pe_cmpR (op_eqP hr.units) (pe_callB (call_reprPN hgd hr.units) (by rfl) T.z_repr PyProof.Rows.boot_repr (pa_cons (pv 10) pa_nil)) (pe_callB (call_reprPN hgd hr.units) (by rfl) T.z_repr PyProof.Rows.boot_repr (pa_cons (pv 9) pa_nil)) (nomark _)) (pe_one (pe_cmpR (op_eqP hr.units) (pe_callB (call_reprPN hgd hr.units) (by rfl) T.z_repr PyProof.Rows.boot_repr (pa_cons (pv 11) pa_nil)) (pe_callB (call_reprPN hgd hr.units) (by rfl) T.z_repr PyProof.Rows.boot_repr (pa_cons (pe_ix (kIx (K := K)) (pv 9) pe_int (fun _ _ => rfl)) pa_nil)) (nomark _))))))))))))))), fun A ds hW ⟨xs, ss, b, x, e, ⟨nd, x5, hx0, hss, hn⟩, hx, bm⟩ => ?_⟩)
  subst e
  have hz := sizeLine_eq
  have hs : ∀ s ∈ ss, ScrOk s := fun s h => (hss s h).1.1
  have ut : tornAll ss = false := untorn nd fun s h => (hss s h).1
  have nc : clashF ss = none := (clashF_none hs).mpr ut
  have k5 : (knownS ss).length ≤ 5 := Nat.le_trans (known5 nd fun s h => (hss s h).1.2) x5
  have xw := known_wl hs hx
  have xb := wordS_beg xw.1
  have pb := front_pre_of bm
  have bl := front_len bm
  have bb : begS b = true := by
    obtain ⟨n, _, rfl⟩ := List.mem_map.mp bm
    exact begS_take xb n
  have ob := Nat.le_trans (ord_le (ts := knownS ss) rfl k5) (Nat.pow_le_pow_right (n := 5) (by decide) k5)
  have sh : ∀ {ρ : List SV} {E : XK} {R : List Str}, ρ[12]? = some (.im (strsD R)) → ρ[0]? = some (.im (screensD ss)) → R.length < 4000 → EE A (tCall (SPp (fun ds => ∃ (R : List Str) (ss : List Scr), ds = [strsD R, screensD ss] ∧ R.length < 4000 ∧ ss.length ≤ 1000) (fun ds r => ∀ (R : List Str) (ss : List Scr), ds = [strsD R, screensD ss] → r = .bool (fitsAll ss R))) [] E (tCons (tVar 12) (tCons (tVar 0) tNil))) ρ 0 (· = .bool (fitsAll ss R)) := fun {ρ E R} h1 h2 h3 => ee_callf (c := 0) (ea_cons (c1 := 0) (c2 := 0) (ee_var h1) (ea_cons (c1 := 0) (c2 := 0) (ee_var h2) ea_nil)) ⟨R, ss, rfl, h3, by omega⟩ fun r h => h R ss rfl
  refine SS.le (c := (0 + 0) + 0) (sq_set (c2 := 0) (R := (· = .list ((rowsF ss).map strsD))) ((ee_fil (fun d => fitsAll ss (rowOf d)) (fun d => d) (ei_list (ee_callf (c := 0) (e := .list ((ordR (knownS ss).length (knownS ss)).map strsD)) (ea_cons (c1 := 0) (c2 := 0) (ee_var (d := strsD (knownS ss)) rfl) ea_nil) ⟨knownS ss, rfl, Nat.lt_of_le_of_lt k5 (by decide), k5⟩ fun r h => h _ rfl)) (by rw [List.length_map]; omega) fun k d hd => ?fit).imp fun d e => by rw [e, fil_strsD]; rfl) fun d e => ?_) (by decide)
  case fit =>
    obtain ⟨R, hR, rfl⟩ := map_get hd
    have hl := (ord_perm rfl (List.mem_of_getElem? hR)).length_eq
    exact ⟨_, tgw_name (by decide), (et_bool (sh rfl rfl (by omega)).r).imp fun b e => by rw [e, rowOf_strs], fun _ => ee_var rfl⟩
  subst e
  have rl : (rowsF ss).length ≤ 5 ^ 5 := Nat.le_trans (List.length_filter_le _ _) ob
  have rf : ∀ R ∈ rowsF ss, R.length < 4000 ∧ x ∈ R ∧ preS b x = true := fun R h => by
    obtain ⟨pm, rn, _⟩ := rowF_facts h
    exact ⟨by rw [pm.length_eq]; omega, pm.mem_iff.mpr hx, pb⟩
  generalize hps : (rowsF ss).map (fun R => ((plc b x R : Nat) : Int)) = ps
  refine SS.le (c := 0 + 0) (sq_set (c2 := 0) (R := (· = .list (ps.map .int))) (ee_callf (c := 0) (ea_cons (c1 := 0) (c2 := 0) (ee_var (d := .list ((rowsF ss).map strsD)) rfl) (ea_cons (c1 := 0) (c2 := 0) (ee_var (d := .str b) rfl) (ea_cons (c1 := 0) (c2 := 0) (ee_var (d := .str x) rfl) ea_nil))) ⟨rowsF ss, b, x, rfl, by omega, rf⟩ fun r h => (h _ b x rfl).trans (by rw [hps])) fun d e => ?_) (by decide)
  subst e
  have zl : ("zzzz" : Str).length = 4 := by decide
  refine SS.le (c := 0 + 0 + 0) (sq_set (c2 := 0) (R := (· = .str (b ++ "zzzz"))) (ee_op (c1 := 0) (c2 := 0) (ee_var (d := .str b) rfl).r ee_str.r (od_addS (by rw [zl]; omega))) fun d e => ?_) (by decide)
  subst e
  generalize hfr : b ++ "zzzz" = fr
  have nl : (newR (ordR (knownS ss).length (knownS ss)) fr).length ≤ 5 ^ 5 * 10 := by
    have h1 := flatMap_le (f := fun row => insN row fr) (k := 10) (l := ordR (knownS ss).length (knownS ss)) fun row hr => by
      have h2 := (ord_of (ts := knownS ss) rfl hr).1
      show ((List.range (row.length + 1)).map _).length + 1 ≤ 10
      rw [List.length_map, List.length_range]
      omega
    exact Nat.le_trans h1 (Nat.mul_le_mul_right _ ob)
  have nm : ∀ R ∈ newR (ordR (knownS ss).length (knownS ss)) fr, R.length ≤ 6 ∧ x ∈ R := fun R hR => by
    obtain ⟨row, hr, hi⟩ := List.mem_flatMap.mp hR
    have pm := ord_perm rfl hr
    rcases List.mem_cons.mp hi with e | hi
    · rw [e]
      exact ⟨by rw [pm.length_eq]; omega, pm.mem_iff.mpr hx⟩
    · obtain ⟨k, _, rfl⟩ := List.mem_map.mp hi
      have p2 := ins_perm' row k fr
      exact ⟨by rw [p2.length_eq, List.length_cons, pm.length_eq]; omega, p2.mem_iff.mpr (List.mem_cons_of_mem _ (pm.mem_iff.mpr hx))⟩
  generalize hm1 : (newR (ordR (knownS ss).length (knownS ss)) fr).filter (fun R => decide (fr ∈ R)) = m1
  have m1f : ∀ R ∈ m1, R.length ≤ 6 ∧ x ∈ R ∧ fr ∈ R := fun R h => by
    rw [← hm1] at h
    obtain ⟨h1, h2⟩ := List.mem_filter.mp h
    obtain ⟨h3, h4⟩ := nm R h1
    exact ⟨h3, h4, of_decide_eq_true h2⟩
  have m1l : m1.length ≤ 5 ^ 5 * 10 := by rw [← hm1]; exact Nat.le_trans (List.length_filter_le _ _) nl
  refine SS.le (c := (0 + 0) + 0) (sq_set (c2 := 0) (R := (· = .list (m1.map strsD))) ((ee_fil (fun d => decide (fr ∈ rowOf d)) (fun d => d) (ei_list (ee_callf (c := 0) (e := .list ((newR (ordR (knownS ss).length (knownS ss)) fr).map strsD)) (ea_cons (c1 := 0) (c2 := 0) (ee_var (d := strsD (knownS ss)) rfl) (ea_cons (c1 := 0) (c2 := 0) (ee_var (d := .str fr) (by rw [← hfr]; rfl)) ea_nil)) ⟨knownS ss, fr, rfl, k5⟩ fun r h => h _ fr rfl)) (by rw [List.length_map]; omega) fun k d hd => ?m1).imp fun d e => by rw [e, fil_strsD fun R => decide (fr ∈ R), hm1]) fun d e => ?_) (by decide)
  case m1 =>
    obtain ⟨R, hR, rfl⟩ := map_get hd
    exact ⟨_, tgw_name (by decide), (et_testB (ee_op (c1 := 0) (c2 := 0) (ee_var (d := .str fr) (by rw [← hfr]; rfl)).r (ee_var (d := .list (R.map .str)) rfl).r (od_in rfl (flat_strs R))).r).imp fun t e => by rw [e, any_strs, rowOf_strs]; rfl, fun _ => ee_var rfl⟩
  subst e
  generalize hm2 : m1.filter (fun R => decide (R.idxOf fr < R.idxOf x)) = m2
  have m2l : m2.length ≤ 5 ^ 5 * 10 := by rw [← hm2]; exact Nat.le_trans (List.length_filter_le _ _) m1l
  refine SS.le (c := (0 + 0) + 0) (sq_set (c2 := 0) (R := (· = .list (m2.map strsD))) ((ee_fil (fun d => decide ((rowOf d).idxOf fr < (rowOf d).idxOf x)) (fun d => d) (ei_list (ee_var (d := .list (m1.map strsD)) rfl)) (by rw [List.length_map]; omega) fun k d hd => ?m2).imp fun d e => by rw [e, fil_strsD fun R => decide (R.idxOf fr < R.idxOf x), hm2]) fun d e => ?_) (by decide)
  case m2 =>
    obtain ⟨R, hR, rfl⟩ := map_get hd
    obtain ⟨h1, h2, h3⟩ := m1f R (List.mem_of_getElem? hR)
    exact ⟨_, tgw_name (by decide), (et_testB (ee_op (c1 := 0) (c2 := 0) (EE.le (c := 0 + 0) (ee_index (ys := R) (x := fr) (ee_var rfl) (ee_var (by rw [← hfr]; rfl)) h3) (by decide)).r (EE.le (c := 0 + 0) (ee_index (ys := R) (x := x) (ee_var rfl) (ee_var rfl) h2) (by decide)).r od_ltI).r).imp fun t e => by rw [e, rowOf_strs]; exact decide_eq_decide.mpr Int.ofNat_lt, fun _ => ee_var rfl⟩
  subst e
  have em2 : m2 = freeR ss b x := by
    rw [← hm2, ← hm1, ← hfr]
    rfl
  have m2f : ∀ R ∈ m2, R.length ≤ 6 := fun R h => by
    rw [← hm2] at h
    exact (m1f R (List.mem_filter.mp h).1).1
  refine SS.le (c := 0 + 0) (sq_set (c2 := 0) (R := (· = .bool (!oneB ss b x))) ((ee_op (c1 := 0 + 0) (c2 := 0) (ee_fil (fun d => fitsAll ss (rowOf d)) (fun _ => .int 1) (ei_list (ee_var (d := .list (m2.map strsD)) rfl)) (by rw [List.length_map]; omega) fun k d hd => ?fr).r (ee_lst ea_nil).r (od_ne (plain_ones _) rfl (Nat.le_trans (Nat.min_le_right _ _) (by decide)))).imp fun d e => ?fe) fun d e => ?_) (by decide)
  case fr =>
    obtain ⟨R, hR, rfl⟩ := map_get hd
    have hl := m2f R (List.mem_of_getElem? hR)
    exact ⟨_, tgw_name (by decide), (et_bool (sh rfl rfl (by omega)).r).imp fun b e => by rw [e, rowOf_strs], fun _ => ee_int⟩
  case fe =>
    rw [e, eqv_fil, Bool.not_not, List.any_map, ← free_iff nd hx0 hss hx pb, ← em2]
    exact congrArg PyData.bool (congrArg (List.any m2) (funext fun R => by show fitsAll ss (rowOf (strsD R)) = _; rw [rowOf_strs]))
  subst e
  have cl4 : cntB ss x b ≤ 400 := Nat.le_trans (cntB_le ss x b) (by omega)
  have ml4 : mostB ss x b ≤ 400 := by
    unfold mostB
    have h1 := List.length_filter_le (fun y => !prec ss x y) ((knownS ss).filter (preS b))
    have h2 := List.length_filter_le (preS b) (knownS ss)
    omega
  have mn : ∀ {ρ : List SV}, ρ[5]? = some (.im (.list (ps.map .int))) → EE A (tCB (rMin K) (tCons (tVar 5) tNil)) ρ 0 (· = .int (cntB ss x b : Nat)) := fun h => ee_cb (c := 0) (ear_cons (c1 := 0) (c2 := 0) (ee_var h).r ear_nil) (cld_minL (by
    obtain ⟨R, hR, e⟩ := plc_least nd hss hx pb
    rw [← hps]
    exact List.mem_map.mpr ⟨R, hR, by rw [e]⟩) fun y hy => by
    rw [← hps] at hy
    obtain ⟨R, hR, rfl⟩ := List.mem_map.mp hy
    obtain ⟨pm, rn, shR⟩ := rowF_facts hR
    exact Int.ofNat_le.mpr (place_ge rn shR hs (pm.mem_iff.mpr hx) pb))
  have mx : ∀ {ρ : List SV}, ρ[5]? = some (.im (.list (ps.map .int))) → EE A (tCB (rMax K) (tCons (tVar 5) tNil)) ρ 0 (· = .int (mostB ss x b : Nat)) := fun h => ee_cb (c := 0) (ear_cons (c1 := 0) (c2 := 0) (ee_var h).r ear_nil) (cld_maxL (by
    obtain ⟨R, hR, e⟩ := plc_most nd hss hx pb
    rw [← hps]
    exact List.mem_map.mpr ⟨R, hR, by rw [e]⟩) fun y hy => by
    rw [← hps] at hy
    obtain ⟨R, hR, rfl⟩ := List.mem_map.mp hy
    obtain ⟨pm, rn, shR⟩ := rowF_facts hR
    exact Int.ofNat_le.mpr (place_most rn (fun y hy => pm.mem_iff.mp hy) shR hs (pm.mem_iff.mpr hx) pb))
  have two2 : 2 ≤ sizeLine := by omega
  have fm : oneB ss b x = true → mostB ss x b = cntB ss x b := fixed_most hs ut hx pb
  obtain ⟨X, hX⟩ : ∃ X, (if oneB ss b x = true then PyData.int (cntB ss x b : Nat) else .none) = X := ⟨_, rfl⟩
  have sX : SmI X := by
    rw [← hX]
    split
    · exact .inr ⟨_, rfl, cl4⟩
    · exact .inl rfl
  refine SS.le (c := 0 + 0) (sq_set (c2 := 0) (R := (· = .list [.tuple [.int (cntB ss x b : Nat), X], .tuple [.int (cntB ss x b : Nat), .int (mostB ss x b : Nat)]])) (ee_lst (ea_cons (c1 := 0) (c2 := 0) (ee_tup (ea_cons (c1 := 0) (c2 := 0) (mn rfl) (ea_cons (c1 := 0) (c2 := 0) (EE.le (c := 0 + 0) (ee_ifR (c1 := 0) (c2 := 0) (et_bool (ee_var (d := .bool (!oneB ss b x)) rfl).r) (fun h => ee_non.imp fun d e => by rw [e, ← hX, if_neg (by intro z; rw [z] at h; cases h)]) fun h => (mx rfl).imp fun d e => by
    have ho : oneB ss b x = true := by
      cases q : oneB ss b x with
      | true => rfl
      | false => rw [q] at h; cases h
    rw [e, ← hX, if_pos ho, fm ho]) (by decide)) ea_nil)) two2) (ea_cons (c1 := 0) (c2 := 0) (ee_tup (ea_cons (c1 := 0) (c2 := 0) (mn rfl) (ea_cons (c1 := 0) (c2 := 0) (mx rfl) ea_nil)) two2) ea_nil)) two2) fun d e => ?_) (by decide)
  subst e
  have q3 : ∀ {ρ : List SV}, ρ[0]? = some (.im (screensD ss)) → ρ[2]? = some (.im (.str b)) → ρ[3]? = some (.im (.str x)) → EA A (tCons (tVar 0) (tCons (tVar 2) (tCons (tVar 3) tNil))) ρ 0 (· = [screensD ss, .str b, .str x]) := fun h1 h2 h3 => ea_cons (c1 := 0) (c2 := 0) (ee_var h1) (ea_cons (c1 := 0) (c2 := 0) (ee_var h2) (ea_cons (c1 := 0) (c2 := 0) (ee_var h3) ea_nil))
  have rX : rangeD ss b x false = .tuple [.int (cntB ss x b : Nat), X] := by unfold rangeD; rw [← hX]; rfl
  refine SS.le (c := 0 + 0) (sq_set (c2 := 0) (R := (· = .list [.tuple [.int (cntB ss x b : Nat), X], .tuple [.int (cntB ss x b : Nat), .int (mostB ss x b : Nat)]])) (ee_lst (ea_cons (c1 := 0) (c2 := 0) (ee_calltD (c := 0) hW (q3 rfl rfl rfl) ⟨ss, b, x, false, rfl, hn, hs, nc, hx, by omega, bb, pb⟩ fun r h => (h ss b x false rfl).trans rX) (ea_cons (c1 := 0) (c2 := 0) (EE.le (c := 0 + 0) (ee_calltN (n := 3) (m := 1) hW (q3 rfl rfl rfl) (ea_cons (c1 := 0) (c2 := 0) (ee_bl (b := true)) ea_nil) rfl rfl ⟨ss, b, x, true, rfl, hn, hs, nc, hx, by omega, bb, pb⟩ fun r h => (h ss b x true rfl).trans rfl) (by decide)) ea_nil)) two2) fun d e => ?_) (by decide)
  subst e
  refine SS.le (c := 0 + 0) (sq_set (c2 := 0) (R := (· = .tuple [.int (cntB ss x b : Nat), X])) ((ee_callt0K (c := 0) (pd := fun _ => [screensD ss, .str b, .str x, .bool false]) hW (ea_cons (c1 := 0) (c2 := 0) ee_bl (ea_cons (c1 := 0) (c2 := 0) (ee_var (d := .str x) rfl) (ea_cons (c1 := 0) (c2 := 0) (ee_var (d := .str b) rfl) (ea_cons (c1 := 0) (c2 := 0) (ee_var (d := screensD ss) rfl) ea_nil)))) (fun H vs k => by
    cases k with
    | cons k1 k =>
      cases k with
      | cons k2 k =>
        cases k with
        | cons k3 k =>
          cases k with
          | cons k4 k =>
            cases k
            exact .cons k4 (.cons k3 (.cons k2 (.cons k1 .nil)))) ⟨ss, b, x, false, rfl, hn, hs, nc, hx, by omega, bb, pb⟩).imp fun r h => (h ss b x false rfl).trans rX) fun d e => ?_) (by decide)
  subst e
  have rp : ∀ {ρ : List SV} {m : Nat}, ρ[m]? = some (.im (.list [.tuple [.int (cntB ss x b : Nat), X], .tuple [.int (cntB ss x b : Nat), .int (mostB ss x b : Nat)]])) → EE A (tCB rReprPN (tCons (tVar m) tNil)) ρ 0 (· = .str (PyData.list [.tuple [.int (cntB ss x b : Nat), X], .tuple [.int (cntB ss x b : Nat), .int (mostB ss x b : Nat)]]).shown) := fun h => ee_cb (c := 0) (ear_cons (c1 := 0) (c2 := 0) (ee_var h).r ear_nil) (cld_places (.inr ⟨_, rfl, cl4⟩) sX (.inr ⟨_, rfl, cl4⟩) (.inr ⟨_, rfl, ml4⟩))
  have rq : ∀ {te : TE} {ρ : List SV}, EE A te ρ 0 (· = .tuple [.int (cntB ss x b : Nat), X]) → EE A (tCB rReprPN (tCons te tNil)) ρ 0 (· = .str (PyData.tuple [.int (cntB ss x b : Nat), X]).shown) := fun h => ee_cb (c := 0) (ear_cons (c1 := 0) (c2 := 0) h.r ear_nil) (cld_place1 (.inr ⟨_, rfl, cl4⟩) sX)
  have ones : ∀ {te tf : TE} {ρ : List SV} {t : Str}, EE A te ρ 0 (· = .str t) → EE A tf ρ 0 (· = .str t) → EE A (tOp rEqP te tf) ρ 0 (· = .bool true) := fun h1 h2 => EE.imp (EE.le (c := 0 + 0) (ee_op h1.r h2.r (od_eq rfl rfl (Nat.zero_le _))) (by decide)) fun d e => by rw [e]; exact congrArg PyData.bool ((eqv_str _ _).trans (decide_eq_true rfl))
  refine SS.le (c := 0 + 0) (ss_ret (ee_andV (c1 := 0) (c2 := 0) (a := true) (b := true) (ones (rp rfl) (rp rfl)).r fun _ => ones (rq (ee_var rfl)) (rq (EE.le (c := 0 + 0) (ee_ixR (ee_var (d := .list [.tuple [.int (cntB ss x b : Nat), X], .tuple [.int (cntB ss x b : Nat), .int (mostB ss x b : Nat)]]) rfl) ee_int.r fun d1 d2 e1 e2 => ⟨_, 0, _, .inl e1, e2, atI_nat (j := 0) rfl, rfl⟩) (by decide)))) fun r e => e) (by decide)
omit tb hcA
include tb hcA
theorem ok_law : FnG P w K mg base CX0 12 T.a_law T.d_law ["script"] (spLawT K (tabsOf PA "all_above")) := by
  refine DL.Fun.okG T.F_law sc_law (fun vs H Q E ⟨a, ns, e, _⟩ => by rw [e]; rfl) (fun cdv A outer s H vs Q E hr hgd ⟨a, ns, e, hS, hl, only, tabs, q⟩ => ?_)
  subst e
  refine ⟨_, PSs.nox (pss_cons (ps_for PassesOwn.never rfl (pi_range1 (by rfl) T.z_range (pa_cons (pe_callB (call_max2 rfl) (by rfl) T.z_max PyProof.Rows.boot_max (pa_cons pe_int (pa_cons (pe_callB (call_min2 rfl) (by rfl) T.z_min PyProof.Rows.boot_min (pa_cons pe_int (pa_cons (pe_callB (kLen (K := K)) (by rfl) T.z_len PySem.boot_len (pa_cons (pv 0) pa_nil)) pa_nil))) pa_nil))) pa_nil)) (pg_name (i := 1) sc_law.nd rfl (by first | exact .inl rfl | exact .inr rfl)) (pss_cons (ps_set (i := 3) sc_law.nd rfl (by first | exact .inl rfl | exact .inr rfl) (pe_call (ok_law_jar T) (hr.mono (by decide)) (by rfl) T.m_law_jar T.F_law_jar.kp T.b_law_jar .nil pass0 (pa_cons (pv 0) (pa_cons (pv 1) pa_nil)))) (pss_cons (ps_set (i := 2) sc_law.nd rfl (by first | exact .inl rfl | exact .inr rfl) (pe_call (ok_law_views T) (hr.mono (by decide)) (by rfl) T.m_law_views T.F_law_views.kp T.b_law_views .nil pass0 (pa_cons (pv 3) (pa_cons (pe_call (ok_law_terms T) (hr.mono (by decide)) (by rfl) T.m_law_terms T.F_law_terms.kp T.b_law_terms .nil pass0 (pa_cons (pv 3) (pa_cons pe_int (pa_cons pe_str (pa_cons pe_int pa_nil))))) (pa_cons pe_int (pa_cons pe_int (pa_cons pe_str pa_nil))))))) (pss_cons (ps_par (i := 4) (j := 5) rfl sc_law.nd rfl rfl (by decide) rfl rfl (pa_cons (pe_call (ok_law_known T) (hr.mono (by decide)) (by rfl) T.m_law_known T.F_law_known.kp T.b_law_known .nil pass0 (pa_cons (pv 2) pa_nil)) (pa_cons (pe_callB (call_reprPN hgd hr.units) (by rfl) T.z_repr PyProof.Rows.boot_repr (pa_cons (pv 2) pa_nil)) pa_nil)) rfl) (pss_one (ps_for PassesOwn.never rfl (pi_range1 (by rfl) T.z_range (pa_cons (pe_op op_mulA pe_int (pe_callTy call_int1 (by rfl) T.z_int PyProof.Rows.boot_int (pa_cons (pe_cmpR (op_neP hr.units) (pv 4) (pe_lst pa_nil) (nomark _)) pa_nil))) pa_nil)) (pg_name (i := 6) sc_law.nd rfl (by first | exact .inl rfl | exact .inr rfl)) (pss_cons (ps_set (i := 7) sc_law.nd rfl (by first | exact .inl rfl | exact .inr rfl) (pe_ix (kIx (K := K)) (pv 4) (pe_call (ok_law_dip T) (hr.mono (by decide)) (by rfl) T.m_law_dip T.F_law_dip.kp T.b_law_dip .nil pass0 (pa_cons (pv 3) (pa_cons (pe_callB (kLen (K := K)) (by rfl) T.z_len PySem.boot_len (pa_cons (pv 4) pa_nil)) pa_nil))) (fun _ _ => rfl))) (pss_cons (ps_set (i := 8) sc_law.nd rfl (by first | exact .inl rfl | exact .inr rfl) (pe_slice (kSl (K := K)) (pv 7) po_none (po_some (pe_call (ok_law_dip T) (hr.mono (by decide)) (by rfl) T.m_law_dip T.F_law_dip.kp T.b_law_dip .nil pass0 (pa_cons (pv 3) (pa_cons (pe_op op_addA (pe_callB (kLen (K := K)) (by rfl) T.z_len PySem.boot_len (pa_cons (pv 7) pa_nil)) pe_int) pa_nil)))))) (pss_one (ps_if (PW.pt (pw_or (pt_not (pt_val (pe_callG (ok_law_right T tb hcA) (hr.mono (by decide)) hgd (by rfl) T.m_law_right T.F_law_right.kp T.b_law_right .nil pass0 (pa_cons (pv 2) (pa_cons (pv 4) (pa_cons (pv 8) (pa_cons (pv 7) pa_nil))))))) (pw_or1 (pt_cmpR (op_neP hr.units) (pe_callB (call_reprPN hgd hr.units) (by rfl) T.z_repr PyProof.Rows.boot_repr (pa_cons (pv 2) pa_nil)) (pv 5) (nomark _))))) (pss_one (ps_ret pe_bl)) pss_nil)))))))))) (pss_cons (ps_set (i := 2) sc_law.nd rfl (by first | exact .inl rfl | exact .inr rfl) (pe_lst (pa_cons (pe_tup (pa_cons pe_str (pa_cons pe_int (pa_cons (pe_lst (pa_cons pe_str (pa_cons pe_str pa_nil))) pa_nil)))) (pa_cons (pe_tup (pa_cons pe_str (pa_cons pe_int (pa_cons (pe_lst (pa_cons pe_str (pa_cons pe_str pa_nil))) pa_nil)))) (pa_cons (pe_tup (pa_cons pe_str (pa_cons pe_int (pa_cons (pe_lst (pa_cons pe_str (pa_cons pe_str pa_nil))) pa_nil)))) pa_nil))))) (pss_one (ps_ret (pe_cmpR (op_eqP hr.units) (pe_lst (pa_cons (pe_call (dvs := [V.bl false]) (ok_place_range T tb hcA) (hr.mono (by decide)) (by rfl) T.m_place_range T.F_place_range.kp T.b_place_range (.cons rfl .nil) pass0 (pa_cons (pv 2) (pa_cons pe_str (pa_cons pe_str pa_nil)))) (pa_cons (pe_call (dvs := [V.bl false]) (ok_place_range T tb hcA) (hr.mono (by decide)) (by rfl) T.m_place_range T.F_place_range.kp T.b_place_range (.cons rfl .nil) pass0 (pa_cons (pv 2) (pa_cons pe_str (pa_cons pe_str pa_nil)))) pa_nil))) (pe_lst (pa_cons (pe_tup (pa_cons pe_int (pa_cons pe_int pa_nil))) (pa_cons (pe_tup (pa_cons pe_int (pa_cons pe_non pa_nil))) pa_nil))) (nomark _)))))), ?_⟩
  let TT := tabsOf PA "all_above"
  have j0 : (addT W0 TT).J 0 H := ⟨trivial, tabs, fun a h => absurd h List.not_mem_nil⟩
  let A : Amb := ⟨addT W0 TT, (addT W0 TT).fs, H, fun a ha => ha, (addT W0 TT).trk 0 H j0⟩
  have hs0 : SqL K (off A.W.fs A.H0) a (ns.map V.int) := scr_off0 only tabs hS
  have S : St8 A ⟨(addT W0 TT).fs, []⟩ [.raw (.ref a), .no, .no, .no, .no, .no, .no, .no, .no] [some (.ref a), none, none, none, none, none, none, none, none] H 0 := st8_start (A := A) (N := N_law) (ρ := [.raw (.ref a)]) (vs := [.ref a]) rfl j0 (fun i s e => by
    cases i with
    | zero => cases e; exact ⟨_, rfl, .inr rfl⟩
    | succ i => simp at e) rfl
  have hA : A.W = addT W0 TT := rfl
  have hz := sizeLine_eq
  have hlen : (ns.map V.int).length = ns.length := List.length_map _
  refine SS.run (P := { nx := fun _ => False, rt := (· = .bool true) }) (c := 5 * 20000) S (by decide) ?_ (fun _ _ _ _ z => z.elim) ⟨fun v d H2 e _ _ kd => ?_, fun _ _ _ _ z => z.elim⟩ (fun _ _ _ _ z => z.elim) (fun _ _ _ _ z => z.elim)
  · refine SS.le (sq_for (cN := 5 * 20000) (c2 := 0) (ei_rng1 (ear_cons (ee_cb (ear_cons ee_int.r (ear_cons (ee_cb (ear_cons ee_int.r (ear_cons (er_lenScr (K := K) (i := 0) rfl hs0).r ear_nil)) cld_min2).r ear_nil)) cld_max2).r ear_nil) (by split <;> split <;> omega) (by split <;> split <;> omega)) fun ds e => ?_) (by decide)
    subst e
    rw [rngD_len, hlen]
    refine ⟨fun i ρ' => ∃ (s1 s2 s3 s4 s5 s6 s7 s8 : SV), ρ' = [.raw (.ref a), s1, s2, s3, s4, s5, s6, s7, s8] ∧ NoOwn [s1, s2, s3, s4, s5, s6, s7, s8], 20000, by split <;> split <;> omega, ⟨_, _, _, _, _, _, _, _, rfl, noc rfl (noc rfl (noc rfl (noc rfl (noc rfl (noc rfl (noc rfl (noc rfl non)))))))⟩, ?_, ?_⟩
    · rintro i d ρ1 hd ⟨s1, s2, s3, s4, s5, s6, s7, s8, rfl, no⟩
      have hi := (List.getElem?_eq_some_iff.mp hd).1
      rw [rngD_len] at hi
      rw [rngD_get hi] at hd
      cases hd
      have i4 : i < 63 := by
        revert hi
        split <;> split <;> omega
      refine ⟨_, tg_name, ?_⟩
      refine sq_jarT (K := K) (i := 0) (j := 3) (k := i) hA rfl hs0 hl ((ee_var (d := .int (0 + (i : Nat))) rfl).imp fun d e => by rw [e, Int.zero_add]) (by omega) (noc rfl (noc rfl (no.drop 1))) fun A' p hW hs' => ?_
      refine SS.le (c := (8000 + 400) + 8000) (sq_set (c2 := 8000) (R := fun d => ∃ (xs : List Str) (ss : List Scr), d = screensD ss ∧ Ctx32 xs ss) ((ee_calljT (c := 8000) (RA := fun ds => ∃ xs : List Str, ds = [strsD xs, .int 4, .int 3, .str "ab"] ∧ (xs.length : Int) ≤ 5 ∧ BkOk 1000 xs ∧ ∀ x ∈ xs, OfL "ab" x) hW rfl ((EA.imp (ea_consR (c1 := 0 + 8000) (c2 := 0) (R := fun d => ∃ xs : List Str, d = strsD xs ∧ (xs.length : Int) ≤ 5 ∧ BkOk 1000 xs ∧ ∀ x ∈ xs, OfL "ab" x) ((ee_calljT (c := 0) (RA := (· = [.int 5, .str "ab", .int 4])) hW rfl (ea_cons (c1 := 0) (c2 := 0) ee_int (ea_cons (c1 := 0) (c2 := 0) ee_str (ea_cons (c1 := 0) (c2 := 0) ee_int ea_nil))) fun ds e => ⟨5, "ab", 4, e, by decide, by decide, by decide, by decide, by decide, by decide⟩).imp fun d ⟨ds, e, hq⟩ => hq 5 "ab" 4 e) (ea_cons (c1 := 0) (c2 := 0) ee_int (ea_cons (c1 := 0) (c2 := 0) ee_int (ea_cons (c1 := 0) (c2 := 0) ee_str ea_nil)))) fun ds ⟨d, ds1, ⟨xs, e1, h⟩, e2, e3⟩ => ⟨xs, by rw [e3, e2, e1], h⟩).le (by decide)) fun ds ⟨xs, e, h1, h2, h3⟩ => ⟨xs, 4, 3, "ab", e, h2, by decide, by decide, by decide, by decide, by decide, by decide, by decide, h3⟩).imp fun d ⟨ds, ⟨xs, e, h1, h2, h3⟩, hq⟩ => ?vw) fun d ⟨xs, ss, e, cx⟩ => ?_) (by decide)
      case vw =>
        obtain ⟨ss, e2, h4, h5⟩ := hq xs 4 3 "ab" e
        exact ⟨xs, ss, e2, h2.2.1, by omega, h3, h5, by omega⟩
      subst e
      obtain ⟨nd, x4, hx0, hss, hn⟩ := id cx
      have hs : ∀ s ∈ ss, ScrOk s := fun s h => (hss s h).1.1
      have kl : (knownS ss).length ≤ 400 := by have := known_len hs; omega
      have reprS : ∀ {A' : Amb} {ρ : List SV}, ρ[2]? = some (.im (screensD ss)) → EE A' (tCB rReprPN (tCons (tVar 2) tNil)) ρ 0 (· = .str (screensD ss).shown) := fun h => ee_cb (c := 0) (ear_cons (c1 := 0) (c2 := 0) (ee_var (d := screensD ss) h).r ear_nil) (cld_scrN hn hs)
      refine SS.le (c := 0 + 1000) (sq_par (c1 := 0) (c2 := 1000) (ea_cons (c1 := 0) (c2 := 0) (ee_callf (c := 0) (e := strsD (knownS ss)) (ea_cons (c1 := 0) (c2 := 0) (ee_var (d := screensD ss) rfl) ea_nil) ⟨ss, rfl, hn, hs⟩ fun r h => h ss rfl) (ea_cons (c1 := 0) (c2 := 0) (reprS rfl) ea_nil)) fun ds e => ⟨_, _, e, ?_⟩) (by decide)
      refine SS.le (c := 0 + 3 * 20) (ss_for (cN := 3 * 20) (ei_rng1R (RA := fun ds => ∃ r : Int, ds = [.int r] ∧ 0 ≤ r ∧ r ≤ 3 ∧ (knownS ss = [] → r = 0)) ((ear_one (R := fun d => ∃ r : Int, d = .int r ∧ 0 ≤ r ∧ r ≤ 3 ∧ (knownS ss = [] → r = 0)) (ee_opR (Ra := fun d => d = .int 3) (Rb := fun d => d = .int (if (!PyData.eqv (strsD (knownS ss)) (.list [])) then 1 else 0)) ee_int.r (ee_cb (ear_cons (ee_op (ee_var (d := strsD (knownS ss)) rfl).r (ee_lst ea_nil).r (od_ne (plain_strs _) rfl (by rw [show (strsD (knownS ss)).depth = PyData.depthAll ((knownS ss).map .str) + 1 from rfl, depth_strs]; decide))).r ear_nil) cld_int1).r fun d1 d2 e1 e2 => ?mul).r).imp fun ds ⟨d, ⟨r, e, h⟩, e2⟩ => ⟨r, by rw [e2, e], h⟩) fun ds ⟨r, e, r0, r1, _⟩ => ⟨r, e, by omega, by omega⟩) fun ds ⟨r, ⟨r', e', r0, r1, r2⟩, e⟩ => ?_) (by decide)
      case mul =>
        rw [e1, e2]
        refine (od_mulI (.inl ⟨by omega, by omega⟩)).imp fun d e => ⟨_, e, ?_, ?_, fun hk => ?_⟩
        · split <;> omega
        · split <;> omega
        · rw [hk]
          simp [strsD, PyData.eqv, PyData.eqvAll]
      have er : r' = r := by
        injection e' with e' _
        injection e' with e'
        exact e'.symm
      subst er
      subst e
      rw [rngD_len]
      refine ⟨fun i' ρ' => ∃ (s6 s7 s8 : SV), ρ' = [.raw (.ref a), .im (.int (0 + (i : Nat))), .im (screensD ss), .raw (.ref p), .im (strsD (knownS ss)), .im (.str (screensD ss).shown), s6, s7, s8] ∧ NoOwn [s6, s7, s8], 20, by omega, ⟨_, _, _, rfl, no.drop 5⟩, ?_, ?_⟩
      · clear no
        rintro i' d ρ1 hd' ⟨s6, s7, s8, rfl, no⟩
        have hi' := (List.getElem?_eq_some_iff.mp hd').1
        rw [rngD_len] at hi'
        have kne : 0 < (knownS ss).length := by
          cases hk : knownS ss with
          | nil => have := r2 hk; omega
          | cons _ _ => exact Nat.succ_pos _
        refine ⟨_, tg_name, ?_⟩
        refine SS.le (c := 1 + 10) (sq_set (c2 := 10) (R := fun d => ∃ x, d = .str x ∧ x ∈ knownS ss) (EE.le (c := 0 + (0 + 1)) (ee_ixLD (ds := (knownS ss).map .str) (ee_var (d := strsD (knownS ss)) rfl) (((ee_dipT (m := ((knownS ss).length : Nat)) hW rfl (ea_cons (ee_cb (ear_cons (ee_var (d := strsD (knownS ss)) rfl).r ear_nil) (cld_lenL.toLen (List.length_map _))) ea_nil) (by omega) (by omega)).r).to fun d hd => by rw [List.length_map]; exact hd) fun d hd => by
          obtain ⟨x, hx, e⟩ := List.mem_map.mp hd
          exact ⟨x, e.symm, hx⟩) (by decide)) fun d ⟨x, e, hx⟩ => ?_) (by decide)
        subst e
        have xw := known_wl hs hx
        refine SS.le (c := 1 + 5) (sq_set (c2 := 5) (R := fun d => ∃ b : Str, d = .str b ∧ b ∈ fronts x) (EE.le (c := 0 + 0 + (0 + 1)) (ee_slR (Ra := (· = .str x)) (RO := (· = none)) (RO' := fun o => ∃ n : Nat, o = some (n : Int) ∧ n ≤ x.length) (ee_var rfl) eo_none (fun F σ H n Q S l q => (eo_someR (R := IntIn 0 ((x.length + 1 : Nat) : Int)) (c := 0 + 1) ((ee_dipT (m := ((x.length + 1 : Nat) : Int)) hW rfl (ea_cons (c1 := 0) (c2 := 0) (ee_pl (i := x.length) (k := 1) (c1 := 0) (c2 := 0) (ee_cb (c := 0) (ear_cons (c1 := 0) (c2 := 0) (ee_var (d := .str x) rfl).r ear_nil) (cld_lenS (by omega))).r ee_int.r) ea_nil) (by omega) (by omega)).r.to fun d ⟨r, e, r0, r1⟩ => ⟨r, e, r0, r1⟩) fun d ⟨r, e, _⟩ => ⟨r, e⟩) F σ H n Q S l fun o H' s j ⟨i, e, ⟨r, e2, r0, r1⟩⟩ => q o H' s j ⟨r.toNat, by injection e2 with e2; rw [e, e2]; congr 1; omega, by omega⟩) fun d lo hi e1 e2 ⟨n, e3, hn⟩ => .inr ⟨x, e1, by omega, takeS x n, by rw [e2, e3, cutS_take]; rfl, List.mem_map.mpr ⟨n, List.mem_range.mpr (by omega), rfl⟩⟩) (by decide)) fun d ⟨b, e, bm⟩ => ?_) (by decide)
        subst e
        refine SS.le (c := 0 + 0 + 0) (ss_if (c1 := 0 + 0) (c2 := 0) (et_or (a := false) (b := false) (c1 := 0) (c2 := 0) ((et_notB (et_bool (ee_calltf (c := 0) (e := .bool true) hW (ea_cons (c1 := 0) (c2 := 0) (ee_var (d := screensD ss) rfl) (ea_cons (c1 := 0) (c2 := 0) (ee_var (d := strsD (knownS ss)) rfl) (ea_cons (c1 := 0) (c2 := 0) (ee_var (d := .str b) rfl) (ea_cons (c1 := 0) (c2 := 0) (ee_var (d := .str x) rfl) ea_nil)))) ⟨xs, ss, b, x, rfl, cx, hx, bm⟩ fun r h => h).r)).imp fun b e => by rw [e]; rfl) fun _ => (et_testB (ee_op (c1 := 0) (c2 := 0) (reprS rfl).r (ee_var (d := .str (screensD ss).shown) rfl).r (od_ne rfl rfl (Nat.zero_le _))).r).imp fun b e => by rw [e]; simp [PyData.eqv]) (fun h => by cases h) fun _ => ss_next ⟨_, _, _, rfl, noc rfl (noc rfl (noc rfl non))⟩) (by decide)
      · clear no
        rintro ρ1 ⟨s6, s7, s8, rfl, no⟩
        exact ⟨⟨_, _, _, _, _, _, _, _, rfl, noc rfl (noc rfl (noc rfl (noc rfl (noc rfl no))))⟩, noc rfl (noc rfl (noc rfl (noc rfl (noc rfl (noc rfl no)))))⟩
    · rintro ρ1 ⟨s1, s2, s3, s4, s5, s6, s7, s8, rfl, no⟩
      have scrE : ∀ {ρ : List SV} {b : Str} {l : Nat} {ys : List Str} {tl : TA}, EA A tl ρ 0 (· = ys.map .str) → ys.length ≤ 1000 → EE A (tTup (tCons (tC (.str b)) (tCons (tC (.int (l : Nat))) (tCons (tLst tl) tNil)))) ρ 0 (· = scrD ⟨b, l, ys⟩) := fun {ρ b l ys tl} h hy => ee_tup (ea_cons (c1 := 0) (c2 := 0) ee_str (ea_cons (c1 := 0) (c2 := 0) ee_int (ea_cons (c1 := 0) (c2 := 0) (ee_lst h (by rw [List.length_map]; exact Nat.le_trans hy (by omega))) ea_nil))) (by show 3 ≤ _; omega)
      have two : ∀ {ρ : List SV} {x y : Str}, EA A (tCons (tC (.str x)) (tCons (tC (.str y)) tNil)) ρ 0 (· = [x, y].map .str) := fun {ρ x y} => ea_cons (c1 := 0) (c2 := 0) ee_str (ea_cons (c1 := 0) (c2 := 0) ee_str ea_nil)
      refine SS.le (c := 0 + 0) (sq_set (c2 := 0) (R := (· = screensD docV)) (ee_lst (ea_cons (c1 := 0) (c2 := 0) (scrE two (by decide)) (ea_cons (c1 := 0) (c2 := 0) (scrE two (by decide)) (ea_cons (c1 := 0) (c2 := 0) (scrE two (by decide)) ea_nil))) (by show 3 ≤ sizeLine; omega)) fun d e => ?_) (by decide)
      subst e
      have dnc : clashF docV = none := (clashF_none docS_ok).mpr (by decide)
      have d1 : rangeD docV "ca" "cat" false = .tuple [.int 1, .int 1] := by
        unfold rangeD
        rw [show cntB docV "cat" "ca" = 1 by decide +kernel, show oneB docV "ca" "cat" = true by decide +kernel]
        rfl
      have d2 : rangeD docV "" "cat" false = .tuple [.int 2, .none] := by
        unfold rangeD
        rw [show cntB docV "cat" "" = 2 by decide +kernel, show oneB docV "" "cat" = false by decide +kernel]
        rfl
      have q3 : ∀ y : Str, EA A (tCons (tVar 2) (tCons (tC (.str y)) (tCons (tC (.str "cat")) tNil))) [.raw (.ref a), s1, .im (screensD docV), s3, s4, s5, s6, s7, s8] 0 (· = [screensD docV, .str y, .str "cat"]) := fun y => ea_cons (c1 := 0) (c2 := 0) (ee_var rfl) (ea_cons (c1 := 0) (c2 := 0) ee_str (ea_cons (c1 := 0) (c2 := 0) ee_str ea_nil))
      refine SS.le (c := 0 + 0) (ss_ret (ee_op (c1 := 0) (c2 := 0) (ee_lst (ea_cons (c1 := 0) (c2 := 0) (ee_calltD (c := 0) (e := .tuple [.int 1, .int 1]) hA (q3 "ca") ⟨docV, "ca", "cat", false, rfl, by decide, docS_ok, dnc, by decide, by decide, by decide, by decide⟩ fun r h => (h docV "ca" "cat" false rfl).trans d1) (ea_cons (c1 := 0) (c2 := 0) (ee_calltD (c := 0) (e := .tuple [.int 2, .none]) hA (q3 "") ⟨docV, "", "cat", false, rfl, by decide, docS_ok, dnc, by decide, by decide, by decide, by decide⟩ fun r h => (h docV "" "cat" false rfl).trans d2) ea_nil)) (by show 2 ≤ sizeLine; omega)).r (ee_lst (ea_cons (c1 := 0) (c2 := 0) (ee_tup (ea_cons (c1 := 0) (c2 := 0) ee_int (ea_cons (c1 := 0) (c2 := 0) ee_int ea_nil)) (by show 2 ≤ sizeLine; omega)) (ea_cons (c1 := 0) (c2 := 0) (ee_tup (ea_cons (c1 := 0) (c2 := 0) ee_int (ea_cons (c1 := 0) (c2 := 0) ee_non ea_nil)) (by show 2 ≤ sizeLine; omega)) ea_nil)) (by show 2 ≤ sizeLine; omega)).r (od_eq rfl rfl (by decide))) fun r e => ?_) (by decide)
      rw [e]
      exact congrArg PyData.bool (by simp [PyData.eqv, PyData.eqvAll])
  · subst e
    cases kd
    exact q H2
end
def mkTx {K : PySem.W.Frag} {h : Heap} {mg : Str → Option Value} (X : K.In h) (G : h.Ns mainGlobals mg)
    {f0 : Addr} {oc0 kV0 dc0 pm0 cd0 ct0 : Value} {od0 an0 : Option Addr} {sl0 : Array (Option Value)}
    {f1 : Addr} {oc1 kV1 dc1 pm1 cd1 ct1 : Value} {od1 an1 : Option Addr} {sl1 : Array (Option Value)}
    {f2 : Addr} {oc2 kV2 dc2 pm2 cd2 ct2 : Value} {od2 an2 : Option Addr} {sl2 : Array (Option Value)}
    {f3 : Addr} {oc3 kV3 dc3 pm3 cd3 ct3 : Value} {od3 an3 : Option Addr} {sl3 : Array (Option Value)}
    {f4 : Addr} {oc4 kV4 dc4 pm4 cd4 ct4 : Value} {od4 an4 : Option Addr} {sl4 : Array (Option Value)}
    {f5 : Addr} {oc5 kV5 dc5 pm5 cd5 ct5 : Value} {od5 an5 : Option Addr} {sl5 : Array (Option Value)}
    {f6 : Addr} {oc6 kV6 dc6 pm6 cd6 ct6 : Value} {od6 an6 : Option Addr} {sl6 : Array (Option Value)}
    {f7 : Addr} {oc7 kV7 dc7 pm7 cd7 ct7 : Value} {od7 an7 : Option Addr} {sl7 : Array (Option Value)}
    {f8 : Addr} {oc8 kV8 dc8 pm8 cd8 ct8 : Value} {od8 an8 : Option Addr} {sl8 : Array (Option Value)}
    {f9 : Addr} {oc9 kV9 dc9 pm9 cd9 ct9 : Value} {od9 an9 : Option Addr} {sl9 : Array (Option Value)}
    {f10 : Addr} {oc10 kV10 dc10 pm10 cd10 ct10 : Value} {od10 an10 : Option Addr} {sl10 : Array (Option Value)}
    {f11 : Addr} {oc11 kV11 dc11 pm11 cd11 ct11 : Value} {od11 an11 : Option Addr} {sl11 : Array (Option Value)}
    {f12 : Addr} {oc12 kV12 dc12 pm12 cd12 ct12 : Value} {od12 an12 : Option Addr} {sl12 : Array (Option Value)}
    {f13 : Addr} {oc13 kV13 dc13 pm13 cd13 ct13 : Value} {od13 an13 : Option Addr} {sl13 : Array (Option Value)}
    {f14 : Addr} {oc14 kV14 dc14 pm14 cd14 ct14 : Value} {od14 an14 : Option Addr} {sl14 : Array (Option Value)}
    {f15 : Addr} {oc15 kV15 dc15 pm15 cd15 ct15 : Value} {od15 an15 : Option Addr} {sl15 : Array (Option Value)}
    {f16 : Addr} {oc16 kV16 dc16 pm16 cd16 ct16 : Value} {od16 an16 : Option Addr} {sl16 : Array (Option Value)}
    {f17 : Addr} {oc17 kV17 dc17 pm17 cd17 ct17 : Value} {od17 an17 : Option Addr} {sl17 : Array (Option Value)}
    {f18 : Addr} {oc18 kV18 dc18 pm18 cd18 ct18 : Value} {od18 an18 : Option Addr} {sl18 : Array (Option Value)}
    {f19 : Addr} {oc19 dc19 pm19 cd19 ct19 : Value} {od19 an19 : Option Addr} {sl19 : Array (Option Value)} {kD19 : Addr}
    {f20 : Addr} {oc20 kV20 dc20 pm20 cd20 ct20 : Value} {od20 an20 : Option Addr} {sl20 : Array (Option Value)}
    {f21 : Addr} {oc21 kV21 dc21 pm21 cd21 ct21 : Value} {od21 an21 : Option Addr} {sl21 : Array (Option Value)}
    {f22 : Addr} {oc22 kV22 dc22 pm22 cd22 ct22 : Value} {od22 an22 : Option Addr} {sl22 : Array (Option Value)}
    {f23 : Addr} {oc23 kV23 dc23 pm23 cd23 ct23 : Value} {od23 an23 : Option Addr} {sl23 : Array (Option Value)}
    {f24 : Addr} {oc24 kV24 dc24 pm24 cd24 ct24 : Value} {od24 an24 : Option Addr} {sl24 : Array (Option Value)}
    {f25 : Addr} {oc25 kV25 dc25 pm25 cd25 ct25 : Value} {od25 an25 : Option Addr} {sl25 : Array (Option Value)}
    {f26 : Addr} {oc26 kV26 dc26 pm26 cd26 ct26 : Value} {od26 an26 : Option Addr} {sl26 : Array (Option Value)}
    {f27 : Addr} {oc27 kV27 dc27 pm27 cd27 ct27 : Value} {od27 an27 : Option Addr} {sl27 : Array (Option Value)}
    {f28 : Addr} {oc28 kV28 dc28 pm28 cd28 ct28 : Value} {od28 an28 : Option Addr} {sl28 : Array (Option Value)}
    {f29 : Addr} {oc29 kV29 dc29 pm29 cd29 ct29 : Value} {od29 an29 : Option Addr} {sl29 : Array (Option Value)}
    {f30 : Addr} {oc30 kV30 dc30 pm30 cd30 ct30 : Value} {od30 an30 : Option Addr} {sl30 : Array (Option Value)}
    {f31 : Addr} {oc31 kV31 dc31 pm31 cd31 ct31 : Value} {od31 an31 : Option Addr} {sl31 : Array (Option Value)}
    {f32 : Addr} {oc32 kV32 dc32 pm32 cd32 ct32 : Value} {od32 an32 : Option Addr} {sl32 : Array (Option Value)}
    {f33 : Addr} {oc33 kV33 dc33 pm33 cd33 ct33 : Value} {od33 an33 : Option Addr} {sl33 : Array (Option Value)}
    {f34 : Addr} {oc34 kV34 dc34 pm34 cd34 ct34 : Value} {od34 an34 : Option Addr} {sl34 : Array (Option Value)}
    {f35 : Addr} {oc35 kV35 dc35 pm35 cd35 ct35 : Value} {od35 an35 : Option Addr} {sl35 : Array (Option Value)}
    {t_MOST_SHOWN : Tok}
    {t_MOST_SCREENS : Tok}
    (a0 : PySem.W.nsIn K mainGlobals "valid_integer" = some (some (.ref f0))) (l0 : K.lookup f0 = some ⟨oc0, od0, .func (PySem.W.fnOf "valid_integer" "valid_integer" (defArgs s_valid_integer) (defBody s_valid_integer) (defScope s_valid_integer) .none kV0 dc0 pm0 an0 cd0 ct0), sl0⟩) (c0 : PySem.W.codeIn K cd0 "valid_integer" = true) (k0 : PySem.W.keepIn K (.ref f0) = true)
    (a1 : PySem.W.nsIn K mainGlobals "valid_beginning" = some (some (.ref f1))) (l1 : K.lookup f1 = some ⟨oc1, od1, .func (PySem.W.fnOf "valid_beginning" "valid_beginning" (defArgs s_valid_beginning) (defBody s_valid_beginning) (defScope s_valid_beginning) .none kV1 dc1 pm1 an1 cd1 ct1), sl1⟩) (c1 : PySem.W.codeIn K cd1 "valid_beginning" = true) (k1 : PySem.W.keepIn K (.ref f1) = true)
    (a2 : PySem.W.nsIn K mainGlobals "valid_word" = some (some (.ref f2))) (l2 : K.lookup f2 = some ⟨oc2, od2, .func (PySem.W.fnOf "valid_word" "valid_word" (defArgs s_valid_word) (defBody s_valid_word) (defScope s_valid_word) .none kV2 dc2 pm2 an2 cd2 ct2), sl2⟩) (c2 : PySem.W.codeIn K cd2 "valid_word" = true) (k2 : PySem.W.keepIn K (.ref f2) = true)
    (a3 : PySem.W.nsIn K mainGlobals "valid_limit" = some (some (.ref f3))) (l3 : K.lookup f3 = some ⟨oc3, od3, .func (PySem.W.fnOf "valid_limit" "valid_limit" (defArgs s_valid_limit) (defBody s_valid_limit) (defScope s_valid_limit) .none kV3 dc3 pm3 an3 cd3 ct3), sl3⟩) (c3 : PySem.W.codeIn K cd3 "valid_limit" = true) (k3 : PySem.W.keepIn K (.ref f3) = true)
    (a4 : PySem.W.nsIn K mainGlobals "valid_dictionary" = some (some (.ref f4))) (l4 : K.lookup f4 = some ⟨oc4, od4, .func (PySem.W.fnOf "valid_dictionary" "valid_dictionary" (defArgs s_valid_dictionary) (defBody s_valid_dictionary) (defScope s_valid_dictionary) .none kV4 dc4 pm4 an4 cd4 ct4), sl4⟩) (c4 : PySem.W.codeIn K cd4 "valid_dictionary" = true) (k4 : PySem.W.keepIn K (.ref f4) = true)
    (a5 : PySem.W.nsIn K mainGlobals "valid_screen" = some (some (.ref f5))) (l5 : K.lookup f5 = some ⟨oc5, od5, .func (PySem.W.fnOf "valid_screen" "valid_screen" (defArgs s_valid_screen) (defBody s_valid_screen) (defScope s_valid_screen) .none kV5 dc5 pm5 an5 cd5 ct5), sl5⟩) (c5 : PySem.W.codeIn K cd5 "valid_screen" = true) (k5 : PySem.W.keepIn K (.ref f5) = true)
    (a6 : PySem.W.nsIn K mainGlobals "valid_screens" = some (some (.ref f6))) (l6 : K.lookup f6 = some ⟨oc6, od6, .func (PySem.W.fnOf "valid_screens" "valid_screens" (defArgs s_valid_screens) (defBody s_valid_screens) (defScope s_valid_screens) .none kV6 dc6 pm6 an6 cd6 ct6), sl6⟩) (c6 : PySem.W.codeIn K cd6 "valid_screens" = true) (k6 : PySem.W.keepIn K (.ref f6) = true)
    (a7 : PySem.W.nsIn K mainGlobals "check_beginning" = some (some (.ref f7))) (l7 : K.lookup f7 = some ⟨oc7, od7, .func (PySem.W.fnOf "check_beginning" "check_beginning" (defArgs s_check_beginning) (defBody s_check_beginning) (defScope s_check_beginning) .none kV7 dc7 pm7 an7 cd7 ct7), sl7⟩) (c7 : PySem.W.codeIn K cd7 "check_beginning" = true) (k7 : PySem.W.keepIn K (.ref f7) = true)
    (a8 : PySem.W.nsIn K mainGlobals "check_screens" = some (some (.ref f8))) (l8 : K.lookup f8 = some ⟨oc8, od8, .func (PySem.W.fnOf "check_screens" "check_screens" (defArgs s_check_screens) (defBody s_check_screens) (defScope s_check_screens) .none kV8 dc8 pm8 an8 cd8 ct8), sl8⟩) (c8 : PySem.W.codeIn K cd8 "check_screens" = true) (k8 : PySem.W.keepIn K (.ref f8) = true)
    (a9 : PySem.W.nsIn K mainGlobals "check_known" = some (some (.ref f9))) (l9 : K.lookup f9 = some ⟨oc9, od9, .func (PySem.W.fnOf "check_known" "check_known" (defArgs s_check_known) (defBody s_check_known) (defScope s_check_known) .none kV9 dc9 pm9 an9 cd9 ct9), sl9⟩) (c9 : PySem.W.codeIn K cd9 "check_known" = true) (k9 : PySem.W.keepIn K (.ref f9) = true)
    (a10 : PySem.W.nsIn K mainGlobals "find_clash" = some (some (.ref f10))) (l10 : K.lookup f10 = some ⟨oc10, od10, .func (PySem.W.fnOf "find_clash" "find_clash" (defArgs s_find_clash) (defBody s_find_clash) (defScope s_find_clash) .none kV10 dc10 pm10 an10 cd10 ct10), sl10⟩) (c10 : PySem.W.codeIn K cd10 "find_clash" = true) (k10 : PySem.W.keepIn K (.ref f10) = true)
    (a11 : PySem.W.nsIn K mainGlobals "check_no_clash" = some (some (.ref f11))) (l11 : K.lookup f11 = some ⟨oc11, od11, .func (PySem.W.fnOf "check_no_clash" "check_no_clash" (defArgs s_check_no_clash) (defBody s_check_no_clash) (defScope s_check_no_clash) .none kV11 dc11 pm11 an11 cd11 ct11), sl11⟩) (c11 : PySem.W.codeIn K cd11 "check_no_clash" = true) (k11 : PySem.W.keepIn K (.ref f11) = true)
    (a12 : PySem.W.nsIn K mainGlobals "shown_words" = some (some (.ref f12))) (l12 : K.lookup f12 = some ⟨oc12, od12, .func (PySem.W.fnOf "shown_words" "shown_words" (defArgs s_shown_words) (defBody s_shown_words) (defScope s_shown_words) .none kV12 dc12 pm12 an12 cd12 ct12), sl12⟩) (c12 : PySem.W.codeIn K cd12 "shown_words" = true) (k12 : PySem.W.keepIn K (.ref f12) = true)
    (a13 : PySem.W.nsIn K mainGlobals "first_clash" = some (some (.ref f13))) (l13 : K.lookup f13 = some ⟨oc13, od13, .func (PySem.W.fnOf "first_clash" "first_clash" (defArgs s_first_clash) (defBody s_first_clash) (defScope s_first_clash) .none kV13 dc13 pm13 an13 cd13 ct13), sl13⟩) (c13 : PySem.W.codeIn K cd13 "first_clash" = true) (k13 : PySem.W.keepIn K (.ref f13) = true)
    (a14 : PySem.W.nsIn K mainGlobals "put_before" = some (some (.ref f14))) (l14 : K.lookup f14 = some ⟨oc14, od14, .func (PySem.W.fnOf "put_before" "put_before" (defArgs s_put_before) (defBody s_put_before) (defScope s_put_before) .none kV14 dc14 pm14 an14 cd14 ct14), sl14⟩) (c14 : PySem.W.codeIn K cd14 "put_before" = true) (k14 : PySem.W.keepIn K (.ref f14) = true)
    (a15 : PySem.W.nsIn K mainGlobals "_misses" = some (some (.ref f15))) (l15 : K.lookup f15 = some ⟨oc15, od15, .func (PySem.W.fnOf "_misses" "_misses" (defArgs s_misses) (defBody s_misses) (defScope s_misses) .none kV15 dc15 pm15 an15 cd15 ct15), sl15⟩) (c15 : PySem.W.codeIn K cd15 "_misses" = true) (k15 : PySem.W.keepIn K (.ref f15) = true)
    (a16 : PySem.W.nsIn K mainGlobals "_swapped_words" = some (some (.ref f16))) (l16 : K.lookup f16 = some ⟨oc16, od16, .func (PySem.W.fnOf "_swapped_words" "_swapped_words" (defArgs s_swapped_words) (defBody s_swapped_words) (defScope s_swapped_words) .none kV16 dc16 pm16 an16 cd16 ct16), sl16⟩) (c16 : PySem.W.codeIn K cd16 "_swapped_words" = true) (k16 : PySem.W.keepIn K (.ref f16) = true)
    (a17 : PySem.W.nsIn K mainGlobals "all_above" = some (some (.ref f17))) (l17 : K.lookup f17 = some ⟨oc17, od17, .func (PySem.W.fnOf "all_above" "all_above" (defArgs s_all_above) (defBody s_all_above) (defScope s_all_above) .none kV17 dc17 pm17 an17 cd17 ct17), sl17⟩) (c17 : PySem.W.codeIn K cd17 "all_above" = true) (k17 : PySem.W.keepIn K (.ref f17) = true)
    (a18 : PySem.W.nsIn K mainGlobals "all_below" = some (some (.ref f18))) (l18 : K.lookup f18 = some ⟨oc18, od18, .func (PySem.W.fnOf "all_below" "all_below" (defArgs s_all_below) (defBody s_all_below) (defScope s_all_below) .none kV18 dc18 pm18 an18 cd18 ct18), sl18⟩) (c18 : PySem.W.codeIn K cd18 "all_below" = true) (k18 : PySem.W.keepIn K (.ref f18) = true)
    (a19 : PySem.W.nsIn K mainGlobals "place_range" = some (some (.ref f19))) (l19 : K.lookup f19 = some ⟨oc19, od19, .func (PySem.W.fnOf "place_range" "place_range" (defArgs s_place_range) (defBody s_place_range) (defScope s_place_range) .none (.ref kD19) dc19 pm19 an19 cd19 ct19), sl19⟩) (c19 : PySem.W.codeIn K cd19 "place_range" = true) (k19 : PySem.W.keepIn K (.ref f19) = true) (q19 : PySem.W.nsIn K kD19 "only_known" = some (some (.bool false)))
    (a20 : PySem.W.nsIn K mainGlobals "_least_place" = some (some (.ref f20))) (l20 : K.lookup f20 = some ⟨oc20, od20, .func (PySem.W.fnOf "_least_place" "_least_place" (defArgs s_least_place) (defBody s_least_place) (defScope s_least_place) .none kV20 dc20 pm20 an20 cd20 ct20), sl20⟩) (c20 : PySem.W.codeIn K cd20 "_least_place" = true) (k20 : PySem.W.keepIn K (.ref f20) = true)
    (a21 : PySem.W.nsIn K mainGlobals "_has_one_place" = some (some (.ref f21))) (l21 : K.lookup f21 = some ⟨oc21, od21, .func (PySem.W.fnOf "_has_one_place" "_has_one_place" (defArgs s_has_one_place) (defBody s_has_one_place) (defScope s_has_one_place) .none kV21 dc21 pm21 an21 cd21 ct21), sl21⟩) (c21 : PySem.W.codeIn K cd21 "_has_one_place" = true) (k21 : PySem.W.keepIn K (.ref f21) = true)
    (a22 : PySem.W.nsIn K mainGlobals "_matching" = some (some (.ref f22))) (l22 : K.lookup f22 = some ⟨oc22, od22, .func (PySem.W.fnOf "_matching" "_matching" (defArgs s_matching) (defBody s_matching) (defScope s_matching) .none kV22 dc22 pm22 an22 cd22 ct22), sl22⟩) (c22 : PySem.W.codeIn K cd22 "_matching" = true) (k22 : PySem.W.keepIn K (.ref f22) = true)
    (a23 : PySem.W.nsIn K mainGlobals "_law_jar" = some (some (.ref f23))) (l23 : K.lookup f23 = some ⟨oc23, od23, .func (PySem.W.fnOf "_law_jar" "_law_jar" (defArgs s_law_jar) (defBody s_law_jar) (defScope s_law_jar) .none kV23 dc23 pm23 an23 cd23 ct23), sl23⟩) (c23 : PySem.W.codeIn K cd23 "_law_jar" = true) (k23 : PySem.W.keepIn K (.ref f23) = true)
    (a24 : PySem.W.nsIn K mainGlobals "_law_dip" = some (some (.ref f24))) (l24 : K.lookup f24 = some ⟨oc24, od24, .func (PySem.W.fnOf "_law_dip" "_law_dip" (defArgs s_law_dip) (defBody s_law_dip) (defScope s_law_dip) .none kV24 dc24 pm24 an24 cd24 ct24), sl24⟩) (c24 : PySem.W.codeIn K cd24 "_law_dip" = true) (k24 : PySem.W.keepIn K (.ref f24) = true)
    (a25 : PySem.W.nsIn K mainGlobals "_law_terms" = some (some (.ref f25))) (l25 : K.lookup f25 = some ⟨oc25, od25, .func (PySem.W.fnOf "_law_terms" "_law_terms" (defArgs s_law_terms) (defBody s_law_terms) (defScope s_law_terms) .none kV25 dc25 pm25 an25 cd25 ct25), sl25⟩) (c25 : PySem.W.codeIn K cd25 "_law_terms" = true) (k25 : PySem.W.keepIn K (.ref f25) = true)
    (a26 : PySem.W.nsIn K mainGlobals "_law_answer" = some (some (.ref f26))) (l26 : K.lookup f26 = some ⟨oc26, od26, .func (PySem.W.fnOf "_law_answer" "_law_answer" (defArgs s_law_answer) (defBody s_law_answer) (defScope s_law_answer) .none kV26 dc26 pm26 an26 cd26 ct26), sl26⟩) (c26 : PySem.W.codeIn K cd26 "_law_answer" = true) (k26 : PySem.W.keepIn K (.ref f26) = true)
    (a27 : PySem.W.nsIn K mainGlobals "_law_front" = some (some (.ref f27))) (l27 : K.lookup f27 = some ⟨oc27, od27, .func (PySem.W.fnOf "_law_front" "_law_front" (defArgs s_law_front) (defBody s_law_front) (defScope s_law_front) .none kV27 dc27 pm27 an27 cd27 ct27), sl27⟩) (c27 : PySem.W.codeIn K cd27 "_law_front" = true) (k27 : PySem.W.keepIn K (.ref f27) = true)
    (a28 : PySem.W.nsIn K mainGlobals "_law_views" = some (some (.ref f28))) (l28 : K.lookup f28 = some ⟨oc28, od28, .func (PySem.W.fnOf "_law_views" "_law_views" (defArgs s_law_views) (defBody s_law_views) (defScope s_law_views) .none kV28 dc28 pm28 an28 cd28 ct28), sl28⟩) (c28 : PySem.W.codeIn K cd28 "_law_views" = true) (k28 : PySem.W.keepIn K (.ref f28) = true)
    (a29 : PySem.W.nsIn K mainGlobals "_law_known" = some (some (.ref f29))) (l29 : K.lookup f29 = some ⟨oc29, od29, .func (PySem.W.fnOf "_law_known" "_law_known" (defArgs s_law_known) (defBody s_law_known) (defScope s_law_known) .none kV29 dc29 pm29 an29 cd29 ct29), sl29⟩) (c29 : PySem.W.codeIn K cd29 "_law_known" = true) (k29 : PySem.W.keepIn K (.ref f29) = true)
    (a30 : PySem.W.nsIn K mainGlobals "_law_shows" = some (some (.ref f30))) (l30 : K.lookup f30 = some ⟨oc30, od30, .func (PySem.W.fnOf "_law_shows" "_law_shows" (defArgs s_law_shows) (defBody s_law_shows) (defScope s_law_shows) .none kV30 dc30 pm30 an30 cd30 ct30), sl30⟩) (c30 : PySem.W.codeIn K cd30 "_law_shows" = true) (k30 : PySem.W.keepIn K (.ref f30) = true)
    (a31 : PySem.W.nsIn K mainGlobals "_law_orders" = some (some (.ref f31))) (l31 : K.lookup f31 = some ⟨oc31, od31, .func (PySem.W.fnOf "_law_orders" "_law_orders" (defArgs s_law_orders) (defBody s_law_orders) (defScope s_law_orders) .none kV31 dc31 pm31 an31 cd31 ct31), sl31⟩) (c31 : PySem.W.codeIn K cd31 "_law_orders" = true) (k31 : PySem.W.keepIn K (.ref f31) = true)
    (a32 : PySem.W.nsIn K mainGlobals "_law_with_new" = some (some (.ref f32))) (l32 : K.lookup f32 = some ⟨oc32, od32, .func (PySem.W.fnOf "_law_with_new" "_law_with_new" (defArgs s_law_with_new) (defBody s_law_with_new) (defScope s_law_with_new) .none kV32 dc32 pm32 an32 cd32 ct32), sl32⟩) (c32 : PySem.W.codeIn K cd32 "_law_with_new" = true) (k32 : PySem.W.keepIn K (.ref f32) = true)
    (a33 : PySem.W.nsIn K mainGlobals "_law_places" = some (some (.ref f33))) (l33 : K.lookup f33 = some ⟨oc33, od33, .func (PySem.W.fnOf "_law_places" "_law_places" (defArgs s_law_places) (defBody s_law_places) (defScope s_law_places) .none kV33 dc33 pm33 an33 cd33 ct33), sl33⟩) (c33 : PySem.W.codeIn K cd33 "_law_places" = true) (k33 : PySem.W.keepIn K (.ref f33) = true)
    (a34 : PySem.W.nsIn K mainGlobals "_law_right" = some (some (.ref f34))) (l34 : K.lookup f34 = some ⟨oc34, od34, .func (PySem.W.fnOf "_law_right" "_law_right" (defArgs s_law_right) (defBody s_law_right) (defScope s_law_right) .none kV34 dc34 pm34 an34 cd34 ct34), sl34⟩) (c34 : PySem.W.codeIn K cd34 "_law_right" = true) (k34 : PySem.W.keepIn K (.ref f34) = true)
    (a35 : PySem.W.nsIn K mainGlobals "law" = some (some (.ref f35))) (l35 : K.lookup f35 = some ⟨oc35, od35, .func (PySem.W.fnOf "law" "law" (defArgs s_law) (defBody s_law) (defScope s_law) .none kV35 dc35 pm35 an35 cd35 ct35), sl35⟩) (c35 : PySem.W.codeIn K cd35 "law" = true) (k35 : PySem.W.keepIn K (.ref f35) = true)
    (z_abs : PySem.W.nsIn K mainGlobals "abs" = some none)
    (z_all : PySem.W.nsIn K mainGlobals "all" = some none)
    (z_any : PySem.W.nsIn K mainGlobals "any" = some none)
    (z_bool : PySem.W.nsIn K mainGlobals "bool" = some none)
    (z_enumerate : PySem.W.nsIn K mainGlobals "enumerate" = some none)
    (z_int : PySem.W.nsIn K mainGlobals "int" = some none)
    (z_isinstance : PySem.W.nsIn K mainGlobals "isinstance" = some none)
    (z_len : PySem.W.nsIn K mainGlobals "len" = some none)
    (z_list : PySem.W.nsIn K mainGlobals "list" = some none)
    (z_max : PySem.W.nsIn K mainGlobals "max" = some none)
    (z_min : PySem.W.nsIn K mainGlobals "min" = some none)
    (z_range : PySem.W.nsIn K mainGlobals "range" = some none)
    (z_repr : PySem.W.nsIn K mainGlobals "repr" = some none)
    (z_set : PySem.W.nsIn K mainGlobals "set" = some none)
    (z_sorted : PySem.W.nsIn K mainGlobals "sorted" = some none)
    (z_str : PySem.W.nsIn K mainGlobals "str" = some none)
    (z_tuple : PySem.W.nsIn K mainGlobals "tuple" = some none)
    (z_zip : PySem.W.nsIn K mainGlobals "zip" = some none)
    (y_MOST_SHOWN : PySem.W.nsIn K mainGlobals "MOST_SHOWN" = some (some (.int 20 t_MOST_SHOWN)))
    (y_MOST_SCREENS : PySem.W.nsIn K mainGlobals "MOST_SCREENS" = some (some (.int 20 t_MOST_SCREENS))) : Tx K mg where
  a_valid_integer := f0
  d_valid_integer := _
  F_valid_integer := fun_mk (st := s_valid_integer) l0 c0 k0
  m_valid_integer := PySem.W.mg_of X G a0
  b_valid_integer := (fun_mk (st := s_valid_integer) l0 c0 k0).binds fun _ _ _ _ _ _ us hl => match us, hl with | [_], _ => rfl
  a_valid_beginning := f1
  d_valid_beginning := _
  F_valid_beginning := fun_mk (st := s_valid_beginning) l1 c1 k1
  m_valid_beginning := PySem.W.mg_of X G a1
  b_valid_beginning := (fun_mk (st := s_valid_beginning) l1 c1 k1).binds fun _ _ _ _ _ _ us hl => match us, hl with | [_], _ => rfl
  a_valid_word := f2
  d_valid_word := _
  F_valid_word := fun_mk (st := s_valid_word) l2 c2 k2
  m_valid_word := PySem.W.mg_of X G a2
  b_valid_word := (fun_mk (st := s_valid_word) l2 c2 k2).binds fun _ _ _ _ _ _ us hl => match us, hl with | [_], _ => rfl
  a_valid_limit := f3
  d_valid_limit := _
  F_valid_limit := fun_mk (st := s_valid_limit) l3 c3 k3
  m_valid_limit := PySem.W.mg_of X G a3
  b_valid_limit := (fun_mk (st := s_valid_limit) l3 c3 k3).binds fun _ _ _ _ _ _ us hl => match us, hl with | [_], _ => rfl
  a_valid_dictionary := f4
  d_valid_dictionary := _
  F_valid_dictionary := fun_mk (st := s_valid_dictionary) l4 c4 k4
  m_valid_dictionary := PySem.W.mg_of X G a4
  b_valid_dictionary := (fun_mk (st := s_valid_dictionary) l4 c4 k4).binds fun _ _ _ _ _ _ us hl => match us, hl with | [_], _ => rfl
  a_valid_screen := f5
  d_valid_screen := _
  F_valid_screen := fun_mk (st := s_valid_screen) l5 c5 k5
  m_valid_screen := PySem.W.mg_of X G a5
  b_valid_screen := (fun_mk (st := s_valid_screen) l5 c5 k5).binds fun _ _ _ _ _ _ us hl => match us, hl with | [_], _ => rfl
  a_valid_screens := f6
  d_valid_screens := _
  F_valid_screens := fun_mk (st := s_valid_screens) l6 c6 k6
  m_valid_screens := PySem.W.mg_of X G a6
  b_valid_screens := (fun_mk (st := s_valid_screens) l6 c6 k6).binds fun _ _ _ _ _ _ us hl => match us, hl with | [_], _ => rfl
  a_check_beginning := f7
  d_check_beginning := _
  F_check_beginning := fun_mk (st := s_check_beginning) l7 c7 k7
  m_check_beginning := PySem.W.mg_of X G a7
  b_check_beginning := (fun_mk (st := s_check_beginning) l7 c7 k7).binds fun _ _ _ _ _ _ us hl => match us, hl with | [_], _ => rfl
  a_check_screens := f8
  d_check_screens := _
  F_check_screens := fun_mk (st := s_check_screens) l8 c8 k8
  m_check_screens := PySem.W.mg_of X G a8
  b_check_screens := (fun_mk (st := s_check_screens) l8 c8 k8).binds fun _ _ _ _ _ _ us hl => match us, hl with | [_], _ => rfl
  a_check_known := f9
  d_check_known := _
  F_check_known := fun_mk (st := s_check_known) l9 c9 k9
  m_check_known := PySem.W.mg_of X G a9
  b_check_known := (fun_mk (st := s_check_known) l9 c9 k9).binds fun _ _ _ _ _ _ us hl => match us, hl with | [_, _], _ => rfl
  a_find_clash := f10
  d_find_clash := _
  F_find_clash := fun_mk (st := s_find_clash) l10 c10 k10
  m_find_clash := PySem.W.mg_of X G a10
  b_find_clash := (fun_mk (st := s_find_clash) l10 c10 k10).binds fun _ _ _ _ _ _ us hl => match us, hl with | [_], _ => rfl
  a_check_no_clash := f11
  d_check_no_clash := _
  F_check_no_clash := fun_mk (st := s_check_no_clash) l11 c11 k11
  m_check_no_clash := PySem.W.mg_of X G a11
  b_check_no_clash := (fun_mk (st := s_check_no_clash) l11 c11 k11).binds fun _ _ _ _ _ _ us hl => match us, hl with | [_], _ => rfl
  a_shown_words := f12
  d_shown_words := _
  F_shown_words := fun_mk (st := s_shown_words) l12 c12 k12
  m_shown_words := PySem.W.mg_of X G a12
  b_shown_words := (fun_mk (st := s_shown_words) l12 c12 k12).binds fun _ _ _ _ _ _ us hl => match us, hl with | [_], _ => rfl
  a_first_clash := f13
  d_first_clash := _
  F_first_clash := fun_mk (st := s_first_clash) l13 c13 k13
  m_first_clash := PySem.W.mg_of X G a13
  b_first_clash := (fun_mk (st := s_first_clash) l13 c13 k13).binds fun _ _ _ _ _ _ us hl => match us, hl with | [_], _ => rfl
  a_put_before := f14
  d_put_before := _
  F_put_before := fun_mk (st := s_put_before) l14 c14 k14
  m_put_before := PySem.W.mg_of X G a14
  b_put_before := (fun_mk (st := s_put_before) l14 c14 k14).binds fun _ _ _ _ _ _ us hl => match us, hl with | [_, _], _ => rfl
  a_misses := f15
  d_misses := _
  F_misses := fun_mk (st := s_misses) l15 c15 k15
  m_misses := PySem.W.mg_of X G a15
  b_misses := (fun_mk (st := s_misses) l15 c15 k15).binds fun _ _ _ _ _ _ us hl => match us, hl with | [_, _], _ => rfl
  a_swapped_words := f16
  d_swapped_words := _
  F_swapped_words := fun_mk (st := s_swapped_words) l16 c16 k16
  m_swapped_words := PySem.W.mg_of X G a16
  b_swapped_words := (fun_mk (st := s_swapped_words) l16 c16 k16).binds fun _ _ _ _ _ _ us hl => match us, hl with | [_, _], _ => rfl
  a_all_above := f17
  d_all_above := _
  F_all_above := fun_mk (st := s_all_above) l17 c17 k17
  m_all_above := PySem.W.mg_of X G a17
  b_all_above := (fun_mk (st := s_all_above) l17 c17 k17).binds fun _ _ _ _ _ _ us hl => match us, hl with | [_, _], _ => rfl
  a_all_below := f18
  d_all_below := _
  F_all_below := fun_mk (st := s_all_below) l18 c18 k18
  m_all_below := PySem.W.mg_of X G a18
  b_all_below := (fun_mk (st := s_all_below) l18 c18 k18).binds fun _ _ _ _ _ _ us hl => match us, hl with | [_, _], _ => rfl
  a_place_range := f19
  d_place_range := _
  F_place_range := fun_mk (st := s_place_range) l19 c19 k19
  m_place_range := PySem.W.mg_of X G a19
  b_place_range := DL.binds_kw (st := s_place_range) (nm := "only_known") l19 c19 k19 q19 rfl 3 (by rfl) (fun _ _ _ _ _ _ us ks hu hk => match us, ks, hu, hk with | [_, _, _], [_], _, _ => ⟨_, _, _, _, _, _, rfl, rfl, rfl⟩)
  a_least_place := f20
  d_least_place := _
  F_least_place := fun_mk (st := s_least_place) l20 c20 k20
  m_least_place := PySem.W.mg_of X G a20
  b_least_place := (fun_mk (st := s_least_place) l20 c20 k20).binds fun _ _ _ _ _ _ us hl => match us, hl with | [_, _, _], _ => rfl
  a_has_one_place := f21
  d_has_one_place := _
  F_has_one_place := fun_mk (st := s_has_one_place) l21 c21 k21
  m_has_one_place := PySem.W.mg_of X G a21
  b_has_one_place := (fun_mk (st := s_has_one_place) l21 c21 k21).binds fun _ _ _ _ _ _ us hl => match us, hl with | [_, _, _], _ => rfl
  a_matching := f22
  d_matching := _
  F_matching := fun_mk (st := s_matching) l22 c22 k22
  m_matching := PySem.W.mg_of X G a22
  b_matching := (fun_mk (st := s_matching) l22 c22 k22).binds fun _ _ _ _ _ _ us hl => match us, hl with | [_, _], _ => rfl
  a_law_jar := f23
  d_law_jar := _
  F_law_jar := fun_mk (st := s_law_jar) l23 c23 k23
  m_law_jar := PySem.W.mg_of X G a23
  b_law_jar := (fun_mk (st := s_law_jar) l23 c23 k23).binds fun _ _ _ _ _ _ us hl => match us, hl with | [_, _], _ => rfl
  a_law_dip := f24
  d_law_dip := _
  F_law_dip := fun_mk (st := s_law_dip) l24 c24 k24
  m_law_dip := PySem.W.mg_of X G a24
  b_law_dip := (fun_mk (st := s_law_dip) l24 c24 k24).binds fun _ _ _ _ _ _ us hl => match us, hl with | [_, _], _ => rfl
  a_law_terms := f25
  d_law_terms := _
  F_law_terms := fun_mk (st := s_law_terms) l25 c25 k25
  m_law_terms := PySem.W.mg_of X G a25
  b_law_terms := (fun_mk (st := s_law_terms) l25 c25 k25).binds fun _ _ _ _ _ _ us hl => match us, hl with | [_, _, _, _], _ => rfl
  a_law_answer := f26
  d_law_answer := _
  F_law_answer := fun_mk (st := s_law_answer) l26 c26 k26
  m_law_answer := PySem.W.mg_of X G a26
  b_law_answer := (fun_mk (st := s_law_answer) l26 c26 k26).binds fun _ _ _ _ _ _ us hl => match us, hl with | [_, _, _], _ => rfl
  a_law_front := f27
  d_law_front := _
  F_law_front := fun_mk (st := s_law_front) l27 c27 k27
  m_law_front := PySem.W.mg_of X G a27
  b_law_front := (fun_mk (st := s_law_front) l27 c27 k27).binds fun _ _ _ _ _ _ us hl => match us, hl with | [_, _, _], _ => rfl
  a_law_views := f28
  d_law_views := _
  F_law_views := fun_mk (st := s_law_views) l28 c28 k28
  m_law_views := PySem.W.mg_of X G a28
  b_law_views := (fun_mk (st := s_law_views) l28 c28 k28).binds fun _ _ _ _ _ _ us hl => match us, hl with | [_, _, _, _, _], _ => rfl
  a_law_known := f29
  d_law_known := _
  F_law_known := fun_mk (st := s_law_known) l29 c29 k29
  m_law_known := PySem.W.mg_of X G a29
  b_law_known := (fun_mk (st := s_law_known) l29 c29 k29).binds fun _ _ _ _ _ _ us hl => match us, hl with | [_], _ => rfl
  a_law_shows := f30
  d_law_shows := _
  F_law_shows := fun_mk (st := s_law_shows) l30 c30 k30
  m_law_shows := PySem.W.mg_of X G a30
  b_law_shows := (fun_mk (st := s_law_shows) l30 c30 k30).binds fun _ _ _ _ _ _ us hl => match us, hl with | [_, _], _ => rfl
  a_law_orders := f31
  d_law_orders := _
  F_law_orders := fun_mk (st := s_law_orders) l31 c31 k31
  m_law_orders := PySem.W.mg_of X G a31
  b_law_orders := (fun_mk (st := s_law_orders) l31 c31 k31).binds fun _ _ _ _ _ _ us hl => match us, hl with | [_], _ => rfl
  a_law_with_new := f32
  d_law_with_new := _
  F_law_with_new := fun_mk (st := s_law_with_new) l32 c32 k32
  m_law_with_new := PySem.W.mg_of X G a32
  b_law_with_new := (fun_mk (st := s_law_with_new) l32 c32 k32).binds fun _ _ _ _ _ _ us hl => match us, hl with | [_, _], _ => rfl
  a_law_places := f33
  d_law_places := _
  F_law_places := fun_mk (st := s_law_places) l33 c33 k33
  m_law_places := PySem.W.mg_of X G a33
  b_law_places := (fun_mk (st := s_law_places) l33 c33 k33).binds fun _ _ _ _ _ _ us hl => match us, hl with | [_, _, _], _ => rfl
  a_law_right := f34
  d_law_right := _
  F_law_right := fun_mk (st := s_law_right) l34 c34 k34
  m_law_right := PySem.W.mg_of X G a34
  b_law_right := (fun_mk (st := s_law_right) l34 c34 k34).binds fun _ _ _ _ _ _ us hl => match us, hl with | [_, _, _, _], _ => rfl
  a_law := f35
  d_law := _
  F_law := fun_mk (st := s_law) l35 c35 k35
  m_law := PySem.W.mg_of X G a35
  b_law := (fun_mk (st := s_law) l35 c35 k35).binds fun _ _ _ _ _ _ us hl => match us, hl with | [_], _ => rfl
  z_abs := PySem.W.mg_none_of X G z_abs
  z_all := PySem.W.mg_none_of X G z_all
  z_any := PySem.W.mg_none_of X G z_any
  z_bool := PySem.W.mg_none_of X G z_bool
  z_enumerate := PySem.W.mg_none_of X G z_enumerate
  z_int := PySem.W.mg_none_of X G z_int
  z_isinstance := PySem.W.mg_none_of X G z_isinstance
  z_len := PySem.W.mg_none_of X G z_len
  z_list := PySem.W.mg_none_of X G z_list
  z_max := PySem.W.mg_none_of X G z_max
  z_min := PySem.W.mg_none_of X G z_min
  z_range := PySem.W.mg_none_of X G z_range
  z_repr := PySem.W.mg_none_of X G z_repr
  z_set := PySem.W.mg_none_of X G z_set
  z_sorted := PySem.W.mg_none_of X G z_sorted
  z_str := PySem.W.mg_none_of X G z_str
  z_tuple := PySem.W.mg_none_of X G z_tuple
  z_zip := PySem.W.mg_none_of X G z_zip
  t_MOST_SHOWN := t_MOST_SHOWN
  c_MOST_SHOWN := PySem.W.mg_of X G y_MOST_SHOWN
  t_MOST_SCREENS := t_MOST_SCREENS
  c_MOST_SCREENS := PySem.W.mg_of X G y_MOST_SCREENS
theorem law_mk {K : PySem.W.Frag} {h : Heap} {mg : Str → Option Value} {P : Program} {w : World} {fa cA PA : Addr} (X : K.In h) (G : h.Ns mainGlobals mg) (hfa : mg "law" = some (.ref fa))
    {f0 : Addr} {oc0 kV0 dc0 pm0 cd0 ct0 : Value} {od0 an0 : Option Addr} {sl0 : Array (Option Value)}
    {f1 : Addr} {oc1 kV1 dc1 pm1 cd1 ct1 : Value} {od1 an1 : Option Addr} {sl1 : Array (Option Value)}
    {f2 : Addr} {oc2 kV2 dc2 pm2 cd2 ct2 : Value} {od2 an2 : Option Addr} {sl2 : Array (Option Value)}
    {f3 : Addr} {oc3 kV3 dc3 pm3 cd3 ct3 : Value} {od3 an3 : Option Addr} {sl3 : Array (Option Value)}
    {f4 : Addr} {oc4 kV4 dc4 pm4 cd4 ct4 : Value} {od4 an4 : Option Addr} {sl4 : Array (Option Value)}
    {f5 : Addr} {oc5 kV5 dc5 pm5 cd5 ct5 : Value} {od5 an5 : Option Addr} {sl5 : Array (Option Value)}
    {f6 : Addr} {oc6 kV6 dc6 pm6 cd6 ct6 : Value} {od6 an6 : Option Addr} {sl6 : Array (Option Value)}
    {f7 : Addr} {oc7 kV7 dc7 pm7 cd7 ct7 : Value} {od7 an7 : Option Addr} {sl7 : Array (Option Value)}
    {f8 : Addr} {oc8 kV8 dc8 pm8 cd8 ct8 : Value} {od8 an8 : Option Addr} {sl8 : Array (Option Value)}
    {f9 : Addr} {oc9 kV9 dc9 pm9 cd9 ct9 : Value} {od9 an9 : Option Addr} {sl9 : Array (Option Value)}
    {f10 : Addr} {oc10 kV10 dc10 pm10 cd10 ct10 : Value} {od10 an10 : Option Addr} {sl10 : Array (Option Value)}
    {f11 : Addr} {oc11 kV11 dc11 pm11 cd11 ct11 : Value} {od11 an11 : Option Addr} {sl11 : Array (Option Value)}
    {f12 : Addr} {oc12 kV12 dc12 pm12 cd12 ct12 : Value} {od12 an12 : Option Addr} {sl12 : Array (Option Value)}
    {f13 : Addr} {oc13 kV13 dc13 pm13 cd13 ct13 : Value} {od13 an13 : Option Addr} {sl13 : Array (Option Value)}
    {f14 : Addr} {oc14 kV14 dc14 pm14 cd14 ct14 : Value} {od14 an14 : Option Addr} {sl14 : Array (Option Value)}
    {f15 : Addr} {oc15 kV15 dc15 pm15 cd15 ct15 : Value} {od15 an15 : Option Addr} {sl15 : Array (Option Value)}
    {f16 : Addr} {oc16 kV16 dc16 pm16 cd16 ct16 : Value} {od16 an16 : Option Addr} {sl16 : Array (Option Value)}
    {f17 : Addr} {oc17 kV17 dc17 pm17 cd17 ct17 : Value} {od17 an17 : Option Addr} {sl17 : Array (Option Value)}
    {f18 : Addr} {oc18 kV18 dc18 pm18 cd18 ct18 : Value} {od18 an18 : Option Addr} {sl18 : Array (Option Value)}
    {f19 : Addr} {oc19 dc19 pm19 cd19 ct19 : Value} {od19 an19 : Option Addr} {sl19 : Array (Option Value)} {kD19 : Addr}
    {f20 : Addr} {oc20 kV20 dc20 pm20 cd20 ct20 : Value} {od20 an20 : Option Addr} {sl20 : Array (Option Value)}
    {f21 : Addr} {oc21 kV21 dc21 pm21 cd21 ct21 : Value} {od21 an21 : Option Addr} {sl21 : Array (Option Value)}
    {f22 : Addr} {oc22 kV22 dc22 pm22 cd22 ct22 : Value} {od22 an22 : Option Addr} {sl22 : Array (Option Value)}
    {f23 : Addr} {oc23 kV23 dc23 pm23 cd23 ct23 : Value} {od23 an23 : Option Addr} {sl23 : Array (Option Value)}
    {f24 : Addr} {oc24 kV24 dc24 pm24 cd24 ct24 : Value} {od24 an24 : Option Addr} {sl24 : Array (Option Value)}
    {f25 : Addr} {oc25 kV25 dc25 pm25 cd25 ct25 : Value} {od25 an25 : Option Addr} {sl25 : Array (Option Value)}
    {f26 : Addr} {oc26 kV26 dc26 pm26 cd26 ct26 : Value} {od26 an26 : Option Addr} {sl26 : Array (Option Value)}
    {f27 : Addr} {oc27 kV27 dc27 pm27 cd27 ct27 : Value} {od27 an27 : Option Addr} {sl27 : Array (Option Value)}
    {f28 : Addr} {oc28 kV28 dc28 pm28 cd28 ct28 : Value} {od28 an28 : Option Addr} {sl28 : Array (Option Value)}
    {f29 : Addr} {oc29 kV29 dc29 pm29 cd29 ct29 : Value} {od29 an29 : Option Addr} {sl29 : Array (Option Value)}
    {f30 : Addr} {oc30 kV30 dc30 pm30 cd30 ct30 : Value} {od30 an30 : Option Addr} {sl30 : Array (Option Value)}
    {f31 : Addr} {oc31 kV31 dc31 pm31 cd31 ct31 : Value} {od31 an31 : Option Addr} {sl31 : Array (Option Value)}
    {f32 : Addr} {oc32 kV32 dc32 pm32 cd32 ct32 : Value} {od32 an32 : Option Addr} {sl32 : Array (Option Value)}
    {f33 : Addr} {oc33 kV33 dc33 pm33 cd33 ct33 : Value} {od33 an33 : Option Addr} {sl33 : Array (Option Value)}
    {f34 : Addr} {oc34 kV34 dc34 pm34 cd34 ct34 : Value} {od34 an34 : Option Addr} {sl34 : Array (Option Value)}
    {f35 : Addr} {oc35 kV35 dc35 pm35 cd35 ct35 : Value} {od35 an35 : Option Addr} {sl35 : Array (Option Value)}
    {t_MOST_SHOWN : Tok}
    {t_MOST_SCREENS : Tok}
    (a0 : PySem.W.nsIn K mainGlobals "valid_integer" = some (some (.ref f0))) (l0 : K.lookup f0 = some ⟨oc0, od0, .func (PySem.W.fnOf "valid_integer" "valid_integer" (defArgs s_valid_integer) (defBody s_valid_integer) (defScope s_valid_integer) .none kV0 dc0 pm0 an0 cd0 ct0), sl0⟩) (c0 : PySem.W.codeIn K cd0 "valid_integer" = true) (k0 : PySem.W.keepIn K (.ref f0) = true)
    (a1 : PySem.W.nsIn K mainGlobals "valid_beginning" = some (some (.ref f1))) (l1 : K.lookup f1 = some ⟨oc1, od1, .func (PySem.W.fnOf "valid_beginning" "valid_beginning" (defArgs s_valid_beginning) (defBody s_valid_beginning) (defScope s_valid_beginning) .none kV1 dc1 pm1 an1 cd1 ct1), sl1⟩) (c1 : PySem.W.codeIn K cd1 "valid_beginning" = true) (k1 : PySem.W.keepIn K (.ref f1) = true)
    (a2 : PySem.W.nsIn K mainGlobals "valid_word" = some (some (.ref f2))) (l2 : K.lookup f2 = some ⟨oc2, od2, .func (PySem.W.fnOf "valid_word" "valid_word" (defArgs s_valid_word) (defBody s_valid_word) (defScope s_valid_word) .none kV2 dc2 pm2 an2 cd2 ct2), sl2⟩) (c2 : PySem.W.codeIn K cd2 "valid_word" = true) (k2 : PySem.W.keepIn K (.ref f2) = true)
    (a3 : PySem.W.nsIn K mainGlobals "valid_limit" = some (some (.ref f3))) (l3 : K.lookup f3 = some ⟨oc3, od3, .func (PySem.W.fnOf "valid_limit" "valid_limit" (defArgs s_valid_limit) (defBody s_valid_limit) (defScope s_valid_limit) .none kV3 dc3 pm3 an3 cd3 ct3), sl3⟩) (c3 : PySem.W.codeIn K cd3 "valid_limit" = true) (k3 : PySem.W.keepIn K (.ref f3) = true)
    (a4 : PySem.W.nsIn K mainGlobals "valid_dictionary" = some (some (.ref f4))) (l4 : K.lookup f4 = some ⟨oc4, od4, .func (PySem.W.fnOf "valid_dictionary" "valid_dictionary" (defArgs s_valid_dictionary) (defBody s_valid_dictionary) (defScope s_valid_dictionary) .none kV4 dc4 pm4 an4 cd4 ct4), sl4⟩) (c4 : PySem.W.codeIn K cd4 "valid_dictionary" = true) (k4 : PySem.W.keepIn K (.ref f4) = true)
    (a5 : PySem.W.nsIn K mainGlobals "valid_screen" = some (some (.ref f5))) (l5 : K.lookup f5 = some ⟨oc5, od5, .func (PySem.W.fnOf "valid_screen" "valid_screen" (defArgs s_valid_screen) (defBody s_valid_screen) (defScope s_valid_screen) .none kV5 dc5 pm5 an5 cd5 ct5), sl5⟩) (c5 : PySem.W.codeIn K cd5 "valid_screen" = true) (k5 : PySem.W.keepIn K (.ref f5) = true)
    (a6 : PySem.W.nsIn K mainGlobals "valid_screens" = some (some (.ref f6))) (l6 : K.lookup f6 = some ⟨oc6, od6, .func (PySem.W.fnOf "valid_screens" "valid_screens" (defArgs s_valid_screens) (defBody s_valid_screens) (defScope s_valid_screens) .none kV6 dc6 pm6 an6 cd6 ct6), sl6⟩) (c6 : PySem.W.codeIn K cd6 "valid_screens" = true) (k6 : PySem.W.keepIn K (.ref f6) = true)
    (a7 : PySem.W.nsIn K mainGlobals "check_beginning" = some (some (.ref f7))) (l7 : K.lookup f7 = some ⟨oc7, od7, .func (PySem.W.fnOf "check_beginning" "check_beginning" (defArgs s_check_beginning) (defBody s_check_beginning) (defScope s_check_beginning) .none kV7 dc7 pm7 an7 cd7 ct7), sl7⟩) (c7 : PySem.W.codeIn K cd7 "check_beginning" = true) (k7 : PySem.W.keepIn K (.ref f7) = true)
    (a8 : PySem.W.nsIn K mainGlobals "check_screens" = some (some (.ref f8))) (l8 : K.lookup f8 = some ⟨oc8, od8, .func (PySem.W.fnOf "check_screens" "check_screens" (defArgs s_check_screens) (defBody s_check_screens) (defScope s_check_screens) .none kV8 dc8 pm8 an8 cd8 ct8), sl8⟩) (c8 : PySem.W.codeIn K cd8 "check_screens" = true) (k8 : PySem.W.keepIn K (.ref f8) = true)
    (a9 : PySem.W.nsIn K mainGlobals "check_known" = some (some (.ref f9))) (l9 : K.lookup f9 = some ⟨oc9, od9, .func (PySem.W.fnOf "check_known" "check_known" (defArgs s_check_known) (defBody s_check_known) (defScope s_check_known) .none kV9 dc9 pm9 an9 cd9 ct9), sl9⟩) (c9 : PySem.W.codeIn K cd9 "check_known" = true) (k9 : PySem.W.keepIn K (.ref f9) = true)
    (a10 : PySem.W.nsIn K mainGlobals "find_clash" = some (some (.ref f10))) (l10 : K.lookup f10 = some ⟨oc10, od10, .func (PySem.W.fnOf "find_clash" "find_clash" (defArgs s_find_clash) (defBody s_find_clash) (defScope s_find_clash) .none kV10 dc10 pm10 an10 cd10 ct10), sl10⟩) (c10 : PySem.W.codeIn K cd10 "find_clash" = true) (k10 : PySem.W.keepIn K (.ref f10) = true)
    (a11 : PySem.W.nsIn K mainGlobals "check_no_clash" = some (some (.ref f11))) (l11 : K.lookup f11 = some ⟨oc11, od11, .func (PySem.W.fnOf "check_no_clash" "check_no_clash" (defArgs s_check_no_clash) (defBody s_check_no_clash) (defScope s_check_no_clash) .none kV11 dc11 pm11 an11 cd11 ct11), sl11⟩) (c11 : PySem.W.codeIn K cd11 "check_no_clash" = true) (k11 : PySem.W.keepIn K (.ref f11) = true)
    (a12 : PySem.W.nsIn K mainGlobals "shown_words" = some (some (.ref f12))) (l12 : K.lookup f12 = some ⟨oc12, od12, .func (PySem.W.fnOf "shown_words" "shown_words" (defArgs s_shown_words) (defBody s_shown_words) (defScope s_shown_words) .none kV12 dc12 pm12 an12 cd12 ct12), sl12⟩) (c12 : PySem.W.codeIn K cd12 "shown_words" = true) (k12 : PySem.W.keepIn K (.ref f12) = true)
    (a13 : PySem.W.nsIn K mainGlobals "first_clash" = some (some (.ref f13))) (l13 : K.lookup f13 = some ⟨oc13, od13, .func (PySem.W.fnOf "first_clash" "first_clash" (defArgs s_first_clash) (defBody s_first_clash) (defScope s_first_clash) .none kV13 dc13 pm13 an13 cd13 ct13), sl13⟩) (c13 : PySem.W.codeIn K cd13 "first_clash" = true) (k13 : PySem.W.keepIn K (.ref f13) = true)
    (a14 : PySem.W.nsIn K mainGlobals "put_before" = some (some (.ref f14))) (l14 : K.lookup f14 = some ⟨oc14, od14, .func (PySem.W.fnOf "put_before" "put_before" (defArgs s_put_before) (defBody s_put_before) (defScope s_put_before) .none kV14 dc14 pm14 an14 cd14 ct14), sl14⟩) (c14 : PySem.W.codeIn K cd14 "put_before" = true) (k14 : PySem.W.keepIn K (.ref f14) = true)
    (a15 : PySem.W.nsIn K mainGlobals "_misses" = some (some (.ref f15))) (l15 : K.lookup f15 = some ⟨oc15, od15, .func (PySem.W.fnOf "_misses" "_misses" (defArgs s_misses) (defBody s_misses) (defScope s_misses) .none kV15 dc15 pm15 an15 cd15 ct15), sl15⟩) (c15 : PySem.W.codeIn K cd15 "_misses" = true) (k15 : PySem.W.keepIn K (.ref f15) = true)
    (a16 : PySem.W.nsIn K mainGlobals "_swapped_words" = some (some (.ref f16))) (l16 : K.lookup f16 = some ⟨oc16, od16, .func (PySem.W.fnOf "_swapped_words" "_swapped_words" (defArgs s_swapped_words) (defBody s_swapped_words) (defScope s_swapped_words) .none kV16 dc16 pm16 an16 cd16 ct16), sl16⟩) (c16 : PySem.W.codeIn K cd16 "_swapped_words" = true) (k16 : PySem.W.keepIn K (.ref f16) = true)
    (a17 : PySem.W.nsIn K mainGlobals "all_above" = some (some (.ref f17))) (l17 : K.lookup f17 = some ⟨oc17, od17, .func (PySem.W.fnOf "all_above" "all_above" (defArgs s_all_above) (defBody s_all_above) (defScope s_all_above) .none kV17 dc17 pm17 an17 cd17 ct17), sl17⟩) (c17 : PySem.W.codeIn K cd17 "all_above" = true) (k17 : PySem.W.keepIn K (.ref f17) = true)
    (a18 : PySem.W.nsIn K mainGlobals "all_below" = some (some (.ref f18))) (l18 : K.lookup f18 = some ⟨oc18, od18, .func (PySem.W.fnOf "all_below" "all_below" (defArgs s_all_below) (defBody s_all_below) (defScope s_all_below) .none kV18 dc18 pm18 an18 cd18 ct18), sl18⟩) (c18 : PySem.W.codeIn K cd18 "all_below" = true) (k18 : PySem.W.keepIn K (.ref f18) = true)
    (a19 : PySem.W.nsIn K mainGlobals "place_range" = some (some (.ref f19))) (l19 : K.lookup f19 = some ⟨oc19, od19, .func (PySem.W.fnOf "place_range" "place_range" (defArgs s_place_range) (defBody s_place_range) (defScope s_place_range) .none (.ref kD19) dc19 pm19 an19 cd19 ct19), sl19⟩) (c19 : PySem.W.codeIn K cd19 "place_range" = true) (k19 : PySem.W.keepIn K (.ref f19) = true) (q19 : PySem.W.nsIn K kD19 "only_known" = some (some (.bool false)))
    (a20 : PySem.W.nsIn K mainGlobals "_least_place" = some (some (.ref f20))) (l20 : K.lookup f20 = some ⟨oc20, od20, .func (PySem.W.fnOf "_least_place" "_least_place" (defArgs s_least_place) (defBody s_least_place) (defScope s_least_place) .none kV20 dc20 pm20 an20 cd20 ct20), sl20⟩) (c20 : PySem.W.codeIn K cd20 "_least_place" = true) (k20 : PySem.W.keepIn K (.ref f20) = true)
    (a21 : PySem.W.nsIn K mainGlobals "_has_one_place" = some (some (.ref f21))) (l21 : K.lookup f21 = some ⟨oc21, od21, .func (PySem.W.fnOf "_has_one_place" "_has_one_place" (defArgs s_has_one_place) (defBody s_has_one_place) (defScope s_has_one_place) .none kV21 dc21 pm21 an21 cd21 ct21), sl21⟩) (c21 : PySem.W.codeIn K cd21 "_has_one_place" = true) (k21 : PySem.W.keepIn K (.ref f21) = true)
    (a22 : PySem.W.nsIn K mainGlobals "_matching" = some (some (.ref f22))) (l22 : K.lookup f22 = some ⟨oc22, od22, .func (PySem.W.fnOf "_matching" "_matching" (defArgs s_matching) (defBody s_matching) (defScope s_matching) .none kV22 dc22 pm22 an22 cd22 ct22), sl22⟩) (c22 : PySem.W.codeIn K cd22 "_matching" = true) (k22 : PySem.W.keepIn K (.ref f22) = true)
    (a23 : PySem.W.nsIn K mainGlobals "_law_jar" = some (some (.ref f23))) (l23 : K.lookup f23 = some ⟨oc23, od23, .func (PySem.W.fnOf "_law_jar" "_law_jar" (defArgs s_law_jar) (defBody s_law_jar) (defScope s_law_jar) .none kV23 dc23 pm23 an23 cd23 ct23), sl23⟩) (c23 : PySem.W.codeIn K cd23 "_law_jar" = true) (k23 : PySem.W.keepIn K (.ref f23) = true)
    (a24 : PySem.W.nsIn K mainGlobals "_law_dip" = some (some (.ref f24))) (l24 : K.lookup f24 = some ⟨oc24, od24, .func (PySem.W.fnOf "_law_dip" "_law_dip" (defArgs s_law_dip) (defBody s_law_dip) (defScope s_law_dip) .none kV24 dc24 pm24 an24 cd24 ct24), sl24⟩) (c24 : PySem.W.codeIn K cd24 "_law_dip" = true) (k24 : PySem.W.keepIn K (.ref f24) = true)
    (a25 : PySem.W.nsIn K mainGlobals "_law_terms" = some (some (.ref f25))) (l25 : K.lookup f25 = some ⟨oc25, od25, .func (PySem.W.fnOf "_law_terms" "_law_terms" (defArgs s_law_terms) (defBody s_law_terms) (defScope s_law_terms) .none kV25 dc25 pm25 an25 cd25 ct25), sl25⟩) (c25 : PySem.W.codeIn K cd25 "_law_terms" = true) (k25 : PySem.W.keepIn K (.ref f25) = true)
    (a26 : PySem.W.nsIn K mainGlobals "_law_answer" = some (some (.ref f26))) (l26 : K.lookup f26 = some ⟨oc26, od26, .func (PySem.W.fnOf "_law_answer" "_law_answer" (defArgs s_law_answer) (defBody s_law_answer) (defScope s_law_answer) .none kV26 dc26 pm26 an26 cd26 ct26), sl26⟩) (c26 : PySem.W.codeIn K cd26 "_law_answer" = true) (k26 : PySem.W.keepIn K (.ref f26) = true)
    (a27 : PySem.W.nsIn K mainGlobals "_law_front" = some (some (.ref f27))) (l27 : K.lookup f27 = some ⟨oc27, od27, .func (PySem.W.fnOf "_law_front" "_law_front" (defArgs s_law_front) (defBody s_law_front) (defScope s_law_front) .none kV27 dc27 pm27 an27 cd27 ct27), sl27⟩) (c27 : PySem.W.codeIn K cd27 "_law_front" = true) (k27 : PySem.W.keepIn K (.ref f27) = true)
    (a28 : PySem.W.nsIn K mainGlobals "_law_views" = some (some (.ref f28))) (l28 : K.lookup f28 = some ⟨oc28, od28, .func (PySem.W.fnOf "_law_views" "_law_views" (defArgs s_law_views) (defBody s_law_views) (defScope s_law_views) .none kV28 dc28 pm28 an28 cd28 ct28), sl28⟩) (c28 : PySem.W.codeIn K cd28 "_law_views" = true) (k28 : PySem.W.keepIn K (.ref f28) = true)
    (a29 : PySem.W.nsIn K mainGlobals "_law_known" = some (some (.ref f29))) (l29 : K.lookup f29 = some ⟨oc29, od29, .func (PySem.W.fnOf "_law_known" "_law_known" (defArgs s_law_known) (defBody s_law_known) (defScope s_law_known) .none kV29 dc29 pm29 an29 cd29 ct29), sl29⟩) (c29 : PySem.W.codeIn K cd29 "_law_known" = true) (k29 : PySem.W.keepIn K (.ref f29) = true)
    (a30 : PySem.W.nsIn K mainGlobals "_law_shows" = some (some (.ref f30))) (l30 : K.lookup f30 = some ⟨oc30, od30, .func (PySem.W.fnOf "_law_shows" "_law_shows" (defArgs s_law_shows) (defBody s_law_shows) (defScope s_law_shows) .none kV30 dc30 pm30 an30 cd30 ct30), sl30⟩) (c30 : PySem.W.codeIn K cd30 "_law_shows" = true) (k30 : PySem.W.keepIn K (.ref f30) = true)
    (a31 : PySem.W.nsIn K mainGlobals "_law_orders" = some (some (.ref f31))) (l31 : K.lookup f31 = some ⟨oc31, od31, .func (PySem.W.fnOf "_law_orders" "_law_orders" (defArgs s_law_orders) (defBody s_law_orders) (defScope s_law_orders) .none kV31 dc31 pm31 an31 cd31 ct31), sl31⟩) (c31 : PySem.W.codeIn K cd31 "_law_orders" = true) (k31 : PySem.W.keepIn K (.ref f31) = true)
    (a32 : PySem.W.nsIn K mainGlobals "_law_with_new" = some (some (.ref f32))) (l32 : K.lookup f32 = some ⟨oc32, od32, .func (PySem.W.fnOf "_law_with_new" "_law_with_new" (defArgs s_law_with_new) (defBody s_law_with_new) (defScope s_law_with_new) .none kV32 dc32 pm32 an32 cd32 ct32), sl32⟩) (c32 : PySem.W.codeIn K cd32 "_law_with_new" = true) (k32 : PySem.W.keepIn K (.ref f32) = true)
    (a33 : PySem.W.nsIn K mainGlobals "_law_places" = some (some (.ref f33))) (l33 : K.lookup f33 = some ⟨oc33, od33, .func (PySem.W.fnOf "_law_places" "_law_places" (defArgs s_law_places) (defBody s_law_places) (defScope s_law_places) .none kV33 dc33 pm33 an33 cd33 ct33), sl33⟩) (c33 : PySem.W.codeIn K cd33 "_law_places" = true) (k33 : PySem.W.keepIn K (.ref f33) = true)
    (a34 : PySem.W.nsIn K mainGlobals "_law_right" = some (some (.ref f34))) (l34 : K.lookup f34 = some ⟨oc34, od34, .func (PySem.W.fnOf "_law_right" "_law_right" (defArgs s_law_right) (defBody s_law_right) (defScope s_law_right) .none kV34 dc34 pm34 an34 cd34 ct34), sl34⟩) (c34 : PySem.W.codeIn K cd34 "_law_right" = true) (k34 : PySem.W.keepIn K (.ref f34) = true)
    (a35 : PySem.W.nsIn K mainGlobals "law" = some (some (.ref f35))) (l35 : K.lookup f35 = some ⟨oc35, od35, .func (PySem.W.fnOf "law" "law" (defArgs s_law) (defBody s_law) (defScope s_law) .none kV35 dc35 pm35 an35 cd35 ct35), sl35⟩) (c35 : PySem.W.codeIn K cd35 "law" = true) (k35 : PySem.W.keepIn K (.ref f35) = true)
    (z_abs : PySem.W.nsIn K mainGlobals "abs" = some none)
    (z_all : PySem.W.nsIn K mainGlobals "all" = some none)
    (z_any : PySem.W.nsIn K mainGlobals "any" = some none)
    (z_bool : PySem.W.nsIn K mainGlobals "bool" = some none)
    (z_enumerate : PySem.W.nsIn K mainGlobals "enumerate" = some none)
    (z_int : PySem.W.nsIn K mainGlobals "int" = some none)
    (z_isinstance : PySem.W.nsIn K mainGlobals "isinstance" = some none)
    (z_len : PySem.W.nsIn K mainGlobals "len" = some none)
    (z_list : PySem.W.nsIn K mainGlobals "list" = some none)
    (z_max : PySem.W.nsIn K mainGlobals "max" = some none)
    (z_min : PySem.W.nsIn K mainGlobals "min" = some none)
    (z_range : PySem.W.nsIn K mainGlobals "range" = some none)
    (z_repr : PySem.W.nsIn K mainGlobals "repr" = some none)
    (z_set : PySem.W.nsIn K mainGlobals "set" = some none)
    (z_sorted : PySem.W.nsIn K mainGlobals "sorted" = some none)
    (z_str : PySem.W.nsIn K mainGlobals "str" = some none)
    (z_tuple : PySem.W.nsIn K mainGlobals "tuple" = some none)
    (z_zip : PySem.W.nsIn K mainGlobals "zip" = some none)
    (y_MOST_SHOWN : PySem.W.nsIn K mainGlobals "MOST_SHOWN" = some (some (.int 20 t_MOST_SHOWN)))
    (y_MOST_SCREENS : PySem.W.nsIn K mainGlobals "MOST_SCREENS" = some (some (.int 20 t_MOST_SCREENS))) (hcA : cd17 = Value.ref cA) : ∃ fd : FuncData, (∀ (s : Shared) (u : Value), BindsTo s fd ⟨[u], []⟩ [("script", u)]) ∧ ∀ base : Heap, K.In base → base.Ns mainGlobals mg → LamX.TabB base mg cA PA → FnG P w K mg base CX0 12 fa fd ["script"] (spLawT K (tabsOf PA "all_above")) := by
  let T : Tx K mg := mkTx X G a0 l0 c0 k0 a1 l1 c1 k1 a2 l2 c2 k2 a3 l3 c3 k3 a4 l4 c4 k4 a5 l5 c5 k5 a6 l6 c6 k6 a7 l7 c7 k7 a8 l8 c8 k8 a9 l9 c9 k9 a10 l10 c10 k10 a11 l11 c11 k11 a12 l12 c12 k12 a13 l13 c13 k13 a14 l14 c14 k14 a15 l15 c15 k15 a16 l16 c16 k16 a17 l17 c17 k17 a18 l18 c18 k18 a19 l19 c19 k19 q19 a20 l20 c20 k20 a21 l21 c21 k21 a22 l22 c22 k22 a23 l23 c23 k23 a24 l24 c24 k24 a25 l25 c25 k25 a26 l26 c26 k26 a27 l27 c27 k27 a28 l28 c28 k28 a29 l29 c29 k29 a30 l30 c30 k30 a31 l31 c31 k31 a32 l32 c32 k32 a33 l33 c33 k33 a34 l34 c34 k34 a35 l35 c35 k35 z_abs z_all z_any z_bool z_enumerate z_int z_isinstance z_len z_list z_max z_min z_range z_repr z_set z_sorted z_str z_tuple z_zip y_MOST_SHOWN y_MOST_SCREENS
  have e := hfa.symm.trans T.m_law
  cases e
  exact ⟨T.d_law, fun s u => .of_eq rfl, fun base _ _ tb => ok_law T tb hcA⟩
end Lw

set_option linter.all false
set_option maxRecDepth 100000
set_option maxHeartbeats 4000000
namespace Lw
open PySem PySem.Spec L2 DL
end Lw
open PySem PySem.W PyProof.Rows
set_option maxHeartbeats 0 in
theorem PySem.Challenge.cw_topmatches_k32_places_by_all_dictionarie_holds : PySem.Challenge.rw_topmatches_k32_places_by_all_dictionarie.Holds := by
  w_on; o_law; k_head; (case hw => w_witness2)
  k_fill
  refine DL.walk_GT (n := 63) (k := 12) (x := "script") (CX := fun _ => L2.CX0) rfl (by decide) rfl ⟨rfl, by decide, by decide⟩ ?F (fun _ _ _ _ _ h => h)
  case F =>
    intro w mg fa h Y G hmg
    have X := PySem.W.km_in_of Y
    have pack : ∀ {P : PySem.Program} {K : PySem.W.Frag} (X : K.In h) (hP : h.get? 205 = some { cls := .none, data := .fields #[] }) (nP : K.lookup 205 = none) (hC : PySem.W.codeHdIn K 209 205 = true) (mk : ∃ fd : FuncData, (∀ (s : Shared) (u : Value), BindsTo s fd ⟨[u], []⟩ [("script", u)]) ∧ ∀ base : Heap, K.In base → base.Ns mainGlobals mg → LamX.TabB base mg 209 205 → DL.FnG P w K mg base L2.CX0 12 fa fd ["script"] (DL.spLawT K (DL.tabsOf 205 "all_above"))),
      ∃ (K : PySem.W.Frag) (fd : FuncData) (cs : List (Addr × Addr)) (sp : L2.Sp), K.In h ∧ (∀ p ∈ cs, h.get? p.2 = some { cls := .none, data := .fields #[] }) ∧ (∀ p ∈ cs, K.lookup p.2 = none) ∧ (∀ p ∈ cs, PySem.W.CodeHd h p.1 p.2) ∧ (∀ (s : Shared) (u : Value), BindsTo s fd ⟨[u], []⟩ [("script", u)]) ∧
        (∀ (H : L2.Hp) (a : Addr) (ns : List Int), ns.length ≤ 63 → DL.OnlyT (cs.map (·.2)) H → (∀ p ∈ cs, H p.2 = some (.tbl #[])) → L2.SqL K H a (ns.map L2.V.int) → sp [.ref a] H (fun v _ => v = .bl true) fun _ _ _ => False) ∧
        ∀ base : Heap, K.In base → base.Ns mainGlobals mg → (∀ p ∈ cs, LamX.TabB base mg p.1 p.2) → DL.FnG P w K mg base L2.CX0 12 fa fd ["script"] sp := fun {P K} X hP nP hC ⟨fd, hb, hF⟩ =>
      ⟨K, fd, [(209, 205)], _, X, fun p hp => by rw [List.mem_singleton.mp hp]; exact hP, fun p hp => by rw [List.mem_singleton.mp hp]; exact nP, fun p hp => by rw [List.mem_singleton.mp hp]; exact PySem.W.codeHd_of_K X hC, hb,
        fun H a ns hl only tabs hS => ⟨a, ns, rfl, hS, hl, only, fun p hp => by rw [List.mem_singleton.mp hp]; exact LamX.TabS.nil (tabs _ (List.mem_singleton.mpr rfl)), fun _ => rfl⟩, fun base kin ns tb => hF base kin ns (tb _ (List.mem_singleton.mpr rfl))⟩
    refine pack X (PySem.W.km_tabs_of Y _ (by decide)) (by rfl) (by rfl) ?mk
    case mk =>
      refine' Lw.law_mk (cA := 209) (PA := 205) X G hmg ?a0 ?l0 ?c0 ?k0 ?a1 ?l1 ?c1 ?k1 ?a2 ?l2 ?c2 ?k2 ?a3 ?l3 ?c3 ?k3 ?a4 ?l4 ?c4 ?k4 ?a5 ?l5 ?c5 ?k5 ?a6 ?l6 ?c6 ?k6 ?a7 ?l7 ?c7 ?k7 ?a8 ?l8 ?c8 ?k8 ?a9 ?l9 ?c9 ?k9 ?a10 ?l10 ?c10 ?k10 ?a11 ?l11 ?c11 ?k11 ?a12 ?l12 ?c12 ?k12 ?a13 ?l13 ?c13 ?k13 ?a14 ?l14 ?c14 ?k14 ?a15 ?l15 ?c15 ?k15 ?a16 ?l16 ?c16 ?k16 ?a17 ?l17 ?c17 ?k17 ?a18 ?l18 ?c18 ?k18 ?a19 ?l19 ?c19 ?k19 ?q19 ?a20 ?l20 ?c20 ?k20 ?a21 ?l21 ?c21 ?k21 ?a22 ?l22 ?c22 ?k22 ?a23 ?l23 ?c23 ?k23 ?a24 ?l24 ?c24 ?k24 ?a25 ?l25 ?c25 ?k25 ?a26 ?l26 ?c26 ?k26 ?a27 ?l27 ?c27 ?k27 ?a28 ?l28 ?c28 ?k28 ?a29 ?l29 ?c29 ?k29 ?a30 ?l30 ?c30 ?k30 ?a31 ?l31 ?c31 ?k31 ?a32 ?l32 ?c32 ?k32 ?a33 ?l33 ?c33 ?k33 ?a34 ?l34 ?c34 ?k34 ?a35 ?l35 ?c35 ?k35 ?z_abs ?z_all ?z_any ?z_bool ?z_enumerate ?z_int ?z_isinstance ?z_len ?z_list ?z_max ?z_min ?z_range ?z_repr ?z_set ?z_sorted ?z_str ?z_tuple ?z_zip ?y_MOST_SHOWN ?y_MOST_SCREENS ?hcA
      (case a0 => k_is); (case l0 => k_is); (case c0 => k_is); (case k0 => k_is); (case a1 => k_is); (case l1 => k_is); (case c1 => k_is); (case k1 => k_is); (case a2 => k_is); (case l2 => k_is); (case c2 => k_is); (case k2 => k_is); (case a3 => k_is); (case l3 => k_is); (case c3 => k_is); (case k3 => k_is); (case a4 => k_is); (case l4 => k_is); (case c4 => k_is); (case k4 => k_is); (case a5 => k_is); (case l5 => k_is); (case c5 => k_is); (case k5 => k_is); (case a6 => k_is); (case l6 => k_is); (case c6 => k_is); (case k6 => k_is); (case a7 => k_is); (case l7 => k_is); (case c7 => k_is); (case k7 => k_is); (case a8 => k_is); (case l8 => k_is); (case c8 => k_is); (case k8 => k_is); (case a9 => k_is); (case l9 => k_is); (case c9 => k_is); (case k9 => k_is); (case a10 => k_is); (case l10 => k_is); (case c10 => k_is); (case k10 => k_is); (case a11 => k_is); (case l11 => k_is); (case c11 => k_is); (case k11 => k_is); (case a12 => k_is); (case l12 => k_is); (case c12 => k_is); (case k12 => k_is); (case a13 => k_is); (case l13 => k_is); (case c13 => k_is); (case k13 => k_is); (case a14 => k_is); (case l14 => k_is); (case c14 => k_is); (case k14 => k_is); (case a15 => k_is); (case l15 => k_is); (case c15 => k_is); (case k15 => k_is); (case a16 => k_is); (case l16 => k_is); (case c16 => k_is); (case k16 => k_is); (case a17 => k_is); (case l17 => k_is); (case c17 => k_is); (case k17 => k_is); (case a18 => k_is); (case l18 => k_is); (case c18 => k_is); (case k18 => k_is); (case a19 => k_is); (case l19 => k_is); (case c19 => k_is); (case k19 => k_is); (case q19 => k_is); (case a20 => k_is); (case l20 => k_is); (case c20 => k_is); (case k20 => k_is); (case a21 => k_is); (case l21 => k_is); (case c21 => k_is); (case k21 => k_is); (case a22 => k_is); (case l22 => k_is); (case c22 => k_is); (case k22 => k_is); (case a23 => k_is); (case l23 => k_is); (case c23 => k_is); (case k23 => k_is); (case a24 => k_is); (case l24 => k_is); (case c24 => k_is); (case k24 => k_is); (case a25 => k_is); (case l25 => k_is); (case c25 => k_is); (case k25 => k_is); (case a26 => k_is); (case l26 => k_is); (case c26 => k_is); (case k26 => k_is); (case a27 => k_is); (case l27 => k_is); (case c27 => k_is); (case k27 => k_is); (case a28 => k_is); (case l28 => k_is); (case c28 => k_is); (case k28 => k_is); (case a29 => k_is); (case l29 => k_is); (case c29 => k_is); (case k29 => k_is); (case a30 => k_is); (case l30 => k_is); (case c30 => k_is); (case k30 => k_is); (case a31 => k_is); (case l31 => k_is); (case c31 => k_is); (case k31 => k_is); (case a32 => k_is); (case l32 => k_is); (case c32 => k_is); (case k32 => k_is); (case a33 => k_is); (case l33 => k_is); (case c33 => k_is); (case k33 => k_is); (case a34 => k_is); (case l34 => k_is); (case c34 => k_is); (case k34 => k_is); (case a35 => k_is); (case l35 => k_is); (case c35 => k_is); (case k35 => k_is); (case z_abs => k_is); (case z_all => k_is); (case z_any => k_is); (case z_bool => k_is); (case z_enumerate => k_is); (case z_int => k_is); (case z_isinstance => k_is); (case z_len => k_is); (case z_list => k_is); (case z_max => k_is); (case z_min => k_is); (case z_range => k_is); (case z_repr => k_is); (case z_set => k_is); (case z_sorted => k_is); (case z_str => k_is); (case z_tuple => k_is); (case z_zip => k_is); (case y_MOST_SHOWN => k_is); (case y_MOST_SCREENS => k_is)
      (case hcA => rfl)

