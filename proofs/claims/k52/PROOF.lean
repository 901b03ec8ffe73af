import PyProof.Rows.All
import Wide.All
import OpenK.AllK
import Wide.FinOn
import HandS.ForMost
import HandS.ForExc
import HandS.Evl
import HandS.Zip
import HandS.IsInst
import HandS.TupAny
import HandS.TupMul
import HandS.TupLe
import HandS.Wide
import HandS.WideBits
import HandS.Deep
import HandS.SortInts
import HandS.Style
import HandS.Conv
import HandS.TupSets
import HandS.Strs
import HandS.SetFor
import HandS.Steps
import KE.DataFind
import HandS.HotCalls
import HandS.ExcIs
import KE.GoesEnum
import HandS.Flow
import HandS.Text
import HandS.FStr
import HandS.Star
import HandS.SetKeys
import HandS.ExcCtx
import KE.SortData
import KE.DataMinMax
import HandS.SortKw
import PyProof.ListIndex
import HandS.SetBool
import KE.GoesZip
import PySem.Challenge.RW_huelists_k52_runs_that_go_nowhere_round
set_option Elab.async false
set_option linter.all false
set_option maxRecDepth 100000
set_option autoImplicit false
-- Hue0
namespace Hue
open PySem PySem.Spec PyProof.Rows L2
open Evl (Ex)

/-! ### data that stands still: G is the part of the heap that no one changes any more -/
def keyD : Key → PyData
  | .inl i => .int i
  | .inr x => .str x
mutual
inductive Dt (K : PySem.W.Frag) (G : Hp) : V → PyData → Prop
  | non : Dt K G .non .none
  | bl (b : Bool) : Dt K G (.bl b) (.bool b)
  | int (i : Int) : Dt K G (.int i) (.int i)
  | str (x : Str) : Dt K G (.str x) (.str x)
  | lst {a : Addr} {xs : List V} {ds : List PyData} : G a = some (.lst xs) → DtA K G xs ds → Dt K G (.ref a) (.list ds)
  | tup {a : Addr} {xs : List V} {ds : List PyData} : SqT K G a xs → DtA K G xs ds → Dt K G (.ref a) (.tuple ds)
  | dct {a : Addr} {kvs : List (Key × V)} {ds : List (PyData × PyData)} : Rd G a (.dK kvs) → DtK K G kvs ds → Dt K G (.ref a) (.dict ds)
inductive DtA (K : PySem.W.Frag) (G : Hp) : List V → List PyData → Prop
  | nil : DtA K G [] []
  | cons {v : V} {vs : List V} {d : PyData} {ds : List PyData} : Dt K G v d → DtA K G vs ds → DtA K G (v :: vs) (d :: ds)
inductive DtK (K : PySem.W.Frag) (G : Hp) : List (Key × V) → List (PyData × PyData) → Prop
  | nil : DtK K G [] []
  | cons {k : Key} {v : V} {r : List (Key × V)} {d : PyData} {ds : List (PyData × PyData)} : Dt K G v d → DtK K G r ds → DtK K G ((k, v) :: r) ((keyD k, d) :: ds)
end

section
variable {K : PySem.W.Frag} {G G' : Hp}
theorem rd_mono {a : Addr} {u : HO} (e : Ex G G') (h : Rd G a u) : Rd G' a u := by
  rcases h with h | ⟨o, h⟩
  · exact .inl (e _ _ h)
  · exact .inr ⟨o, e _ _ h⟩
mutual
theorem Dt.mono (e : Ex G G') : ∀ {v : V} {d : PyData}, Dt K G v d → Dt K G' v d
  | _, _, .non => .non
  | _, _, .bl b => .bl b
  | _, _, .int i => .int i
  | _, _, .str x => .str x
  | _, _, .lst h1 h2 => .lst (e _ _ h1) (DtA.mono e h2)
  | _, _, .tup h1 h2 => .tup (Evl.ex_t e h1) (DtA.mono e h2)
  | _, _, .dct h1 h2 => .dct (rd_mono e h1) (DtK.mono e h2)
theorem DtA.mono (e : Ex G G') : ∀ {vs : List V} {ds : List PyData}, DtA K G vs ds → DtA K G' vs ds
  | _, _, .nil => .nil
  | _, _, .cons h1 h2 => .cons (Dt.mono e h1) (DtA.mono e h2)
theorem DtK.mono (e : Ex G G') : ∀ {vs : List (Key × V)} {ds : List (PyData × PyData)}, DtK K G vs ds → DtK K G' vs ds
  | _, _, .nil => .nil
  | _, _, .cons h1 h2 => .cons (Dt.mono e h1) (DtK.mono e h2)
end
theorem DtA.length : ∀ {vs : List V} {ds : List PyData}, DtA K G vs ds → vs.length = ds.length
  | _, _, .nil => rfl
  | _, _, .cons _ h2 => by rw [List.length_cons, List.length_cons, DtA.length h2]
theorem DtA.append : ∀ {vs ws : List V} {ds es : List PyData}, DtA K G vs ds → DtA K G ws es → DtA K G (vs ++ ws) (ds ++ es)
  | _, _, _, _, .nil, h => h
  | _, _, _, _, .cons h1 h2, h => .cons h1 (DtA.append h2 h)
theorem DtA.get : ∀ {vs : List V} {ds : List PyData} {i : Nat} {v : V}, DtA K G vs ds → vs[i]? = some v → ∃ d, ds[i]? = some d ∧ Dt K G v d
  | _, _, _, _, .nil, e => by simp at e
  | _, _, 0, _, .cons h1 _, e => by simp at e; subst e; exact ⟨_, rfl, h1⟩
  | _, _, i + 1, _, .cons _ h2, e => by simpa using DtA.get (i := i) h2 (by simpa using e)
theorem DtA.get' : ∀ {vs : List V} {ds : List PyData} {i : Nat} {d : PyData}, DtA K G vs ds → ds[i]? = some d → ∃ v, vs[i]? = some v ∧ Dt K G v d
  | _, _, _, _, .nil, e => by simp at e
  | _, _, 0, _, .cons h1 _, e => by simp at e; subst e; exact ⟨_, rfl, h1⟩
  | _, _, i + 1, _, .cons _ h2, e => by simpa using DtA.get' (i := i) h2 (by simpa using e)
theorem DtA.take : ∀ {vs : List V} {ds : List PyData} (n : Nat), DtA K G vs ds → DtA K G (vs.take n) (ds.take n)
  | _, _, 0, _ => .nil
  | _, _, _ + 1, .nil => .nil
  | _, _, n + 1, .cons h1 h2 => .cons h1 (DtA.take n h2)
theorem DtA.drop : ∀ {vs : List V} {ds : List PyData} (n : Nat), DtA K G vs ds → DtA K G (vs.drop n) (ds.drop n)
  | _, _, 0, h => h
  | _, _, _ + 1, .nil => .nil
  | _, _, n + 1, .cons _ h2 => DtA.drop n h2
theorem DtA.set {v : V} {d : PyData} (h : Dt K G v d) : ∀ {vs : List V} {ds : List PyData} (n : Nat), DtA K G vs ds → DtA K G (vs.set n v) (ds.set n d)
  | _, _, _, .nil => .nil
  | _, _, 0, .cons _ h2 => .cons h h2
  | _, _, n + 1, .cons h1 h2 => .cons h1 (DtA.set h n h2)
theorem DtA.reverse : ∀ {vs : List V} {ds : List PyData}, DtA K G vs ds → DtA K G vs.reverse ds.reverse
  | _, _, .nil => .nil
  | _, _, .cons h1 h2 => by
    rw [List.reverse_cons, List.reverse_cons]
    exact (DtA.reverse h2).append (.cons h1 .nil)
theorem DtA.rep {vs : List V} {ds : List PyData} (h : DtA K G vs ds) : ∀ n : Nat, DtA K G (List.replicate n vs).flatten (List.replicate n ds).flatten
  | 0 => .nil
  | n + 1 => by
    rw [List.replicate_succ, List.replicate_succ, List.flatten_cons, List.flatten_cons]
    exact h.append (DtA.rep h n)
theorem Dt.int_inv {v : V} {i : Int} (h : Dt K G v (.int i)) : v = .int i := by cases h; rfl
theorem Dt.str_inv {v : V} {i : Str} (h : Dt K G v (.str i)) : v = .str i := by cases h; rfl
theorem Dt.bl_inv {v : V} {i : Bool} (h : Dt K G v (.bool i)) : v = .bl i := by cases h; rfl
theorem Dt.non_inv {v : V} (h : Dt K G v .none) : v = .non := by cases h; rfl
theorem Dt.tup_inv {v : V} {ds : List PyData} (h : Dt K G v (.tuple ds)) : ∃ a xs, v = .ref a ∧ SqT K G a xs ∧ DtA K G xs ds := by cases h with | tup h1 h2 => exact ⟨_, _, rfl, h1, h2⟩
theorem Dt.lst_inv {v : V} {ds : List PyData} (h : Dt K G v (.list ds)) : ∃ a xs, v = .ref a ∧ G a = some (.lst xs) ∧ DtA K G xs ds := by cases h with | lst h1 h2 => exact ⟨_, _, rfl, h1, h2⟩
theorem DtA.ints : ∀ {vs : List V} {ns : List Int}, DtA K G vs (ns.map PyData.int) → vs = ns.map V.int
  | [], [], _ => rfl
  | v :: vs, n :: ns, h => by
    cases h with
    | cons h1 h2 => rw [h1.int_inv, DtA.ints h2]; rfl
  | [], _ :: _, h => nomatch h
  | _ :: _, [], h => nomatch h
theorem DtA.ofInts (ns : List Int) : DtA K G (ns.map V.int) (ns.map PyData.int) := by
  induction ns with
  | nil => exact .nil
  | cons n r ih => exact .cons (.int n) ih
theorem DtA.bools : ∀ {vs : List V} {ns : List Bool}, DtA K G vs (ns.map PyData.bool) → vs = ns.map V.bl
  | [], [], _ => rfl
  | v :: vs, n :: ns, h => by
    cases h with
    | cons h1 h2 => rw [h1.bl_inv, DtA.bools h2]; rfl
  | [], _ :: _, h => nomatch h
  | _ :: _, [], h => nomatch h
end

/-! ### slots -/
/-- un: nothing is known; dat: data; own: a list that this frame alone holds; lnt: a list lent by the caller; scr: the script -/
inductive Sl where
  | un | dat (d : PyData) | own (ds : List PyData) | lnt (ds : List PyData) | scr (ns : List Int)
abbrev Env := List Sl
structure Xn where
  c : Str
  fs : Option (List (Str × PyData))
inductive R (α : Type) where
  | ok (a : α) (ρ : Env) | ex (x : Xn) (ρ : Env) | bad
/-- a value: data, or a new list that no one holds yet -/
inductive Rv where
  | dat (d : PyData) | new (ds : List PyData)
abbrev M (α : Type) := Env → R α
inductive Fl where
  | nx (ρ : Env) | rt (r : Rv) (ρ : Env) | bk (ρ : Env) | ct (ρ : Env) | ex (x : Xn) (ρ : Env) | bad

/-- where the lent lists stand; the script -/
structure Frm where
  at_ : Nat → Option Addr
  scr : Option (Addr × List Int)
structure Cn where
  K : PySem.W.Frag
  mg : Str → Option Value
  B : Hp
  L : Frm

/-- a slot holds a list at a -/
def Hold (ρ : Env) (σ : L2.St) (i : Nat) (a : Addr) : Prop := (∃ ds, ρ[i]? = some (.own ds) ∨ ρ[i]? = some (.lnt ds)) ∧ σ[i]? = some (some (.ref a))
def Lst (C : Cn) (G H : Hp) (a : Addr) (ds : List PyData) : Prop := ∃ vs, H a = some (.lst vs) ∧ DtA C.K G vs ds ∧ G a = none ∧ C.B a = none
def SlOk (C : Cn) (G H : Hp) (i : Nat) (x : Option V) : Sl → Prop
  | .un => True
  | .dat d => ∃ v, x = some v ∧ Dt C.K G v d
  | .own ds => ∃ a, x = some (.ref a) ∧ Lst C G H a ds
  | .lnt ds => ∃ a, x = some (.ref a) ∧ C.L.at_ i = some a ∧ Lst C G H a ds
  | .scr ns => ∃ a, x = some (.ref a) ∧ C.L.scr = some (a, ns)
structure Ab (C : Cn) (G : Hp) (σ : L2.St) (H : Hp) (ρ : Env) : Prop where
  exG : Ex G H
  exB : Ex C.B H
  dis : ∀ a, G a ≠ none → C.B a = none
  scr : ∀ a ns, C.L.scr = some (a, ns) → SqL C.K C.B a (ns.map V.int)
  len : σ.length = ρ.length
  sl : ∀ i s, ρ[i]? = some s → ∃ x, σ[i]? = some x ∧ SlOk C G H i x s
  nd : ∀ i j a, Hold ρ σ i a → Hold ρ σ j a → i = j

section
variable {C : Cn} {G G' H H' : Hp} {σ : L2.St} {ρ : Env}
theorem Ab.hold (A : Ab C G σ H ρ) {i : Nat} {a : Addr} (h : Hold ρ σ i a) : ∃ ds, (ρ[i]? = some (.own ds) ∨ (ρ[i]? = some (.lnt ds) ∧ C.L.at_ i = some a)) ∧ Lst C G H a ds := by
  obtain ⟨⟨ds, h1 | h1⟩, h2⟩ := h
  · obtain ⟨x, e, s⟩ := A.sl i _ h1
    obtain ⟨b, e2, l⟩ := s
    rw [e2] at e
    rw [h2] at e
    cases e
    exact ⟨ds, .inl h1, l⟩
  · obtain ⟨x, e, s⟩ := A.sl i _ h1
    obtain ⟨b, e2, q, l⟩ := s
    rw [e2] at e
    rw [h2] at e
    cases e
    exact ⟨ds, .inr ⟨h1, q⟩, l⟩
theorem Ab.notG (A : Ab C G σ H ρ) {i : Nat} {a : Addr} (h : Hold ρ σ i a) : G a = none := let ⟨_, _, _, _, _, g, _⟩ := A.hold h; g
theorem Ab.notB (A : Ab C G σ H ρ) {i : Nat} {a : Addr} (h : Hold ρ σ i a) : C.B a = none := let ⟨_, _, _, _, _, _, b⟩ := A.hold h; b
theorem Ab.inH (A : Ab C G σ H ρ) {i : Nat} {a : Addr} (h : Hold ρ σ i a) : H a ≠ none := by
  obtain ⟨_, _, _, e, _⟩ := A.hold h
  rw [e]
  intro z
  cases z
/-- the still part and the heap grow; what is held stays as it is -/
theorem Ab.grow (A : Ab C G σ H ρ) (eG : Ex G G') (eH : Ex H H') (eGH : Ex G' H') (d : ∀ a, G' a ≠ none → C.B a = none) (hd : ∀ i a, Hold ρ σ i a → G' a = none) : Ab C G' σ H' ρ where
  exG := eGH
  exB := A.exB.trans eH
  dis := d
  scr := A.scr
  len := A.len
  sl := fun i s e => by
    obtain ⟨x, h1, h2⟩ := A.sl i s e
    refine ⟨x, h1, ?_⟩
    cases s with
    | un => exact trivial
    | dat d =>
      obtain ⟨v, q1, q2⟩ := h2
      exact ⟨v, q1, q2.mono eG⟩
    | own ds =>
      obtain ⟨a, q1, vs, q2, q3, q4, q5⟩ := h2
      subst q1
      exact ⟨a, rfl, vs, eH _ _ q2, q3.mono eG, hd i a ⟨⟨ds, .inl e⟩, h1⟩, q5⟩
    | lnt ds =>
      obtain ⟨a, q1, q, vs, q2, q3, q4, q5⟩ := h2
      subst q1
      exact ⟨a, rfl, q, vs, eH _ _ q2, q3.mono eG, hd i a ⟨⟨ds, .inr e⟩, h1⟩, q5⟩
    | scr ns => exact h2
  nd := A.nd
/-- a new object is laid into the still part -/
theorem Ab.lay (A : Ab C G σ H ρ) {p : Addr} {o : HO} (hp : H p = none) : Ab C (upd G p o) σ (upd H p o) ρ := by
  have gp : G p = none := Evl.fresh_back A.exG hp
  have bp : C.B p = none := Evl.fresh_back A.exB hp
  refine A.grow (Ex.new gp) (Ex.new hp) (fun a u e => ?_) (fun a e => ?_) (fun i a h => ?_)
  · by_cases ha : a = p
    · subst ha; rw [upd_same] at e; rw [upd_same]; exact e
    · rw [upd_ne ha] at e; rw [upd_ne ha]; exact A.exG a u e
  · by_cases ha : a = p
    · rw [ha]; exact bp
    · rw [upd_ne ha] at e; exact A.dis a e
  · have ha : a ≠ p := fun z => A.inH h (z ▸ hp)
    rw [upd_ne ha]; exact A.notG h
theorem Ab.laid (A : Ab C G σ H ρ) {p : Addr} {o : HO} (hp : H p = none) : Ex G (upd G p o) := Ex.new (Evl.fresh_back A.exG hp)
end

/-- what a value is -/
def RvOk (C : Cn) (G : Hp) (σ : L2.St) (H : Hp) (ρ : Env) (v : V) : Rv → Prop
  | .dat d => Dt C.K G v d
  | .new ds => ∃ p, v = .ref p ∧ Lst C G H p ds ∧ ∀ i, ¬ Hold ρ σ i p

def XOk (C : Cn) (G : Hp) (H : Hp) (x : Xn) (cls : Value) (da : Option Addr) : Prop :=
  C.mg x.c = some cls ∧ match x.fs with
    | none => da = none
    | some fs => ∃ a vs, da = some a ∧ H a = some (.xd vs) ∧ fs.map (·.1) = vs.map (·.1) ∧ DtA C.K G (vs.map (·.2)) (fs.map (·.2))
abbrev XW := Value → Option Addr → L2.St → Hp → Prop

section
variable (C : Cn) (E : XW)
def WR {α : Type} (G : Hp) (σ : L2.St) (ok : Hp → Hp → Env → α → Prop) : R α → Prop
  | .ok a ρ' => ∀ G' H', Ex G G' → Ab C G' σ H' ρ' → ok G' H' ρ' a
  | .ex x ρ' => ∀ G' H' cls da, Ex G G' → Ab C G' σ H' ρ' → XOk C G' H' x cls da → E cls da σ H'
  | .bad => False
end
/-- an expression whose value is data -/
def SE (K : PySem.W.Frag) (mg : Str → Option Value) (E : XW) (t : TE) (m : M PyData) : Prop := ∀ (B : Hp) (L : Frm) (G : Hp) (σ : L2.St) (H : Hp) (ρ : Env) (Q : VK), Ab ⟨K, mg, B, L⟩ G σ H ρ →
  WR ⟨K, mg, B, L⟩ E G σ (fun G' H' _ d => ∀ v, Dt K G' v d → Q v H') (m ρ) → t σ H Q
/-- an expression -/
def SX (K : PySem.W.Frag) (mg : Str → Option Value) (E : XW) (t : TE) (m : M Rv) : Prop := ∀ (B : Hp) (L : Frm) (G : Hp) (σ : L2.St) (H : Hp) (ρ : Env) (Q : VK), Ab ⟨K, mg, B, L⟩ G σ H ρ →
  WR ⟨K, mg, B, L⟩ E G σ (fun G' H' ρ' r => ∀ v, RvOk ⟨K, mg, B, L⟩ G' σ H' ρ' v r → Q v H') (m ρ) → t σ H Q
/-- a test -/
def STt (K : PySem.W.Frag) (mg : Str → Option Value) (E : XW) (t : TT) (m : M Bool) : Prop := ∀ (B : Hp) (L : Frm) (G : Hp) (σ : L2.St) (H : Hp) (ρ : Env) (Q : Bool → Hp → Prop), Ab ⟨K, mg, B, L⟩ G σ H ρ →
  WR ⟨K, mg, B, L⟩ E G σ (fun _ H' _ b => Q b H') (m ρ) → t σ H Q
/-- arguments that are all data -/
def SA (K : PySem.W.Frag) (mg : Str → Option Value) (E : XW) (t : TA) (m : M (List PyData)) : Prop := ∀ (B : Hp) (L : Frm) (G : Hp) (σ : L2.St) (H : Hp) (ρ : Env) (Q : List V → Hp → Prop), Ab ⟨K, mg, B, L⟩ G σ H ρ →
  WR ⟨K, mg, B, L⟩ E G σ (fun G' H' _ ds => ∀ vs, DtA K G' vs ds → Q vs H') (m ρ) → t σ H Q

/-! ### the way values go on -/
def R.bind {α β : Type} (r : R α) (f : α → Env → R β) : R β := match r with
  | .ok a ρ => f a ρ
  | .ex x ρ => .ex x ρ
  | .bad => .bad
def mPure {α : Type} (a : α) : M α := fun ρ => .ok a ρ
def mBind {α β : Type} (m : M α) (f : α → M β) : M β := fun ρ => (m ρ).bind fun a ρ' => f a ρ'
def mMap {α β : Type} (g : α → β) (m : M α) : M β := fun ρ => (m ρ).bind fun a ρ' => .ok (g a) ρ'
/-- a partial function's answer -/
def mOpt {α : Type} (o : Option α) : M α := fun ρ => match o with
  | some a => .ok a ρ
  | none => .bad
section
variable {C : Cn} {E : XW} {G G' : Hp} {σ : L2.St} {α β : Type}
theorem WR.bind {ok : Hp → Hp → Env → β → Prop} {r : R α} {f : α → Env → R β} (h : WR C E G σ ok (r.bind f)) : WR C E G σ (fun G' H' ρ' a => WR C E G' σ ok (f a ρ')) r := by
  cases r with
  | ok a ρ =>
    intro G' H' e A
    show WR C E G' σ ok (f a ρ)
    have h' : WR C E G σ ok (f a ρ) := h
    cases q : f a ρ with
    | ok b ρ2 => rw [q] at h'; exact fun G2 H2 e2 A2 => h' G2 H2 (e.trans e2) A2
    | ex x ρ2 => rw [q] at h'; exact fun G2 H2 cls da e2 A2 X2 => h' G2 H2 cls da (e.trans e2) A2 X2
    | bad => rw [q] at h'; exact h'
  | ex x ρ => exact h
  | bad => exact h
theorem WR.mono {ok ok' : Hp → Hp → Env → α → Prop} {r : R α} (h : WR C E G σ ok r) (k : ∀ G' H' ρ' a, Ex G G' → Ab C G' σ H' ρ' → ok G' H' ρ' a → ok' G' H' ρ' a) : WR C E G σ ok' r := by
  cases r with
  | ok a ρ => exact fun G' H' e A => k _ _ _ _ e A (h G' H' e A)
  | ex x ρ => exact h
  | bad => exact h
theorem WR.here {ok : Hp → Hp → Env → α → Prop} {a : α} {ρ : Env} {H : Hp} (h : WR C E G σ ok (.ok a ρ)) (A : Ab C G σ H ρ) : ok G H ρ a := h G H (Ex.refl G) A
end
end Hue
-- Hue1
namespace Hue
open PySem PySem.Spec PyProof.Rows L2
open Evl (Ex)

section
variable {K : PySem.W.Frag} {mg : Str → Option Value} {E : XW}
def frz : Rv → PyData
  | .dat d => d
  | .new ds => .list ds
abbrev mD (m : M PyData) : M Rv := mMap Rv.dat m
abbrev mF (m : M Rv) : M PyData := mMap frz m

theorem WR.map {C : Cn} {G : Hp} {σ : L2.St} {α β : Type} {ok : Hp → Hp → Env → β → Prop} {m : M α} {g : α → β} {ρ : Env} (h : WR C E G σ ok (mMap g m ρ)) : WR C E G σ (fun G' H' ρ' a => ok G' H' ρ' (g a)) (m ρ) :=
  (WR.bind (r := m ρ) (f := fun a ρ' => R.ok (g a) ρ') h).mono fun _ _ _ _ _ A k => k.here A
theorem WR.opt {C : Cn} {G : Hp} {σ : L2.St} {α : Type} {ok : Hp → Hp → Env → α → Prop} {o : Option α} {ρ : Env} (h : WR C E G σ ok (mOpt o ρ)) : ∃ a, o = some a ∧ WR C E G σ ok (.ok a ρ) := by
  cases o with
  | none => exact h.elim
  | some a => exact ⟨a, rfl, h⟩
theorem sx {t : TE} {m : M PyData} (h : SE K mg E t m) : SX K mg E t (mD m) := fun B L G σ H ρ Q A w => h B L G σ H ρ Q A (WR.map w)
/-- a new list is put to the still part -/
theorem Ab.still {C : Cn} {G H : Hp} {σ : L2.St} {ρ : Env} {p : Addr} {ds : List PyData} (A : Ab C G σ H ρ) (l : Lst C G H p ds) (hp : ∀ i, ¬ Hold ρ σ i p) : ∃ vs, Ex G (upd G p (.lst vs)) ∧ Ab C (upd G p (.lst vs)) σ H ρ ∧ Dt C.K (upd G p (.lst vs)) (.ref p) (.list ds) := by
  obtain ⟨vs, h1, h2, h3, h4⟩ := l
  have e : Ex G (upd G p (.lst vs)) := Ex.new h3
  refine ⟨vs, e, A.grow e (Ex.refl H) (fun a u q => ?_) (fun a q => ?_) (fun i a h => ?_), .lst upd_same (h2.mono e)⟩
  · by_cases ha : a = p
    · subst ha; rw [upd_same] at q; cases q; exact h1
    · rw [upd_ne ha] at q; exact A.exG a u q
  · by_cases ha : a = p
    · rw [ha]; exact h4
    · rw [upd_ne ha] at q; exact A.dis a q
  · have ha : a ≠ p := fun z => hp i (z ▸ h)
    rw [upd_ne ha]; exact A.notG h
theorem RvOk.still {C : Cn} {G H : Hp} {σ : L2.St} {ρ : Env} {v : V} {r : Rv} (A : Ab C G σ H ρ) (h : RvOk C G σ H ρ v r) : ∃ G', Ex G G' ∧ Ab C G' σ H ρ ∧ Dt C.K G' v (frz r) := by
  cases r with
  | dat d => exact ⟨G, Ex.refl G, A, h⟩
  | new ds =>
    obtain ⟨p, rfl, l, hp⟩ := h
    obtain ⟨vs, h1, h2, h3⟩ := A.still l hp
    exact ⟨_, h1, h2, h3⟩
theorem se {t : TE} {m : M Rv} (h : SX K mg E t m) : SE K mg E t (mF m) := fun B L G σ H ρ Q A w => by
  refine h B L G σ H ρ Q A ?_
  have w1 := WR.bind (r := m ρ) (f := fun a ρ' => R.ok (frz a) ρ') w
  refine w1.mono fun G1 H1 ρ1 r e1 A1 k v hv => ?_
  obtain ⟨G2, e2, A2, d2⟩ := hv.still A1
  exact k G2 H1 e2 A2 v d2

/-! ### names, constants -/
def mVar (i : Nat) : M PyData := fun ρ => match ρ[i]? with
  | some (.dat d) => .ok d ρ
  | some (.own ds) => .ok (.list ds) (ρ.set i (.dat (.list ds)))
  | _ => .bad
theorem hold_set {ρ : Env} {σ : L2.St} {i j : Nat} {a : Addr} {d : PyData} (h : Hold (ρ.set i (.dat d)) σ j a) : Hold ρ σ j a ∧ j ≠ i := by
  obtain ⟨⟨ds, h1⟩, h2⟩ := h
  by_cases e : i = j
  · subst e
    rcases h1 with h1 | h1
    all_goals
      by_cases hi : i < ρ.length
      · rw [List.getElem?_set_self hi] at h1; cases h1
      · rw [List.set_eq_of_length_le (by omega), List.getElem?_eq_none (by omega)] at h1; cases h1
  · rw [List.getElem?_set_ne e] at h1
    exact ⟨⟨⟨ds, h1⟩, h2⟩, fun z => e z.symm⟩
theorem se_var {i : Nat} : SE K mg E (tVar i) (mVar i) := fun B L G σ H ρ Q A w => by
  unfold mVar at w
  split at w
  · rename_i d e
    obtain ⟨x, h1, v, rfl, h2⟩ := A.sl i _ e
    exact ⟨v, h1, w.here A v h2⟩
  · rename_i ds e
    obtain ⟨x, h1, a, rfl, l⟩ := A.sl i _ e
    refine ⟨.ref a, h1, ?_⟩
    have hh : Hold ρ σ i a := ⟨⟨ds, .inl e⟩, h1⟩
    have hi : i < ρ.length := (List.getElem?_eq_some_iff.mp e).1
    obtain ⟨vs, q1, q2, q3, q4⟩ := l
    have eG : Ex G (upd G a (.lst vs)) := Ex.new q3
    have A2 : Ab ⟨K, mg, B, L⟩ (upd G a (.lst vs)) σ H (ρ.set i (.dat (.list ds))) := by
      refine ⟨fun b u q => ?_, A.exB, fun b q => ?_, A.scr, by rw [List.length_set]; exact A.len, fun j s q => ?_, fun j k b hj hk => ?_⟩
      · by_cases hb : b = a
        · subst hb; rw [upd_same] at q; cases q; exact q1
        · rw [upd_ne hb] at q; exact A.exG b u q
      · by_cases hb : b = a
        · rw [hb]; exact q4
        · rw [upd_ne hb] at q; exact A.dis b q
      · by_cases hj : i = j
        · subst hj
          rw [List.getElem?_set_self hi] at q
          cases q
          exact ⟨_, h1, .ref a, rfl, .lst upd_same (q2.mono eG)⟩
        · rw [List.getElem?_set_ne hj] at q
          obtain ⟨x, z1, z2⟩ := A.sl j s q
          refine ⟨x, z1, ?_⟩
          cases s with
          | un => exact trivial
          | dat d => obtain ⟨v, y1, y2⟩ := z2; exact ⟨v, y1, y2.mono eG⟩
          | own es =>
            obtain ⟨b, rfl, us, y2, y3, y4, y5⟩ := z2
            have hb : b ≠ a := fun z => hj (A.nd i j a hh ⟨⟨es, .inl q⟩, z ▸ z1⟩)
            exact ⟨b, rfl, us, y2, y3.mono eG, by rw [upd_ne hb]; exact y4, y5⟩
          | lnt es =>
            obtain ⟨b, rfl, y1, us, y2, y3, y4, y5⟩ := z2
            have hb : b ≠ a := fun z => hj (A.nd i j a hh ⟨⟨es, .inr q⟩, z ▸ z1⟩)
            exact ⟨b, rfl, y1, us, y2, y3.mono eG, by rw [upd_ne hb]; exact y4, y5⟩
          | scr ns => exact z2
      · exact A.nd j k b (hold_set hj).1 (hold_set hk).1
    exact w _ H eG A2 (.ref a) (.lst upd_same (q2.mono eG))
  · exact w.elim
theorem se_c {v : V} {d : PyData} (h : ∀ G, Dt K G v d) : SE K mg E (tC v) (mPure d) := fun B L G σ H ρ Q A w => w.here A v (h G)
theorem se_int {i : Int} : SE K mg E (tC (.int i)) (mPure (.int i)) := se_c fun _ => .int i
theorem se_bl {i : Bool} : SE K mg E (tC (.bl i)) (mPure (.bool i)) := se_c fun _ => .bl i
theorem se_str {i : Str} : SE K mg E (tC (.str i)) (mPure (.str i)) := se_c fun _ => .str i
theorem se_non : SE K mg E (tC .non) (mPure .none) := se_c fun _ => .non

/-! ### operations on two values -/
/-- r does what f says of data -/
def OpS (K : PySem.W.Frag) (r : R2) (f : PyData → PyData → Option Rv) : Prop := ∀ (mg : Str → Option Value) (B : Hp) (L : Frm) (G : Hp) (σ : L2.St) (H : Hp) (ρ : Env) (x y : V) (d e : PyData) (z : Rv) (Q : VK), Ab ⟨K, mg, B, L⟩ G σ H ρ → Dt K G x d → Dt K G y e → f d e = some z →
  (∀ v G' H', Ex G G' → Ab ⟨K, mg, B, L⟩ G' σ H' ρ → RvOk ⟨K, mg, B, L⟩ G' σ H' ρ v z → Q v H') → r x y H Q
def mOp (f : PyData → PyData → Option Rv) (ma mb : M PyData) : M Rv := mBind ma fun d => mBind mb fun e => mOpt (f d e)
theorem sx_op {r : R2} {f : PyData → PyData → Option Rv} {ta tb : TE} {ma mb : M PyData} (ho : OpS K r f) (ha : SE K mg E ta ma) (hb : SE K mg E tb mb) : SX K mg E (tOp r ta tb) (mOp f ma mb) := fun B L G σ H ρ Q A w => by
  refine ha B L G σ H ρ _ A ((WR.bind w).mono fun G1 H1 ρ1 d e1 A1 k x hx => ?_)
  refine hb B L G1 σ H1 ρ1 _ A1 ((WR.bind k).mono fun G2 H2 ρ2 e e2 A2 k2 y hy => ?_)
  obtain ⟨z, q, k3⟩ := WR.opt k2
  exact ho mg B L G2 σ H2 ρ2 x y d e z Q A2 (hx.mono e2) hy q fun v G' H' e3 A3 hv => k3 G' H' e3 A3 v hv
/-- two readings of one operation -/
def rOr (r s : R2) : R2 := fun x y H Q => r x y H Q ∨ s x y H Q
theorem op_two {X : Cx} {g : Value → Value → Sem Value} {r s : R2} (h1 : OpR X g r) (h2 : OpR X g s) : OpR X g (rOr r s) := by
  intro pins t σ H x y v u Q I rx ry h
  rcases h with h | h
  · exact h1 pins t σ H x y v u Q I rx ry h
  · exact h2 pins t σ H x y v u Q I rx ry h
theorem or_inv {α : Type} {a b : Option α} {z : α} (h : a.or b = some z) : a = some z ∨ b = some z := by
  cases a with
  | none => exact .inr h
  | some u => exact .inl h
theorem ops_two {r s : R2} {f g : PyData → PyData → Option Rv} (h1 : OpS K r f) (h2 : OpS K s g) : OpS K (rOr r s) (fun d e => (f d e).or (g d e)) := fun mg B L G σ H ρ x y d e z Q A hx hy hz k => by
  rcases or_inv hz with q | q
  · exact .inl (h1 mg B L G σ H ρ x y d e z Q A hx hy q k)
  · exact .inr (h2 mg B L G σ H ρ x y d e z Q A hx hy q k)
/-- ints -/
def fI (c : Int → Int → Bool) (g : Int → Int → PyData) : PyData → PyData → Option Rv
  | .int i, .int j => if c i j = true then some (.dat (g i j)) else none
  | _, _ => none
theorem ops_I {Cc : Int → Int → Prop} {c : Int → Int → Bool} {g : Int → Int → V} {g' : Int → Int → PyData} (hc : ∀ i j, c i j = true → Cc i j) (hg : ∀ i j G, Dt K G (g i j) (g' i j)) : OpS K (rI Cc g) (fI c g') := fun mg B L G σ H ρ x y d e z Q A hx hy hz k => by
  unfold fI at hz
  split at hz
  · rename_i i j
    by_cases q : c i j = true
    · rw [if_pos q] at hz
      cases hz
      exact ⟨i, j, hx.int_inv, hy.int_inv, hc i j q, k _ G H (Ex.refl G) A (hg i j G)⟩
    · rw [if_neg q] at hz; cases hz
  · cases hz
theorem ops_I0 {g : Int → Int → V} {g' : Int → Int → PyData} (hg : ∀ i j G, Dt K G (g i j) (g' i j)) : OpS K (rI0 g) (fI (fun _ _ => true) g') := fun mg B L G σ H ρ x y d e z Q A hx hy hz k => by
  unfold fI at hz
  split at hz
  · rename_i i j
    rw [if_pos rfl] at hz
    cases hz
    exact ⟨i, j, hx.int_inv, hy.int_inv, k _ G H (Ex.refl G) A (hg i j G)⟩
  · cases hz
/-- text + text -/
def rAddS : R2 := fun x y H Q => ∃ i j, x = .str i ∧ y = .str j ∧ i.length + j.length ≤ sizeLine ∧ Q (.str (i ++ j)) H
theorem op_addS {X : Cx} : OpR X (binaryOp .Add) rAddS := op_add_str
def small (n : Nat) : Bool := decide (n ≤ 100000)
theorem small_le {n : Nat} (h : small n = true) : n ≤ sizeLine := Evl.sz_of (of_decide_eq_true h)
theorem small_lt {n : Nat} (h : small n = true) : n < sizeLine := Nat.lt_of_le_of_lt (of_decide_eq_true h) (by decide)
def fAddS : PyData → PyData → Option Rv
  | .str i, .str j => if small (i.length + j.length) = true then some (.dat (.str (i ++ j))) else none
  | _, _ => none
theorem ops_addS : OpS K rAddS fAddS := fun mg B L G σ H ρ x y d e z Q A hx hy hz k => by
  unfold fAddS at hz
  split at hz
  · rename_i i j
    by_cases q : small (i.length + j.length) = true
    · rw [if_pos q] at hz
      cases hz
      exact ⟨i, j, hx.str_inv, hy.str_inv, small_le q, k _ G H (Ex.refl G) A (.str _)⟩
    · rw [if_neg q] at hz; cases hz
  · cases hz
/-- list + list -/
def fCat : PyData → PyData → Option Rv
  | .list i, .list j => if small (i.length + j.length) = true then some (.new (i ++ j)) else none
  | _, _ => none
theorem Ab.fresh {C : Cn} {G H : Hp} {σ : L2.St} {ρ : Env} {p : Addr} {vs : List V} {ds : List PyData} (A : Ab C G σ H ρ) (hp : H p = none) (h : DtA C.K G vs ds) : Ab C G σ (upd H p (.lst vs)) ρ ∧ RvOk C G σ (upd H p (.lst vs)) ρ (.ref p) (.new ds) := by
  have e : Ex H (upd H p (.lst vs)) := Ex.new hp
  refine ⟨A.grow (Ex.refl G) e (A.exG.trans e) A.dis fun i a h => A.notG h, p, rfl, ⟨vs, upd_same, h, Evl.fresh_back A.exG hp, Evl.fresh_back A.exB hp⟩, fun i h => A.inH h hp⟩
theorem ops_cat : OpS K rCat fCat := fun mg B L G σ H ρ x y d e z Q A hx hy hz k => by
  unfold fCat at hz
  split at hz
  · rename_i i j
    by_cases q : small (i.length + j.length) = true
    · rw [if_pos q] at hz
      cases hz
      obtain ⟨a, xs, rfl, h1, h2⟩ := hx.lst_inv
      obtain ⟨b, ys, rfl, h3, h4⟩ := hy.lst_inv
      refine ⟨a, b, xs, ys, rfl, rfl, A.exG _ _ h1, A.exG _ _ h3, by rw [h2.length, h4.length]; exact small_le q, fun p hp => ?_⟩
      have f := A.fresh hp (h2.append h4)
      exact k _ G _ (Ex.refl G) f.1 f.2
    · rw [if_neg q] at hz; cases hz
  · cases hz
/-- new tuples -/
theorem Ab.tup {C : Cn} {G H : Hp} {σ : L2.St} {ρ : Env} {p : Addr} {vs : List V} {ds : List PyData} (A : Ab C G σ H ρ) (hp : H p = none) (h : DtA C.K G vs ds) : Ex G (upd G p (.tup vs)) ∧ Ab C (upd G p (.tup vs)) σ (upd H p (.tup vs)) ρ ∧ Dt C.K (upd G p (.tup vs)) (.ref p) (.tuple ds) :=
  ⟨A.laid hp, A.lay hp, .tup (SqT.of upd_same) (h.mono (A.laid hp))⟩

/-! ### tests -/
def bD : PyData → Option Bool
  | .bool b => some b
  | _ => none
theorem bD_inv {d : PyData} {b : Bool} (h : bD d = some b) : d = .bool b := by
  unfold bD at h
  split at h
  · cases h; rfl
  · cases h
def mB (m : M PyData) : M Bool := mBind m fun d => mOpt (bD d)
theorem st_b {t : TE} {m : M PyData} {Q : Bool → Hp → Prop} (h : SE K mg E t m) {B : Hp} {L : Frm} {G : Hp} {σ : L2.St} {H : Hp} {ρ : Env} (A : Ab ⟨K, mg, B, L⟩ G σ H ρ)
    (w : WR ⟨K, mg, B, L⟩ E G σ (fun _ H' _ b => Q b H') (mB m ρ)) : t σ H fun x H' => ∃ k, x = .bl k ∧ Q k H' := by
  refine h B L G σ H ρ _ A ((WR.bind w).mono fun G1 H1 ρ1 d e1 A1 k x hx => ?_)
  obtain ⟨b, q, k2⟩ := WR.opt k
  rw [bD_inv q] at hx
  exact ⟨b, hx.bl_inv, k2.here A1⟩
theorem st_test {t : TE} {m : M PyData} (h : SE K mg E t m) : STt K mg E (tTest t) (mB m) := fun B L G σ H ρ Q A w => st_b h A w
theorem st_B {t : TE} {m : M PyData} (h : SE K mg E t m) : STt K mg E (tB t) (mB m) := fun B L G σ H ρ Q A w => st_b h A w
def mAnd (a b : M Bool) : M Bool := mBind a fun c => if c = true then b else mPure false
def mOr (a b : M Bool) : M Bool := mBind a fun c => if c = true then mPure true else b
def mNot (a : M Bool) : M Bool := mMap (fun c => !c) a
theorem st_and {t u : TT} {a b : M Bool} (h1 : STt K mg E t a) (h2 : STt K mg E u b) : STt K mg E (tAnd t u) (mAnd a b) := fun B L G σ H ρ Q A w => by
  refine h1 B L G σ H ρ _ A ((WR.bind w).mono fun G1 H1 ρ1 c e1 A1 k => ?_)
  cases c with
  | true => exact h2 B L G1 σ H1 ρ1 Q A1 k
  | false => exact k.here A1
theorem st_or {t u : TT} {a b : M Bool} (h1 : STt K mg E t a) (h2 : STt K mg E u b) : STt K mg E (tOr t u) (mOr a b) := fun B L G σ H ρ Q A w => by
  refine h1 B L G σ H ρ _ A ((WR.bind w).mono fun G1 H1 ρ1 c e1 A1 k => ?_)
  cases c with
  | false => exact h2 B L G1 σ H1 ρ1 Q A1 k
  | true => exact k.here A1
theorem st_not {t : TT} {a : M Bool} (h1 : STt K mg E t a) : STt K mg E (tNot t) (mNot a) := fun B L G σ H ρ Q A w => h1 B L G σ H ρ _ A (WR.map w)
theorem st_yes : STt K mg E tYes (mPure true) := fun B L G σ H ρ Q A w => w.here A
/-- truth of data -/
def tru : PyData → Option Bool
  | .none => some false
  | .bool b => some b
  | .int i => some (i != 0)
  | .str x => if small x.length = true then some ((x.length : Int) != 0) else none
  | .list ds => some (!ds.isEmpty)
  | .tuple ds => some (!ds.isEmpty)
  | .dict _ => none
theorem DtA.isEmpty {G : Hp} {vs : List V} {ds : List PyData} (h : DtA K G vs ds) : vs.isEmpty = ds.isEmpty := by cases h <;> rfl
theorem DtK.isEmpty {G : Hp} {vs : List (Key × V)} {ds : List (PyData × PyData)} (h : DtK K G vs ds) : vs.isEmpty = ds.isEmpty := by cases h <;> rfl
theorem tru_v {G H : Hp} {v : V} {d : PyData} {b : Bool} (e : Ex G H) (h : Dt K G v d) (q : tru d = some b) : TruV K v H b := by
  cases h with
  | non => cases q; rfl
  | bl c => cases q; rfl
  | int i => cases q; rfl
  | str x =>
    have q : (if small x.length = true then some ((x.length : Int) != 0) else none) = some b := q
    by_cases z : small x.length = true
    · rw [if_pos z] at q; cases q; exact ⟨small_le z, rfl⟩
    · rw [if_neg z] at q; cases q
  | lst h1 h2 => cases q; exact .inl ⟨_, SqL.of (e _ _ h1), by rw [h2.isEmpty]⟩
  | tup h1 h2 => cases q; exact .inr (.inl ⟨_, Evl.ex_t e h1, by rw [h2.isEmpty]⟩)
  | dct h1 h2 => cases q
def mT (m : M PyData) : M Bool := mBind m fun d => mOpt (tru d)
theorem st_tru {t : TE} {m : M PyData} (h : SE K mg E t m) : STt K mg E (fun σ H Q => t σ H fun x H' => ∃ k, TruV K x H' k ∧ Q k H') (mT m) := fun B L G σ H ρ Q A w => by
  refine h B L G σ H ρ _ A ((WR.bind w).mono fun G1 H1 ρ1 d e1 A1 k x hx => ?_)
  obtain ⟨b, q, k2⟩ := WR.opt k
  exact ⟨b, tru_v A1.exG hx q, k2.here A1⟩
/-- and, or, not, if as values -/
def mAndV (a b : M PyData) : M PyData := mBind (mB a) fun c => if c = true then b else mPure (.bool false)
def mOrV (a b : M PyData) : M PyData := mBind (mB a) fun c => if c = true then mPure (.bool true) else b
def mNotV (a : M PyData) : M PyData := mMap (fun c => .bool (!c)) (mB a)
def mIf {α : Type} (c : M Bool) (a b : M α) : M α := mBind c fun c => if c = true then a else b
theorem se_andV {t u : TE} {a b : M PyData} (h1 : SE K mg E t a) (h2 : SE K mg E u b) : SE K mg E (tAndV t u) (mAndV a b) := fun B L G σ H ρ Q A w =>
  st_b (Q := fun c H1 => if c = true then u σ H1 Q else Q (.bl false) H1) h1 A ((WR.bind w).mono fun G1 H1 ρ1 c e1 A1 k => by
    cases c with
    | true => exact h2 B L G1 σ H1 ρ1 Q A1 k
    | false => exact k.here A1 _ (.bl false))
theorem se_orV {t u : TE} {a b : M PyData} (h1 : SE K mg E t a) (h2 : SE K mg E u b) : SE K mg E (tOrV t u) (mOrV a b) := fun B L G σ H ρ Q A w =>
  st_b (Q := fun c H1 => if c = true then Q (.bl true) H1 else u σ H1 Q) h1 A ((WR.bind w).mono fun G1 H1 ρ1 c e1 A1 k => by
    cases c with
    | false => exact h2 B L G1 σ H1 ρ1 Q A1 k
    | true => exact k.here A1 _ (.bl true))
theorem se_notV {t : TE} {a : M PyData} (h1 : SE K mg E t a) : SE K mg E (tNotV t) (mNotV a) := fun B L G σ H ρ Q A w =>
  st_b (Q := fun c H1 => Q (.bl (!c)) H1) h1 A ((WR.map w).mono fun G1 H1 ρ1 c e1 A1 k => k _ (.bl _))
theorem sx_if {c : TT} {t u : TE} {mc : M Bool} {a b : M Rv} (h0 : STt K mg E c mc) (h1 : SX K mg E t a) (h2 : SX K mg E u b) : SX K mg E (tIf c t u) (mIf mc a b) := fun B L G σ H ρ Q A w => by
  refine h0 B L G σ H ρ _ A ((WR.bind w).mono fun G1 H1 ρ1 c e1 A1 k => ?_)
  cases c with
  | true => exact h1 B L G1 σ H1 ρ1 Q A1 k
  | false => exact h2 B L G1 σ H1 ρ1 Q A1 k
/-- a < b < c -/
def mChain (f g : PyData → PyData → Option Rv) (ma mb mc : M PyData) : M PyData := mBind ma fun d => mBind mb fun e => mBind (mOpt (f d e)) fun z => mBind (mOpt (bD (frz z))) fun b =>
  if b = true then mBind mc fun c => mMap frz (mOpt (g e c)) else mPure (.bool false)
theorem se_chain {r s : R2} {f g : PyData → PyData → Option Rv} {ta tb tc : TE} {ma mb mc : M PyData} (h1 : OpS K r f) (h2 : OpS K s g) (ha : SE K mg E ta ma) (hb : SE K mg E tb mb) (hc : SE K mg E tc mc) : SE K mg E (tChain r s ta tb tc) (mChain f g ma mb mc) := fun B L G σ H ρ Q A w => by
  refine ha B L G σ H ρ _ A ((WR.bind w).mono fun G1 H1 ρ1 d e1 A1 k x hx => ?_)
  refine hb B L G1 σ H1 ρ1 _ A1 ((WR.bind k).mono fun G2 H2 ρ2 e e2 A2 k2 y hy => ?_)
  have k2 := WR.bind k2
  obtain ⟨z, q, k3⟩ := WR.opt k2
  refine h1 mg B L G2 σ H2 ρ2 x y d e z _ A2 (hx.mono e2) hy q fun v G3 H3 e3 A3 hv => ?_
  obtain ⟨G4, e4, A4, d4⟩ := hv.still A3
  have k4 := WR.bind (k3 G4 H3 (e3.trans e4) A4)
  obtain ⟨b, q3, k5⟩ := WR.opt k4
  rw [bD_inv q3] at d4
  refine ⟨b, d4.bl_inv, ?_⟩
  have k6 := k5.here A4
  cases b with
  | false => exact k6.here A4 _ (.bl false)
  | true =>
    refine hc B L G4 σ H3 ρ2 _ A4 ((WR.bind k6).mono fun G5 H5 ρ5 c e5 A5 k7 u hu => ?_)
    obtain ⟨z5, q5, k8⟩ := WR.opt (WR.map k7)
    refine h2 mg B L G5 σ H5 ρ5 y u e c z5 Q A5 (hy.mono ((e3.trans e4).trans e5)) hu q5 fun v6 G6 H6 e6 A6 hv6 => ?_
    obtain ⟨G7, e7, A7, d7⟩ := hv6.still A6
    exact k8 G7 H6 (e6.trans e7) A7 v6 d7

/-! ### arguments, displays -/
def mNil : M (List PyData) := mPure []
def mCons (a : M PyData) (r : M (List PyData)) : M (List PyData) := mBind a fun d => mMap (fun ds => d :: ds) r
theorem sa_nil : SA K mg E tNil mNil := fun B L G σ H ρ Q A w => w.here A [] .nil
theorem sa_cons {t : TE} {tr : TA} {a : M PyData} {r : M (List PyData)} (h1 : SE K mg E t a) (h2 : SA K mg E tr r) : SA K mg E (tCons t tr) (mCons a r) := fun B L G σ H ρ Q A w => by
  refine h1 B L G σ H ρ _ A ((WR.bind w).mono fun G1 H1 ρ1 d e1 A1 k x hx => ?_)
  exact h2 B L G1 σ H1 ρ1 _ A1 ((WR.map k).mono fun G2 H2 ρ2 ds e2 A2 k2 vs hv => k2 (x :: vs) (.cons (hx.mono e2) hv))
def lim {α : Type} (f : List PyData → α) (ds : List PyData) : Option α := if small ds.length = true then some (f ds) else none
theorem lim_inv {α : Type} {f : List PyData → α} {ds : List PyData} {z : α} (h : lim f ds = some z) : small ds.length = true ∧ z = f ds := by
  unfold lim at h
  split at h
  · rename_i q; cases h; exact ⟨q, rfl⟩
  · cases h
def mTup (a : M (List PyData)) : M PyData := mBind a fun ds => mOpt (lim PyData.tuple ds)
def mLst (a : M (List PyData)) : M Rv := mBind a fun ds => mOpt (lim Rv.new ds)
theorem se_tup {t : TA} {a : M (List PyData)} (h : SA K mg E t a) : SE K mg E (tTup t) (mTup a) := fun B L G σ H ρ Q A w => by
  refine h B L G σ H ρ _ A ((WR.bind w).mono fun G1 H1 ρ1 ds e1 A1 k vs hv => ?_)
  obtain ⟨z, q, k2⟩ := WR.opt k
  obtain ⟨q1, rfl⟩ := lim_inv q
  refine ⟨by rw [hv.length]; exact small_le q1, fun p hp => ?_⟩
  have T := A1.tup hp hv
  exact k2 _ _ T.1 T.2.1 _ T.2.2
theorem sx_lst {t : TA} {a : M (List PyData)} (h : SA K mg E t a) : SX K mg E (tLst t) (mLst a) := fun B L G σ H ρ Q A w => by
  refine h B L G σ H ρ _ A ((WR.bind w).mono fun G1 H1 ρ1 ds e1 A1 k vs hv => ?_)
  obtain ⟨z, q, k2⟩ := WR.opt k
  obtain ⟨q1, rfl⟩ := lim_inv q
  refine ⟨by rw [hv.length]; exact small_le q1, fun p hp => ?_⟩
  have T := A1.fresh hp hv
  exact k2 _ _ (Ex.refl G1) T.1 _ T.2

/-! ### calls of built-ins -/
def CaS (K : PySem.W.Frag) (r : List V → Hp → VK → Prop) (f : List PyData → Option Rv) : Prop := ∀ (mg : Str → Option Value) (B : Hp) (L : Frm) (G : Hp) (σ : L2.St) (H : Hp) (ρ : Env) (vs : List V) (ds : List PyData) (z : Rv) (Q : VK), Ab ⟨K, mg, B, L⟩ G σ H ρ → DtA K G vs ds → f ds = some z →
  (∀ v G' H', Ex G G' → Ab ⟨K, mg, B, L⟩ G' σ H' ρ → RvOk ⟨K, mg, B, L⟩ G' σ H' ρ v z → Q v H') → r vs H Q
def mCb (f : List PyData → Option Rv) (a : M (List PyData)) : M Rv := mBind a fun ds => mOpt (f ds)
theorem sx_cb {r : List V → Hp → VK → Prop} {f : List PyData → Option Rv} {t : TA} {a : M (List PyData)} (hc : CaS K r f) (h : SA K mg E t a) : SX K mg E (tCB r t) (mCb f a) := fun B L G σ H ρ Q A w => by
  refine h B L G σ H ρ _ A ((WR.bind w).mono fun G1 H1 ρ1 ds e1 A1 k vs hv => ?_)
  obtain ⟨z, q, k2⟩ := WR.opt k
  exact hc mg B L G1 σ H1 ρ1 vs ds z Q A1 hv q fun v G' H' e3 A3 hv => k2 G' H' e3 A3 v hv
def cOr (r s : List V → Hp → VK → Prop) : List V → Hp → VK → Prop := fun x H Q => r x H Q ∨ s x H Q
theorem call_two {X : Cx} {g : Value} {r s : List V → Hp → VK → Prop} (h1 : CallR X g r) (h2 : CallR X g s) : CallR X g (cOr r s) := by
  intro pins t σ H xs us Q I rx h
  rcases h with h | h
  · exact h1 pins t σ H xs us Q I rx h
  · exact h2 pins t σ H xs us Q I rx h
theorem cas_two {r s : List V → Hp → VK → Prop} {f g : List PyData → Option Rv} (h1 : CaS K r f) (h2 : CaS K s g) : CaS K (cOr r s) (fun d => (f d).or (g d)) := fun mg B L G σ H ρ x d z Q A hx hz k => by
  rcases or_inv hz with q | q
  · exact .inl (h1 mg B L G σ H ρ x d z Q A hx q k)
  · exact .inr (h2 mg B L G σ H ρ x d z Q A hx q k)
end
end Hue
-- Hue2
namespace Hue
open PySem PySem.Spec PyProof.Rows L2
open Evl (Ex)

def WS (C : Cn) (E : XW) (G : Hp) (D : Ends) : Fl → Prop
  | .nx ρ' => ∀ G' σ' H', Ex G G' → Ab C G' σ' H' ρ' → D.nx σ' H'
  | .rt r ρ' => ∀ v G' σ' H', Ex G G' → Ab C G' σ' H' ρ' → RvOk C G' σ' H' ρ' v r → D.rt v H'
  | .bk ρ' => ∀ G' σ' H', Ex G G' → Ab C G' σ' H' ρ' → D.bk σ' H'
  | .ct ρ' => ∀ G' σ' H', Ex G G' → Ab C G' σ' H' ρ' → D.ct σ' H'
  | .ex x ρ' => ∀ G' σ' H' cls da, Ex G G' → Ab C G' σ' H' ρ' → XOk C G' H' x cls da → E cls da σ' H'
  | .bad => False
def SS (K : PySem.W.Frag) (mg : Str → Option Value) (E : XW) (t : TS) (m : Env → Fl) : Prop := ∀ (B : Hp) (L : Frm) (G : Hp) (σ : L2.St) (H : Hp) (ρ : Env) (D : Ends), Ab ⟨K, mg, B, L⟩ G σ H ρ → WS ⟨K, mg, B, L⟩ E G D (m ρ) → t D σ H

section
variable {K : PySem.W.Frag} {mg : Str → Option Value} {E : XW} {C : Cn} {G G' H H' : Hp} {σ σ' : L2.St} {ρ ρ' : Env} {D : Ends}
theorem WS.grow {f : Fl} (h : WS C E G D f) (e : Ex G G') : WS C E G' D f := by
  cases f with
  | nx ρ => exact fun G2 σ' H' e2 A => h G2 σ' H' (e.trans e2) A
  | rt r ρ => exact fun v G2 σ' H' e2 A k => h v G2 σ' H' (e.trans e2) A k
  | bk ρ => exact fun G2 σ' H' e2 A => h G2 σ' H' (e.trans e2) A
  | ct ρ => exact fun G2 σ' H' e2 A => h G2 σ' H' (e.trans e2) A
  | ex x ρ => exact fun G2 σ' H' cls da e2 A k => h G2 σ' H' cls da (e.trans e2) A k
  | bad => exact h
/-- other ends -/
theorem WS.ends {f : Fl} {D' : Ends} (h : WS C E G D f) (h1 : ∀ G' σ' H' ρ', f = .nx ρ' → Ex G G' → Ab C G' σ' H' ρ' → D'.nx σ' H') (h2 : D.rt = D'.rt) (h3 : ∀ G' σ' H' ρ', f = .bk ρ' → Ex G G' → Ab C G' σ' H' ρ' → D'.bk σ' H') (h4 : ∀ G' σ' H' ρ', f = .ct ρ' → Ex G G' → Ab C G' σ' H' ρ' → D'.ct σ' H') : WS C E G D' f := by
  cases f with
  | nx ρ => exact fun G2 σ' H' e2 A => h1 G2 σ' H' ρ rfl e2 A
  | rt r ρ => exact fun v G2 σ' H' e2 A k => by rw [← h2]; exact h v G2 σ' H' e2 A k
  | bk ρ => exact fun G2 σ' H' e2 A => h3 G2 σ' H' ρ rfl e2 A
  | ct ρ => exact fun G2 σ' H' e2 A => h4 G2 σ' H' ρ rfl e2 A
  | ex x ρ => exact h
  | bad => exact h
theorem WS.nx' (h : WS C E G D (.nx ρ)) (A : Ab C G σ H ρ) : D.nx σ H := h G σ H (Ex.refl G) A

def fSeq (f : Fl) (b : Env → Fl) : Fl := match f with
  | .nx ρ' => b ρ'
  | f => f
def mSeq (a b : Env → Fl) : Env → Fl := fun ρ => fSeq (a ρ) b
theorem ss_seq {t u : TS} {a b : Env → Fl} (h1 : SS K mg E t a) (h2 : SS K mg E u b) : SS K mg E (tSeq t u) (mSeq a b) := fun B L G σ H ρ D A w => by
  refine h1 B L G σ H ρ { D with nx := u D } A ?_
  unfold mSeq at w
  cases q : a ρ with
  | nx ρ' =>
    rw [q] at w
    exact fun G' σ' H' e A' => h2 B L G' σ' H' ρ' D A' (WS.grow w e)
  | rt r ρ' => rw [q] at w; exact w
  | bk ρ' => rw [q] at w; exact w
  | ct ρ' => rw [q] at w; exact w
  | ex x ρ' => rw [q] at w; exact w
  | bad => rw [q] at w; exact w
theorem ss_next : SS K mg E tNext Fl.nx := fun B L G σ H ρ D A w => w.nx' A
theorem ss_brk : SS K mg E tBreak Fl.bk := fun B L G σ H ρ D A w => w G σ H (Ex.refl G) A
theorem ss_cont : SS K mg E tCont Fl.ct := fun B L G σ H ρ D A w => w G σ H (Ex.refl G) A
theorem ss_never : SS K mg E tNever (fun _ => .bad) := fun B L G σ H ρ D A w => w
/-- from an expression to a statement -/
def mThen {α : Type} (m : M α) (f : α → Env → Fl) : Env → Fl := fun ρ => match m ρ with
  | .ok a ρ' => f a ρ'
  | .ex x ρ' => .ex x ρ'
  | .bad => .bad
theorem WS.thn {α : Type} {m : M α} {f : α → Env → Fl} (A : Ab C G σ H ρ) (w : WS C E G D (mThen m f ρ)) : WR C E G σ (fun G' H' ρ' a => WS C E G' D (f a ρ')) (m ρ) := by
  unfold mThen at w
  cases q : m ρ with
  | ok a ρ' => rw [q] at w; exact fun G' H' e A' => WS.grow w e
  | ex x ρ' => rw [q] at w; exact fun G' H' cls da e A' k => w G' σ H' cls da e A' k
  | bad => rw [q] at w; exact w
def mRet (m : M Rv) : Env → Fl := mThen m fun r ρ => .rt r ρ
theorem ss_ret {t : TE} {m : M Rv} (h : SX K mg E t m) : SS K mg E (tRet t) (mRet m) := fun B L G σ H ρ D A w =>
  h B L G σ H ρ D.rt A ((WS.thn A w).mono fun G1 H1 ρ1 r e1 A1 k v hv => k v G1 σ H1 (Ex.refl G1) A1 hv)
theorem ss_retN : SS K mg E tRetN (fun ρ => .rt (.dat .none) ρ) := fun B L G σ H ρ D A w => w .non G σ H (Ex.refl G) A (show Dt K G .non .none from .non)
def mDrop (m : M Rv) : Env → Fl := mThen m fun _ ρ => .nx ρ
theorem ss_drop {t : TE} {m : M Rv} (h : SX K mg E t m) : SS K mg E (tDrop t) (mDrop m) := fun B L G σ H ρ D A w =>
  h B L G σ H ρ _ A ((WS.thn A w).mono fun G1 H1 ρ1 r e1 A1 k v hv => k.nx' A1)
def mIfS (c : M Bool) (a b : Env → Fl) : Env → Fl := mThen c fun c ρ => if c = true then a ρ else b ρ
theorem ss_if {c : TT} {t u : TS} {mc : M Bool} {a b : Env → Fl} (h0 : STt K mg E c mc) (h1 : SS K mg E t a) (h2 : SS K mg E u b) : SS K mg E (tIfS c t u) (mIfS mc a b) := fun B L G σ H ρ D A w => by
  refine h0 B L G σ H ρ _ A ((WS.thn A w).mono fun G1 H1 ρ1 c e1 A1 k => ?_)
  cases c with
  | true => exact h1 B L G1 σ H1 ρ1 D A1 k
  | false => exact h2 B L G1 σ H1 ρ1 D A1 k

/-! ### stores -/
def toSl : Rv → Sl
  | .dat d => .dat d
  | .new ds => .own ds
def setS (i : Nat) (r : Rv) (ρ : Env) : Option Env := match ρ[i]? with
  | some (.lnt _) => none
  | some _ => some (ρ.set i (toSl r))
  | none => none
theorem Ab.store (A : Ab C G σ H ρ) {v : V} {r : Rv} {i : Nat} {ρ' : Env} (hv : RvOk C G σ H ρ v r) (e : setS i r ρ = some ρ') : Ab C G (σ.set i (some v)) H ρ' := by
  have hi : i < ρ.length ∧ ρ' = ρ.set i (toSl r) := by
    unfold setS at e
    split at e
    · cases e
    · rename_i q; cases e; exact ⟨(List.getElem?_eq_some_iff.mp q).1, rfl⟩
    · cases e
  obtain ⟨hi, rfl⟩ := hi
  have hσ : i < σ.length := by rw [A.len]; exact hi
  have up : ∀ j a, j ≠ i → Hold (ρ.set i (toSl r)) (σ.set i (some v)) j a → Hold ρ σ j a := fun j a hj h => by
    obtain ⟨⟨ds, h1⟩, h2⟩ := h
    rw [List.getElem?_set_ne (Ne.symm hj)] at h1 h2
    exact ⟨⟨ds, h1⟩, h2⟩
  have self : ∀ a, Hold (ρ.set i (toSl r)) (σ.set i (some v)) i a → ∀ j, j ≠ i → ¬ Hold (ρ.set i (toSl r)) (σ.set i (some v)) j a := fun a h j hj hh => by
    obtain ⟨⟨ds, h1⟩, h2⟩ := h
    rw [List.getElem?_set_self hσ] at h2
    rw [List.getElem?_set_self hi] at h1
    cases r with
    | dat d => rcases h1 with h1 | h1 <;> cases h1
    | new es =>
      obtain ⟨p, q1, q2, q3⟩ := hv
      rw [q1] at h2
      cases h2
      exact q3 j (up j a hj hh)
  refine ⟨A.exG, A.exB, A.dis, A.scr, by rw [List.length_set, List.length_set]; exact A.len, fun j s q => ?_, fun j k a hj hk => ?_⟩
  · by_cases hj : i = j
    · subst hj
      rw [List.getElem?_set_self hi] at q
      cases q
      refine ⟨some v, List.getElem?_set_self hσ, ?_⟩
      cases r with
      | dat d => exact ⟨v, rfl, hv⟩
      | new ds =>
        obtain ⟨p, q1, q2, q3⟩ := hv
        subst q1
        exact ⟨p, rfl, q2⟩
    · rw [List.getElem?_set_ne hj] at q
      obtain ⟨x, h1, h2⟩ := A.sl j s q
      exact ⟨x, by rw [List.getElem?_set_ne hj]; exact h1, h2⟩
  · by_cases h1 : j = i
    · by_cases h2 : k = i
      · rw [h1, h2]
      · subst h1; exact absurd hk (self a hj k h2)
    · by_cases h2 : k = i
      · subst h2; exact absurd hj (self a hk j h1)
      · exact A.nd j k a (up j a h1 hj) (up k a h2 hk)
def oFl (o : Option Env) : Fl := match o with
  | some ρ => .nx ρ
  | none => .bad
def mSet (i : Nat) (m : M Rv) : Env → Fl := mThen m fun r ρ => oFl (setS i r ρ)
theorem WS.o {o : Option Env} (w : WS C E G D (oFl o)) : ∃ ρ, o = some ρ ∧ WS C E G D (.nx ρ) := by
  cases o with
  | none => exact w.elim
  | some ρ => exact ⟨ρ, rfl, w⟩
theorem ss_set {t : TE} {m : M Rv} {i : Nat} (h : SX K mg E t m) : SS K mg E (tAsg t (gName i)) (mSet i m) := fun B L G σ H ρ D A w =>
  h B L G σ H ρ _ A ((WS.thn A w).mono fun G1 H1 ρ1 r e1 A1 k v hv => by
    obtain ⟨ρ2, q, w2⟩ := k.o
    exact w2.nx' (A1.store hv q))

/-! ### targets -/
/-- no other slots than js are changed -/
def Tch (js : List Nat) (σ σ' : L2.St) : Prop := σ'.length = σ.length ∧ ∀ j, j ∉ js → σ'[j]? = σ[j]?
theorem Tch.refl (js : List Nat) (σ : L2.St) : Tch js σ σ := ⟨rfl, fun _ _ => rfl⟩
def SG (K : PySem.W.Frag) (g : TG) (b : PyData → Env → Option Env) (js : List Nat) : Prop := ∀ (C : Cn) (G : Hp) (σ : L2.St) (H : Hp) (ρ ρ' : Env) (v : V) (d : PyData) (Q : L2.St → Hp → Prop), C.K = K → Ab C G σ H ρ → Dt K G v d → b d ρ = some ρ' → (∀ σ', Tch js σ σ' → Ab C G σ' H ρ' → Q σ' H) → g v σ H Q
def SGs (K : PySem.W.Frag) (g : TGs) (b : List PyData → Env → Option Env) (js : List Nat) : Prop := ∀ (C : Cn) (G : Hp) (σ : L2.St) (H : Hp) (ρ ρ' : Env) (vs : List V) (ds : List PyData) (Q : L2.St → Hp → Prop), C.K = K → Ab C G σ H ρ → DtA K G vs ds → b ds ρ = some ρ' → (∀ σ', Tch js σ σ' → Ab C G σ' H ρ' → Q σ' H) → g vs σ H Q
def bName (i : Nat) : PyData → Env → Option Env := fun d ρ => setS i (.dat d) ρ
def bNil : List PyData → Env → Option Env
  | [], ρ => some ρ
  | _, _ => none
def bCons (b : PyData → Env → Option Env) (r : List PyData → Env → Option Env) : List PyData → Env → Option Env
  | d :: ds, ρ => (b d ρ).bind (r ds)
  | _, _ => none
def bTup (n : Nat) (r : List PyData → Env → Option Env) : PyData → Env → Option Env
  | .tuple ds, ρ => if ds.length = n then r ds ρ else none
  | _, _ => none
theorem tch_set (i : Nat) (σ : L2.St) (v : Option V) : Tch [i] σ (σ.set i v) := ⟨List.length_set, fun j hj => List.getElem?_set_ne fun z => hj (by rw [z]; exact List.mem_singleton.mpr rfl)⟩
theorem Tch.app {js ks : List Nat} {σ σ1 σ2 : L2.St} (a : Tch js σ σ1) (b : Tch ks σ1 σ2) : Tch (js ++ ks) σ σ2 := ⟨b.1.trans a.1, fun j hj => (b.2 j fun z => hj (List.mem_append_right _ z)).trans (a.2 j fun z => hj (List.mem_append_left _ z))⟩
theorem sg_name {i : Nat} : SG K (gName i) (bName i) [i] := fun C G σ H ρ ρ' v d Q hK A hv e k => by
  subst hK
  exact k _ (tch_set i σ _) (A.store (r := .dat d) hv e)
theorem sgs_nil : SGs K gNil bNil [] := fun C G σ H ρ ρ' vs ds Q hK A hv e k => by
  cases hv with
  | nil => cases e; exact ⟨rfl, k σ (Tch.refl _ σ) A⟩
  | cons h1 h2 => cases e
theorem sgs_cons {g : TG} {u : TGs} {b : PyData → Env → Option Env} {r : List PyData → Env → Option Env} {js ks : List Nat} (h1 : SG K g b js) (h2 : SGs K u r ks) : SGs K (gCons g u) (bCons b r) (js ++ ks) := fun C G σ H ρ ρ' vs ds Q hK A hv e k => by
  cases hv with
  | nil => cases e
  | @cons v vs d ds q1 q2 =>
    have e : (b d ρ).bind (r ds) = some ρ' := e
    cases q : b d ρ with
    | none => rw [q] at e; cases e
    | some ρ1 =>
      rw [q] at e
      refine ⟨v, vs, rfl, h1 C G σ H ρ ρ1 v d _ hK A q1 q fun σ1 t1 A1 => ?_⟩
      exact h2 C G σ1 H ρ1 ρ' vs ds Q hK A1 q2 e fun σ2 t2 A2 => k σ2 (t1.app t2) A2
theorem sg_tup {n : Nat} {u : TGs} {r : List PyData → Env → Option Env} {js : List Nat} (h : SGs K u r js) : SG K (gTup K n u) (bTup n r) js := fun C G σ H ρ ρ' v d Q hK A hv e k => by
  unfold bTup at e
  split at e
  · rename_i ds
    by_cases q : ds.length = n
    · rw [if_pos q] at e
      obtain ⟨a, xs, rfl, q1, q2⟩ := hv.tup_inv
      exact ⟨a, xs, rfl, Evl.ex_t A.exG q1, by rw [q2.length]; exact q, h C G σ H ρ ρ' xs ds Q hK A q2 e k⟩
    · rw [if_neg q] at e; cases e
  · cases e
def mBnd (b : PyData → Env → Option Env) (m : M PyData) : Env → Fl := mThen m fun d ρ => oFl (b d ρ)
theorem ss_bnd {t : TE} {m : M PyData} {g : TG} {b : PyData → Env → Option Env} {js : List Nat} (h : SE K mg E t m) (hg : SG K g b js) : SS K mg E (tAsg t g) (mBnd b m) := fun B L G σ H ρ D A w =>
  h B L G σ H ρ _ A ((WS.thn A w).mono fun G1 H1 ρ1 d e1 A1 k v hv => by
    obtain ⟨ρ2, q, w2⟩ := k.o
    exact hg ⟨K, mg, B, L⟩ G1 σ H1 ρ1 ρ2 v d _ rfl A1 hv q fun σ' _ A' => w2.nx' A')
/-- a, b = e1, e2 -/
def mPar (i j : Nat) (m : M (List PyData)) : Env → Fl := mThen m fun ds ρ => match ds with
  | [d, e] => oFl ((setS i (.dat d) ρ).bind (setS j (.dat e)))
  | _ => .bad
theorem ss_par {t : TA} {m : M (List PyData)} {i j : Nat} (h : SA K mg E t m) : SS K mg E (tPar i j t) (mPar i j m) := fun B L G σ H ρ D A w =>
  h B L G σ H ρ _ A ((WS.thn A w).mono fun G1 H1 ρ1 ds e1 A1 k vs hv => by
    split at k
    · rename_i d e
      cases hv with
      | @cons v r _ _ q1 q2 =>
        cases q2 with
        | @cons u r2 _ _ q3 q4 =>
          cases q4
          obtain ⟨ρ2, q, w2⟩ := k.o
          cases z : setS i (.dat d) ρ1 with
          | none => rw [z] at q; cases q
          | some ρ3 =>
            rw [z] at q
            exact ⟨v, u, rfl, w2.nx' ((A1.store (r := .dat d) q1 z).store (r := .dat e) q3 q)⟩
    · exact k.elim)
/-- x += e (ints) -/
def mAug (i : Nat) (f : Int → Int → Int) (m : M PyData) : Env → Fl := fun ρ => match ρ[i]? with
  | some (.dat (.int a)) => mThen m (fun d ρ1 => match d with
    | .int b => oFl (setS i (.dat (.int (f a b))) ρ1)
    | _ => .bad) ρ
  | _ => .bad
theorem ss_aug {t : TE} {m : M PyData} {i : Nat} {f : Int → Int → Int} (h : SE K mg E t m) : SS K mg E (tAug i t (ipI f)) (mAug i f m) := fun B L G σ H ρ D A w => by
  unfold mAug at w
  split at w
  · rename_i a e
    obtain ⟨x, h1, v, rfl, h2⟩ := A.sl i _ e
    refine ⟨v, h1, ?_⟩
    refine h B L G σ H ρ _ A ((WS.thn A w).mono fun G1 H1 ρ1 d e1 A1 k y hy => ?_)
    split at k
    · rename_i b
      obtain ⟨ρ2, q, w2⟩ := k.o
      exact ⟨a, b, h2.int_inv, hy.int_inv, w2.nx' (A1.store (r := .dat (.int (f a b))) (.int _) q)⟩
    · exact k.elim
  · exact w.elim

/-! ### lists that are held -/
def heldAt (ρ : Env) (k : Nat) : Option (List PyData) := match ρ[k]? with
  | some (.own ds) => some ds
  | some (.lnt ds) => some ds
  | _ => none
def putAt (ρ : Env) (k : Nat) (ds : List PyData) : Env := match ρ[k]? with
  | some (.own _) => ρ.set k (.own ds)
  | some (.lnt _) => ρ.set k (.lnt ds)
  | _ => ρ
theorem Ab.held (A : Ab C G σ H ρ) {k : Nat} {ds : List PyData} (h : heldAt ρ k = some ds) : ∃ a, Hold ρ σ k a ∧ Lst C G H a ds := by
  unfold heldAt at h
  split at h
  · rename_i es e
    cases h
    obtain ⟨x, h1, a, rfl, l⟩ := A.sl k _ e
    exact ⟨a, ⟨⟨_, .inl e⟩, h1⟩, l⟩
  · rename_i es e
    cases h
    obtain ⟨x, h1, a, rfl, _, l⟩ := A.sl k _ e
    exact ⟨a, ⟨⟨_, .inr e⟩, h1⟩, l⟩
  · cases h
theorem Ab.put (A : Ab C G σ H ρ) {k : Nat} {a : Addr} {vs : List V} {ds : List PyData} (hh : Hold ρ σ k a) (hd : DtA C.K G vs ds) : Ab C G σ (upd H a (.lst vs)) (putAt ρ k ds) := by
  have gA := A.notG hh
  have bA := A.notB hh
  have hk : k < ρ.length := by
    obtain ⟨⟨es, q | q⟩, _⟩ := hh <;> exact (List.getElem?_eq_some_iff.mp q).1
  have cs : (∃ es, ρ[k]? = some (.own es) ∧ putAt ρ k ds = ρ.set k (.own ds)) ∨ (∃ es, ρ[k]? = some (.lnt es) ∧ putAt ρ k ds = ρ.set k (.lnt ds)) := by
    obtain ⟨⟨es, q | q⟩, _⟩ := hh
    · exact .inl ⟨es, q, by unfold putAt; rw [q]⟩
    · exact .inr ⟨es, q, by unfold putAt; rw [q]⟩
  have hold : ∀ j b, Hold (putAt ρ k ds) σ j b → Hold ρ σ j b := fun j b h => by
    obtain ⟨⟨es, h1⟩, h2⟩ := h
    by_cases hj : k = j
    · subst hj
      obtain ⟨⟨es', q⟩, q2⟩ := id hh
      rw [q2] at h2; cases h2
      exact hh
    · rcases cs with ⟨_, _, e⟩ | ⟨_, _, e⟩ <;> (rw [e, List.getElem?_set_ne hj] at h1; exact ⟨⟨es, h1⟩, h2⟩)
  refine ⟨fun b u q => ?_, fun b u q => ?_, A.dis, A.scr, ?_, fun j s q => ?_, fun i j b hi hj => A.nd i j b (hold i b hi) (hold j b hj)⟩
  · rw [upd_ne (ne_of_none q gA)]; exact A.exG b u q
  · rw [upd_ne (ne_of_none q bA)]; exact A.exB b u q
  · rcases cs with ⟨_, _, e⟩ | ⟨_, _, e⟩ <;> (rw [e, List.length_set]; exact A.len)
  · by_cases hj : k = j
    · subst hj
      obtain ⟨_, q2⟩ := id hh
      rcases cs with ⟨es, q3, e⟩ | ⟨es, q3, e⟩
      · rw [e, List.getElem?_set_self hk] at q
        cases q
        exact ⟨_, q2, a, rfl, vs, upd_same, hd, gA, bA⟩
      · rw [e, List.getElem?_set_self hk] at q
        cases q
        obtain ⟨x, z1, b, z2, z3, _⟩ := A.sl k _ q3
        rw [z2, q2] at z1
        cases z1
        exact ⟨_, q2, a, rfl, z3, vs, upd_same, hd, gA, bA⟩
    · have q' : ρ[j]? = some s := by
        rcases cs with ⟨_, _, e⟩ | ⟨_, _, e⟩ <;> (rw [e, List.getElem?_set_ne hj] at q; exact q)
      obtain ⟨x, h1, h2⟩ := A.sl j s q'
      refine ⟨x, h1, ?_⟩
      cases s with
      | un => exact trivial
      | dat d => exact h2
      | own es =>
        obtain ⟨b, rfl, us, y2, y3⟩ := h2
        have hb : b ≠ a := fun z => hj (A.nd k j a hh ⟨⟨es, .inl q'⟩, z ▸ h1⟩)
        exact ⟨b, rfl, us, by rw [upd_ne hb]; exact y2, y3⟩
      | lnt es =>
        obtain ⟨b, rfl, y1, us, y2, y3⟩ := h2
        have hb : b ≠ a := fun z => hj (A.nd k j a hh ⟨⟨es, .inr q'⟩, z ▸ h1⟩)
        exact ⟨b, rfl, y1, us, by rw [upd_ne hb]; exact y2, y3⟩
      | scr ns => exact h2
/-- xs.append(e) -/
def mApp (k : Nat) (m : M PyData) : Env → Fl := fun ρ => if (heldAt ρ k).isSome = true then mThen m (fun d ρ1 => match heldAt ρ1 k with
  | some ds => if small ds.length = true then .nx (putAt ρ1 k (ds ++ [d])) else .bad
  | none => .bad) ρ else .bad
theorem hold_same {a b : Addr} {k : Nat} (h1 : Hold ρ σ k a) (h2 : σ[k]? = some (some (.ref b))) : a = b := by
  obtain ⟨_, q⟩ := h1
  rw [q] at h2; cases h2; rfl
theorem ss_app {t : TE} {m : M PyData} {k : Nat} (h : SE K mg E t m) : SS K mg E (tDrop (tBM K "list" rAppend (tVar k) (tCons t tNil))) (mApp k m) := fun B L G σ H ρ D A w => by
  unfold mApp at w
  by_cases z : (heldAt ρ k).isSome = true
  · rw [if_pos z] at w
    obtain ⟨ds0, z⟩ := Option.isSome_iff_exists.mp z
    obtain ⟨a, hh, vs0, l0, _⟩ := A.held z
    refine ⟨.ref a, hh.2, .inl ⟨rfl, vs0, SqL.of l0⟩, ?_⟩
    refine h B L G σ H ρ _ A ((WS.thn A w).mono fun G1 H1 ρ1 d e1 A1 k1 y hy => ?_)
    show rAppend (.ref a) [y] H1 fun _ H2 => D.nx σ H2
    cases q : heldAt ρ1 k with
    | none => rw [q] at k1; exact k1.elim
    | some ds =>
      rw [q] at k1
      dsimp only at k1
      by_cases q2 : small ds.length = true
      · rw [if_pos q2] at k1
        obtain ⟨b, hb, vs, l, d1, g1, b1⟩ := A1.held q
        obtain rfl := hold_same hb hh.2
        refine ⟨b, vs, y, rfl, rfl, l, by rw [d1.length]; exact small_lt q2, ?_⟩
        exact k1.nx' (A1.put hb (d1.append (.cons hy .nil)))
      · rw [if_neg q2] at k1; exact k1.elim
  · rw [if_neg z] at w; exact w.elim
/-- xs[i] = e -/
def mPut (k : Nat) (mi m : M PyData) : Env → Fl := mThen m fun d => fun ρ1 => if (heldAt ρ1 k).isSome = true then mThen mi (fun i ρ2 => match i, heldAt ρ2 k with
  | .int i, some ds => match ixN ds.length i with
    | some j => .nx (putAt ρ2 k (ds.set j d))
    | none => .bad
  | _, _ => .bad) ρ1 else .bad
theorem ss_put {t ti : TE} {m mi : M PyData} {k : Nat} (h : SE K mg E t m) (hi : SE K mg E ti mi) : SS K mg E (tAsg t (gSub (tVar k) ti rSetL)) (mPut k mi m) := fun B L G σ H ρ D A w => by
  refine h B L G σ H ρ _ A ((WS.thn A w).mono fun G1 H1 ρ1 d e1 A1 k1 y hy => ?_)
  by_cases z : (heldAt ρ1 k).isSome = true
  · rw [if_pos z] at k1
    obtain ⟨ds0, z⟩ := Option.isSome_iff_exists.mp z
    obtain ⟨a, hh, vs0, l0, _⟩ := A1.held z
    refine ⟨.ref a, hh.2, ?_⟩
    refine hi B L G1 σ H1 ρ1 _ A1 ((WS.thn A1 k1).mono fun G2 H2 ρ2 i e2 A2 k2 x hx => ?_)
    split at k2
    · rename_i i ds q
      split at k2
      · rename_i j q2
        obtain ⟨b, hb, vs, l, d1, g1, b1⟩ := A2.held q
        obtain rfl := hold_same hb hh.2
        refine ⟨b, vs, i, j, rfl, hx.int_inv, l, by rw [d1.length]; exact q2, ?_⟩
        exact k2.nx' (A2.put hb (d1.set (hy.mono e2) j))
      · exact k2.elim
    · exact k2.elim
  · rw [if_neg z] at k1; exact k1.elim
/-- a held list handed on: nothing is left at its name -/
def mMove (i : Nat) : M Rv := fun ρ => match ρ[i]? with
  | some (.dat d) => .ok (.dat d) ρ
  | some (.own ds) => .ok (.new ds) (ρ.set i .un)
  | _ => .bad
theorem sx_move {i : Nat} : SX K mg E (tVar i) (mMove i) := fun B L G σ H ρ Q A w => by
  unfold mMove at w
  split at w
  · rename_i d e
    obtain ⟨x, h1, v, rfl, h2⟩ := A.sl i _ e
    exact ⟨v, h1, w.here A v h2⟩
  · rename_i ds e
    obtain ⟨x, h1, a, rfl, l⟩ := A.sl i _ e
    have hh : Hold ρ σ i a := ⟨⟨ds, .inl e⟩, h1⟩
    have hi : i < ρ.length := (List.getElem?_eq_some_iff.mp e).1
    have back : ∀ j b, Hold (ρ.set i .un) σ j b → Hold ρ σ j b ∧ j ≠ i := fun j b h => by
      obtain ⟨⟨es, q⟩, q2⟩ := h
      by_cases hj : i = j
      · subst hj; rw [List.getElem?_set_self hi] at q; rcases q with q | q <;> cases q
      · rw [List.getElem?_set_ne hj] at q; exact ⟨⟨⟨es, q⟩, q2⟩, fun z => hj z.symm⟩
    refine ⟨.ref a, h1, w G H (Ex.refl G) ⟨A.exG, A.exB, A.dis, A.scr, by rw [List.length_set]; exact A.len, fun j s q => ?_, fun j k b hj hk => A.nd j k b (back j b hj).1 (back k b hk).1⟩ (.ref a) ⟨a, rfl, l, fun j h => ?_⟩⟩
    · by_cases hj : i = j
      · subst hj; rw [List.getElem?_set_self hi] at q; cases q; exact ⟨_, h1, trivial⟩
      · rw [List.getElem?_set_ne hj] at q; exact A.sl j s q
    · have b := back j a h
      exact b.2 (A.nd j i a b.1 hh)
  · exact w.elim

/-! ### walks -/
/-- J walks the data ds -/
structure ItOk (K : PySem.W.Frag) (G0 : Hp) (J : It) (ds : List PyData) : Prop where
  go : ∀ i H, Ex G0 H → i < ds.length → J.go i H
  stop : ∀ i H, Ex G0 H → ds.length ≤ i → J.stop i H
  yld : ∀ (C : Cn) (G : Hp) (σ : L2.St) (H : Hp) (ρ : Env) (i : Nat) (d : PyData) (x : V) (H' : Hp), C.K = K → Ex G0 G → Ab C G σ H ρ → ds[i]? = some d → J.yld i H x H' → ∃ G', Ex G G' ∧ Ab C G' σ H' ρ ∧ Dt K G' x d
def SI (K : PySem.W.Frag) (mg : Str → Option Value) (E : XW) (wi : TI) (m : M (List PyData)) : Prop := ∀ (B : Hp) (L : Frm) (G : Hp) (σ : L2.St) (H : Hp) (ρ : Env) (W : It → Hp → Prop), Ab ⟨K, mg, B, L⟩ G σ H ρ →
  WR ⟨K, mg, B, L⟩ E G σ (fun G' H' _ ds => ∀ J, ItOk K G' J ds → W J H') (m ρ) → wi σ H W
def loop (b : PyData → Env → Option Env) (f : Env → Fl) : List PyData → Env → Fl
  | [], ρ => .nx ρ
  | d :: ds, ρ => match b d ρ with
    | none => .bad
    | some ρ1 => match f ρ1 with
      | .nx ρ2 => loop b f ds ρ2
      | .ct ρ2 => loop b f ds ρ2
      | .bk ρ2 => .nx ρ2
      | .rt r ρ2 => .rt r ρ2
      | .ex x ρ2 => .ex x ρ2
      | .bad => .bad
def mFor (m : M (List PyData)) (b : PyData → Env → Option Env) (f : Env → Fl) : Env → Fl := mThen m fun ds ρ => loop b f ds ρ
theorem ss_for {wi : TI} {g : TG} {tb : TS} {m : M (List PyData)} {b : PyData → Env → Option Env} {f : Env → Fl} {js : List Nat} (hi : SI K mg E wi m) (hg : SG K g b js) (hb : SS K mg E tb f) : SS K mg E (tFor wi g tb) (mFor m b f) := fun B L G σ H ρ D A w => by
  refine hi B L G σ H ρ _ A ((WS.thn A w).mono fun G1 H1 ρ1 ds e1 A1 k1 J hJ => ?_)
  refine ⟨fun i n σ' H' => n = ds.length - i ∧ i ≤ ds.length ∧ ∃ G' ρ', Ex G1 G' ∧ Ab ⟨K, mg, B, L⟩ G' σ' H' ρ' ∧ WS ⟨K, mg, B, L⟩ E G' D (loop b f (ds.drop i) ρ'), ⟨ds.length, rfl, Nat.zero_le _, G1, ρ1, Ex.refl G1, A1, k1⟩, ?_⟩
  rintro i n σ' H' ⟨rfl, hle, G', ρ', e', A', w'⟩
  by_cases hlt : i < ds.length
  · refine .inr ⟨hJ.go i H' (e'.trans A'.exG) hlt, fun σ2 H2 => ∃ G2 ρ2, Ex G1 G2 ∧ Ab ⟨K, mg, B, L⟩ G2 σ2 H2 ρ2 ∧ WS ⟨K, mg, B, L⟩ E G2 D (loop b f (ds.drop (i + 1)) ρ2), fun σ2 H2 h => ⟨_, by omega, rfl, hlt, h⟩, fun x H2 y => ?_⟩
    obtain ⟨G2, e2, A2, hx⟩ := hJ.yld ⟨K, mg, B, L⟩ G' σ' H' ρ' i ds[i] x H2 rfl e' A' (List.getElem?_eq_getElem hlt) y
    rw [List.drop_eq_getElem_cons hlt] at w'
    unfold loop at w'
    cases q : b ds[i] ρ' with
    | none => rw [q] at w'; exact w'.elim
    | some ρ2 =>
      rw [q] at w'
      dsimp only at w'
      refine hg ⟨K, mg, B, L⟩ G2 σ' H2 ρ' ρ2 x ds[i] _ rfl A2 hx q fun σ3 _ A3 => ?_
      refine hb B L G2 σ3 H2 ρ2 _ A3 ?_
      cases q2 : f ρ2 with
      | nx ρ3 => rw [q2] at w'; exact fun G4 σ4 H4 e4 A4 => ⟨G4, ρ3, (e'.trans e2).trans e4, A4, w'.grow (e2.trans e4)⟩
      | ct ρ3 => rw [q2] at w'; exact fun G4 σ4 H4 e4 A4 => ⟨G4, ρ3, (e'.trans e2).trans e4, A4, w'.grow (e2.trans e4)⟩
      | bk ρ3 => rw [q2] at w'; exact fun G4 σ4 H4 e4 A4 => w' G4 σ4 H4 (e2.trans e4) A4
      | rt r ρ3 => rw [q2] at w'; exact fun v G4 σ4 H4 e4 A4 k => w' v G4 σ4 H4 (e2.trans e4) A4 k
      | ex x ρ3 => rw [q2] at w'; exact fun G4 σ4 H4 cls da e4 A4 k => w' G4 σ4 H4 cls da (e2.trans e4) A4 k
      | bad => rw [q2] at w'; exact w'.elim
  · have : i = ds.length := by omega
    subst this
    rw [List.drop_length] at w'
    exact .inl ⟨hJ.stop _ H' (e'.trans A'.exG) (Nat.le_refl _), w'.nx' A'⟩
/-- while, in at most n turns -/
def wloop (c : M Bool) (f : Env → Fl) : Nat → Env → Fl
  | 0, _ => .bad
  | n + 1, ρ => mThen c (fun b ρ1 => if b = true then match f ρ1 with
      | .nx ρ2 => wloop c f n ρ2
      | .ct ρ2 => wloop c f n ρ2
      | .bk ρ2 => .nx ρ2
      | .rt r ρ2 => .rt r ρ2
      | .ex x ρ2 => .ex x ρ2
      | .bad => .bad else .nx ρ1) ρ
theorem ss_while {c : TT} {tb : TS} {mc : M Bool} {f : Env → Fl} (n : Nat) (hc : STt K mg E c mc) (hb : SS K mg E tb f) : SS K mg E (tWhile c tb) (wloop mc f n) := fun B L G σ H ρ D A w => by
  refine ⟨fun n σ' H' => ∃ G' ρ', Ab ⟨K, mg, B, L⟩ G' σ' H' ρ' ∧ WS ⟨K, mg, B, L⟩ E G' D (wloop mc f n ρ'), ⟨n, G, ρ, A, w⟩, ?_⟩
  rintro n σ' H' ⟨G', ρ', A', w'⟩
  cases n with
  | zero => exact w'.elim
  | succ n =>
    refine hc B L G' σ' H' ρ' _ A' ((WS.thn A' w').mono fun G1 H1 ρ1 b e1 A1 k => ?_)
    cases b with
    | false => exact k.nx' A1
    | true =>
      refine ⟨fun σ2 H2 => ∃ G2 ρ2, Ab ⟨K, mg, B, L⟩ G2 σ2 H2 ρ2 ∧ WS ⟨K, mg, B, L⟩ E G2 D (wloop mc f n ρ2), fun σ2 H2 h => ⟨n, Nat.lt_succ_self n, h⟩, ?_⟩
      refine hb B L G1 σ' H1 ρ1 _ A1 ?_
      have k : WS ⟨K, mg, B, L⟩ E G1 D (match f ρ1 with
        | .nx ρ2 => wloop mc f n ρ2
        | .ct ρ2 => wloop mc f n ρ2
        | .bk ρ2 => .nx ρ2
        | .rt r ρ2 => .rt r ρ2
        | .ex x ρ2 => .ex x ρ2
        | .bad => .bad) := k
      cases q2 : f ρ1 with
      | nx ρ3 => rw [q2] at k; exact fun G4 σ4 H4 e4 A4 => ⟨G4, ρ3, A4, k.grow e4⟩
      | ct ρ3 => rw [q2] at k; exact fun G4 σ4 H4 e4 A4 => ⟨G4, ρ3, A4, k.grow e4⟩
      | bk ρ3 => rw [q2] at k; exact k
      | rt r ρ3 => rw [q2] at k; exact k
      | ex x ρ3 => rw [q2] at k; exact k
      | bad => rw [q2] at k; exact k.elim

/-! ### comprehensions -/
def wipeE (ρ : Env) : List Nat → Env
  | [] => ρ
  | v :: vs => (wipeE ρ vs).set v .un
def cloop (b : PyData → Env → Option Env) (c : M Bool) (e : M PyData) (vs : List Nat) : List PyData → Env → List PyData → R (List PyData)
  | [], ρ, acc => .ok acc ρ
  | d :: ds, ρ, acc => match b d ρ with
    | none => .bad
    | some ρ1 => match c ρ1 with
      | .ok true ρ2 => match e ρ2 with
        | .ok y ρ3 => if small acc.length = true then cloop b c e vs ds (wipeE ρ3 vs) (acc ++ [y]) else .bad
        | _ => .bad
      | .ok false ρ2 => cloop b c e vs ds (wipeE ρ2 vs) acc
      | _ => .bad
def mComp (m : M (List PyData)) (b : PyData → Env → Option Env) (c : M Bool) (e : M PyData) (vs : List Nat) : M Rv := mBind m fun ds => fun ρ => (cloop b c e vs ds (wipeE ρ vs) []).bind fun acc ρ' => .ok (.new acc) ρ'
theorem Ab.forget (A : Ab C G σ H ρ) (i : Nat) : Ab C G (σ.set i none) H (ρ.set i .un) := by
  have up : ∀ j a, Hold (ρ.set i .un) (σ.set i none) j a → Hold ρ σ j a ∧ j ≠ i := fun j a h => by
    obtain ⟨⟨ds, h1⟩, h2⟩ := h
    by_cases hj : i = j
    · subst hj
      by_cases hi : i < σ.length
      · rw [List.getElem?_set_self hi] at h2; cases h2
      · rw [List.set_eq_of_length_le (by omega), List.getElem?_eq_none (by omega)] at h2; cases h2
    · rw [List.getElem?_set_ne hj] at h1 h2
      exact ⟨⟨⟨ds, h1⟩, h2⟩, fun z => hj z.symm⟩
  refine ⟨A.exG, A.exB, A.dis, A.scr, by rw [List.length_set, List.length_set]; exact A.len, fun j s q => ?_, fun j k a hj hk => A.nd j k a (up j a hj).1 (up k a hk).1⟩
  by_cases hj : i = j
  · subst hj
    by_cases hi : i < ρ.length
    · rw [List.getElem?_set_self hi] at q; cases q
      exact ⟨none, List.getElem?_set_self (by rw [A.len]; exact hi), trivial⟩
    · rw [List.set_eq_of_length_le (by omega), List.getElem?_eq_none (by omega)] at q; cases q
  · rw [List.getElem?_set_ne hj] at q
    obtain ⟨x, h1, h2⟩ := A.sl j s q
    exact ⟨x, by rw [List.getElem?_set_ne hj]; exact h1, h2⟩
theorem Ab.wipe (A : Ab C G σ H ρ) : ∀ vs : List Nat, Ab C G (wipe σ vs) H (wipeE ρ vs)
  | [] => A
  | v :: vs => (Ab.wipe A vs).forget v
theorem wipe_at (σ : L2.St) : ∀ (vs : List Nat) (j : Nat), (L2.wipe σ vs)[j]? = if j ∈ vs ∧ j < σ.length then some none else σ[j]?
  | [], j => by simp [L2.wipe]
  | v :: vs, j => by
    have ih := wipe_at σ vs j
    have hl : (L2.wipe σ vs).length = σ.length := wipe_length σ vs
    show ((L2.wipe σ vs).set v none)[j]? = _
    by_cases hj : v = j
    · subst hj
      by_cases hv : v < σ.length
      · rw [List.getElem?_set_self (by rw [hl]; exact hv), if_pos ⟨List.mem_cons_self .., hv⟩]
      · rw [List.set_eq_of_length_le (by omega), ih, if_neg (fun z => hv z.2), if_neg (fun z => hv z.2)]
    · rw [List.getElem?_set_ne hj, ih]
      by_cases hm : j ∈ vs ∧ j < σ.length
      · rw [if_pos hm, if_pos ⟨List.mem_cons_of_mem _ hm.1, hm.2⟩]
      · rw [if_neg hm, if_neg]
        intro z
        rcases List.mem_cons.mp z.1 with q | q
        · exact hj q.symm
        · exact hm ⟨q, z.2⟩
theorem wipe_tch {js vs : List Nat} {σ σ' : L2.St} (t : Tch js (L2.wipe σ vs) σ') (h : ∀ j ∈ js, j ∈ vs) : L2.wipe σ' vs = L2.wipe σ vs := by
  have hl : σ'.length = σ.length := t.1.trans (wipe_length σ vs)
  refine List.ext_getElem? fun j => ?_
  rw [wipe_at, wipe_at, hl]
  by_cases hj : j ∈ vs ∧ j < σ.length
  · rw [if_pos hj, if_pos hj]
  · rw [if_neg hj, if_neg hj]
    by_cases hv : j ∈ vs
    · have : σ.length ≤ j := by
        apply Nat.le_of_not_lt
        exact fun z => hj ⟨hv, z⟩
      rw [List.getElem?_eq_none (by omega), List.getElem?_eq_none (by omega)]
    · rw [t.2 j fun z => hv (h j z), wipe_at, if_neg hj]
theorem wipeE_at (ρ : Env) : ∀ (vs : List Nat) (j : Nat) (s : Sl), (wipeE ρ vs)[j]? = some s → s = .un ∨ j ∉ vs
  | [], j, s, _ => .inr (by simp)
  | v :: vs, j, s, h => by
    have h : ((wipeE ρ vs).set v .un)[j]? = some s := h
    by_cases hj : v = j
    · subst hj
      by_cases hv : v < (wipeE ρ vs).length
      · rw [List.getElem?_set_self hv] at h; cases h; exact .inl rfl
      · rw [List.set_eq_of_length_le (by omega), List.getElem?_eq_none (by omega)] at h; cases h
    · rw [List.getElem?_set_ne hj] at h
      rcases wipeE_at ρ vs j s h with q | q
      · exact .inl q
      · refine .inr fun z => ?_
        rcases List.mem_cons.mp z with z | z
        · exact hj z.symm
        · exact q z
theorem Ab.unwipe {vs : List Nat} (A : Ab C G (L2.wipe σ vs) H (wipeE ρ vs)) : Ab C G σ H (wipeE ρ vs) := by
  have hl := wipe_length σ vs
  have same : ∀ j, j ∉ vs → (L2.wipe σ vs)[j]? = σ[j]? := fun j hj => by rw [wipe_at, if_neg fun z => hj z.1]
  have up : ∀ j a, Hold (wipeE ρ vs) σ j a → Hold (wipeE ρ vs) (L2.wipe σ vs) j a := fun j a h => by
    obtain ⟨⟨ds, h1⟩, h2⟩ := h
    have hj : j ∉ vs := by
      rcases h1 with q | q
      all_goals
        rcases wipeE_at ρ vs j _ q with z | z
        · cases z
        · exact z
    exact ⟨⟨ds, h1⟩, by rw [same j hj]; exact h2⟩
  refine ⟨A.exG, A.exB, A.dis, A.scr, hl.symm.trans A.len, fun j s q => ?_, fun j k a hj hk => A.nd j k a (up j a hj) (up k a hk)⟩
  obtain ⟨x, h1, h2⟩ := A.sl j s q
  rcases wipeE_at ρ vs j s q with z | z
  · subst z
    have hj : j < σ.length := by rw [← hl]; exact (List.getElem?_eq_some_iff.mp h1).1
    exact ⟨_, List.getElem?_eq_getElem hj, trivial⟩
  · exact ⟨x, by rw [← same j z]; exact h1, h2⟩
/-- an object that no one of this frame holds is put into the frame's outside -/
theorem Ab.frame (A : Ab C G σ H ρ) {p : Addr} {o : HO} (hp : H p = some o) (g : G p = none) (b : C.B p = none) (n : ∀ i, ¬ Hold ρ σ i p) : Ab { C with B := upd C.B p o } G σ H ρ := by
  refine ⟨A.exG, fun a u q => ?_, fun a q => ?_, fun a ns q => Evl.ex_l (Ex.new b) (A.scr a ns q), A.len, fun i s q => ?_, A.nd⟩
  · have q : upd C.B p o a = some u := q
    by_cases ha : a = p
    · subst ha; rw [upd_same] at q; cases q; exact hp
    · rw [upd_ne ha] at q; exact A.exB a u q
  · have ha : a ≠ p := fun z => q (z ▸ g)
    show upd C.B p o a = none
    rw [upd_ne ha]; exact A.dis a q
  · obtain ⟨x, h1, h2⟩ := A.sl i s q
    refine ⟨x, h1, ?_⟩
    cases s with
    | un => exact trivial
    | dat d => exact h2
    | own ds =>
      obtain ⟨a, rfl, vs, q1, q2, q3, q4⟩ := h2
      have ha : a ≠ p := fun z => n i ⟨⟨ds, .inl q⟩, z ▸ h1⟩
      exact ⟨a, rfl, vs, q1, q2, q3, by show upd C.B p o a = none; rw [upd_ne ha]; exact q4⟩
    | lnt ds =>
      obtain ⟨a, rfl, q0, vs, q1, q2, q3, q4⟩ := h2
      have ha : a ≠ p := fun z => n i ⟨⟨ds, .inr q⟩, z ▸ h1⟩
      exact ⟨a, rfl, q0, vs, q1, q2, q3, by show upd C.B p o a = none; rw [upd_ne ha]; exact q4⟩
    | scr ns => exact h2
theorem Ab.unframe {p : Addr} {o : HO} (A : Ab { C with B := upd C.B p o } G σ H ρ) (b : C.B p = none) (sc : ∀ a ns, C.L.scr = some (a, ns) → SqL C.K C.B a (ns.map V.int)) : Ab C G σ H ρ ∧ H p = some o ∧ G p = none ∧ ∀ i, ¬ Hold ρ σ i p := by
  have low : ∀ a, upd C.B p o a = none → C.B a = none ∧ a ≠ p := fun a q => by
    by_cases ha : a = p
    · subst ha; rw [upd_same] at q; cases q
    · rw [upd_ne ha] at q; exact ⟨q, ha⟩
  have gp : G p = none := by
    cases q : G p with
    | none => rfl
    | some u => exact absurd rfl (low p (A.dis p (by rw [q]; intro z; cases z))).2
  refine ⟨⟨A.exG, fun a u q => A.exB a u (by show upd C.B p o a = some u; rw [upd_ne (ne_of_none q b)]; exact q), fun a q => (low a (A.dis a q)).1, sc, A.len, fun i s q => ?_, A.nd⟩, A.exB p o upd_same, gp, fun i h => (low p (A.notB h)).2 rfl⟩
  obtain ⟨x, h1, h2⟩ := A.sl i s q
  refine ⟨x, h1, ?_⟩
  cases s with
  | un => exact trivial
  | dat d => exact h2
  | own ds =>
    obtain ⟨a, rfl, vs, q1, q2, q3, q4⟩ := h2
    exact ⟨a, rfl, vs, q1, q2, q3, (low a q4).1⟩
  | lnt ds =>
    obtain ⟨a, rfl, q0, vs, q1, q2, q3, q4⟩ := h2
    exact ⟨a, rfl, q0, vs, q1, q2, q3, (low a q4).1⟩
  | scr ns => exact h2
theorem WR.growG {α : Type} {ok : Hp → Hp → Env → α → Prop} {r : R α} (h : WR C E G σ ok r) (e : Ex G G') : WR C E G' σ ok r := by
  cases r with
  | ok a ρ => exact fun G2 H2 e2 A2 => h G2 H2 (e.trans e2) A2
  | ex x ρ => exact fun G2 H2 cls da e2 A2 X2 => h G2 H2 cls da (e.trans e2) A2 X2
  | bad => exact h
/-- an object that is neither still nor held nor outside may change -/
theorem Ab.other (A : Ab C G σ H ρ) {p : Addr} {o o' : HO} (hp : H p = some o) (g : G p = none) (b : C.B p = none) (n : ∀ i, ¬ Hold ρ σ i p) : Ab C G σ (upd H p o') ρ := by
  refine ⟨fun a u q => by rw [upd_ne (ne_of_none q g)]; exact A.exG a u q, fun a u q => by rw [upd_ne (ne_of_none q b)]; exact A.exB a u q, A.dis, A.scr, A.len, fun i s q => ?_, A.nd⟩
  obtain ⟨x, h1, h2⟩ := A.sl i s q
  refine ⟨x, h1, ?_⟩
  cases s with
  | un => exact trivial
  | dat d => exact h2
  | own ds =>
    obtain ⟨a, rfl, vs, q1, q2⟩ := h2
    have ha : a ≠ p := fun z => n i ⟨⟨ds, .inl q⟩, z ▸ h1⟩
    exact ⟨a, rfl, vs, by rw [upd_ne ha]; exact q1, q2⟩
  | lnt ds =>
    obtain ⟨a, rfl, q0, vs, q1, q2⟩ := h2
    have ha : a ≠ p := fun z => n i ⟨⟨ds, .inr q⟩, z ▸ h1⟩
    exact ⟨a, rfl, q0, vs, by rw [upd_ne ha]; exact q1, q2⟩
  | scr ns => exact h2
theorem sx_comp {wi : TI} {g : TG} {tt : TT} {te : TE} {m : M (List PyData)} {b : PyData → Env → Option Env} {c : M Bool} {e : M PyData} {js vs : List Nat} {E' : XW} (hi : SI K mg E wi m) (hg : SG K g b js) (ht : STt K mg E' tt c) (he : SE K mg E' te e) (hj : ∀ j ∈ js, j ∈ vs) :
    SX K mg E (tLc wi g tt te vs) (mComp m b c e vs) := fun B L G σ H ρ Q A w => by
  refine hi B L G σ H ρ _ A ((WR.bind w).mono fun G1 H1 ρ1 ds e1 A1 k1 J hJ Dl hD => ?_)
  have F1 := A1.fresh hD (.nil : DtA K G1 [] [])
  have sc := A.scr
  have bD : B Dl = none := Evl.fresh_back A1.exB hD
  refine ⟨fun i n H' => n = ds.length - i ∧ i ≤ ds.length ∧ ∃ G' ρ' acc accV, Ex G1 G' ∧ H' Dl = some (.lst accV) ∧ DtA K G' accV acc ∧ Ab ⟨K, mg, upd B Dl (.lst accV), L⟩ G' (L2.wipe σ vs) H' (wipeE ρ' vs) ∧
      WR ⟨K, mg, B, L⟩ E G' σ (fun G' H' ρ' r => ∀ v, RvOk ⟨K, mg, B, L⟩ G' σ H' ρ' v r → Q v H') ((cloop b c e vs (ds.drop i) (wipeE ρ' vs) acc).bind fun acc ρ' => .ok (.new acc) ρ'), ⟨ds.length, rfl, Nat.zero_le _, G1, ρ1, [], [], Ex.refl G1, upd_same, .nil, ?_, k1⟩, ?_⟩
  · obtain ⟨AF, p, hp, ⟨us, q1, q2, q3, q4⟩, q5⟩ := F1
    cases hp
    refine ((AF.wipe vs).frame upd_same q3 bD fun i h => ?_)
    exact (A1.wipe vs).inH h hD
  rintro i n H' ⟨rfl, hle, G', ρ', acc, accV, e', hA, hacc, A', w'⟩
  by_cases hlt : i < ds.length
  · refine .inr ⟨hJ.go i H' (e'.trans A'.exG) hlt, fun H2 => ∃ G2 ρ2 acc2 accV2, Ex G1 G2 ∧ H2 Dl = some (.lst accV2) ∧ DtA K G2 accV2 acc2 ∧ Ab ⟨K, mg, upd B Dl (.lst accV2), L⟩ G2 (L2.wipe σ vs) H2 (wipeE ρ2 vs) ∧
      WR ⟨K, mg, B, L⟩ E G2 σ (fun G' H' ρ' r => ∀ v, RvOk ⟨K, mg, B, L⟩ G' σ H' ρ' v r → Q v H') ((cloop b c e vs (ds.drop (i + 1)) (wipeE ρ2 vs) acc2).bind fun acc ρ' => .ok (.new acc) ρ'), fun H2 h => ⟨_, by omega, rfl, hlt, h⟩, fun x H2 y => ?_⟩
    obtain ⟨G2, e2, A2, hx⟩ := hJ.yld ⟨K, mg, upd B Dl (.lst accV), L⟩ G' _ H' _ i ds[i] x H2 rfl e' A' (List.getElem?_eq_getElem hlt) y
    rw [List.drop_eq_getElem_cons hlt] at w'
    unfold cloop at w'
    cases q : b ds[i] (wipeE ρ' vs) with
    | none => rw [q] at w'; exact w'.elim
    | some ρ2 =>
      rw [q] at w'
      dsimp only at w'
      refine hg ⟨K, mg, upd B Dl (.lst accV), L⟩ G2 _ H2 _ ρ2 x ds[i] _ rfl A2 hx q fun σ3 t3 A3 => ⟨wipe_tch t3 hj, ?_⟩
      have ew := wipe_tch t3 hj
      refine ht (upd B Dl (.lst accV)) L G2 σ3 H2 ρ2 _ A3 ?_
      cases qc : c ρ2 with
      | bad => rw [qc] at w'; exact w'.elim
      | ex x ρ3 => rw [qc] at w'; exact w'.elim
      | ok t ρ3 =>
        rw [qc] at w'
        intro G3 H3 e3 A4
        cases t with
        | false =>
          dsimp only at w'
          show ∃ G2 ρ2 acc2 accV2, _
          refine ⟨G3, ρ3, acc, accV, (e'.trans e2).trans e3, A4.exB _ _ upd_same, (hacc.mono e2).mono e3, ?_, ?_⟩
          · rw [← ew]; exact A4.wipe vs
          · exact WR.growG w' (e2.trans e3)
        | true =>
          dsimp only at w'
          show te σ3 H3 _
          refine he (upd B Dl (.lst accV)) L G3 σ3 H3 ρ3 _ A4 ?_
          cases qe : e ρ3 with
          | bad => rw [qe] at w'; exact w'.elim
          | ex x ρ4 => rw [qe] at w'; exact w'.elim
          | ok y ρ4 =>
            rw [qe] at w'
            intro G4 H4 e4 A5 v hv
            dsimp only at w'
            by_cases hs : small acc.length = true
            · rw [if_pos hs] at w'
              have ha := ((hacc.mono e2).mono e3).mono e4
              refine ⟨accV, A5.exB _ _ upd_same, by rw [hacc.length]; exact small_lt hs, G4, ρ4, acc ++ [y], accV ++ [v], ((e'.trans e2).trans e3).trans e4, upd_same, ha.append (.cons hv .nil), ?_, WR.growG w' ((e2.trans e3).trans e4)⟩
              obtain ⟨A6, h6, g6, n6⟩ := Ab.unframe (C := ⟨K, mg, B, L⟩) A5 bD sc
              have A7 : Ab ⟨K, mg, B, L⟩ G4 σ3 (upd H4 Dl (.lst (accV ++ [v]))) ρ4 := A6.other h6 g6 bD n6
              rw [← ew]
              exact ((A7.frame upd_same g6 bD n6).wipe vs)
            · rw [if_neg hs] at w'; exact w'.elim
  · have : i = ds.length := by omega
    subst this
    rw [List.drop_length] at w'
    refine .inl ⟨hJ.stop _ H' (e'.trans A'.exG) (Nat.le_refl _), ?_⟩
    obtain ⟨A6, h6, g6, n6⟩ := Ab.unframe (C := ⟨K, mg, B, L⟩) A' bD sc
    have A7 := A6.unwipe
    refine w' G' H' (Ex.refl G') A7 (.ref Dl) ⟨Dl, rfl, ⟨accV, hA, hacc, g6, bD⟩, fun j h => n6 j ?_⟩
    obtain ⟨⟨es, h1⟩, h2⟩ := h
    have hj : j ∉ vs := by
      rcases h1 with q | q
      all_goals
        rcases wipeE_at ρ' vs j _ q with z | z
        · cases z
        · exact z
    exact ⟨⟨es, h1⟩, by rw [wipe_at, if_neg fun z => hj z.1]; exact h2⟩
end
end Hue
-- Hue3
namespace Hue
open PySem PySem.Spec PyProof.Rows L2
open Evl (Ex)

section
variable {K : PySem.W.Frag} {mg : Str → Option Value} {E : XW} {C : Cn} {G G' H H' : Hp} {σ σ' : L2.St} {ρ ρ' : Env} {D : Ends}
/-! ### what is walked -/
def iSeq (K : PySem.W.Frag) (tl : TE) : TI := fun σ H W => iList K tl σ H W ∨ iTup K tl σ H W ∨ iStr tl σ H W
theorem pi_seq {X : Cx} {tg l : Expr} {tl : TE} (hl : PE X l tl) : PI X tg l (iSeq X.K tl) := ⟨fun pins s σ H W I h => by
  rcases h with h | h | h
  · exact (pi_list hl).run pins s σ H W I h
  · exact (pi_tup hl).run pins s σ H W I h
  · exact (pi_str hl).run pins s σ H W I h⟩
def seqD : PyData → Option (List PyData)
  | .list ds => some ds
  | .tuple ds => some ds
  | .str x => some (x.cps.toList.map fun c => .str ⟨#[c]⟩)
  | _ => none
theorem it_list {G0 : Hp} {a : Addr} {xs : List V} {ds : List PyData} (h1 : G0 a = some (.lst xs)) (h2 : DtA K G0 xs ds) : ItOk K G0 (Itl K a) ds where
  go := fun i H e hi => by
    have hx : i < xs.length := by rw [h2.length]; exact hi
    exact ⟨xs, xs[i], SqL.of (e _ _ h1), List.getElem?_eq_getElem hx⟩
  stop := fun i H e hi => ⟨xs, SqL.of (e _ _ h1), by rw [h2.length]; exact hi⟩
  yld := fun C G σ H ρ i d x H' hK eG A hd y => by
    obtain ⟨rfl, y⟩ := y
    obtain ⟨v, q1, q2⟩ := h2.get' hd
    have z := y xs (SqL.of (A.exG _ _ (eG _ _ h1)))
    rw [q1] at z; cases z
    exact ⟨G, Ex.refl G, A, q2.mono eG⟩
theorem it_tup {G0 : Hp} {a : Addr} {xs : List V} {ds : List PyData} (h1 : SqT K G0 a xs) (h2 : DtA K G0 xs ds) : ItOk K G0 (Itt K a) ds where
  go := fun i H e hi => by
    have hx : i < xs.length := by rw [h2.length]; exact hi
    exact ⟨xs, xs[i], Evl.ex_t e h1, List.getElem?_eq_getElem hx⟩
  stop := fun i H e hi => ⟨xs, Evl.ex_t e h1, by rw [h2.length]; exact hi⟩
  yld := fun C G σ H ρ i d x H' hK eG A hd y => by
    obtain ⟨rfl, y⟩ := y
    obtain ⟨v, q1, q2⟩ := h2.get' hd
    have z := y xs (Evl.ex_t (eG.trans A.exG) h1)
    rw [q1] at z; cases z
    exact ⟨G, Ex.refl G, A, q2.mono eG⟩
theorem it_str {G0 : Hp} {x : Str} : ItOk K G0 (Its x) (x.cps.toList.map fun c => .str ⟨#[c]⟩) where
  go := fun i H e hi => by
    rw [List.length_map] at hi
    exact (show i < x.cps.size from hi)
  stop := fun i H e hi => by
    rw [List.length_map] at hi
    exact (show x.cps.size ≤ i from hi)
  yld := fun C G σ H ρ i d v H' hK eG A hd y => by
    obtain ⟨rfl, c, q1, rfl⟩ := y
    rw [List.getElem?_map, Array.getElem?_toList, q1] at hd
    cases hd
    exact ⟨G, Ex.refl G, A, .str _⟩
theorem it_rng {G0 : Hp} {lo : Int} {n : Nat} : ItOk K G0 (Itr lo n) ((List.range n).map fun i => .int (lo + (i : Nat))) where
  go := fun i H e hi => by rw [List.length_map, List.length_range] at hi; exact hi
  stop := fun i H e hi => by rw [List.length_map, List.length_range] at hi; exact hi
  yld := fun C G σ H ρ i d v H' hK eG A hd y => by
    obtain ⟨rfl, rfl⟩ := y
    rw [List.getElem?_map] at hd
    cases q : (List.range n)[i]? with
    | none => rw [q] at hd; cases hd
    | some j =>
      rw [q] at hd
      cases hd
      obtain ⟨z1, z2⟩ := List.getElem?_eq_some_iff.mp q
      rw [List.getElem_range] at z2
      subst z2
      exact ⟨G, Ex.refl G, A, .int _⟩
def mSeqI (m : M PyData) : M (List PyData) := mBind m fun d => mOpt (seqD d)
theorem si_seq {t : TE} {m : M PyData} (h : SE K mg E t m) : SI K mg E (iSeq K t) (mSeqI m) := fun B L G σ H ρ W A w => by
  have w1 := WR.bind w
  cases q : m ρ with
  | bad => rw [q] at w1; exact w1.elim
  | ex x ρ1 =>
    refine .inl (h B L G σ H ρ _ A ?_)
    rw [q] at w1 ⊢
    exact w1
  | ok d ρ1 =>
    rw [q] at w1
    have key : ∀ R : VK, (∀ G1 H1 v, Ex G G1 → Ab ⟨K, mg, B, L⟩ G1 σ H1 ρ1 → Dt K G1 v d → R v H1) → t σ H R := fun R k => h B L G σ H ρ R A (by rw [q]; exact fun G1 H1 e1 A1 v hv => k G1 H1 v e1 A1 hv)
    cases d with
    | list ds => exact .inl (key _ fun G1 H1 v e1 A1 hv => by
        obtain ⟨a, xs, rfl, h1, h2⟩ := hv.lst_inv
        exact ⟨a, rfl, ⟨xs, SqL.of (A1.exG _ _ h1)⟩, (w1 G1 H1 e1 A1) G1 H1 (Ex.refl G1) A1 _ (it_list h1 h2)⟩)
    | tuple ds => exact .inr (.inl (key _ fun G1 H1 v e1 A1 hv => by
        obtain ⟨a, xs, rfl, h1, h2⟩ := hv.tup_inv
        exact ⟨a, rfl, ⟨xs, Evl.ex_t A1.exG h1⟩, (w1 G1 H1 e1 A1) G1 H1 (Ex.refl G1) A1 _ (it_tup h1 h2)⟩))
    | str x => exact .inr (.inr (key _ fun G1 H1 v e1 A1 hv => ⟨x, hv.str_inv, (w1 G1 H1 e1 A1) G1 H1 (Ex.refl G1) A1 _ it_str⟩))
    | none => exact .inl (key _ fun G1 H1 v e1 A1 hv => (show False from w1 G1 H1 e1 A1).elim)
    | bool b => exact .inl (key _ fun G1 H1 v e1 A1 hv => (show False from w1 G1 H1 e1 A1).elim)
    | int i => exact .inl (key _ fun G1 H1 v e1 A1 hv => (show False from w1 G1 H1 e1 A1).elim)
    | dict kvs => exact .inl (key _ fun G1 H1 v e1 A1 hv => (show False from w1 G1 H1 e1 A1).elim)
def inR (j : Int) : Bool := decide (-(2 ^ 62) ≤ j) && decide (j < 2 ^ 62)
theorem inR_of {j : Int} (h : inR j = true) : -(2 ^ 62) ≤ j ∧ j < 2 ^ 62 := by
  unfold inR at h
  rw [Bool.and_eq_true] at h
  exact ⟨of_decide_eq_true h.1, of_decide_eq_true h.2⟩
def rngL (lo : Int) (n : Nat) : List PyData := (List.range n).map fun i => .int (lo + (i : Nat))
def rng1 : List PyData → Option (List PyData)
  | [.int j] => if inR j = true then some (rngL 0 j.toNat) else none
  | _ => none
def rng2 : List PyData → Option (List PyData)
  | [.int i, .int j] => if (inR i && inR j) = true then some (rngL i (j - i).toNat) else none
  | _ => none
def mRng1 (m : M (List PyData)) : M (List PyData) := mBind m fun d => mOpt (rng1 d)
def mRng2 (m : M (List PyData)) : M (List PyData) := mBind m fun d => mOpt (rng2 d)
theorem DtA.one {vs : List V} {d : PyData} (h : DtA K G vs [d]) : ∃ v, vs = [v] ∧ Dt K G v d := by
  cases h with
  | cons h1 h2 => cases h2; exact ⟨_, rfl, h1⟩
theorem DtA.two {vs : List V} {d e : PyData} (h : DtA K G vs [d, e]) : ∃ v u, vs = [v, u] ∧ Dt K G v d ∧ Dt K G u e := by
  cases h with
  | cons h1 h2 =>
    obtain ⟨u, rfl, h3⟩ := h2.one
    exact ⟨_, u, rfl, h1, h3⟩
theorem si_rng1 {t : TA} {m : M (List PyData)} (h : SA K mg E t m) : SI K mg E (iRng1 t) (mRng1 m) := fun B L G σ H ρ W A w => by
  refine h B L G σ H ρ _ A ((WR.bind w).mono fun G1 H1 ρ1 ds e1 A1 k vs hv => ?_)
  obtain ⟨is, q, k2⟩ := WR.opt k
  unfold rng1 at q
  split at q
  · rename_i j
    by_cases z : inR j = true
    · rw [if_pos z] at q; cases q
      obtain ⟨v, rfl, h1⟩ := hv.one
      exact ⟨j, by rw [h1.int_inv], (inR_of z).1, (inR_of z).2, k2.here A1 _ it_rng⟩
    · rw [if_neg z] at q; cases q
  · cases q
theorem si_rng2 {t : TA} {m : M (List PyData)} (h : SA K mg E t m) : SI K mg E (iRng2 t) (mRng2 m) := fun B L G σ H ρ W A w => by
  refine h B L G σ H ρ _ A ((WR.bind w).mono fun G1 H1 ρ1 ds e1 A1 k vs hv => ?_)
  obtain ⟨is, q, k2⟩ := WR.opt k
  unfold rng2 at q
  split at q
  · rename_i i j
    by_cases z : (inR i && inR j) = true
    · rw [if_pos z] at q; cases q
      obtain ⟨v, u, rfl, h1, h2⟩ := hv.two
      rw [Bool.and_eq_true] at z
      exact ⟨i, j, by rw [h1.int_inv, h2.int_inv], ⟨(inR_of z.1).1, (inR_of z.1).2, (inR_of z.2).1, (inR_of z.2).2⟩, k2.here A1 _ it_rng⟩
    · rw [if_neg z] at q; cases q
  · cases q
/-- zip of two lists, of two tuples -/
def zipL (ds es : List PyData) : List PyData := (ds.zip es).map fun p => .tuple [p.1, p.2]
def zipD : List PyData → Option (List PyData)
  | [.list ds, .list es] => some (zipL ds es)
  | [.tuple ds, .tuple es] => some (zipL ds es)
  | _ => none
theorem zipL_len (ds es : List PyData) : (zipL ds es).length = min ds.length es.length := by
  unfold zipL
  rw [List.length_map, List.length_zip]
theorem zipL_get {ds es : List PyData} {i : Nat} {d : PyData} (h : (zipL ds es)[i]? = some d) : ∃ x y, ds[i]? = some x ∧ es[i]? = some y ∧ d = .tuple [x, y] := by
  unfold zipL at h
  rw [List.getElem?_map] at h
  cases q : (ds.zip es)[i]? with
  | none => rw [q] at h; cases h
  | some p =>
    rw [q] at h
    cases h
    rw [List.getElem?_zip_eq_some] at q
    exact ⟨p.1, p.2, q.1, q.2, rfl⟩
theorem it_zipT {G0 : Hp} {a b : Addr} {xs ys : List V} {ds es : List PyData} (h1 : SqT K G0 a xs) (h2 : DtA K G0 xs ds) (h3 : SqT K G0 b ys) (h4 : DtA K G0 ys es) : ItOk K G0 (RZ.ItzT K a b) (zipL ds es) where
  go := fun i H e hi => by
    rw [zipL_len] at hi
    have hx : i < xs.length := by rw [h2.length]; omega
    have hy : i < ys.length := by rw [h4.length]; omega
    exact ⟨xs, ys, xs[i], ys[i], Evl.ex_t e h1, Evl.ex_t e h3, List.getElem?_eq_getElem hx, List.getElem?_eq_getElem hy⟩
  stop := fun i H e hi => by
    rw [zipL_len] at hi
    refine ⟨xs, ys, Evl.ex_t e h1, Evl.ex_t e h3, ?_⟩
    rw [h2.length, h4.length]
    omega
  yld := fun C G σ H ρ i d x H' hK eG A hd y => by
    obtain ⟨T, x1, x2, rfl, hT, rfl, f1, f2⟩ := y
    obtain ⟨d1, d2, q1, q2, rfl⟩ := zipL_get hd
    obtain ⟨v1, z1, z2⟩ := h2.get' q1
    obtain ⟨v2, z3, z4⟩ := h4.get' q2
    have y1 := f1 xs (Evl.ex_t (eG.trans A.exG) h1)
    have y2 := f2 ys (Evl.ex_t (eG.trans A.exG) h3)
    rw [z1] at y1; cases y1
    rw [z3] at y2; cases y2
    subst hK
    have T := A.tup hT (.cons (z2.mono eG) (.cons (z4.mono eG) .nil))
    exact ⟨_, T.1, T.2.1, T.2.2⟩
theorem it_zipL {G0 : Hp} {a b : Addr} {xs ys : List V} {ds es : List PyData} (h1 : G0 a = some (.lst xs)) (h2 : DtA K G0 xs ds) (h3 : G0 b = some (.lst ys)) (h4 : DtA K G0 ys es) : ItOk K G0 (Itz K a b) (zipL ds es) where
  go := fun i H e hi => by
    rw [zipL_len] at hi
    have hx : i < xs.length := by rw [h2.length]; omega
    have hy : i < ys.length := by rw [h4.length]; omega
    exact ⟨xs, ys, xs[i], ys[i], SqL.of (e _ _ h1), SqL.of (e _ _ h3), List.getElem?_eq_getElem hx, List.getElem?_eq_getElem hy⟩
  stop := fun i H e hi => by
    rw [zipL_len] at hi
    refine ⟨xs, ys, SqL.of (e _ _ h1), SqL.of (e _ _ h3), ?_⟩
    rw [h2.length, h4.length]
    omega
  yld := fun C G σ H ρ i d x H' hK eG A hd y => by
    obtain ⟨T, x1, x2, rfl, hT, rfl, f1, f2⟩ := y
    obtain ⟨d1, d2, q1, q2, rfl⟩ := zipL_get hd
    obtain ⟨v1, z1, z2⟩ := h2.get' q1
    obtain ⟨v2, z3, z4⟩ := h4.get' q2
    have y1 := f1 xs (SqL.of (A.exG _ _ (eG _ _ h1)))
    have y2 := f2 ys (SqL.of (A.exG _ _ (eG _ _ h3)))
    rw [z1] at y1; cases y1
    rw [z3] at y2; cases y2
    subst hK
    have T := A.tup hT (.cons (z2.mono eG) (.cons (z4.mono eG) .nil))
    exact ⟨_, T.1, T.2.1, T.2.2⟩
def mZip (m : M (List PyData)) : M (List PyData) := mBind m fun d => mOpt (zipD d)
theorem si_zip {t : TA} {m : M (List PyData)} (h : SA K mg E t m) : SI K mg E (RZ.iZipA K t) (mZip m) := fun B L G σ H ρ W A w => by
  refine h B L G σ H ρ _ A ((WR.bind w).mono fun G1 H1 ρ1 ds e1 A1 k vs hv => ?_)
  obtain ⟨is, q, k2⟩ := WR.opt k
  unfold zipD at q
  split at q
  · cases q
    obtain ⟨v, u, rfl, h1, h2⟩ := hv.two
    obtain ⟨a, xs, rfl, z1, z2⟩ := h1.lst_inv
    obtain ⟨b, ys, rfl, z3, z4⟩ := h2.lst_inv
    exact ⟨a, b, xs, ys, rfl, .inl ⟨SqL.of (A1.exG _ _ z1), SqL.of (A1.exG _ _ z3), k2.here A1 _ (it_zipL z1 z2 z3 z4)⟩⟩
  · cases q
    obtain ⟨v, u, rfl, h1, h2⟩ := hv.two
    obtain ⟨a, xs, rfl, z1, z2⟩ := h1.tup_inv
    obtain ⟨b, ys, rfl, z3, z4⟩ := h2.tup_inv
    exact ⟨a, b, xs, ys, rfl, .inr ⟨Evl.ex_t A1.exG z1, Evl.ex_t A1.exG z3, k2.here A1 _ (it_zipT z1 z2 z3 z4)⟩⟩
  · cases q

/-! ### defs -/
inductive Ar where
  | dat (d : PyData) | lnt (ds : List PyData) | scr (ns : List Int)
inductive Fr where
  | ok (r : Rv) (as : List Ar) | ex (x : Xn) (as : List Ar) | bad
abbrev Fn := List Ar → Fr
def arSl : Ar → Sl
  | .dat d => .dat d
  | .lnt ds => .lnt ds
  | .scr ns => .scr ns
def WF (C : Cn) (G : Hp) (vs : List V) (Q : VK) (E : XK) : Fr → Prop
  | .ok r as => ∀ v G' H', Ex G G' → Ab C G' (vs.map some) H' (as.map arSl) → RvOk C G' (vs.map some) H' (as.map arSl) v r → Q v H'
  | .ex x as => ∀ cls da G' H', Ex G G' → Ab C G' (vs.map some) H' (as.map arSl) → XOk C G' H' x cls da → E cls da H'
  | .bad => False
def spF (K : PySem.W.Frag) (mg : Str → Option Value) (n : Nat) (f : Fn) : Sp := fun vs H Q E => vs.length = n ∧ ∃ (B : Hp) (L : Frm) (G : Hp) (as : List Ar), Ab ⟨K, mg, B, L⟩ G (vs.map some) H (as.map arSl) ∧ WF ⟨K, mg, B, L⟩ G vs Q E (f as)
def back : List Ar → Env → Option (List Ar)
  | [], _ => some []
  | .lnt _ :: as, .lnt ds :: ρ => (back as ρ).map (Ar.lnt ds :: ·)
  | .dat d :: as, _ :: ρ => (back as ρ).map (Ar.dat d :: ·)
  | .scr d :: as, _ :: ρ => (back as ρ).map (Ar.scr d :: ·)
  | _, _ => none
def frOf (as : List Ar) (f : List Ar → Fr) (ρ : Env) : Fr := match back as ρ with
  | some as' => f as'
  | none => .bad
def mkFn (n : Nat) (body : Env → Fl) : Fn := fun as => match body (as.map arSl ++ List.replicate (n - as.length) .un) with
  | .rt r ρ => frOf as (Fr.ok r) ρ
  | .nx ρ => frOf as (Fr.ok (.dat .none)) ρ
  | .ex x ρ => frOf as (Fr.ex x) ρ
  | _ => .bad
/-- what came back of one argument -/
def Back1 : Ar → Option Sl → Ar → Prop
  | .dat d, _, b => b = .dat d
  | .scr d, _, b => b = .scr d
  | .lnt _, s, b => ∃ ds, s = some (.lnt ds) ∧ b = .lnt ds
theorem back_inv : ∀ {as as' : List Ar} {ρ : Env}, back as ρ = some as' → as'.length = as.length ∧ ∀ (i : Nat) (a : Ar), as[i]? = some a → ∃ b, as'[i]? = some b ∧ Back1 a ρ[i]? b
  | [], as', ρ, h => by
    unfold back at h; cases h
    exact ⟨rfl, fun i a q => by simp at q⟩
  | a :: as, as', ρ, h => by
    have step : ∀ {s : Sl} {ρ2 : Env} {b : Ar}, ρ = s :: ρ2 → (back as ρ2).map (b :: ·) = some as' → Back1 a (some s) b → as'.length = (a :: as).length ∧ ∀ (i : Nat) (x : Ar), (a :: as)[i]? = some x → ∃ b, as'[i]? = some b ∧ Back1 x ρ[i]? b := fun {s ρ2 b} e h' hb => by
      clear h
      have h := h'
      subst e
      cases q : back as ρ2 with
      | none => rw [q] at h; cases h
      | some as2 =>
        rw [q] at h
        cases h
        obtain ⟨h1, h2⟩ := back_inv q
        refine ⟨by rw [List.length_cons, List.length_cons, h1], fun i x hx => ?_⟩
        cases i with
        | zero => cases hx; exact ⟨b, rfl, hb⟩
        | succ i => exact h2 i x (by simpa using hx)
    cases ρ with
    | nil => cases a <;> (unfold back at h; cases h)
    | cons s ρ2 =>
      cases a with
      | dat d => exact step rfl h rfl
      | scr d => exact step rfl h rfl
      | lnt ds =>
        cases s with
        | lnt es => exact step rfl h ⟨es, rfl, rfl⟩
        | un => unfold back at h; cases h
        | dat _ => unfold back at h; cases h
        | own _ => unfold back at h; cases h
        | scr _ => unfold back at h; cases h
theorem Ab.backs {vs : List V} {as as' : List Ar} (A0 : Ab C G (vs.map some) H (as.map arSl)) (eG : Ex G G') (A : Ab C G' σ' H' ρ') (hb : back as ρ' = some as') : Ab C G' (vs.map some) H' (as'.map arSl) ∧ ∀ v r, RvOk C G' σ' H' ρ' v r → RvOk C G' (vs.map some) H' (as'.map arSl) v r := by
  obtain ⟨hl, hi⟩ := back_inv hb
  have at_ : ∀ (i : Nat) (s : Sl), (as'.map arSl)[i]? = some s → ∃ a b, as[i]? = some a ∧ as'[i]? = some b ∧ Back1 a ρ'[i]? b ∧ s = arSl b := fun i s q => by
    rw [List.getElem?_map] at q
    cases q1 : as'[i]? with
    | none => rw [q1] at q; cases q
    | some b =>
      rw [q1] at q
      cases q
      have hi' : i < as.length := by rw [← hl]; exact (List.getElem?_eq_some_iff.mp q1).1
      obtain ⟨b2, z1, z2⟩ := hi i as[i] (List.getElem?_eq_getElem hi')
      rw [q1] at z1
      cases z1
      exact ⟨as[i], b, List.getElem?_eq_getElem hi', rfl, z2, rfl⟩
  have hold : ∀ i a, Hold (as'.map arSl) (vs.map some) i a → Hold (as.map arSl) (vs.map some) i a ∧ Hold ρ' σ' i a := fun i a h => by
    obtain ⟨⟨ds, h1⟩, h2⟩ := h
    rcases h1 with h1 | h1
    · obtain ⟨x, b, q1, q2, q3, q4⟩ := at_ i _ h1
      cases b <;> cases q4
    · obtain ⟨x, b, q1, q2, q3, q4⟩ := at_ i _ h1
      cases b with
      | dat _ => cases q4
      | scr _ => cases q4
      | lnt es =>
        cases q4
        cases x with
        | dat _ => cases q3
        | scr _ => cases q3
        | lnt fs =>
          obtain ⟨gs, q3, q5⟩ := q3
          cases q5
          have e0 : (as.map arSl)[i]? = some (.lnt fs) := by rw [List.getElem?_map, q1]; rfl
          have hA : Hold (as.map arSl) (vs.map some) i a := ⟨⟨fs, .inr e0⟩, h2⟩
          obtain ⟨y, y1, c, y2, y3, _⟩ := A0.sl i _ e0
          rw [y2, h2] at y1
          cases y1
          obtain ⟨y', y1', c', y2', y3', _⟩ := A.sl i _ q3
          rw [y3] at y3'
          cases y3'
          rw [y2'] at y1'
          exact ⟨hA, ⟨⟨_, .inr q3⟩, y1'⟩⟩
  refine ⟨⟨A.exG, A.exB, A.dis, A.scr, ?_, fun i s q => ?_, fun i j a h1 h2 => A0.nd i j a (hold i a h1).1 (hold j a h2).1⟩, fun v r h => ?_⟩
  · have := A0.len
    rw [List.length_map, List.length_map] at this ⊢
    rw [this, hl]
  · obtain ⟨x, b, q1, q2, q3, rfl⟩ := at_ i s q
    have e0 : (as.map arSl)[i]? = some (arSl x) := by rw [List.getElem?_map, q1]; rfl
    obtain ⟨y, y1, y2⟩ := A0.sl i _ e0
    refine ⟨y, y1, ?_⟩
    cases x with
    | dat d =>
      cases q3
      obtain ⟨v, z1, z2⟩ := y2
      exact ⟨v, z1, z2.mono eG⟩
    | scr ns => cases q3; exact y2
    | lnt fs =>
      obtain ⟨gs, q3, q5⟩ := q3
      subst q5
      obtain ⟨c, z2, z3, _⟩ := y2
      obtain ⟨y', y1', c', y2', y3', y4'⟩ := A.sl i _ q3
      rw [z3] at y3'
      cases y3'
      exact ⟨c, z2, z3, y4'⟩
  · cases r with
    | dat d => exact h
    | new ds =>
      obtain ⟨p, h1, h2, h3⟩ := h
      exact ⟨p, h1, h2, fun i hi => h3 i (hold i p hi).2⟩
theorem Ab.begin {vs : List V} {as : List Ar} {N : List Str} (A : Ab C G (vs.map some) H (as.map arSl)) : Ab C G (start N vs) H (as.map arSl ++ List.replicate (N.length - as.length) .un) := by
  have hl : vs.length = as.length := by have := A.len; rwa [List.length_map, List.length_map] at this
  have hold : ∀ i a, Hold (as.map arSl ++ List.replicate (N.length - as.length) .un) (start N vs) i a → Hold (as.map arSl) (vs.map some) i a := fun i a h => by
    obtain ⟨⟨ds, h1⟩, h2⟩ := h
    by_cases hi : i < as.length
    · rw [List.getElem?_append_left (by rw [List.length_map]; exact hi)] at h1
      unfold L2.start at h2
      rw [List.getElem?_append_left (by rw [List.length_map, hl]; exact hi)] at h2
      exact ⟨⟨ds, h1⟩, h2⟩
    · rw [List.getElem?_append_right (by rw [List.length_map]; omega), List.getElem?_replicate] at h1
      rcases h1 with h1 | h1 <;> (split at h1 <;> cases h1)
  refine ⟨A.exG, A.exB, A.dis, A.scr, ?_, fun i s q => ?_, fun i j a h1 h2 => A.nd i j a (hold i a h1) (hold j a h2)⟩
  · unfold L2.start
    rw [List.length_append, List.length_append, List.length_map, List.length_map, List.length_replicate, List.length_replicate, hl]
  · by_cases hi : i < as.length
    · rw [List.getElem?_append_left (by rw [List.length_map]; exact hi)] at q
      obtain ⟨x, h1, h2⟩ := A.sl i s q
      refine ⟨x, ?_, h2⟩
      unfold L2.start
      rw [List.getElem?_append_left (by rw [List.length_map, hl]; exact hi)]
      exact h1
    · have hq := (List.getElem?_eq_some_iff.mp q).1
      rw [List.getElem?_append_right (by rw [List.length_map]; omega), List.getElem?_replicate] at q
      split at q
      · cases q
        refine ⟨none, ?_, trivial⟩
        unfold L2.start
        rw [List.getElem?_append_right (by rw [List.length_map]; omega), List.getElem?_replicate, if_pos]
        rw [List.length_append, List.length_map, List.length_replicate] at hq
        rw [List.length_map]
        omega
      · cases q
/-- a def by its body -/
theorem fn_body {t : TS} {body : Env → Fl} {N : List Str} {vs : List V} {Q : VK} {E : XK} {n : Nat} (h : SS K mg (fun c d _ H => E c d H) t body) (hs : spF K mg n (mkFn N.length body) vs H Q E) : t { nx := fun _ H' => Q .non H', rt := Q } (start N vs) H := by
  obtain ⟨_, B, L, G, as, A, w⟩ := hs
  refine h B L G (start N vs) H _ _ A.begin ?_
  unfold mkFn at w
  cases q : body (as.map arSl ++ List.replicate (N.length - as.length) .un) with
  | nx ρ' =>
    rw [q] at w
    dsimp only at w
    unfold frOf at w
    cases qb : back as ρ' with
    | none => rw [qb] at w; exact w.elim
    | some as' =>
      rw [qb] at w
      intro G' σ' H' e A'
      have b := A.backs e A' qb
      exact w .non G' H' e b.1 (show Dt K G' .non .none from .non)
  | rt r ρ' =>
    rw [q] at w
    dsimp only at w
    unfold frOf at w
    cases qb : back as ρ' with
    | none => rw [qb] at w; exact w.elim
    | some as' =>
      rw [qb] at w
      intro v G' σ' H' e A' hv
      have b := A.backs e A' qb
      exact w v G' H' e b.1 (b.2 v r hv)
  | ex x ρ' =>
    rw [q] at w
    dsimp only at w
    unfold frOf at w
    cases qb : back as ρ' with
    | none => rw [qb] at w; exact w.elim
    | some as' =>
      rw [qb] at w
      intro G' σ' H' cls da e A' hx
      have b := A.backs e A' qb
      exact w cls da G' H' e b.1 hx
  | bk ρ' => rw [q] at w; exact w.elim
  | ct ρ' => rw [q] at w; exact w.elim
  | bad => rw [q] at w; exact w.elim
end
end Hue
-- Hue4
namespace Hue
open PySem PySem.Spec PyProof.Rows L2
open Evl (Ex)

section
variable {K : PySem.W.Frag} {mg : Str → Option Value} {E : XK} {C : Cn} {G G' H H' : Hp} {σ σ' : L2.St} {ρ ρ' : Env} {D : Ends}
abbrev liftE (E : XK) : XW := fun c d _ H => E c d H
theorem hold_put {k j : Nat} {a b : Addr} {ds : List PyData} (hh : Hold ρ σ k a) (h : Hold (putAt ρ k ds) σ j b) : Hold ρ σ j b := by
  obtain ⟨⟨es, h1⟩, h2⟩ := h
  by_cases hj : k = j
  · subst hj
    obtain ⟨_, q2⟩ := id hh
    rw [q2] at h2; cases h2
    exact hh
  · unfold putAt at h1
    split at h1
    · rw [List.getElem?_set_ne hj] at h1; exact ⟨⟨es, h1⟩, h2⟩
    · rw [List.getElem?_set_ne hj] at h1; exact ⟨⟨es, h1⟩, h2⟩
    · exact ⟨⟨es, h1⟩, h2⟩
/-- the outside of a call: all that is tracked, not still, and not lent -/
def outB (G H : Hp) (l : Option Addr) : Hp := fun a => match G a with
  | some _ => none
  | none => if some a = l then none else H a
theorem outB_some {l : Option Addr} {a : Addr} {o : HO} (h : outB G H l a = some o) : G a = none ∧ some a ≠ l ∧ H a = some o := by
  unfold outB at h
  cases q : G a with
  | some u => rw [q] at h; cases h
  | none =>
    rw [q] at h
    dsimp only at h
    by_cases z : some a = l
    · rw [if_pos z] at h; cases h
    · rw [if_neg z] at h; exact ⟨rfl, z, h⟩
theorem outB_of {l : Option Addr} {a : Addr} (h1 : G a = none) (h2 : some a ≠ l) : outB G H l a = H a := by
  unfold outB
  rw [h1]
  dsimp only
  rw [if_neg h2]
theorem outB_still {l : Option Addr} {a : Addr} (h : G a ≠ none) : outB G H l a = none := by
  unfold outB
  cases q : G a with
  | some u => rfl
  | none => exact absurd q h
theorem Ab.out (A : Ab C G σ H ρ) {l : Option Addr} (hl : ∀ a, l = some a → C.B a = none) : Ex C.B (outB G H l) := fun a o e => by
  have g : G a = none := by
    cases q : G a with
    | none => rfl
    | some u => rw [A.dis a (by rw [q]; intro z; cases z)] at e; cases e
  rw [outB_of g fun z => by rw [hl a z.symm] at e; cases e]
  exact A.exB a o e
theorem dats_at {vs : List V} {ds : List PyData} (h : DtA C.K G vs ds) (i : Nat) (s : Sl) (q : ((ds.map Ar.dat).map arSl)[i]? = some s) : ∃ v d, (vs.map some)[i]? = some (some v) ∧ s = .dat d ∧ Dt C.K G v d := by
  rw [List.map_map, List.getElem?_map] at q
  cases q1 : ds[i]? with
  | none => rw [q1] at q; cases q
  | some d =>
    rw [q1] at q
    cases q
    obtain ⟨v, z1, z2⟩ := h.get' q1
    exact ⟨v, d, by rw [List.getElem?_map, z1]; rfl, rfl, z2⟩
/-- a def called with data -/
theorem call_data (A : Ab ⟨K, mg, C.B, C.L⟩ G σ H ρ) {vs : List V} {ds : List PyData} (hv : DtA K G vs ds) {n : Nat} {f : Fn} {Q : VK} (hn : ds.length = n)
    (w : match f (ds.map Ar.dat) with
      | .ok r _ => ∀ v G' H', Ex G G' → Ab ⟨K, mg, C.B, C.L⟩ G' σ H' ρ → RvOk ⟨K, mg, C.B, C.L⟩ G' σ H' ρ v r → Q v H'
      | .ex x _ => ∀ cls da G' H', Ex G G' → Ab ⟨K, mg, C.B, C.L⟩ G' σ H' ρ → XOk ⟨K, mg, C.B, C.L⟩ G' H' x cls da → E cls da H'
      | .bad => False) : spF K mg n f vs H Q E := by
  have eB : Ex C.B (outB G H none) := A.out (l := none) fun a z => by cases z
  have A2 : Ab ⟨K, mg, outB G H none, ⟨fun _ => none, C.L.scr⟩⟩ G (vs.map some) H ((ds.map Ar.dat).map arSl) := by
    refine ⟨A.exG, fun a o e => (outB_some e).2.2, fun a q => outB_still q, fun a ns q => Evl.ex_l eB (A.scr a ns q), by rw [List.length_map, List.length_map, List.length_map, hv.length], fun i s q => ?_, fun i j a h1 h2 => ?_⟩
    · obtain ⟨v, d, z1, rfl, z2⟩ := dats_at (C := ⟨K, mg, C.B, C.L⟩) hv i s q
      exact ⟨some v, z1, v, rfl, z2⟩
    · obtain ⟨⟨es, h3⟩, _⟩ := h1
      rcases h3 with h3 | h3
      all_goals
        obtain ⟨v, d, _, z, _⟩ := dats_at (C := ⟨K, mg, C.B, C.L⟩) hv i _ h3
        cases z
  have up : ∀ {G2 H2 : Hp} {as : List Ar}, Ex G G2 → Ab ⟨K, mg, outB G H none, ⟨fun _ => none, C.L.scr⟩⟩ G2 (vs.map some) H2 (as.map arSl) → Ab ⟨K, mg, C.B, C.L⟩ G2 σ H2 ρ := fun {G2 H2 as} e B => by
    refine A.grow e (fun a o q => ?_) B.exG (fun a q => ?_) (fun i a h => ?_)
    · cases g : G a with
      | none => exact B.exB a o (by show outB G H none a = some o; rw [outB_of g (fun z => by cases z)]; exact q)
      | some u =>
        rw [A.exG a u g] at q
        cases q
        exact B.exG a o (e a o g)
    · cases z : C.B a with
      | none => rfl
      | some o =>
        have y := eB a o z
        rw [show outB G H none a = none from B.dis a q] at y
        cases y
    · cases z : G2 a with
      | none => rfl
      | some u =>
        have y : outB G H none a = none := B.dis a (by rw [z]; intro x; cases x)
        rw [outB_of (A.notG h) (fun z => by cases z)] at y
        exact absurd y (A.inH h)
  refine ⟨hv.length.trans hn, _, _, G, ds.map Ar.dat, A2, ?_⟩
  cases q : f (ds.map Ar.dat) with
  | bad => rw [q] at w; exact w.elim
  | ex x as =>
    rw [q] at w
    exact fun cls da G2 H2 e B hx => w cls da G2 H2 e (up e B) hx
  | ok r as =>
    rw [q] at w
    intro v G2 H2 e B hv
    refine w v G2 H2 e (up e B) ?_
    cases r with
    | dat d => exact hv
    | new es =>
      obtain ⟨p, h1, ⟨us, q1, q2, q3, q4⟩, h3⟩ := hv
      have q4 : outB G H none p = none := q4
      have pb : C.B p = none := by
        cases z : C.B p with
        | none => rfl
        | some o => rw [eB p o z] at q4; cases q4
      refine ⟨p, h1, ⟨us, q1, q2, q3, pb⟩, fun i h => ?_⟩
      rw [outB_of (A.notG h) (fun z => by cases z)] at q4
      exact A.inH h q4
def frR (ρ : Env) : Fr → R Rv
  | .ok r _ => .ok r ρ
  | .ex x _ => .ex x ρ
  | .bad => .bad
def mCall (n : Nat) (f : Fn) (m : M (List PyData)) : M Rv := mBind m fun ds => fun ρ => if ds.length = n then frR ρ (f (ds.map Ar.dat)) else .bad
theorem sx_call {t : TA} {m : M (List PyData)} {n : Nat} {f : Fn} (h : SA K mg (liftE E) t m) : SX K mg (liftE E) (tCall (spF K mg n f) [] E t) (mCall n f m) := fun B L G σ H ρ Q A w => by
  refine h B L G σ H ρ _ A ((WR.bind w).mono fun G1 H1 ρ1 ds e1 A1 k vs hv => ?_)
  rw [List.append_nil]
  dsimp only at k
  by_cases hn : ds.length = n
  · rw [if_pos hn] at k
    refine call_data (C := ⟨K, mg, B, L⟩) A1 hv hn ?_
    cases q : f (ds.map Ar.dat) with
    | bad => rw [q] at k; exact k.elim
    | ex x as => rw [q] at k; exact fun cls da G' H' e A' hx => k G' H' cls da e A' hx
    | ok r as => rw [q] at k; exact fun v G' H' e A' hv => k G' H' e A' v hv
  · rw [if_neg hn] at k; exact k.elim
/-- without arguments -/
theorem sx_call0 {n : Nat} {f : Fn} : SX K mg (liftE E) (tCall (spF K mg n f) [] E tNil) (mCall n f mNil) := sx_call sa_nil

/-- a def called with a list that it may change, the rest data -/
theorem call_lent (A : Ab ⟨K, mg, C.B, C.L⟩ G σ H ρ) {k : Nat} {a : Addr} {ds0 : List PyData} (hk : heldAt ρ k = some ds0) (ha : σ[k]? = some (some (.ref a))) {vs : List V} {ds : List PyData} (hv : DtA K G vs ds) {n : Nat} {f : Fn} {Q : VK} (hn : ds.length + 1 = n)
    (w : match f (.lnt ds0 :: ds.map Ar.dat) with
      | .ok r (.lnt ds1 :: _) => ∀ v G' H', Ex G G' → Ab ⟨K, mg, C.B, C.L⟩ G' σ H' (putAt ρ k ds1) → RvOk ⟨K, mg, C.B, C.L⟩ G' σ H' (putAt ρ k ds1) v r → Q v H'
      | .ex x (.lnt ds1 :: _) => ∀ cls da G' H', Ex G G' → Ab ⟨K, mg, C.B, C.L⟩ G' σ H' (putAt ρ k ds1) → XOk ⟨K, mg, C.B, C.L⟩ G' H' x cls da → E cls da H'
      | _ => False) : spF K mg n f (.ref a :: vs) H Q E := by
  obtain ⟨a', hh, vs0, l1, l2, l3, l4⟩ := A.held hk
  obtain rfl := hold_same hh ha
  have eB : Ex C.B (outB G H (some a')) := A.out (l := some a') fun a z => by cases z; exact l4
  have A2 : Ab ⟨K, mg, outB G H (some a'), ⟨fun i => if i = 0 then some a' else none, C.L.scr⟩⟩ G ((.ref a' :: vs).map some) H ((.lnt ds0 :: ds.map Ar.dat).map arSl) := by
    have oth : ∀ (i : Nat) s, ((Ar.lnt ds0 :: ds.map Ar.dat).map arSl)[i + 1]? = some s → ∃ v d, ((V.ref a' :: vs).map some)[i + 1]? = some (some v) ∧ s = .dat d ∧ Dt K G v d := fun i s q => dats_at (C := ⟨K, mg, C.B, C.L⟩) hv i s (by simpa using q)
    refine ⟨A.exG, fun a o e => (outB_some e).2.2, fun a q => outB_still q, fun a ns q => Evl.ex_l eB (A.scr a ns q), by rw [List.length_map, List.length_map, List.length_cons, List.length_cons, List.length_map, hv.length], fun i s q => ?_, fun i j b h1 h2 => ?_⟩
    · cases i with
      | zero =>
        cases q
        refine ⟨_, rfl, a', rfl, rfl, vs0, l1, l2, l3, ?_⟩
        show outB G H (some a') a' = none
        cases z : outB G H (some a') a' with
        | none => rfl
        | some o => exact absurd rfl (outB_some z).2.1
      | succ i =>
        obtain ⟨v, d, z1, rfl, z2⟩ := oth i s q
        exact ⟨some v, z1, v, rfl, z2⟩
    · have no : ∀ i b, Hold ((Ar.lnt ds0 :: ds.map Ar.dat).map arSl) ((V.ref a' :: vs).map some) (i + 1) b → False := fun i b h => by
        obtain ⟨⟨es, h3⟩, _⟩ := h
        rcases h3 with h3 | h3
        all_goals
          obtain ⟨v, d, _, z, _⟩ := oth i _ h3
          cases z
      cases i with
      | zero => cases j with
        | zero => rfl
        | succ j => exact (no j b h2).elim
      | succ i => exact (no i b h1).elim
  have up : ∀ {G2 H2 : Hp} {ds1 : List PyData} {as : List Ar}, Ex G G2 → Ab ⟨K, mg, outB G H (some a'), ⟨fun i => if i = 0 then some a' else none, C.L.scr⟩⟩ G2 ((.ref a' :: vs).map some) H2 ((.lnt ds1 :: as).map arSl) → Ab ⟨K, mg, C.B, C.L⟩ G2 σ H2 (putAt ρ k ds1) := fun {G2 H2 ds1 as} e B => by
    obtain ⟨y, y1, c, y2, y3, vs1, m1, m2, m3, m4⟩ := B.sl 0 (.lnt ds1) rfl
    cases y3
    have key : Ab ⟨K, mg, C.B, C.L⟩ G2 σ (upd H2 a' (.lst vs0)) ρ := by
      refine A.grow e (fun b o q => ?_) (fun b o q => ?_) (fun b q => ?_) (fun i b h => ?_)
      · by_cases hb : b = a'
        · subst hb; rw [upd_same, ← l1]; exact q
        · rw [upd_ne hb]
          cases g : G b with
          | none => exact B.exB b o (by show outB G H (some a') b = some o; rw [outB_of g (fun z => hb (Option.some.inj z))]; exact q)
          | some u =>
            rw [A.exG b u g] at q
            cases q
            exact B.exG b o (e b o g)
      · rw [upd_ne (ne_of_none q m3)]; exact B.exG b o q
      · cases z : C.B b with
        | none => rfl
        | some o =>
          have y := eB b o z
          rw [show outB G H (some a') b = none from B.dis b q] at y
          cases y
      · by_cases hb : b = a'
        · subst hb; exact m3
        · cases z : G2 b with
          | none => rfl
          | some u =>
            have y : outB G H (some a') b = none := B.dis b (by rw [z]; intro x; cases x)
            rw [outB_of (A.notG h) (fun z => hb (Option.some.inj z))] at y
            exact absurd y (A.inH h)
    have p := key.put hh m2
    rw [upd_upd] at p
    have e2 : upd H2 a' (.lst vs1) = H2 := by
      funext b
      by_cases hb : b = a'
      · subst hb; rw [upd_same]; exact m1.symm
      · rw [upd_ne hb]
    rw [e2] at p
    exact p
  refine ⟨by rw [List.length_cons, hv.length]; exact hn, _, _, G, .lnt ds0 :: ds.map Ar.dat, A2, ?_⟩
  cases q : f (.lnt ds0 :: ds.map Ar.dat) with
  | bad => rw [q] at w; exact w.elim
  | ex x as =>
    rw [q] at w
    cases as with
    | nil => exact w.elim
    | cons a1 as =>
      cases a1 with
      | dat _ => exact w.elim
      | scr _ => exact w.elim
      | lnt ds1 => exact fun cls da G2 H2 e B hx => w cls da G2 H2 e (up e B) hx
  | ok r as =>
    rw [q] at w
    cases as with
    | nil => exact w.elim
    | cons a1 as =>
      cases a1 with
      | dat _ => exact w.elim
      | scr _ => exact w.elim
      | lnt ds1 =>
        intro v G2 H2 e B hv
        refine w v G2 H2 e (up e B) ?_
        cases r with
        | dat d => exact hv
        | new es =>
          obtain ⟨p, h1, ⟨us, q1, q2, q3, q4⟩, h3⟩ := hv
          have q4 : outB G H (some a') p = none := q4
          have pb : C.B p = none := by
            cases z : C.B p with
            | none => rfl
            | some o => rw [eB p o z] at q4; cases q4
          refine ⟨p, h1, ⟨us, q1, q2, q3, pb⟩, fun i h => ?_⟩
          have h := hold_put hh h
          by_cases hp : p = a'
          · subst hp; exact h3 0 ⟨⟨ds1, .inr rfl⟩, rfl⟩
          · rw [outB_of (A.notG h) (fun z => hp (Option.some.inj z))] at q4
            exact A.inH h q4
/-- .. with the script -/
theorem call_scr (A : Ab ⟨K, mg, C.B, C.L⟩ G σ H ρ) {a : Addr} {ns : List Int} (hk : C.L.scr = some (a, ns)) {vs : List V} {ds : List PyData} (hv : DtA K G vs ds) {n : Nat} {f : Fn} {Q : VK} (hn : ds.length + 1 = n)
    (w : match f (.scr ns :: ds.map Ar.dat) with
      | .ok r _ => ∀ v G' H', Ex G G' → Ab ⟨K, mg, C.B, C.L⟩ G' σ H' ρ → RvOk ⟨K, mg, C.B, C.L⟩ G' σ H' ρ v r → Q v H'
      | .ex x _ => ∀ cls da G' H', Ex G G' → Ab ⟨K, mg, C.B, C.L⟩ G' σ H' ρ → XOk ⟨K, mg, C.B, C.L⟩ G' H' x cls da → E cls da H'
      | .bad => False) : spF K mg n f (.ref a :: vs) H Q E := by
  have eB : Ex C.B (outB G H none) := A.out (l := none) fun a z => by cases z
  have A2 : Ab ⟨K, mg, outB G H none, ⟨fun _ => none, C.L.scr⟩⟩ G ((.ref a :: vs).map some) H ((.scr ns :: ds.map Ar.dat).map arSl) := by
    have oth : ∀ (i : Nat) s, ((Ar.scr ns :: ds.map Ar.dat).map arSl)[i + 1]? = some s → ∃ v d, ((V.ref a :: vs).map some)[i + 1]? = some (some v) ∧ s = .dat d ∧ Dt K G v d := fun i s q => dats_at (C := ⟨K, mg, C.B, C.L⟩) hv i s (by simpa using q)
    refine ⟨A.exG, fun a o e => (outB_some e).2.2, fun a q => outB_still q, fun a ns q => Evl.ex_l eB (A.scr a ns q), by rw [List.length_map, List.length_map, List.length_cons, List.length_cons, List.length_map, hv.length], fun i s q => ?_, fun i j b h1 h2 => ?_⟩
    · cases i with
      | zero => cases q; exact ⟨_, rfl, a, rfl, hk⟩
      | succ i =>
        obtain ⟨v, d, z1, rfl, z2⟩ := oth i s q
        exact ⟨some v, z1, v, rfl, z2⟩
    · have no : ∀ i b, Hold ((Ar.scr ns :: ds.map Ar.dat).map arSl) ((V.ref a :: vs).map some) i b → False := fun i b h => by
        obtain ⟨⟨es, h3⟩, _⟩ := h
        cases i with
        | zero => rcases h3 with h3 | h3 <;> cases h3
        | succ i =>
          rcases h3 with h3 | h3
          all_goals
            obtain ⟨v, d, _, z, _⟩ := oth i _ h3
            cases z
      exact (no i b h1).elim
  have up : ∀ {G2 H2 : Hp} {as : List Ar}, Ex G G2 → Ab ⟨K, mg, outB G H none, ⟨fun _ => none, C.L.scr⟩⟩ G2 ((.ref a :: vs).map some) H2 (as.map arSl) → Ab ⟨K, mg, C.B, C.L⟩ G2 σ H2 ρ := fun {G2 H2 as} e B => by
    refine A.grow e (fun a o q => ?_) B.exG (fun a q => ?_) (fun i a h => ?_)
    · cases g : G a with
      | none => exact B.exB a o (by show outB G H none a = some o; rw [outB_of g (fun z => by cases z)]; exact q)
      | some u =>
        rw [A.exG a u g] at q
        cases q
        exact B.exG a o (e a o g)
    · cases z : C.B a with
      | none => rfl
      | some o =>
        have y := eB a o z
        rw [show outB G H none a = none from B.dis a q] at y
        cases y
    · cases z : G2 a with
      | none => rfl
      | some u =>
        have y : outB G H none a = none := B.dis a (by rw [z]; intro x; cases x)
        rw [outB_of (A.notG h) (fun z => by cases z)] at y
        exact absurd y (A.inH h)
  refine ⟨by rw [List.length_cons, hv.length]; exact hn, _, _, G, .scr ns :: ds.map Ar.dat, A2, ?_⟩
  cases q : f (.scr ns :: ds.map Ar.dat) with
  | bad => rw [q] at w; exact w.elim
  | ex x as =>
    rw [q] at w
    exact fun cls da G2 H2 e B hx => w cls da G2 H2 e (up e B) hx
  | ok r as =>
    rw [q] at w
    intro v G2 H2 e B hv
    refine w v G2 H2 e (up e B) ?_
    cases r with
    | dat d => exact hv
    | new es =>
      obtain ⟨p, h1, ⟨us, q1, q2, q3, q4⟩, h3⟩ := hv
      have q4 : outB G H none p = none := q4
      have pb : C.B p = none := by
        cases z : C.B p with
        | none => rfl
        | some o => rw [eB p o z] at q4; cases q4
      refine ⟨p, h1, ⟨us, q1, q2, q3, pb⟩, fun i h => ?_⟩
      rw [outB_of (A.notG h) (fun z => by cases z)] at q4
      exact A.inH h q4
def frB (ρ : Env) (k : Nat) : Fr → R Rv
  | .ok r (.lnt ds :: _) => .ok r (putAt ρ k ds)
  | .ex x (.lnt ds :: _) => .ex x (putAt ρ k ds)
  | _ => .bad
/-- the first argument is the name in slot k: a list that may be changed, or the script -/
def mCallB (n : Nat) (f : Fn) (k : Nat) (m : M (List PyData)) : M Rv := fun ρ => match ρ[k]? with
  | some (.own _) => mBind m (fun ds ρ1 => if ds.length + 1 = n then match heldAt ρ1 k with
    | some ds0 => frB ρ1 k (f (.lnt ds0 :: ds.map Ar.dat))
    | none => .bad else .bad) ρ
  | some (.lnt _) => mBind m (fun ds ρ1 => if ds.length + 1 = n then match heldAt ρ1 k with
    | some ds0 => frB ρ1 k (f (.lnt ds0 :: ds.map Ar.dat))
    | none => .bad else .bad) ρ
  | some (.scr ns) => mBind m (fun ds ρ1 => if ds.length + 1 = n then frR ρ1 (f (.scr ns :: ds.map Ar.dat)) else .bad) ρ
  | _ => .bad
theorem sx_callB {t : TA} {m : M (List PyData)} {n k : Nat} {f : Fn} (h : SA K mg (liftE E) t m) : SX K mg (liftE E) (tCall (spF K mg n f) [] E (tCons (tVar k) t)) (mCallB n f k m) := fun B L G σ H ρ Q A w => by
  have lent : ∀ {a : Addr}, σ[k]? = some (some (.ref a)) → WR ⟨K, mg, B, L⟩ (liftE E) G σ (fun G' H' ρ' r => ∀ v, RvOk ⟨K, mg, B, L⟩ G' σ H' ρ' v r → Q v H') (mBind m (fun ds ρ1 => if ds.length + 1 = n then match heldAt ρ1 k with
    | some ds0 => frB ρ1 k (f (.lnt ds0 :: ds.map Ar.dat))
    | none => .bad else .bad) ρ) → tCall (spF K mg n f) [] E (tCons (tVar k) t) σ H Q := fun {a} ha w => by
    refine ⟨.ref a, ha, ?_⟩
    refine h B L G σ H ρ _ A ((WR.bind w).mono fun G1 H1 ρ1 ds e1 A1 k1 vs hv => ?_)
    show spF K mg n f ((V.ref a :: vs) ++ []) H1 Q E
    rw [List.append_nil]
    dsimp only at k1
    by_cases hn : ds.length + 1 = n
    · rw [if_pos hn] at k1
      cases hk : heldAt ρ1 k with
      | none => rw [hk] at k1; exact k1.elim
      | some ds0 =>
        rw [hk] at k1
        dsimp only at k1
        refine call_lent (C := ⟨K, mg, B, L⟩) A1 hk ha hv hn ?_
        cases q : f (.lnt ds0 :: ds.map Ar.dat) with
        | bad => rw [q] at k1; exact k1.elim
        | ex x as =>
          rw [q] at k1
          cases as with
          | nil => exact k1.elim
          | cons a1 as =>
            cases a1 with
            | dat _ => exact k1.elim
            | scr _ => exact k1.elim
            | lnt ds1 => exact fun cls da G' H' e A' hx => k1 G' H' cls da e A' hx
        | ok r as =>
          rw [q] at k1
          cases as with
          | nil => exact k1.elim
          | cons a1 as =>
            cases a1 with
            | dat _ => exact k1.elim
            | scr _ => exact k1.elim
            | lnt ds1 => exact fun v G' H' e A' hv => k1 G' H' e A' v hv
    · rw [if_neg hn] at k1; exact k1.elim
  unfold mCallB at w
  split at w
  · rename_i ds e
    obtain ⟨x, h1, a, rfl, _⟩ := A.sl k _ e
    exact lent h1 w
  · rename_i ds e
    obtain ⟨x, h1, a, rfl, _⟩ := A.sl k _ e
    exact lent h1 w
  · rename_i ns e
    obtain ⟨x, h1, a, rfl, h2⟩ := A.sl k _ e
    refine ⟨.ref a, h1, ?_⟩
    refine h B L G σ H ρ _ A ((WR.bind w).mono fun G1 H1 ρ1 ds e1 A1 k1 vs hv => ?_)
    show spF K mg n f ((V.ref a :: vs) ++ []) H1 Q E
    rw [List.append_nil]
    dsimp only at k1
    by_cases hn : ds.length + 1 = n
    · rw [if_pos hn] at k1
      refine call_scr (C := ⟨K, mg, B, L⟩) A1 h2 hv hn ?_
      cases q : f (.scr ns :: ds.map Ar.dat) with
      | bad => rw [q] at k1; exact k1.elim
      | ex x as => rw [q] at k1; exact fun cls da G' H' e A' hx => k1 G' H' cls da e A' hx
      | ok r as => rw [q] at k1; exact fun v G' H' e A' hv => k1 G' H' e A' v hv
    · rw [if_neg hn] at k1; exact k1.elim
  · exact w.elim
end

/-! ### reading a held list, the script -/
section
variable {K : PySem.W.Frag} {mg : Str → Option Value} {E : XW} {G G' H H' : Hp} {σ σ' : L2.St} {ρ ρ' : Env}
/-- x[i] -/
def ixD : PyData → PyData → Option Rv
  | .list ds, .int i => (atI ds i).map Rv.dat
  | .tuple ds, .int i => (atI ds i).map Rv.dat
  | .str x, .int i => if small x.length = true then (atI x.cps.toList i).map fun c => Rv.dat (.str ⟨#[c]⟩) else none
  | _, _ => none
theorem DtA.at {vs : List V} {ds : List PyData} (h : DtA K G vs ds) {i : Int} {d : PyData} (q : atI ds i = some d) : ∃ v, atI vs i = some v ∧ Dt K G v d := by
  unfold atI at q ⊢
  rw [h.length]
  cases z : ixN ds.length i with
  | none => rw [z] at q; cases q
  | some j =>
    rw [z] at q
    exact h.get' q
theorem ops_ix : OpS K (rIx K) ixD := fun mg B L G σ H ρ x y d e z Q A hx hy hz k => by
  unfold ixD at hz
  split at hz
  · rename_i ds i
    cases q : atI ds i with
    | none => rw [q] at hz; cases hz
    | some d =>
      rw [q] at hz; cases hz
      obtain ⟨a, xs, rfl, h1, h2⟩ := hx.lst_inv
      obtain ⟨v, h3, h4⟩ := h2.at q
      exact .inl ⟨a, xs, i, v, rfl, hy.int_inv, SqL.of (A.exG _ _ h1), h3, k _ G H (Ex.refl G) A h4⟩
  · rename_i ds i
    cases q : atI ds i with
    | none => rw [q] at hz; cases hz
    | some d =>
      rw [q] at hz; cases hz
      obtain ⟨a, xs, rfl, h1, h2⟩ := hx.tup_inv
      obtain ⟨v, h3, h4⟩ := h2.at q
      exact .inr (.inl ⟨a, xs, i, v, rfl, hy.int_inv, Evl.ex_t A.exG h1, h3, k _ G H (Ex.refl G) A h4⟩)
  · rename_i x i
    by_cases zs : small x.length = true
    · rw [if_pos zs] at hz
      cases q : atI x.cps.toList i with
      | none => rw [q] at hz; cases hz
      | some c =>
        rw [q] at hz; cases hz
        exact .inr (.inr ⟨x, i, c, hx.str_inv, hy.int_inv, small_le zs, q, k _ G H (Ex.refl G) A (.str _)⟩)
    · rw [if_neg zs] at hz; cases hz
  · cases hz
/-- what a name reads as, looked at alone -/
def peek (ρ : Env) (k : Nat) : Option (List PyData) := match ρ[k]? with
  | some (.own ds) => some ds
  | some (.lnt ds) => some ds
  | some (.scr ns) => some (ns.map PyData.int)
  | _ => none
theorem Ab.peek {C : Cn} (A : Ab C G σ H ρ) {k : Nat} {ds : List PyData} (h : peek ρ k = some ds) : ∃ a vs, σ[k]? = some (some (.ref a)) ∧ SqL C.K H a vs ∧ DtA C.K G vs ds := by
  unfold Hue.peek at h
  split at h
  · rename_i es e
    cases h
    obtain ⟨x, h1, a, rfl, vs, q1, q2, _⟩ := A.sl k _ e
    exact ⟨a, vs, h1, SqL.of q1, q2⟩
  · rename_i es e
    cases h
    obtain ⟨x, h1, a, rfl, _, vs, q1, q2, _⟩ := A.sl k _ e
    exact ⟨a, vs, h1, SqL.of q1, q2⟩
  · rename_i ns e
    cases h
    obtain ⟨x, h1, a, rfl, q⟩ := A.sl k _ e
    exact ⟨a, ns.map V.int, h1, Evl.ex_l A.exB (A.scr a ns q), DtA.ofInts ns⟩
  · cases h
/-- xs[i], xs a name: a held list is looked at, nothing else -/
def mIxN (k : Nat) (mi : M PyData) : M Rv := fun ρ => match ρ[k]? with
  | some (.dat _) => mOp ixD (mVar k) mi ρ
  | some .un => .bad
  | none => .bad
  | _ => mBind mi (fun i ρ1 => match peek ρ1 k, i with
    | some ds, .int j => mOpt ((atI ds j).map Rv.dat) ρ1
    | _, _ => .bad) ρ
theorem sx_ixN {ti : TE} {mi : M PyData} {k : Nat} (h : SE K mg E ti mi) : SX K mg E (tOp (rIx K) (tVar k) ti) (mIxN k mi) := fun B L G σ H ρ Q A w => by
  have held : ∀ {a : Addr}, σ[k]? = some (some (.ref a)) → WR ⟨K, mg, B, L⟩ E G σ (fun G' H' ρ' r => ∀ v, RvOk ⟨K, mg, B, L⟩ G' σ H' ρ' v r → Q v H') (mBind mi (fun i ρ1 => match peek ρ1 k, i with
    | some ds, .int j => mOpt ((atI ds j).map Rv.dat) ρ1
    | _, _ => .bad) ρ) → tOp (rIx K) (tVar k) ti σ H Q := fun {a} ha w => by
    refine ⟨.ref a, ha, ?_⟩
    refine h B L G σ H ρ _ A ((WR.bind w).mono fun G1 H1 ρ1 d e1 A1 k1 y hy => ?_)
    dsimp only at k1
    split at k1
    · rename_i ds j q
      obtain ⟨r, q2, k2⟩ := WR.opt k1
      cases z : atI ds j with
      | none => rw [z] at q2; cases q2
      | some d =>
        rw [z] at q2; cases q2
        obtain ⟨b, vs, z1, z2, z3⟩ := A1.peek q
        rw [ha] at z1
        cases z1
        obtain ⟨v, z4, z5⟩ := z3.at z
        exact .inl ⟨a, vs, j, v, rfl, hy.int_inv, z2, z4, k2.here A1 v z5⟩
    · exact k1.elim
  unfold mIxN at w
  split at w
  · exact sx_op ops_ix se_var h B L G σ H ρ Q A w
  · exact w.elim
  · exact w.elim
  · rename_i n1 n2 n3
    cases q : ρ[k]? with
    | none => exact absurd q n3
    | some s =>
      obtain ⟨x, h1, h2⟩ := A.sl k s q
      cases s with
      | un => exact absurd q n2
      | dat d => exact absurd q (n1 d)
      | own ds => obtain ⟨a, rfl, _⟩ := h2; exact held h1 w
      | lnt ds => obtain ⟨a, rfl, _⟩ := h2; exact held h1 w
      | scr ds => obtain ⟨a, rfl, _⟩ := h2; exact held h1 w
end
end Hue
-- Hue5
namespace Hue
open PySem PySem.Spec PyProof.Rows L2
open Evl (Ex)

section
variable {K : PySem.W.Frag} {mg : Str → Option Value} {E : XW} {G G' H H' : Hp} {σ σ' : L2.St} {ρ ρ' : Env}
/-! ### + -/
def fCatT : PyData → PyData → Option Rv
  | .tuple i, .tuple j => if small (i.length + j.length) = true then some (.dat (.tuple (i ++ j))) else none
  | _, _ => none
theorem ops_catT : OpS K (rCatA K) fCatT := fun mg B L G σ H ρ x y d e z Q A hx hy hz k => by
  unfold fCatT at hz
  split at hz
  · rename_i i j
    by_cases q : small (i.length + j.length) = true
    · rw [if_pos q] at hz
      cases hz
      obtain ⟨a, xs, rfl, h1, h2⟩ := hx.tup_inv
      obtain ⟨b, ys, rfl, h3, h4⟩ := hy.tup_inv
      refine ⟨a, b, xs, ys, rfl, rfl, Evl.ex_t A.exG h1, Evl.ex_t A.exG h3, by rw [h2.length, h4.length]; exact small_le q, ?_⟩
      refine ⟨fun e => ?_, fun e1 e => ?_, fun e1 e2 p hp => ?_⟩
      · subst e
        cases h2
        exact k _ G H (Ex.refl G) A (.tup h3 h4)
      · subst e
        cases h4
        refine k _ G H (Ex.refl G) A ?_
        rw [List.append_nil]
        exact .tup h1 h2
      · have T := A.tup hp (h2.append h4)
        exact k _ _ _ T.1 T.2.1 T.2.2
    · rw [if_neg q] at hz; cases hz
  · cases hz
def fAddI : PyData → PyData → Option Rv := fI (fun _ _ => true) fun i j => .int (i + j)
def rAdd (K : PySem.W.Frag) : R2 := rOr (rI0 fun i j => .int (i + j)) (rOr rAddS (rOr (rCatA K) rCat))
theorem op_addA {X : Cx} : OpR X (binaryOp .Add) (rAdd X.K) := op_two op_add (op_two op_addS (op_two op_catA op_cat))
def fAdd : PyData → PyData → Option Rv := fun d e => (fAddI d e).or ((fAddS d e).or ((fCatT d e).or (fCat d e)))
theorem ops_add : OpS K (rAdd K) fAdd := ops_two (ops_I0 fun i j G => .int _) (ops_two ops_addS (ops_two ops_catT ops_cat))
/-! ### -, *, %, //, ** -/
def fSub : PyData → PyData → Option Rv := fI (fun _ _ => true) fun i j => .int (i - j)
theorem ops_sub : OpS K (rI0 fun i j => .int (i - j)) fSub := ops_I0 fun i j G => .int _
def cMul (i j : Int) : Bool := decide (i.natAbs.log2 + j.natAbs.log2 < 1000000)
def fMul : PyData → PyData → Option Rv := fI cMul fun i j => .int (i * j)
theorem ops_mul : OpS K (rI CMulW fun i j => .int (i * j)) fMul := ops_I (fun i j h => (show i.natAbs.log2 + j.natAbs.log2 < 1000000 from of_decide_eq_true h)) fun i j G => .int _
def cPos (_ j : Int) : Bool := decide (0 < j)
def fMod : PyData → PyData → Option Rv := fI cPos fun i j => .int (i % j)
theorem ops_mod : OpS K (rI (fun _ j => 0 < j) fun i j => .int (i % j)) fMod := ops_I (fun i j h => of_decide_eq_true h) fun i j G => .int _
def cDiv (_ j : Int) : Bool := decide (0 < j) && decide (j.natAbs.log2 < 9000)
theorem cDiv_of {i j : Int} (h : cDiv i j = true) : CDivW i j := by
  unfold cDiv at h
  rw [Bool.and_eq_true] at h
  exact ⟨of_decide_eq_true h.1, of_decide_eq_true h.2⟩
def fDiv : PyData → PyData → Option Rv := fI cDiv fun i j => .int (i / j)
theorem ops_div : OpS K (rI CDivW fun i j => .int (i / j)) fDiv := ops_I (fun i j h => cDiv_of h) fun i j G => .int _
def cPow (i j : Int) : Bool := decide (0 ≤ j) && decide (j ≤ 1000000) && decide (i.natAbs < 2 ^ 64)
def fPow : PyData → PyData → Option Rv := fI cPow fun i j => .int (i ^ j.toNat)
theorem ops_pow : OpS K (rI CPow fun i j => .int (i ^ j.toNat)) fPow := ops_I (fun i j h => by
  unfold cPow at h
  rw [Bool.and_eq_true, Bool.and_eq_true] at h
  exact ⟨of_decide_eq_true h.1.1, of_decide_eq_true h.1.2, of_decide_eq_true h.2⟩) fun i j G => .int _
/-! ### comparisons -/
mutual
theorem Dt.dp (e : Ex G H) : ∀ {v : V} {d : PyData}, Dt K G v d → d.canLay0 = true → Dp K H v d
  | _, _, .non, _ => .non
  | _, _, .bl b, _ => .bl b
  | _, _, .int i, _ => .int i
  | _, _, .str x, _ => .str x
  | _, _, .lst h1 h2, c => .lst (SqL.of (e _ _ h1)) (DtA.dp e h2 (by simpa [PyData.canLay0] using c))
  | _, _, .tup h1 h2, c => .tup (Evl.ex_t e h1) (DtA.dp e h2 (by simpa [PyData.canLay0] using c))
  | _, _, .dct h1 h2, c => by simp [PyData.canLay0] at c
theorem DtA.dp (e : Ex G H) : ∀ {vs : List V} {ds : List PyData}, DtA K G vs ds → PyData.canLayAll0 ds = true → DpAll K H vs ds
  | _, _, .nil, _ => .nil
  | _, _, .cons h1 h2, c => by
    rw [PyData.canLayAll0, Bool.and_eq_true] at c
    exact .cons (Dt.dp e h1 c.1) (DtA.dp e h2 c.2)
end
def shp (d : PyData) : Bool := SeqAt.shaped d
def fEq : PyData → PyData → Option Rv := fun d e => if (shp d && shp e) = true then some (.dat (.bool (PyData.eqv d e))) else none
def fNe : PyData → PyData → Option Rv := fun d e => if (shp d && shp e) = true then some (.dat (.bool (!PyData.eqv d e))) else none
theorem ops_eq : OpS K (rEqD K) fEq := fun mg B L G σ H ρ x y d e z Q A hx hy hz k => by
  unfold fEq at hz
  by_cases q : (shp d && shp e) = true
  · rw [if_pos q] at hz
    cases hz
    rw [Bool.and_eq_true] at q
    exact ⟨d, e, hx.dp A.exG (SeqAt.canLay_of_shaped q.1), hy.dp A.exG (SeqAt.canLay_of_shaped q.2), q.1, q.2, k _ G H (Ex.refl G) A (.bl _)⟩
  · rw [if_neg q] at hz; cases hz
theorem ops_ne : OpS K (rNeD K) fNe := fun mg B L G σ H ρ x y d e z Q A hx hy hz k => by
  unfold fNe at hz
  by_cases q : (shp d && shp e) = true
  · rw [if_pos q] at hz
    cases hz
    rw [Bool.and_eq_true] at q
    exact ⟨d, e, hx.dp A.exG (SeqAt.canLay_of_shaped q.1), hy.dp A.exG (SeqAt.canLay_of_shaped q.2), q.1, q.2, k _ G H (Ex.refl G) A (.bl _)⟩
  · rw [if_neg q] at hz; cases hz
/-- tuples of ints -/
def intsD : List PyData → Option (List Int)
  | [] => some []
  | .int i :: r => (intsD r).map (i :: ·)
  | _ => none
theorem intsD_inv : ∀ {ds : List PyData} {ns : List Int}, intsD ds = some ns → ds = ns.map PyData.int
  | [], ns, h => by cases h; rfl
  | .int i :: r, ns, h => by
    have h : (intsD r).map (i :: ·) = some ns := h
    cases q : intsD r with
    | none => rw [q] at h; cases h
    | some m => rw [q] at h; cases h; rw [intsD_inv q]; rfl
  | .none :: _, _, h => nomatch h
  | .bool _ :: _, _, h => nomatch h
  | .str _ :: _, _, h => nomatch h
  | .list _ :: _, _, h => nomatch h
  | .tuple _ :: _, _, h => nomatch h
  | .dict _ :: _, _, h => nomatch h
theorem intsD_map (ns : List Int) : intsD (ns.map PyData.int) = some ns := by
  induction ns with
  | nil => rfl
  | cons n r ih => show (intsD (r.map PyData.int)).map (n :: ·) = _; rw [ih]; rfl
theorem Dt.intsT {v : V} {ds : List PyData} {ns : List Int} (h : Dt K G v (.tuple ds)) (q : intsD ds = some ns) : ∃ a, v = .ref a ∧ SqT K G a (ns.map V.int) := by
  obtain ⟨a, xs, rfl, h1, h2⟩ := h.tup_inv
  rw [intsD_inv q] at h2
  rw [h2.ints] at h1
  exact ⟨a, rfl, h1⟩
def fLtI : PyData → PyData → Option Rv := fI (fun _ _ => true) fun i j => .bool (decide (i < j))
def fLtT : PyData → PyData → Option Rv
  | .tuple ds, .tuple es => match intsD ds, intsD es with
    | some ns, some ms => some (.dat (.bool (HT.lexLt ns ms)))
    | _, _ => none
  | _, _ => none
theorem ops_ltT : OpS K (rLtT K) fLtT := fun mg B L G σ H ρ x y d e z Q A hx hy hz k => by
  unfold fLtT at hz
  split at hz
  · split at hz
    · rename_i q1 q2
      cases hz
      obtain ⟨a, rfl, h1⟩ := hx.intsT q1
      obtain ⟨b, rfl, h2⟩ := hy.intsT q2
      exact ⟨a, b, _, _, rfl, rfl, Evl.ex_t A.exG h1, Evl.ex_t A.exG h2, k _ G H (Ex.refl G) A (.bl _)⟩
    · cases hz
  · cases hz
def fLt : PyData → PyData → Option Rv := fun d e => (fLtI d e).or (fLtT d e)
def rLt (K : PySem.W.Frag) : R2 := rOr (rI0 fun i j => .bl (decide (i < j))) (rLtT K)
theorem op_ltA {X : Cx} (hu : X.A.units < cLine) : OpR X (compareOp .Lt) (rLt X.K) := op_two op_lt (op_ltT hu)
theorem ops_lt : OpS K (rLt K) fLt := ops_two (ops_I0 fun i j G => .bl _) ops_ltT
theorem lexAt_shift (e r : Nat → Bool) (z : Bool) : ∀ (k i : Nat), Ob.lexAt (fun j => e (j + 1)) (fun j => r (j + 1)) z i k = Ob.lexAt e r z (i + 1) k
  | 0, _ => rfl
  | k + 1, i => by
    rw [Ob.lexAt_succ, Ob.lexAt_succ, lexAt_shift e r z k (i + 1)]
theorem lexAt_le : ∀ (ns ms : List Int), Ob.lexAt (fun j => decide (ns.getD j 0 = ms.getD j 0)) (fun j => decide (ns.getD j 0 ≤ ms.getD j 0)) (decide (ns.length ≤ ms.length)) 0 (min ns.length ms.length) = !HT.lexLt ms ns
  | [], ms => by
    rw [show min ([] : List Int).length ms.length = 0 from Nat.zero_min _]
    cases ms <;> rfl
  | n :: ns, [] => by
    rw [show min (n :: ns).length ([] : List Int).length = 0 from Nat.min_zero _]
    rfl
  | x :: xs, y :: ys => by
    have ih := lexAt_le xs ys
    rw [show min (x :: xs).length (y :: ys).length = min xs.length ys.length + 1 by rw [List.length_cons, List.length_cons, Nat.succ_min_succ], Ob.lexAt_succ, ← lexAt_shift]
    rw [HT.lexLt_cons]
    rw [show decide ((x :: xs).length ≤ (y :: ys).length) = decide (xs.length ≤ ys.length) by rw [List.length_cons, List.length_cons]; simp]
    have e1 : (fun j => decide ((x :: xs).getD (j + 1) 0 = (y :: ys).getD (j + 1) 0)) = fun j => decide (xs.getD j 0 = ys.getD j 0) := rfl
    have e2 : (fun j => decide ((x :: xs).getD (j + 1) 0 ≤ (y :: ys).getD (j + 1) 0)) = fun j => decide (xs.getD j 0 ≤ ys.getD j 0) := rfl
    rw [e1, e2, ih]
    show (if decide (x = y) = true then _ else decide (x ≤ y)) = _
    by_cases h : x = y
    · rw [if_pos (decide_eq_true h), if_pos h.symm]
    · rw [if_neg (fun z => h (of_decide_eq_true z)), if_neg (fun z => h z.symm)]
      by_cases g : y < x
      · rw [decide_eq_true g, decide_eq_false (by omega)]; rfl
      · rw [decide_eq_false g, decide_eq_true (by omega)]; rfl
def fLeI : PyData → PyData → Option Rv := fI (fun _ _ => true) fun i j => .bool (decide (i ≤ j))
def fLeT : PyData → PyData → Option Rv
  | .tuple ds, .tuple es => match intsD ds, intsD es with
    | some ns, some ms => some (.dat (.bool (!HT.lexLt ms ns)))
    | _, _ => none
  | _, _ => none
theorem ops_leT : OpS K (rLeT K) fLeT := fun mg B L G σ H ρ x y d e z Q A hx hy hz k => by
  unfold fLeT at hz
  split at hz
  · split at hz
    · rename_i q1 q2
      cases hz
      obtain ⟨a, rfl, h1⟩ := hx.intsT q1
      obtain ⟨b, rfl, h2⟩ := hy.intsT q2
      refine ⟨a, b, _, _, rfl, rfl, Evl.ex_t A.exG h1, Evl.ex_t A.exG h2, ?_⟩
      refine k _ G H (Ex.refl G) A ?_
      rw [lexAt_le]
      exact .bl _
    · cases hz
  · cases hz
def fLe : PyData → PyData → Option Rv := fun d e => (fLeI d e).or (fLeT d e)
def rLe (K : PySem.W.Frag) : R2 := rOr (rI0 fun i j => .bl (decide (i ≤ j))) (rLeT K)
theorem op_leA {X : Cx} (hu : X.A.units < cLine) : OpR X (compareOp .LtE) (rLe X.K) := op_two op_le (op_leT hu)
theorem ops_le : OpS K (rLe K) fLe := ops_two (ops_I0 fun i j G => .bl _) ops_leT
def fGt : PyData → PyData → Option Rv := fI (fun _ _ => true) fun i j => .bool (decide (j < i))
theorem ops_gt : OpS K (rI0 fun i j => .bl (decide (j < i))) fGt := ops_I0 fun i j G => .bl _
def fGe : PyData → PyData → Option Rv := fI (fun _ _ => true) fun i j => .bool (decide (j ≤ i))
theorem ops_ge : OpS K (rI0 fun i j => .bl (decide (j ≤ i))) fGe := ops_I0 fun i j G => .bl _
/-! ### built-in functions -/
def lenD : List PyData → Option Rv
  | [.list ds] => some (.dat (.int ds.length))
  | [.tuple ds] => some (.dat (.int ds.length))
  | [.str x] => if small x.length = true then some (.dat (.int x.length)) else none
  | _ => none
def rLenS : List V → Hp → VK → Prop := fun xs H Q => ∃ z, xs = [.str z] ∧ z.length ≤ sizeLine ∧ Q (.int z.length) H
def rLenA (K : PySem.W.Frag) : List V → Hp → VK → Prop := cOr (fun xs H Q => ∃ p ys, xs = [.ref p] ∧ (SqL K H p ys ∨ SqT K H p ys) ∧ Q (.int ys.length) H) rLenS
theorem call_lenA {X : Cx} : CallR X (.builtin "len") (rLenA X.K) := call_two call_len_seq call_len_str
theorem cas_len : CaS K (rLenA K) lenD := fun mg B L G σ H ρ vs ds z Q A hv hz k => by
  unfold lenD at hz
  split at hz
  · cases hz
    obtain ⟨v, rfl, h1⟩ := hv.one
    obtain ⟨a, xs, rfl, h2, h3⟩ := h1.lst_inv
    refine .inl ⟨a, xs, rfl, .inl (SqL.of (A.exG _ _ h2)), k _ G H (Ex.refl G) A ?_⟩
    rw [h3.length]
    exact .int _
  · cases hz
    obtain ⟨v, rfl, h1⟩ := hv.one
    obtain ⟨a, xs, rfl, h2, h3⟩ := h1.tup_inv
    refine .inl ⟨a, xs, rfl, .inr (Evl.ex_t A.exG h2), k _ G H (Ex.refl G) A ?_⟩
    rw [h3.length]
    exact .int _
  · rename_i x
    by_cases q : small x.length = true
    · rw [if_pos q] at hz; cases hz
      obtain ⟨v, rfl, h1⟩ := hv.one
      exact .inr ⟨x, by rw [h1.str_inv], small_le q, k _ G H (Ex.refl G) A (.int _)⟩
    · rw [if_neg q] at hz; cases hz
  · cases hz
/-- len(x), x a name -/
def mLenN (k : Nat) : M Rv := fun ρ => match peek ρ k with
  | some ds => .ok (.dat (.int ds.length)) ρ
  | none => mCb lenD (mCons (mVar k) mNil) ρ
theorem sx_lenN {k : Nat} : SX K mg E (tCB (rLenA K) (tCons (tVar k) tNil)) (mLenN k) := fun B L G σ H ρ Q A w => by
  unfold mLenN at w
  split at w
  · rename_i ds q
    obtain ⟨a, vs, z1, z2, z3⟩ := A.peek q
    refine ⟨.ref a, z1, .inl ⟨a, vs, rfl, .inl z2, w.here A _ ?_⟩⟩
    show Dt K G (.int (vs.length : Int)) (.int (ds.length : Int))
    rw [z3.length]
    exact .int _
  · exact sx_cb cas_len (sa_cons se_var sa_nil) B L G σ H ρ Q A w
def boolsD : List PyData → Option (List Bool)
  | [] => some []
  | .bool i :: r => (boolsD r).map (i :: ·)
  | _ => none
theorem boolsD_inv : ∀ {ds : List PyData} {ns : List Bool}, boolsD ds = some ns → ds = ns.map PyData.bool
  | [], ns, h => by cases h; rfl
  | .bool i :: r, ns, h => by
    have h : (boolsD r).map (i :: ·) = some ns := h
    cases q : boolsD r with
    | none => rw [q] at h; cases h
    | some m => rw [q] at h; cases h; rw [boolsD_inv q]; rfl
  | .none :: _, _, h => nomatch h
  | .int _ :: _, _, h => nomatch h
  | .str _ :: _, _, h => nomatch h
  | .list _ :: _, _, h => nomatch h
  | .tuple _ :: _, _, h => nomatch h
  | .dict _ :: _, _, h => nomatch h
def allD : List PyData → Option Rv
  | [.list ds] => (boolsD ds).map fun bs => .dat (.bool (bs.all id))
  | _ => none
theorem cas_all : CaS K (rAll K) allD := fun mg B L G σ H ρ vs ds z Q A hv hz k => by
  unfold allD at hz
  split at hz
  · rename_i es
    cases q : boolsD es with
    | none => rw [q] at hz; cases hz
    | some bs =>
      rw [q] at hz; cases hz
      obtain ⟨v, rfl, h1⟩ := hv.one
      obtain ⟨a, xs, rfl, h2, h3⟩ := h1.lst_inv
      rw [boolsD_inv q] at h3
      rw [h3.bools] at h2
      exact ⟨a, bs, rfl, SqL.of (A.exG _ _ h2), k _ G H (Ex.refl G) A (.bl _)⟩
  · cases hz
def tupD : List PyData → Option Rv
  | [.list ds] => some (.dat (.tuple ds))
  | [.tuple ds] => some (.dat (.tuple ds))
  | _ => none
theorem cas_tup : CaS K (fun xs H Q => ∃ p ys, xs = [.ref p] ∧ ((SqL K H p ys ∧ ∀ l, H l = none → Q (.ref l) (upd H l (.tup ys))) ∨ (SqT K H p ys ∧ Q (.ref p) H))) tupD := fun mg B L G σ H ρ vs ds z Q A hv hz k => by
  unfold tupD at hz
  split at hz
  · cases hz
    obtain ⟨v, rfl, h1⟩ := hv.one
    obtain ⟨a, xs, rfl, h2, h3⟩ := h1.lst_inv
    refine ⟨a, xs, rfl, .inl ⟨SqL.of (A.exG _ _ h2), fun p hp => ?_⟩⟩
    have T := A.tup hp h3
    exact k _ _ _ T.1 T.2.1 T.2.2
  · cases hz
    obtain ⟨v, rfl, h1⟩ := hv.one
    obtain ⟨a, xs, rfl, h2, h3⟩ := h1.tup_inv
    exact ⟨a, xs, rfl, .inr ⟨Evl.ex_t A.exG h2, k _ G H (Ex.refl G) A (.tup h2 h3)⟩⟩
  · cases hz
def listD : List PyData → Option Rv
  | [.list ds] => some (.new ds)
  | [.tuple ds] => some (.new ds)
  | _ => none
theorem cas_list : CaS K (fun xs H Q => ∃ p ys, xs = [.ref p] ∧ (SqL K H p ys ∨ SqT K H p ys) ∧ ∀ l, H l = none → Q (.ref l) (upd H l (.lst ys))) listD := fun mg B L G σ H ρ vs ds z Q A hv hz k => by
  unfold listD at hz
  split at hz
  · cases hz
    obtain ⟨v, rfl, h1⟩ := hv.one
    obtain ⟨a, xs, rfl, h2, h3⟩ := h1.lst_inv
    refine ⟨a, xs, rfl, .inl (SqL.of (A.exG _ _ h2)), fun p hp => ?_⟩
    have T := A.fresh hp h3
    exact k _ _ _ (Ex.refl G) T.1 T.2
  · cases hz
    obtain ⟨v, rfl, h1⟩ := hv.one
    obtain ⟨a, xs, rfl, h2, h3⟩ := h1.tup_inv
    refine ⟨a, xs, rfl, .inr (Evl.ex_t A.exG h2), fun p hp => ?_⟩
    have T := A.fresh hp h3
    exact k _ _ _ (Ex.refl G) T.1 T.2
  · cases hz
def absD : List PyData → Option Rv
  | [.int i] => some (.dat (.int (if i < 0 then -i else i)))
  | _ => none
theorem cas_abs : CaS K (fun xs H Q => ∃ i, xs = [.int i] ∧ Q (.int (if i < 0 then -i else i)) H) absD := fun mg B L G σ H ρ vs ds z Q A hv hz k => by
  unfold absD at hz
  split at hz
  · rename_i i
    cases hz
    obtain ⟨v, rfl, h1⟩ := hv.one
    exact ⟨i, by rw [h1.int_inv], k _ G H (Ex.refl G) A (.int _)⟩
  · cases hz
def maxD : List PyData → Option Rv
  | [.int i, .int j] => some (.dat (.int (if j > i then j else i)))
  | _ => none
theorem cas_max : CaS K (fun xs H Q => ∃ i j, xs = [.int i, .int j] ∧ Q (.int (if j > i then j else i)) H) maxD := fun mg B L G σ H ρ vs ds z Q A hv hz k => by
  unfold maxD at hz
  split at hz
  · rename_i i j
    cases hz
    obtain ⟨v, u, rfl, h1, h2⟩ := hv.two
    exact ⟨i, j, by rw [h1.int_inv, h2.int_inv], k _ G H (Ex.refl G) A (.int _)⟩
  · cases hz
def minD : List PyData → Option Rv
  | [.int i, .int j] => some (.dat (.int (if j < i then j else i)))
  | _ => none
theorem cas_min : CaS K (fun xs H Q => ∃ i j, xs = [.int i, .int j] ∧ Q (.int (if j < i then j else i)) H) minD := fun mg B L G σ H ρ vs ds z Q A hv hz k => by
  unfold minD at hz
  split at hz
  · rename_i i j
    cases hz
    obtain ⟨v, u, rfl, h1, h2⟩ := hv.two
    exact ⟨i, j, by rw [h1.int_inv, h2.int_inv], k _ G H (Ex.refl G) A (.int _)⟩
  · cases hz
def dmD : List PyData → Option Rv
  | [.int i, .int j] => if (decide (0 < j) && decide (j.natAbs.log2 < 9000)) = true then some (.dat (.tuple [.int (i / j), .int (i % j)])) else none
  | _ => none
theorem cas_dm : CaS K (fun xs H Q => ∃ i j, xs = [.int i, .int j] ∧ CDivP i j ∧ ∀ p, H p = none → Q (.ref p) (upd H p (.tup [.int (i / j), .int (i % j)]))) dmD := fun mg B L G σ H ρ vs ds z Q A hv hz k => by
  unfold dmD at hz
  split at hz
  · rename_i i j
    by_cases q : (decide (0 < j) && decide (j.natAbs.log2 < 9000)) = true
    · rw [if_pos q] at hz; cases hz
      obtain ⟨v, u, rfl, h1, h2⟩ := hv.two
      rw [Bool.and_eq_true] at q
      refine ⟨i, j, by rw [h1.int_inv, h2.int_inv], ⟨of_decide_eq_true q.1, PyProof.noPylong_of_log2 (of_decide_eq_true q.2)⟩, fun p hp => ?_⟩
      have T := A.tup hp (DtA.cons (.int (i / j)) (.cons (.int (i % j)) .nil))
      exact k _ _ _ T.1 T.2.1 T.2.2
    · rw [if_neg q] at hz; cases hz
  · cases hz
/-! ### isinstance -/
def tyN : PyData → String
  | .none => "NoneType"
  | .bool _ => "bool"
  | .int _ => "int"
  | .str _ => "str"
  | .list _ => "list"
  | .tuple _ => "tuple"
  | .dict _ => "dict"
theorem Dt.ty {v : V} {d : PyData} (e : Ex G H) (h : Dt K G v d) : TyX K H v (.type (tyN d)) := by
  cases h with
  | non => exact .base .non
  | bl b => exact .base (.bl b)
  | int i => exact .base (.int i)
  | str x => exact .base (.str x)
  | lst h1 h2 => exact .base (.lst (e _ _ h1))
  | tup h1 h2 =>
    rcases h1 with (h1 | ⟨o, h1⟩) | ⟨o, its, n, h1, h3, _⟩
    · exact .base (.tup (e _ _ h1))
    · exact .fTuple (e _ _ h1)
    · exact .kTuple h1 h3
  | dct h1 h2 =>
    rcases h1 with h1 | ⟨o, h1⟩
    · exact .base (.dK (e _ _ h1))
    · exact .fDict (e _ _ h1)
/-- is d of the built-in class n -/
def isiD (n : String) (d : PyData) : Bool := match n, d with
  | "int", .int _ => true
  | "int", .bool _ => true
  | "bool", .bool _ => true
  | "tuple", .tuple _ => true
  | "list", .list _ => true
  | "str", .str _ => true
  | "dict", .dict _ => true
  | _, _ => false
def isiOk (n : String) : Bool := n == "int" || n == "bool" || n == "tuple" || n == "str" || n == "list" || n == "dict"
theorem isi_kit {n : String} (h : isiOk n = true) (d : PyData) : kitB (tyN d) n = some (isiD n d) := by
  have hn : n = "int" ∨ n = "bool" ∨ n = "tuple" ∨ n = "str" ∨ n = "list" ∨ n = "dict" := by
    simpa [isiOk, or_assoc] using h
  rcases hn with rfl | rfl | rfl | rfl | rfl | rfl <;> cases d <;> first | rfl | decide +kernel
def mIsi (n : String) (m : M PyData) : M Rv := mMap (fun d => Rv.dat (.bool (isiD n d))) m
theorem sx_isi {t : TE} {m : M PyData} {n : String} (hn : isiOk n = true) (h : SE K mg E t m) : SX K mg E (tCB (rIsi K) (tCons t (tCons (tC (.ty n)) tNil))) (mIsi n m) := fun B L G σ H ρ Q A w => by
  refine h B L G σ H ρ _ A ((WR.map w).mono fun G1 H1 ρ1 d e1 A1 k v hv => ?_)
  exact ⟨v, .ty n, .type (tyN d), .type n, isiD n d, rfl, .ty n, hv.ty A1.exG, kit_ty (isi_kit hn d), k _ (show Dt K G1 _ _ from .bl _)⟩
/-! ### slices -/
def mNoPart : M (Option Int) := mPure none
def mPart (m : M PyData) : M (Option Int) := mBind m fun d => mOpt (match d with
  | .int i => some (some i)
  | _ => none)
def SO (K : PySem.W.Frag) (mg : Str → Option Value) (E : XW) (t : TO) (m : M (Option Int)) : Prop := ∀ (B : Hp) (L : Frm) (G : Hp) (σ : L2.St) (H : Hp) (ρ : Env) (Q : Option Int → Hp → Prop), Ab ⟨K, mg, B, L⟩ G σ H ρ →
  WR ⟨K, mg, B, L⟩ E G σ (fun _ H' _ o => Q o H') (m ρ) → t σ H Q
theorem so_none : SO K mg E tNoPart mNoPart := fun B L G σ H ρ Q A w => w.here A
theorem so_some {t : TE} {m : M PyData} (h : SE K mg E t m) : SO K mg E (tPart t) (mPart m) := fun B L G σ H ρ Q A w => by
  refine h B L G σ H ρ _ A ((WR.bind w).mono fun G1 H1 ρ1 d e1 A1 k v hv => ?_)
  obtain ⟨o, q, k2⟩ := WR.opt k
  cases d with
  | int i => cases q; exact ⟨i, hv.int_inv, k2.here A1⟩
  | _ => cases q
def cutD (ds : List PyData) (lo hi : Option Int) : List PyData := (ds.drop (HT.sIx ds.length 0 lo)).take (HT.sIx ds.length ds.length hi - HT.sIx ds.length 0 lo)
theorem DtA.cut {vs : List V} {ds : List PyData} (h : DtA K G vs ds) (lo hi : Option Int) : DtA K G (cutV vs lo hi) (cutD ds lo hi) := by
  unfold cutV cutD
  rw [h.length]
  exact (h.drop _).take _
def slD : PyData → Option Int → Option Int → Option Rv
  | .tuple ds, lo, hi => some (.dat (.tuple (cutD ds lo hi)))
  | .list ds, lo, hi => some (.new (cutD ds lo hi))
  | .str x, lo, hi => if small x.length = true then some (.dat (.str (cutS x lo hi))) else none
  | _, _, _ => none
def rSl (K : PySem.W.Frag) : V → Option Int → Option Int → Hp → VK → Prop := fun x lo hi H Q => rSlA K x lo hi H Q ∨ rSlL K x lo hi H Q ∨ rSlS x lo hi H Q
theorem sl_any {X : Cx} : SlR X (rSl X.K) := by
  intro pins s σ H x v vl vu lo hi sl Q I rx hs pl pu h
  rcases h with h | h | h
  · exact sl_tupA pins s σ H x v vl vu lo hi sl Q I rx hs pl pu h
  · exact sl_list pins s σ H x v vl vu lo hi sl Q I rx hs pl pu h
  · exact sl_str pins s σ H x v vl vu lo hi sl Q I rx hs pl pu h
def mSl (m : M PyData) (ml mh : M (Option Int)) : M Rv := mBind m fun d => mBind ml fun l => mBind mh fun h => mOpt (slD d l h)
theorem sx_sl {t : TE} {tl th : TO} {m : M PyData} {ml mh : M (Option Int)} (h : SE K mg E t m) (hl : SO K mg E tl ml) (hh : SO K mg E th mh) : SX K mg E (tSl (rSl K) t tl th) (mSl m ml mh) := fun B L G σ H ρ Q A w => by
  refine h B L G σ H ρ _ A ((WR.bind w).mono fun G1 H1 ρ1 d e1 A1 k x hx => ?_)
  refine hl B L G1 σ H1 ρ1 _ A1 ((WR.bind k).mono fun G2 H2 ρ2 lo e2 A2 k2 => ?_)
  refine hh B L G2 σ H2 ρ2 _ A2 ((WR.bind k2).mono fun G3 H3 ρ3 hi e3 A3 k3 => ?_)
  obtain ⟨z, q, k4⟩ := WR.opt k3
  have hx := (hx.mono e2).mono e3
  cases d with
  | tuple ds =>
    cases q
    obtain ⟨a, xs, rfl, h1, h2⟩ := hx.tup_inv
    refine .inl ⟨a, xs, rfl, Evl.ex_t A3.exG h1, fun z => ?_, fun z p hp => ?_⟩
    · refine k4.here A3 _ ?_
      have hc : cutD ds lo hi = ds := by
        unfold cutD
        rw [h2.length] at z
        rw [z.1, z.2, List.drop_zero, Nat.sub_zero, List.take_length]
      show Dt K G3 _ (.tuple (cutD ds lo hi))
      rw [hc]
      exact .tup h1 h2
    · have T := A3.tup hp (h2.cut lo hi)
      exact k4 _ _ T.1 T.2.1 _ T.2.2
  | list ds =>
    cases q
    obtain ⟨a, xs, rfl, h1, h2⟩ := hx.lst_inv
    refine .inr (.inl ⟨a, xs, rfl, SqL.of (A3.exG _ _ h1), fun p hp => ?_⟩)
    have T := A3.fresh hp (h2.cut lo hi)
    exact k4 _ _ (Ex.refl _) T.1 _ T.2
  | str w =>
    have q : (if small w.length = true then some (Rv.dat (.str (cutS w lo hi))) else none) = some z := q
    by_cases y : small w.length = true
    · rw [if_pos y] at q; cases q
      exact .inr (.inr ⟨w, hx.str_inv, small_le y, k4.here A3 _ (show Dt K G3 _ _ from .str _)⟩)
    · rw [if_neg y] at q; cases q
  | none => cases q
  | bool _ => cases q
  | int _ => cases q
  | dict _ => cases q
/-! ### in -/
def flatD : PyData → Bool
  | .none => true
  | .bool _ => true
  | .int _ => true
  | .str _ => true
  | _ => false
end
end Hue
-- Hue6
namespace Hue
open PySem PySem.Spec PyProof.Rows L2
open Evl (Ex)

section
variable {P : Program} {w : World} {K : PySem.W.Frag} {mg : Str → Option Value} {base : Heap}
def spF0 (K : PySem.W.Frag) (mg : Str → Option Value) (n : Nat) (f : Fn) : Sp := fun vs H Q _ => spF K mg n f vs H Q E0
def At (K : PySem.W.Frag) (mg : Str → Option Value) (x : Str) (st : Stmt) (ps : List Str) : Prop := ∃ f fd, Fun K x x st f fd ∧ mg x = some (.ref f) ∧ Binds K fd ps []
def Ok (P : Program) (w : World) (K : PySem.W.Frag) (mg : Str → Option Value) (base : Heap) (k : Nat) (x : Str) (n : Nat) (fn : Fn) (ps : List Str) : Prop :=
  ∃ f fd, FnOk P w K mg base CX0 k f fd ps (spF0 K mg n fn) ∧ mg x = some (.ref f) ∧ PySem.W.keepIn K (.ref f) = true ∧ Binds K fd ps []
def CnI (mg : Str → Option Value) (x : Str) (i : Int) : Prop := ∃ t, mg x = some (.int i t)
def CnS (mg : Str → Option Value) (x : Str) (i : Str) : Prop := ∃ t, mg x = some (.str i t)
theorem mkOk {x : Str} {st : Stmt} {N ps : List Str} {k n : Nat} {body : Env → Fl} (T : At K mg x st ps) (S : FnScope N ps (defScope st))
    (h : ∀ (f : Addr) (cdv : Value) (A : Around) (outer : List PySem.Env) (s : Shared) (H : Hp) (E : XK), Room k (A.deeper (envOfC x (defScope st) s.heap.objs.size f cdv)) →
      ∃ t, PSs (cxOf CX0 P w K mg base N x (defScope st) f cdv A outer s H E).nox (defBody st) t ∧ SS K mg (liftE E0) t body) (fn : Fn) (hf : fn = mkFn N.length body) (hn : ps.length = n) : Ok P w K mg base (k + 1) x n fn ps := by
  subst hf
  obtain ⟨f, fd, F, hm, b⟩ := T
  refine ⟨f, fd, F.ok S (fun vs H Q E q => q.1.trans hn.symm) (fun cdv A outer s H vs Q E hr q => ?_), hm, F.kp, b⟩
  obtain ⟨t, h1, h2⟩ := h f cdv A outer s H E hr
  exact ⟨t, h1, fn_body (E := E0) h2 q⟩
theorem sx_c {t : TA} {m : M (List PyData)} {n : Nat} {f : Fn} (h : SA K mg (liftE E0) t m) : SX K mg (liftE E0) (tCall (spF0 K mg n f) [] E0 t) (mCall n f m) := sx_call (E := E0) h
theorem sx_cB {t : TA} {m : M (List PyData)} {n k : Nat} {f : Fn} (h : SA K mg (liftE E0) t m) : SX K mg (liftE E0) (tCall (spF0 K mg n f) [] E0 (tCons (tVar k) t)) (mCallB n f k m) := sx_callB (E := E0) h
end
section
variable {K : PySem.W.Frag} {mg : Str → Option Value} {E : XW} {G G' H H' : Hp} {σ σ' : L2.St} {ρ ρ' : Env}
def negD : PyData → Option PyData
  | .int i => some (.int (-i))
  | _ => none
def mNeg (m : M PyData) : M PyData := mBind m fun d => mOpt (negD d)
theorem se_neg {t : TE} {m : M PyData} (h : SE K mg E t m) : SE K mg E (tUn (rU fun i => .int (-i)) t) (mNeg m) := fun B L G σ H ρ Q A w => by
  refine h B L G σ H ρ _ A ((WR.bind w).mono fun G1 H1 ρ1 d e1 A1 k v hv => ?_)
  obtain ⟨z, q, k2⟩ := WR.opt k
  unfold negD at q
  split at q
  · cases q; exact ⟨_, hv.int_inv, k2.here A1 _ (.int _)⟩
  · cases q
end
theorem _root_.L2.Room.units65 {k : Nat} {A : Around} (r : Room k A) : A.units + 65 < cLine := by have := r.un; omega
/-! ### the rules with the written part named -/
section
variable {X : Cx} (K : PySem.W.Frag) (hK : X.K = K)
include hK
theorem kop_add : OpR X (binaryOp .Add) (rAdd K) := by subst hK; exact op_addA
theorem kop_lt (hu : X.A.units < cLine) : OpR X (compareOp .Lt) (rLt K) := by subst hK; exact op_ltA hu
theorem kop_le (hu : X.A.units < cLine) : OpR X (compareOp .LtE) (rLe K) := by subst hK; exact op_leA hu
theorem kop_eq (hu : X.A.units + 64 < cLine) : OpR X (compareOp .Eq) (rEqD K) := by subst hK; exact op_eqD hu
theorem kop_ne (hu : X.A.units + 64 < cLine) : OpR X (compareOp .NotEq) (rNeD K) := by subst hK; exact op_neD hu
theorem kix : IxR X (rIx K) := by subst hK; exact ix_seq
theorem ksl : SlR X (rSl K) := by subst hK; exact sl_any
theorem kisi : CallR X (.builtin "isinstance") (rIsi K) := by subst hK; exact call_isi
theorem klen : CallR X (.builtin "len") (rLenA K) := by subst hK; exact call_lenA
theorem kall (hc : X.calm = true) : CallR X (.builtin "all") (rAll K) := by subst hK; exact cr_all hc
theorem ktup : CallR X (.type "tuple") (fun xs H Q => ∃ p ys, xs = [.ref p] ∧ ((SqL K H p ys ∧ ∀ l, H l = none → Q (.ref l) (upd H l (.tup ys))) ∨ (SqT K H p ys ∧ Q (.ref p) H))) := by subst hK; exact call_tuple_of
theorem klist : CallR X (.type "list") (fun xs H Q => ∃ p ys, xs = [.ref p] ∧ (SqL K H p ys ∨ SqT K H p ys) ∧ ∀ l, H l = none → Q (.ref l) (upd H l (.lst ys))) := by subst hK; exact call_list_of
theorem kpi_seq {tg l : Expr} {tl : TE} (hl : PE X l tl) : PI X tg l (iSeq K tl) := by subst hK; exact pi_seq hl
theorem kpi_zip {e e2 : Expr} {ta : TA} {p pos tpos : Pos} {elts : List Expr} {kk : Nat} (hg : Gl X "zip") (hm : X.mg "zip" = none) (ha : PA X [e, e2] ta)
    (hs : starEach [e, e2] X.env = (false, eval e X.env) :: starEach [e2] X.env := by rfl) (hpl : (backTo pos (starEach [e2] X.env)).any (·.1) = false := by rfl) :
    PI X (.Tuple elts kk tpos) (.Call (.Name "zip" p) [e, e2] [] pos) (RZ.iZipA K ta) := by subst hK; exact RZ.pi_zipA hg hm ha hs hpl
theorem kpg_tup {es : List Expr} {k : Nat} {pos : Pos} {t : TGs} {n : Nat} (hc : X.calm = true) (h : PGs X es t)
    (hn : (assignEach es X.env).length = n := by rfl) (hst : (assignEach es X.env).findIdx? (·.1) = none := by rfl) : PG X (.Tuple es k pos) (gTup K n t) := by subst hK; exact pg_tup hc h hn hst
theorem kpt_truth {a : Expr} {ta : TE} (ha : PE X a ta) (he : ∀ whole, isTrue a X.env whole = (do let v ← whole; standAt a.pos; holding [v] (truthy v))) : PT X a (fun σ H Q => ta σ H fun x H' => ∃ k, TruV K x H' k ∧ Q k H') := by subst hK; exact pt_truth ha he
end
theorem bt_isinstance : bootBuiltins "isinstance" = some (.builtin "isinstance") := by decide +kernel
theorem bt_len : bootBuiltins "len" = some (.builtin "len") := by decide +kernel
theorem bt_all : bootBuiltins "all" = some (.builtin "all") := by decide +kernel
theorem bt_any : bootBuiltins "any" = some (.builtin "any") := by decide +kernel
theorem bt_abs : bootBuiltins "abs" = some (.builtin "abs") := by decide +kernel
theorem bt_max : bootBuiltins "max" = some (.builtin "max") := by decide +kernel
theorem bt_min : bootBuiltins "min" = some (.builtin "min") := by decide +kernel
theorem bt_divmod : bootBuiltins "divmod" = some (.builtin "divmod") := by decide +kernel
theorem bt_sorted : bootBuiltins "sorted" = some (.builtin "sorted") := by decide +kernel
theorem bt_repr : bootBuiltins "repr" = some (.builtin "repr") := by decide +kernel
theorem bt_tuple : bootBuiltins "tuple" = some (.type "tuple") := by decide +kernel
theorem bt_list : bootBuiltins "list" = some (.type "list") := by decide +kernel
theorem bt_set : bootBuiltins "set" = some (.type "set") := by decide +kernel
theorem bt_int : bootBuiltins "int" = some (.type "int") := by decide +kernel
theorem bt_bool : bootBuiltins "bool" = some (.type "bool") := by decide +kernel
theorem bt_str : bootBuiltins "str" = some (.type "str") := by decide +kernel
theorem bt_dict : bootBuiltins "dict" = some (.type "dict") := by decide +kernel
end Hue
-- Hue7
namespace Hue
open PySem PySem.Spec PyProof.Rows L2
open Evl (Ex)

section
variable {K : PySem.W.Frag} {mg : Str → Option Value} {E : XW} {G G' H H' : Hp} {σ σ' : L2.St} {ρ ρ' : Env}
/-! ### three comparisons in a row, as a test -/
def tTri (r s u : R2) (ta tb tc td : TE) : TT := fun σ H Q => ta σ H fun x H1 => tb σ H1 fun y H2 => r x y H2 fun z H3 => ∃ k, z = .bl k ∧
  (if k = true then tc σ H3 fun v H4 => s y v H4 fun z2 H5 => ∃ k2, z2 = .bl k2 ∧ (if k2 = true then td σ H5 fun v2 H6 => u v v2 H6 fun z3 H7 => ∃ k3, z3 = .bl k3 ∧ Q k3 H7 else Q false H5) else Q false H3)
theorem pt_tri {X : Cx} {o1 o2 o3 : CmpOp} {r s u : R2} {a b c d : Expr} {ta tb tc td : TE} {pos : Pos} (h1 : OpR X (compareOp o1) r) (h2 : OpR X (compareOp o2) s) (h3 : OpR X (compareOp o3) u) (ha : PE X a ta) (hb : PE X b tb) (hc : PE X c tc) (hd : PE X d td)
    (hm : lastMarks [o1, o2, o3] [b, c, d] = false := by with_unfolding_all rfl) : PT X (.Compare a [o1, o2, o3] [b, c, d] pos) (tTri r s u ta tb tc td) := by
  refine ⟨fun pins st σ H Q I h => ?_⟩
  refine isTrue_chain (thn (ha.run pins st σ H _ I h) fun v s1 ⟨x, H1, I1, r1, q1⟩ => test_link (thn (hb.run pins s1 σ H1 _ I1 q1) fun w2 s2 ⟨y, H2, I2, r2, q2⟩ =>
    thn (h1 pins s2 σ H2 x y v w2 _ I2 r1 r2 q2) fun e s3 ⟨z, H3, I3, r3, k, ek, q3⟩ => ?_)) hm
  subst ek; cases r3
  refine wpAny_truthy_bool ?_
  cases k with
  | false => exact ite_ff ⟨H3, I3, q3⟩
  | true =>
    refine ite_tt (test_link (thn (hc.run pins s3 σ H3 _ I3 q3) fun w3 s4 ⟨y2, H4, I4, r4, q4⟩ => thn (h2 pins s4 σ H4 y y2 w2 w3 _ I4 r2 r4 q4) fun e2 s5 ⟨z2, H5, I5, r5, k2, ek2, q5⟩ => ?_))
    subst ek2; cases r5
    refine wpAny_truthy_bool ?_
    cases k2 with
    | false => exact ite_ff ⟨H5, I5, q5⟩
    | true =>
      refine ite_tt (test_last (thn (hd.run pins s5 σ H5 _ I5 q5) fun w4 s6 ⟨y3, H6, I6, r6, q6⟩ => thn (h3 pins s6 σ H6 y2 y3 w3 w4 _ I6 r4 r6 q6) fun e3 s7 ⟨z3, H7, I7, r7, k3, ek3, q7⟩ => ?_))
      subst ek3; cases r7
      exact wpAny_truthy_bool ⟨H7, I7, q7⟩
def bR (z : Option Rv) : Option Bool := z.bind fun r => bD (frz r)
def mTri (f g h : PyData → PyData → Option Rv) (ma mb mc md : M PyData) : M Bool := mBind ma fun x => mBind mb fun y => mBind (mOpt (bR (f x y))) fun k => if k = true then mBind mc fun v => mBind (mOpt (bR (g y v))) fun k2 =>
  if k2 = true then mBind md fun v2 => mOpt (bR (h v v2)) else mPure false else mPure false
theorem bR_inv {z : Option Rv} {b : Bool} (h : bR z = some b) : ∃ r, z = some r ∧ frz r = .bool b := by
  cases z with
  | none => cases h
  | some r => exact ⟨r, rfl, bD_inv h⟩
theorem st_tri {r s u : R2} {f g h : PyData → PyData → Option Rv} {ta tb tc td : TE} {ma mb mc md : M PyData} (h1 : OpS K r f) (h2 : OpS K s g) (h3 : OpS K u h) (ha : SE K mg E ta ma) (hb : SE K mg E tb mb) (hc : SE K mg E tc mc) (hd : SE K mg E td md) :
    STt K mg E (tTri r s u ta tb tc td) (mTri f g h ma mb mc md) := fun B L G σ H ρ Q A w => by
  refine ha B L G σ H ρ _ A ((WR.bind w).mono fun G1 H1 ρ1 d1 e1 A1 k x hx => ?_)
  refine hb B L G1 σ H1 ρ1 _ A1 ((WR.bind k).mono fun G2 H2 ρ2 d2 e2 A2 k2 y hy => ?_)
  obtain ⟨b1, q1, k3⟩ := WR.opt (WR.bind k2)
  obtain ⟨z1, q1, q2⟩ := bR_inv q1
  refine h1 mg B L G2 σ H2 ρ2 x y d1 d2 z1 _ A2 (hx.mono e2) hy q1 fun v G3 H3 e3 A3 hv => ?_
  obtain ⟨G4, e4, A4, d4⟩ := hv.still A3
  rw [q2] at d4
  refine ⟨b1, d4.bl_inv, ?_⟩
  have k4 := k3 G4 H3 (e3.trans e4) A4
  cases b1 with
  | false => exact k4.here A4
  | true =>
    refine hc B L G4 σ H3 ρ2 _ A4 ((WR.bind k4).mono fun G5 H5 ρ5 d5 e5 A5 k5 u2 hu => ?_)
    obtain ⟨b2, q3, k6⟩ := WR.opt (WR.bind k5)
    obtain ⟨z2, q3, q4⟩ := bR_inv q3
    refine h2 mg B L G5 σ H5 ρ5 y u2 d2 d5 z2 _ A5 (hy.mono ((e3.trans e4).trans e5)) hu q3 fun v6 G6 H6 e6 A6 hv6 => ?_
    obtain ⟨G7, e7, A7, d7⟩ := hv6.still A6
    rw [q4] at d7
    refine ⟨b2, d7.bl_inv, ?_⟩
    have k7 := k6 G7 H6 (e6.trans e7) A7
    cases b2 with
    | false => exact k7.here A7
    | true =>
      refine hd B L G7 σ H6 ρ5 _ A7 ((WR.bind k7).mono fun G8 H8 ρ8 d8 e8 A8 k8 u3 hu3 => ?_)
      obtain ⟨b3, q5, k9⟩ := WR.opt k8
      obtain ⟨z3, q5, q6⟩ := bR_inv q5
      refine h3 mg B L G8 σ H8 ρ8 u2 u3 d5 d8 z3 _ A8 (hu.mono ((e6.trans e7).trans e8)) hu3 q5 fun v9 G9 H9 e9 A9 hv9 => ?_
      obtain ⟨GA, eA, AA, dA⟩ := hv9.still A9
      rw [q6] at dA
      exact ⟨b3, dA.bl_inv, k9 GA H9 (e9.trans eA) AA⟩

/-! ### a dict of one text and one int -/
def mDct (k : Str) (i : Int) : M PyData := mPure (.dict [(.str k, .int i)])
theorem se_dct {k : Str} {i : Int} : SE K mg E (tDisp [(tC (.str k), tC (.int i))]) (mDct k i) := fun B L G σ H ρ Q A w => fun p hp => by
  refine ⟨upd_same, [(.inr k, .int i)], rfl, (show 1 ≤ 15 by decide), ?_⟩
  rw [upd_upd]
  have e : mergeK [] [((.inr k : Key), V.int i)] = [(.inr k, .int i)] := rfl
  rw [e]
  exact w _ _ (A.laid hp) (A.lay hp) _ (.dct (.inl upd_same) (.cons (k := .inr k) (.int i) .nil))

/-! ### t[::-1] -/
end
section
variable {prog : Program} {w : World} {A : Around} {E : Value → Shared → Prop} {s : Shared}
/-- a slice from behind: all places, from the last -/
theorem back_applied {sl : Addr} {st : Tok} {n : Nat} {Q : Int × Int × Nat → Shared → Prop} (hs : s.heap.IsSliceOf sl .none .none (.int (-1) st)) (h : Q ((n : Int) - 1, -1, n) s) :
    wpAny (model prog w) A (Builtin.Slice.sliceApplied (.ref sl) (pure (n : Int))) Q E s := by
  obtain ⟨os, hos, hcs, hds⟩ := id hs
  unfold Builtin.Slice.sliceApplied Builtin.Slice.sliceFields
  refine wpAny_bind (wpAny_bind (wpAny_field hos hds (x := .none) rfl (wpAny_bind (wpAny_field hos hds (x := .none) rfl (wpAny_bind (wpAny_field hos hds (x := .int (-1) st) rfl (wpAny_pure ?_)))))))
  refine wpAny_bind (HT.slicePart_ (.int (-1) st) ?_)
  show wpAny _ _ (if ((-1 : Int) == 0) = true then _ else _) _ _ s
  rw [if_neg (by decide)]
  refine wpAny_bind (HT.slicePart_ .none (wpAny_bind (HT.slicePart_ .none (wpAny_bind (wpAny_pure ?_)))))
  show wpAny _ _ (match Builtin.Slice.sliceAdjust none none (-1) (n : Int) with | (lo, hi) => pure (lo, (-1 : Int), Builtin.Slice.slicePlaces lo hi (-1))) _ _ s
  have e1 : Builtin.Slice.sliceAdjust none none (-1) (n : Int) = ((n : Int) - 1, -1) := by
    unfold Builtin.Slice.sliceAdjust
    simp
  rw [e1]
  have e2 : Builtin.Slice.slicePlaces ((n : Int) - 1) (-1) (-1) = n := by
    unfold Builtin.Slice.slicePlaces
    simp
    split <;> omega
  show wpAny _ _ (pure ((n : Int) - 1, (-1 : Int), Builtin.Slice.slicePlaces ((n : Int) - 1) (-1) (-1))) _ _ s
  rw [e2]
  exact wpAny_pure h
theorem back_pick (xs : Array Value) : ((List.range xs.size).filterMap fun (k : Nat) => xs[((xs.size : Int) - 1 + (k : Int) * (-1)).toNat]?).toArray = xs.toList.reverse.toArray := by
  have e : (fun (k : Nat) => xs[((xs.size : Int) - 1 + (k : Int) * (-1)).toNat]?) = fun k => xs[xs.size - 1 - k]? := by
    funext k
    have : ((xs.size : Int) - 1 + (k : Int) * (-1)).toNat = xs.size - 1 - k := by omega
    rw [this]
  rw [e]
  have q : (List.range xs.size).filterMap (fun k => xs[xs.size - 1 - k]?) = (((List.range xs.size).map fun k => xs.size - 1 - k)).filterMap (xs[·]?) := by
    rw [List.filterMap_map]
    rfl
  rw [q, PySem.W.krv_range, List.filterMap_reverse, PySem.W.krv_all]
theorem back_tuple {t sl : Addr} {st : Tok} {items : Array Value} {Q : Value → Shared → Prop} (ht : IsTup s.heap t items) (hs : s.heap.IsSliceOf sl .none .none (.int (-1) st)) (hsz : items.size ≤ sizeLine)
    (h : Q (.ref s.heap.objs.size) { s with heap := s.heap.push { cls := .type "tuple", data := .seq items.toList.reverse.toArray } }) : wpAny (model prog w) A (getItem (.ref t) (.ref sl)) Q E s := by
  have hz : sizeOk (.seq items.toList.reverse.toArray) := by
    show items.toList.reverse.toArray.size ≤ sizeLine
    rw [List.size_toArray, List.length_reverse, Array.length_toList]
    exact hsz
  obtain ⟨os, hos, hcs, hds⟩ := id hs
  have hT : s.TypeIs (.ref sl) "slice" := ⟨os, hos, hcs⟩
  unfold getItem
  try with_reducible refine wpAny_holding ?_
  first | refine wpAny_bind (wpAny_pure ?_) | skip
  refine wpAny_bind (wpAny_sequenceKey ht.typeIs (by decide) ?_)
  refine wpAny_bind (wpAny_callSpecial?_slot (name := Str.ofString "__getitem__") ht.typeIs PyProof.Rows.slot_tuple_getitem (wpAny_call_entry PyProof.Rows.slot_tuple_getitem ht.typeIs entry_tuple_getitem ?_ (args_tuple_getitem _ _)))
  show wpAny _ _ (Builtin.Tuple.tupleItemsOf (.ref t) >>= _) _ _ s
  refine wpAny_bind (tupleItemsOf_ ht ?_)
  refine wpAny_bind (wpAny_typeOf hT ?_)
  rw [if_pos (by decide)]
  refine wpAny_bind (back_applied hs ?_)
  have no : ¬ ((((items.size : Int) - 1 == 0 && (-1 : Int) == 1 && items.size == items.size)) = true) := by
    intro q
    rw [Bool.and_eq_true, Bool.and_eq_true] at q
    exact absurd q.1.2 (by decide)
  show wpAny _ _ (if (((items.size : Int) - 1 == 0 && (-1 : Int) == 1 && items.size == items.size)) = true then _ else _) _ _ s
  rw [if_neg no, back_pick]
  first
    | exact wpAny_bind (m := Builtin.Tuple.tupleExact _) (wpAny_newObj_type (wpAny_pure ⟨_, rfl, wpAny_pure h⟩) hz)
    | exact wpAny_bind (wpAny_bind (m := Builtin.Tuple.tupleExact _) (wpAny_newObj_type (wpAny_pure ⟨_, rfl, wpAny_pure h⟩) hz))
    | exact wpAny_bind (wpAny_bind (m := Builtin.Tuple.tupleExact _) (wpAny_newObj_type (wpAny_pure (wpAny_pure ⟨_, rfl, wpAny_pure h⟩)) hz))
end
section
variable {X : Cx}
/-- t[::-1], l[::-1] -/
def tBack (K : PySem.W.Frag) (te : TE) : TE := fun σ H Q => te σ H fun x H1 => (∃ a xs, x = .ref a ∧ SqL K H1 a xs ∧ ∀ p, H1 p = none → Q (.ref p) (upd H1 p (.lst xs.reverse))) ∨
  (∃ a xs, x = .ref a ∧ SqT K H1 a xs ∧ ∀ p, H1 p = none → Q (.ref p) (upd H1 p (.tup xs.reverse)))
theorem kpe_back (K : PySem.W.Frag) (hK : X.K = K) {e : Expr} {te : TE} {k : Nat} {p1 p2 p3 pos : Pos} (he : PE X e te) : PE X (.Subscript e (.Slice none none (some (.UnaryOp .USub (.Constant (.int 1) k p1) p2)) p3) pos) (tBack K te) := by
  subst hK
  refine ⟨fun pins s σ H Q I h => ?_⟩
  refine Subscript_ (thn (he.run pins s σ H _ I h) fun v s1 ⟨x, H1, I1, r1, q1⟩ => ?_)
  have part : PO X (some (.UnaryOp .USub (.Constant (.int 1) k p1) p2)) (tPart (tUn (rU fun i => .int (-i)) (tC (.int 1)))) := po_some (pe_un un_neg pe_int)
  refine wpAny_Slice (thn (po_none.run pins s1 σ H1 (fun o H2 => o = none ∧ H2 = H1) I1 ⟨rfl, rfl⟩) fun vl s2 ⟨l, H2, I2, pl, el, e2⟩ => ?_)
  subst el e2
  refine thn (po_none.run pins s2 σ H2 (fun o H3 => o = none ∧ H3 = H2) I2 ⟨rfl, rfl⟩) fun vu s3 ⟨u, H3, I3, pu, eu, e3⟩ => ?_
  subst eu e3
  refine thn (part.run pins s3 σ H3 (fun o H4 => o = some (-1) ∧ H4 = H3) I3 ⟨1, rfl, -1, rfl, rfl, rfl⟩) fun vs s4 ⟨o, H4, I4, ps, eo, e4⟩ => ?_
  subst eo e4
  have I5 : L2.Inv X pins σ H4 { s4 with heap := s4.heap.push { cls := .type "slice", data := .fields #[vl, vu, vs] } } := I4.kept (t' := s4.toks) fun b ob q => Heap.get?_push_of_some _ q
  show wpAny (model X.prog X.w) X.A (subscriptTail e (.Slice none none (some (.UnaryOp .USub (.Constant (.int 1) k p1) p2)) p3) v (.ref s4.heap.objs.size)) (EP X pins σ Q) X.xe { s4 with heap := s4.heap.push { cls := .type "slice", data := .fields #[vl, vu, vs] } }
  rcases q1 with ⟨a, xs, ex, hx, q⟩ | ⟨a, xs, ex, hx, q⟩
  · subst ex
    cases r1
    obtain ⟨its, r, ht, hz⟩ := I5.list hx
    have hlen := r.length
    refine tail_any (ops := [.ref a, .ref s4.heap.objs.size]) ht.isList.typeIs PySem.slot_list_getitem.lookup ?_ (by with_unfolding_all rfl)
    refine wpAny_getItem_list_slice ht.isList (Heap.IsSliceOf.new _ vl vu vs) pl pu ps (by decide) ?_ (by rw [List.size_toArray]; omega)
    rw [PySem.W.krv_pick]
    exact ⟨.ref _, _, I5.laid (t' := s4.toks) (o := .lst xs.reverse) (fun b ob q => Heap.get?_push_of_some _ q) (Nat.le_refl _) ⟨by rw [List.length_reverse]; exact hz, _, 0, r.reverse, Heap.get?_push_size _ rfl⟩, rfl, q _ (I5.hok.fresh (Nat.le_refl _))⟩
  · subst ex
    cases r1
    obtain ⟨its, r, ht, hz⟩ := I5.tuple hx
    have hlen := r.length
    cases pl
    cases pu
    cases ps
    refine tail_any (ops := [.ref a, .ref s4.heap.objs.size]) ht.typeIs PyProof.Rows.slot_tuple_getitem.lookup ?_ (by with_unfolding_all rfl)
    refine back_tuple ht (Heap.IsSliceOf.new _ _ _ _) (by rw [List.size_toArray]; omega) ?_
    exact ⟨.ref _, _, I5.laid (t' := s4.toks) (o := .tup xs.reverse) (fun b ob q => Heap.get?_push_of_some _ q) (Nat.le_refl _) ⟨by rw [List.length_reverse]; exact hz, _, r.reverse, IsTup.new _ _⟩, rfl, q _ (I5.hok.fresh (Nat.le_refl _))⟩
end
section
variable {K : PySem.W.Frag} {mg : Str → Option Value} {E : XW} {G G' H H' : Hp} {σ σ' : L2.St} {ρ ρ' : Env}
def backD : PyData → Option Rv
  | .list ds => some (.new ds.reverse)
  | .tuple ds => some (.dat (.tuple ds.reverse))
  | _ => none
def mBack (m : M PyData) : M Rv := mBind m fun d => mOpt (backD d)
theorem sx_back {t : TE} {m : M PyData} (h : SE K mg E t m) : SX K mg E (tBack K t) (mBack m) := fun B L G σ H ρ Q A w => by
  refine h B L G σ H ρ _ A ((WR.bind w).mono fun G1 H1 ρ1 d e1 A1 k v hv => ?_)
  obtain ⟨z, q, k2⟩ := WR.opt k
  cases d with
  | list ds =>
    cases q
    obtain ⟨a, xs, rfl, h1, h2⟩ := hv.lst_inv
    refine .inl ⟨a, xs, rfl, SqL.of (A1.exG _ _ h1), fun p hp => ?_⟩
    have T := A1.fresh hp h2.reverse
    exact k2 _ _ (Ex.refl _) T.1 _ T.2
  | tuple ds =>
    cases q
    obtain ⟨a, xs, rfl, h1, h2⟩ := hv.tup_inv
    refine .inr ⟨a, xs, rfl, Evl.ex_t A1.exG h1, fun p hp => ?_⟩
    have T := A1.tup hp h2.reverse
    exact k2 _ _ T.1 T.2.1 _ T.2.2
  | none => cases q
  | bool _ => cases q
  | int _ => cases q
  | str _ => cases q
  | dict _ => cases q
/-! ### tuple(range(n)) -/
def trD : PyData → Option Rv
  | .int n => if (decide (0 ≤ n) && decide (n ≤ 100000)) = true then some (.dat (.tuple (rngL 0 n.toNat))) else none
  | _ => none
def mTrng (m : M PyData) : M Rv := mBind m fun d => mOpt (trD d)
theorem sx_trng {t : TE} {m : M PyData} (h : SE K mg E t m) : SX K mg E (tTupRg (tRg1 t)) (mTrng m) := fun B L G σ H ρ Q A w => by
  refine h B L G σ H ρ _ A ((WR.bind w).mono fun G1 H1 ρ1 d e1 A1 k v hv => ?_)
  obtain ⟨z, q, k2⟩ := WR.opt k
  cases d with
  | int n =>
    have q : (if (decide (0 ≤ n) && decide (n ≤ 100000)) = true then some (Rv.dat (.tuple (rngL 0 n.toNat))) else none) = some z := q
    by_cases y : (decide (0 ≤ n) && decide (n ≤ 100000)) = true
    · rw [if_pos y] at q; cases q
      rw [Bool.and_eq_true] at y
      have y1 := of_decide_eq_true y.1
      have y2 := of_decide_eq_true y.2
      refine ⟨n, hv.int_inv, RgOk.of_le (by omega) (by omega) (by omega) (by omega), fun p hp => ?_⟩
      have dd : DtA K G1 (rgV 0 n) (rngL 0 n.toNat) := by
        unfold rgV rngL
        rw [show (n - 0).toNat = n.toNat by omega]
        have key : ∀ l : List Nat, DtA K G1 (l.map fun i => V.int (0 + (i : Nat))) (l.map fun i => PyData.int (0 + (i : Nat))) := fun l => by
          induction l with
          | nil => exact .nil
          | cons a r ih => exact .cons (.int _) ih
        exact key _
      have T := A1.tup hp dd
      exact k2 _ _ T.1 T.2.1 _ T.2.2
    · rw [if_neg y] at q; cases q
  | none => cases q
  | bool _ => cases q
  | list _ => cases q
  | tuple _ => cases q
  | str _ => cases q
  | dict _ => cases q
end
end Hue
-- Hue8
namespace Hue
open PySem PySem.Spec PyProof.Rows L2
open Evl (Ex)

/-! ### t * 1 is t itself -/
theorem mul_one (l : Addr) (items : Array Value) (n : Nat) (dd : Option Addr) (sl : Array (Option Value)) (u : Tok) :
    Meets (Builtin.«tuple.__mul__» ⟨[.ref l, .int 1 u], []⟩) (fun _ R s => s.heap.get? l = some { cls := .type "tuple", dict := dd, data := .seq items n, slots := sl } ∧ R (.ok (.ret (Value.ref l))) s) :=
  .of_wp fun prog w A R s h => by
    obtain ⟨hp, g, d, tk, os⟩ := s
    obtain ⟨hl, h⟩ := h
    have f1 := AutoSeq1.idx_int
    have c0 : (decide ((1 : Int) < -(2 ^ 63)) || decide ((1 : Int) ≥ 2 ^ 63)) = false := by decide
    have c1 : (items.isEmpty || (1 : Int) == 1) = true := by rw [show ((1 : Int) == 1) = true from rfl, Bool.or_true]
    wp_walk using wpAny_loadPart' hl
    repeat (first
      | (refine wpAny_ite_false (decide_eq_false (by rw [c0]; exact Bool.false_ne_true)) ?_; wp_walk using wpAny_loadPart' hl)
      | (refine wpAny_ite_true (decide_eq_true c1) ?_; wp_walk using wpAny_loadPart' hl))
    all_goals exact ⟨_, rfl, h⟩
section
variable {X : Cx}
def rRep1 (K : PySem.W.Frag) : R2 := fun x y H Q => ∃ l xs, x = .ref l ∧ y = .int 1 ∧ SqT K H l xs ∧ Q (.ref l) H
theorem op_rep1 : OpR X (binaryOp .Mult) (rRep1 X.K) := by
  intro pins s σ H x y v u Q I rx ry h
  obtain ⟨l, xs, rfl, rfl, hT, q⟩ := h
  cases rx
  obtain ⟨t, rfl⟩ := ry
  obtain ⟨its, r, ⟨⟨cls, dd, data, sl⟩, ho, hc, n, hd⟩, hs⟩ := I.tuple hT
  simp only at hc hd
  subst hc hd
  have hty : s.TypeIs (.ref l) "tuple" := ⟨_, ho, rfl⟩
  have step : wpAny (model X.prog X.w) X.A (call (.builtin "tuple.__mul__") [.ref l, .int 1 t]) (EP X pins σ Q) X.xe s := call_meets F.slot_tuple_mul hty F.entry_tuple_mul (F.args_tuple_mul_2 _ _) (mul_one l its.toArray n dd sl t) ⟨ho, ⟨.ref l, H, I, rfl, q⟩⟩
  exact wpAny_binaryOp_repeat_ref (T := "tuple") (U := "int") (by decide) ⟨_, ho, rfl⟩ (fun s' => typeIs_int s' 1 t) noFill_tuple_mul F.fills_int_mul F.slot_int_rmul repeat_tuple F.slot_int_index.lookup
    (call_meets F.slot_int_rmul (typeIs_int s 1 t) F.entry_int_rmul (F.args_int_rmul_2 _ _) (int_rmul_tuple 1 t l its.toArray n dd sl) ⟨ho, rfl, ⟨_, ho, rfl⟩, step⟩)
def rMulA (K : PySem.W.Frag) : R2 := rOr (rI CMulW fun i j => .int (i * j)) (rOr (rRep1 K) (rOr (rRepT K) rRep))
theorem kop_mul (K : PySem.W.Frag) (hK : X.K = K) : OpR X (binaryOp .Mult) (rMulA K) := by
  subst hK
  exact op_two op_mulW (op_two op_rep1 (op_two op_repT op_rep))
end
section
variable {K : PySem.W.Frag} {mg : Str → Option Value} {E : XW} {G G' H H' : Hp} {σ σ' : L2.St} {ρ ρ' : Env}
def fRep1 : PyData → PyData → Option Rv
  | .tuple ds, .int k => if k = 1 then some (.dat (.tuple ds)) else none
  | _, _ => none
def fRepT : PyData → PyData → Option Rv
  | .tuple ds, .int k => if (decide (2 ≤ k) && decide (k ≤ 1000) && decide (ds.length ≤ 1000) && !ds.isEmpty) = true then some (.dat (.tuple (List.replicate k.toNat ds).flatten)) else none
  | _, _ => none
def fRepL : PyData → PyData → Option Rv
  | .list ds, .int k => if (decide (0 ≤ k) && decide (k ≤ 1000) && decide (ds.length ≤ 1000)) = true then some (.new (List.replicate k.toNat ds).flatten) else none
  | _, _ => none
theorem ops_rep1 : OpS K (rRep1 K) fRep1 := fun mg B L G σ H ρ x y d e z Q A hx hy hz k => by
  unfold fRep1 at hz
  split at hz
  · split at hz
    · rename_i h
      subst h
      cases hz
      obtain ⟨a, xs, rfl, h1, h2⟩ := hx.tup_inv
      exact ⟨a, xs, rfl, hy.int_inv, Evl.ex_t A.exG h1, k _ G H (Ex.refl G) A (.tup h1 h2)⟩
    · cases hz
  · cases hz
theorem ops_repT : OpS K (rRepT K) fRepT := fun mg B L G σ H ρ x y d e z Q A hx hy hz k => by
  unfold fRepT at hz
  split at hz
  · split at hz
    · rename_i ds j h
      cases hz
      rw [Bool.and_eq_true, Bool.and_eq_true, Bool.and_eq_true] at h
      obtain ⟨a, xs, rfl, h1, h2⟩ := hx.tup_inv
      refine ⟨a, j, xs, rfl, hy.int_inv, Evl.ex_t A.exG h1, fun e => ?_, of_decide_eq_true h.1.1.1, of_decide_eq_true h.1.1.2, by rw [h2.length]; exact of_decide_eq_true h.1.2, fun p hp => ?_⟩
      · subst e
        cases h2
        exact absurd h.2 (by decide)
      · have T := A.tup hp (h2.rep j.toNat)
        exact k _ _ _ T.1 T.2.1 T.2.2
    · cases hz
  · cases hz
theorem flat_len {α : Type} (ds : List α) : ∀ n : Nat, (List.replicate n ds).flatten.length = n * ds.length
  | 0 => by simp
  | n + 1 => by rw [List.replicate_succ, List.flatten_cons, List.length_append, flat_len ds n, Nat.succ_mul, Nat.add_comm]
theorem ops_repL : OpS K rRep fRepL := fun mg B L G σ H ρ x y d e z Q A hx hy hz k => by
  unfold fRepL at hz
  split at hz
  · split at hz
    · rename_i ds j h
      cases hz
      rw [Bool.and_eq_true, Bool.and_eq_true] at h
      have g1 := of_decide_eq_true h.1.1
      have g2 := of_decide_eq_true h.1.2
      have g3 := of_decide_eq_true h.2
      obtain ⟨a, xs, rfl, h1, h2⟩ := hx.lst_inv
      refine ⟨a, j, xs, rfl, hy.int_inv, A.exG _ _ h1, by omega, by omega, ?_, fun p hp => ?_⟩
      · rw [h2.length]
        have : ds.length * j.toNat ≤ 1000 * 1000 := Nat.mul_le_mul g3 (by omega)
        rw [sizeLine_eq]
        omega
      · have T := A.fresh hp (h2.rep j.toNat)
        exact k _ _ _ (Ex.refl _) T.1 T.2
    · cases hz
  · cases hz
def fMulA : PyData → PyData → Option Rv := fun d e => (fMul d e).or ((fRep1 d e).or ((fRepT d e).or (fRepL d e)))
theorem ops_mulA : OpS K (rMulA K) fMulA := ops_two ops_mul (ops_two ops_rep1 (ops_two ops_repT ops_repL))

/-! ### sorted -/
def ins1 (x : Int) : List Int → List Int
  | [] => [x]
  | y :: r => if x ≤ y then x :: y :: r else y :: ins1 x r
def isort : List Int → List Int
  | [] => []
  | x :: r => ins1 x (isort r)
theorem ins1_perm (x : Int) : ∀ l : List Int, (ins1 x l).Perm (x :: l)
  | [] => .refl _
  | y :: r => by
    unfold ins1
    split
    · exact .refl _
    · exact ((ins1_perm x r).cons y).trans (.swap x y r)
theorem isort_perm : ∀ l : List Int, (isort l).Perm l
  | [] => .refl _
  | x :: r => (ins1_perm x (isort r)).trans ((isort_perm r).cons x)
theorem ins1_sorted (x : Int) : ∀ l : List Int, l.Pairwise (· ≤ ·) → (ins1 x l).Pairwise (· ≤ ·)
  | [], _ => List.pairwise_singleton _ _
  | y :: r, h => by
    unfold ins1
    rw [List.pairwise_cons] at h
    split
    · rename_i q
      refine List.pairwise_cons.mpr ⟨fun z hz => ?_, List.pairwise_cons.mpr h⟩
      rcases List.mem_cons.mp hz with e | e
      · rw [e]; exact q
      · exact Int.le_trans q (h.1 z e)
    · rename_i q
      refine List.pairwise_cons.mpr ⟨fun z hz => ?_, ins1_sorted x r h.2⟩
      rcases List.mem_cons.mp ((ins1_perm x r).mem_iff.mp hz) with e | e
      · rw [e]; omega
      · exact h.1 z e
theorem isort_sorted : ∀ l : List Int, (isort l).Pairwise (· ≤ ·)
  | [] => .nil
  | x :: r => ins1_sorted x _ (isort_sorted r)
theorem sorted_one : ∀ {l m : List Int}, l.Perm m → l.Pairwise (· ≤ ·) → m.Pairwise (· ≤ ·) → l = m
  | [], m, p, _, _ => (List.nil_perm.mp p).symm
  | x :: l, [], p, _, _ => (List.nil_perm.mp p.symm)
  | x :: l, y :: m, p, h1, h2 => by
    rw [List.pairwise_cons] at h1 h2
    have e : x = y := by
      have a : x ∈ y :: m := p.mem_iff.mp (List.mem_cons_self ..)
      have b : y ∈ x :: l := p.mem_iff.mpr (List.mem_cons_self ..)
      rcases List.mem_cons.mp a with a | a
      · exact a
      · rcases List.mem_cons.mp b with b | b
        · exact b.symm
        · have := h1.1 y b
          have := h2.1 x a
          omega
    subst e
    rw [sorted_one (List.Perm.cons_inv p) h1.2 h2.2]
def sortD : List PyData → Option Rv
  | [.list ds] => (intsD ds).map fun ns => .new ((isort ns).map PyData.int)
  | _ => none
theorem cas_sort : CaS K (rSortedI K) sortD := fun mg B L G σ H ρ vs ds z Q A hv hz k => by
  unfold sortD at hz
  split at hz
  · rename_i es
    cases q : intsD es with
    | none => rw [q] at hz; cases hz
    | some ns =>
      rw [q] at hz; cases hz
      obtain ⟨v, rfl, h1⟩ := hv.one
      obtain ⟨a, xs, rfl, h2, h3⟩ := h1.lst_inv
      rw [intsD_inv q] at h3
      rw [h3.ints] at h2
      refine ⟨a, ns, rfl, SqL.of (A.exG _ _ h2), fun ns' p pm srt hp => ?_⟩
      have e : ns' = isort ns := sorted_one (pm.trans (isort_perm ns).symm) srt (isort_sorted ns)
      subst e
      have T := A.fresh hp (DtA.ofInts (K := K) (G := G) (isort ns))
      exact k _ _ _ (Ex.refl _) T.1 T.2
  · cases hz
theorem ksort {X : Cx} (K : PySem.W.Frag) (hK : X.K = K) (hc : X.calm = true) : CallR X (.builtin "sorted") (rSortedI K) := by subst hK; exact cr_sortedI
end
end Hue
-- Hue9
namespace Hue
open PySem PySem.Spec PyProof.Rows L2
open Evl (Ex)

/-! ### set(xs), xs a list of ints -/
abbrev nset (w : World) : Obj := { cls := .type "set", dict := none, data := .set #[] 0 (.fresh 0 0 (!w.params.followText "set-order")) }
section
variable {P : Program} {w : World} {A : Around} {E : Value → Shared → Prop} {s : Shared}
set_option maxHeartbeats 3200000 in
theorem set_list {l : Addr} {items : Array Value} (ns : List Int) {Q : Value → Shared → Prop} (hh : A.handled = none) (hl : s.heap.IsList l items) (hit : IntsAre items.toList ns) (hb : ns.length + 1 < scanBound)
    (k : ∀ (h' : Heap) (tk c : Nat), SetR w h' s.heap.objs.size (fun j => decide (j ∈ ns)) c → c ≤ ns.length → (∀ b o, s.heap.get? b = some o → h'.get? b = some o) → Q (.ref s.heap.objs.size) { s with heap := h', toks := tk }) :
    wpAny (model P w) A (call (.type "set") [.ref l]) Q E s := by
  have isz : items.size = ns.length := by have q := IntsAre.length hit; rwa [Array.length_toList] at q
  obtain ⟨c, tl, hmro⟩ := F.called_set.mro
  have m1 := F.called_set.made; have m2 := F.called_set.sub
  refine wpAny_call (codeAny_of_tree ?_)
  show wpAny _ _ (callAny (.type "set") _) _ _ _
  refine wpAny_pure ⟨Code.quiet_builtin _ (by decide +kernel), codeAny_builtin F.entry_type_call ?_⟩
  rw [Around.under_plain (weight_type_call_type "set" [.ref l] []) rfl]
  have m3 := F.called_set.notType; have m4 := F.called_set.canCreate; have m5 := F.typeCall_set_1 (.ref l)
  repeat (any_goals (first | assumption | wp_step))
  refine codeAny_mono (code_set_led1 (.ref l) (E := E) (Q₁ := fun obj s1 => obj = .ref s.heap.objs.size ∧ s1 = { s with heap := s.heap.push (nset w) }) ⟨rfl, rfl⟩) fun r s1 hr => ?_
  cases r with
  | error e => exact hr
  | ok fl =>
    cases fl with
    | next => exact hr.elim
    | brk => exact hr.elim
    | cont => exact hr.elim
    | ret obj =>
      obtain ⟨rfl, rfl⟩ := hr
      have gS : (s.heap.push (nset w)).get? s.heap.objs.size = some (nset w) := Heap.get?_push_size _ rfl
      have tS : Shared.TypeIs { s with heap := s.heap.push (nset w) } (.ref s.heap.objs.size) "set" := ⟨_, gS, rfl⟩
      have m6 := F.called_set.init.lookup; have m7 := F.called_set.init.bind (.ref s.heap.objs.size)
      repeat (any_goals (first | assumption | wp_step))
      refine codeAny_mono (codeAny_call_builtin (R := wants (fun r s2 => r = .none ∧ ∃ h' tk c, s2 = { s with heap := h', toks := tk } ∧ SetR w h' s.heap.objs.size (fun j => decide (j ∈ ns)) c ∧ c ≤ ns.length ∧ (∀ b o, s.heap.get? b = some o → h'.get? b = some o)) E) F.called_set.init.plain F.entry_set_init (check_set_init_1 tS ?_)) fun r2 s2 hr2 => ?_
      · obtain ⟨⟨oc, od, odt, osl⟩, hol, hcl, nl, hdl⟩ := hl
        simp only at hcl hdl
        subst hcl hdl
        have gl : (s.heap.push (nset w)).get? l = some { cls := .type "list", dict := od, data := .seq items nl, slots := osl } := Heap.get?_push_of_some _ hol
        have n1 := F.sub_list_set; have n2 := F.sub_list_frozenset
        have n3 : (Value.type "list" == Value.type "dict") = false := by decide
        have il : (s.heap.push (nset w)).IsList l items := ⟨_, gl, rfl, nl, rfl⟩
        unfold Builtin.«set.__init__» noKeywords Builtin.Frozenset.updateFrom
        generalize hPI : pyIter = PI
        wp_walk
        subst hPI
        refine wpAny_pyIter_list il (wpAny_bind (wpAny_runValue ?_))
        have lt : l < s.heap.objs.size := Heap.lt_size hol
        have h3 : A.in1.in1.in1.handled = none := by simp [hh]
        have ne : l ≠ (s.heap.push (nset w)).objs.size := by rw [Heap.size_push]; exact Nat.ne_of_lt (Nat.lt_succ_of_lt lt)
        have nf : s.heap.objs.size ∉ [(s.heap.push (nset w)).objs.size, l] := by
          rw [Heap.size_push]
          intro z
          rcases List.mem_cons.mp z with z | z
          · exact absurd z (Nat.ne_of_lt (Nat.lt_succ_self _))
          · exact absurd (List.mem_singleton.mp z) (Nat.ne_of_gt lt)
        have val : ∀ (i : Nat) (v : Value), items[i]? = some v → ∃ k t, ns[i]? = some k ∧ v = .int k t := fun i v hv => by
          have hi : i < ns.length := by rw [← isz]; exact (Array.getElem?_eq_some_iff.mp hv).1
          obtain ⟨t, e⟩ := PyProof.Rows.IntsAre.int_at hit i v (by rw [Array.getElem?_toList]; exact hv)
          refine ⟨ns[i], t, List.getElem?_eq_getElem hi, ?_⟩
          rw [e, List.getD_eq_getElem?_getD, List.getElem?_eq_getElem hi] <;> rfl
        refine set_update_ints ((Walks.list h3 _ l ne items).toS) s.heap.objs.size nf ns isz hb val (items.size - 0) 0 _ (by omega) (Nat.zero_le _) ⟨⟨_, Heap.get?_push_size _ rfl, rfl, rfl⟩, il.push _⟩ ⟨0, Nat.le_refl 0, setR_new_at (Heap.get?_push_of_some _ gS)⟩ fun s' c' hm hc' hS' => ?_
        obtain ⟨h', g2, d', tk', os'⟩ := s'
        obtain rfl : g2 = s.gens := hm.gens
        obtain rfl : d' = s.drawn := hm.drawn
        obtain rfl : os' = s.os := hm.os
        show wpAny _ _ _ _ _ _
        refine wpAny_pure ?_
        show wpAny _ _ (ret Value.none) _ _ _
        rw [isz] at hc'
        refine wpAny_pure ⟨rfl, h', tk', c', rfl, hS', hc', fun b o e => ?_⟩
        have lb : b < s.heap.objs.size := Heap.lt_size e
        refine hm.heap b o (fun z => ?_) (Heap.get?_push_of_some _ (Heap.get?_push_of_some _ e))
        rcases List.mem_cons.mp z with z | z
        · exact absurd z (Nat.ne_of_lt lb)
        · have := List.mem_singleton.mp z
          rw [Heap.size_push] at this
          exact absurd this (Nat.ne_of_lt (Nat.lt_succ_of_lt lb))
      · cases r2 with
        | error e => exact hr2
        | ok fl2 =>
          cases fl2 with
          | next => exact hr2.elim
          | brk => exact hr2.elim
          | cont => exact hr2.elim
          | ret r =>
            obtain ⟨rfl, h', tk, c', rfl, hS', hc', hk'⟩ := hr2
            repeat (any_goals (first | assumption | wp_step))
            exact k _ _ _ hS' hc' hk'
end
section
variable {X : Cx}
def rSetI (K : PySem.W.Frag) (w : World) : List V → Hp → VK → Prop := fun xs H Q => ∃ (l : Addr) (ns : List Int), xs = [.ref l] ∧ (SqL K H l (ns.map V.int) ∨ SqT K H l (ns.map V.int)) ∧ ns.length < 64 ∧ ∀ a c, H a = none → c ≤ ns.length → Q (.ref a) (upd H a (SetO w a (fun j => decide (j ∈ ns)) c))
theorem cr_setI (hc : X.calm = true) : CallR X (.type "set") (rSetI X.K X.w) := by
  intro pins s σ H xs us Q I r h
  obtain ⟨l, ns, rfl, hs, h64, q⟩ := h
  rw [Vals.ref1 r]
  have sb : ns.length + 1 < scanBound := by unfold scanBound; omega
  have fin : ∀ (h' : Heap) (tk c : Nat), SetR X.w h' s.heap.objs.size (fun j => decide (j ∈ ns)) c → c ≤ ns.length → (∀ b o, s.heap.get? b = some o → h'.get? b = some o) → EP X pins σ Q (.ref s.heap.objs.size) { s with heap := h', toks := tk } := fun h' tk c R hc hk =>
    ⟨.ref s.heap.objs.size, _, I.laid (t' := tk) hk (Nat.le_refl _) (setO_new R), rfl, q _ c (I.hok.fresh (Nat.le_refl _)) hc⟩
  rcases hs with hs | hs
  · obtain ⟨its, rv, pl, hz⟩ := I.list hs
    exact set_list ns (I.ok.hd hc) pl.isList (by simpa using rv.ints) sb fin
  · obtain ⟨its, rv, pl, hz⟩ := I.tuple hs
    exact call_set_tupI ns (I.ok.hd hc) pl (by simpa using rv.ints) sb fin
end
end Hue
-- Hue10
namespace Hue
open PySem PySem.Spec PyProof.Rows L2
open Evl (Ex)

/-! ### sorted(set(..)) -/
/-- x put into a rising list -/
def ins0 (x : Int) : List Int → List Int
  | [] => [x]
  | y :: r => if x < y then x :: y :: r else if x = y then y :: r else y :: ins0 x r
def sdd : List Int → List Int
  | [] => []
  | x :: r => ins0 x (sdd r)
theorem ins0_mem (x z : Int) : ∀ l : List Int, z ∈ ins0 x l ↔ z = x ∨ z ∈ l
  | [] => by simp [ins0]
  | y :: r => by
    unfold ins0
    split
    · simp
    · split
      · rename_i h
        subst h
        simp
      · rw [List.mem_cons, ins0_mem x z r, List.mem_cons]
        constructor
        · rintro (h | h | h)
          · exact .inr (.inl h)
          · exact .inl h
          · exact .inr (.inr h)
        · rintro (h | h | h)
          · exact .inr (.inl h)
          · exact .inl h
          · exact .inr (.inr h)
theorem sdd_mem (z : Int) : ∀ l : List Int, z ∈ sdd l ↔ z ∈ l
  | [] => by simp [sdd]
  | x :: r => by
    show z ∈ ins0 x (sdd r) ↔ _
    rw [ins0_mem, sdd_mem z r, List.mem_cons]
theorem ins0_sorted (x : Int) : ∀ l : List Int, l.Pairwise (· < ·) → (ins0 x l).Pairwise (· < ·)
  | [], _ => List.pairwise_singleton _ _
  | y :: r, h => by
    unfold ins0
    have h0 := h
    rw [List.pairwise_cons] at h
    split
    · rename_i q
      refine List.pairwise_cons.mpr ⟨fun z hz => ?_, h0⟩
      rcases List.mem_cons.mp hz with e | e
      · rw [e]; exact q
      · exact Int.lt_trans q (h.1 z e)
    · split
      · exact h0
      · rename_i q1 q2
        refine List.pairwise_cons.mpr ⟨fun z hz => ?_, ins0_sorted x r h.2⟩
        rcases (ins0_mem x z r).mp hz with e | e
        · rw [e]; omega
        · exact h.1 z e
theorem sdd_sorted : ∀ l : List Int, (sdd l).Pairwise (· < ·)
  | [] => .nil
  | x :: r => ins0_sorted x _ (sdd_sorted r)
theorem rising_one : ∀ {l m : List Int}, (∀ z, z ∈ l ↔ z ∈ m) → l.Pairwise (· < ·) → m.Pairwise (· < ·) → l = m
  | [], [], _, _, _ => rfl
  | [], y :: m, h, _, _ => nomatch (h y).mpr (List.mem_cons_self ..)
  | x :: l, [], h, _, _ => nomatch (h x).mp (List.mem_cons_self ..)
  | x :: l, y :: m, h, h1, h2 => by
    rw [List.pairwise_cons] at h1 h2
    have e : x = y := by
      rcases List.mem_cons.mp ((h x).mp (List.mem_cons_self ..)) with a | a
      · exact a
      · rcases List.mem_cons.mp ((h y).mpr (List.mem_cons_self ..)) with b | b
        · exact b.symm
        · have := h1.1 y b
          have := h2.1 x a
          omega
    subst e
    refine congrArg _ (rising_one (fun z => ⟨fun hz => ?_, fun hz => ?_⟩) h1.2 h2.2)
    · rcases List.mem_cons.mp ((h z).mp (List.mem_cons_of_mem _ hz)) with a | a
      · have := h1.1 z hz; omega
      · exact a
    · rcases List.mem_cons.mp ((h z).mpr (List.mem_cons_of_mem _ hz)) with a | a
      · have := h2.1 z hz; omega
      · exact a
def pairC : PyData → Option Int
  | .tuple [.int x, .int y] => if (decide (0 ≤ x) && decide (x < 64) && decide (0 ≤ y) && decide (y < 64)) = true then some (x * 64 + y) else none
  | _ => none
def pairsC : List PyData → Option (List Int)
  | [] => some []
  | d :: r => (pairC d).bind fun c => (pairsC r).map (c :: ·)
def decP (c : Int) : PyData := .tuple [.int (c / 64), .int (c % 64)]
def ssetI (ds : List PyData) : Option Rv := (intsD ds).bind fun ns => if ns.length < 64 then some (.new ((sdd ns).map PyData.int)) else none
def ssetP (ds : List PyData) : Option Rv := (pairsC ds).bind fun cs => if cs.length < 64 then some (.new ((sdd cs).map decP)) else none
def ssetD : PyData → Option Rv
  | .list ds => (ssetI ds).or (ssetP ds)
  | .tuple ds => ssetI ds
  | _ => none
section
variable {X : Cx}
theorem kset (K : PySem.W.Frag) (P : Program) (w : World) (hK : X.K = K) (hP : X.prog = P) (hw : X.w = w) (hc : X.calm = true) (hu : X.A.units + 64 < cLine) : CallR X (.type "set") (cOr (rSetI K w) (rSetOfT K P w)) := by
  subst hK hP hw
  exact call_two (cr_setI hc) (cr_setOfT hc hu)
theorem ksrt (K : PySem.W.Frag) (P : Program) (w : World) (hK : X.K = K) (hP : X.prog = P) (hw : X.w = w) (hc : X.calm = true) : CallR X (.builtin "sorted") (cOr (rSortedSet w) (rSortedT K P w)) := by
  subst hK hP hw
  exact call_two (cr_sortedSet hc) (cr_sortedT hc)
end
section
variable {K : PySem.W.Frag} {mg : Str → Option Value} {E : XW} {G G' H H' : Hp} {σ σ' : L2.St} {ρ ρ' : Env} {P : Program} {w : World}
theorem Ab.more {C : Cn} {p : Addr} {o : HO} (A : Ab C G σ H ρ) (hp : H p = none) : Ab C G σ (upd H p o) ρ := A.grow (Ex.refl G) (Ex.new hp) (A.exG.trans (Ex.new hp)) A.dis fun i a h => A.notG h
def tSset (K : PySem.W.Frag) (P : Program) (w : World) (ta : TE) : TE := tCB (cOr (rSortedSet w) (rSortedT K P w)) (tCons (tCB (cOr (rSetI K w) (rSetOfT K P w)) (tCons ta tNil)) tNil)
def mSset (m : M PyData) : M Rv := mBind m fun d => mOpt (ssetD d)
/-- the pairs as they lie -/
theorem pairs_lie : ∀ {vs : List V} {ds : List PyData} {cs : List Int}, DtA K G vs ds → pairsC ds = some cs → ∃ ks : List (Addr × List Int), vs = ks.map (fun p => V.ref p.1) ∧ ks.length = cs.length ∧ (∀ p ∈ ks, SqT K G p.1 (p.2.map V.int) ∧ p.2.length = 2 ∧ TS.Bd 64 p.2) ∧ ks.map (fun p => TS.code 64 p.2) = cs
  | _, _, _, .nil, q => by
    cases q
    exact ⟨[], rfl, rfl, fun p hp => (List.not_mem_nil hp).elim, rfl⟩
  | _, _, cs, @DtA.cons _ _ v vs d ds h1 h2, q => by
    have q : (pairC d).bind (fun c => (pairsC ds).map (c :: ·)) = some cs := q
    cases q1 : pairC d with
    | none => rw [q1] at q; cases q
    | some c =>
      rw [q1] at q
      cases q2 : pairsC ds with
      | none => rw [q2] at q; cases q
      | some r =>
        rw [q2] at q
        cases q
        obtain ⟨ks, e1, e2, e3, e4⟩ := pairs_lie h2 q2
        unfold pairC at q1
        split at q1
        · rename_i x y
          split at q1
          · rename_i hb
            cases q1
            rw [Bool.and_eq_true, Bool.and_eq_true, Bool.and_eq_true] at hb
            have b1 := of_decide_eq_true hb.1.1.1
            have b2 := of_decide_eq_true hb.1.1.2
            have b3 := of_decide_eq_true hb.1.2
            have b4 := of_decide_eq_true hb.2
            obtain ⟨a, rfl, ha⟩ := h1.intsT (ns := [x, y]) rfl
            refine ⟨(a, [x, y]) :: ks, by rw [e1]; rfl, by rw [List.length_cons, e2]; rfl, fun p hp => ?_, ?_⟩
            · rcases List.mem_cons.mp hp with z | z
              · subst z
                refine ⟨ha, rfl, fun m hm => ?_⟩
                rcases List.mem_cons.mp hm with z | z
                · rw [z]; exact ⟨b1, b2⟩
                · rw [List.mem_singleton.mp z]; exact ⟨b3, b4⟩
              · exact e3 p z
            · rw [List.map_cons, e4, L2.code_pair]
          · cases q1
        · cases q1
theorem dec_code {ns : List Int} (h2 : ns.length = 2) (hb : TS.Bd 64 ns) : decP (TS.code 64 ns) = .tuple (ns.map PyData.int) := by
  match ns, h2 with
  | [x, y], _ =>
    have b1 := hb x (List.mem_cons_self ..)
    have b2 := hb y (List.mem_cons_of_mem _ (List.mem_cons_self ..))
    rw [L2.code_pair]
    unfold decP
    rw [show (x * 64 + y) / 64 = x by omega, show (x * 64 + y) % 64 = y by omega]
    rfl
theorem code_inj {ns ms : List Int} (h1 : ns.length = 2) (h2 : ms.length = 2) (b1 : TS.Bd 64 ns) (b2 : TS.Bd 64 ms) (e : TS.code 64 ns = TS.code 64 ms) : ns = ms := by
  match ns, h1, ms, h2 with
  | [x, y], _, [u, v], _ =>
    have c1 := b1 x (List.mem_cons_self ..)
    have c2 := b1 y (List.mem_cons_of_mem _ (List.mem_cons_self ..))
    have c3 := b2 u (List.mem_cons_self ..)
    have c4 := b2 v (List.mem_cons_of_mem _ (List.mem_cons_self ..))
    rw [L2.code_pair, L2.code_pair] at e
    rw [show x = u by omega, show y = v by omega]
theorem sx_sset {t : TE} {m : M PyData} (h : SE K mg E t m) : SX K mg E (tSset K P w t) (mSset m) := fun B L G σ H ρ Q A w0 => by
  refine h B L G σ H ρ _ A ((WR.bind w0).mono fun G1 H1 ρ1 d e1 A1 k v hv => ?_)
  obtain ⟨z, q, k2⟩ := WR.opt k
  have byInts : ∀ {a : Addr} {xs : List V} {ds : List PyData}, v = .ref a → (SqL K H1 a xs ∨ SqT K H1 a xs) → DtA K G1 xs ds → ssetI ds = some z →
      cOr (rSetI K w) (rSetOfT K P w) [v] H1 fun y H2 => cOr (rSortedSet w) (rSortedT K P w) [y] H2 Q := fun {a xs ds} ev hs hd q => by
    unfold ssetI at q
    cases q1 : intsD ds with
    | none => rw [q1] at q; cases q
    | some ns =>
      rw [q1] at q
      have q : (if ns.length < 64 then some (Rv.new ((sdd ns).map PyData.int)) else none) = some z := q
      by_cases hl : ns.length < 64
      · rw [if_pos hl] at q
        cases q
        rw [intsD_inv q1] at hd
        rw [hd.ints] at hs
        refine .inl ⟨a, ns, by rw [ev], hs, hl, fun b c hb hc => ?_⟩
        refine .inl ⟨b, _, c, rfl, upd_same, by omega, fun ns' p srt mem len hp => ?_⟩
        have e : ns' = sdd ns := rising_one (fun y => by rw [mem, sdd_mem]; exact decide_eq_true_iff) srt (sdd_sorted ns)
        subst e
        have T := (A1.more hb).fresh hp (DtA.ofInts (K := K) (G := G1) (sdd ns))
        exact k2 _ _ (Ex.refl _) T.1 _ T.2
      · rw [if_neg hl] at q; cases q
  cases d with
  | list ds =>
    obtain ⟨a, xs, rfl, h1, h2⟩ := hv.lst_inv
    have q : (ssetI ds).or (ssetP ds) = some z := q
    rcases or_inv q with q | q
    · exact byInts rfl (.inl (SqL.of (A1.exG _ _ h1))) h2 q
    · unfold ssetP at q
      cases q1 : pairsC ds with
      | none => rw [q1] at q; cases q
      | some cs =>
        rw [q1] at q
        have q : (if cs.length < 64 then some (Rv.new ((sdd cs).map decP)) else none) = some z := q
        by_cases hl : cs.length < 64
        · rw [if_pos hl] at q
          cases q
          obtain ⟨ks, rfl, f1, f2, f3⟩ := pairs_lie h2 q1
          refine .inr ⟨a, ks, rfl, SqL.of (A1.exG _ _ h1), fun p hp => Evl.ex_t A1.exG (f2 p hp).1, by rw [f1]; exact hl, fun b L' hb g1 g2 => ?_⟩
          refine .inr ⟨b, L', 2, 64, rfl, upd_same, fun p hp => Evl.ex_t (A1.exG.trans (Ex.new hb)) (f2 p (g1 p hp)).1, by decide, fun p hp => (f2 p (g1 p hp)).2, fun M p pm nd len srt hp => ?_⟩
          have mk : ∀ r ∈ M, r ∈ ks := fun r hr => g1 r (pm.mem_iff.mp hr)
          have nd2 : (M.map fun r => TS.code 64 r.2).Nodup := by
            have e : (M.map fun r => TS.code 64 r.2) = (M.map (·.2)).map (TS.code 64) := by rw [List.map_map]; rfl
            rw [e]
            refine List.pairwise_map.mpr (List.Pairwise.imp_of_mem (fun {x y} hx hy hne e => hne ?_) nd)
            obtain ⟨r1, m1, rfl⟩ := List.mem_map.mp hx
            obtain ⟨r2, m2, rfl⟩ := List.mem_map.mp hy
            exact code_inj (f2 r1 (mk r1 m1)).2.1 (f2 r2 (mk r2 m2)).2.1 (f2 r1 (mk r1 m1)).2.2 (f2 r2 (mk r2 m2)).2.2 e
          have st : (M.map fun r => TS.code 64 r.2).Pairwise (· < ·) := by
            refine (List.Pairwise.and (List.pairwise_map.mpr srt) nd2).imp fun {x y} h => ?_
            have := h.1
            have := h.2
            omega
          have e : (M.map fun r => TS.code 64 r.2) = sdd cs := by
            refine rising_one (fun y => ?_) st (sdd_sorted cs)
            rw [sdd_mem, ← f3]
            constructor
            · intro hy
              obtain ⟨r, hr, rfl⟩ := List.mem_map.mp hy
              exact List.mem_map.mpr ⟨r, mk r hr, rfl⟩
            · intro hy
              obtain ⟨r, hr, rfl⟩ := List.mem_map.mp hy
              obtain ⟨r2, hr2, e2⟩ := List.mem_map.mp (g2 r hr)
              exact List.mem_map.mpr ⟨r2, pm.mem_iff.mpr hr2, by rw [e2]⟩
          have dd : DtA K G1 (M.map fun q => V.ref q.1) ((sdd cs).map decP) := by
            rw [← e, List.map_map]
            clear pm nd len srt hp nd2 st e
            induction M with
            | nil => exact .nil
            | cons r M ih =>
              have hr := f2 r (mk r (List.mem_cons_self ..))
              refine .cons ?_ (ih fun x hx => mk x (List.mem_cons_of_mem _ hx))
              show Dt K G1 (.ref r.1) (decP (TS.code 64 r.2))
              rw [dec_code hr.2.1 hr.2.2]
              exact .tup hr.1 (DtA.ofInts r.2)
          have T := (A1.more hb).fresh hp dd
          exact k2 _ _ (Ex.refl _) T.1 _ T.2
        · rw [if_neg hl] at q; cases q
  | tuple ds =>
    obtain ⟨a, xs, rfl, h1, h2⟩ := hv.tup_inv
    exact byInts rfl (.inr (Evl.ex_t A1.exG h1)) h2 q
  | none => cases q
  | bool _ => cases q
  | int _ => cases q
  | str _ => cases q
  | dict _ => cases q
end
end Hue
-- Hue11
namespace Hue
open PySem PySem.Spec PyProof.Rows L2
open Evl (Ex)

/-! ### repr -/
mutual
def noL : PyData → Bool
  | .list _ => false
  | .tuple ds => noLA ds
  | .dict ds => noLK ds
  | .none => true
  | .bool _ => true
  | .int _ => true
  | .str _ => true
def noLA : List PyData → Bool
  | [] => true
  | d :: r => noL d && noLA r
def noLK : List (PyData × PyData) → Bool
  | [] => true
  | (_, d) :: r => noL d && noLK r
end
section
variable {X : Cx} {pins : List (Addr × Obj)} {σ : L2.St} {H : Hp} {s : Shared}
mutual
theorem Dt.reads (I : L2.Inv X pins σ H s) : ∀ {v : V} {d : PyData} {u : Value}, Dt X.K H v d → RelV v u → ∃ as, Reads s.heap u d as ∧ (noL d = true → sysModules ∉ as)
  | _, _, _, .non, r => by cases r; exact ⟨[], .none, fun _ z => nomatch z⟩
  | _, _, _, .bl b, r => by cases r; exact ⟨[], .bool b, fun _ z => nomatch z⟩
  | _, _, _, .int i, r => by obtain ⟨t, rfl⟩ := r; exact ⟨[], .int i t, fun _ z => nomatch z⟩
  | _, _, _, .str x, r => by obtain ⟨t, rfl⟩ := r; exact ⟨[], .str x t, fun _ z => nomatch z⟩
  | _, _, _, .lst h1 h2, r => by
    cases r
    obtain ⟨its, rv, ⟨o, n, ho, hc, _, hd⟩, _⟩ := I.list (SqL.of h1)
    obtain ⟨as, hr, _⟩ := DtA.reads I h2 rv
    exact ⟨_, .list ho hc hd hr, fun z => by simp [noL] at z⟩
  | _, _, _, .tup h1 h2, r => by
    cases r
    obtain ⟨its, rv, ⟨o, ho, hc, n, hd⟩, _⟩ := I.tuple h1
    obtain ⟨as, hr, k⟩ := DtA.reads I h2 rv
    exact ⟨_, .tuple ho hc hd hr, fun z => k (by simpa [noL] using z)⟩
  | _, _, _, @Dt.dct _ _ a kvs ds h1 h2, r => by
    cases r
    obtain ⟨_, hs, vs, rv, o, es, ep, ho, hx, hd, _, pr, _⟩ := (show ObjOk X.prog X.w H s.heap a (.dK kvs) from h1.ok I.hok)
    obtain ⟨as, bs, q1, q2, k⟩ := DtK.reads I h2 rv pr
    refine ⟨_, .dict ho hx.1 hd q1 q2, fun z m => ?_⟩
    have z : noLK ds = true := by simpa [noL] using z
    rcases List.mem_append.mp m with m | m
    · rcases List.mem_cons.mp m with m | m
      · rw [← m] at hs; exact absurd hs (by decide)
      · exact (k z).1 m
    · exact (k z).2 m
theorem DtA.reads (I : L2.Inv X pins σ H s) : ∀ {vs : List V} {ds : List PyData} {us : List Value}, DtA X.K H vs ds → Vals vs us → ∃ as, ReadsAll s.heap us ds as ∧ (noLA ds = true → sysModules ∉ as)
  | _, _, _, .nil, r => by cases r; exact ⟨[], .nil, fun _ z => nomatch z⟩
  | _, _, _, .cons h1 h2, r => by
    cases r with
    | cons r1 r2 =>
      obtain ⟨as, q1, k1⟩ := Dt.reads I h1 r1
      obtain ⟨bs, q2, k2⟩ := DtA.reads I h2 r2
      refine ⟨_, .cons q1 q2, fun z m => ?_⟩
      rw [noLA, Bool.and_eq_true] at z
      rcases List.mem_append.mp m with m | m
      · exact k1 z.1 m
      · exact k2 z.2 m
theorem DtK.reads (I : L2.Inv X pins σ H s) : ∀ {kvs : List (Key × V)} {ds : List (PyData × PyData)} {vs : List (Key × Value)} {es : List DictEntry}, DtK X.K H kvs ds → KV kvs vs → Pairs (mixKind X.prog X.w) es vs →
    ∃ as bs, ReadsAll s.heap (es.map (·.key)) (ds.map (·.1)) as ∧ ReadsAll s.heap (es.map (·.val)) (ds.map (·.2)) bs ∧ (noLK ds = true → sysModules ∉ as ∧ sysModules ∉ bs)
  | _, _, _, _, .nil, r, p => by
    cases r; cases p
    exact ⟨[], [], .nil, .nil, fun _ => ⟨List.not_mem_nil, List.not_mem_nil⟩⟩
  | _, _, _, _, @DtK.cons _ _ k v r d ds h1 h2, rr, p => by
    cases rr with
    | cons r1 r2 =>
      cases p with
      | @cons en kv _ _ p1 p2 p3 =>
        obtain ⟨as, bs, q1, q2, kk⟩ := DtK.reads I h2 r2 p3
        obtain ⟨e1, e2⟩ := r1
        obtain ⟨cs, q3, k3⟩ := Dt.reads I h1 e2
        have key : ∃ fs, Reads s.heap en.key (keyD k) fs ∧ sysModules ∉ fs := by
          rw [← e1] at p1
          rcases keyIs_shape p1 with ⟨i, t, ek, ev⟩ | ⟨x, t, ek, ev⟩
          · simp only at ek
            rw [ek, ev]; exact ⟨[], .int i t, fun z => nomatch z⟩
          · simp only at ek
            rw [ek, ev]; exact ⟨[], .str x t, fun z => nomatch z⟩
        obtain ⟨fs, q4, k4⟩ := key
        refine ⟨_, _, .cons q4 q1, ReadsAll.cons (v := en.val) (d := d) (by rw [p2]; exact q3) q2, fun z => ?_⟩
        rw [noLK, Bool.and_eq_true] at z
        refine ⟨fun m => ?_, fun m => ?_⟩
        · rcases List.mem_append.mp m with m | m
          · exact k4 m
          · exact (kk z.2).1 m
        · rcases List.mem_append.mp m with m | m
          · exact k3 z.1 m
          · exact (kk z.2).2 m
end
end
def shw (d : PyData) : Bool := d.showable && decide (d.depth ≤ 60) && decide (d.shown.length ≤ 100000) && (!d.hasDict || noL d)
section
variable {X : Cx}
def rRepr (K : PySem.W.Frag) : List V → Hp → VK → Prop := fun xs H Q => ∃ v d, xs = [v] ∧ Dt K H v d ∧ shw d = true ∧ Q (.str d.shown) H
theorem krepr {k : Nat} (K : PySem.W.Frag) (hK : X.K = K) (hg : X.A.guards = some []) (hr : Room k X.A) : CallR X (.builtin "repr") (rRepr K) := by
  subst hK
  intro pins s σ H xs us Q I r h
  obtain ⟨v, d, rfl, hd, hs, q⟩ := h
  obtain ⟨u, rfl, rx⟩ := vals1 r
  unfold shw at hs
  rw [Bool.and_eq_true, Bool.and_eq_true, Bool.and_eq_true] at hs
  have s1 := hs.1.1.1
  have s2 := of_decide_eq_true hs.1.1.2
  have s3 : d.shown.length ≤ sizeLine := Evl.sz_of (of_decide_eq_true hs.1.2)
  have un := hr.un
  cases hd with
  | non => cases rx; exact PySem.P.repr_of_none ⟨.str _, H, I.tok _, ⟨_, rfl⟩, q⟩
  | bl b => cases rx; exact PySem.P.repr_of_bool ⟨.str _, H, I.tok _, ⟨_, rfl⟩, q⟩
  | int i =>
    obtain ⟨t, rfl⟩ := rx
    exact PySem.P.repr_of_int (by simpa [PyData.showable] using s1) ⟨.str _, H, I.tok _, ⟨_, rfl⟩, q⟩
  | str x =>
    obtain ⟨t, rfl⟩ := rx
    exact PySem.P.repr_of_str ⟨.str _, H, I.tok _, ⟨_, rfl⟩, q⟩ (by simpa [PyData.shown] using s3)
  | @lst a ys ds h1 h2 =>
    cases rx
    obtain ⟨as, hr', k⟩ := Dt.reads I (.lst h1 h2) (rfl : RelV (.ref a) (.ref a))
    refine repr_of_reads' hr' s1 (fun z => ?_) hg (by omega) (fun _ _ e => e) (fun h' u tk hk => ⟨.str _, H, I.kept (t' := tk) hk, ⟨_, rfl⟩, q⟩) s3
    have y := hs.2
    rw [z, Bool.not_true, Bool.false_or] at y
    exact k y
  | @tup a ys ds h1 h2 =>
    cases rx
    obtain ⟨as, hr', k⟩ := Dt.reads I (.tup h1 h2) (rfl : RelV (.ref a) (.ref a))
    refine repr_of_reads' hr' s1 (fun z => ?_) hg (by omega) (fun _ _ e => e) (fun h' u tk hk => ⟨.str _, H, I.kept (t' := tk) hk, ⟨_, rfl⟩, q⟩) s3
    have y := hs.2
    rw [z, Bool.not_true, Bool.false_or] at y
    exact k y
  | @dct a ys ds h1 h2 =>
    cases rx
    obtain ⟨as, hr', k⟩ := Dt.reads I (.dct h1 h2) (rfl : RelV (.ref a) (.ref a))
    refine repr_of_reads' hr' s1 (fun z => ?_) hg (by omega) (fun _ _ e => e) (fun h' u tk hk => ⟨.str _, H, I.kept (t' := tk) hk, ⟨_, rfl⟩, q⟩) s3
    have y := hs.2
    rw [z, Bool.not_true, Bool.false_or] at y
    exact k y
end
section
variable {K : PySem.W.Frag} {mg : Str → Option Value} {E : XW}
def reprD : List PyData → Option Rv
  | [d] => if shw d = true then some (.dat (.str d.shown)) else none
  | _ => none
theorem cas_repr : CaS K (rRepr K) reprD := fun mg B L G σ H ρ vs ds z Q A hv hz k => by
  unfold reprD at hz
  split at hz
  · rename_i d
    by_cases q : shw d = true
    · rw [if_pos q] at hz; cases hz
      obtain ⟨v, rfl, h1⟩ := hv.one
      exact ⟨v, d, rfl, h1.mono A.exG, q, k _ G H (Ex.refl G) A (.str _)⟩
    · rw [if_neg q] at hz; cases hz
  · cases hz
end

/-! ### the law itself, as it is called -/
section
variable {P : Program} {w : World} {K : PySem.W.Frag} {mg : Str → Option Value} {base : Heap}
/-- one call of a def, at the place where it stands -/
theorem run_at {x qual : Str} {st : Stmt} {f : Addr} {fd : FuncData} {N ps : List Str} {k : Nat} {A : Around} {outer : List PySem.Env} {s : Shared} {H : Hp} {us : List Value} {vs : List V} {Q : VK} {E : XK} (F : Fun K x qual st f fd) (S : FnScope N ps (defScope st))
    (hr : Room (k + 1) A) (e0 : Env0 P w K mg base A outer s H) (hb : BindsTo s fd ⟨us, []⟩ (ps.zip us)) (r : Vals vs us) (hl : vs.length = ps.length)
    (h : ∀ cdv, ∃ t, PSs (cxOf CX0 P w K mg base N qual (defScope st) f cdv A outer s H E).nox (defBody st) t ∧ t { nx := fun _ H' => Q .non H', rt := Q } (L2.start N vs) H) :
    codeAny (model P w) A (.call (.ref f) ⟨us, []⟩) (CR CX0 outer P w H s Q E) s := by
  obtain ⟨oc, od, kV, doc, pm, an, cdv, ct, osl, rfl, lk, hcd⟩ := F.ex
  have kin : K.In s.heap := e0.mod.kin.keeps fun b o e => (e0.bs b o e).1
  have lim : s.heap.NoLimit := e0.mod.nolimit.keeps fun b o e => (e0.bs b o e).1
  have kinds : ∀ y ∈ ps.zip us, (defScope st).names.lookup y.1 = some .local ∨ ((defScope st).names.lookup y.1 = some .cell ∧ ((cellsFrom (s.heap.objs.size + 1) (defScope st).names []).lookup y.1).isSome = true) := by
    rintro ⟨n, v⟩ hy
    rcases S.par n (List.of_mem_zip hy).1 with q | q
    · exact Or.inl q
    · exact Or.inr ⟨q, PySem.W.cellsFrom_some _ _ _ (Or.inl q)⟩
  refine codeAny_call_function hr.depth (kin _ _ lk) rfl S.co S.gen rfl (PySem.W.codeRec_of kin hcd) (hb _ _ _ _ (wpAny_newFunctionEnv_cells S.kind kinds fun env he s1 x => ?_))
  subst he
  obtain ⟨t, ht, hq⟩ := h cdv
  refine ⟨lim.keeps x.toInCall.keep, codeAny_func (wpAny_mono (ht.nox.run [] s1 (L2.start N vs) H _ (inv_start S hr.hd e0 hl r x) hq) (fun fl s' hs => ?_) fun e s' hs => hs)⟩
  cases fl with
  | ret u => obtain ⟨v, _, H', J, rv, q⟩ := hs; exact ⟨v, H', J.os, J.bare, J.base, J.hok, rv, q⟩
  | next => obtain ⟨_, H', J, q⟩ := hs; exact ⟨.non, H', J.os, J.bare, J.base, J.hok, rfl, q⟩
  | brk => obtain ⟨_, _, _, q⟩ := hs; exact q.elim
  | cont => obtain ⟨_, _, _, q⟩ := hs; exact q.elim
/-- what is asked of the law's own def: at the heap behind the top it hands back True -/
def LawOk (P : Program) (w : World) (K : PySem.W.Frag) (mg : Str → Option Value) (fa : Addr) (fd : FuncData) (n : Nat) : Prop := ∀ (base : Heap) (s : Shared) (H : Hp) (a : Addr) (ns : List Int), K.In base → base.Ns mainGlobals mg → ns.length ≤ n → Only H → SqL K H a (ns.map V.int) →
  Env0 P w K mg base callerA [] s H → codeAny (model P w) callerA (.call (.ref fa) ⟨[.ref a], []⟩) (CR CX0 [] P w H s (fun v _ => v = .bl true) (fun _ _ _ => False)) s
theorem law_go {mb : Str → Option Value} {fa a : Addr} {fd : FuncData} {n : Nat} {s : Shared} {vs : List Value} {ns : List Int} (kx : K.In s.heap) (hns : s.heap.Ns mainGlobals mg) (hb : s.heap.Ns builtinsNs mb) (hbb : ∀ x : Str, x ≠ "__name__" → mb x = bootBuiltins x)
    (hlim : s.heap.NoLimit) (hg : s.gens = #[]) (ha : s.heap.get? a = some { cls := .type "list", data := .seq vs.toArray }) (hi : IntsAre vs ns) (hl : ns.length ≤ n) (hz : n ≤ sizeLine) (F : LawOk P w K mg fa fd n) :
    codeAny (model P w) callerA (.call (.ref fa) ⟨[.ref a], []⟩) (fun r s' => r = .ok (.ret (.bool true)) ∧ OldK s.heap s'.heap ∧ s'.os = s.os ∧ AllBare s'.gens) s := by
  have rv := vals_ints hi
  have zl : (ns.map V.int).length ≤ sizeLine := by rw [List.length_map]; exact Nat.le_trans hl hz
  suffices main : ∀ H : Hp, Only H → SqL K H a (ns.map V.int) → HOk P w H s.heap → (∀ b, H b ≠ none → b = a ∧ K.lookup a = none) →
      codeAny (model P w) callerA (.call (.ref fa) ⟨[.ref a], []⟩) (fun r s' => r = .ok (.ret (.bool true)) ∧ OldK s.heap s'.heap ∧ s'.os = s.os ∧ AllBare s'.gens) s by
    cases hk : K.lookup a with
    | some o =>
      have e := kx a o hk
      rw [ha] at e
      cases e
      refine main (fun _ => none) (fun _ => Or.inl rfl) (Or.inr ⟨_, vs.toArray, _, hk, rfl, rfl, rfl, ?_, by simpa using rv⟩) (fun b u z => by cases (show (none : Option HO) = some u from z)) fun b z => absurd rfl z
      rw [List.size_toArray, ← rv.length]
      exact zl
    | none =>
      refine main (upd (fun _ => none) a (.frz { cls := .type "list", data := .seq vs.toArray } (.lst (ns.map V.int)))) (fun b => ?_) (Or.inl (Or.inr ⟨_, upd_same⟩)) (fun b u z => ?_) fun b z => ?_
      · by_cases e : b = a
        · subst e; exact Or.inr ⟨_, _, upd_same⟩
        · rw [upd_ne e]; exact Or.inl rfl
      · by_cases e : b = a
        · subst e; rw [upd_same] at z; cases z; exact ⟨ha, zl, vs, _, rv, ha⟩
        · rw [upd_ne e] at z; cases z
      · by_cases e : b = a
        · exact ⟨e, hk⟩
        · rw [upd_ne e] at z; exact absurd rfl z
  intro H only sq ok few
  have keep : ∀ {b : Addr} {o : Obj}, s.heap.get? b = some o → H b = none → (hidT s.heap H).get? b = some o := fun e z => hidT_get e z
  have free : ∀ {b : Addr} {o : Obj} {es : Array DictEntry} {ep : Nat}, s.heap.get? b = some o → o.data = .dict es ep → H b = none := fun {b o es ep} e d => by
    cases q : H b with
    | none => rfl
    | some u =>
      obtain ⟨rfl, _⟩ := few b (by rw [q]; intro z; cases z)
      rw [ha] at e; cases e
      cases (show Data.seq vs.toArray _ = Data.dict es ep from d)
  have ns' : ∀ {b : Addr} {m : Str → Option Value}, s.heap.Ns b m → (hidT s.heap H).Ns b m := fun ⟨o, es, ep, e, d, z⟩ => ⟨o, es, ep, keep e (free e d), d, z⟩
  have kb : K.In (hidT s.heap H) := fun b o e => by
    refine keep (kx b o e) ?_
    cases q : H b with
    | none => rfl
    | some u =>
      obtain ⟨rfl, z⟩ := few b (by rw [q]; intro z; cases z)
      rw [z] at e; cases e
  obtain ⟨mc, l1, l2⟩ := hlim
  have e0 : Env0 P w K mg (hidT s.heap H) callerA [] s H := ⟨rfl, ⟨kb, ns' hns, ⟨mb, ns' hb, hbb⟩, ⟨mc, ns' l1, l2⟩⟩, fun b o e => of_hidT e, Nat.le_of_eq (hidT_size _ _), trivial, fun b z => absurd (show b ∈ ([] : List Addr) from z) List.not_mem_nil, ok, .of_eq hg⟩
  refine codeAny_mono (F (hidT s.heap H) s H a ns kb (ns' hns) hl only sq e0) fun r s' q => ?_
  cases r with
  | error e => exact q.elim
  | ok fl =>
    cases fl with
    | next => exact q.elim
    | brk => exact q.elim
    | cont => exact q.elim
    | ret u =>
      obtain ⟨v, H', os, bare, un, ok', r', q⟩ := q
      obtain rfl : v = .bl true := q
      obtain rfl : u = Value.bool true := r'
      refine ⟨rfl, OldK.of_keep fun b o e => ?_, os, bare⟩
      cases q : H b with
      | none => exact un.keep b o e q (fun z => absurd (show b ∈ ([] : List Addr) from z) List.not_mem_nil) List.not_mem_nil
      | some u =>
        rcases only b with z | ⟨ob, xs, z⟩
        · rw [q] at z; cases z
        · obtain ⟨g1, _⟩ := ok b _ z
          obtain ⟨g2, _⟩ := ok' b _ (un.frzs b ob _ z)
          rw [e] at g1; cases g1
          exact g2
end
theorem walk_law {l : PySem.W.OpenLaw} {n : Nat} {q : Program} {loose : List Str} {XP : (Str → Option Value) → Heap → Prop} {YP : World → Heap → Prop} {d : DefRec} {K : Params → PySem.W.Frag} (hn : l.most = some n) (hz : n ≤ sizeLine) (hdf : d.params.defaults = [])
    (hY : ∀ (w : World) (h : Heap), YP w h → (K w.params).In h)
    (F : ∀ (w : World) (mg : Str → Option Value) (fa : Addr) (h : Heap), (K w.params).In h → h.Ns mainGlobals mg → mg d.name = some (.ref fa) → ∃ fd : FuncData, LawOk l.prog w (K w.params) mg fa fd n) :
    PySem.W.WalkO q loose XP YP l.row.toRowW d [] (fun f vs => PySem.call f vs) := by
  refine Att.attach_call hn hdf fun w s0 s1 mg mb fa o pm cd doc a vs ns G Y ho hd hcd hmg hobj hints hlen hg => ?_
  obtain ⟨fd, hF⟩ := F w mg fa _ (hY w _ Y) G.T.g hmg
  exact law_go (hY w _ Y) G.T.g G.T.b G.T.builtins G.T.nolimit hg hobj hints hlen hz hF
section
variable {P : Program} {w : World} {K : PySem.W.Frag} {mg : Str → Option Value}
/-- the law's def by its flow -/
theorem mkLaw {st : Stmt} {N : List Str} {x : Str} {k n : Nat} {body : PySem.W.Frag → Env → Fl} {f : Addr} {fd : FuncData} (F : Fun K "law" "law" st f fd) (S : FnScope N [x] (defScope st)) (hr : Room (k + 1) callerA) (hb : ∀ (s : Shared) (u : Value), BindsTo s fd ⟨[u], []⟩ [(x, u)])
    (h : ∀ (base : Heap) (cdv : Value) (s : Shared) (H : Hp), (callerA.deeper (envOfC "law" (defScope st) s.heap.objs.size f cdv)).guards = some [] → Room k (callerA.deeper (envOfC "law" (defScope st) s.heap.objs.size f cdv)) →
      ∃ t, PSs (cxOf CX0 P w K mg base N "law" (defScope st) f cdv callerA [] s H E0).nox (defBody st) t ∧ SS K mg (liftE E0) t (body K))
    (good : ∀ ns : List Int, ns.length ≤ n → ∃ as, mkFn N.length (body K) [.scr ns] = .ok (.dat (.bool true)) as) : LawOk P w K mg f fd n := fun base s H a ns hk hg hl only sq e0 => by
  refine run_at (us := [.ref a]) (vs := [.ref a]) F S hr e0 (hb s (.ref a)) (.cons rfl .nil) rfl fun cdv => ?_
  obtain ⟨t, h1, h2⟩ := h base cdv s H rfl (hr.deeper _)
  obtain ⟨as, hf⟩ := good ns hl
  refine ⟨t, h1, fn_body (N := N) (vs := [.ref a]) (Q := fun v _ => v = .bl true) (E := E0) (n := 1) (H := H) h2 ⟨rfl, H, ⟨fun _ => none, some (a, ns)⟩, fun _ => none, [.scr ns], ?_, ?_⟩⟩
  · refine ⟨fun _ _ e => (nomatch e), Ex.refl H, fun _ e => absurd rfl e, fun b ms e => ?_, rfl, fun i z q => ?_, fun i j b h1 h2 => ?_⟩
    · cases e; exact sq
    · cases i with
      | zero => cases q; exact ⟨_, rfl, a, rfl, rfl⟩
      | succ i => cases q
    · obtain ⟨⟨es, h3⟩, _⟩ := h1
      cases i with
      | zero => rcases h3 with h3 | h3 <;> cases h3
      | succ i => rcases h3 with h3 | h3 <;> cases h3
  · rw [hf]
    intro v G' H' e A' hv
    exact (show Dt K G' v (.bool true) from hv).bl_inv
end
end Hue
namespace Hue
open PySem PySem.Spec PyProof.Rows L2
section
variable {K : PySem.W.Frag} {h : Heap} {mg : Str → Option Value}
theorem at_mk {x : Str} {st : Stmt} {ps : List Str} {f : Addr} {oc : Value} {od an : Option Addr} {sl : Array (Option Value)} {kV dc pm cd ct : Value} (X : K.In h) (G : h.Ns mainGlobals mg) (hb : ∀ (kV doc pm : Value) (an : Option Addr) (cdv ct : Value) (us : List Value), us.length = ps.length → bindArgs (PySem.W.fnOf x x (defArgs st) (defBody st) (defScope st) .none kV doc pm an cdv ct) ⟨us, []⟩ = pure (ps.zip us))
    (a : PySem.W.nsIn K mainGlobals x = some (some (.ref f))) (l : K.lookup f = some ⟨oc, od, .func (PySem.W.fnOf x x (defArgs st) (defBody st) (defScope st) .none kV dc pm an cd ct), sl⟩) (c : PySem.W.codeIn K cd x = true) (k : PySem.W.keepIn K (.ref f) = true) : At K mg x st ps :=
  ⟨f, _, fun_mk l c k, PySem.W.mg_of X G a, (fun_mk l c k).binds hb⟩
theorem ci_mk {x : Str} {i : Int} {t : Tok} (X : K.In h) (G : h.Ns mainGlobals mg) (a : PySem.W.nsIn K mainGlobals x = some (some (.int i t))) : CnI mg x i := ⟨t, PySem.W.mg_of X G a⟩
theorem cs_mk {x : Str} {i : Str} {t : Tok} (X : K.In h) (G : h.Ns mainGlobals mg) (a : PySem.W.nsIn K mainGlobals x = some (some (.str i t))) : CnS mg x i := ⟨t, PySem.W.mg_of X G a⟩
end
end Hue
-- Hue12
namespace Hue
open PySem PySem.Spec PyProof.Rows L2
open Evl (Ex)

/-! ### in, not in -/
section
variable {X : Cx}
def rInT (K : PySem.W.Frag) (neg : Bool) : R2 := fun x y H Q => ∃ d e ds, Dp K H x d ∧ Dp K H y e ∧ (e = .list ds ∨ e = .tuple ds) ∧ SeqAt.shaped d = true ∧ SeqAt.shaped e = true ∧ Q (.bl (if neg = true then !ds.any (fun z => PyData.eqv z d) else ds.any fun z => PyData.eqv z d)) H
theorem op_inT (hu : X.A.units + 65 < cLine) : OpR X (compareOp .In) (rInT X.K false) := by
  intro pins s σ H x y v u Q I rx ry h
  obtain ⟨d, e, ds, hd, he, k, sd, se, q⟩ := h
  obtain ⟨as, r1⟩ := Dp.reads I d x v hd rx
  obtain ⟨bs, r2⟩ := Dp.reads I e y u he ry
  have lay := SeqAt.canLay_of_shaped se
  rcases k with rfl | rfl
  · exact SeqAt.in_list_reads r2 r1 lay (SeqAt.canLay_of_shaped sd) (room_in_shaped sd hu) ⟨.bl _, H, I, rfl, q⟩
  · exact SeqAt.in_tuple_reads r2 r1 lay (SeqAt.canLay_of_shaped sd) (room_in_shaped sd hu) ⟨.bl _, H, I, rfl, q⟩
theorem op_notInT (hu : X.A.units + 65 < cLine) : OpR X (compareOp .NotIn) (rInT X.K true) := by
  intro pins s σ H x y v u Q I rx ry h
  obtain ⟨d, e, ds, hd, he, k, sd, se, q⟩ := h
  obtain ⟨as, r1⟩ := Dp.reads I d x v hd rx
  obtain ⟨bs, r2⟩ := Dp.reads I e y u he ry
  have lay := SeqAt.canLay_of_shaped se
  rcases k with rfl | rfl
  · exact SeqAt.notIn_list_reads r2 r1 lay (SeqAt.canLay_of_shaped sd) (room_in_shaped sd hu) ⟨.bl _, H, I, rfl, q⟩
  · exact SeqAt.notIn_tuple_reads r2 r1 lay (SeqAt.canLay_of_shaped sd) (room_in_shaped sd hu) ⟨.bl _, H, I, rfl, q⟩
theorem kop_in (K : PySem.W.Frag) (hK : X.K = K) (hu : X.A.units + 65 < cLine) : OpR X (compareOp .In) (rOr (rInT K false) rInS) := by subst hK; exact op_two (op_inT hu) op_inS
theorem kop_notin (K : PySem.W.Frag) (hK : X.K = K) (hu : X.A.units + 65 < cLine) : OpR X (compareOp .NotIn) (rOr (rInT K true) rNotInS) := by subst hK; exact op_two (op_notInT hu) op_notInS
end
section
variable {K : PySem.W.Frag} {mg : Str → Option Value} {E : XW}
def isIn (d : PyData) (ds : List PyData) : Bool := ds.any fun z => PyData.eqv z d
def fInT : PyData → PyData → Option Rv
  | d, .list ds => if (shp d && shp (.list ds)) = true then some (.dat (.bool (isIn d ds))) else none
  | d, .tuple ds => if (shp d && shp (.tuple ds)) = true then some (.dat (.bool (isIn d ds))) else none
  | _, _ => none
def fNotInT : PyData → PyData → Option Rv
  | d, .list ds => if (shp d && shp (.list ds)) = true then some (.dat (.bool (!isIn d ds))) else none
  | d, .tuple ds => if (shp d && shp (.tuple ds)) = true then some (.dat (.bool (!isIn d ds))) else none
  | _, _ => none
def fInS : PyData → PyData → Option Rv
  | .str x, .str z => match x.cps.toList with
    | [c] => some (.dat (.bool (decide (c ∈ z.cps.toList))))
    | _ => none
  | _, _ => none
def fNotInS : PyData → PyData → Option Rv
  | .str x, .str z => match x.cps.toList with
    | [c] => some (.dat (.bool (!decide (c ∈ z.cps.toList))))
    | _ => none
  | _, _ => none
theorem ops_inT : OpS K (rInT K false) fInT := fun mg B L G σ H ρ x y d e z Q A hx hy hz k => by
  unfold fInT at hz
  split at hz
  · rename_i ds
    by_cases q : (shp d && shp (.list ds)) = true
    · rw [if_pos q] at hz
      cases hz
      rw [Bool.and_eq_true] at q
      exact ⟨d, _, ds, hx.dp A.exG (SeqAt.canLay_of_shaped q.1), hy.dp A.exG (SeqAt.canLay_of_shaped q.2), .inl rfl, q.1, q.2, k _ G H (Ex.refl G) A (.bl _)⟩
    · rw [if_neg q] at hz; cases hz
  · rename_i ds
    by_cases q : (shp d && shp (.tuple ds)) = true
    · rw [if_pos q] at hz
      cases hz
      rw [Bool.and_eq_true] at q
      exact ⟨d, _, ds, hx.dp A.exG (SeqAt.canLay_of_shaped q.1), hy.dp A.exG (SeqAt.canLay_of_shaped q.2), .inr rfl, q.1, q.2, k _ G H (Ex.refl G) A (.bl _)⟩
    · rw [if_neg q] at hz; cases hz
  · cases hz
theorem ops_notInT : OpS K (rInT K true) fNotInT := fun mg B L G σ H ρ x y d e z Q A hx hy hz k => by
  unfold fNotInT at hz
  split at hz
  · rename_i ds
    by_cases q : (shp d && shp (.list ds)) = true
    · rw [if_pos q] at hz
      cases hz
      rw [Bool.and_eq_true] at q
      exact ⟨d, _, ds, hx.dp A.exG (SeqAt.canLay_of_shaped q.1), hy.dp A.exG (SeqAt.canLay_of_shaped q.2), .inl rfl, q.1, q.2, k _ G H (Ex.refl G) A (.bl _)⟩
    · rw [if_neg q] at hz; cases hz
  · rename_i ds
    by_cases q : (shp d && shp (.tuple ds)) = true
    · rw [if_pos q] at hz
      cases hz
      rw [Bool.and_eq_true] at q
      exact ⟨d, _, ds, hx.dp A.exG (SeqAt.canLay_of_shaped q.1), hy.dp A.exG (SeqAt.canLay_of_shaped q.2), .inr rfl, q.1, q.2, k _ G H (Ex.refl G) A (.bl _)⟩
    · rw [if_neg q] at hz; cases hz
  · cases hz
theorem one_sign {x : Str} {c : Nat} (h : x.cps.toList = [c]) : x = ⟨#[c]⟩ := by
  obtain ⟨l⟩ := x
  obtain ⟨l⟩ := l
  cases h
  rfl
theorem ops_inS : OpS K rInS fInS := fun mg B L G σ H ρ x y d e z Q A hx hy hz k => by
  unfold fInS at hz
  split at hz
  · rename_i a b
    split at hz
    · rename_i c q
      cases hz
      have ea := one_sign q
      subst ea
      exact ⟨c, b, hx.str_inv, hy.str_inv, k _ G H (Ex.refl G) A (.bl _)⟩
    · cases hz
  · cases hz
theorem ops_notInS : OpS K rNotInS fNotInS := fun mg B L G σ H ρ x y d e z Q A hx hy hz k => by
  unfold fNotInS at hz
  split at hz
  · rename_i a b
    split at hz
    · rename_i c q
      cases hz
      have ea := one_sign q
      subst ea
      exact ⟨c, b, hx.str_inv, hy.str_inv, k _ G H (Ex.refl G) A (.bl _)⟩
    · cases hz
  · cases hz
def fIn : PyData → PyData → Option Rv := fun d e => (fInT d e).or (fInS d e)
def fNotIn : PyData → PyData → Option Rv := fun d e => (fNotInT d e).or (fNotInS d e)
theorem ops_in : OpS K (rOr (rInT K false) rInS) fIn := ops_two ops_inT ops_inS
theorem ops_notin : OpS K (rOr (rInT K true) rNotInS) fNotIn := ops_two ops_notInT ops_notInS
end
end Hue
-- Hue13
namespace Hue
open PySem PySem.Spec PyProof.Rows L2
open Evl (Ex)

/-! ### calls that may let something out -/
section
variable {K : PySem.W.Frag} {mg : Str → Option Value} {E : XW} {G G' H H' : Hp} {σ σ' : L2.St} {ρ ρ' : Env}
theorem sx_callW {t : TA} {m : M (List PyData)} {n : Nat} {f : Fn} (h : SA K mg E t m) : SX K mg E (tCallS (spF K mg n f) (WE E) t) (mCall n f m) := fun B L G σ H ρ Q A w => by
  refine h B L G σ H ρ _ A ((WR.bind w).mono fun G1 H1 ρ1 ds e1 A1 k vs hv => ?_)
  dsimp only at k
  by_cases hn : ds.length = n
  · rw [if_pos hn] at k
    refine call_data (C := ⟨K, mg, B, L⟩) A1 hv hn ?_
    cases q : f (ds.map Ar.dat) with
    | bad => rw [q] at k; exact k.elim
    | ex x as => rw [q] at k; exact fun cls da G' H' e A' hx => k G' H' cls da e A' hx
    | ok r as => rw [q] at k; exact fun v G' H' e A' hv => k G' H' e A' v hv
  · rw [if_neg hn] at k; exact k.elim
theorem sx_callBW {t : TA} {m : M (List PyData)} {n k : Nat} {f : Fn} (h : SA K mg E t m) : SX K mg E (tCallS (spF K mg n f) (WE E) (tCons (tVar k) t)) (mCallB n f k m) := fun B L G σ H ρ Q A w => by
  have lent : ∀ {a : Addr}, σ[k]? = some (some (.ref a)) → WR ⟨K, mg, B, L⟩ E G σ (fun G' H' ρ' r => ∀ v, RvOk ⟨K, mg, B, L⟩ G' σ H' ρ' v r → Q v H') (mBind m (fun ds ρ1 => if ds.length + 1 = n then match heldAt ρ1 k with
    | some ds0 => frB ρ1 k (f (.lnt ds0 :: ds.map Ar.dat))
    | none => .bad else .bad) ρ) → tCallS (spF K mg n f) (WE E) (tCons (tVar k) t) σ H Q := fun {a} ha w => by
    refine ⟨.ref a, ha, ?_⟩
    refine h B L G σ H ρ _ A ((WR.bind w).mono fun G1 H1 ρ1 ds e1 A1 k1 vs hv => ?_)
    show spF K mg n f (V.ref a :: vs) H1 Q (WE E σ)
    dsimp only at k1
    by_cases hn : ds.length + 1 = n
    · rw [if_pos hn] at k1
      cases hk : heldAt ρ1 k with
      | none => rw [hk] at k1; exact k1.elim
      | some ds0 =>
        rw [hk] at k1
        dsimp only at k1
        refine call_lent (C := ⟨K, mg, B, L⟩) A1 hk ha hv hn ?_
        cases q : f (.lnt ds0 :: ds.map Ar.dat) with
        | bad => rw [q] at k1; exact k1.elim
        | ex x as =>
          rw [q] at k1
          cases as with
          | nil => exact k1.elim
          | cons a1 as =>
            cases a1 with
            | dat _ => exact k1.elim
            | scr _ => exact k1.elim
            | lnt ds1 => exact fun cls da G' H' e A' hx => k1 G' H' cls da e A' hx
        | ok r as =>
          rw [q] at k1
          cases as with
          | nil => exact k1.elim
          | cons a1 as =>
            cases a1 with
            | dat _ => exact k1.elim
            | scr _ => exact k1.elim
            | lnt ds1 => exact fun v G' H' e A' hv => k1 G' H' e A' v hv
    · rw [if_neg hn] at k1; exact k1.elim
  unfold mCallB at w
  split at w
  · rename_i ds e
    obtain ⟨x, h1, a, rfl, _⟩ := A.sl k _ e
    exact lent h1 w
  · rename_i ds e
    obtain ⟨x, h1, a, rfl, _⟩ := A.sl k _ e
    exact lent h1 w
  · rename_i ns e
    obtain ⟨x, h1, a, rfl, h2⟩ := A.sl k _ e
    refine ⟨.ref a, h1, ?_⟩
    refine h B L G σ H ρ _ A ((WR.bind w).mono fun G1 H1 ρ1 ds e1 A1 k1 vs hv => ?_)
    show spF K mg n f (V.ref a :: vs) H1 Q (WE E σ)
    dsimp only at k1
    by_cases hn : ds.length + 1 = n
    · rw [if_pos hn] at k1
      refine call_scr (C := ⟨K, mg, B, L⟩) A1 h2 hv hn ?_
      cases q : f (.scr ns :: ds.map Ar.dat) with
      | bad => rw [q] at k1; exact k1.elim
      | ex x as => rw [q] at k1; exact fun cls da G' H' e A' hx => k1 G' H' cls da e A' hx
      | ok r as => rw [q] at k1; exact fun v G' H' e A' hv => k1 G' H' e A' v hv
    · rw [if_neg hn] at k1; exact k1.elim
  · exact w.elim
/-- in a comprehension, and in the law itself, nothing is let out -/
theorem sx_cx {t : TA} {m : M (List PyData)} {n : Nat} {f : Fn} (h : SA K mg (liftE E0) t m) : SX K mg (liftE E0) (tCall (spF K mg n f) [] E0 t) (mCall n f m) := sx_call (E := E0) h
theorem sx_cxB {t : TA} {m : M (List PyData)} {n k : Nat} {f : Fn} (h : SA K mg (liftE E0) t m) : SX K mg (liftE E0) (tCall (spF K mg n f) [] E0 (tCons (tVar k) t)) (mCallB n f k m) := sx_callB (E := E0) h
/-! ### raise C('..') -/
def mRaise (c : Str) : Env → Fl := fun ρ => .ex ⟨c, none⟩ ρ
theorem ss_raise {c : Str} {C : Addr} (hC : mg c = some (.ref C)) : SS K mg E (fun _ σ H => E (.ref C) none σ H) (mRaise c) := fun B L G σ H ρ D A w => w G σ H (.ref C) none (Ex.refl G) A ⟨hC, rfl⟩
end
section
variable {P : Program} {w : World} {K : PySem.W.Frag} {mg : Str → Option Value} {base : Heap}
def OkX (P : Program) (w : World) (K : PySem.W.Frag) (mg : Str → Option Value) (base : Heap) (k : Nat) (x : Str) (n : Nat) (fn : Fn) (ps : List Str) : Prop :=
  ∃ f fd, FnOk P w K mg base (L2.CX P w) k f fd ps (spF K mg n fn) ∧ mg x = some (.ref f) ∧ PySem.W.keepIn K (.ref f) = true ∧ Binds K fd ps []
theorem mkOkX {x : Str} {st : Stmt} {N ps : List Str} {k n : Nat} {body : Env → Fl} (T : At K mg x st ps) (S : FnScope N ps (defScope st))
    (h : ∀ (f : Addr) (cdv : Value) (A : Around) (outer : List PySem.Env) (s : Shared) (H : Hp) (E : XK), Room k (A.deeper (envOfC x (defScope st) s.heap.objs.size f cdv)) → Takes (cxOf (L2.CX P w) P w K mg base N x (defScope st) f cdv A outer s H E) (liftE E) → PassesOwn (model P w) (cxOf (L2.CX P w) P w K mg base N x (defScope st) f cdv A outer s H E).A (cxOf (L2.CX P w) P w K mg base N x (defScope st) f cdv A outer s H E).env (cxOf (L2.CX P w) P w K mg base N x (defScope st) f cdv A outer s H E).xe →
      ∃ t, PSs (cxOf (L2.CX P w) P w K mg base N x (defScope st) f cdv A outer s H E) (defBody st) t ∧ SS K mg (liftE E) t body) (fn : Fn) (hf : fn = mkFn N.length body) (hn : ps.length = n) : OkX P w K mg base (k + 1) x n fn ps := by
  subst hf
  obtain ⟨f, fd, F, hm, b⟩ := T
  refine ⟨f, fd, F.okX S (fun vs H Q E q => q.1.trans hn.symm) (fun cdv A outer s H vs Q E hr q => ?_), hm, F.kp, b⟩
  obtain ⟨t, h1, h2⟩ := h f cdv A outer s H E hr (takes_of rfl rfl rfl rfl) (passes_of (X := cxOf (L2.CX P w) P w K mg base N x (defScope st) f cdv A outer s H E) rfl)
  exact ⟨t, h1, fn_body (E := E) h2 q⟩
/-- what the text says of an exception class -/
structure ExC (K : PySem.W.Frag) (mg : Str → Option Value) (x : Str) (C : Addr) : Prop where
  g : mg x = some (.ref C)
  x : PySem.W.excIn K C [.type "ValueError", .type "Exception", .type "BaseException", .type "object"] "ValueError.__new__" = true
  k : PySem.W.keepIn K (.ref C) = true
  b : PySem.W.subIn K (.ref C) (.type "BaseException") = some true
  t : PySem.W.typeIn K (.ref C) = some (.type "type")
theorem ps_raiseC {X : Cx} {W : WX} {x m : Str} {C : Addr} {j : Nat} {p p2 pos pos' : Pos} (hc : X.calm = true) (tk : Takes X W) (T : ExC K mg x C) (hK : X.K = K) (hm : X.mg = mg) (hg : Gl X x) (hdb : (x == ("__debug__" : Str)) = false := by decide) :
    PS X (.Raise (some (.Call (.Name x p) [.Constant (.str m) j p2] [] pos)) none pos') (fun _ σ H => W (.ref C) none σ H) := by
  subst hK hm
  exact ps_raise hc tk (pmk_own PySem.F.excBase_ValueError T.x T.g T.k (raises_own T.b T.t) hg hdb)
end
end Hue
-- Hue14
namespace Hue
open PySem PySem.Spec PyProof.Rows L2
open Evl (Ex)

/-! ### xs.count(y) -/
section
variable {X : Cx}
def rCount (K : PySem.W.Frag) : V → List V → Hp → VK → Prop := fun x xs H Q => ∃ (a : Addr) (y : V) (d : PyData) (ds : List PyData), x = V.ref a ∧ xs = [y] ∧ Dp K H (V.ref a) (.list ds) ∧ Dp K H y d ∧
  SeqAt.shaped (.list ds) = true ∧ SeqAt.shaped d = true ∧ Q (.int ((ds.countP fun z => PyData.eqv z d : Nat) : Int)) H
theorem mt_count (hu : X.A.units + 65 < cLine) : MtR X "list.count" (rCount X.K) := by
  intro pins s σ H x xs v us Q I rx rxs h
  obtain ⟨a, y, d, ds, rfl, rfl, hl, hy, sl, sd, q⟩ := h
  cases rx
  cases rxs with
  | cons ry rt =>
    rename_i uy ut
    cases rt
    obtain ⟨bs, r1⟩ := Dp.reads I d y uy hy ry
    have plA : PyData.plainAll ds = true := PyData.plainAll_of_canLay0 ds (SeqAt.canLay_of_shaped sl)
    have pl : d.plain = true := PyData.plain_of_canLay0 d (SeqAt.canLay_of_shaped sd)
    cases hl with
    | lst hs ha =>
      obtain ⟨its, rv, ⟨o, n, ho, hc, hdn, hdt⟩, hlen⟩ := I.list hs
      obtain ⟨as, h4⟩ := Dp.readsAll I ds _ its ha rv
      exact SeqAt.count_list_data (vs := its.toArray) ⟨o, ho, hc, n, hdt⟩ h4 r1 plA pl (room_in_shaped sd hu) ⟨.int _, H, I.tok _, ⟨_, rfl⟩, q⟩
end
/-! ### a def that is handed the caught error -/
open L2H in
structure FnM (P : Program) (w : World) (K : PySem.W.Frag) (mg : Str → Option Value) (base : Heap) (k : Nat) (f : Addr) (fd : FuncData) (x : Str) (tab : Addr → Str → Prop) : Prop where
  run : ∀ (A : Around) (outer : List PySem.Env) (s : Shared) (H : Hp) (args : Args) (Q : VK) (E : XK) (p : Addr × Obj) (D : Addr) (m : Str),
    RoomH k A → PinOk outer H s p → Env0 P w K mg base A outer s H → BindsTo s fd args [(x, .ref p.1)] → Zc (.ref D) none p.2 → (∃ vs, p.2.data = .fields vs) → tab D m → (∀ H', Ex H H' → Q (.str m) H') →
    codeAny (model P w) A (.call (.ref f) args) (CR (L2.CX P w) outer P w H s Q E) s
section
open L2H
variable {P : Program} {w : World} {K : PySem.W.Frag} {mg : Str → Option Value} {base : Heap} {k : Nat} {f : Addr} {fd : FuncData} {x : Str} {tab : Addr → Str → Prop}
theorem fnM_of {qual : Str} {st : Stmt} {N : List Str} (F : Fun K qual qual st f fd) (S : FnScope N [x] (defScope st))
    (hbody : ∀ (cdv : Value) (A : Around) (outer : List PySem.Env) (s : Shared) (H : Hp) (Q : VK) (E : XK) (p : Addr × Obj) (D : Addr) (m : Str), RoomH k (A.deeper (envOfC qual (defScope st) s.heap.objs.size f cdv)) → Zc (.ref D) none p.2 → (∃ vs, p.2.data = .fields vs) → tab D m → (∀ H', Ex H H' → Q (.str m) H') →
      ∃ t, PSs (cxH (L2.CX P w) P w K mg base N qual (defScope st) f cdv A outer s H E p) (defBody st) t ∧ t { nx := fun _ H' => Q .non H', rt := Q } (L2.start N [.ref p.1]) H) : FnM P w K mg base (k + 1) f fd x tab := by
  obtain ⟨oc, od, kV, doc, pm, an, cdv, ct, osl, rfl, lk, hcd⟩ := F.ex
  refine ⟨fun A outer s H args Q E p D m hr hpin e0 hb hz hf ht hq => ?_⟩
  have kin : K.In s.heap := e0.mod.kin.keeps fun b o e => (e0.bs b o e).1
  have nl : s.heap.NoLimit := e0.mod.nolimit.keeps fun b o e => (e0.bs b o e).1
  have knd : ∀ y ∈ [x].zip [Value.ref p.1], (defScope st).names.lookup y.1 = some .local ∨ ((defScope st).names.lookup y.1 = some .cell ∧ ((cellsFrom (s.heap.objs.size + 1) (defScope st).names []).lookup y.1).isSome = true) := by
    rintro ⟨a, b⟩ hy
    rcases S.par a (List.of_mem_zip hy).1 with q | q
    · exact Or.inl q
    · exact Or.inr ⟨q, PySem.W.cellsFrom_some _ _ _ (.inl q)⟩
  refine codeAny_call_function hr.depth (kin _ _ lk) rfl S.co S.gen rfl (PySem.W.codeRec_of kin hcd) (hb _ _ _ _ ?_)
  refine wpAny_newFunctionEnv_cells S.kind knd fun env he s1 y => ?_
  subst he
  refine ⟨nl.keeps y.toInCall.keep, codeAny_func ?_⟩
  obtain ⟨t, h1, h2⟩ := hbody cdv A outer s H Q E p D m (hr.deeper _) hz hf ht hq
  have J0 : Inv (cxH (L2.CX P w) P w K mg base N qual (defScope st) f cdv A outer s H E p) [] (L2.start N [.ref p.1]) H s1 := inv_startH S hpin e0 rfl (.cons rfl .nil) y
  refine wpAny_mono (h1.run [] s1 (L2.start N [.ref p.1]) H _ J0 h2) (fun fl s2 hs => ?_) fun e s2 hs => hs
  cases fl with
  | ret u =>
    obtain ⟨v, σ2, H2, J, rv, q⟩ := hs
    exact ⟨v, H2, J.os, J.bare, J.base, J.hok, rv, q⟩
  | next =>
    obtain ⟨σ2, H2, J, q⟩ := hs
    exact ⟨.non, H2, J.os, J.bare, J.base, J.hok, rfl, q⟩
  | brk =>
    obtain ⟨_, _, _, q⟩ := hs
    cases q
  | cont =>
    obtain ⟨_, _, _, q⟩ := hs
    cases q
end
section
open L2H
variable {X : Cx} {k i : Nat} {f a : Addr} {fd : FuncData} {nm x e : Str} {tab : Addr → Str → Prop} {oe : Obj} {pn : List (Addr × Obj)} {cls : Value} {d : Option Addr}
def tMark (tab : Addr → Str → Prop) (i : Nat) (a : Addr) (cls : Value) (d : Option Addr) : TE := fun σ H Q => σ[i]? = some (some (.ref a)) ∧ ∃ D m, cls = .ref D ∧ d = none ∧ tab D m ∧ ∀ H', Ex H H' → Q (.str m) H'
theorem pe_callM {p q pos : Pos} (M : FnM X.prog X.w X.K X.mg X.base k f fd nm tab) (hr : Room k X.A) (hg : Gl (X.suite a ((a, oe) :: pn)) x) (hm : X.mg x = some (.ref f)) (hk : PySem.W.keepIn X.K (.ref f) = true) (hb : Binds X.K fd [nm] []) (hz : Zc cls d oe) (hf : ∃ vs, oe.data = .fields vs)
    (ha : PA (X.suite a ((a, oe) :: pn)) [.Name e q] (tCons (tVar i) tNil)) (hdb : (x == ("__debug__" : Str)) = false := by decide) (he : starEach [.Name e q] X.env = (false, eval (.Name e q) X.env) :: starEach [] X.env := by rfl) (hpl : (backTo pos (starEach [] X.env)).any (·.1) = false := by rfl) :
    PE (X.suite a ((a, oe) :: pn)) (.Call (.Name x p) [.Name e q] [] pos) (tMark tab i a cls d) := by
  refine ⟨fun pins s σ H Q I h => ?_⟩
  obtain ⟨h0, D, m, rfl, rfl, ht, hq⟩ := h
  refine wpAny_Call_Name_kw (ld_glob I hg hm ?_ hdb)
  refine PySem.W.callWith_K (h₀ := X.base) I.ok.mod.kin hk (thn (ha.run pos pins s σ H (fun vs H1 => vs = [V.ref a] ∧ H = H1) I ⟨.ref a, h0, rfl, rfl⟩) fun us s1 hh => ?_) he hpl
  obtain ⟨vs, H1, I1, r1, ev, eH⟩ := hh
  subst ev
  rw [← eH] at I1
  refine ⟨I1.kIn, ?_⟩
  have eu : us = [Value.ref a] := by
    cases r1 with
    | cons r0 rr =>
      cases rr
      cases r0
      rfl
  subst eu
  have b := hb s1 [.ref a] I1.kIn rfl
  rw [List.append_nil] at b
  have P1 := I1.pin (a, oe) (List.mem_append_left _ (List.mem_cons_self ..))
  have pin : PinOk X.stack H s1 (a, oe) := ⟨P1.1, P1.2.1, fun z => (List.mem_cons.mp (I1.stkSub a z)).elim P1.2.2.1 P1.2.2.2.1, P1.2.2.2.2⟩
  refine wpAny_call (codeAny_mono (M.run _ X.stack s1 H ⟨[.ref a], []⟩ Q E0 (a, oe) D m ⟨hr.dp, hr.un⟩ pin I1.env0 b hz hf ht hq) fun r s2 hq2 => ?_)
  cases r with
  | error u =>
    obtain ⟨_, _, _, _, _, _, _, _, _, _, _, _, z⟩ := hq2
    exact z.elim
  | ok fl =>
    cases fl with
    | ret u => exact I1.after hq2
    | next => exact False.elim hq2
    | brk => exact False.elim hq2
    | cont => exact False.elim hq2
/-- isinstance(e, C), e the error that the def was handed -/
theorem call_isM {D : Addr} (C : ExcC X.K D) (hp : (a, oe) ∈ X.pn) (hz : Zc (.ref D) none oe) (hf : ∃ vs, oe.data = .fields vs) : CallR X (.builtin "isinstance") (rIsE X.K D a) := by
  intro pins s σ H xs us Q I r h
  obtain ⟨c, cv, b, rfl, hcv, e, q⟩ := h
  obtain ⟨u1, u2, rfl, rx, rt⟩ := vals2 r
  cases rx
  have ec := hcv _ rt
  subst ec
  obtain ⟨got, _⟩ := I.pin (a, oe) (List.mem_append.mpr (.inl hp))
  obtain ⟨vs, hv⟩ := hf
  have J : PySem.W.InstAt s.heap a oe D none := by
    obtain ⟨oc, od, oda, osl⟩ := oe
    obtain ⟨z1, z2⟩ := hz
    dsimp only at z1 z2 hv
    subst z1 z2 hv
    exact ⟨got, rfl, rfl, trivial⟩
  exact PySem.W.kia_one (PySem.W.handS_kitx_exc C.hg C.hk C.hs C.hd C.ha C.hn C.ht C.hm) I.kIn J e (fun z => nomatch z) fun tk => ⟨.bl b, H, I.kept (t' := tk) fun _ _ z => z, rfl, q⟩
end
/-! ### try: .. except H as e: return marks(e) -/
section
variable {K : PySem.W.Frag} {mg : Str → Option Value} {E : XW} {G G' H H' : Hp} {σ σ' : L2.St} {ρ ρ' : Env}
def mTry (i : Nat) (mk : Str → Option Str) (mb : Env → Fl) : Env → Fl := fun ρ => match mb ρ with
  | .ex x ρ' => match x.fs, mk x.c with
    | none, some m => if i < ρ'.length then .rt (.dat (.str m)) (ρ'.set i .un) else .bad
    | _, _ => .bad
  | r => r
theorem ss_try {tb : WX → TS} {mb : Env → Fl} {i : Nat} {mk : Str → Option Str} {tab : Addr → Str → Prop} {c : Value} (hb : ∀ W : WX, SS K mg W (tb W) mb)
    (hx : ∀ y m, mk y = some m → ∀ cls, mg y = some cls → ∃ D, cls = .ref D ∧ tab D m ∧ PySem.W.exmOne K cls c = some true) :
    SS K mg E (fun D σ H => tb (wAs K c i (fun a cls d => tRet (tMark tab i a cls d)) E D) D σ H) (mTry i mk mb) := fun B L G σ H ρ D A w => by
  refine hb _ B L G σ H ρ D A ?_
  unfold mTry at w
  cases q : mb ρ with
  | nx ρ' => rw [q] at w; exact w
  | rt r ρ' => rw [q] at w; exact w
  | bk ρ' => rw [q] at w; exact w
  | ct ρ' => rw [q] at w; exact w
  | bad => rw [q] at w; exact w
  | ex x ρ' =>
    rw [q] at w
    dsimp only at w
    intro G' σ' H' cls da e A' X'
    obtain ⟨x1, x2⟩ := X'
    split at w
    · rename_i m hfs hm
      rw [hfs] at x2
      obtain ⟨Dd, rfl, ht, hex⟩ := hx _ m hm _ x1
      refine ⟨true, hex, fun _ a ha => ?_, fun z => nomatch z⟩
      by_cases len : i < ρ'.length
      · rw [if_pos len] at w
        have len2 : i < σ'.length := by rw [A'.len]; exact len
        refine ⟨?_, Dd, m, rfl, x2, ht, ?_⟩
        · rw [List.getElem?_set_self len2]
        · exact fun H2 e2 => w (.str m) G' (σ'.set i none) H2 e ((A'.grow (Ex.refl G') e2 (A'.exG.trans e2) A'.dis fun i a h => A'.notG h).forget i) (.str m)
      · rw [if_neg len] at w; exact w.elim
    · exact w.elim
end
def MkOk (P : Program) (w : World) (K : PySem.W.Frag) (mg : Str → Option Value) (base : Heap) (tab : Addr → Str → Prop) : Prop :=
  ∃ f fd, FnM P w K mg base 1 f fd "_law_e" tab ∧ mg "_law_marks" = some (.ref f) ∧ PySem.W.keepIn K (.ref f) = true ∧ Binds K fd ["_law_e"] []
section
variable {X : Cx} {K : PySem.W.Frag} {mg : Str → Option Value} {E : XW}
theorem pe_disp0 {pos : Pos} : PE X (.Dict [] [] pos) tDNewK := pe_dnewK
theorem se_dct0 : SE K mg E tDNewK (mPure (.dict [])) := fun B L G σ H ρ Q A w => fun p hp => w _ _ (A.laid hp) (A.lay hp) _ (.dct (.inl upd_same) .nil)
end
end Hue
-- HueE
namespace Hue
open PySem PySem.Spec PyProof.Rows L2
open Evl (Ex)
/-! ### enumerate of a tuple -/
def itObj (a : Addr) : Obj := { cls := .type "tuple_iterator", data := .fields #[.ref a, .int 0 0] }
def enObj (i : Addr) : Obj := { cls := .type "enumerate", data := .fields #[.none, .bool false, .ref i, rawInt 0, .none, .none] }
set_option maxHeartbeats 1000000 in
theorem enum_newT (a : Addr) (items : Array Value) : Meets (Builtin.«enumerate.__new__» ⟨[.type "enumerate", .ref a], []⟩) (fun _ R s => s.heap.IsTuple a items ∧
    R (.ok (.ret (.ref (s.heap.push (itObj a)).objs.size))) { s with heap := (s.heap.push (itObj a)).push (enObj s.heap.objs.size) }) := .of_wp fun P w A R s0 hyp => by
  obtain ⟨hp, gl, dd, tk, os⟩ := s0
  obtain ⟨hT, fin⟩ := hyp
  have sb := sub_enumerate
  have go : ∀ {A1 : Around} {E : Value → Shared → Prop} {Q : Value → Shared → Prop}, Q (.ref hp.objs.size) ⟨hp.push (itObj a), gl, dd, tk, os⟩ → wpAny (model P w) A1 (pyIter (.ref a)) Q E ⟨hp, gl, dd, tk, os⟩ := fun q => (begins_tuple a items).iter P w _ _ ⟨hp, gl, dd, tk, os⟩ _ hT q
  wp_walk using go
  refine wpAny_stack_any fun stk => wpAny_pure ?_
  split
  · rename_i c _ _ _ _ _
    cases (c == Value.type "enumerate") <;> (wp_walk using go; exact ⟨_, rfl, fin⟩)
  · wp_walk using go
    exact ⟨_, rfl, fin⟩
section
variable {prog : Program} {w : World} {A : Around} {E : Value → Shared → Prop} {s : Shared}
theorem call_enumT {a : Addr} {items : Array Value} {Q : Value → Shared → Prop} (hT : s.heap.IsTuple a items)
    (fin : ∀ h2, IsEnum h2 (s.heap.objs.size + 1) s.heap.objs.size 0 .none → h2.IsTupleIter s.heap.objs.size a 0 → (∀ c o, s.heap.get? c = some o → h2.get? c = some o) → Q (.ref (s.heap.objs.size + 1)) { s with heap := h2 }) :
    wpAny (model prog w) A (call (.type "enumerate") [.ref a]) Q E s := by
  refine callType_new F.called_enumerate (by decide) (F.typeCall_enumerate_1 _) (F.newCall_enumerate_1 _) (fun obj => F.args_object_init_2 obj _) F.entry_enumerate_new (enum_newT a items) ⟨hT, ?_⟩
  have z1 : (s.heap.push (itObj a)).objs.size = s.heap.objs.size + 1 := Heap.size_push ..
  show _ ∧ _
  rw [z1]
  have e1 : IsEnum ((s.heap.push (itObj a)).push (enObj s.heap.objs.size)) (s.heap.objs.size + 1) s.heap.objs.size 0 .none := by
    have q := Heap.get?_push_size (s.heap.push (itObj a)) (o := enObj s.heap.objs.size) rfl
    rw [z1] at q
    exact q
  exact ⟨⟨_, e1, rfl⟩, fin _ e1 ⟨_, Heap.get?_push_of_some _ (Heap.get?_push_size _ rfl), rfl, rfl⟩ fun c o q => Heap.get?_push_of_some _ (Heap.get?_push_of_some _ q)⟩
end
def IteT (K : PySem.W.Frag) (a : Addr) : It :=
  ⟨fun i H => ∃ (xs : List V) (x : V), SqT K H a xs ∧ xs[i]? = some x, fun i H v H' => ∃ T x, v = .ref T ∧ H T = none ∧ H' = upd H T (.tup [.int (i : Nat), x]) ∧ ∀ xs, SqT K H a xs → xs[i]? = some x, fun i H => ∃ xs : List V, SqT K H a xs ∧ xs.length ≤ i⟩
theorem turn_enumT {P : Program} {w : World} {K : PySem.W.Frag} {elts : List Expr} {kk : Nat} {tpos : Pos} (a e it : Addr) (hai : a ≠ it) (hae : a ≠ e) :
    Turn P w K (.Tuple elts kk tpos) (IteT K a) [e, it] e (fun i h => (∃ old, IsEnum h e it ((i : Nat) : Int) old) ∧ h.IsTupleIter it a i ∧ e ≠ it) where
  mem := by simp
  obj := fun i h st b hb => by
    obtain ⟨⟨old, he⟩, ⟨o, ho, hc, hd⟩, _⟩ := st
    rcases (show b = e ∨ b = it by simpa using hb) with z | z
    · subst z; exact ⟨_, he, fun v q => nomatch q⟩
    · subst z; exact ⟨o, ho, fun v q => by rw [hd] at q; cases q⟩
  keep := fun i h h' st k => by
    obtain ⟨⟨old, he⟩, hi, hne⟩ := st
    exact ⟨⟨old, k e (by simp) _ he⟩, hi.at fun o q => k it (by simp) o q, hne⟩
  item := by
    intro X hP hw hK hc i pins s σ H E I hf st hg
    subst hP hw hK
    obtain ⟨⟨old, he⟩, hit, hne⟩ := st
    obtain ⟨xs, x, hq, hx⟩ := hg
    obtain ⟨its, rv, p, hz⟩ := I.tuple hq
    obtain ⟨u, hu, ru⟩ := rv.get hx
    have hel : e < s.heap.objs.size := Heap.lt_size he
    have hil : it < s.heap.objs.size := by obtain ⟨_, q, _⟩ := hit; exact Heap.lt_size q
    have hlt : i < its.toArray.size := by rw [List.size_toArray]; exact (List.getElem?_eq_some_iff.mp hu).1
    have D : Draws X.prog X.w X.A.in1 it [it, a] its.toArray.size (fun i v => its.toArray[i]? = some v) (fun i h => h.IsTupleIter it a i ∧ h.IsTuple a its.toArray) := Draws.tuple (show X.A.in1.handled = none from I.ok.hd hc) it a hai _
    refine wpAny_pyNext_enum_itemC D he ⟨hit, p⟩ hlt hne (by simp; exact ⟨hne, fun z => hae z.symm⟩) fun x1 h1 tk hx1 ho st1 hT hsz hk => ?_
    have ex : x1 = u := by
      rw [List.getElem?_toArray, hu] at hx1
      cases hx1
      rfl
    subst ex
    refine ⟨_, rfl, wpAny_letOwnedTupleGo_enum (s := { s with heap := h1, toks := tk + 1 }) ho fun h2 he2 sb => ?_⟩
    have hT2 : h2.get? s.heap.objs.size = some { cls := .type "tuple", data := .seq #[.int i tk, x1] } := (sb.2 _ (Nat.ne_of_gt hel)).trans hT
    have new : ObjOk X.prog X.w (upd H s.heap.objs.size (.tup [.int (i : Nat), x])) h2 s.heap.objs.size (.tup [.int (i : Nat), x]) :=
      ⟨by show 2 ≤ sizeLine; decide, [.int i tk, x1], .cons ⟨_, rfl⟩ (.cons ru .nil), ⟨_, hT2, rfl, _, rfl⟩⟩
    have I1 : Inv X pins σ (upd H s.heap.objs.size (.tup [.int (i : Nat), x])) { s with heap := h2, toks := tk + 1 } :=
      I.turnedNew (ch := [e, it]) (fun b ob hb q => (sb.2 b (fun z => hb (by simp [z]))).trans (hk b ob (fun z => hb (by simp [z])) (fun z => hb (by simp [z])) q)) hf (Nat.le_refl _) new
    refine ⟨.ref s.heap.objs.size, _, I1, rfl, ⟨_, x, rfl, I.hok.fresh (Nat.le_refl _), rfl, fun ys hy => by rw [I.tuple_inj hy hq]; exact hx⟩, ⟨⟨x1, ?_⟩, st1.1.at fun o q => (sb.2 it (Ne.symm hne)).trans q, hne⟩, fun b hb => ?_⟩
    · rw [show ((i + 1 : Nat) : Int) = (i : Int) + 1 by omega]
      exact he2
    · have hb2 : b < s.heap.objs.size := by
        rcases (show b = e ∨ b = it by simpa using hb) with z | z
        · exact z ▸ hel
        · exact z ▸ hil
      rw [upd_ne (Nat.ne_of_lt hb2)]
      exact (hf b hb).1
  done := by
    intro X hP hw hK hc i pins s σ H E I hf st hg
    subst hP hw hK
    obtain ⟨⟨old, he⟩, hit, hne⟩ := st
    obtain ⟨xs, hq, hx⟩ := hg
    obtain ⟨its, rv, p, hz⟩ := I.tuple hq
    obtain ⟨f0, f1, f2, f3, f4, f5⟩ := hf it (by simp)
    have hl := rv.length
    have D : Draws X.prog X.w X.A.in1 it [it, a] i (fun i v => its.toArray[i]? = some v ∧ False) (fun j h => h.IsTupleIter it a j ∧ h.IsTuple a its.toArray ∧ j = i) :=
      { live := fun _ _ st => let ⟨o, ho, _⟩ := st.1; ⟨o, ho⟩
        frame := fun _ _ _ st k => ⟨st.1.at fun o e => k it (by simp) o e, st.2.1.at fun o e => k a (by simp) o e, st.2.2⟩
        item := fun j s Q E hj st hQ => absurd st.2.2 (Nat.ne_of_lt hj)
        done := fun s Q E st hE => wpAny_nextOf_tuple_end (show X.A.in1.handled = none from I.ok.hd hc) st.1 st.2.1 (by rw [List.getElem?_toArray, List.getElem?_eq_none (by omega)]) hE }
    exact wpAny_pyNext_enum_endD D he ⟨hit, p, rfl⟩ fun h2 eb => ⟨rfl, I.turned (t' := s.toks) (fun b o hb q => eb b o hb q) f0 f1 f3 f4 f5⟩
  self := fun A i s Q E st h => let ⟨⟨_, he⟩, _⟩ := st; wpAny_pyIter_enum he h
def iEnumA (K : PySem.W.Frag) (ta : TA) : TI := fun σ H R => ta σ H fun vs H1 => ∃ a xs, vs = [.ref a] ∧ ((SqL K H1 a xs ∧ R (Ite K a) H1) ∨ (SqT K H1 a xs ∧ R (IteT K a) H1))
theorem pi_enumA {X : Cx} (K : PySem.W.Frag) (hK : X.K = K) {e : Expr} {ta : TA} {p pos tpos : Pos} {elts : List Expr} {kk : Nat} (hg : Gl X "enumerate") (hm : X.mg "enumerate" = none) (ha : PA X [e] ta) (hs : starEach [e] X.env = [(false, eval e X.env)] := by rfl) :
    PI X (.Tuple elts kk tpos) (.Call (.Name "enumerate" p) [e] [] pos) (iEnumA K ta) := by
  subst hK
  refine ⟨fun pins s σ H R I h => ?_⟩
  refine Call_ (ld_blt I hg hm boot_enumerate (PyProof.Rows.callWith_type1 (thn (ha.run pos pins s σ H _ I h) fun us s1 ⟨vs, H1, I1, r1, q1⟩ => ?_) hs rfl))
  obtain ⟨a, xs, ev, q⟩ := q1
  subst ev
  cases r1 with
  | cons r rr =>
    cases rr
    cases r
    have new : ∀ b ∈ [s1.heap.objs.size + 1, s1.heap.objs.size], s1.heap.objs.size ≤ b := fun b hb => by
      rcases (show b = s1.heap.objs.size + 1 ∨ b = s1.heap.objs.size by simpa using hb) with z | z <;> omega
    rcases q with ⟨hq, q⟩ | ⟨hq, q⟩
    · obtain ⟨its, rv, p', hz⟩ := I1.list hq
      refine call_enumerate_list p'.isList fun h2 he hit hsz hk => wpAny_pyIter_enum he ?_
      exact ⟨s1.heap.objs.size + 1, [s1.heap.objs.size + 1, s1.heap.objs.size], _, _, H1, rfl, I1.kept (t' := s1.toks) hk, turn_enum a _ _, ⟨⟨.none, he⟩, hit, Nat.succ_ne_self _⟩, fun b hb => I1.fpOk (new b hb) (I1.hok.fresh (new b hb)), q⟩
    · obtain ⟨its, rv, p', hz⟩ := I1.tuple hq
      have al : a < s1.heap.objs.size := p'.lt
      refine call_enumT p' fun h2 he hit hk => wpAny_pyIter_enum he ?_
      exact ⟨s1.heap.objs.size + 1, [s1.heap.objs.size + 1, s1.heap.objs.size], _, _, H1, rfl, I1.kept (t' := s1.toks) hk, turn_enumT a (s1.heap.objs.size + 1) s1.heap.objs.size (Nat.ne_of_lt al) (Nat.ne_of_lt (Nat.lt_succ_of_lt al)), ⟨⟨.none, he⟩, hit, Nat.succ_ne_self _⟩, fun b hb => I1.fpOk (new b hb) (I1.hok.fresh (new b hb)), q⟩
end Hue
-- Hue15
namespace Hue
open PySem PySem.Spec PyProof.Rows L2
open Evl (Ex)
/-! ### data without lists and dicts -/
mutual
def lf : PyData → Bool
  | .list _ => false
  | .dict _ => false
  | .tuple ds => lfA ds
  | _ => true
def lfA : List PyData → Bool
  | [] => true
  | d :: ds => lf d && lfA ds
end
def lfR : Rv → Bool
  | .dat d => lf d
  | .new ds => lfA ds
section
variable {K : PySem.W.Frag} {G G' : Hp}
theorem sqt_low {a : Addr} {xs : List V} (low : ∀ b u, G b = some u → (∀ ys, u ≠ .lst ys) → G' b = some u) (h : SqT K G a xs) : SqT K G' a xs := by
  rcases h with (q | ⟨o, q⟩) | q
  · exact .inl (.inl (low a _ q fun ys z => nomatch z))
  · exact .inl (.inr ⟨o, low a _ q fun ys z => nomatch z⟩)
  · exact .inr q
mutual
theorem Dt.low (low : ∀ b xs, SqT K G b xs → SqT K G' b xs) : ∀ {v : V} {d : PyData}, Dt K G v d → lf d = true → Dt K G' v d
  | _, _, .non, _ => .non
  | _, _, .bl b, _ => .bl b
  | _, _, .int i, _ => .int i
  | _, _, .str x, _ => .str x
  | _, _, .lst h1 h2, h => by rw [lf] at h; cases h
  | _, _, .tup h1 h2, h => .tup (low _ _ h1) (DtA.low low h2 (by rw [lf] at h; exact h))
  | _, _, .dct h1 h2, h => by rw [lf] at h; cases h
theorem DtA.low (low : ∀ b xs, SqT K G b xs → SqT K G' b xs) : ∀ {vs : List V} {ds : List PyData}, DtA K G vs ds → lfA ds = true → DtA K G' vs ds
  | _, _, .nil, _ => .nil
  | _, _, .cons h1 h2, h => by
    rw [lfA, Bool.and_eq_true] at h
    exact .cons (Dt.low low h1 h.1) (DtA.low low h2 h.2)
end
end
/-! ### lists read as data for a while -/
def frz1 : Sl → Sl
  | .own ds => .dat (.list ds)
  | .lnt ds => .dat (.list ds)
  | s => s
def frzE (ρ : Env) : Env := ρ.map frz1
def mPeek (m : M Rv) : M Rv := fun ρ => match m (frzE ρ) with
  | .ok r _ => if lfR r = true then .ok r ρ else .bad
  | .ex x _ => match x.fs with
    | none => .ex x ρ
    | some _ => .bad
  | .bad => .bad
section
variable {K : PySem.W.Frag} {mg : Str → Option Value} {E : XW} {C : Cn} {G G' H H' : Hp} {σ σ' : L2.St} {ρ ρ' : Env} {D : Ends}
open Classical in
/-- the still part, and the lists that are held -/
noncomputable def upG (G H : Hp) (ρ : Env) (σ : L2.St) : Hp := fun a => if ∃ i, Hold ρ σ i a then H a else G a
open Classical in
noncomputable def dnG (G : Hp) (ρ : Env) (σ : L2.St) : Hp := fun a => if ∃ i, Hold ρ σ i a then none else G a
theorem upG_held {a : Addr} (h : ∃ i, Hold ρ σ i a) : upG G H ρ σ a = H a := by unfold upG; rw [if_pos h]
theorem upG_not {a : Addr} (h : ¬ ∃ i, Hold ρ σ i a) : upG G H ρ σ a = G a := by unfold upG; rw [if_neg h]
theorem dnG_held {a : Addr} (h : ∃ i, Hold ρ σ i a) : dnG G ρ σ a = none := by unfold dnG; rw [if_pos h]
theorem dnG_not {a : Addr} (h : ¬ ∃ i, Hold ρ σ i a) : dnG G ρ σ a = G a := by unfold dnG; rw [if_neg h]
theorem Ab.up (A : Ab C G σ H ρ) : Ex G (upG G H ρ σ) := fun a u q => by
  have n : ¬ ∃ i, Hold ρ σ i a := fun ⟨i, h⟩ => by rw [A.notG h] at q; cases q
  rw [upG_not n]
  exact q
theorem Ab.frozen (A : Ab C G σ H ρ) : Ab C (upG G H ρ σ) σ H (frzE ρ) := by
  refine ⟨fun a u q => ?_, A.exB, fun a q => ?_, A.scr, by unfold frzE; rw [List.length_map]; exact A.len, fun i s q => ?_, fun i j a h => ?_⟩
  · by_cases h : ∃ i, Hold ρ σ i a
    · rw [upG_held h] at q; exact q
    · rw [upG_not h] at q; exact A.exG a u q
  · by_cases h : ∃ i, Hold ρ σ i a
    · exact A.notB h.choose_spec
    · rw [upG_not h] at q; exact A.dis a q
  · unfold frzE at q
    rw [List.getElem?_map] at q
    cases q0 : ρ[i]? with
    | none => rw [q0] at q; cases q
    | some s0 =>
      rw [q0] at q
      cases q
      obtain ⟨x, h1, h2⟩ := A.sl i s0 q0
      refine ⟨x, h1, ?_⟩
      cases s0 with
      | un => exact trivial
      | dat d => obtain ⟨v, e, h⟩ := h2; exact ⟨v, e, h.mono A.up⟩
      | scr ns => exact h2
      | own ds =>
        obtain ⟨a, rfl, vs, z1, z2, z3, z4⟩ := h2
        exact ⟨.ref a, rfl, .lst (by rw [upG_held ⟨i, ⟨ds, .inl q0⟩, h1⟩]; exact z1) (z2.mono A.up)⟩
      | lnt ds =>
        obtain ⟨a, rfl, z0, vs, z1, z2, z3, z4⟩ := h2
        exact ⟨.ref a, rfl, .lst (by rw [upG_held ⟨i, ⟨ds, .inr q0⟩, h1⟩]; exact z1) (z2.mono A.up)⟩
  · obtain ⟨⟨ds, q⟩, _⟩ := h
    have no : ∀ s : Sl, (frz1 s ≠ .own ds ∧ frz1 s ≠ .lnt ds) := fun s => by cases s <;> exact ⟨fun z => (by cases z), fun z => (by cases z)⟩
    unfold frzE at q
    rw [List.getElem?_map] at q
    cases q0 : ρ[i]? with
    | none => rw [q0] at q; rcases q with q | q <;> cases q
    | some s0 =>
      rw [q0] at q
      rcases q with q | q
      · exact absurd (Option.some.inj q) (no s0).1
      · exact absurd (Option.some.inj q) (no s0).2
/-- back from it -/
theorem Ab.thaw {G2 H2 : Hp} {ρ2 : Env} (A : Ab C G σ H ρ) (e : Ex (upG G H ρ σ) G2) (A2 : Ab C G2 σ H2 ρ2) : Ex G (dnG G2 ρ σ) ∧ Ab C (dnG G2 ρ σ) σ H2 ρ ∧ (∀ b u, G2 b = some u → (∀ ys, u ≠ .lst ys) → dnG G2 ρ σ b = some u) ∧ ∀ a, (∃ i, Hold ρ σ i a) → G2 a ≠ none := by
  have eG : Ex G (dnG G2 ρ σ) := fun a u q => by
    have n : ¬ ∃ i, Hold ρ σ i a := fun ⟨i, h⟩ => by rw [A.notG h] at q; cases q
    rw [dnG_not n]
    exact e _ _ (A.up a u q)
  have hl : ∀ a, (∃ i, Hold ρ σ i a) → ∃ vs, G2 a = some (.lst vs) ∧ H a = some (.lst vs) := fun a h => by
    obtain ⟨ds, _, vs, z, _⟩ := A.hold h.choose_spec
    exact ⟨vs, e _ _ (by rw [upG_held h]; exact z), z⟩
  refine ⟨eG, ⟨fun a u q => ?_, A2.exB, fun a q => ?_, A.scr, A.len, fun i s q => ?_, A.nd⟩, fun b u q nl => ?_, fun a h => ?_⟩
  · by_cases h : ∃ i, Hold ρ σ i a
    · rw [dnG_held h] at q; cases q
    · rw [dnG_not h] at q; exact A2.exG a u q
  · by_cases h : ∃ i, Hold ρ σ i a
    · exact A.notB h.choose_spec
    · rw [dnG_not h] at q; exact A2.dis a q
  · obtain ⟨x, h1, h2⟩ := A.sl i s q
    refine ⟨x, h1, ?_⟩
    cases s with
    | un => exact trivial
    | dat d => obtain ⟨v, e, h⟩ := h2; exact ⟨v, e, h.mono eG⟩
    | scr ns => exact h2
    | own ds =>
      obtain ⟨a, rfl, vs, z1, z2, z3, z4⟩ := h2
      have hh : ∃ i, Hold ρ σ i a := ⟨i, ⟨ds, .inl q⟩, h1⟩
      obtain ⟨us, y1, y2⟩ := hl a hh
      rw [z1] at y2; cases y2
      exact ⟨a, rfl, vs, A2.exG _ _ y1, z2.mono eG, dnG_held hh, z4⟩
    | lnt ds =>
      obtain ⟨a, rfl, z0, vs, z1, z2, z3, z4⟩ := h2
      have hh : ∃ i, Hold ρ σ i a := ⟨i, ⟨ds, .inr q⟩, h1⟩
      obtain ⟨us, y1, y2⟩ := hl a hh
      rw [z1] at y2; cases y2
      exact ⟨a, rfl, z0, vs, A2.exG _ _ y1, z2.mono eG, dnG_held hh, z4⟩
  · have n : ¬ ∃ i, Hold ρ σ i b := fun h => by
      obtain ⟨us, y1, _⟩ := hl b h
      rw [y1] at q; cases q
      exact nl us rfl
    rw [dnG_not n]
    exact q
  · obtain ⟨us, y1, _⟩ := hl a h
    rw [y1]
    intro z
    cases z
theorem sx_peek {t : TE} {m : M Rv} (h : SX K mg E t m) : SX K mg E t (mPeek m) := fun B L G σ H ρ Q A w => by
  refine h B L (upG G H ρ σ) σ H (frzE ρ) Q A.frozen ?_
  unfold mPeek at w
  cases q : m (frzE ρ) with
  | bad => rw [q] at w; exact w
  | ex x ρ2 =>
    rw [q] at w
    intro G2 H2 cls da e2 A2 X2
    dsimp only at w
    obtain ⟨e3, A3, _, _⟩ := A.thaw e2 A2
    cases z : x.fs with
    | some fs => rw [z] at w; exact w.elim
    | none =>
      rw [z] at w
      refine w (dnG G2 ρ σ) H2 cls da e3 A3 ⟨X2.1, ?_⟩
      have := X2.2
      rw [z] at this ⊢
      exact this
  | ok r ρ2 =>
    rw [q] at w
    intro G2 H2 e2 A2 v hv
    dsimp only at w
    by_cases z : lfR r = true
    · rw [if_pos z] at w
      obtain ⟨e3, A3, low, out⟩ := A.thaw e2 A2
      refine w (dnG G2 ρ σ) H2 e3 A3 v ?_
      cases r with
      | dat d => exact Dt.low (fun b xs h => sqt_low low h) hv z
      | new ds =>
        obtain ⟨p, rfl, ⟨vs, z1, z2, z3, z4⟩, _⟩ := hv
        have n : ∀ i, ¬ Hold ρ σ i p := fun i hh => out p ⟨i, hh⟩ z3
        exact ⟨p, rfl, ⟨vs, z1, z2.low (fun b xs h => sqt_low low h) z, by rw [dnG_not fun ⟨i, hh⟩ => n i hh]; exact z3, z4⟩, n⟩
    · rw [if_neg z] at w; exact w.elim
end
end Hue
-- Hue16
namespace Hue
open PySem PySem.Spec PyProof.Rows L2
open Evl (Ex)
section
variable {K : PySem.W.Frag} {mg : Str → Option Value} {E : XW} {C : Cn} {G G' H H' : Hp} {σ σ' : L2.St} {ρ ρ' : Env} {D : Ends}
/-! ### xs.pop(i), xs.remove(y), xs.extend(ys) -/
def mPop (k : Nat) (mi : M PyData) : M Rv := fun ρ => if (heldAt ρ k).isSome = true then (mi ρ).bind fun i ρ1 => match i, heldAt ρ1 k with
  | .int i, some ds => if inR i = true then match seqIndex? i ds.length with
    | some j => match ds[j]? with
      | some d => .ok (.dat d) (putAt ρ1 k (ds.eraseIdx j))
      | none => .bad
    | none => .bad else .bad
  | _, _ => .bad else .bad
theorem DtA.erase : ∀ {vs : List V} {ds : List PyData} (n : Nat), DtA K G vs ds → DtA K G (vs.eraseIdx n) (ds.eraseIdx n)
  | _, _, _, .nil => by rw [List.eraseIdx_nil, List.eraseIdx_nil]; exact .nil
  | _, _, 0, .cons _ h2 => h2
  | _, _, n + 1, .cons h1 h2 => by rw [List.eraseIdx_cons_succ, List.eraseIdx_cons_succ]; exact .cons h1 (DtA.erase n h2)
theorem sx_pop {ti : TE} {mi : M PyData} {k : Nat} (hi : SE K mg E ti mi) : SX K mg E (tBM K "list" rPopAt (tVar k) (tCons ti tNil)) (mPop k mi) := fun B L G σ H ρ Q A w => by
  unfold mPop at w
  by_cases z : (heldAt ρ k).isSome = true
  · rw [if_pos z] at w
    obtain ⟨ds0, z⟩ := Option.isSome_iff_exists.mp z
    obtain ⟨a, hh, vs0, l0, _⟩ := A.held z
    refine ⟨.ref a, hh.2, .inl ⟨rfl, vs0, SqL.of l0⟩, ?_⟩
    refine hi B L G σ H ρ _ A ((WR.bind w).mono fun G1 H1 ρ1 d e1 A1 k1 y hy => ?_)
    show rPopAt (.ref a) [y] H1 Q
    split at k1
    · rename_i i ds q
      by_cases q0 : inR i = true
      · rw [if_pos q0] at k1
        split at k1
        · rename_i j qj
          split at k1
          · rename_i d qd
            obtain ⟨b, hb, vs, l, d1, g1, b1⟩ := A1.held q
            obtain rfl := hold_same hb hh.2
            obtain ⟨u, qu, du⟩ := d1.get' qd
            have b2 := inR_of q0
            refine ⟨b, vs, i, j, u, rfl, by rw [hy.int_inv], l, by omega, by omega, by rw [d1.length]; exact qj, qu, ?_⟩
            exact k1 G1 _ (Ex.refl G1) (A1.put hb (d1.erase j)) u du
          · exact k1.elim
        · exact k1.elim
      · rw [if_neg q0] at k1; exact k1.elim
    · exact k1.elim
  · rw [if_neg z] at w; exact w.elim
/-- ints alone -/
def mRem (k : Nat) (m : M PyData) : Env → Fl := fun ρ => if (heldAt ρ k).isSome = true then mThen m (fun d ρ1 => match d, (heldAt ρ1 k).bind intsD with
  | .int i, some ns => if ns.idxOf i < ns.length then .nx (putAt ρ1 k ((ns.eraseIdx (ns.idxOf i)).map PyData.int)) else .bad
  | _, _ => .bad) ρ else .bad
theorem idx_first {i : Int} : ∀ {ns : List Int}, ns.idxOf i < ns.length → ns[ns.idxOf i]? = some i ∧ ∀ m : Nat, m < ns.idxOf i → ns[m]? ≠ some i
  | [], h => absurd h (Nat.not_lt_zero _)
  | n :: ns, h => by
    by_cases e : n = i
    · subst e
      have z : (n :: ns).idxOf n = 0 := List.idxOf_cons_self
      rw [z]
      exact ⟨rfl, fun m hm => absurd hm (Nat.not_lt_zero _)⟩
    · have z : (n :: ns).idxOf i = ns.idxOf i + 1 := by rw [List.idxOf_cons, cond_eq_ite, if_neg (fun z => e (beq_iff_eq.mp z))]
      rw [z] at h ⊢
      rw [List.length_cons] at h
      obtain ⟨h1, h2⟩ := idx_first (i := i) (ns := ns) (by omega)
      refine ⟨by rw [List.getElem?_cons_succ]; exact h1, fun m hm => ?_⟩
      cases m with
      | zero => intro q; cases q; exact e rfl
      | succ m => rw [List.getElem?_cons_succ]; exact h2 m (by omega)
theorem ss_rem {t : TE} {m : M PyData} {k : Nat} (h : SE K mg E t m) : SS K mg E (tDrop (tBM K "list" rRemI (tVar k) (tCons t tNil))) (mRem k m) := fun B L G σ H ρ D A w => by
  unfold mRem at w
  by_cases z : (heldAt ρ k).isSome = true
  · rw [if_pos z] at w
    obtain ⟨ds0, z⟩ := Option.isSome_iff_exists.mp z
    obtain ⟨a, hh, vs0, l0, _⟩ := A.held z
    refine ⟨.ref a, hh.2, .inl ⟨rfl, vs0, SqL.of l0⟩, ?_⟩
    refine h B L G σ H ρ _ A ((WS.thn A w).mono fun G1 H1 ρ1 d e1 A1 k1 y hy => ?_)
    show rRemI (.ref a) [y] H1 fun _ H2 => D.nx σ H2
    split at k1
    · rename_i i ns q
      cases qh : heldAt ρ1 k with
      | none => rw [qh] at q; cases q
      | some ds =>
        rw [qh] at q
        have q : intsD ds = some ns := q
        by_cases q2 : ns.idxOf i < ns.length
        · rw [if_pos q2] at k1
          obtain ⟨b, hb, vs, l, d1, g1, b1⟩ := A1.held qh
          obtain rfl := hold_same hb hh.2
          rw [intsD_inv q] at d1
          rw [d1.ints] at l
          obtain ⟨f1, f2⟩ := idx_first q2
          refine ⟨b, ns, i, ns.idxOf i, rfl, by rw [hy.int_inv], l, f1, f2, ?_⟩
          exact k1.nx' (A1.put hb (DtA.ofInts _))
        · rw [if_neg q2] at k1; exact k1.elim
    · exact k1.elim
  · rw [if_neg z] at w; exact w.elim
/-! ### list(range(n)) -/
def lrD : PyData → Option Rv
  | .int n => if (decide (0 ≤ n) && decide (n ≤ 100000)) = true then some (.new (rngL 0 n.toNat)) else none
  | _ => none
def mLrng (m : M PyData) : M Rv := mBind m fun d => mOpt (lrD d)
theorem sx_lrng {t : TE} {m : M PyData} (h : SE K mg E t m) : SX K mg E (tLstRg (tRg1 t)) (mLrng m) := fun B L G σ H ρ Q A w => by
  refine h B L G σ H ρ _ A ((WR.bind w).mono fun G1 H1 ρ1 d e1 A1 k v hv => ?_)
  obtain ⟨z, q, k2⟩ := WR.opt k
  unfold lrD at q
  split at q
  · rename_i n
    by_cases y : (decide (0 ≤ n) && decide (n ≤ 100000)) = true
    · rw [if_pos y] at q; cases q
      rw [Bool.and_eq_true] at y
      have y1 := of_decide_eq_true y.1
      have y2 := of_decide_eq_true y.2
      refine ⟨n, hv.int_inv, RgOk.of_le (by omega) (by omega) (by omega) (by omega), fun p hp => ?_⟩
      have dd : DtA K G1 (rgV 0 n) (rngL 0 n.toNat) := by
        unfold rgV rngL
        rw [show (n - 0).toNat = n.toNat by omega]
        have key : ∀ l : List Nat, DtA K G1 (l.map fun i => V.int (0 + (i : Nat))) (l.map fun i => PyData.int (0 + (i : Nat))) := fun l => by
          induction l with
          | nil => exact .nil
          | cons a r ih => exact .cons (.int _) ih
        exact key _
      have T := A1.fresh hp dd
      exact k2 _ _ (Ex.refl G1) T.1 _ T.2
    · rw [if_neg y] at q; cases q
  · cases q
/-! ### x or y, by truth -/
def mOrT (a b : M PyData) : M PyData := mBind a fun d => mBind (mOpt (tru d)) fun k => if k = true then mPure d else b
theorem se_orT {t u : TE} {a b : M PyData} (h1 : SE K mg E t a) (h2 : SE K mg E u b) : SE K mg E (tOrT K t u) (mOrT a b) := fun B L G σ H ρ Q A w => by
  refine h1 B L G σ H ρ _ A ((WR.bind w).mono fun G1 H1 ρ1 d e1 A1 k x hx => ?_)
  obtain ⟨c, q, k2⟩ := WR.opt (WR.bind k)
  refine ⟨c, tru_v A1.exG hx q, ?_⟩
  have k3 := k2.here A1
  cases c with
  | true => exact k3.here A1 x hx
  | false => exact h2 B L G1 σ H1 ρ1 Q A1 k3
theorem kpe_orT {X : Cx} (K : PySem.W.Frag) (hK : X.K = K) {a b : Expr} {rest : List Expr} {ta tb : TE} {pos : Pos} (ha : PE X a ta) (hb : PE X (.BoolOp .Or (b :: rest) pos) tb) : PE X (.BoolOp .Or (a :: b :: rest) pos) (tOrT K ta tb) := by subst hK; exact pe_orT ha hb
/-! ### xs[i], xs[j] = e, f -/
def putI (k : Nat) (mi : M PyData) (d : PyData) (ρ : Env) : Option Env := if (heldAt ρ k).isSome = true then match mi ρ with
  | .ok (.int i) ρ2 => match heldAt ρ2 k with
    | some ds => (ixN ds.length i).map fun j => putAt ρ2 k (ds.set j d)
    | none => none
  | _ => none else none
def mPut2 (k : Nat) (mi mj : M PyData) (m : M PyData) : Env → Fl := mThen m fun d ρ => match d with
  | .tuple [x, y] => oFl ((putI k mi x ρ).bind (putI k mj y))
  | _ => .bad
theorem sg_put {ti : TE} {mi : M PyData} {k : Nat} {B : Hp} {L : Frm} {d : PyData} {v : V} {Q : L2.St → Hp → Prop} (hi : SE K mg E ti mi) (A : Ab ⟨K, mg, B, L⟩ G σ H ρ) (hv : Dt K G v d) (e : putI k mi d ρ = some ρ') (q : ∀ G' H', Ex G G' → Ab ⟨K, mg, B, L⟩ G' σ H' ρ' → Q σ H') : gSub (tVar k) ti rSetL v σ H Q := by
  unfold putI at e
  by_cases z : (heldAt ρ k).isSome = true
  · rw [if_pos z] at e
    obtain ⟨ds0, z⟩ := Option.isSome_iff_exists.mp z
    obtain ⟨a, hh, vs0, l0, _⟩ := A.held z
    refine ⟨.ref a, hh.2, hi B L G σ H ρ _ A ?_⟩
    split at e
    · rename_i i ρ2 qi
      rw [qi]
      intro G2 H2 e2 A2 x hx
      split at e
      · rename_i ds qd
        cases qj : ixN ds.length i with
        | none => rw [qj] at e; cases e
        | some j =>
          rw [qj] at e
          cases e
          obtain ⟨b, hb, vs, l, d1, g1, b1⟩ := A2.held qd
          obtain rfl := hold_same hb hh.2
          refine ⟨b, vs, i, j, rfl, hx.int_inv, l, by rw [d1.length]; exact qj, ?_⟩
          exact q G2 _ e2 (A2.put hb (d1.set (hv.mono e2) j))
      · cases e
    · cases e
  · rw [if_neg z] at e; cases e
theorem ss_put2 {t ti tj : TE} {m mi mj : M PyData} {k : Nat} (h : SE K mg E t m) (hi : SE K mg E ti mi) (hj : SE K mg E tj mj) : SS K mg E (tAsg t (gTup K 2 (gCons (gSub (tVar k) ti rSetL) (gCons (gSub (tVar k) tj rSetL) gNil)))) (mPut2 k mi mj m) := fun B L G σ H ρ D A w => by
  refine h B L G σ H ρ _ A ((WS.thn A w).mono fun G1 H1 ρ1 d e1 A1 k1 v hv => ?_)
  split at k1
  · rename_i x y
    obtain ⟨a, xs, rfl, q1, q2⟩ := hv.tup_inv
    obtain ⟨u1, u2, rfl, y1, y2⟩ := q2.two
    obtain ⟨ρ3, q3, w3⟩ := k1.o
    cases z : putI k mi x ρ1 with
    | none => rw [z] at q3; cases q3
    | some ρ2 =>
      rw [z] at q3
      refine ⟨a, [u1, u2], rfl, Evl.ex_t A1.exG q1, rfl, u1, [u2], rfl, sg_put hi A1 y1 z fun G2 H2 e2 A2 => ?_⟩
      refine ⟨u2, [], rfl, sg_put hj A2 (y2.mono e2) q3 fun G3 H3 e3 A3 => ⟨rfl, ?_⟩⟩
      exact w3 G3 σ H3 (e2.trans e3) A3
  · exact k1.elim
/-! ### enumerate -/
def enumL (ds : List PyData) : List PyData := ((List.range ds.length).zip ds).map fun p => .tuple [.int (p.1 : Nat), p.2]
def enumD : List PyData → Option (List PyData)
  | [.list ds] => some (enumL ds)
  | [.tuple ds] => some (enumL ds)
  | _ => none
def mEnum (m : M (List PyData)) : M (List PyData) := mBind m fun d => mOpt (enumD d)
theorem enumL_len (ds : List PyData) : (enumL ds).length = ds.length := by
  unfold enumL
  rw [List.length_map, List.length_zip, List.length_range]
  omega
theorem enumL_get {ds : List PyData} {i : Nat} {d : PyData} (h : (enumL ds)[i]? = some d) : ∃ x, ds[i]? = some x ∧ d = .tuple [.int (i : Nat), x] := by
  unfold enumL at h
  rw [List.getElem?_map] at h
  cases q : ((List.range ds.length).zip ds)[i]? with
  | none => rw [q] at h; cases h
  | some p =>
    rw [q] at h
    cases h
    rw [List.getElem?_zip_eq_some] at q
    obtain ⟨q1, q2⟩ := q
    obtain ⟨z1, z2⟩ := List.getElem?_eq_some_iff.mp q1
    rw [List.getElem_range] at z2
    exact ⟨p.2, q2, by rw [z2]⟩
theorem it_enumL {G0 : Hp} {a : Addr} {xs : List V} {ds : List PyData} (h1 : G0 a = some (.lst xs)) (h2 : DtA K G0 xs ds) : ItOk K G0 (Ite K a) (enumL ds) where
  go := fun i H e hi => by
    rw [enumL_len] at hi
    have hx : i < xs.length := by rw [h2.length]; exact hi
    exact ⟨xs, xs[i], SqL.of (e _ _ h1), List.getElem?_eq_getElem hx⟩
  stop := fun i H e hi => by
    rw [enumL_len] at hi
    exact ⟨xs, SqL.of (e _ _ h1), by rw [h2.length]; exact hi⟩
  yld := fun C G σ H ρ i d x H' hK eG A hd y => by
    obtain ⟨T, x1, rfl, hT, rfl, f1⟩ := y
    obtain ⟨d1, q1, rfl⟩ := enumL_get hd
    obtain ⟨v1, z1, z2⟩ := h2.get' q1
    have y1 := f1 xs (SqL.of (A.exG _ _ (eG _ _ h1)))
    rw [z1] at y1; cases y1
    subst hK
    have T := A.tup hT (.cons (.int (i : Nat)) (.cons (z2.mono eG) .nil))
    exact ⟨_, T.1, T.2.1, T.2.2⟩
theorem it_enumT {G0 : Hp} {a : Addr} {xs : List V} {ds : List PyData} (h1 : SqT K G0 a xs) (h2 : DtA K G0 xs ds) : ItOk K G0 (IteT K a) (enumL ds) where
  go := fun i H e hi => by
    rw [enumL_len] at hi
    have hx : i < xs.length := by rw [h2.length]; exact hi
    exact ⟨xs, xs[i], Evl.ex_t e h1, List.getElem?_eq_getElem hx⟩
  stop := fun i H e hi => by
    rw [enumL_len] at hi
    exact ⟨xs, Evl.ex_t e h1, by rw [h2.length]; exact hi⟩
  yld := fun C G σ H ρ i d x H' hK eG A hd y => by
    obtain ⟨T, x1, rfl, hT, rfl, f1⟩ := y
    obtain ⟨d1, q1, rfl⟩ := enumL_get hd
    obtain ⟨v1, z1, z2⟩ := h2.get' q1
    have y1 := f1 xs (Evl.ex_t (eG.trans A.exG) h1)
    rw [z1] at y1; cases y1
    subst hK
    have T := A.tup hT (.cons (.int (i : Nat)) (.cons (z2.mono eG) .nil))
    exact ⟨_, T.1, T.2.1, T.2.2⟩
theorem si_enum {t : TA} {m : M (List PyData)} (h : SA K mg E t m) : SI K mg E (iEnumA K t) (mEnum m) := fun B L G σ H ρ W A w => by
  refine h B L G σ H ρ _ A ((WR.bind w).mono fun G1 H1 ρ1 ds e1 A1 k vs hv => ?_)
  obtain ⟨is, q, k2⟩ := WR.opt k
  unfold enumD at q
  split at q
  · cases q
    obtain ⟨v, rfl, h1⟩ := hv.one
    obtain ⟨a, xs, rfl, z1, z2⟩ := h1.lst_inv
    exact ⟨a, xs, rfl, .inl ⟨SqL.of (A1.exG _ _ z1), k2.here A1 _ (it_enumL z1 z2)⟩⟩
  · cases q
    obtain ⟨v, rfl, h1⟩ := hv.one
    obtain ⟨a, xs, rfl, z1, z2⟩ := h1.tup_inv
    exact ⟨a, xs, rfl, .inr ⟨Evl.ex_t A1.exG z1, k2.here A1 _ (it_enumT z1 z2)⟩⟩
  · cases q
/-! ### is None -/
def isNon : PyData → Bool
  | .none => true
  | _ => false
def fIsN : PyData → PyData → Option Rv
  | d, .none => some (.dat (.bool (isNon d)))
  | _, _ => none
def fNotN : PyData → PyData → Option Rv
  | d, .none => some (.dat (.bool (!isNon d)))
  | _, _ => none
theorem non_iff {v : V} {d : PyData} (h : Dt K G v d) : decide (v = .non) = isNon d := by
  cases h <;> first | exact decide_eq_true rfl | exact decide_eq_false fun z => nomatch z
theorem ops_isN : OpS K rIsN fIsN := fun mg B L G σ H ρ x y d e z Q A hx hy hz k => by
  unfold fIsN at hz
  split at hz
  · cases hz
    refine ⟨hy.non_inv, k _ G H (Ex.refl G) A ?_⟩
    rw [non_iff hx]
    exact .bl _
  · cases hz
theorem ops_notN : OpS K rNotN fNotN := fun mg B L G σ H ρ x y d e z Q A hx hy hz k => by
  unfold fNotN at hz
  split at hz
  · cases hz
    refine ⟨hy.non_inv, k _ G H (Ex.refl G) A ?_⟩
    rw [non_iff hx]
    exact .bl _
  · cases hz
/-! ### int(x), min(xs), sum(xs) -/
def intD : List PyData → Option Rv
  | [.int i] => some (.dat (.int i))
  | [.bool b] => some (.dat (.int (if b then 1 else 0)))
  | _ => none
theorem cas_int : CaS K (fun xs H Q => (∃ i, xs = [.int i] ∧ Q (.int i) H) ∨ ∃ k, xs = [.bl k] ∧ Q (.int (if k then 1 else 0)) H) intD := fun mg B L G σ H ρ vs ds z Q A hv hz k => by
  unfold intD at hz
  split at hz
  · cases hz
    obtain ⟨v, rfl, h1⟩ := hv.one
    exact .inl ⟨_, by rw [h1.int_inv], k _ G H (Ex.refl G) A (.int _)⟩
  · cases hz
    obtain ⟨v, rfl, h1⟩ := hv.one
    exact .inr ⟨_, by rw [h1.bl_inv], k _ G H (Ex.refl G) A (.int _)⟩
  · cases hz
def minI : List Int → Int
  | [] => 0
  | [i] => i
  | i :: r => min i (minI r)
theorem minI_mem : ∀ {ns : List Int}, ns ≠ [] → minI ns ∈ ns ∧ ∀ y ∈ ns, minI ns ≤ y
  | [], h => absurd rfl h
  | [i], _ => ⟨List.mem_singleton.mpr rfl, fun y hy => by rw [List.mem_singleton.mp hy]; exact Int.le_refl _⟩
  | i :: j :: r, _ => by
    obtain ⟨h1, h2⟩ := minI_mem (ns := j :: r) (fun z => nomatch z)
    have e : minI (i :: j :: r) = min i (minI (j :: r)) := rfl
    rw [e]
    refine ⟨?_, fun y hy => ?_⟩
    · rcases Int.le_total i (minI (j :: r)) with q | q
      · rw [Int.min_eq_left q]; exact List.mem_cons_self ..
      · rw [Int.min_eq_right q]; exact List.mem_cons_of_mem _ h1
    · rcases List.mem_cons.mp hy with q | q
      · rw [q]; exact Int.min_le_left ..
      · exact Int.le_trans (Int.min_le_right ..) (h2 y q)
def min1D : List PyData → Option Rv
  | [.list ds] => match intsD ds with
    | some ns => if ns.isEmpty = true then none else some (.dat (.int (minI ns)))
    | none => none
  | _ => none
theorem cas_min1 : CaS K (rMin K) min1D := fun mg B L G σ H ρ vs ds z Q A hv hz k => by
  unfold min1D at hz
  split at hz
  · rename_i es
    cases q : intsD es with
    | none => rw [q] at hz; cases hz
    | some ns =>
      rw [q] at hz
      dsimp only at hz
      by_cases y : ns.isEmpty = true
      · rw [if_pos y] at hz; cases hz
      · rw [if_neg y] at hz; cases hz
        have ne : ns ≠ [] := fun z => y (by rw [z]; rfl)
        obtain ⟨v, rfl, h1⟩ := hv.one
        obtain ⟨a, xs, rfl, h2, h3⟩ := h1.lst_inv
        rw [intsD_inv q] at h3
        rw [h3.ints] at h2
        refine ⟨a, ns, rfl, SqL.of (A.exG _ _ h2), List.length_pos_iff.mpr ne, fun m hm hle => ?_⟩
        obtain ⟨m1, m2⟩ := minI_mem ne
        rw [show m = minI ns from Int.le_antisymm (hle _ m1) (m2 _ hm)]
        exact k _ G H (Ex.refl G) A (.int _)
  · cases hz
theorem kmin1 {X : Cx} (K : PySem.W.Frag) (hK : X.K = K) (hc : X.calm = true) : CallR X (.builtin "min") (rMin K) := by subst hK; exact cr_min hc
def sum1D : List PyData → Option Rv
  | [.list ds] => (intsD ds).map fun ns => .dat (.int ns.sum)
  | _ => none
theorem cas_sum1 : CaS K (rSum K) sum1D := fun mg B L G σ H ρ vs ds z Q A hv hz k => by
  unfold sum1D at hz
  split at hz
  · rename_i es
    cases q : intsD es with
    | none => rw [q] at hz; cases hz
    | some ns =>
      rw [q] at hz
      cases hz
      obtain ⟨v, rfl, h1⟩ := hv.one
      obtain ⟨a, xs, rfl, h2, h3⟩ := h1.lst_inv
      rw [intsD_inv q] at h3
      rw [h3.ints] at h2
      exact ⟨a, ns, rfl, SqL.of (A.exG _ _ h2), k _ G H (Ex.refl G) A (.int _)⟩
  · cases hz
theorem ksum1 {X : Cx} (K : PySem.W.Frag) (hK : X.K = K) (hc : X.calm = true) : CallR X (.builtin "sum") (rSum K) := by subst hK; exact cr_sum hc
end
theorem bt_sum : bootBuiltins "sum" = some (.builtin "sum") := by decide +kernel
end Hue
-- Hue17
namespace Hue
open PySem PySem.Spec PyProof.Rows L2
open Evl (Ex)
/-! ### for x in xs, xs a list that is held -/
def lntAt (ρ : Env) (k : Nat) : Option (List PyData) := match ρ[k]? with
  | some (.lnt ds) => some ds
  | _ => none
def loopO (b : PyData → Env → Option Env) (f : Env → Fl) (k : Nat) : Nat → Nat → Env → Fl
  | 0, i, ρ => match lntAt ρ k with
    | some ds => if ds.length ≤ i then .nx ρ else .bad
    | none => .bad
  | n + 1, i, ρ => match lntAt ρ k with
    | none => .bad
    | some ds => match ds[i]? with
      | none => .nx ρ
      | some d => match b d ρ with
        | none => .bad
        | some ρ1 => match f ρ1 with
          | .nx ρ2 => loopO b f k n (i + 1) ρ2
          | .ct ρ2 => loopO b f k n (i + 1) ρ2
          | .bk ρ2 => .nx ρ2
          | .rt r ρ2 => .rt r ρ2
          | .ex x ρ2 => .ex x ρ2
          | .bad => .bad
def unlE (k : Nat) (ρ : Env) : Env := match ρ[k]? with
  | some (.lnt ds) => ρ.set k (.own ds)
  | _ => ρ
def unlF (k : Nat) : Fl → Fl
  | .nx ρ => .nx (unlE k ρ)
  | .rt r ρ => .rt r (unlE k ρ)
  | .bk ρ => .bk (unlE k ρ)
  | .ct ρ => .ct (unlE k ρ)
  | .ex x ρ => .ex x (unlE k ρ)
  | .bad => .bad
def mForO (k : Nat) (b : PyData → Env → Option Env) (f : Env → Fl) : Env → Fl := fun ρ => match ρ[k]? with
  | some (.own ds) => unlF k (loopO b f k ds.length 0 (ρ.set k (.lnt ds)))
  | some (.lnt ds) => loopO b f k ds.length 0 ρ
  | _ => mFor (mSeqI (mVar k)) b f ρ
section
variable {K : PySem.W.Frag} {mg : Str → Option Value} {E : XW} {C : Cn} {G G' H H' : Hp} {σ σ' : L2.St} {ρ ρ' : Env} {D : Ends}
theorem lntAt_inv {k : Nat} {ds : List PyData} (h : lntAt ρ k = some ds) : ρ[k]? = some (.lnt ds) := by
  unfold lntAt at h
  split at h
  · cases h; assumption
  · cases h
theorem Ab.pinned {B : Hp} {L : Frm} {k : Nat} {a : Addr} {ds : List PyData} (A : Ab ⟨K, mg, B, L⟩ G σ H ρ) (hk : L.at_ k = some a) (h : lntAt ρ k = some ds) : σ[k]? = some (some (.ref a)) ∧ ∃ vs, H a = some (.lst vs) ∧ DtA K G vs ds := by
  obtain ⟨x, h1, b, rfl, z0, vs, z1, z2, _⟩ := A.sl k _ (lntAt_inv h)
  have z0 : L.at_ k = some b := z0
  rw [hk] at z0
  cases z0
  exact ⟨h1, vs, z1, z2⟩
theorem for_pinned {g : TG} {tb : TS} {b : PyData → Env → Option Env} {f : Env → Fl} {js : List Nat} {k : Nat} {a : Addr} {B : Hp} {L : Frm} {ds : List PyData} (hg : SG K g b js) (hb : SS K mg E tb f) (A : Ab ⟨K, mg, B, L⟩ G σ H ρ) (hk : L.at_ k = some a) (hl : lntAt ρ k = some ds)
    (w : WS ⟨K, mg, B, L⟩ E G D (loopO b f k ds.length 0 ρ)) : tFor (iSeq K (tVar k)) g tb D σ H := by
  obtain ⟨h1, vs, z1, z2⟩ := A.pinned hk hl
  refine .inl ⟨.ref a, h1, a, rfl, ⟨vs, SqL.of z1⟩, fun i n σ' H' => ∃ G' ρ', Ab ⟨K, mg, B, L⟩ G' σ' H' ρ' ∧ WS ⟨K, mg, B, L⟩ E G' D (loopO b f k n i ρ'), ⟨ds.length, G, ρ, A, w⟩, ?_⟩
  rintro i n σ' H' ⟨G', ρ', A', w'⟩
  cases n with
  | zero =>
    unfold loopO at w'
    cases q : lntAt ρ' k with
    | none => rw [q] at w'; exact w'.elim
    | some es =>
      rw [q] at w'
      dsimp only at w'
      obtain ⟨_, us, y1, y2⟩ := A'.pinned hk q
      by_cases hle : es.length ≤ i
      · rw [if_pos hle] at w'
        exact .inl ⟨⟨us, SqL.of y1, by rw [y2.length]; exact hle⟩, w'.nx' A'⟩
      · rw [if_neg hle] at w'; exact w'.elim
  | succ n =>
    unfold loopO at w'
    cases q : lntAt ρ' k with
    | none => rw [q] at w'; exact w'.elim
    | some es =>
      rw [q] at w'
      dsimp only at w'
      obtain ⟨_, us, y1, y2⟩ := A'.pinned hk q
      cases qd : es[i]? with
      | none =>
        rw [qd] at w'
        have := List.getElem?_eq_none_iff.mp qd
        exact .inl ⟨⟨us, SqL.of y1, by rw [y2.length]; exact this⟩, w'.nx' A'⟩
      | some d =>
        rw [qd] at w'
        dsimp only at w'
        obtain ⟨u, q1, q2⟩ := y2.get' qd
        refine .inr ⟨⟨us, u, SqL.of y1, q1⟩, fun σ2 H2 => ∃ G2 ρ2, Ab ⟨K, mg, B, L⟩ G2 σ2 H2 ρ2 ∧ WS ⟨K, mg, B, L⟩ E G2 D (loopO b f k n (i + 1) ρ2), fun σ2 H2 h => ⟨n, Nat.lt_succ_self n, h⟩, fun x H2 y => ?_⟩
        obtain ⟨rfl, y⟩ := y
        have yx := y us (SqL.of y1)
        rw [q1] at yx
        cases yx
        cases qb : b d ρ' with
        | none => rw [qb] at w'; exact w'.elim
        | some ρ2 =>
          rw [qb] at w'
          dsimp only at w'
          refine hg ⟨K, mg, B, L⟩ G' σ' H2 ρ' ρ2 u d _ rfl A' q2 qb fun σ3 _ A3 => ?_
          refine hb B L G' σ3 H2 ρ2 _ A3 ?_
          cases q2 : f ρ2 with
          | nx ρ3 => rw [q2] at w'; exact fun G4 σ4 H4 e4 A4 => ⟨G4, ρ3, A4, w'.grow e4⟩
          | ct ρ3 => rw [q2] at w'; exact fun G4 σ4 H4 e4 A4 => ⟨G4, ρ3, A4, w'.grow e4⟩
          | bk ρ3 => rw [q2] at w'; exact w'
          | rt r ρ3 => rw [q2] at w'; exact w'
          | ex x ρ3 => rw [q2] at w'; exact w'
          | bad => rw [q2] at w'; exact w'.elim
/-- lent to oneself, and back -/
def pinL (L : Frm) (k : Nat) (a : Addr) : Frm := { L with at_ := fun j => if j = k then some a else L.at_ j }
theorem Ab.lend {B : Hp} {L : Frm} {k : Nat} {a : Addr} {ds : List PyData} (A : Ab ⟨K, mg, B, L⟩ G σ H ρ) (q : ρ[k]? = some (.own ds)) (h1 : σ[k]? = some (some (.ref a))) : Ab ⟨K, mg, B, pinL L k a⟩ G σ H (ρ.set k (.lnt ds)) := by
  have hk : k < ρ.length := (List.getElem?_eq_some_iff.mp q).1
  have hold : ∀ j c, Hold (ρ.set k (.lnt ds)) σ j c → Hold ρ σ j c := fun j c h => by
    obtain ⟨⟨es, e⟩, e2⟩ := h
    by_cases hj : k = j
    · subst hj; exact ⟨⟨ds, .inl q⟩, e2⟩
    · rw [List.getElem?_set_ne hj] at e; exact ⟨⟨es, e⟩, e2⟩
  refine ⟨A.exG, A.exB, A.dis, A.scr, by rw [List.length_set]; exact A.len, fun j s e => ?_, fun i j c h h' => A.nd i j c (hold i c h) (hold j c h')⟩
  by_cases hj : k = j
  · subst hj
    rw [List.getElem?_set_self hk] at e
    cases e
    obtain ⟨x, y1, c, rfl, y2⟩ := A.sl k _ q
    rw [h1] at y1
    cases y1
    exact ⟨_, h1, a, rfl, by show (if k = k then some a else _) = _; rw [if_pos rfl], y2⟩
  · rw [List.getElem?_set_ne hj] at e
    obtain ⟨x, y1, y2⟩ := A.sl j s e
    refine ⟨x, y1, ?_⟩
    cases s with
    | un => exact trivial
    | dat d => exact y2
    | own es => exact y2
    | scr ns => exact y2
    | lnt es =>
      obtain ⟨c, z1, z2, z3⟩ := y2
      exact ⟨c, z1, by show (if j = k then some a else L.at_ j) = _; rw [if_neg fun z => hj z.symm]; exact z2, z3⟩
theorem unlE_hold {k : Nat} (j : Nat) (c : Addr) : Hold (unlE k ρ) σ j c ↔ Hold ρ σ j c := by
  unfold unlE
  split
  · rename_i ds q
    have hk : k < ρ.length := (List.getElem?_eq_some_iff.mp q).1
    constructor
    · rintro ⟨⟨es, e⟩, e2⟩
      by_cases hj : k = j
      · subst hj; exact ⟨⟨ds, .inr q⟩, e2⟩
      · rw [List.getElem?_set_ne hj] at e; exact ⟨⟨es, e⟩, e2⟩
    · rintro ⟨⟨es, e⟩, e2⟩
      by_cases hj : k = j
      · subst hj; exact ⟨⟨ds, .inl (List.getElem?_set_self hk)⟩, e2⟩
      · exact ⟨⟨es, by rw [List.getElem?_set_ne hj]; exact e⟩, e2⟩
  · exact Iff.rfl
theorem Ab.unlend {B : Hp} {L : Frm} {k : Nat} {a : Addr} (A : Ab ⟨K, mg, B, pinL L k a⟩ G σ H ρ) : Ab ⟨K, mg, B, L⟩ G σ H (unlE k ρ) := by
  refine ⟨A.exG, A.exB, A.dis, A.scr, ?_, fun j s e => ?_, fun i j c h h' => A.nd i j c ((unlE_hold i c).mp h) ((unlE_hold j c).mp h')⟩
  · rw [A.len]
    unfold unlE
    split
    · rw [List.length_set]
    · rfl
  · have other : ∀ s, ρ[j]? = some s → (∀ es, s = .lnt es → j ≠ k) → ∃ x, σ[j]? = some x ∧ SlOk ⟨K, mg, B, L⟩ G H j x s := fun s e ne => by
      obtain ⟨x, y1, y2⟩ := A.sl j s e
      refine ⟨x, y1, ?_⟩
      cases s with
      | un => exact trivial
      | dat d => exact y2
      | own es => exact y2
      | scr ns => exact y2
      | lnt es =>
        obtain ⟨c, z1, z2, z3⟩ := y2
        have z2 : (if j = k then some a else L.at_ j) = some c := z2
        rw [if_neg (ne es rfl)] at z2
        exact ⟨c, z1, z2, z3⟩
    unfold unlE at e
    split at e
    · rename_i ds q
      have hk : k < ρ.length := (List.getElem?_eq_some_iff.mp q).1
      by_cases hj : k = j
      · subst hj
        rw [List.getElem?_set_self hk] at e
        cases e
        obtain ⟨x, y1, c, rfl, z2, z3⟩ := A.sl k _ q
        exact ⟨_, y1, c, rfl, z3⟩
      · rw [List.getElem?_set_ne hj] at e
        exact other s e fun _ _ z => hj z.symm
    · rename_i q
      exact other s e fun es z hj => by subst z hj; exact q es e
theorem RvOk.unlend {B : Hp} {L L' : Frm} {k : Nat} {v : V} {r : Rv} (h : RvOk ⟨K, mg, B, L'⟩ G σ H ρ v r) : RvOk ⟨K, mg, B, L⟩ G σ H (unlE k ρ) v r := by
  cases r with
  | dat d => exact h
  | new ds =>
    obtain ⟨p, h1, h2, h3⟩ := h
    exact ⟨p, h1, h2, fun i hh => h3 i ((unlE_hold i p).mp hh)⟩
theorem WS.lend {B : Hp} {L : Frm} {k : Nat} {a : Addr} {fl : Fl} (w : WS ⟨K, mg, B, L⟩ E G D (unlF k fl)) : WS ⟨K, mg, B, pinL L k a⟩ E G D fl := by
  cases fl with
  | nx ρ => exact fun G' σ' H' e A => w G' σ' H' e A.unlend
  | rt r ρ => exact fun v G' σ' H' e A h => w v G' σ' H' e A.unlend h.unlend
  | bk ρ => exact fun G' σ' H' e A => w G' σ' H' e A.unlend
  | ct ρ => exact fun G' σ' H' e A => w G' σ' H' e A.unlend
  | ex x ρ => exact fun G' σ' H' cls da e A h => w G' σ' H' cls da e A.unlend h
  | bad => exact w
theorem ss_forO {g : TG} {tb : TS} {b : PyData → Env → Option Env} {f : Env → Fl} {js : List Nat} {k : Nat} (hg : SG K g b js) (hb : SS K mg E tb f) : SS K mg E (tFor (iSeq K (tVar k)) g tb) (mForO k b f) := fun B L G σ H ρ D A w => by
  unfold mForO at w
  split at w
  · rename_i ds q
    obtain ⟨x, h1, a, rfl, _⟩ := A.sl k _ q
    have hk : k < ρ.length := (List.getElem?_eq_some_iff.mp q).1
    exact for_pinned hg hb (A.lend q h1) (a := a) (by show (if k = k then some a else _) = _; rw [if_pos rfl]) (by unfold lntAt; rw [List.getElem?_set_self hk]) w.lend
  · rename_i ds q
    obtain ⟨x, h1, a, rfl, z0, _⟩ := A.sl k _ q
    exact for_pinned hg hb A z0 (by unfold lntAt; rw [q]) w
  · exact ss_for (si_seq se_var) hg hb B L G σ H ρ D A w
end
end Hue
-- HueS
namespace Hue
open PySem PySem.Spec PyProof.Rows L2
open Evl (Ex)
/-! ### sorted(t), t a tuple of ints -/
section
variable {prog : Program} {w : World} {A : Around} {E : Value → Shared → Prop} {s : Shared}
/-- the heap behind the collecting -/
def colH (h : Heap) (vs : List Value) : Heap := (h.push (seqObj "list" #[] 0)).update h.objs.size (Obj.mapSeq (· ++ vs.toArray))
theorem collect_tup {t : Addr} {vs : List Value} {Q : List Value → Shared → Prop} (ht : IsTup s.heap t vs.toArray) (fin : Q vs { s with heap := colH s.heap vs }) (hz : vs.length ≤ sizeLine) : wpAny (model prog w) A (collect (.ref t)) Q E s := by
  obtain ⟨o, go, oc, k, od⟩ := id ht
  unfold collect
  refine wpAny_bind (wpAny_runValue (codeAny_builtin entry_proto_collect' ?_))
  show wpAny _ _ (do again (.builtin "list.__iadd__" ⟨[← newList [], .ref t], []⟩)) _ _ s
  refine wpAny_bind (wpAny_newList (wpAny_pure ⟨Code.quiet_builtin _ (by decide +kernel), codeAny_builtin entry_list_iadd' ?_⟩))
  show wpAny _ _ (Builtin.List.listExtendWith (.ref s.heap.objs.size) (.ref t) (.ref s.heap.objs.size)) _ _ { s with heap := s.heap.push (seqObj "list" #[] 0) }
  unfold Builtin.List.listExtendWith
  have go2 : (s.heap.push (seqObj "list" #[] 0)).get? t = some o := Heap.get?_push_of_some _ go
  refine wpAny_bind (wpAny_typeOf (T := "tuple") ⟨o, go2, oc⟩ ?_)
  have e2 : (Value.type "tuple" == Value.type "tuple") = true := by rfl
  rw [if_pos (by rw [e2]; simp)]
  refine wpAny_bind (listItems_at go2 od (wpAny_bind (listItems_at (xs := #[]) (n := 0) (Heap.get?_push_size _ rfl) rfl ?_)))
  rw [if_neg (by simp)]
  have sz : (#[] ++ vs.toArray).size ≤ sizeLine + 1 := by simp only [Array.size_append, List.size_toArray, List.length_nil]; omega
  refine wpAny_bind (listUpdate_at (xs := #[]) (n := 0) (Heap.get?_push_size _ rfl) rfl (wpAny_pure ?_) (Nat.zero_le _) sz)
  show wpAny (model prog w) A (load s.heap.objs.size >>= fun o => match o.data with
      | .seq xs _ => pure xs.toList
      | _ => unsupported "internal:collect") Q E { s with heap := colH s.heap vs }
  refine wpAny_bind (wpAny_load (get?_update_seq (Heap.get?_push_size _ rfl) _) ?_)
  show wpAny _ _ (pure ((#[] : Array Value) ++ vs.toArray).toList) Q E _
  have e3 : ((#[] : Array Value) ++ vs.toArray).toList = vs := by simp
  rw [e3]
  exact wpAny_pure fin
theorem sorted_tup {t : Addr} {vs : List Value} {ltv : Value → Value → Bool} {Q : Value → Shared → Prop} (O : SrtO.Swo ltv) (ht : IsTup s.heap t vs.toArray) (hz : vs.length ≤ sizeLine)
    (can : 2 ≤ vs.length → ∀ (h1 : Heap) (a : Addr), h1.get? a = some (seqObj "list" vs.toArray 0) → (∀ b o, s.heap.get? b = some o → h1.get? b = some o) → SrtO.SortableO prog w A.in1.in1 { s with heap := h1 } a vs ltv)
    (fin : ∀ out : List Value, SrtO.Srtd ltv out → SrtO.Stb ltv out vs → Q (.ref (s.heap.objs.size + 1)) { s with heap := sortedAll s.heap vs out.toArray }) : wpAny (model prog w) A (call (.builtin "sorted") [.ref t]) Q E s := by
  refine Calls.call_function_entry kind_sorted plain_sorted entry_sorted (args_sorted1 _) ?_
  unfold Builtin.«sorted»
  refine wpAny_bind (m := checkCount "sorted" 1 1 _) (wpAny_pure (wpAny_bind (collect_tup ht (wpAny_bind (wpAny_newList ?_ hz)) hz)))
  have z1 : (colH s.heap vs).objs.size = s.heap.objs.size + 1 := by unfold colH; rw [Heap.size_update, size_push']
  have at1 : ((colH s.heap vs).push (seqObj "list" vs.toArray 0)).get? (s.heap.objs.size + 1) = some (seqObj "list" vs.toArray 0) := by rw [← z1]; exact Heap.get?_push_size _ rfl
  have kp : ∀ b o, s.heap.get? b = some o → ((colH s.heap vs).push (seqObj "list" vs.toArray 0)).get? b = some o := fun b o q => by
    refine Heap.get?_push_of_some _ ?_
    unfold colH
    rw [Heap.get?_update_ne _ _ _ _ (Nat.ne_of_lt (Heap.lt_size q))]
    exact Heap.get?_push_of_some _ q
  show wpAny _ _ _ _ _ { s with heap := (colH s.heap vs).push (seqObj "list" vs.toArray 0) }
  rw [z1]
  exact wpAny_bind (wpAny_holding (wpAny_call_entry slot_list_sort ⟨_, at1, rfl⟩ entry_list_sort (SrtO.list_sort_ord O at1 hz (fun h2 => can h2 _ _ at1 kp) fun out h1 h2 => ⟨_, rfl, wpAny_pure ⟨_, rfl, fin out h1 h2⟩⟩) (args_list_sort _)))
end
section
variable {X : Cx}
def rSortTu (K : PySem.W.Frag) : List V → Hp → VK → Prop := fun vs H Q => ∃ (a : Addr) (ns : List Int), vs = [V.ref a] ∧ SqT K H a (ns.map V.int) ∧ ∀ (ms : List Int) (p : Addr), ms.Perm ns → ms.Pairwise (· ≤ ·) → H p = none → Q (.ref p) (upd H p (.lst (ms.map V.int)))
theorem cr_sortTu : CallR X (.builtin "sorted") (rSortTu X.K) := by
  intro pins s σ H vs us Q I r h
  obtain ⟨a, ns, rfl, hs, q⟩ := h
  obtain ⟨its, rv, ht, hz⟩ := I.tuple hs
  rw [Vals.ref1 r]
  have hi := rv.ints
  refine sorted_tup SrtO.swo_int ht (by rw [← rv.length]; exact hz) (fun h2 _ _ _ _ => SrtO.ints_sortable hi h2) fun out h1 h2 => ?_
  obtain ⟨k1, k2, k3⟩ := SrtO.ints_out hi h1 h2
  obtain ⟨ep, e1⟩ := PyProof.Rows.sortedAll_at s.heap its out.toArray
  have hl : ((out.map SrtO.iv).map V.int).length ≤ sizeLine := by
    rw [List.length_map, k2.length_eq]
    rwa [List.length_map] at hz
  exact ⟨.ref _, upd H (s.heap.objs.size + 1) (.lst ((out.map SrtO.iv).map V.int)), I.laid (t' := s.toks) (fun _ _ => PyProof.Rows.sortedAll_old) (Nat.le_succ _) ⟨hl, out, ep, vals_of_ints k1, e1⟩, rfl, q _ _ k2 k3 (I.hok.fresh (Nat.le_succ _))⟩
end
section
variable {K : PySem.W.Frag}
def sortTD : List PyData → Option Rv
  | [.tuple ds] => (intsD ds).map fun ns => .new ((isort ns).map PyData.int)
  | _ => none
theorem perm_isort {ms ns : List Int} (h : ms.Perm ns) (s : ms.Pairwise (· ≤ ·)) : ms = isort ns := by
  have h2 : (isort ns).Perm ns := isort_perm ns
  exact List.Perm.eq_of_pairwise (fun a b _ _ h1 h2 => Int.le_antisymm h1 h2) s (isort_sorted ns) (h.trans h2.symm)
def rSortA (K : PySem.W.Frag) : List V → Hp → VK → Prop := cOr (rSortedI K) (rSortTu K)
def sortAD : List PyData → Option Rv := fun d => (sortD d).or (sortTD d)
theorem cas_sortTu : CaS K (rSortTu K) sortTD := fun mg B L G σ H ρ vs ds z Q A hv hz k => by
  unfold sortTD at hz
  split at hz
  · rename_i es
    cases q : intsD es with
    | none => rw [q] at hz; cases hz
    | some ns =>
      rw [q] at hz; cases hz
      obtain ⟨v, rfl, h1⟩ := hv.one
      obtain ⟨a, e1, h2⟩ := h1.intsT q
      subst e1
      refine ⟨a, ns, rfl, Evl.ex_t A.exG h2, fun ms p pm so hp => ?_⟩
      rw [perm_isort pm so]
      have T := A.fresh hp (DtA.ofInts (isort ns))
      exact k _ G _ (Ex.refl G) T.1 T.2
  · cases hz
theorem cas_sortA : CaS K (rSortA K) sortAD := cas_two cas_sort cas_sortTu
theorem ksortA {X : Cx} (K : PySem.W.Frag) (hK : X.K = K) (hc : X.calm = true) : CallR X (.builtin "sorted") (rSortA K) := by subst hK; exact call_two cr_sortedI cr_sortTu
end
end Hue
-- Hue18
namespace Hue
open PySem PySem.Spec PyProof.Rows L2
open Evl (Ex)
/-! ### dicts as data -/
def keyOf : PyData → Option Key
  | .int i => some (.inl i)
  | .str x => some (.inr x)
  | _ => none
abbrev Es := List (PyData × PyData)
def isK (d : PyData) (k : Key) : Bool := decide (keyOf d = some k)
def lkE (es : Es) (k : Key) : Option PyData := (es.find? fun p => isK p.1 k).map (·.2)
def putE (es : Es) (k : Key) (d : PyData) : Es := if (es.any fun p => isK p.1 k) = true then es.map (fun p => if isK p.1 k = true then (p.1, d) else p) else es ++ [(keyD k, d)]
theorem keyOf_D (k : Key) : keyOf (keyD k) = some k := by cases k <;> rfl
theorem isK_D (a k : Key) : isK (keyD a) k = decide (a = k) := by
  unfold isK
  rw [keyOf_D]
  by_cases h : a = k
  · rw [h, decide_eq_true rfl, decide_eq_true rfl]
  · rw [decide_eq_false h, decide_eq_false]
    intro z
    exact h (Option.some.inj z)
section
variable {K : PySem.W.Frag} {mg : Str → Option Value} {E : XW} {C : Cn} {G G' H H' : Hp} {σ σ' : L2.St} {ρ ρ' : Env} {D : Ends}
theorem key_v {v : V} {d : PyData} {k : Key} (h : Dt K G v d) (q : keyOf d = some k) : v = kV k ∧ d = keyD k := by
  cases h <;> first | (cases q; exact ⟨rfl, rfl⟩) | cases q
theorem DtK.lk {k : Key} : ∀ {kvs : List (Key × V)} {es : Es}, DtK K G kvs es → (valV kvs k = none ∧ lkE es k = none) ∨ ∃ v d, valV kvs k = some v ∧ lkE es k = some d ∧ Dt K G v d
  | _, _, .nil => .inl ⟨rfl, rfl⟩
  | _, _, @DtK.cons _ _ a v r d ds h1 h2 => by
    by_cases e : a = k
    · refine .inr ⟨v, d, valV_pos e, ?_, h1⟩
      show (List.find? (fun p => isK p.1 k) ((keyD a, d) :: ds)).map (·.2) = _
      rw [List.find?_cons_of_pos (by rw [isK_D]; exact decide_eq_true e)]
      rfl
    · have q : lkE ((keyD a, d) :: ds) k = lkE ds k := by
        show (List.find? (fun p => isK p.1 k) ((keyD a, d) :: ds)).map (·.2) = _
        rw [List.find?_cons_of_neg (by rw [isK_D, decide_eq_false e]; exact Bool.false_ne_true)]
        rfl
      rcases DtK.lk (k := k) h2 with ⟨q1, q2⟩ | ⟨v2, d2, q1, q2, q3⟩
      · exact .inl ⟨(valV_neg e).trans q1, q.trans q2⟩
      · exact .inr ⟨v2, d2, (valV_neg e).trans q1, q.trans q2, q3⟩
theorem DtK.any {k : Key} : ∀ {kvs : List (Key × V)} {es : Es}, DtK K G kvs es → (kvs.any fun kv => decide (kv.1 = k)) = es.any fun p => isK p.1 k
  | _, _, .nil => rfl
  | _, _, @DtK.cons _ _ a v r d ds h1 h2 => by
    rw [List.any_cons, List.any_cons, DtK.any h2, isK_D]
theorem DtK.mapP {k : Key} {v : V} {d : PyData} (h : Dt K G v d) : ∀ {kvs : List (Key × V)} {es : Es}, DtK K G kvs es → DtK K G (kvs.map fun kv => if kv.1 = k then (kv.1, v) else kv) (es.map fun p => if isK p.1 k = true then (p.1, d) else p)
  | _, _, .nil => .nil
  | _, _, @DtK.cons _ _ a u r e ds h1 h2 => by
    rw [List.map_cons, List.map_cons]
    have ih := DtK.mapP (k := k) h h2
    by_cases q : a = k
    · rw [if_pos (show ((a, u) : Key × V).1 = k from q), if_pos (show isK ((keyD a, e) : PyData × PyData).1 k = true by rw [isK_D]; exact decide_eq_true q)]
      exact .cons h ih
    · rw [if_neg (show ¬ ((a, u) : Key × V).1 = k from q), if_neg (show ¬ isK ((keyD a, e) : PyData × PyData).1 k = true by rw [isK_D, decide_eq_false q]; exact Bool.false_ne_true)]
      exact .cons h1 ih
theorem DtK.app : ∀ {kvs lvs : List (Key × V)} {es fs : Es}, DtK K G kvs es → DtK K G lvs fs → DtK K G (kvs ++ lvs) (es ++ fs)
  | _, _, _, _, .nil, h => h
  | _, _, _, _, .cons h1 h2, h => .cons h1 (DtK.app h2 h)
theorem DtK.put {k : Key} {v : V} {d : PyData} {kvs : List (Key × V)} {es : Es} (h : Dt K G v d) (hk : DtK K G kvs es) : DtK K G (putK kvs k v) (putE es k d) := by
  unfold putK putE
  rw [hk.any]
  by_cases q : (es.any fun p => isK p.1 k) = true
  · rw [if_pos q, if_pos q]; exact DtK.mapP h hk
  · rw [if_neg q, if_neg q]; exact hk.app (.cons h .nil)
theorem DtK.len : ∀ {kvs : List (Key × V)} {es : Es}, DtK K G kvs es → kvs.length = es.length
  | _, _, .nil => rfl
  | _, _, .cons _ h2 => by rw [List.length_cons, List.length_cons, DtK.len h2]
theorem Dt.dct_inv {v : V} {es : Es} (h : Dt K G v (.dict es)) : ∃ a kvs, v = .ref a ∧ Rd G a (.dK kvs) ∧ DtK K G kvs es := by cases h with | dct h1 h2 => exact ⟨_, _, rfl, h1, h2⟩
/-- d[k] -/
def dgetD : PyData → PyData → Option PyData
  | .dict es, k => (keyOf k).bind (lkE es)
  | _, _ => none
def mDGet (md mk : M PyData) : M PyData := mBind md fun d => mBind mk fun k => mOpt (dgetD d k)
theorem se_dget {td tk : TE} {md mk : M PyData} (hd : SE K mg E td md) (hk : SE K mg E tk mk) : SE K mg E (tDGet td tk) (mDGet md mk) := fun B L G σ H ρ Q A w => by
  refine hd B L G σ H ρ _ A ((WR.bind w).mono fun G1 H1 ρ1 d e1 A1 k1 x hx => ?_)
  refine hk B L G1 σ H1 ρ1 _ A1 ((WR.bind k1).mono fun G2 H2 ρ2 k e2 A2 k2 y hy => ?_)
  obtain ⟨z, q, k3⟩ := WR.opt k2
  unfold dgetD at q
  split at q
  · rename_i es
    obtain ⟨a, kvs, rfl, h1, h2⟩ := hx.dct_inv
    cases qk : keyOf k with
    | none => rw [qk] at q; cases q
    | some key =>
      rw [qk] at q
      have q : lkE es key = some z := q
      rcases (h2.mono e2).lk (k := key) with ⟨q1, q2⟩ | ⟨v, d, q1, q2, q3⟩
      · rw [q2] at q; cases q
      · rw [q2] at q; cases q
        exact ⟨a, v, rfl, .inl ⟨kvs, key, rd_mono (e2.trans A2.exG) h1, (key_v hy qk).1, q1.symm⟩, k3.here A2 v q3⟩
  · cases q
/-- k in d -/
def dinD : PyData → PyData → Option PyData
  | .dict es, k => (keyOf k).map fun key => .bool (lkE es key).isSome
  | _, _ => none
def mDIn (mk md : M PyData) : M PyData := mBind mk fun k => mBind md fun d => mOpt (dinD d k)
theorem se_din {td tk : TE} {md mk : M PyData} (hk : SE K mg E tk mk) (hd : SE K mg E td md) : SE K mg E (tDIn tk td) (mDIn mk md) := fun B L G σ H ρ Q A w => by
  refine hk B L G σ H ρ _ A ((WR.bind w).mono fun G1 H1 ρ1 k e1 A1 k1 y hy => ?_)
  refine hd B L G1 σ H1 ρ1 _ A1 ((WR.bind k1).mono fun G2 H2 ρ2 d e2 A2 k2 x hx => ?_)
  obtain ⟨z, q, k3⟩ := WR.opt k2
  unfold dinD at q
  split at q
  · rename_i es
    obtain ⟨a, kvs, rfl, h1, h2⟩ := hx.dct_inv
    cases qk : keyOf k with
    | none => rw [qk] at q; cases q
    | some key =>
      rw [qk] at q
      cases q
      refine ⟨a, valV kvs key, rfl, .inl ⟨kvs, key, rd_mono A2.exG h1, (key_v hy qk).1, rfl⟩, k3.here A2 _ ?_⟩
      have e : (valV kvs key).isSome = (lkE es key).isSome := by
        rcases h2.lk (k := key) with ⟨q1, q2⟩ | ⟨v, d, q1, q2, _⟩
        · rw [q1, q2]; rfl
        · rw [q1, q2]; rfl
      rw [e]
      exact .bl _
  · cases q
/-- d.get(k, x) -/
def mDGet2 (md mk mx : M PyData) : M PyData := mBind md fun d => match d with
  | .dict es => mBind mk fun k => mBind mx fun x => mOpt ((keyOf k).map fun key => (lkE es key).getD x)
  | _ => fun _ => .bad
theorem se_dget2 {td tk tx : TE} {md mk mx : M PyData} (hd : SE K mg E td md) (hk : SE K mg E tk mk) (hx : SE K mg E tx mx) : SE K mg E (tDGet2 td tk tx) (mDGet2 md mk mx) := fun B L G σ H ρ Q A w => by
  have w1 := WR.bind w
  cases qd : md ρ with
  | bad => rw [qd] at w1; exact w1.elim
  | ex x ρ1 =>
    refine hd B L G σ H ρ _ A ?_
    rw [qd] at w1 ⊢
    exact w1
  | ok d ρ1 =>
    rw [qd] at w1
    refine hd B L G σ H ρ _ A ?_
    rw [qd]
    intro G1 H1 e1 A1 x hx1
    have k1 := w1 G1 H1 e1 A1
    cases d with
    | dict es =>
      obtain ⟨a, kvs, rfl, h1, h2⟩ := hx1.dct_inv
      refine ⟨a, rfl, .inl ⟨kvs, rd_mono A1.exG h1⟩, ?_⟩
      refine hk B L G1 σ H1 ρ1 _ A1 ((WR.bind k1).mono fun G2 H2 ρ2 k e2 A2 k2 y hy => ?_)
      refine hx B L G2 σ H2 ρ2 _ A2 ((WR.bind k2).mono fun G3 H3 ρ3 xx e3 A3 k3 u hu => ?_)
      obtain ⟨z, q, k4⟩ := WR.opt k3
      cases qk : keyOf k with
      | none => rw [qk] at q; cases q
      | some key =>
        rw [qk] at q
        cases q
        refine ⟨valV kvs key, .inl ⟨kvs, key, rd_mono ((e2.trans e3).trans A3.exG) h1, (key_v hy qk).1, rfl⟩, k4.here A3 _ ?_⟩
        show Dt K G3 ((valV kvs key).getD u) ((lkE es key).getD xx)
        rcases ((h2.mono e2).mono e3).lk (k := key) with ⟨q1, q2⟩ | ⟨v, d, q1, q2, q3⟩
        · rw [q1, q2]; exact hu
        · rw [q1, q2]; exact q3
    | _ => exact (show False from k1).elim
end
end Hue
-- Hue19
namespace Hue
open PySem PySem.Spec PyProof.Rows L2
open Evl (Ex)
/-! ### one dict of the frame's own, at slot i -/
inductive Fl1 where
  | nx (ρ : Env) (es : Es) | rt (r : Rv) (ρ : Env) | bk (ρ : Env) (es : Es) | ct (ρ : Env) (es : Es) | ex (x : Xn) (ρ : Env) | bad
abbrev X1 (α : Type) := Env → Es → R α
abbrev S1 := Env → Es → Fl1
def inB (C : Cn) (a : Addr) (kvs : List (Key × V)) : Cn := { C with B := upd C.B a (.dK kvs) }
structure AbD (C : Cn) (G : Hp) (σ : L2.St) (H : Hp) (ρ : Env) (i : Nat) (es : Es) (a : Addr) (kvs : List (Key × V)) : Prop where
  ab : Ab (inB C a kvs) G σ H ρ
  un : ρ[i]? = some .un
  at_ : σ[i]? = some (some (.ref a))
  bn : C.B a = none
  dk : DtK C.K G kvs es
  sc : ∀ b ns, C.L.scr = some (b, ns) → SqL C.K C.B b (ns.map V.int)
def isUn (ρ : Env) (i : Nat) : Bool := match ρ[i]? with
  | some .un => true
  | _ => false
theorem isUn_inv {ρ : Env} {i : Nat} (h : isUn ρ i = true) : ρ[i]? = some .un := by
  unfold isUn at h
  split at h
  · assumption
  · cases h
section
variable {K : PySem.W.Frag} {mg : Str → Option Value} {E : XW} {C : Cn} {G G' H H' : Hp} {σ σ' : L2.St} {ρ ρ' : Env} {D : Ends} {i : Nat} {es : Es} {a : Addr} {kvs : List (Key × V)}
theorem AbD.out (A : AbD C G σ H ρ i es a kvs) : Ab C G σ H ρ ∧ H a = some (.dK kvs) ∧ G a = none ∧ ∀ j, ¬ Hold ρ σ j a := Ab.unframe (C := C) A.ab A.bn A.sc
def WR1 {α : Type} (C : Cn) (E : XW) (G : Hp) (σ : L2.St) (i : Nat) (es : Es) (ok : Hp → Hp → Env → Addr → List (Key × V) → α → Prop) : R α → Prop
  | .ok x ρ' => ∀ G' H' a kvs, Ex G G' → AbD C G' σ H' ρ' i es a kvs → ok G' H' ρ' a kvs x
  | .ex x ρ' => ∀ G' H' cls da, Ex G G' → Ab C G' σ H' ρ' → XOk C G' H' x cls da → E cls da σ H'
  | .bad => False
def SX1 (K : PySem.W.Frag) (mg : Str → Option Value) (E : XW) (i : Nat) (t : TE) (m : X1 Rv) : Prop := ∀ (B : Hp) (L : Frm) (G : Hp) (σ : L2.St) (H : Hp) (ρ : Env) (es : Es) (a : Addr) (kvs : List (Key × V)) (Q : VK), AbD ⟨K, mg, B, L⟩ G σ H ρ i es a kvs →
  WR1 ⟨K, mg, B, L⟩ E G σ i es (fun G' H' ρ' a kvs r => ∀ v, RvOk (inB ⟨K, mg, B, L⟩ a kvs) G' σ H' ρ' v r → Q v H') (m ρ es) → t σ H Q
def ST1 (K : PySem.W.Frag) (mg : Str → Option Value) (E : XW) (i : Nat) (t : TT) (m : X1 Bool) : Prop := ∀ (B : Hp) (L : Frm) (G : Hp) (σ : L2.St) (H : Hp) (ρ : Env) (es : Es) (a : Addr) (kvs : List (Key × V)) (Q : Bool → Hp → Prop), AbD ⟨K, mg, B, L⟩ G σ H ρ i es a kvs →
  WR1 ⟨K, mg, B, L⟩ E G σ i es (fun _ H' _ _ _ b => Q b H') (m ρ es) → t σ H Q
def WS1 (C : Cn) (E : XW) (G : Hp) (i : Nat) (D : Ends) : Fl1 → Prop
  | .nx ρ' es => ∀ G' σ' H' a kvs, Ex G G' → AbD C G' σ' H' ρ' i es a kvs → D.nx σ' H'
  | .rt r ρ' => ∀ v G' σ' H', Ex G G' → Ab C G' σ' H' ρ' → RvOk C G' σ' H' ρ' v r → D.rt v H'
  | .bk ρ' es => ∀ G' σ' H' a kvs, Ex G G' → AbD C G' σ' H' ρ' i es a kvs → D.bk σ' H'
  | .ct ρ' es => ∀ G' σ' H' a kvs, Ex G G' → AbD C G' σ' H' ρ' i es a kvs → D.ct σ' H'
  | .ex x ρ' => ∀ G' σ' H' cls da, Ex G G' → Ab C G' σ' H' ρ' → XOk C G' H' x cls da → E cls da σ' H'
  | .bad => False
def SS1 (K : PySem.W.Frag) (mg : Str → Option Value) (E : XW) (i : Nat) (t : TS) (m : S1) : Prop := ∀ (B : Hp) (L : Frm) (G : Hp) (σ : L2.St) (H : Hp) (ρ : Env) (es : Es) (a : Addr) (kvs : List (Key × V)) (D : Ends), AbD ⟨K, mg, B, L⟩ G σ H ρ i es a kvs → WS1 ⟨K, mg, B, L⟩ E G i D (m ρ es) → t D σ H
theorem WS1.grow {f : Fl1} (h : WS1 C E G i D f) (e : Ex G G') : WS1 C E G' i D f := by
  cases f with
  | nx ρ es => exact fun G2 σ' H' a kvs e2 A => h G2 σ' H' a kvs (e.trans e2) A
  | rt r ρ => exact fun v G2 σ' H' e2 A k => h v G2 σ' H' (e.trans e2) A k
  | bk ρ es => exact fun G2 σ' H' a kvs e2 A => h G2 σ' H' a kvs (e.trans e2) A
  | ct ρ es => exact fun G2 σ' H' a kvs e2 A => h G2 σ' H' a kvs (e.trans e2) A
  | ex x ρ => exact fun G2 σ' H' cls da e2 A k => h G2 σ' H' cls da (e.trans e2) A k
  | bad => exact h
/-! plain expressions -/
def l1 {α : Type} (i : Nat) (m : M α) : X1 α := fun ρ _ => match m ρ with
  | .ok r ρ' => if isUn ρ' i = true then .ok r ρ' else .bad
  | .ex x ρ' => .ex x ρ'
  | .bad => .bad
theorem WR1.lift {α : Type} {m : M α} {ok : Hp → Hp → Env → Addr → List (Key × V) → α → Prop} (A : AbD C G σ H ρ i es a kvs) (w : WR1 C E G σ i es ok (l1 i m ρ es)) : WR (inB C a kvs) E G σ (fun G' H' ρ' x => AbD C G' σ H' ρ' i es a kvs ∧ ok G' H' ρ' a kvs x) (m ρ) := by
  unfold l1 at w
  cases q : m ρ with
  | bad => rw [q] at w; exact w
  | ex x ρ' =>
    rw [q] at w
    exact fun G' H' cls da e A' X => w G' H' cls da e (Ab.unframe (C := C) A' A.bn A.sc).1 X
  | ok r ρ' =>
    rw [q] at w
    intro G' H' e A'
    by_cases z : isUn ρ' i = true
    · have w : WR1 C E G σ i es ok (if isUn ρ' i = true then .ok r ρ' else .bad) := w
      rw [if_pos z] at w
      have A2 : AbD C G' σ H' ρ' i es a kvs := ⟨A', isUn_inv z, A.at_, A.bn, A.dk.mono e, A.sc⟩
      exact ⟨A2, w G' H' a kvs e A2⟩
    · have w : WR1 C E G σ i es ok (if isUn ρ' i = true then .ok r ρ' else .bad) := w
      rw [if_neg z] at w
      exact w.elim
theorem sx1_plain {t : TE} {m : M Rv} (h : SX K mg E t m) : SX1 K mg E i t (l1 i m) := fun B L G σ H ρ es a kvs Q A w =>
  h (inB ⟨K, mg, B, L⟩ a kvs).B L G σ H ρ Q A.ab ((w.lift A).mono fun G' H' ρ' r e A' k => k.2)
theorem st1_plain {t : TT} {m : M Bool} (h : STt K mg E t m) : ST1 K mg E i t (l1 i m) := fun B L G σ H ρ es a kvs Q A w =>
  h (inB ⟨K, mg, B, L⟩ a kvs).B L G σ H ρ Q A.ab ((w.lift A).mono fun G' H' ρ' r e A' k => k.2)
/-! expressions that read the dict -/
theorem Ab.reset {G3 H2 : Hp} (A : Ab C G σ H ρ) (eG : Ex G G3) (e3 : Ex G3 H2) (eB : Ex C.B H2) (d3 : ∀ b, G3 b ≠ none → C.B b = none) (hh : ∀ j b, Hold ρ σ j b → G3 b = none ∧ H2 b = H b) : Ab C G3 σ H2 ρ := by
  refine ⟨e3, eB, d3, A.scr, A.len, fun j s q => ?_, A.nd⟩
  obtain ⟨x, h1, h2⟩ := A.sl j s q
  refine ⟨x, h1, ?_⟩
  cases s with
  | un => exact trivial
  | dat d => obtain ⟨v, e, h⟩ := h2; exact ⟨v, e, h.mono eG⟩
  | scr ns => exact h2
  | own ds =>
    obtain ⟨b, rfl, vs, z1, z2, z3, z4⟩ := h2
    obtain ⟨y1, y2⟩ := hh j b ⟨⟨ds, .inl q⟩, h1⟩
    exact ⟨b, rfl, vs, by rw [y2]; exact z1, z2.mono eG, y1, z4⟩
  | lnt ds =>
    obtain ⟨b, rfl, z0, vs, z1, z2, z3, z4⟩ := h2
    obtain ⟨y1, y2⟩ := hh j b ⟨⟨ds, .inr q⟩, h1⟩
    exact ⟨b, rfl, z0, vs, by rw [y2]; exact z1, z2.mono eG, y1, z4⟩
theorem Ab.setDat {d : PyData} {v : V} (A : Ab C G σ H ρ) (hu : ρ[i]? = some .un) (h1 : σ[i]? = some (some v)) (hv : Dt C.K G v d) : Ab C G σ H (ρ.set i (.dat d)) := by
  have hi : i < ρ.length := (List.getElem?_eq_some_iff.mp hu).1
  have up : ∀ j b, Hold (ρ.set i (.dat d)) σ j b → Hold ρ σ j b := fun j b h => (hold_set h).1
  refine ⟨A.exG, A.exB, A.dis, A.scr, by rw [List.length_set]; exact A.len, fun j s q => ?_, fun j k b x y => A.nd j k b (up j b x) (up k b y)⟩
  by_cases hj : i = j
  · subst hj
    rw [List.getElem?_set_self hi] at q
    cases q
    exact ⟨_, h1, v, rfl, hv⟩
  · rw [List.getElem?_set_ne hj] at q
    exact A.sl j s q
def pk1 (i : Nat) (m : M Rv) : X1 Rv := fun ρ es => match m ((frzE ρ).set i (.dat (.dict es))) with
  | .ok r _ => if lfR r = true then .ok r ρ else .bad
  | .ex x _ => match x.fs with
    | none => .ex x ρ
    | some _ => .bad
  | .bad => .bad
open Classical in
noncomputable def cutG (G : Hp) (ρ : Env) (σ : L2.St) (a : Addr) : Hp := fun b => if (∃ j, Hold ρ σ j b) ∨ b = a then none else G b
theorem cutG_out {b : Addr} (h : (∃ j, Hold ρ σ j b) ∨ b = a) : cutG G ρ σ a b = none := by unfold cutG; rw [if_pos h]
theorem cutG_in {b : Addr} (h : ¬ ((∃ j, Hold ρ σ j b) ∨ b = a)) : cutG G ρ σ a b = G b := by unfold cutG; rw [if_neg h]
theorem AbD.read (A : AbD C G σ H ρ i es a kvs) : ∃ G0, Ex G G0 ∧ Ab C G0 σ H ((frzE ρ).set i (.dat (.dict es))) ∧ G0 a = some (.dK kvs) ∧ ∀ j b, Hold ρ σ j b → G0 b = H b ∧ b ≠ a := by
  obtain ⟨A0, ha, ga, na⟩ := A.out
  have nh : ¬ ∃ j, Hold ρ σ j a := fun ⟨j, h⟩ => na j h
  have AF := A0.frozen
  have ua : upG G H ρ σ a = none := by rw [upG_not nh]; exact ga
  refine ⟨upd (upG G H ρ σ) a (.dK kvs), A0.up.trans (Ex.new ua), ?_, upd_same, fun j b h => ?_⟩
  · have AG : Ab C (upd (upG G H ρ σ) a (.dK kvs)) σ H (frzE ρ) := by
      refine AF.grow (Ex.new ua) (Ex.refl H) (fun b u q => ?_) (fun b q => ?_) (fun j b h => ?_)
      · by_cases e : b = a
        · subst e; rw [upd_same] at q; cases q; exact ha
        · rw [upd_ne e] at q; exact AF.exG b u q
      · by_cases e : b = a
        · subst e; exact A.bn
        · rw [upd_ne e] at q; exact AF.dis b q
      · have e : b ≠ a := fun z => by
          have n := AF.inH h
          obtain ⟨⟨ds, q⟩, _⟩ := h
          unfold frzE at q
          rw [List.getElem?_map] at q
          cases q0 : ρ[j]? with
          | none => rw [q0] at q; rcases q with q | q <;> cases q
          | some s0 => rw [q0] at q; cases s0 <;> (rcases q with q | q <;> cases q)
        rw [upd_ne e]; exact AF.notG h
    have un2 : (frzE ρ)[i]? = some .un := by
      unfold frzE
      rw [List.getElem?_map, A.un]
      rfl
    exact AG.setDat un2 A.at_ (.dct (.inl upd_same) (A.dk.mono (A0.up.trans (Ex.new ua))))
  · have e : b ≠ a := fun z => na j (z ▸ h)
    exact ⟨by rw [upd_ne e, upG_held ⟨j, h⟩], e⟩
theorem AbD.back {G0 G2 H2 : Hp} {ρ2 : Env} (A : AbD C G σ H ρ i es a kvs) (eG : Ex G G0) (g0 : G0 a = some (.dK kvs)) (hh : ∀ j b, Hold ρ σ j b → G0 b = H b ∧ b ≠ a) (e2 : Ex G0 G2) (A2 : Ab C G2 σ H2 ρ2) :
    Ex G (cutG G2 ρ σ a) ∧ AbD C (cutG G2 ρ σ a) σ H2 ρ i es a kvs ∧ (∀ b xs, SqT C.K G2 b xs → SqT C.K (cutG G2 ρ σ a) b xs) ∧ G2 a ≠ none ∧ ∀ j b, Hold ρ σ j b → G2 b ≠ none := by
  obtain ⟨A0, ha, ga, na⟩ := A.out
  have hl : ∀ j b, Hold ρ σ j b → ∃ vs, H b = some (.lst vs) ∧ G2 b = some (.lst vs) := fun j b h => by
    obtain ⟨ds, _, vs, z, _⟩ := A0.hold h
    exact ⟨vs, z, e2 _ _ ((hh j b h).1.trans z)⟩
  have g2 : G2 a = some (.dK kvs) := e2 _ _ g0
  have e3 : Ex G (cutG G2 ρ σ a) := fun b u q => by
    rw [cutG_in]
    · exact e2 _ _ (eG b u q)
    · rintro (⟨j, h⟩ | h)
      · rw [A0.notG h] at q; cases q
      · rw [h, ga] at q; cases q
  refine ⟨e3, ⟨A.ab.reset e3 (fun b u q => ?_) (fun b u q => ?_) (fun b q => ?_) (fun j b h => ?_), A.un, A.at_, A.bn, A.dk.mono e3, A.sc⟩, fun b xs h => ?_, (by rw [g2]; intro z; cases z), fun j b h => ?_⟩
  · by_cases z : (∃ j, Hold ρ σ j b) ∨ b = a
    · rw [cutG_out z] at q; cases q
    · rw [cutG_in z] at q; exact A2.exG b u q
  · have q : upd C.B a (.dK kvs) b = some u := q
    by_cases z : b = a
    · subst z; rw [upd_same] at q; cases q; exact A2.exG _ _ g2
    · rw [upd_ne z] at q; exact A2.exB b u q
  · by_cases z : (∃ j, Hold ρ σ j b) ∨ b = a
    · rw [cutG_out z] at q; exact absurd rfl q
    · rw [cutG_in z] at q
      show upd C.B a (.dK kvs) b = none
      rw [upd_ne fun y => z (.inr y)]
      exact A2.dis b q
  · obtain ⟨vs, y1, y2⟩ := hl j b h
    exact ⟨cutG_out (.inl ⟨j, h⟩), by rw [y1]; exact A2.exG _ _ y2⟩
  · have low : ∀ u, G2 b = some u → (∀ ys, u ≠ .lst ys) → (∀ ks, u ≠ .dK ks) → cutG G2 ρ σ a b = some u := fun u q n1 n2 => by
      rw [cutG_in]
      · exact q
      · rintro (⟨j, h⟩ | h)
        · obtain ⟨vs, _, y2⟩ := hl j b h
          rw [y2] at q; cases q
          exact n1 vs rfl
        · rw [h, g2] at q; cases q
          exact n2 kvs rfl
    rcases h with (q | ⟨o, q⟩) | q
    · exact .inl (.inl (low _ q (fun ys z => nomatch z) fun ks z => nomatch z))
    · exact .inl (.inr ⟨o, low _ q (fun ys z => nomatch z) fun ks z => nomatch z⟩)
    · exact .inr q
  · obtain ⟨vs, _, y2⟩ := hl j b h
    rw [y2]
    intro z
    cases z
theorem sx1_peek {t : TE} {m : M Rv} (h : SX K mg E t m) : SX1 K mg E i t (pk1 i m) := fun B L G σ H ρ es a kvs Q A w => by
  obtain ⟨G0, eG, A0, g0, hh⟩ := A.read
  refine h B L G0 σ H _ Q A0 ?_
  unfold pk1 at w
  cases q : m ((frzE ρ).set i (.dat (.dict es))) with
  | bad => rw [q] at w; exact w
  | ex x ρ2 =>
    rw [q] at w
    intro G2 H2 cls da e2 A2 X2
    dsimp only at w
    obtain ⟨e3, A3, _, _⟩ := A.back eG g0 hh e2 A2
    cases z : x.fs with
    | some fs => rw [z] at w; exact w.elim
    | none =>
      rw [z] at w
      refine w _ H2 cls da e3 A3.out.1 ⟨X2.1, ?_⟩
      have := X2.2
      rw [z] at this ⊢
      exact this
  | ok r ρ2 =>
    rw [q] at w
    intro G2 H2 e2 A2 v hv
    dsimp only at w
    by_cases z : lfR r = true
    · rw [if_pos z] at w
      obtain ⟨e3, A3, low, oa, oh⟩ := A.back eG g0 hh e2 A2
      refine w _ H2 a kvs e3 A3 v ?_
      cases r with
      | dat d => exact Dt.low low hv z
      | new ds =>
        obtain ⟨p, rfl, ⟨vs, z1, z2, z3, z4⟩, _⟩ := hv
        have np : p ≠ a := fun y => oa (y ▸ z3)
        have nh : ∀ j, ¬ Hold ρ σ j p := fun j hj => oh j p hj z3
        refine ⟨p, rfl, ⟨vs, z1, z2.low low z, ?_, by show upd B a (.dK kvs) p = none; rw [upd_ne np]; exact z4⟩, nh⟩
        by_cases y : (∃ j, Hold ρ σ j p) ∨ p = a
        · exact cutG_out y
        · rw [cutG_in y]; exact z3
    · rw [if_neg z] at w; exact w.elim
end
end Hue
-- Hue20
namespace Hue
open PySem PySem.Spec PyProof.Rows L2
open Evl (Ex)
section
variable {K : PySem.W.Frag} {mg : Str → Option Value} {E : XW} {C : Cn} {G G' H H' : Hp} {σ σ' : L2.St} {ρ ρ' : Env} {D : Ends} {i : Nat} {es : Es} {a : Addr} {kvs : List (Key × V)}
theorem RvOk.outB {v : V} {r : Rv} (A : AbD C G σ H ρ i es a kvs) (h : RvOk (inB C a kvs) G σ H ρ v r) : RvOk C G σ H ρ v r := by
  cases r with
  | dat d => exact h
  | new ds =>
    obtain ⟨p, rfl, ⟨vs, z1, z2, z3, z4⟩, n⟩ := h
    have z4 : upd C.B a (.dK kvs) p = none := z4
    have np : p ≠ a := fun y => by rw [y, upd_same] at z4; cases z4
    rw [upd_ne np] at z4
    exact ⟨p, rfl, ⟨vs, z1, z2, z3, z4⟩, n⟩
/-! ### statements -/
def f1Seq (f : Fl1) (b : S1) : Fl1 := match f with
  | .nx ρ es => b ρ es
  | f => f
def s1Seq (x y : S1) : S1 := fun ρ es => f1Seq (x ρ es) y
theorem ss1_seq {t u : TS} {x y : S1} (h1 : SS1 K mg E i t x) (h2 : SS1 K mg E i u y) : SS1 K mg E i (tSeq t u) (s1Seq x y) := fun B L G σ H ρ es a kvs D A w => by
  refine h1 B L G σ H ρ es a kvs { D with nx := u D } A ?_
  unfold s1Seq at w
  cases q : x ρ es with
  | nx ρ' es' => rw [q] at w; exact fun G' σ' H' a' k' e A' => h2 B L G' σ' H' ρ' es' a' k' D A' (WS1.grow w e)
  | rt r ρ' => rw [q] at w; exact w
  | bk ρ' e' => rw [q] at w; exact w
  | ct ρ' e' => rw [q] at w; exact w
  | ex x ρ' => rw [q] at w; exact w
  | bad => rw [q] at w; exact w
theorem WS1.nx' (h : WS1 C E G i D (.nx ρ es)) (A : AbD C G σ H ρ i es a kvs) : D.nx σ H := h G σ H a kvs (Ex.refl G) A
theorem ss1_next : SS1 K mg E i tNext Fl1.nx := fun B L G σ H ρ es a kvs D A w => w.nx' A
theorem ss1_brk : SS1 K mg E i tBreak Fl1.bk := fun B L G σ H ρ es a kvs D A w => w G σ H a kvs (Ex.refl G) A
theorem ss1_cont : SS1 K mg E i tCont Fl1.ct := fun B L G σ H ρ es a kvs D A w => w G σ H a kvs (Ex.refl G) A
def t1 {α : Type} (m : X1 α) (f : α → S1) : S1 := fun ρ es => match m ρ es with
  | .ok x ρ' => f x ρ' es
  | .ex x ρ' => .ex x ρ'
  | .bad => .bad
theorem WS1.thn {α : Type} {m : X1 α} {f : α → S1} (w : WS1 C E G i D (t1 m f ρ es)) : WR1 C E G σ i es (fun G' H' ρ' _ _ x => WS1 C E G' i D (f x ρ' es)) (m ρ es) := by
  unfold t1 at w
  cases q : m ρ es with
  | ok x ρ' => rw [q] at w; exact fun G' H' a kvs e A' => WS1.grow w e
  | ex x ρ' => rw [q] at w; exact fun G' H' cls da e A' k => w G' σ H' cls da e A' k
  | bad => rw [q] at w; exact w
theorem WR1.mono {α : Type} {ok ok' : Hp → Hp → Env → Addr → List (Key × V) → α → Prop} {r : R α} (h : WR1 C E G σ i es ok r) (k : ∀ G' H' ρ' a kvs x, Ex G G' → AbD C G' σ H' ρ' i es a kvs → ok G' H' ρ' a kvs x → ok' G' H' ρ' a kvs x) : WR1 C E G σ i es ok' r := by
  cases r with
  | ok x ρ => exact fun G' H' a kvs e A => k _ _ _ _ _ _ e A (h G' H' a kvs e A)
  | ex x ρ => exact h
  | bad => exact h
def s1Ret (x : X1 Rv) : S1 := t1 x fun r ρ _ => .rt r ρ
theorem ss1_ret {t : TE} {x : X1 Rv} (h : SX1 K mg E i t x) : SS1 K mg E i (tRet t) (s1Ret x) := fun B L G σ H ρ es a kvs D A w =>
  h B L G σ H ρ es a kvs D.rt A ((WS1.thn w).mono fun G1 H1 ρ1 a1 k1 r e1 A1 k v hv => k v G1 σ H1 (Ex.refl G1) A1.out.1 (RvOk.outB A1 hv))
/-- the dict itself is returned -/
def s1RetD : S1 := fun ρ es => .rt (.dat (.dict es)) ρ
theorem ss1_retD : SS1 K mg E i (tRet (tVar i)) s1RetD := fun B L G σ H ρ es a kvs D A w => by
  obtain ⟨A0, ha, ga, na⟩ := A.out
  refine ⟨.ref a, A.at_, ?_⟩
  refine w (.ref a) (upd G a (.dK kvs)) σ H (Ex.new ga) (A0.grow (Ex.new ga) (Ex.refl H) (fun b u q => ?_) (fun b q => ?_) fun j b h => ?_) (show Dt K _ _ _ from .dct (.inl upd_same) (A.dk.mono (Ex.new ga)))
  · by_cases z : b = a
    · subst z; rw [upd_same] at q; cases q; exact ha
    · rw [upd_ne z] at q; exact A0.exG b u q
  · by_cases z : b = a
    · subst z; exact A.bn
    · rw [upd_ne z] at q; exact A0.dis b q
  · have nz : b ≠ a := fun z => na j (z ▸ h)
    rw [upd_ne nz]; exact A0.notG h
def s1If (c : X1 Bool) (x y : S1) : S1 := t1 c fun b ρ es => if b = true then x ρ es else y ρ es
theorem ss1_if {c : TT} {t u : TS} {mc : X1 Bool} {x y : S1} (h0 : ST1 K mg E i c mc) (h1 : SS1 K mg E i t x) (h2 : SS1 K mg E i u y) : SS1 K mg E i (tIfS c t u) (s1If mc x y) := fun B L G σ H ρ es a kvs D A w => by
  refine h0 B L G σ H ρ es a kvs _ A ?_
  have w1 := WS1.thn (σ := σ) w
  cases q : mc ρ es with
  | bad => rw [q] at w1; exact w1
  | ex x ρ' => rw [q] at w1; exact w1
  | ok b ρ' =>
    rw [q] at w1
    intro G1 H1 a1 k1 e1 A1
    have k := w1 G1 H1 a1 k1 e1 A1
    cases b with
    | true => exact h1 B L G1 σ H1 ρ' es a1 k1 D A1 k
    | false => exact h2 B L G1 σ H1 ρ' es a1 k1 D A1 k
/-- a test by a value that reads the dict -/
def b1 (x : X1 Rv) : X1 Bool := fun ρ es => match x ρ es with
  | .ok r ρ' => match bD (frz r) with
    | some b => .ok b ρ'
    | none => .bad
  | .ex x ρ' => .ex x ρ'
  | .bad => .bad
theorem st1_val {t : TE} {x : X1 Rv} (h : SX1 K mg E i t x) : ST1 K mg E i (tB t) (b1 x) := fun B L G σ H ρ es a kvs Q A w => by
  refine h B L G σ H ρ es a kvs _ A ?_
  unfold b1 at w
  cases q : x ρ es with
  | bad => rw [q] at w; exact w
  | ex x ρ' => rw [q] at w; exact w
  | ok r ρ' =>
    rw [q] at w
    intro G1 H1 a1 k1 e1 A1 v hv
    dsimp only at w
    cases z : bD (frz r) with
    | none => rw [z] at w; exact w.elim
    | some b =>
      rw [z] at w
      cases r with
      | new ds => cases z
      | dat d =>
        have hv : Dt K G1 v d := hv
        have e : d = .bool b := bD_inv z
        rw [e] at hv
        exact ⟨b, hv.bl_inv, w G1 H1 a1 k1 e1 A1⟩
/-- x = e, not the dict's own name -/
def s1Set (i j : Nat) (x : X1 Rv) : S1 := t1 x fun r ρ es => if i = j then .bad else match setS j r ρ with
  | some ρ2 => if isUn ρ2 i = true then .nx ρ2 es else .bad
  | none => .bad
theorem ss1_set {t : TE} {x : X1 Rv} {j : Nat} (h : SX1 K mg E i t x) : SS1 K mg E i (tAsg t (gName j)) (s1Set i j x) := fun B L G σ H ρ es a kvs D A w =>
  h B L G σ H ρ es a kvs _ A ((WS1.thn w).mono fun G1 H1 ρ1 a1 k1 r e1 A1 k v hv => by
    by_cases q : i = j
    · rw [if_pos q] at k; exact k.elim
    · rw [if_neg q] at k
      cases z : setS j r ρ1 with
      | none => rw [z] at k; exact k.elim
      | some ρ2 =>
        rw [z] at k
        dsimp only at k
        by_cases u : isUn ρ2 i = true
        · rw [if_pos u] at k
          exact k.nx' (a := a1) (kvs := k1) ⟨A1.ab.store hv z, isUn_inv u, by rw [List.getElem?_set_ne (Ne.symm q)]; exact A1.at_, A1.bn, A1.dk, A1.sc⟩
        · rw [if_neg u] at k; exact k.elim)
/-- d[k] = e -/
def s1Put (i : Nat) (x : X1 Rv) (mk : M PyData) : S1 := t1 x fun r ρ es => t1 (l1 i mk) (fun k ρ2 es => match keyOf k with
  | some key => if small es.length = true then .nx ρ2 (putE es key (frz r)) else .bad
  | none => .bad) ρ es
theorem ss1_put {t tk : TE} {x : X1 Rv} {mk : M PyData} (h : SX1 K mg E i t x) (hk : SE K mg E tk mk) : SS1 K mg E i (sDPut (tVar i) tk t) (s1Put i x mk) := fun B L G σ H ρ es a kvs D A w =>
  h B L G σ H ρ es a kvs _ A ((WS1.thn w).mono fun G1 H1 ρ1 a1 k1 r e1 A1 k v hv => by
    obtain ⟨G2, e2, A2, dv⟩ := hv.still A1.ab
    have AD2 : AbD ⟨K, mg, B, L⟩ G2 σ H1 ρ1 i es a1 k1 := ⟨A2, A1.un, A1.at_, A1.bn, A1.dk.mono e2, A1.sc⟩
    refine ⟨.ref a1, A1.at_, ?_⟩
    have k := WS1.thn (σ := σ) (WS1.grow k e2)
    refine hk _ L G2 σ H1 ρ1 _ A2 ((k.lift AD2).mono fun G3 H3 ρ3 kd e3 A3 kk y hy => ?_)
    obtain ⟨AD3, kk⟩ := kk
    cases qk : keyOf kd with
    | none => rw [qk] at kk; exact kk.elim
    | some key =>
      rw [qk] at kk
      dsimp only at kk
      by_cases qs : small es.length = true
      · rw [if_pos qs] at kk
        obtain ⟨A6, h6, g6, n6⟩ := AD3.out
        refine ⟨a1, _, rfl, .inl ⟨k1, key, h6, (key_v hy qk).1, by rw [AD3.dk.len]; exact small_lt qs, rfl⟩, ?_⟩
        have A7 : Ab ⟨K, mg, B, L⟩ G3 σ (upd H3 a1 (.dK (putK k1 key v))) ρ3 := A6.other h6 g6 AD3.bn n6
        exact kk.nx' (a := a1) (kvs := putK k1 key v) ⟨A7.frame upd_same g6 AD3.bn n6, AD3.un, AD3.at_, AD3.bn, AD3.dk.put (dv.mono e3), AD3.sc⟩
      · rw [if_neg qs] at kk; exact kk.elim)
/-- for -/
def loop1 (i : Nat) (b : PyData → Env → Option Env) (f : S1) : List PyData → S1
  | [], ρ, es => .nx ρ es
  | d :: ds, ρ, es => match b d ρ with
    | none => .bad
    | some ρ1 => if isUn ρ1 i = true then match f ρ1 es with
      | .nx ρ2 es2 => loop1 i b f ds ρ2 es2
      | .ct ρ2 es2 => loop1 i b f ds ρ2 es2
      | .bk ρ2 es2 => .nx ρ2 es2
      | .rt r ρ2 => .rt r ρ2
      | .ex x ρ2 => .ex x ρ2
      | .bad => .bad else .bad
def s1For (i : Nat) (m : M (List PyData)) (b : PyData → Env → Option Env) (f : S1) : S1 := t1 (l1 i m) fun ds ρ es => loop1 i b f ds ρ es
theorem ss1_for {wi : TI} {g : TG} {tb : TS} {m : M (List PyData)} {b : PyData → Env → Option Env} {f : S1} {js : List Nat} (hi : SI K mg E wi m) (hg : SG K g b js) (hb : SS1 K mg E i tb f) (hj : i ∉ js) : SS1 K mg E i (tFor wi g tb) (s1For i m b f) := fun B L G σ H ρ es a kvs D A w => by
  refine hi _ L G σ H ρ _ A.ab (((WS1.thn (σ := σ) w).lift A).mono fun G1 H1 ρ1 ds e1 A1 k1 J hJ => ?_)
  obtain ⟨AD1, k1⟩ := k1
  refine ⟨fun n m σ' H' => m = ds.length - n ∧ n ≤ ds.length ∧ ∃ G' ρ' es' a' k', Ex G1 G' ∧ AbD ⟨K, mg, B, L⟩ G' σ' H' ρ' i es' a' k' ∧ WS1 ⟨K, mg, B, L⟩ E G' i D (loop1 i b f (ds.drop n) ρ' es'), ⟨ds.length, rfl, Nat.zero_le _, G1, ρ1, es, a, kvs, Ex.refl G1, AD1, k1⟩, ?_⟩
  rintro n m σ' H' ⟨rfl, hle, G', ρ', es', a', k', e', A', w'⟩
  by_cases hlt : n < ds.length
  · refine .inr ⟨hJ.go n H' (e'.trans A'.ab.exG) hlt, fun σ2 H2 => ∃ G2 ρ2 es2 a2 k2, Ex G1 G2 ∧ AbD ⟨K, mg, B, L⟩ G2 σ2 H2 ρ2 i es2 a2 k2 ∧ WS1 ⟨K, mg, B, L⟩ E G2 i D (loop1 i b f (ds.drop (n + 1)) ρ2 es2), fun σ2 H2 h => ⟨_, by omega, rfl, hlt, h⟩, fun x H2 y => ?_⟩
    obtain ⟨G2, e2, A2, hx⟩ := hJ.yld (inB ⟨K, mg, B, L⟩ a' k') G' σ' H' ρ' n ds[n] x H2 rfl e' A'.ab (List.getElem?_eq_getElem hlt) y
    rw [List.drop_eq_getElem_cons hlt] at w'
    unfold loop1 at w'
    cases q : b ds[n] ρ' with
    | none => rw [q] at w'; exact w'.elim
    | some ρ2 =>
      rw [q] at w'
      dsimp only at w'
      by_cases u : isUn ρ2 i = true
      · rw [if_pos u] at w'
        refine hg (inB ⟨K, mg, B, L⟩ a' k') G2 σ' H2 ρ' ρ2 x ds[n] _ rfl A2 hx q fun σ3 t3 A3 => ?_
        have AD3 : AbD ⟨K, mg, B, L⟩ G2 σ3 H2 ρ2 i es' a' k' := ⟨A3, isUn_inv u, by rw [t3.2 i hj]; exact A'.at_, A'.bn, A'.dk.mono e2, A'.sc⟩
        refine hb B L G2 σ3 H2 ρ2 es' a' k' _ AD3 ?_
        cases q2 : f ρ2 es' with
        | nx ρ3 es3 => rw [q2] at w'; exact fun G4 σ4 H4 a4 k4 e4 A4 => ⟨G4, ρ3, es3, a4, k4, (e'.trans e2).trans e4, A4, WS1.grow w' (e2.trans e4)⟩
        | ct ρ3 es3 => rw [q2] at w'; exact fun G4 σ4 H4 a4 k4 e4 A4 => ⟨G4, ρ3, es3, a4, k4, (e'.trans e2).trans e4, A4, WS1.grow w' (e2.trans e4)⟩
        | bk ρ3 es3 => rw [q2] at w'; exact fun G4 σ4 H4 a4 k4 e4 A4 => w' G4 σ4 H4 a4 k4 (e2.trans e4) A4
        | rt r ρ3 => rw [q2] at w'; exact fun v G4 σ4 H4 e4 A4 k => w' v G4 σ4 H4 (e2.trans e4) A4 k
        | ex x ρ3 => rw [q2] at w'; exact fun G4 σ4 H4 cls da e4 A4 k => w' G4 σ4 H4 cls da (e2.trans e4) A4 k
        | bad => rw [q2] at w'; exact w'.elim
      · rw [if_neg u] at w'; exact w'.elim
  · have : n = ds.length := by omega
    subst this
    rw [List.drop_length] at w'
    exact .inl ⟨hJ.stop _ H' (e'.trans A'.ab.exG) (Nat.le_refl _), w'.nx' A'⟩
/-! ### d = {}, and what follows -/
def out1 : Fl1 → Fl
  | .nx ρ _ => .nx ρ
  | .rt r ρ => .rt r ρ
  | .bk ρ _ => .bk ρ
  | .ct ρ _ => .ct ρ
  | .ex x ρ => .ex x ρ
  | .bad => .bad
def mDict (i : Nat) (f : S1) : Env → Fl := fun ρ => match ρ[i]? with
  | some (.lnt _) => .bad
  | none => .bad
  | some _ => out1 (f (ρ.set i .un) [])
theorem Ab.unset (A : Ab C G σ H ρ) (i : Nat) (x : Option V) (hi : i < ρ.length) : Ab C G (σ.set i x) H (ρ.set i .un) := by
  have hσ : i < σ.length := by rw [A.len]; exact hi
  have up : ∀ j b, Hold (ρ.set i .un) (σ.set i x) j b → Hold ρ σ j b := fun j b h => by
    obtain ⟨⟨ds, h1⟩, h2⟩ := h
    by_cases hj : i = j
    · subst hj; rw [List.getElem?_set_self hi] at h1; rcases h1 with q | q <;> cases q
    · rw [List.getElem?_set_ne hj] at h1 h2; exact ⟨⟨ds, h1⟩, h2⟩
  refine ⟨A.exG, A.exB, A.dis, A.scr, by rw [List.length_set, List.length_set]; exact A.len, fun j s q => ?_, fun j k b p q => A.nd j k b (up j b p) (up k b q)⟩
  by_cases hj : i = j
  · subst hj
    rw [List.getElem?_set_self hi] at q
    cases q
    exact ⟨x, List.getElem?_set_self hσ, trivial⟩
  · rw [List.getElem?_set_ne hj] at q
    obtain ⟨y, h1, h2⟩ := A.sl j s q
    exact ⟨y, by rw [List.getElem?_set_ne hj]; exact h1, h2⟩
theorem ss_dict {t : TS} {f : S1} (h : SS1 K mg E i t f) : SS K mg E (tSeq (tAsg tDNewK (gName i)) t) (mDict i f) := fun B L G σ H ρ D A w => by
  intro p hp
  have w2 : i < ρ.length ∧ WS ⟨K, mg, B, L⟩ E G D (out1 (f (ρ.set i .un) [])) := by
    unfold mDict at w
    split at w
    · exact w.elim
    · exact w.elim
    · rename_i s _ q
      exact ⟨(List.getElem?_eq_some_iff.mp q).1, w⟩
  obtain ⟨hi, w⟩ := w2
  have hσ : i < σ.length := by rw [A.len]; exact hi
  have eH : Ex H (upd H p (.dK [])) := Ex.new hp
  have A1 := (A.grow (Ex.refl G) eH (A.exG.trans eH) A.dis fun j b h => A.notG h).unset i (some (.ref p)) hi
  have bp : B p = none := Evl.fresh_back A.exB hp
  have AD : AbD ⟨K, mg, B, L⟩ G (σ.set i (some (.ref p))) (upd H p (.dK [])) (ρ.set i .un) i [] p [] := by
    refine ⟨A1.frame upd_same (Evl.fresh_back A.exG hp) bp fun j hj => ?_, List.getElem?_set_self hi, List.getElem?_set_self hσ, bp, .nil, A.scr⟩
    obtain ⟨⟨ds, q⟩, q2⟩ := hj
    by_cases hij : i = j
    · subst hij; rw [List.getElem?_set_self hi] at q; rcases q with q | q <;> cases q
    · rw [List.getElem?_set_ne hij] at q q2; exact A.inH ⟨⟨ds, q⟩, q2⟩ hp
  refine h B L G _ _ _ [] p [] D AD ?_
  cases q : f (ρ.set i .un) [] with
  | nx ρ' es' => rw [q] at w; exact fun G' σ' H' a' k' e A' => w G' σ' H' e A'.out.1
  | rt r ρ' => rw [q] at w; exact w
  | bk ρ' es' => rw [q] at w; exact fun G' σ' H' a' k' e A' => w G' σ' H' e A'.out.1
  | ct ρ' es' => rw [q] at w; exact fun G' σ' H' a' k' e A' => w G' σ' H' e A'.out.1
  | ex x ρ' => rw [q] at w; exact w
  | bad => rw [q] at w; exact w
end
end Hue
-- Hue22
namespace Hue
open PySem PySem.Spec PyProof.Rows L2
open Evl (Ex)
/-! ### texts -/
section
variable {K : PySem.W.Frag} {mg : Str → Option Value} {E : XW} {C : Cn} {G G' H H' : Hp} {σ σ' : L2.St} {ρ ρ' : Env} {D : Ends}
def strsD : List PyData → Option (List Str)
  | [] => some []
  | .str x :: r => (strsD r).map (x :: ·)
  | _ => none
theorem strsD_inv : ∀ {ds : List PyData} {ys : List Str}, strsD ds = some ys → ds = ys.map PyData.str
  | [], ys, h => by cases h; rfl
  | .str i :: r, ys, h => by
    have h : (strsD r).map (i :: ·) = some ys := h
    cases q : strsD r with
    | none => rw [q] at h; cases h
    | some m => rw [q] at h; cases h; rw [strsD_inv q]; rfl
  | .none :: _, _, h => nomatch h
  | .bool _ :: _, _, h => nomatch h
  | .int _ :: _, _, h => nomatch h
  | .list _ :: _, _, h => nomatch h
  | .tuple _ :: _, _, h => nomatch h
  | .dict _ :: _, _, h => nomatch h
theorem strsD_map (ys : List Str) : strsD (ys.map PyData.str) = some ys := by
  induction ys with
  | nil => rfl
  | cons n r ih => show (strsD (r.map PyData.str)).map (n :: ·) = _; rw [ih]; rfl
theorem DtA.strs : ∀ {vs : List V} {ys : List Str}, DtA K G vs (ys.map PyData.str) → vs = ys.map V.str
  | [], [], _ => rfl
  | v :: vs, n :: ns, h => by
    cases h with
    | cons h1 h2 => rw [h1.str_inv, DtA.strs h2]; rfl
  | [], _ :: _, h => nomatch h
  | _ :: _, [], h => nomatch h
theorem DtA.ofStrs (ys : List Str) : DtA K G (ys.map V.str) (ys.map PyData.str) := by
  induction ys with
  | nil => exact .nil
  | cons n r ih => exact .cons (.str n) ih
/-- methods of a text with one argument -/
def mM1 (f : Str → PyData → Option Rv) (m mk : M PyData) : M Rv := fun ρ => (m ρ).bind fun d ρ1 => match d with
  | .str a => (mk ρ1).bind fun k ρ2 => mOpt (f a k) ρ2
  | _ => .bad
def M1S (K : PySem.W.Frag) (r : V → List V → Hp → VK → Prop) (f : Str → PyData → Option Rv) : Prop := ∀ (mg : Str → Option Value) (B : Hp) (L : Frm) (G : Hp) (σ : L2.St) (H : Hp) (ρ : Env) (a : Str) (y : V) (e : PyData) (z : Rv) (Q : VK), Ab ⟨K, mg, B, L⟩ G σ H ρ → Dt K G y e → f a e = some z →
  (∀ v G' H', Ex G G' → Ab ⟨K, mg, B, L⟩ G' σ H' ρ → RvOk ⟨K, mg, B, L⟩ G' σ H' ρ v z → Q v H') → r (.str a) [y] H Q
theorem sx_m1 {r : V → List V → Hp → VK → Prop} {f : Str → PyData → Option Rv} {t tk : TE} {m mk : M PyData} (hr : M1S K r f) (h : SE K mg E t m) (hk : SE K mg E tk mk) : SX K mg E (tM1 r t tk) (mM1 f m mk) := fun B L G σ H ρ Q A w => by
  refine h B L G σ H ρ _ A ((WR.bind w).mono fun G1 H1 ρ1 d e1 A1 k1 x hx => ?_)
  cases d with
  | str a =>
    refine ⟨⟨a, hx.str_inv⟩, ?_⟩
    refine hk B L G1 σ H1 ρ1 _ A1 ((WR.bind k1).mono fun G2 H2 ρ2 kd e2 A2 k2 y hy => ?_)
    obtain ⟨z, q, k3⟩ := WR.opt k2
    rw [hx.str_inv]
    exact hr mg B L G2 σ H2 ρ2 a y kd z Q A2 hy q fun v G' H' e A' hv => k3 G' H' e A' v hv
  | _ => exact (show False from k1).elim
def splitD (a : Str) : PyData → Option Rv
  | .str b => if (decide (b.length ≠ 0) && small (a.length + 2)) = true then some (.new ((Txt.split a b).map PyData.str)) else none
  | _ => none
theorem m1_split : M1S K (fun x xs H Q => ∃ a b, x = .str a ∧ xs = [.str b] ∧ (b.length == 0) = false ∧ a.length + 2 ≤ sizeLine ∧ rNewStrs (Txt.split a b) H Q) splitD := fun mg B L G σ H ρ a y e z Q A hy hz k => by
  unfold splitD at hz
  split at hz
  · rename_i b
    by_cases q : (decide (b.length ≠ 0) && small (a.length + 2)) = true
    · rw [if_pos q] at hz
      cases hz
      rw [Bool.and_eq_true] at q
      refine ⟨a, b, rfl, by rw [hy.str_inv], beq_eq_false_iff_ne.mpr (of_decide_eq_true q.1), small_le q.2, fun p hp => ?_⟩
      have T := A.fresh hp (DtA.ofStrs (K := K) (G := G) (Txt.split a b))
      exact k _ G _ (Ex.refl G) T.1 T.2
    · rw [if_neg q] at hz; cases hz
  · cases hz
def partD (a : Str) : PyData → Option Rv
  | .str b => if (decide (b.length ≠ 0) && small a.length) = true then some (.dat (.tuple [.str (Txt.partition a b).1, .str (Txt.partition a b).2.1, .str (Txt.partition a b).2.2])) else none
  | _ => none
theorem m1_part : M1S K (fun x xs H Q => ∃ a b, x = .str a ∧ xs = [.str b] ∧ (b.length == 0) = false ∧ a.length ≤ sizeLine ∧
    ∀ p, H p = none → Q (.ref p) (upd H p (.tup [.str (Txt.partition a b).1, .str (Txt.partition a b).2.1, .str (Txt.partition a b).2.2]))) partD := fun mg B L G σ H ρ a y e z Q A hy hz k => by
  unfold partD at hz
  split at hz
  · rename_i b
    by_cases q : (decide (b.length ≠ 0) && small a.length) = true
    · rw [if_pos q] at hz
      cases hz
      rw [Bool.and_eq_true] at q
      refine ⟨a, b, rfl, by rw [hy.str_inv], beq_eq_false_iff_ne.mpr (of_decide_eq_true q.1), small_le q.2, fun p hp => ?_⟩
      have T := A.tup hp (vs := [.str (Txt.partition a b).1, .str (Txt.partition a b).2.1, .str (Txt.partition a b).2.2]) (.cons (.str _) (.cons (.str _) (.cons (.str _) .nil)))
      exact k _ _ _ T.1 T.2.1 T.2.2
    · rw [if_neg q] at hz; cases hz
  · cases hz
def joinL (a : Str) (ds : List PyData) : Option Rv := match strsD ds with
  | some ys => if decide ((ys.map (·.length)).sum + ys.length * a.length ≤ 16777216) = true then some (.dat (.str (Txt.join a ys))) else none
  | none => none
def joinD (a : Str) : PyData → Option Rv
  | .list ds => joinL a ds
  | .tuple ds => joinL a ds
  | _ => none
theorem m1_join : M1S K (fun x xs H Q => ∃ a p, ∃ ys : List Str, x = .str a ∧ xs = [.ref p] ∧ (SqL K H p (ys.map V.str) ∨ SqT K H p (ys.map V.str)) ∧
    (ys.map (·.length)).sum + ys.length * a.length ≤ 16777216 ∧ Q (.str (Txt.join a ys)) H) joinD := fun mg B L G σ H ρ a y e z Q A hy hz k => by
  have key : ∀ ds, joinL a ds = some z → ∃ ys, ds = ys.map PyData.str ∧ (ys.map (·.length)).sum + ys.length * a.length ≤ 16777216 ∧ z = .dat (.str (Txt.join a ys)) := fun ds h => by
    unfold joinL at h
    split at h
    · rename_i ys q
      by_cases c : decide ((ys.map (·.length)).sum + ys.length * a.length ≤ 16777216) = true
      · rw [if_pos c] at h
        cases h
        exact ⟨ys, strsD_inv q, of_decide_eq_true c, rfl⟩
      · rw [if_neg c] at h; cases h
    · cases h
  unfold joinD at hz
  split at hz
  · obtain ⟨ys, rfl, hl, rfl⟩ := key _ hz
    obtain ⟨p, xs, rfl, h1, h2⟩ := hy.lst_inv
    rw [h2.strs] at h1
    exact ⟨a, p, ys, rfl, rfl, .inl (SqL.of (A.exG _ _ h1)), hl, k _ G H (Ex.refl G) A (show Dt K G _ _ from .str _)⟩
  · obtain ⟨ys, rfl, hl, rfl⟩ := key _ hz
    obtain ⟨p, xs, rfl, h1, h2⟩ := hy.tup_inv
    rw [h2.strs] at h1
    exact ⟨a, p, ys, rfl, rfl, .inr (Evl.ex_t A.exG h1), hl, k _ G H (Ex.refl G) A (show Dt K G _ _ from .str _)⟩
  · cases hz
theorem kpe_join {X : Cx} (K : PySem.W.Frag) (hK : X.K = K) {o e : Expr} {to te : TE} {apos pos : Pos} (ho : PE X o to) (he : PE X e te) (hs : starEach [e] X.env = [(false, eval e X.env)] := by rfl) (hbase : attributeBase o "join" X.env (eval o X.env) = eval o X.env := by rfl) (hline : (apos.endLine == pos.line) = true := by rfl) :
    PE X (.Call (.Attribute o "join" apos) [e] [] pos) (tM1 (fun x xs H Q => ∃ a p, ∃ ys : List Str, x = .str a ∧ xs = [.ref p] ∧ (SqL K H p (ys.map V.str) ∨ SqT K H p (ys.map V.str)) ∧ (ys.map (·.length)).sum + ys.length * a.length ≤ 16777216 ∧ Q (.str (Txt.join a ys)) H) to te) := by subst hK; exact pe_join ho he hs hbase hline
/-! str(n), int(s) -/
def strD : List PyData → Option Rv
  | [.int i] => if decide (i.natAbs.log2 < 1920) = true then some (.dat (.str (toString i))) else none
  | _ => none
theorem cas_str : CaS K (fun xs H Q => ∃ i, xs = [.int i] ∧ i.natAbs.log2 < 1920 ∧ Q (.str (toString i)) H) strD := fun mg B L G σ H ρ vs ds z Q A hv hz k => by
  unfold strD at hz
  split at hz
  · rename_i i
    by_cases q : decide (i.natAbs.log2 < 1920) = true
    · rw [if_pos q] at hz
      cases hz
      obtain ⟨v, rfl, h1⟩ := hv.one
      exact ⟨i, by rw [h1.int_inv], of_decide_eq_true q, k _ G H (Ex.refl G) A (show Dt K G _ _ from .str _)⟩
    · rw [if_neg q] at hz; cases hz
  · cases hz
def intSD : List PyData → Option Rv
  | [.str a] => match PySem.intText? a with
    | some n => if decide (a.length ≤ 640) = true then some (.dat (.int n)) else none
    | none => none
  | _ => none
theorem cas_intS : CaS K (fun xs H Q => ∃ a n, xs = [.str a] ∧ PySem.intText? a = some n ∧ a.length ≤ 640 ∧ Q (.int n) H) intSD := fun mg B L G σ H ρ vs ds z Q A hv hz k => by
  unfold intSD at hz
  split at hz
  · rename_i a
    split at hz
    · rename_i n qn
      by_cases q : decide (a.length ≤ 640) = true
      · rw [if_pos q] at hz
        cases hz
        obtain ⟨v, rfl, h1⟩ := hv.one
        exact ⟨a, n, by rw [h1.str_inv], qn, of_decide_eq_true q, k _ G H (Ex.refl G) A (show Dt K G _ _ from .int _)⟩
      · rw [if_neg q] at hz; cases hz
    · cases hz
  · cases hz
/-! f'..' -/
def fmtD : PyData → Option PyData
  | .str y => if small y.length = true then some (.str y) else none
  | .int i => if decide (i.natAbs.log2 < 1920) = true then some (.str (toString i)) else none
  | _ => none
def mFmt (m : M PyData) : M PyData := mBind m fun d => mOpt (fmtD d)
theorem se_fmt {t : TE} {m : M PyData} (h : SE K mg E t m) : SE K mg E (tFmt t) (mFmt m) := fun B L G σ H ρ Q A w => by
  refine h B L G σ H ρ _ A ((WR.bind w).mono fun G1 H1 ρ1 d e1 A1 k x hx => ?_)
  obtain ⟨z, q, k2⟩ := WR.opt k
  unfold fmtD at q
  split at q
  · rename_i y
    by_cases c : small y.length = true
    · rw [if_pos c] at q; cases q
      exact .inl ⟨y, hx.str_inv, small_le c, k2.here A1 _ (.str _)⟩
    · rw [if_neg c] at q; cases q
  · rename_i i
    by_cases c : decide (i.natAbs.log2 < 1920) = true
    · rw [if_pos c] at q; cases q
      exact .inr ⟨i, hx.int_inv, of_decide_eq_true c, k2.here A1 _ (.str _)⟩
    · rw [if_neg c] at q; cases q
  · cases q
inductive SJ (K : PySem.W.Frag) (mg : Str → Option Value) (E : XW) : List TE → List (M PyData) → Prop
  | nil : SJ K mg E [] []
  | cons {t : TE} {m : M PyData} {ts : List TE} {ms : List (M PyData)} (h : SE K mg E t m) (r : SJ K mg E ts ms) : SJ K mg E (t :: ts) (m :: ms)
def mJs : List (M PyData) → Str → M PyData
  | [], acc => mPure (.str acc)
  | m :: ms, acc => mBind m fun d => match d with
    | .str y => if small (acc ++ y).length = true then mJs ms (acc ++ y) else fun _ => .bad
    | _ => fun _ => .bad
theorem se_js {ts : List TE} {ms : List (M PyData)} (h : SJ K mg E ts ms) : ∀ acc : Str, SE K mg E (fun σ H Q => tJs ts acc σ H fun out H1 => Q (.str out) H1) (mJs ms acc) := by
  induction h with
  | nil => exact fun acc B L G σ H ρ Q A w => w.here A _ (.str _)
  | cons h r ih =>
    intro acc B L G σ H ρ Q A w
    refine h B L G σ H ρ _ A ((WR.bind w).mono fun G1 H1 ρ1 d e1 A1 k x hx => ?_)
    cases d with
    | str y =>
      dsimp only at k
      by_cases c : small (acc ++ y).length = true
      · rw [if_pos c] at k
        exact ⟨y, hx.str_inv, small_le c, ih (acc ++ y) B L G1 σ H1 ρ1 Q A1 k⟩
      · rw [if_neg c] at k; exact k.elim
    | _ => exact (show False from k).elim
/-! *xs in a display -/
def mStar (m : M PyData) (r : M (List PyData)) : M (List PyData) := mBind m fun d => match d with
  | .list ds => mMap (fun es => ds ++ es) r
  | .tuple ds => mMap (fun es => ds ++ es) r
  | _ => fun _ => .bad
theorem sa_star {t : TE} {tr : TA} {m : M PyData} {r : M (List PyData)} (h1 : SE K mg E t m) (h2 : SA K mg E tr r) : SA K mg E (StX.tStar K t tr) (mStar m r) := fun B L G σ H ρ Q A w => by
  refine h1 B L G σ H ρ _ A ((WR.bind w).mono fun G1 H1 ρ1 d e1 A1 k x hx => ?_)
  cases d with
  | list ds =>
    obtain ⟨a, xs, rfl, q1, q2⟩ := hx.lst_inv
    refine ⟨a, xs, rfl, .inr (SqL.of (A1.exG _ _ q1)), ?_⟩
    exact h2 B L G1 σ H1 ρ1 _ A1 ((WR.map k).mono fun G2 H2 ρ2 es e2 A2 k2 vs hv => k2 (xs ++ vs) ((q2.mono e2).append hv))
  | tuple ds =>
    obtain ⟨a, xs, rfl, q1, q2⟩ := hx.tup_inv
    refine ⟨a, xs, rfl, .inl (Evl.ex_t A1.exG q1), ?_⟩
    exact h2 B L G1 σ H1 ρ1 _ A1 ((WR.map k).mono fun G2 H2 ρ2 es e2 A2 k2 vs hv => k2 (xs ++ vs) ((q2.mono e2).append hv))
  | _ => exact (show False from k).elim
theorem kpa_star {X : Cx} (K : PySem.W.Frag) (hK : X.K = K) {e : Expr} {es : List Expr} {te : TE} {t : TA} {p : Pos} (he : PE X e te) (hr : PA X es t) (hs : starEach (.Starred e p :: es) X.env = (true, eval e X.env) :: starEach es X.env := by rfl) : PA X (.Starred e p :: es) (StX.tStar K te t) := by subst hK; exact StX.pa_star he hr hs
end
end Hue
-- Hue23
namespace Hue
open PySem PySem.Spec PyProof.Rows L2
open Evl (Ex)
/-! ### a held list as a test -/
section
variable {K : PySem.W.Frag} {mg : Str → Option Value} {E : XW} {C : Cn} {G G' H H' : Hp} {σ σ' : L2.St} {ρ ρ' : Env} {P : Program} {w : World}
def mTruN (k : Nat) : M Bool := fun ρ => match peek ρ k with
  | some ds => .ok (!ds.isEmpty) ρ
  | none => .bad
theorem st_truN {k : Nat} : STt K mg E (fun σ H Q => tVar k σ H fun x H' => ∃ b, TruV K x H' b ∧ Q b H') (mTruN k) := fun B L G σ H ρ Q A w => by
  unfold mTruN at w
  cases q : peek ρ k with
  | none => rw [q] at w; exact w.elim
  | some ds =>
    rw [q] at w
    obtain ⟨a, vs, h1, h2, h3⟩ := A.peek q
    exact ⟨.ref a, h1, _, .inl ⟨vs, h2, rfl⟩, by rw [h3.isEmpty]; exact w.here A⟩
end
/-! ### sorted(t), t a tuple of pairs of ints -/
section
variable {X : Cx}
theorem refs_val : ∀ {as : List Addr} {its : List Value}, Vals (as.map V.ref) its → its = as.map Value.ref
  | [], _, .nil => rfl
  | a :: as, _, .cons r t => by cases r; rw [refs_val t]; rfl
def rSortPT (K : PySem.W.Frag) : List V → Hp → VK → Prop := fun vs H Q => ∃ (a : Addr) (ks : List (Addr × Int × Int)), vs = [V.ref a] ∧ SqT K H a (ks.map fun r => V.ref r.1) ∧ (∀ r ∈ ks, SqT K H r.1 [.int r.2.1, .int r.2.2]) ∧
  ∀ (zs : List (Addr × Int × Int)) p, zs.Perm ks → zs.Pairwise (fun x y => SrtO.lexB y.2 x.2 = false) → H p = none → Q (.ref p) (upd H p (.lst (zs.map fun r => V.ref r.1)))
theorem cr_sortPT : CallR X (.builtin "sorted") (rSortPT X.K) := by
  intro pins s σ H vs us Q I r h
  obtain ⟨a, ks, rfl, hs, hx, q⟩ := h
  obtain ⟨its, rv, ht, hz⟩ := I.tuple hs
  rw [Vals.ref1 r]
  have e1 : its = ks.map fun r => Value.ref r.1 := by
    have := refs_val (as := ks.map (·.1)) (its := its) (by rw [List.map_map]; exact rv)
    rw [this, List.map_map]; rfl
  have hp0 : ∀ r ∈ ks, Srt.IsPair s.heap (.ref r.1) r.2.1 r.2.2 := fun r hr => by
    obtain ⟨its2, r2, ⟨o, ho, hc, n, hd⟩, _⟩ := I.tuple (hx r hr)
    obtain ⟨u1, u2, rfl, ri, rj⟩ := vals2 r2
    obtain ⟨t1, rfl⟩ := ri
    obtain ⟨t2, rfl⟩ := rj
    exact ⟨r.1, o, t1, t2, n, rfl, ho, hc, hd⟩
  have fn : ∀ r1 ∈ ks, ∀ r2 ∈ ks, r1.1 = r2.1 → r1.2 = r2.2 := fun r1 m1 r2 m2 e => by
    obtain ⟨a1, o1, t1, u1, n1, z1, g1, c1, d1⟩ := hp0 r1 m1
    obtain ⟨a2, o2, t2, u2, n2, z2, g2, c2, d2⟩ := hp0 r2 m2
    cases z1; cases z2
    rw [e, g2] at g1
    cases g1
    rw [d2] at d1
    injection d1 with d1 d3
    have d4 := congrArg Array.toList d1
    injection d4 with f1 f2
    injection f2 with f2 f3
    injection f1 with f1 _
    injection f2 with f2 _
    exact Prod.ext f1.symm f2.symm
  let adr : Value → Addr := fun v => match v with | .ref a => a | _ => 0
  let kf : Value → Int × Int := fun v => ((ks.find? fun r => r.1 == adr v).map (·.2)).getD (0, 0)
  have kfe : ∀ r ∈ ks, kf (.ref r.1) = r.2 := fun r hr => by
    show ((ks.find? fun r2 => r2.1 == r.1).map (·.2)).getD (0, 0) = r.2
    cases z : ks.find? fun r2 => r2.1 == r.1 with
    | none => exact absurd (List.find?_eq_none.mp z r hr) (by simp)
    | some r2 =>
      have h1 := List.find?_some z
      exact fn r2 (List.mem_of_find?_eq_some z) r hr (by simpa using h1)
  have hp : ∀ v ∈ its, Srt.IsPair s.heap v (kf v).1 (kf v).2 := fun v hv => by
    rw [e1] at hv
    obtain ⟨r, hr, rfl⟩ := List.mem_map.mp hv
    rw [kfe r hr]
    exact hp0 r hr
  refine sorted_tup (SrtO.swo_lex kf) ht (by rw [← rv.length]; exact hz) (fun h2 h1 a1 ha kp => SrtO.pairs_sortableO (s := { s with heap := h1 }) (by omega) (fun v hm => (hp v hm).keeps fun b o e _ => kp b o e) fun o e => ?_) fun out h1 h2 => ?_
  · have e' : some o = some (seqObj "list" its.toArray 0) := e.symm.trans ha
    cases e'
    intro c
    exact absurd (Value.type.inj c) (by decide)
  · let zs : List (Addr × Int × Int) := out.map fun v => (adr v, kf v)
    have pz : zs.Perm ks := by
      have p1 : zs.Perm (its.map fun v => (adr v, kf v)) := h2.perm.map _
      have e3 : (its.map fun v => (adr v, kf v)) = ks := by
        rw [e1, List.map_map]
        have : ∀ r ∈ ks, ((fun v => (adr v, kf v)) ∘ fun r : Addr × Int × Int => Value.ref r.1) r = id r := fun r hr => by
          show (r.1, kf (.ref r.1)) = r
          rw [kfe r hr]
        rw [List.map_congr_left this, List.map_id]
      rwa [e3] at p1
    have eo : out = zs.map fun r => Value.ref r.1 := by
      show out = (out.map fun v => (adr v, kf v)).map fun r => Value.ref r.1
      rw [List.map_map]
      have : ∀ v ∈ out, ((fun r : Addr × Int × Int => Value.ref r.1) ∘ fun v => (adr v, kf v)) v = id v := fun v hv => by
        have := h2.perm.mem_iff.mp hv
        rw [e1] at this
        obtain ⟨r, _, rfl⟩ := List.mem_map.mp this
        rfl
      rw [List.map_congr_left this, List.map_id]
    have st : zs.Pairwise (fun x y => SrtO.lexB y.2 x.2 = false) := List.pairwise_map.mpr h1
    obtain ⟨ep, he'⟩ := PyProof.Rows.sortedAll_at s.heap its out.toArray
    have hl : (zs.map fun r => V.ref r.1).length ≤ sizeLine := by
      rw [List.length_map, pz.length_eq]
      rwa [List.length_map] at hz
    have hv : Vals (zs.map fun r => V.ref r.1) out := by
      rw [eo]
      clear eo st pz hl
      induction zs with
      | nil => exact .nil
      | cons z zs ih => exact .cons rfl ih
    exact ⟨.ref _, upd H (s.heap.objs.size + 1) (.lst (zs.map fun r => V.ref r.1)), I.laid (t' := s.toks) (fun _ _ => PyProof.Rows.sortedAll_old) (Nat.le_succ _) ⟨hl, out, ep, hv, he'⟩, rfl, q _ _ pz st (I.hok.fresh (Nat.le_succ _))⟩
theorem ksortP (K : PySem.W.Frag) (hK : X.K = K) (hc : X.calm = true) : CallR X (.builtin "sorted") (rSortPT K) := by subst hK; exact cr_sortPT
/-! len(set(..)) -/
def rLenZ (w : World) : List V → Hp → VK → Prop := fun xs H Q => ∃ a S n, xs = [.ref a] ∧ H a = some (SetO w a S n) ∧ n < 4096 ∧ ∀ ks : List Int, ks.Nodup → (∀ k, S k = true ↔ k ∈ ks) → ks.length = n → Q (.int (n : Nat)) H
theorem cr_lenZ : CallR X (.builtin "len") (rLenZ X.w) := by
  intro pins s σ H vs us Q I r h
  obtain ⟨a, S, n, rfl, ha, hn4, q⟩ := h
  rw [Vals.ref1 r]
  obtain ⟨o, es, ep, t, ho, hex, hd, _, nd, mem, _, hf, hn, _⟩ := setO_get I ha
  have q2 := q (es.toList.map L2.keyOf) nd mem (by rw [List.length_map, Array.length_toList]; exact hn)
  exact call_len_set ho hex hd hf (by rw [hn]; omega) ⟨.int n, H, I.tok _, ⟨_, by rw [hn]⟩, q2⟩
theorem klenZ (w : World) (hw : X.w = w) : CallR X (.builtin "len") (rLenZ w) := by subst hw; exact cr_lenZ
end
section
variable {K : PySem.W.Frag} {mg : Str → Option Value} {E : XW} {C : Cn} {G G' H H' : Hp} {σ σ' : L2.St} {ρ ρ' : Env} {P : Program} {w : World}
theorem nd_len {ks ns : List Int} (nd : ks.Nodup) (mem : ∀ z, z ∈ ks ↔ z ∈ ns) : ks.length = (sdd ns).length := by
  have p := isort_perm ks
  have st : (isort ks).Pairwise (· < ·) := (List.Pairwise.and (isort_sorted ks) (p.nodup_iff.mpr nd)).imp fun {x y} h => by
    have := h.1; have := h.2; omega
  rw [← p.length_eq, rising_one (fun z => by rw [p.mem_iff, sdd_mem]; exact mem z) st (sdd_sorted ns)]
def tLens (K : PySem.W.Frag) (P : Program) (w : World) (ta : TE) : TE := tCB (rLenZ w) (tCons (tCB (cOr (rSetI K w) (rSetOfT K P w)) (tCons ta tNil)) tNil)
def lensD : PyData → Option Rv
  | .tuple ds => match intsD ds with
    | some ns => if ns.length < 64 then some (.dat (.int ((sdd ns).length : Nat))) else none
    | none => none
  | _ => none
def mLens (m : M PyData) : M Rv := mBind m fun d => mOpt (lensD d)
theorem sx_lens {t : TE} {m : M PyData} (h : SE K mg E t m) : SX K mg E (tLens K P w t) (mLens m) := fun B L G σ H ρ Q A w0 => by
  refine h B L G σ H ρ _ A ((WR.bind w0).mono fun G1 H1 ρ1 d e1 A1 k v hv => ?_)
  obtain ⟨z, q, k2⟩ := WR.opt k
  unfold lensD at q
  split at q
  · rename_i ds
    split at q
    · rename_i ns qn
      by_cases hl : ns.length < 64
      · rw [if_pos hl] at q
        cases q
        obtain ⟨a, rfl, h1⟩ := hv.intsT qn
        refine .inl ⟨a, ns, rfl, .inr (Evl.ex_t A1.exG h1), hl, fun b c hb hc => ?_⟩
        refine ⟨b, _, c, rfl, upd_same, by omega, fun ks nd mem len => ?_⟩
        have e0 : ks.length = (sdd ns).length := nd_len nd fun z => (mem z).symm.trans decide_eq_true_iff
        have e : (c : Int) = ((sdd ns).length : Nat) := by rw [← len, e0]
        rw [e]
        exact k2 _ _ (Ex.refl _) (A1.more hb) _ (show Dt K G1 _ _ from .int _)
      · rw [if_neg hl] at q; cases q
    · cases q
  · cases q
/-- sorted pairs as data -/
def sortPD : List PyData → Option Rv
  | [.tuple ds] => (pairsC ds).map fun cs => .new ((isort cs).map decP)
  | _ => none
theorem cas_sortP : CaS K (rSortPT K) sortPD := fun mg B L G σ H ρ vs ds z Q A hv hz k => by
  unfold sortPD at hz
  split at hz
  · rename_i es
    cases q : pairsC es with
    | none => rw [q] at hz; cases hz
    | some cs =>
      rw [q] at hz; cases hz
      obtain ⟨v, rfl, h1⟩ := hv.one
      obtain ⟨a, xs, rfl, h2, h3⟩ := h1.tup_inv
      obtain ⟨ks, rfl, f1, f2, f3⟩ := pairs_lie h3 q
      have two : ∀ r ∈ ks, r.2 = [r.2.getD 0 0, r.2.getD 1 0] := fun r hr => by
        have := (f2 r hr).2.1
        match r.2, this with
        | [x, y], _ => rfl
      let g : Addr × List Int → Addr × Int × Int := fun r => (r.1, r.2.getD 0 0, r.2.getD 1 0)
      refine ⟨a, ks.map g, rfl, by rw [List.map_map]; exact Evl.ex_t A.exG h2, fun r hr => ?_, fun zs p pm so hp => ?_⟩
      · obtain ⟨r0, h0, rfl⟩ := List.mem_map.mp hr
        have t := (f2 r0 h0).1
        rw [two r0 h0] at t
        exact Evl.ex_t A.exG t
      · have mz : ∀ r ∈ zs, ∃ r0 ∈ ks, r = g r0 := fun r hr => by
          obtain ⟨r0, h0, e⟩ := List.mem_map.mp (pm.mem_iff.mp hr)
          exact ⟨r0, h0, e.symm⟩
        have bd : ∀ r ∈ zs, 0 ≤ r.2.1 ∧ r.2.1 < 64 ∧ 0 ≤ r.2.2 ∧ r.2.2 < 64 := fun r hr => by
          obtain ⟨r0, h0, rfl⟩ := mz r hr
          have b := (f2 r0 h0).2.2
          rw [two r0 h0] at b
          have b1 := b _ (List.mem_cons_self ..)
          have b2 := b _ (List.mem_cons_of_mem _ (List.mem_cons_self ..))
          exact ⟨b1.1, b1.2, b2.1, b2.2⟩
        have ec : zs.map (fun r => r.2.1 * 64 + r.2.2) = isort cs := by
          refine perm_isort ?_ ?_
          · have p1 := pm.map fun r : Addr × Int × Int => r.2.1 * 64 + r.2.2
            have e : (ks.map g).map (fun r => r.2.1 * 64 + r.2.2) = cs := by
              rw [← f3, List.map_map]
              refine List.map_congr_left fun r hr => ?_
              show r.2.getD 0 0 * 64 + r.2.getD 1 0 = TS.code 64 r.2
              rw [← L2.code_pair, ← two r hr]
            rwa [e] at p1
          · refine List.pairwise_map.mpr (List.Pairwise.imp_of_mem (fun {x y} hx hy h => ?_) so)
            have n := SrtO.lexB_no.mp h
            have := bd x hx
            have := bd y hy
            omega
        have dd : DtA K G (zs.map fun r => V.ref r.1) ((isort cs).map decP) := by
          rw [← ec, List.map_map]
          clear pm so hp ec
          induction zs with
          | nil => exact .nil
          | cons r zs ih =>
            have b := bd r (List.mem_cons_self ..)
            obtain ⟨r0, h0, e0⟩ := mz r (List.mem_cons_self ..)
            refine .cons ?_ (ih (fun x hx => mz x (List.mem_cons_of_mem _ hx)) fun x hx => bd x (List.mem_cons_of_mem _ hx))
            show Dt K G (.ref r.1) (decP (r.2.1 * 64 + r.2.2))
            unfold decP
            rw [show (r.2.1 * 64 + r.2.2) / 64 = r.2.1 by omega, show (r.2.1 * 64 + r.2.2) % 64 = r.2.2 by omega]
            have t := (f2 r0 h0).1
            rw [two r0 h0] at t
            subst e0
            exact .tup t (DtA.ofInts [_, _])
        have T := A.fresh hp dd
        exact k _ _ _ (Ex.refl _) T.1 T.2
  · cases hz
end
end Hue
-- Hue24
namespace Hue
open PySem PySem.Spec PyProof.Rows L2
open Evl (Ex)
/-! ### bits -/
section
variable {K : PySem.W.Frag}
def fBAnd : PyData → PyData → Option Rv := fI (fun _ _ => true) fun i j => .int (Builtin.bitAnd i j)
theorem ops_band : OpS K (rI0 fun i j => .int (Builtin.bitAnd i j)) fBAnd := ops_I0 fun i j G => .int _
def fBOr : PyData → PyData → Option Rv := fI (fun _ _ => true) fun i j => .int (Builtin.bitOr i j)
theorem ops_bor : OpS K (rI0 fun i j => .int (Builtin.bitOr i j)) fBOr := ops_I0 fun i j G => .int _
/-- 1 << k -/
def cShl (i j : Int) : Bool := decide (0 ≤ j) && decide (j ≤ 1000) && decide (i = 1)
def fShl : PyData → PyData → Option Rv := fI cShl fun i j => .int (i * 2 ^ j.toNat)
theorem ops_shl : OpS K (rI CShl fun i j => .int (i * 2 ^ j.toNat)) fShl := ops_I (fun i j h => by
  unfold cShl at h
  rw [Bool.and_eq_true, Bool.and_eq_true] at h
  have h0 := of_decide_eq_true h.1.1
  have h1 := of_decide_eq_true h.1.2
  have h2 := of_decide_eq_true h.2
  have e : j = ((j.toNat : Nat) : Int) := by omega
  rw [e]
  exact shl_ok (n := 1) (by rw [h2]; decide) (by omega)) fun i j G => .int _
theorem kop_band {X : Cx} : OpR X (binaryOp .BitAnd) (rI0 fun i j => .int (Builtin.bitAnd i j)) := op_and
theorem kop_bor {X : Cx} : OpR X (binaryOp .BitOr) (rI0 fun i j => .int (Builtin.bitOr i j)) := op_or
theorem kop_shl {X : Cx} : OpR X (binaryOp .LShift) (rI CShl fun i j => .int (i * 2 ^ j.toNat)) := op_shlW
/-! ### any -/
def anyD : List PyData → Option Rv
  | [.list ds] => (boolsD ds).map fun bs => .dat (.bool (bs.any id))
  | _ => none
theorem cas_any : CaS K (rAny K) anyD := fun mg B L G σ H ρ vs ds z Q A hv hz k => by
  unfold anyD at hz
  split at hz
  · rename_i es
    cases q : boolsD es with
    | none => rw [q] at hz; cases hz
    | some bs =>
      rw [q] at hz; cases hz
      obtain ⟨v, rfl, h1⟩ := hv.one
      obtain ⟨a, xs, rfl, h2, h3⟩ := h1.lst_inv
      rw [boolsD_inv q] at h3
      rw [h3.bools] at h2
      exact ⟨a, bs, rfl, SqL.of (A.exG _ _ h2), k _ G H (Ex.refl G) A (.bl _)⟩
  · cases hz
theorem kany {X : Cx} (K : PySem.W.Frag) (hK : X.K = K) (hc : X.calm = true) : CallR X (.builtin "any") (rAny K) := by subst hK; exact cr_any hc
end
end Hue
-- Hue25
namespace Hue
open PySem PySem.Spec PyProof.Rows L2
open Evl (Ex)
/-! ### a dict that is data, locked and let go -/
structure Sm (G G' : Hp) : Prop where
  l : ∀ b xs, G b = some (.lst xs) → G' b = some (.lst xs)
  t : ∀ b xs, Rd G b (.tup xs) → Rd G' b (.tup xs)
  d : ∀ b kvs, Rd G b (.dK kvs) → Rd G' b (.dK kvs)
section
variable {K : PySem.W.Frag} {mg : Str → Option Value} {E : XW} {C : Cn} {G G' H H' : Hp} {σ σ' : L2.St} {ρ ρ' : Env} {D : Ends}
theorem Sm.sq (s : Sm G G') {a : Addr} {xs : List V} (h : SqT K G a xs) : SqT K G' a xs := by
  rcases h with h | h
  · exact .inl (s.t a xs h)
  · exact .inr h
mutual
theorem Dt.sm (s : Sm G G') : ∀ {v : V} {d : PyData}, Dt K G v d → Dt K G' v d
  | _, _, .non => .non
  | _, _, .bl b => .bl b
  | _, _, .int i => .int i
  | _, _, .str x => .str x
  | _, _, .lst h1 h2 => .lst (s.l _ _ h1) (DtA.sm s h2)
  | _, _, .tup h1 h2 => .tup (s.sq h1) (DtA.sm s h2)
  | _, _, .dct h1 h2 => .dct (s.d _ _ h1) (DtK.sm s h2)
theorem DtA.sm (s : Sm G G') : ∀ {vs : List V} {ds : List PyData}, DtA K G vs ds → DtA K G' vs ds
  | _, _, .nil => .nil
  | _, _, .cons h1 h2 => .cons (Dt.sm s h1) (DtA.sm s h2)
theorem DtK.sm (s : Sm G G') : ∀ {vs : List (Key × V)} {ds : List (PyData × PyData)}, DtK K G vs ds → DtK K G' vs ds
  | _, _, .nil => .nil
  | _, _, .cons h1 h2 => .cons (Dt.sm s h1) (DtK.sm s h2)
end
variable {a : Addr} {kvs : List (Key × V)} {o : Obj}
theorem sm_lock (h : G a = some (.dK kvs)) : Sm G (upd G a (.frz o (.dK kvs))) where
  l := fun b xs q => by rw [upd_ne (fun z => by rw [z, h] at q; cases q)]; exact q
  t := fun b xs q => by
    have nb : b ≠ a := fun z => by
      subst z
      rcases q with q | ⟨_, q⟩ <;> rw [h] at q <;> cases q
    rcases q with q | ⟨o', q⟩
    · exact .inl (by rw [upd_ne nb]; exact q)
    · exact .inr ⟨o', by rw [upd_ne nb]; exact q⟩
  d := fun b ks q => by
    by_cases z : b = a
    · subst z
      rcases q with q | ⟨_, q⟩
      · rw [h] at q; cases q; exact .inr ⟨o, upd_same⟩
      · rw [h] at q; cases q
    · rcases q with q | ⟨o', q⟩
      · exact .inl (by rw [upd_ne z]; exact q)
      · exact .inr ⟨o', by rw [upd_ne z]; exact q⟩
theorem sm_free (h : G a = some (.frz o (.dK kvs))) : Sm G (upd G a (.dK kvs)) where
  l := fun b xs q => by rw [upd_ne (fun z => by rw [z, h] at q; cases q)]; exact q
  t := fun b xs q => by
    have nb : b ≠ a := fun z => by
      subst z
      rcases q with q | ⟨_, q⟩ <;> rw [h] at q <;> cases q
    rcases q with q | ⟨o', q⟩
    · exact .inl (by rw [upd_ne nb]; exact q)
    · exact .inr ⟨o', by rw [upd_ne nb]; exact q⟩
  d := fun b ks q => by
    by_cases z : b = a
    · subst z
      rcases q with q | ⟨_, q⟩
      · rw [h] at q; cases q
      · rw [h] at q; cases q; exact .inl upd_same
    · rcases q with q | ⟨o', q⟩
      · exact .inl (by rw [upd_ne z]; exact q)
      · exact .inr ⟨o', by rw [upd_ne z]; exact q⟩
theorem Lst.swap {z : HO} {b : Addr} {ds : List PyData} (h : Lst C G H b ds) (ga : G a ≠ none) (s : Sm G (upd G a z)) : Lst C (upd G a z) (upd H a z) b ds := by
  obtain ⟨vs, q1, q2, q3, q4⟩ := h
  have nb : b ≠ a := fun e => ga (by rw [← e]; exact q3)
  exact ⟨vs, by rw [upd_ne nb]; exact q1, q2.sm s, by rw [upd_ne nb]; exact q3, q4⟩
theorem Ab.swap {z : HO} (A : Ab C G σ H ρ) (ga : G a ≠ none) (s : Sm G (upd G a z)) : Ab C (upd G a z) σ (upd H a z) ρ where
  exG := fun b u q => by
    by_cases e : b = a
    · subst e; rw [upd_same] at q ⊢; exact q
    · rw [upd_ne e] at q ⊢; exact A.exG b u q
  exB := fun b u q => by
    have e : b ≠ a := fun e => by rw [e, A.dis a ga] at q; cases q
    rw [upd_ne e]; exact A.exB b u q
  dis := fun b q => by
    by_cases e : b = a
    · subst e; exact A.dis b ga
    · rw [upd_ne e] at q; exact A.dis b q
  scr := A.scr
  len := A.len
  sl := fun i t e => by
    obtain ⟨x, h1, h2⟩ := A.sl i t e
    refine ⟨x, h1, ?_⟩
    cases t with
    | un => exact trivial
    | dat d =>
      obtain ⟨v, q1, q2⟩ := h2
      exact ⟨v, q1, q2.sm s⟩
    | own ds =>
      obtain ⟨b, q1, q2⟩ := h2
      exact ⟨b, q1, q2.swap ga s⟩
    | lnt ds =>
      obtain ⟨b, q1, q3, q2⟩ := h2
      exact ⟨b, q1, q3, q2.swap ga s⟩
    | scr ns => exact h2
  nd := A.nd
theorem RvOk.swap {z : HO} {v : V} {r : Rv} (h : RvOk C G σ H ρ v r) (ga : G a ≠ none) (s : Sm G (upd G a z)) : RvOk C (upd G a z) σ (upd H a z) ρ v r := by
  cases r with
  | dat d => exact Dt.sm s h
  | new ds =>
    obtain ⟨p, e, l, n⟩ := h
    exact ⟨p, e, l.swap ga s, n⟩
theorem ex_back (h : G a = some (.dK kvs)) (e : Ex (upd G a (.frz o (.dK kvs))) G') : Ex G (upd G' a (.dK kvs)) := fun b u q => by
  by_cases z : b = a
  · subst z; rw [upd_same, ← q, h]
  · rw [upd_ne z]; exact e b u (by rw [upd_ne z]; exact q)
/-! ### for k, v in d.items() -/
def itemsL (es : Es) : List PyData := es.map fun p => .tuple [p.1, p.2]
theorem DtK.at_ : ∀ {ks : List (Key × V)} {es : Es} {i : Nat} {p : PyData × PyData}, DtK K G ks es → es[i]? = some p → ∃ k v, ks[i]? = some (k, v) ∧ p.1 = keyD k ∧ Dt K G v p.2
  | _, _, _, _, .nil, e => by simp at e
  | _, _, 0, _, .cons h1 _, e => by simp at e; subst e; exact ⟨_, _, rfl, rfl, h1⟩
  | _, _, i + 1, _, .cons _ h2, e => by simpa using DtK.at_ (i := i) h2 (by simpa using e)
theorem dt_key (k : Key) : Dt K G (kV k) (keyD k) := by cases k <;> constructor
theorem it_items {G0 : Hp} {es : Es} (h1 : G0 a = some (.frz o (.dK kvs))) (h2 : DtK K G0 kvs es) : ItOk K G0 (Iti a o kvs) (itemsL es) where
  go := fun i H e hi => by
    unfold itemsL at hi
    rw [List.length_map, ← h2.len] at hi
    exact ⟨e _ _ h1, hi⟩
  stop := fun i H e hi => by
    unfold itemsL at hi
    rw [List.length_map, ← h2.len] at hi
    exact ⟨e _ _ h1, hi⟩
  yld := fun C G σ H ρ i d x H' hK eG A hd y => by
    subst hK
    obtain ⟨T, k, v, q1, rfl, q3, rfl⟩ := y
    unfold itemsL at hd
    rw [List.getElem?_map] at hd
    cases z : es[i]? with
    | none => rw [z] at hd; cases hd
    | some p =>
      rw [z] at hd
      cases hd
      obtain ⟨k2, v2, r1, r2, r3⟩ := h2.at_ z
      rw [q1] at r1
      cases r1
      have t := A.tup q3 (vs := [kV k, v]) (ds := [p.1, p.2]) (.cons (by rw [r2]; exact dt_key k) (.cons (r3.mono eG) .nil))
      exact ⟨_, t.1, t.2.1, t.2.2⟩
def mItems (k : Nat) : M (List PyData) := fun ρ => match ρ[k]? with
  | some (.dat (.dict es)) => .ok (itemsL es) ρ
  | _ => .bad
def Lk (k : Nat) (σ : L2.St) (H : Hp) : Prop := ∀ d kvs, σ[k]? = some (some (.ref d)) → Rd H d (.dK kvs) → ∃ o, H d = some (.frz o (.dK kvs))
def iLk (k : Nat) : TI := fun σ H R => Lk k σ H → iItems (tVar k) σ H R
theorem si_items {k : Nat} : SI K mg E (iLk k) (mItems k) := fun B L G σ H ρ W A w lk => by
  unfold mItems at w
  split at w
  · rename_i es e
    obtain ⟨x, h1, v, rfl, h2⟩ := A.sl k _ e
    obtain ⟨a, kvs, rfl, h3, h4⟩ := h2.dct_inv
    obtain ⟨o, q⟩ := lk a kvs h1 (rd_mono A.exG h3)
    have g : G a = some (.frz o (.dK kvs)) := by
      rcases h3 with h3 | ⟨o', h3⟩
      · have := A.exG _ _ h3; rw [q] at this; cases this
      · have := A.exG _ _ h3; rw [q] at this; cases this; exact h3
    exact ⟨.ref a, h1, a, o, kvs, rfl, q, w.here A _ (it_items g h4)⟩
  · exact w.elim
def noEx : Fl → Fl
  | .ex _ _ => .bad
  | f => f
def mForI (k : Nat) (b : PyData → Env → Option Env) (f : Env → Fl) : Env → Fl := fun ρ => noEx (mFor (mItems k) b f ρ)
def tOr (t u : TS) : TS := fun D σ H => t D σ H ∨ u D σ H
theorem ps_or {X : Cx} {st : Stmt} {t u : TS} (h1 : PS X st t) (h2 : PS X st u) : PS X st (tOr t u) := ⟨fun pins s σ H D I h => by
  rcases h with h | h
  · exact h1.run pins s σ H D I h
  · exact h2.run pins s σ H D I h⟩
theorem WS.unlock {f : Fl} (h : G a = some (.dK kvs)) (w : WS C E G D (noEx f)) (D' : Ends) (hD : D' = ⟨fun σ' H' => H' a = some (.frz o (.dK kvs)) ∧ D.nx σ' (upd H' a (.dK kvs)), fun v H' => H' a = some (.frz o (.dK kvs)) ∧ D.rt v (upd H' a (.dK kvs)), fun σ' H' => H' a = some (.frz o (.dK kvs)) ∧ D.bk σ' (upd H' a (.dK kvs)), fun σ' H' => H' a = some (.frz o (.dK kvs)) ∧ D.ct σ' (upd H' a (.dK kvs))⟩) : WS C E (upd G a (.frz o (.dK kvs))) D' f := by
  subst hD
  have key : ∀ {G' : Hp}, Ex (upd G a (.frz o (.dK kvs))) G' → G' a = some (.frz o (.dK kvs)) := fun e => e _ _ upd_same
  cases f with
  | nx ρ' => exact fun G' σ' H' e A => ⟨A.exG _ _ (key e), w _ _ _ (ex_back h e) (A.swap (by rw [key e]; exact fun z => by cases z) (sm_free (key e)))⟩
  | rt r ρ' => exact fun v G' σ' H' e A k => ⟨A.exG _ _ (key e), w _ _ _ _ (ex_back h e) (A.swap (by rw [key e]; exact fun z => by cases z) (sm_free (key e))) (k.swap (by rw [key e]; exact fun z => by cases z) (sm_free (key e)))⟩
  | bk ρ' => exact fun G' σ' H' e A => ⟨A.exG _ _ (key e), w _ _ _ (ex_back h e) (A.swap (by rw [key e]; exact fun z => by cases z) (sm_free (key e)))⟩
  | ct ρ' => exact fun G' σ' H' e A => ⟨A.exG _ _ (key e), w _ _ _ (ex_back h e) (A.swap (by rw [key e]; exact fun z => by cases z) (sm_free (key e)))⟩
  | ex x ρ' => exact w.elim
  | bad => exact w.elim
theorem WS.noEx' {f : Fl} (w : WS C E G D (noEx f)) : WS C E G D f := by
  cases f with
  | ex x ρ' => exact w.elim
  | _ => exact w
theorem ss_items {k : Nat} {g : TG} {tb : TS} {b : PyData → Env → Option Env} {f : Env → Fl} {js : List Nat} (hg : SG K g b js) (hb : SS K mg E tb f) : SS K mg E (tOr (tFor (iItems (tVar k)) g tb) (tLock (tFor (iItems (tVar k)) g tb))) (mForI k b f) := fun B L G σ H ρ D A w => by
  have S := ss_for (si_items (k := k)) hg hb
  cases e : ρ[k]? with
  | none => exfalso; unfold mForI mFor mThen mItems at w; rw [e] at w; exact w
  | some t =>
    cases t with
    | dat d =>
      cases d with
      | dict es =>
        obtain ⟨x, h1, v, rfl, h2⟩ := A.sl k _ e
        obtain ⟨a, kvs, rfl, h3, h4⟩ := h2.dct_inv
        rcases h3 with h3 | ⟨o, h3⟩
        · right
          refine ⟨a, .dK kvs, A.exG _ _ h3, trivial, fun od => ?_⟩
          have ga : G a ≠ none := by rw [h3]; exact fun z => by cases z
          refine S B L _ σ _ ρ _ (A.swap ga (sm_lock h3)) (WS.unlock h3 w _ rfl) fun d' ks z1 z2 => ?_
          rw [h1] at z1
          cases z1
          rcases z2 with z2 | ⟨o', z2⟩
          · rw [upd_same] at z2; cases z2
          · exact ⟨o', z2⟩
        · left
          refine S B L G σ H ρ D A w.noEx' fun d' ks z1 z2 => ?_
          rw [h1] at z1
          cases z1
          have z3 := A.exG _ _ h3
          rcases z2 with z2 | ⟨o', z2⟩
          · rw [z3] at z2; cases z2
          · exact ⟨o', z2⟩
      | _ => exfalso; unfold mForI mFor mThen mItems at w; rw [e] at w; exact w
    | _ => exfalso; unfold mForI mFor mThen mItems at w; rw [e] at w; exact w
/-! the same beside the frame's own dict -/
variable {i : Nat} {es : Es} {a0 : Addr} {kvs0 : List (Key × V)}
theorem AbD.swap {z : HO} (A : AbD C G σ H ρ i es a0 kvs0) (ga : G a ≠ none) (s : Sm G (upd G a z)) : AbD C (upd G a z) σ (upd H a z) ρ i es a0 kvs0 := ⟨Ab.swap A.ab ga s, A.un, A.at_, A.bn, A.dk.sm s, A.sc⟩
def noEx1 : Fl1 → Fl1
  | .ex _ _ => .bad
  | f => f
def s1ForI (i k : Nat) (b : PyData → Env → Option Env) (f : S1) : S1 := fun ρ es => noEx1 (s1For i (mItems k) b f ρ es)
theorem WS1.unlock {f : Fl1} (h : G a = some (.dK kvs)) (w : WS1 C E G i D (noEx1 f)) (D' : Ends) (hD : D' = ⟨fun σ' H' => H' a = some (.frz o (.dK kvs)) ∧ D.nx σ' (upd H' a (.dK kvs)), fun v H' => H' a = some (.frz o (.dK kvs)) ∧ D.rt v (upd H' a (.dK kvs)), fun σ' H' => H' a = some (.frz o (.dK kvs)) ∧ D.bk σ' (upd H' a (.dK kvs)), fun σ' H' => H' a = some (.frz o (.dK kvs)) ∧ D.ct σ' (upd H' a (.dK kvs))⟩) : WS1 C E (upd G a (.frz o (.dK kvs))) i D' f := by
  subst hD
  have key : ∀ {G' : Hp}, Ex (upd G a (.frz o (.dK kvs))) G' → G' a = some (.frz o (.dK kvs)) := fun e => e _ _ upd_same
  cases f with
  | nx ρ' es' => exact fun G' σ' H' a1 k1 e A => ⟨A.ab.exG _ _ (key e), w _ _ _ a1 k1 (ex_back h e) (A.swap (by rw [key e]; exact fun z => by cases z) (sm_free (key e)))⟩
  | rt r ρ' => exact fun v G' σ' H' e A k => ⟨A.exG _ _ (key e), w _ _ _ _ (ex_back h e) (A.swap (by rw [key e]; exact fun z => by cases z) (sm_free (key e))) (k.swap (by rw [key e]; exact fun z => by cases z) (sm_free (key e)))⟩
  | bk ρ' es' => exact fun G' σ' H' a1 k1 e A => ⟨A.ab.exG _ _ (key e), w _ _ _ a1 k1 (ex_back h e) (A.swap (by rw [key e]; exact fun z => by cases z) (sm_free (key e)))⟩
  | ct ρ' es' => exact fun G' σ' H' a1 k1 e A => ⟨A.ab.exG _ _ (key e), w _ _ _ a1 k1 (ex_back h e) (A.swap (by rw [key e]; exact fun z => by cases z) (sm_free (key e)))⟩
  | ex x ρ' => exact w.elim
  | bad => exact w.elim
theorem WS1.noEx' {f : Fl1} (w : WS1 C E G i D (noEx1 f)) : WS1 C E G i D f := by
  cases f with
  | ex x ρ' => exact w.elim
  | _ => exact w
theorem ss1_items {k : Nat} {g : TG} {tb : TS} {b : PyData → Env → Option Env} {f : S1} {js : List Nat} (hg : SG K g b js) (hb : SS1 K mg E i tb f) (hj : i ∉ js) : SS1 K mg E i (tOr (tFor (iItems (tVar k)) g tb) (tLock (tFor (iItems (tVar k)) g tb))) (s1ForI i k b f) := fun B L G σ H ρ es a0 kvs0 D A w => by
  have S := ss1_for (i := i) (si_items (K := K) (mg := mg) (E := E) (k := k)) hg hb hj
  cases e : ρ[k]? with
  | none => exfalso; unfold s1ForI s1For t1 l1 mItems at w; rw [e] at w; exact w
  | some t =>
    cases t with
    | dat d =>
      cases d with
      | dict ds =>
        obtain ⟨x, h1, v, rfl, h2⟩ := A.ab.sl k _ e
        obtain ⟨a, kvs, rfl, h3, h4⟩ := h2.dct_inv
        rcases h3 with h3 | ⟨o, h3⟩
        · right
          refine ⟨a, .dK kvs, A.ab.exG _ _ h3, trivial, fun od => ?_⟩
          have ga : G a ≠ none := by rw [h3]; exact fun z => by cases z
          refine S B L _ σ _ ρ es a0 kvs0 _ (A.swap ga (sm_lock h3)) (WS1.unlock h3 w _ rfl) fun d' ks z1 z2 => ?_
          rw [h1] at z1
          cases z1
          rcases z2 with z2 | ⟨o', z2⟩
          · rw [upd_same] at z2; cases z2
          · exact ⟨o', z2⟩
        · left
          refine S B L G σ H ρ es a0 kvs0 D A w.noEx' fun d' ks z1 z2 => ?_
          rw [h1] at z1
          cases z1
          have z3 := A.ab.exG _ _ h3
          rcases z2 with z2 | ⟨o', z2⟩
          · rw [z3] at z2; cases z2
          · exact ⟨o', z2⟩
      | _ => exfalso; unfold s1ForI s1For t1 l1 mItems at w; rw [e] at w; exact w
    | _ => exfalso; unfold s1ForI s1For t1 l1 mItems at w; rw [e] at w; exact w
end
end Hue
-- Hue26
namespace Hue
open PySem PySem.Spec PyProof.Rows L2
open Evl (Ex)
/-! ### t * 0, t not empty: a new tuple of nothing -/
theorem mul_none (l : Addr) (items : Array Value) (n : Nat) (dd : Option Addr) (sl : Array (Option Value)) (u : Tok) (hi : items.isEmpty = false) :
    Meets (Builtin.«tuple.__mul__» ⟨[.ref l, .int 0 u], []⟩) (fun _ R s => s.heap.get? l = some { cls := .type "tuple", dict := dd, data := .seq items n, slots := sl } ∧
      R (.ok (.ret (Value.ref s.heap.objs.size))) { s with heap := s.heap.push { cls := Value.type "tuple", data := Data.seq #[] }, toks := s.toks }) :=
  .of_wp fun prog w A R s h => by
    obtain ⟨hp, g, d, tk, os⟩ := s
    obtain ⟨hl, h⟩ := h
    have f1 := AutoSeq1.idx_int
    have y0 : (decide ((0 : Int) < -(2 ^ 63)) || decide ((0 : Int) ≥ 2 ^ 63)) = false := by decide
    have y1 : (items.isEmpty || (0 : Int) == 1) = false := by rw [hi]; rfl
    have y2 : (decide ((0 : Int) ≤ 0) || items.isEmpty) = true := rfl
    wp_walk using wpAny_loadPart' hl
    repeat (first
      | (refine wpAny_ite_false (decide_eq_false (by rw [y0]; intro z; cases z)) ?_; wp_walk using wpAny_loadPart' hl)
      | (refine wpAny_ite_false (decide_eq_false (by rw [y1]; intro z; cases z)) ?_; wp_walk using wpAny_loadPart' hl)
      | (refine wpAny_ite_true (decide_eq_true y2) ?_; wp_walk using wpAny_loadPart' hl)
      | (refine wpAny_ite_false (decide_eq_false (Nat.not_lt.mpr (Nat.zero_le _))) ?_; wp_walk using wpAny_loadPart' hl))
    all_goals exact ⟨_, rfl, h⟩
section
variable {X : Cx}
def rRep0 (K : PySem.W.Frag) : R2 := fun x y H Q => ∃ l xs, x = .ref l ∧ y = .int 0 ∧ SqT K H l xs ∧ xs ≠ [] ∧ ∀ p, H p = none → Q (.ref p) (upd H p (.tup []))
theorem op_rep0 : OpR X (binaryOp .Mult) (rRep0 X.K) := by
  intro pins s σ H x y v u Q I rx ry h
  obtain ⟨l, xs, rfl, rfl, hT, hne, q⟩ := h
  cases rx
  obtain ⟨t, rfl⟩ := ry
  obtain ⟨its, r, ⟨⟨cls, dd, data, sl⟩, ho, hc, n, hd⟩, hs⟩ := I.tuple hT
  simp only at hc hd
  subst hc hd
  have hi : its.toArray.isEmpty = false := by
    cases its with
    | nil => cases r; exact absurd rfl hne
    | cons a b => rfl
  have hty : s.TypeIs (.ref l) "tuple" := ⟨_, ho, rfl⟩
  have fin : EP X pins σ Q (.ref s.heap.objs.size) { s with heap := s.heap.push { cls := Value.type "tuple", data := Data.seq #[] }, toks := s.toks } := by
    refine ⟨.ref s.heap.objs.size, _, I.laid (t' := s.toks) (o := .tup []) (fun b ob z => Heap.get?_push_of_some _ z) (Nat.le_refl _) ?_, rfl, q _ (I.hok.fresh (Nat.le_refl _))⟩
    exact ⟨Nat.zero_le _, [], .nil, IsTup.new _ _⟩
  have step : wpAny (model X.prog X.w) X.A (call (.builtin "tuple.__mul__") [.ref l, .int 0 t]) (EP X pins σ Q) X.xe s := call_meets F.slot_tuple_mul hty F.entry_tuple_mul (F.args_tuple_mul_2 _ _) (mul_none l its.toArray n dd sl t hi) ⟨ho, fin⟩
  exact wpAny_binaryOp_repeat_ref (T := "tuple") (U := "int") (by decide) ⟨_, ho, rfl⟩ (fun s' => typeIs_int s' 0 t) noFill_tuple_mul F.fills_int_mul F.slot_int_rmul repeat_tuple F.slot_int_index.lookup
    (call_meets F.slot_int_rmul (typeIs_int s 0 t) F.entry_int_rmul (F.args_int_rmul_2 _ _) (int_rmul_tuple 0 t l its.toArray n dd sl) ⟨ho, rfl, ⟨_, ho, rfl⟩, step⟩)
theorem kop_mul0 (K : PySem.W.Frag) (hK : X.K = K) : OpR X (binaryOp .Mult) (rOr (rMulA K) (rRep0 K)) := op_two (kop_mul K hK) (hK ▸ op_rep0)
end
section
variable {K : PySem.W.Frag} {mg : Str → Option Value} {E : XW} {G G' H H' : Hp} {σ σ' : L2.St} {ρ ρ' : Env}
def fRep0 : PyData → PyData → Option Rv
  | .tuple ds, .int k => if (decide (k = 0) && !ds.isEmpty) = true then some (.dat (.tuple [])) else none
  | _, _ => none
theorem ops_rep0 : OpS K (rRep0 K) fRep0 := fun mg B L G σ H ρ x y d e z Q A hx hy hz k => by
  unfold fRep0 at hz
  split at hz
  · split at hz
    · rename_i ds j h
      cases hz
      rw [Bool.and_eq_true] at h
      have hj := of_decide_eq_true h.1
      subst hj
      obtain ⟨a, xs, rfl, h1, h2⟩ := hx.tup_inv
      refine ⟨a, xs, rfl, hy.int_inv, Evl.ex_t A.exG h1, fun e => ?_, fun p hp => ?_⟩
      · subst e
        cases h2
        exact absurd h.2 (by decide)
      · have T := A.tup hp (DtA.nil : DtA K G [] [])
        exact k _ _ _ T.1 T.2.1 T.2.2
    · cases hz
  · cases hz
def fMul0 : PyData → PyData → Option Rv := fun d e => (fMulA d e).or (fRep0 d e)
theorem ops_mul0 : OpS K (rOr (rMulA K) (rRep0 K)) fMul0 := ops_two ops_mulA ops_rep0
end
end Hue
-- Hue27
namespace Hue
open PySem PySem.Spec PyProof.Rows L2
open Evl (Ex)
theorem _root_.L2.Room.units1 {k : Nat} {A : Around} (r : Room k A) : A.units + 1 < cLine := by have := r.un; omega
section
variable {K : PySem.W.Frag} {mg : Str → Option Value} {E : XW} {C : Cn} {G G' H H' : Hp} {σ σ' : L2.St} {ρ ρ' : Env} {D : Ends}
/-! ### max(xs) -/
def maxI : List Int → Int
  | [] => 0
  | [i] => i
  | i :: r => max i (maxI r)
theorem maxI_mem : ∀ {ns : List Int}, ns ≠ [] → maxI ns ∈ ns ∧ ∀ y ∈ ns, y ≤ maxI ns
  | [], h => absurd rfl h
  | [i], _ => ⟨List.mem_singleton.mpr rfl, fun y hy => by rw [List.mem_singleton.mp hy]; exact Int.le_refl _⟩
  | i :: j :: r, _ => by
    obtain ⟨h1, h2⟩ := maxI_mem (ns := j :: r) (fun z => nomatch z)
    show max i (maxI (j :: r)) ∈ _ ∧ ∀ y ∈ _, y ≤ max i (maxI (j :: r))
    refine ⟨?_, fun y hy => ?_⟩
    · rcases Int.le_total i (maxI (j :: r)) with q | q
      · rw [Int.max_eq_right q]; exact List.mem_cons_of_mem _ h1
      · rw [Int.max_eq_left q]; exact List.mem_cons_self ..
    · rcases List.mem_cons.mp hy with q | q
      · rw [q]; exact Int.le_max_left ..
      · exact Int.le_trans (h2 y q) (Int.le_max_right ..)
def max1D : List PyData → Option Rv
  | [.list ds] => match intsD ds with
    | some ns => if ns.isEmpty = true then none else some (.dat (.int (maxI ns)))
    | none => none
  | _ => none
theorem cas_max1 : CaS K (rMax K) max1D := fun mg B L G σ H ρ vs ds z Q A hv hz k => by
  unfold max1D at hz
  split at hz
  · rename_i es
    cases q : intsD es with
    | none => rw [q] at hz; cases hz
    | some ns =>
      rw [q] at hz
      dsimp only at hz
      by_cases y : ns.isEmpty = true
      · rw [if_pos y] at hz; cases hz
      · rw [if_neg y] at hz; cases hz
        have ne : ns ≠ [] := fun z => y (by rw [z]; rfl)
        obtain ⟨v, rfl, h1⟩ := hv.one
        obtain ⟨a, xs, rfl, h2, h3⟩ := h1.lst_inv
        rw [intsD_inv q] at h3
        rw [h3.ints] at h2
        refine ⟨a, ns, rfl, SqL.of (A.exG _ _ h2), List.length_pos_iff.mpr ne, fun m hm hle => ?_⟩
        obtain ⟨m1, m2⟩ := maxI_mem ne
        rw [show m = maxI ns from Int.le_antisymm (m2 _ hm) (hle _ m1)]
        exact k _ G H (Ex.refl G) A (.int _)
  · cases hz
theorem kmax1 {X : Cx} (K : PySem.W.Frag) (hK : X.K = K) (hc : X.calm = true) : CallR X (.builtin "max") (rMax K) := by subst hK; exact cr_max hc
/-! ### sorted(xs), xs a list of pairs of ints -/
theorem perm_back {α β : Type} {f : α → β} : ∀ {ys : List β} {ks : List α}, ys.Perm (ks.map f) → ∃ zs : List α, zs.Perm ks ∧ ys = zs.map f
  | [], ks, h => by
    have e : ks.map f = [] := List.Perm.eq_nil h.symm
    rw [List.map_eq_nil_iff] at e
    exact ⟨[], by rw [e], rfl⟩
  | y :: ys, ks, h => by
    have hm : y ∈ ks.map f := h.mem_iff.mp (List.mem_cons_self ..)
    obtain ⟨k, hk, rfl⟩ := List.mem_map.mp hm
    obtain ⟨l1, l2, rfl⟩ := List.append_of_mem hk
    have p1 : (l1 ++ k :: l2).Perm (k :: (l1 ++ l2)) := List.perm_middle
    have p2 : (f k :: ys).Perm (f k :: (l1 ++ l2).map f) := h.trans (p1.map f)
    obtain ⟨zs, z1, z2⟩ := perm_back (List.Perm.cons_inv p2)
    exact ⟨k :: zs, (z1.cons k).trans p1.symm, by rw [z2]; rfl⟩
def sortUD : List PyData → Option Rv
  | [.list ds] => (pairsC ds).bind fun cs => if cs.length < 64 then some (.new ((isort cs).map decP)) else none
  | _ => none
theorem cas_sortU : CaS K (rSortU K 2 64) sortUD := fun mg B L G σ H ρ vs ds z Q A hv hz k => by
  unfold sortUD at hz
  split at hz
  · rename_i es
    cases q : pairsC es with
    | none => rw [q] at hz; cases hz
    | some cs =>
      rw [q] at hz
      have hz : (if cs.length < 64 then some (Rv.new ((isort cs).map decP)) else none) = some z := hz
      by_cases hl : cs.length < 64
      · rw [if_pos hl] at hz
        cases hz
        obtain ⟨v, rfl, h1⟩ := hv.one
        obtain ⟨a, xs, rfl, h2, h3⟩ := h1.lst_inv
        obtain ⟨ks, rfl, f1, f2, f3⟩ := pairs_lie h3 q
        refine ⟨a, _, rfl, SqL.of (A.exG _ _ h2), by rw [List.length_map, f1]; exact hl, fun x hx => ?_, fun ys p pm so hp => ?_⟩
        · obtain ⟨r, hr, rfl⟩ := List.mem_map.mp hx
          obtain ⟨g1, g2, g3⟩ := f2 r hr
          exact ⟨r.2, ⟨r.1, rfl, Evl.ex_t A.exG g1⟩, g2, g3⟩
        · obtain ⟨zs, pz, rfl⟩ := perm_back pm
          have mz : ∀ r ∈ zs, r ∈ ks := fun r hr => pz.mem_iff.mp hr
          have st : zs.Pairwise fun x y => TS.code 64 x.2 ≤ TS.code 64 y.2 := by
            rw [List.pairwise_map] at so
            refine List.Pairwise.imp_of_mem (fun {x y} hx hy h => ?_) so
            exact h x.2 y.2 ⟨x.1, rfl, Evl.ex_t A.exG (f2 x (mz x hx)).1⟩ ⟨y.1, rfl, Evl.ex_t A.exG (f2 y (mz y hy)).1⟩
          have ec : zs.map (fun r => TS.code 64 r.2) = isort cs := perm_isort (by rw [← f3]; exact pz.map _) (List.pairwise_map.mpr st)
          have dd : DtA K G (zs.map fun r => V.ref r.1) ((isort cs).map decP) := by
            rw [← ec, List.map_map]
            clear so pm pz st ec
            induction zs with
            | nil => exact .nil
            | cons r zs ih =>
              refine .cons ?_ (ih fun x hx => mz x (List.mem_cons_of_mem _ hx))
              obtain ⟨g1, g2, g3⟩ := f2 r (mz r (List.mem_cons_self ..))
              show Dt K G (.ref r.1) (decP (TS.code 64 r.2))
              match e : r.2, g2 with
              | [x, y], _ =>
                rw [e] at g1 g3
                have b1 := g3 _ (List.mem_cons_self ..)
                have b2 := g3 _ (List.mem_cons_of_mem _ (List.mem_cons_self ..))
                rw [L2.code_pair]
                unfold decP
                rw [show (x * 64 + y) / 64 = x by omega, show (x * 64 + y) % 64 = y by omega]
                exact .tup g1 (DtA.ofInts [_, _])
          have T := A.fresh hp dd
          exact k _ _ _ (Ex.refl _) T.1 T.2
      · rw [if_neg hl] at hz; cases hz
  · cases hz
theorem ksortU {X : Cx} (K : PySem.W.Frag) (hK : X.K = K) : CallR X (.builtin "sorted") (rSortU K 2 64) := by subst hK; exact cr_sortT (by omega)
/-! ### xs.pop() -/
def mPopL (k : Nat) : M Rv := fun ρ => match heldAt ρ k with
  | some ds => match ds[ds.length - 1]? with
    | some d => .ok (.dat d) (putAt ρ k ds.dropLast)
    | none => .bad
  | none => .bad
theorem DtA.dropLast : ∀ {vs : List V} {ds : List PyData}, DtA K G vs ds → DtA K G vs.dropLast ds.dropLast
  | _, _, .nil => .nil
  | _, _, .cons h .nil => .nil
  | _, _, .cons h (.cons h2 h3) => .cons h (DtA.dropLast (.cons h2 h3))
theorem sx_popL {k : Nat} : SX K mg E (tBM0 K "list" rPop (tVar k)) (mPopL k) := fun B L G σ H ρ Q A w => by
  unfold mPopL at w
  cases z : heldAt ρ k with
  | none => rw [z] at w; exact w.elim
  | some ds =>
    rw [z] at w
    dsimp only at w
    obtain ⟨a, hh, vs, l, d1, g1, b1⟩ := A.held z
    cases q : ds[ds.length - 1]? with
    | none => rw [q] at w; exact w.elim
    | some d =>
      rw [q] at w
      obtain ⟨u, qu, du⟩ := d1.get' q
      refine ⟨.ref a, hh.2, .inl ⟨rfl, vs, SqL.of l⟩, ?_⟩
      refine ⟨a, vs, u, rfl, rfl, l, by rw [d1.length]; exact qu, ?_⟩
      exact w G _ (Ex.refl G) (A.put hh d1.dropLast) u du
/-! ### k not in d -/
def dninD : PyData → PyData → Option PyData
  | .dict es, k => (keyOf k).map fun key => .bool (!(lkE es key).isSome)
  | _, _ => none
def mDNin (mk md : M PyData) : M PyData := mBind mk fun k => mBind md fun d => mOpt (dninD d k)
theorem se_dnin {td tk : TE} {md mk : M PyData} (hk : SE K mg E tk mk) (hd : SE K mg E td md) : SE K mg E (tDNotIn tk td) (mDNin mk md) := fun B L G σ H ρ Q A w => by
  refine hk B L G σ H ρ _ A ((WR.bind w).mono fun G1 H1 ρ1 k e1 A1 k1 y hy => ?_)
  refine hd B L G1 σ H1 ρ1 _ A1 ((WR.bind k1).mono fun G2 H2 ρ2 d e2 A2 k2 x hx => ?_)
  obtain ⟨z, q, k3⟩ := WR.opt k2
  unfold dninD at q
  split at q
  · rename_i es
    obtain ⟨a, kvs, rfl, h1, h2⟩ := hx.dct_inv
    cases qk : keyOf k with
    | none => rw [qk] at q; cases q
    | some key =>
      rw [qk] at q
      cases q
      refine ⟨a, valV kvs key, rfl, .inl ⟨kvs, key, rd_mono A2.exG h1, (key_v hy qk).1, rfl⟩, k3.here A2 _ ?_⟩
      have e : (valV kvs key).isSome = (lkE es key).isSome := by
        rcases h2.lk (k := key) with ⟨q1, q2⟩ | ⟨v, d, q1, q2, _⟩
        · rw [q1, q2]; rfl
        · rw [q1, q2]; rfl
      rw [e]
      exact .bl _
  · cases q
theorem st_tB {t : TE} {m : M PyData} (h : SE K mg E t m) : STt K mg E (tB t) (mB m) := st_B h
end
section
variable {K : PySem.W.Frag} {mg : Str → Option Value} {E : XW} {C : Cn} {G G' H H' : Hp} {σ σ' : L2.St} {ρ ρ' : Env} {D : Ends} {i : Nat} {es : Es} {a : Addr} {kvs : List (Key × V)}
/-! ### beside the frame's own dict -/
/-- a test that reads the dict -/
def pkB (i : Nat) (m : M Bool) : X1 Bool := fun ρ es => match m ((frzE ρ).set i (.dat (.dict es))) with
  | .ok b _ => .ok b ρ
  | .ex x _ => match x.fs with
    | none => .ex x ρ
    | some _ => .bad
  | .bad => .bad
theorem st1_peek {t : TT} {m : M Bool} (h : STt K mg E t m) : ST1 K mg E i t (pkB i m) := fun B L G σ H ρ es a kvs Q A w => by
  obtain ⟨G0, eG, A0, g0, hh⟩ := A.read
  refine h B L G0 σ H _ Q A0 ?_
  unfold pkB at w
  cases q : m ((frzE ρ).set i (.dat (.dict es))) with
  | bad => rw [q] at w; exact w
  | ex x ρ2 =>
    rw [q] at w
    intro G2 H2 cls da e2 A2 X2
    dsimp only at w
    obtain ⟨e3, A3, _, _⟩ := A.back eG g0 hh e2 A2
    cases z : x.fs with
    | some fs => rw [z] at w; exact w.elim
    | none =>
      rw [z] at w
      refine w _ H2 cls da e3 A3.out.1 ⟨X2.1, ?_⟩
      have := X2.2
      rw [z] at this ⊢
      exact this
  | ok b ρ2 =>
    rw [q] at w
    intro G2 H2 e2 A2
    obtain ⟨e3, A3, _, _⟩ := A.back eG g0 hh e2 A2
    exact w _ H2 a kvs e3 A3
/-- xs.append(e), xs held -/
def s1App (i k : Nat) (m : M PyData) : S1 := fun ρ es => if (heldAt ρ k).isSome = true then match m ρ with
  | .ok d ρ1 => match heldAt ρ1 k with
    | some ds => if (small ds.length && isUn (putAt ρ1 k (ds ++ [d])) i) = true then .nx (putAt ρ1 k (ds ++ [d])) es else .bad
    | none => .bad
  | .ex x ρ1 => .ex x ρ1
  | .bad => .bad else .bad
theorem ss1_app {t : TE} {m : M PyData} {k : Nat} (h : SE K mg E t m) : SS1 K mg E i (tDrop (tBM K "list" rAppend (tVar k) (tCons t tNil))) (s1App i k m) := fun B L G σ H ρ es a kvs D A w => by
  unfold s1App at w
  by_cases z : (heldAt ρ k).isSome = true
  · rw [if_pos z] at w
    obtain ⟨ds0, z⟩ := Option.isSome_iff_exists.mp z
    obtain ⟨b, hh, vs0, l0, _⟩ := A.ab.held z
    refine ⟨.ref b, hh.2, .inl ⟨rfl, vs0, SqL.of l0⟩, ?_⟩
    refine h (inB ⟨K, mg, B, L⟩ a kvs).B L G σ H ρ _ A.ab ?_
    cases q : m ρ with
    | bad => rw [q] at w; exact w
    | ex x ρ1 =>
      rw [q] at w
      exact fun G1 H1 cls da e1 A1 X1 => w G1 σ H1 cls da e1 (Ab.unframe (C := ⟨K, mg, B, L⟩) A1 A.bn A.sc).1 X1
    | ok d ρ1 =>
      rw [q] at w
      intro G1 H1 e1 A1 y hy
      dsimp only at w
      show rAppend (.ref b) [y] H1 fun _ H2 => D.nx σ H2
      cases q1 : heldAt ρ1 k with
      | none => rw [q1] at w; exact w.elim
      | some ds =>
        rw [q1] at w
        dsimp only at w
        by_cases q2 : (small ds.length && isUn (putAt ρ1 k (ds ++ [d])) i) = true
        · rw [if_pos q2] at w
          rw [Bool.and_eq_true] at q2
          obtain ⟨c, hb, vs, l, d1, g1, b1⟩ := A1.held q1
          obtain rfl := hold_same hb hh.2
          refine ⟨c, vs, y, rfl, rfl, l, by rw [d1.length]; exact small_lt q2.1, ?_⟩
          exact w G1 σ _ a kvs e1 ⟨A1.put hb (d1.append (.cons hy .nil)), isUn_inv q2.2, A.at_, A.bn, A.dk.mono e1, A.sc⟩
        · rw [if_neg q2] at w; exact w.elim
  · rw [if_neg z] at w; exact w.elim
/-- d.setdefault(k, x) -/
def s1Setd (i : Nat) (mk mx : M PyData) : S1 := t1 (l1 i mk) fun kd ρ1 es => t1 (l1 i mx) (fun xd ρ2 es => match keyOf kd with
  | some key => if small es.length = true then match lkE es key with
    | some _ => .nx ρ2 es
    | none => .nx ρ2 (putE es key xd) else .bad
  | none => .bad) ρ1 es
theorem ss1_setd {tk tx : TE} {mk mx : M PyData} (hk : SE K mg E tk mk) (hx : SE K mg E tx mx) : SS1 K mg E i (tDrop (tDSetd (tVar i) tk tx)) (s1Setd i mk mx) := fun B L G σ H ρ es a kvs D A w => by
  obtain ⟨A0, h0, g0, n0⟩ := A.out
  refine ⟨.ref a, A.at_, a, rfl, .inl ⟨kvs, .inl h0⟩, ?_⟩
  have w1 := WS1.thn (σ := σ) w
  refine hk _ L G σ H ρ _ A.ab ((w1.lift A).mono fun G1 H1 ρ1 kd e1 A1 k1 y hy => ?_)
  obtain ⟨AD1, k1⟩ := k1
  have w2 := WS1.thn (σ := σ) k1
  refine hx _ L G1 σ H1 ρ1 _ A1 ((w2.lift AD1).mono fun G2 H2 ρ2 xd e2 A2 k2 z hz => ?_)
  obtain ⟨AD2, k2⟩ := k2
  cases qk : keyOf kd with
  | none => rw [qk] at k2; exact k2.elim
  | some key =>
    rw [qk] at k2
    dsimp only at k2
    by_cases qs : small es.length = true
    · rw [if_pos qs] at k2
      obtain ⟨A6, h6, g6, n6⟩ := AD2.out
      refine ⟨kvs, key, h6, (key_v hy qk).1, by rw [AD2.dk.len]; exact small_lt qs, fun v hv => ?_, fun hv => ?_⟩
      · rcases AD2.dk.lk (k := key) with ⟨q1, q2⟩ | ⟨v', d', q1, q2, _⟩
        · rw [q1] at hv; cases hv
        · rw [q2] at k2
          exact k2.nx' AD2
      · rcases AD2.dk.lk (k := key) with ⟨q1, q2⟩ | ⟨v', d', q1, q2, _⟩
        · rw [q2] at k2
          have A7 : Ab ⟨K, mg, B, L⟩ G2 σ (upd H2 a (.dK (putK kvs key z))) ρ2 := A6.other h6 g6 AD2.bn n6
          exact k2.nx' (a := a) (kvs := putK kvs key z) ⟨A7.frame upd_same g6 AD2.bn n6, AD2.un, AD2.at_, AD2.bn, AD2.dk.put hz, AD2.sc⟩
        · rw [q1] at hv; cases hv
    · rw [if_neg qs] at k2; exact k2.elim
/-- while -/
def wloop1 (c : X1 Bool) (f : S1) : Nat → S1
  | 0 => fun _ _ => .bad
  | n + 1 => t1 c fun b ρ1 es1 => if b = true then match f ρ1 es1 with
      | .nx ρ2 es2 => wloop1 c f n ρ2 es2
      | .ct ρ2 es2 => wloop1 c f n ρ2 es2
      | .bk ρ2 es2 => .nx ρ2 es2
      | .rt r ρ2 => .rt r ρ2
      | .ex x ρ2 => .ex x ρ2
      | .bad => .bad else .nx ρ1 es1
theorem ss1_while {c : TT} {tb : TS} {mc : X1 Bool} {f : S1} (n : Nat) (hc : ST1 K mg E i c mc) (hb : SS1 K mg E i tb f) : SS1 K mg E i (tWhile c tb) (wloop1 mc f n) := fun B L G σ H ρ es a kvs D A w => by
  refine ⟨fun n σ' H' => ∃ G' ρ' es' a' k', AbD ⟨K, mg, B, L⟩ G' σ' H' ρ' i es' a' k' ∧ WS1 ⟨K, mg, B, L⟩ E G' i D (wloop1 mc f n ρ' es'), ⟨n, G, ρ, es, a, kvs, A, w⟩, ?_⟩
  rintro n σ' H' ⟨G', ρ', es', a', k', A', w'⟩
  cases n with
  | zero => exact w'.elim
  | succ n =>
    refine hc B L G' σ' H' ρ' es' a' k' _ A' ?_
    have w1 := WS1.thn (σ := σ') (m := mc) w'
    refine w1.mono fun G1 H1 ρ1 a1 k1 b e1 A1 k => ?_
    cases b with
    | false => exact k.nx' A1
    | true =>
      refine ⟨fun σ2 H2 => ∃ G2 ρ2 es2 a2 k2, AbD ⟨K, mg, B, L⟩ G2 σ2 H2 ρ2 i es2 a2 k2 ∧ WS1 ⟨K, mg, B, L⟩ E G2 i D (wloop1 mc f n ρ2 es2), fun σ2 H2 h => ⟨n, Nat.lt_succ_self n, h⟩, ?_⟩
      refine hb B L G1 σ' H1 ρ1 es' a1 k1 _ A1 ?_
      have k : WS1 ⟨K, mg, B, L⟩ E G1 i D (match f ρ1 es' with
        | .nx ρ2 es2 => wloop1 mc f n ρ2 es2
        | .ct ρ2 es2 => wloop1 mc f n ρ2 es2
        | .bk ρ2 es2 => .nx ρ2 es2
        | .rt r ρ2 => .rt r ρ2
        | .ex x ρ2 => .ex x ρ2
        | .bad => .bad) := k
      cases q2 : f ρ1 es' with
      | nx ρ3 es3 => rw [q2] at k; exact fun G4 σ4 H4 a4 k4 e4 A4 => ⟨G4, ρ3, es3, a4, k4, A4, k.grow e4⟩
      | ct ρ3 es3 => rw [q2] at k; exact fun G4 σ4 H4 a4 k4 e4 A4 => ⟨G4, ρ3, es3, a4, k4, A4, k.grow e4⟩
      | bk ρ3 es3 => rw [q2] at k; exact k
      | rt r ρ3 => rw [q2] at k; exact k
      | ex x ρ3 => rw [q2] at k; exact k
      | bad => rw [q2] at k; exact k.elim
end
end Hue
-- Mk0
namespace Hue
open PySem PySem.Spec PyProof.Rows L2
open Evl (Ex)
open L2H

/-! ### the text of marks, read once -/
def tIs (K : PySem.W.Frag) (D a : Addr) (c : V) : TE := tCB (rIsE K D a) (tCons (tVar 0) (tCons (tC c) tNil))
theorem is_read {K : PySem.W.Frag} {D a : Addr} {c : V} {cv : Value} {b : Bool} {σ : L2.St} {H : Hp} {Q : VK} (h0 : σ[0]? = some (some (.ref a))) (hc : ∀ u, RelV c u → u = cv) (hk : PySem.W.kitOne K (.ref D) cv = some b) (q : Q (.bl b) H) : tIs K D a c σ H Q :=
  ⟨.ref a, h0, c, cv, b, rfl, hc, hk, q⟩
theorem ref_only {C : Addr} : ∀ u, RelV (.ref C) u → u = .ref C := fun u h => by cases h; rfl
theorem ty_only {T : String} : ∀ u, RelV (.ty T) u → u = .type T := fun u h => by cases h; rfl
theorem idx_true : ∀ bs : List Bool, true ∈ bs → bs[bs.idxOf true]? = some true ∧ ∀ (m : Nat) (z : Bool), m < bs.idxOf true → bs[m]? = some z → z = false
  | [], h => by cases h
  | true :: r, _ => ⟨by simp, fun m z h => by simp at h⟩
  | false :: r, h => by
    have h' : true ∈ r := by
      rcases List.mem_cons.mp h with e | e
      · cases e
      · exact e
    obtain ⟨h1, h2⟩ := idx_true r h'
    have e : (false :: r).idxOf true = r.idxOf true + 1 := by simp [List.idxOf_cons]
    rw [e]
    refine ⟨by simpa using h1, fun m z hm hz => ?_⟩
    cases m with
    | zero => simp at hz; exact hz
    | succ m => exact h2 m z (by omega) (by simpa using hz)
theorem dp_bools {K : PySem.W.Frag} {H : Hp} : ∀ bs : List Bool, DpAll K H (bs.map V.bl) (bs.map PyData.bool)
  | [] => .nil
  | b :: r => .cons (.bl b) (dp_bools r)
theorem shp_bools : ∀ bs : List Bool, PyData.canLayAll0 (bs.map PyData.bool) = true ∧ PyData.depthAll (bs.map PyData.bool) = 0
  | [] => ⟨rfl, rfl⟩
  | b :: r => by
    obtain ⟨h1, h2⟩ := shp_bools r
    rw [List.map_cons, PyData.canLayAll0, PyData.depthAll, h1, h2]
    exact ⟨rfl, rfl⟩
theorem shaped_bools (bs : List Bool) : SeqAt.shaped (.list (bs.map PyData.bool)) = true := by
  unfold SeqAt.shaped
  rw [PyData.canLay0, (shp_bools bs).1, PyData.depth, (shp_bools bs).2]
  rfl
theorem count_bools (bs : List Bool) : (bs.map PyData.bool).countP (fun z => PyData.eqv z (.bool true)) = bs.countP (· == true) := by
  rw [List.countP_map]
  refine List.countP_congr fun b _ => ?_
  show (PyData.eqv (.bool b) (.bool true) = true) ↔ _
  cases b <;> decide
theorem no_if {A B : Prop} (h : B) : if (!true) = true then A else B := by
  rw [if_neg (by decide)]
  exact h
theorem no_if0 {A B : Prop} (h : B) : if false = true then A else B := by
  rw [if_neg (by decide)]
  exact h
theorem kit_ref {K : PySem.W.Frag} {D C : Addr} {b : Bool} (h1 : PySem.W.isClsIn K C = true) (h2 : PySem.W.typeIn K (.ref C) = some (.type "type")) (h3 : PySem.W.subIn K (.ref D) (.ref C) = some b) (h0 : D = C → b = true) : PySem.W.kitOne K (.ref D) (.ref C) = some b := by
  unfold PySem.W.kitOne
  by_cases q : D = C
  · rw [if_pos (by rw [q]; exact beq_self_eq_true _), h0 q]
  · rw [if_neg (fun z => q (Value.ref.inj (beq_iff_eq.mp z)))]
    show (if ((PySem.W.clsIn K C).isSome && PySem.W.typeIn K (.ref C) == some (.type "type")) = true then PySem.W.subIn K (.ref D) (.ref C) else none) = _
    have e : (PySem.W.clsIn K C).isSome = true := h1
    rw [e, h2, if_pos (by rfl), h3]
theorem kit_refT {K : PySem.W.Frag} {D : Addr} {T : String} {b : Bool} (h1 : PySem.W.kitMeta T = true) (h3 : PySem.W.subIn K (.ref D) (.type T) = some b) : PySem.W.kitOne K (.ref D) (.type T) = some b := by
  unfold PySem.W.kitOne
  rw [if_neg (fun z => by cases beq_iff_eq.mp z)]
  show (if PySem.W.kitMeta T = true then PySem.W.subIn K (.ref D) (.type T) else none) = _
  rw [if_pos h1, h3]
end Hue
-- Hue28
namespace Hue
open PySem PySem.Spec PyProof.Rows L2
open Evl (Ex)
/-! ### a caught error whose name is a cell -/
section
variable {X : Cx} {pins : List (Addr × Obj)} {σ : L2.St} {H : Hp} {s : Shared}
/-- a cell of this frame's own is emptied -/
theorem Inv.empty {i : Nat} {n : Str} {c : Addr} {v : Option Value} {h2 : Heap} (J : Inv X pins σ H s) (nd : X.N.Nodup) (at_ : X.N[i]? = some n) (own : X.fn n = true) (hc : X.env.cells.lookup n = some c) (old : s.heap.IsCell c v) (new : h2.IsCell c none) (sb : Heap.SameBut c s.heap h2) :
    Inv X pins (σ.set i none) H { s with heap := h2 } := by
  have far : ∀ {b : Addr} {o : Obj}, X.s_0.heap.get? b = some o → b ≠ c := fun e => Nat.ne_of_lt (Nat.lt_of_lt_of_le (Heap.lt_size e) (J.ok.cab n c own hc))
  obtain ⟨oc, go, gd⟩ := id old
  obtain ⟨m, hm, look⟩ := id J.loc
  have nc : H c = none := J.freeC n c hc
  refine { ok := J.ok, os := J.os, bare := J.bare, base := ?_, loc := ⟨m, hm.sameBut sb (Ne.symm (J.cne n c hc)), ?_⟩, cell := ?_, free := J.free, freeC := J.freeC, pin := ?_, hok := ?_, len := by rw [List.length_set]; exact J.len }
  · have B := J.base
    exact { keep := fun b o e q1 q2 q3 => (sb.2 b (far e)).trans (B.keep b o e q1 q2 q3), slot := fun b o e q1 q2 q3 => (B.slot b o e q1 q2 q3).imp fun sl z => (sb.2 b (far e)).trans z, free := B.free, there := fun b o e q => (B.there b o e q).imp fun o2 z => (sb.2 b (far e)).trans z, tups := B.tups, frzs := B.frzs, tbls := B.tbls }
  · intro j y w e1 e2 e3
    have ji : j ≠ i := fun z => by
      subst z
      by_cases q : j < σ.length
      · rw [List.getElem?_set_self q] at e2; cases e2
      · rw [List.getElem?_eq_none (by rw [List.length_set]; omega)] at e2; cases e2
    rw [List.getElem?_set_ne (Ne.symm ji)] at e2
    obtain ⟨u, ru, q⟩ := look j y w e1 e2 e3
    refine ⟨u, ru, q.imp id fun ⟨k, c2, f1, f2⟩ => ⟨k, c2, f1, f2.sameBut sb fun z => ?_⟩⟩
    subst z
    exact ji (nodup_ix nd e1 (J.ok.inj _ _ _ f1 hc ▸ at_))
  · intro y c2 e
    by_cases z : c2 = c
    · subst z; exact ⟨none, new⟩
    · exact (J.cell y c2 e).imp fun w q => q.sameBut sb z
  · intro q hq
    obtain ⟨e, a1, a2, a3, a4⟩ := J.pin q hq
    refine ⟨(sb.2 q.1 fun z => ?_).trans e, a1, a2, a3, a4⟩
    rw [z, go] at e
    cases e
    exact a4 v gd
  · intro b ob e
    refine (J.hok b ob e).stay (fun d u hd q => (sb.2 d fun z => ?_).trans q) (fun _ q => q) fun _ _ q => q
    subst z
    rcases hd with hd | hd
    · rw [← hd, nc] at e; cases e
    · rw [nc] at hd; cases hd
theorem goneC {M : Model} {A : Around} {E : Value → Shared → Prop} {i : Nat} {n : Str} {pos : Pos} {Q : Unit → Shared → Prop} (J : Inv X pins σ H s) (nd : X.N.Nodup) (at_ : X.N[i]? = some n) (ck : X.env.kindOf n = some .cell) (own : X.fn n = true)
    (k : ∀ t, Inv X pins (σ.set i none) H t → Q () t) : wpAny M A (do bindName X.env n .none; unbindBehindTheSuite X.env n pos) Q E s := by
  refine wpAny_bind (wpAny_bindName (store_ok (v := .non) J nd at_ (.inr ck) rfl (fun t1 J1 => ?_) (.inl own)))
  obtain ⟨c, hc⟩ := J1.ok.has n (.inl ck)
  obtain ⟨v, old⟩ := J1.cell n c hc
  have li : i < σ.length := by rw [J.len]; exact (List.getElem?_eq_some_iff.mp at_).1
  obtain ⟨m, hm, look⟩ := id J1.loc
  obtain ⟨u, ru, q⟩ := look i n .non at_ (List.getElem?_set_self li) (.inr (.inl ck))
  have full : ∃ w, v = some w := by
    rcases q with ⟨kl, _⟩ | ⟨_, c2, f1, f2⟩
    · rw [ck] at kl; cases kl
    · rw [hc] at f1; cases f1
      obtain ⟨o1, g1, d1⟩ := old
      obtain ⟨o2, g2, d2⟩ := f2
      rw [g1] at g2; cases g2
      rw [d1] at d2; cases d2
      exact ⟨u, rfl⟩
  obtain ⟨w, rfl⟩ := full
  unfold unbindBehindTheSuite
  refine wpAny_onRaise ?_
  unfold unbindName
  refine wpAny_bind (wpAny_point (wpAny_bind ?_))
  unfold deleteName
  rw [ck]
  refine wpAny_bind (wpAny_cellOf hc (wpAny_bind (wpAny_cellGet old ?_)))
  show wpAny _ _ (cellSet c none) _ _ _
  refine wpAny_cellSet old fun h2 new sb => wpAny_point (k _ ?_)
  have := Inv.empty J1 nd at_ own hc old new sb
  rwa [List.set_set] at this
end
section
open L2N
variable {X : Cx} {x n : Str} {c : Value} {i : Nat} {body suite : List Stmt} {st0 : Stmt} {np pos pos' : Pos} {tb : WX → TS} {ts : Addr → Value → Option Addr → TS}
/-- what a clause that takes all that comes wishes -/
def wAll (K : PySem.W.Frag) (c : Value) (i : Nat) (ts : Addr → Value → Option Addr → TS) (D : Ends) : WX := fun cls d σ H => PySem.W.exmOne K cls c = some true ∧ ∀ a, H a = none → ts a cls d { nx := fun σ' H' => D.nx (σ'.set i none) H', rt := D.rt, bk := fun σ' H' => D.bk (σ'.set i none) H', ct := fun σ' H' => D.ct (σ'.set i none) H' } (σ.set i (some (.ref a))) H
theorem ps_tryC (hs : X.stack = X.env :: X.outer) (hf : X.env.frame = some X.env.locals) (nd : X.N.Nodup) (at_ : X.N[i]? = some n) (ck : X.env.kindOf n = some .cell) (own : X.fn n = true) (hc : Names X x c)
    (hb : ∀ (W : WX) (pn : List (Addr × Obj)) (xe : Value → Shared → Prop), L2N.Takes (X.tr pn xe) W → PassesOwn (model X.prog X.w) X.A X.env xe → PSs (X.tr pn xe) body (tb W))
    (hsu : ∀ (a : Addr) (oe : Obj) (cls : Value) (d : Option Addr) (pn : List (Addr × Obj)), Zn cls d oe → (∃ vs, oe.data = .fields vs) → PSs (X.suite a ((a, oe) :: pn)) (st0 :: suite) (ts a cls d)) :
    PS X (.Try body [.ExceptHandler (some (.Name x np)) (some n) (st0 :: suite) pos'] [] [] pos) (fun D σ H => tb (wAll X.K c i ts D) D σ H) := by
  constructor
  intro pins s σ H D J h
  have okX := J.ok
  have frA : X.A.frames = some (X.env :: X.outer) := okX.frames.trans (congrArg some hs)
  refine wpAny_Try_except ?_
  refine wpAny_mono ((hb (wAll X.K c i ts D) (X.pn ++ pins) (fun e t1 => wpAny (model X.prog X.w) X.A (noteFrame e X.env) (fun _ t2 => wpAny (model X.prog X.w) X.A (setFlight e none) (fun _ t3 => wpAny (model X.prog X.w) X.A (handleBy e X.env [.ExceptHandler (some (.Name x np)) (some n) (st0 :: suite) pos']) (SP X pins D) X.xe t3) X.xe t2) X.xe t1) ?caught PassesOwn.looking).run [] s σ H D (J.toTry _) h) ?through fun _ _ z => z
  case through =>
    intro f t1 r
    cases f with
    | next => obtain ⟨σ1, H1, J1, q1⟩ := r; exact wpAny_execs_nil ⟨σ1, H1, J1.ofTry okX, q1⟩
    | brk => obtain ⟨σ1, H1, J1, q1⟩ := r; exact ⟨σ1, H1, J1.ofTry okX, q1⟩
    | cont => obtain ⟨σ1, H1, J1, q1⟩ := r; exact ⟨σ1, H1, J1.ofTry okX, q1⟩
    | ret u => obtain ⟨v1, σ1, H1, J1, r1, q1⟩ := r; exact ⟨v1, σ1, H1, J1.ofTry okX, r1, q1⟩
  case caught =>
    rintro u t ⟨a, B, sI, pins1, σ1, H1, cls, d, rfl, J0, away, upTo, air, free, os, bare, isC, then_⟩
    have J1 : Inv X pins σ1 H1 sI := J0.ofTry okX
    have air1 : Sky B (X.env :: X.outer) a (Zn cls d) X.env.locals t.heap := hs ▸ air
    show wpAny (model X.prog X.w) X.A (noteFrame (.ref a) X.env) _ _ _
    refine L2N.Sky.land Zn.steady frA hf air1 fun g1 fly1 up1 => ?_
    have K1 : Inv X pins σ1 H1 { t with heap := g1 } := J1.landed away fly1.1 (upTo.trans up1) os bare
    obtain ⟨o1, vs1, got1, z1, fd1⟩ := fly1.there
    have noFrame : a ∉ frs (X.env :: X.outer) := fun mem => by
      obtain ⟨_, o2, got2, nof⟩ := fly1.2.2.1.mem mem
      cases got1.symm.trans got2
      exact nof _ fd1
    have nLoc : a ≠ X.env.locals := fun z => noFrame (List.mem_filterMap.mpr ⟨X.env, List.mem_cons_self, z ▸ hf⟩)
    have nOut : a ∉ X.fs := fun mem => let ⟨e, he, q⟩ := List.mem_filterMap.mp mem; noFrame (List.mem_filterMap.mpr ⟨e, List.mem_cons_of_mem _ he, q⟩)
    have T1 := K1.suite got1 fd1 free nLoc nOut
    refine wpAny_handleBy_cons (codeAny_handlers_test ?_) fun z => nomatch z
    have kind1 : PySem.W.Looks (model X.prog X.w) g1 (typeOf (.ref a)) cls := fun A Q E s k q => wpAny_typeOf_ref (k _ _ got1) (z1.1 ▸ q)
    have match1 := PySem.W.exm_one (M := model X.prog X.w) K1.kIn kind1 isC
    have named : ∀ {Q : Value → Shared → Prop} {E : Value → Shared → Prop}, Q c { t with heap := g1 } → wpAny (model X.prog X.w) (X.A.mark (some (.ref a))) (eval (.Name x np) X.env) Q E { t with heap := g1 } := fun {Q E} q => by
      obtain ⟨gl, nodb, hm | ⟨hm, hv, nn⟩⟩ := hc
      · exact ld_glob (X := X.suite a ((a, o1) :: (X.pn ++ pins))) T1 gl hm q nodb
      · exact ld_blt (X := X.suite a ((a, o1) :: (X.pn ++ pins))) T1 gl hm hv q nn nodb
    refine named (match1.here ?_)
    refine codeAny_handlers_suite_as (HandSPX.lands_againZ fly1 fun g2 fly2 up2 => ?_)
    have K2 : Inv X pins σ1 H1 { t with heap := g2 } := J1.landed away fly2.1 ((upTo.trans up1).trans up2) os bare
    obtain ⟨o2, vs2, got2, z2, fd2⟩ := fly2.there
    refine store_ok (X := X.suite a ((a, o2) :: (X.pn ++ pins))) (v := .ref a) (K2.suite got2 fd2 free nLoc nOut) nd at_ (.inr ck) rfl (fun t2 T2 => ?_) (.inl own)
    refine wpAny_mono ((hsu a o2 cls d (X.pn ++ pins) z2 ⟨_, fd2⟩).run [] t2 _ H1 _ T2 (then_ a free)) ?_ fun _ _ z => z.elim
    intro f t3 r
    have bye : ∀ {σ3 : L2.St} {H3 : Hp} {Q : Shared → Prop}, Inv (X.suite a ((a, o2) :: (X.pn ++ pins))) [] σ3 H3 t3 → (∀ t4, Inv X pins (σ3.set i none) H3 t4 → Q t4) → wpAny (model X.prog X.w) X.A (do bindName X.env n .none; unbindBehindTheSuite X.env n pos') (fun _ t4 => Q t4) X.xe t3 := fun T3 k => goneC (T3.unsuite okX) nd at_ ck own k
    cases f with
    | next => obtain ⟨σ3, H3, T3, q3⟩ := r; exact bye T3 fun t4 J4 => ⟨_, _, J4, q3⟩
    | brk => obtain ⟨σ3, H3, T3, q3⟩ := r; exact bye T3 fun t4 J4 => ⟨_, _, J4, q3⟩
    | cont => obtain ⟨σ3, H3, T3, q3⟩ := r; exact bye T3 fun t4 J4 => ⟨_, _, J4, q3⟩
    | ret u => obtain ⟨v3, σ3, H3, T3, r3, q3⟩ := r; exact bye T3 fun t4 J4 => ⟨_, _, _, J4, r3, q3⟩
end
end Hue
-- Hue29
namespace Hue
open PySem PySem.Spec PyProof.Rows L2 L2H
open Evl (Ex)
/-! ### [e for x in range(..) if ..] while an error is handled -/
/-- the block's context, in which the handled error is known -/
abbrev blkP (X : Cx) (q : Addr × Obj) (s : Shared) (H : Hp) (scope : Scope) (ce : PySem.Env) (fp : List Addr) : Cx := { X.blk s H scope ce fp with pn := [q] }
section
variable {X : Cx} {pins : List (Addr × Obj)} {σ : L2.St} {H : Hp} {s : Shared} {q : Addr × Obj}
theorem blkP_of {sc : Scope} {ce : PySem.Env} {fp : List Addr} {s0 : Shared} {H0 : Hp} {ps : List (Addr × Obj)} (J : Inv (X.blk s0 H0 sc ce fp) ps σ H s) (hq : s.heap.get? q.1 = some q.2 ∧ H q.1 = none ∧ q.1 ≠ ce.locals ∧ q.1 ∉ (X.blk s0 H0 sc ce fp).fs ∧ ∀ v, q.2.data ≠ .cell v) : Inv (blkP X q s0 H0 sc ce fp) ps σ H s where
  ok := ⟨J.ok.mod, J.ok.kind, J.ok.glob, J.ok.blt, J.ok.above, J.ok.inj, J.ok.has, J.ok.cab, J.ok.hd, J.ok.frames, J.ok.stk, J.ok.exf, J.ok.bs, J.ok.bsz, J.ok.noex, J.ok.exfs, J.ok.funs, J.ok.frf⟩
  os := J.os
  bare := J.bare
  base := J.base
  loc := J.loc
  cell := J.cell
  free := J.free
  freeC := J.freeC
  pin := fun p hp => by
    rcases List.mem_append.mp hp with z | z
    · rw [List.mem_singleton.mp z]; exact hq
    · exact J.pin p (List.mem_append_right _ z)
  hok := J.hok
  len := J.len
theorem blkP_to {sc : Scope} {ce : PySem.Env} {fp : List Addr} {s0 : Shared} {H0 : Hp} {ps : List (Addr × Obj)} (J : Inv (blkP X q s0 H0 sc ce fp) ps σ H s) : Inv (X.blk s0 H0 sc ce fp) ps σ H s where
  ok := ⟨J.ok.mod, J.ok.kind, J.ok.glob, J.ok.blt, J.ok.above, J.ok.inj, J.ok.has, J.ok.cab, J.ok.hd, J.ok.frames, J.ok.stk, J.ok.exf, J.ok.bs, J.ok.bsz, J.ok.noex, J.ok.exfs, J.ok.funs, J.ok.frf⟩
  os := J.os
  bare := J.bare
  base := J.base
  loc := J.loc
  cell := J.cell
  free := J.free
  freeC := J.freeC
  pin := fun p hp => J.pin p (List.mem_append_right _ (show p ∈ ps from hp))
  hok := J.hok
  len := J.len
end
section
variable {X : Cx} {q : Addr × Obj}
theorem pe_lcH {elt tg iter : Expr} {ifs : List Expr} {scope : Scope} {own : List (Str × Nat)} {pos : Pos} {wi : TI} {g : TG} {tt : TT} {te : TE} (hot : Hot1 X.A q) (hq : q ∈ X.pn) (nd : X.N.Nodup) (hi : PIH X tg iter wi) (ok : BlkOk X.N X.env.scope scope own)
    (hg : ∀ (s : Shared) (H : Hp) (C : Addr) (cl : List (Str × Addr)) (fp : List Addr), PG (blkP X q s H scope (compEnvC scope cl C X.env) fp) tg g)
    (ht : ∀ (s : Shared) (H : Hp) (C : Addr) (cl : List (Str × Addr)) (fp : List Addr), PTs (blkP X q s H scope (compEnvC scope cl C X.env) fp) ifs tt)
    (he : ∀ (s : Shared) (H : Hp) (C : Addr) (cl : List (Str × Addr)) (fp : List Addr), PE (blkP X q s H scope (compEnvC scope cl C X.env) fp) elt te)
    (fold : ∀ x, foldedSetIterable iter X.env x = pure x := by intro _; rfl) : PE X (.ListComp elt [⟨tg, iter, ifs, 0⟩] scope pos) (tLc wi g tt te (own.map (·.2))) := by
  constructor
  intro pins s σ H Q J w
  rw [eval_ListComp]
  have fr : ∀ y ∈ scope.names, y.2 = .free → ∃ c, X.env.cells.lookup y.1 = some c := fun y hy e => (ok.free y hy e).elim (fun k => J.ok.has _ (.inl k)) fun k => J.ok.has _ (.inr k)
  refine wpAny_comprehension_free rfl fold (closure_ok fr) ok.kind (fun y hy e => (ok.uniq y hy).trans (congrArg some e)) (thn (hi.run pins s σ H _ J w) fun iv t1 k1 => thn k1 fun itv t2 k2 => ?_)
  obtain ⟨it, fp, tn, It, G2, rfl, J2, T, a2, f2, more⟩ := k2
  refine wpAny_newObj_type (newEnv_comp ?_) (Nat.zero_le _)
  -- the list that is made
  generalize eL : t2.heap.objs.size = L
  have noL : G2 L = none := J2.hok.fresh (Nat.le_of_eq eL)
  obtain ⟨W, ⟨m0, w0⟩, turn⟩ := more L noL
  generalize e3 : ({ t2 with heap := t2.heap.push { cls := .type "list", data := .seq ([] : List Value).toArray } } : Shared) = t3
  have h3 : t3.heap = t2.heap.push { cls := .type "list", data := .seq ([] : List Value).toArray } := e3 ▸ rfl
  have J3 : Inv X pins σ (upd G2 L (.lst [])) t3 := by
    rw [← e3]
    exact J2.laid (t' := t2.toks) (fun b o z => Heap.get?_push_of_some _ z) (Nat.le_of_eq eL) ⟨Nat.zero_le _, [], 0, .nil, eL ▸ Heap.get?_push_size _ rfl⟩
  have f3 : ∀ b ∈ fp, FpOk X pins (upd G2 L (.lst [])) b ∧ b < t3.heap.objs.size := fun b hb => by
    obtain ⟨o, z, _⟩ := T.obj _ _ a2 b hb
    have lt := Heap.lt_size z
    refine ⟨⟨?_, (f2 b hb).2⟩, by rw [h3, Heap.size_push]; exact Nat.lt_succ_of_lt lt⟩
    rw [upd_ne (by rw [← eL]; exact Nat.ne_of_lt lt)]
    exact (f2 b hb).1
  have a3 : tn 0 t3.heap := T.keep _ _ _ a2 fun b _ o z => by rw [h3]; exact Heap.get?_push_of_some _ z
  have J4 := block_start J3 ok nd f3
  obtain ⟨pg1, pg2, pg3, pg4, pg5⟩ := J3.pin q (List.mem_append_left _ hq)
  show codeAny _ _ (.compStart (.ListComp elt [⟨tg, iter, ifs, 0⟩] scope pos) 0 (.ref it) (.ref L) (compEnvC scope (cellsFrom (t3.heap.objs.size + 1) scope.names (cloFrom X.env.cells scope.names [])) t3.heap.objs.size X.env)) _ { t3 with heap := pushCells (t3.heap.push { cls := .type "dict", data := .dict #[] }) scope.names }
  have Pg := hg t3 (upd G2 L (.lst [])) t3.heap.objs.size (cellsFrom (t3.heap.objs.size + 1) scope.names (cloFrom X.env.cells scope.names [])) fp
  have Pt := ht t3 (upd G2 L (.lst [])) t3.heap.objs.size (cellsFrom (t3.heap.objs.size + 1) scope.names (cloFrom X.env.cells scope.names [])) fp
  have Pe := he t3 (upd G2 L (.lst [])) t3.heap.objs.size (cellsFrom (t3.heap.objs.size + 1) scope.names (cloFrom X.env.cells scope.names [])) fp
  generalize ec : compEnvC scope (cellsFrom (t3.heap.objs.size + 1) scope.names (cloFrom X.env.cells scope.names [])) t3.heap.objs.size X.env = ce at J4 Pg Pt Pe ⊢
  have loc : ce.locals = t3.heap.objs.size := ec ▸ rfl
  have n3 : ∀ b ∈ fp, upd G2 L (.lst []) b = none := fun b hb => (f3 b hb).1.1
  generalize e5 : ({ t3 with heap := pushCells (t3.heap.push { cls := .type "dict", data := .dict #[] }) scope.names } : Shared) = t4 at J4 ⊢
  have keep4 : ∀ b o, t3.heap.get? b = some o → t4.heap.get? b = some o := fun b o z => by rw [← e5]; exact pushCells_keeps _ _ _ _ (Heap.get?_push_of_some _ z)
  have a4 : tn 0 t4.heap := T.keep _ _ _ a3 fun b _ o z => keep4 b o z
  generalize upd G2 L (.lst []) = G3 at J3 J4 Pg Pt Pe w0 n3 f3 pg2
  have qfp : q.1 ∉ fp := fun z => (f3 _ z).1.2.2.2.2.2 q (List.mem_append_left _ hq) rfl
  have qfs : q.1 ∉ (X.blk t3 G3 scope ce fp).fs := fun z => by
    rcases J3.ok.stk with z1 | ⟨z1, z2⟩
    · exact pg4 (show q.1 ∈ frs X.outer from z1 ▸ (show q.1 ∈ frs X.stack from z))
    · have z : q.1 ∈ frs X.stack := z
      rw [z1] at z
      obtain ⟨e, he2, z3⟩ := List.mem_filterMap.mp z
      rcases List.mem_cons.mp he2 with rfl | z4
      · exact pg3 (Option.some.inj (z3.symm.trans z2))
      · exact pg4 (List.mem_filterMap.mpr ⟨e, z4, z3⟩)
  have K4 : Inv (blkP X q t3 G3 scope ce fp) [] (wipe σ (own.map (·.2))) G3 t4 := blkP_of J4 ⟨keep4 _ _ pg1, pg2, by rw [loc]; exact Nat.ne_of_lt (Heap.lt_size pg1), qfs, pg5⟩
  have hotY : HotC (blkP X q t3 G3 scope ce fp) := ⟨q, hot, List.mem_singleton.mpr rfl⟩
  have still : ∀ {σ1 : L2.St} {H1 : Hp} {s1 : Shared}, Inv (blkP X q t3 G3 scope ce fp) [] σ1 H1 s1 → (∀ b ∈ fp, H1 b = none) → ∀ b ∈ fp, FpOk (blkP X q t3 G3 scope ce fp) [] H1 b := fun {σ1 H1 s1} J1 hn b hb =>
    ⟨hn b hb, (J1.ok.exf b hb).1, J1.ok.exfs b hb, .inl hb, fun y c e => (J1.ok.exf b hb).2 y c e, fun p hp => by
      rw [List.append_nil, List.mem_singleton] at hp
      subst hp
      exact fun z => qfp (z ▸ hb)⟩
  have loop : codeAny (model X.prog X.w) X.A (.compLoop (.ListComp elt [⟨tg, iter, ifs, 0⟩] scope pos) 0 (.ref it) (.ref L) ce) (compPost (model X.prog X.w) X.A X.xe none (EP X pins σ Q) (.ref L) t3.heap.objs.size) t4 := by
    refine compLoop_any (fun k s1 => ∃ j H1, Inv (blkP X q t3 G3 scope ce fp) [] (wipe σ (own.map (·.2))) H1 s1 ∧ tn j s1.heap ∧ (∀ b ∈ fp, H1 b = none) ∧ W j k H1) ?_ m0 ⟨0, G3, K4, a4, n3, w0⟩
    rintro k s5 ⟨j, H5, J5, a5, n5, w5⟩
    rcases turn j k H5 w5 with ⟨stop, fin⟩ | ⟨go, Nx, hNx, step⟩
    · refine thnF (T.done (blkP X q t3 G3 scope ce fp) rfl rfl rfl hotY j [] s5 _ H5 (fun _ _ => False) J5 (still J5 n5) a5 stop) fun r s6 ⟨hr, J6⟩ => ?_
      subst hr
      have back : Inv X pins σ H5 s6 := J3.call' (ch := fp) J6.os J6.base J6.hok J6.bare fun b hb => let z := (f3 b hb).1; ⟨z.2.2.2.1, z.2.1, z.2.2.2.2.1, z.2.2.2.2.2⟩
      have nC : H5 t3.heap.objs.size = none := loc ▸ J6.free
      obtain ⟨m, hm, _⟩ := J6.loc
      have hm : s6.heap.Ns ce.locals m := hm
      rw [loc] at hm
      refine ⟨m, hm, fun h2 sb => ?_⟩
      obtain ⟨c0, c1, c2, c3, c4, c5⟩ := J3.fpOk (Nat.le_refl _) nC
      exact ⟨.ref L, H5, back.turned (t' := s6.toks) (fun b o hb z => (sb.2 b hb).trans z) c0 c1 c3 c4 c5, rfl, fin⟩
    · refine thnF (T.item (blkP X q t3 G3 scope ce fp) rfl rfl rfl hotY j [] s5 _ H5 (fun _ _ => False) J5 (still J5 n5) a5 go) fun r s6 ⟨u, hr, h6⟩ => ?_
      subst hr
      refine thnF h6 fun _ s7 ⟨x, H7, J7, r7, y7, a7, n7⟩ => ?_
      refine thnF (Pg.run _ s7 _ H7 x u _ (J7.pinned (still J7 n7) (T.obj _ _ a7)) r7 (step x H7 y7)) fun _ s8 ⟨σ8, H8, J8, wp8, q8⟩ => ?_
      refine thnF (Pt.run _ s8 σ8 H8 _ J8 q8) fun b s9 ⟨H9, J9, q9⟩ => ?_
      have on : ∀ {s1 : Shared} {H1 : Hp}, Inv (blkP X q t3 G3 scope ce fp) ([] ++ pinsAt fp s7.heap) σ8 H1 s1 → Nx H1 → ∃ k1, k1 < k ∧ ∃ j H1, Inv (blkP X q t3 G3 scope ce fp) [] (wipe σ (own.map (·.2))) H1 s1 ∧ tn j s1.heap ∧ (∀ b ∈ fp, H1 b = none) ∧ W j k1 H1 := fun {s1 H1} J1 nx => by
        obtain ⟨k1, lt, w1⟩ := hNx H1 nx
        have held : ∀ b ∈ fp, ∀ o, s7.heap.get? b = some o → s1.heap.get? b = some o ∧ H1 b = none := fun b hb o z => ⟨(J1.pin (b, o) (List.mem_append_right _ (List.mem_append_right _ (mem_pinsAt hb z)))).1, (J1.pin (b, o) (List.mem_append_right _ (List.mem_append_right _ (mem_pinsAt hb z)))).2.1⟩
        refine ⟨k1, lt, j + 1, H1, (J1.unpinned (pins := [])).weak (by rw [← wp8, wipe_length]) (fun y v z => ?_), T.keep _ _ _ a7 fun b hb o z => (held b hb o z).1, fun b hb => ?_, w1⟩
        · rw [← wp8] at z
          exact (wipe_some z).1
        · obtain ⟨o, z, _⟩ := T.obj _ _ a7 b hb
          exact (held b hb o z).2
      cases b with
      | false => exact on J9 q9
      | true =>
        refine thnF (Pe.run _ s9 σ8 H9 _ J9 q9) fun z s10 ⟨yv, H10, J10, r10, acc, hD, hz, nx⟩ => ?_
        exact app_ok (X := blkP X q t3 G3 scope ce fp) J10 hD hz r10 fun s11 J11 => on J11 nx
  exact codeAny_compStart_list loop (T.self X.A 0 _ _ _ a4 loop)
end
end Hue
-- Hue30
namespace Hue
open PySem PySem.Spec PyProof.Rows L2
open Evl (Ex)
section
variable {P : Program} {w : World} {K : PySem.W.Frag} {mg : Str → Option Value} {base : Heap}
/-! ### defs that let errors out whose context is None -/
def OkN (P : Program) (w : World) (K : PySem.W.Frag) (mg : Str → Option Value) (base : Heap) (k : Nat) (x : Str) (n : Nat) (fn : Fn) (ps : List Str) : Prop :=
  ∃ f fd, FnOk P w K mg base (L2N.CX P w) k f fd ps (spF K mg n fn) ∧ mg x = some (.ref f) ∧ PySem.W.keepIn K (.ref f) = true ∧ Binds K fd ps []
abbrev cxN (P : Program) (w : World) (K : PySem.W.Frag) (mg : Str → Option Value) (base : Heap) (N : List Str) (x : Str) (sc : Scope) (f : Addr) (cdv : Value) (A : Around) (outer : List PySem.Env) (s : Shared) (H : Hp) (E : XK) : Cx := cxOf (L2N.CX P w) P w K mg base N x sc f cdv A outer s H E
theorem mkOkN {x : Str} {st : Stmt} {N ps : List Str} {k n : Nat} {body : Env → Fl} (T : At K mg x st ps) (S : FnScope N ps (defScope st))
    (h : ∀ (f : Addr) (cdv : Value) (A : Around) (outer : List PySem.Env) (s : Shared) (H : Hp) (E : XK), Room k (A.deeper (envOfC x (defScope st) s.heap.objs.size f cdv)) → L2N.Takes (cxN P w K mg base N x (defScope st) f cdv A outer s H E) (liftE E) → PassesOwn (model P w) (cxN P w K mg base N x (defScope st) f cdv A outer s H E).A (cxN P w K mg base N x (defScope st) f cdv A outer s H E).env (cxN P w K mg base N x (defScope st) f cdv A outer s H E).xe →
      ∃ t, PSs (cxN P w K mg base N x (defScope st) f cdv A outer s H E) (defBody st) t ∧ SS K mg (liftE E) t body) (fn : Fn) (hf : fn = mkFn N.length body) (hn : ps.length = n) : OkN P w K mg base (k + 1) x n fn ps := by
  subst hf
  obtain ⟨f, fd, F, hm, b⟩ := T
  refine ⟨f, fd, ?_, hm, F.kp, b⟩
  obtain ⟨oc, od, kV, doc, pm, an, cdv, ct, osl, rfl, lk, hcd⟩ := F.ex
  refine fn_of lk hcd S (fun vs H Q E q => q.1.trans hn.symm) fun A outer s H vs Q E hr q => ?_
  obtain ⟨t, h1, h2⟩ := h f cdv A outer s H E hr (L2N.takes_of rfl rfl rfl rfl) (passes_of (X := cxN P w K mg base N x (defScope st) f cdv A outer s H E) rfl)
  exact ⟨t, h1, fn_body (E := E) h2 q⟩
theorem ps_raiseN {X : Cx} {W : WX} {x m : Str} {C : Addr} {j : Nat} {p p2 pos pos' : Pos} (hc : X.calm = true) (tk : L2N.Takes X W) (T : ExC K mg x C) (hK : X.K = K) (hm : X.mg = mg) (hg : Gl X x) (hdb : (x == ("__debug__" : Str)) = false := by decide) :
    PS X (.Raise (some (.Call (.Name x p) [.Constant (.str m) j p2] [] pos)) none pos') (fun _ σ H => W (.ref C) none σ H) := by
  subst hK hm
  exact L2N.ps_raise hc tk (L2N.pmk_own PySem.F.excBase_ValueError T.x T.g T.k (raises_own T.b T.t) hg hdb)
theorem passN {X : Cx} : Passes (L2N.CX X.prog X.w) X E0 := fun _ _ _ _ _ _ _ h => by
  obtain ⟨_, _, _, _, _, _, _, _, _, _, _, _, z⟩ := h
  exact z.elim
/-! ### defs that are handed the error that is handled -/
open L2H in
/-- sp tells, by the class of the error and the values of the other parameters, what comes back -/
structure FnE (P : Program) (w : World) (K : PySem.W.Frag) (mg : Str → Option Value) (base : Heap) (k : Nat) (f : Addr) (fd : FuncData) (ps : List Str) (sp : Addr → List V → Hp → VK → Prop) : Prop where
  run : ∀ (A : Around) (outer : List PySem.Env) (s : Shared) (H : Hp) (args : Args) (us : List Value) (vs : List V) (Q : VK) (E : XK) (p : Addr × Obj) (D : Addr),
    RoomH k A → Hot1 A p → PinOk outer H s p → Env0 P w K mg base A outer s H → BindsTo s fd args (ps.zip (.ref p.1 :: us)) → Vals vs us → vs.length + 1 = ps.length → Zc (.ref D) none p.2 → (∃ vs, p.2.data = .fields vs) → sp D vs H Q →
    codeAny (model P w) A (.call (.ref f) args) (CR (L2N.CX P w) outer P w H s Q E) s
open L2H in
theorem fnE_of {k : Nat} {f : Addr} {fd : FuncData} {qual : Str} {st : Stmt} {N ps : List Str} {sp : Addr → List V → Hp → VK → Prop} (F : Fun K qual qual st f fd) (S : FnScope N ps (defScope st))
    (hbody : ∀ (cdv : Value) (A : Around) (outer : List PySem.Env) (s : Shared) (H : Hp) (vs : List V) (Q : VK) (E : XK) (p : Addr × Obj) (D : Addr), RoomH k (A.deeper (envOfC qual (defScope st) s.heap.objs.size f cdv)) → Hot1 (A.deeper (envOfC qual (defScope st) s.heap.objs.size f cdv)) p → vs.length + 1 = ps.length → Zc (.ref D) none p.2 → (∃ vs, p.2.data = .fields vs) → sp D vs H Q →
      ∃ t, PSs (cxH (L2N.CX P w) P w K mg base N qual (defScope st) f cdv A outer s H E p) (defBody st) t ∧ t { nx := fun _ H' => Q .non H', rt := Q } (L2.start N (.ref p.1 :: vs)) H) : FnE P w K mg base (k + 1) f fd ps sp := by
  obtain ⟨oc, od, kV, doc, pm, an, cdv, ct, osl, rfl, lk, hcd⟩ := F.ex
  constructor
  intro A outer s H args us vs Q E p D hr hh hpin e0 hb rv hl hz hf hsp
  have kin : K.In s.heap := e0.mod.kin.keeps fun b o e => (e0.bs b o e).1
  have nl : s.heap.NoLimit := e0.mod.nolimit.keeps fun b o e => (e0.bs b o e).1
  have knd : ∀ y ∈ ps.zip (Value.ref p.1 :: us), (defScope st).names.lookup y.1 = some .local ∨ ((defScope st).names.lookup y.1 = some .cell ∧ ((cellsFrom (s.heap.objs.size + 1) (defScope st).names []).lookup y.1).isSome = true) := by
    rintro ⟨a, b⟩ hy
    rcases S.par a (List.of_mem_zip hy).1 with q | q
    · exact Or.inl q
    · exact Or.inr ⟨q, PySem.W.cellsFrom_some _ _ _ (.inl q)⟩
  refine codeAny_call_function hr.depth (kin _ _ lk) rfl S.co S.gen rfl (PySem.W.codeRec_of kin hcd) (hb _ _ _ _ ?_)
  refine wpAny_newFunctionEnv_cells S.kind knd fun env he s1 y => ?_
  subst he
  refine ⟨nl.keeps y.toInCall.keep, codeAny_func ?_⟩
  obtain ⟨t, h1, h2⟩ := hbody cdv A outer s H vs Q E p D (hr.deeper _) hh hl hz hf hsp
  have J0 : Inv (cxH (L2N.CX P w) P w K mg base N qual (defScope st) f cdv A outer s H E p) [] (L2.start N (.ref p.1 :: vs)) H s1 := inv_startH S hpin e0 hl (.cons rfl rv) y
  refine wpAny_mono (h1.run [] s1 (L2.start N (.ref p.1 :: vs)) H _ J0 h2) (fun fl s2 hs => ?_) fun e s2 hs => hs
  cases fl with
  | ret u => obtain ⟨v, σ2, H2, J, rv, q⟩ := hs; exact ⟨v, H2, J.os, J.bare, J.base, J.hok, rv, q⟩
  | next => obtain ⟨σ2, H2, J, q⟩ := hs; exact ⟨.non, H2, J.os, J.bare, J.base, J.hok, rfl, q⟩
  | brk => obtain ⟨_, _, _, q⟩ := hs; cases q
  | cont => obtain ⟨_, _, _, q⟩ := hs; cases q
end
section
open L2H
variable {X : Cx} {k i : Nat} {f a D : Addr} {fd : FuncData} {x e : Str} {oe : Obj} {ps : List Str} {sp : Addr → List V → Hp → VK → Prop}
/-- f(e, ..), e the error that is handled: a name of slot i -/
def tErr (sp : Addr → List V → Hp → VK → Prop) (D a : Addr) (i n : Nat) (t : TA) : TE := fun σ H Q => σ[i]? = some (some (.ref a)) ∧ t σ H fun vs H1 => V.ref a = V.ref a ∧ vs.length + 1 = n ∧ sp D vs H1 Q
theorem pe_callE {p q pos : Pos} {es : List Expr} {t : TA} (M : FnE X.prog X.w X.K X.mg X.base k f fd ps sp) (hr : RoomH k X.A) (hot : Hot1 X.A (a, oe)) (hp : (a, oe) ∈ X.pn) (hg : Gl X x) (hm : X.mg x = some (.ref f)) (hk : PySem.W.keepIn X.K (.ref f) = true) (hb : Binds X.K fd ps []) (hz : Zc (.ref D) none oe) (hf : ∃ vs, oe.data = .fields vs)
    (ha : PA X (.Name e q :: es) (tCons (tVar i) t)) (hdb : (x == ("__debug__" : Str)) = false := by decide) (he : starEach (.Name e q :: es) X.env = (false, eval (.Name e q) X.env) :: starEach es X.env := by rfl) (hpl : (backTo pos (starEach es X.env)).any (·.1) = false := by rfl) :
    PE X (.Call (.Name x p) (.Name e q :: es) [] pos) (tErr sp D a i ps.length t) := by
  constructor
  intro pins s σ H Q J h
  obtain ⟨h0, h1⟩ := h
  refine wpAny_Call_Name_kw (ld_glob J hg hm ?_ hdb)
  refine PySem.W.callWith_K (h₀ := X.base) J.ok.mod.kin hk (thn (ha.run pos pins s σ H (fun vs H1 => match vs with | v :: us => v = V.ref a ∧ us.length + 1 = ps.length ∧ sp D us H1 Q | [] => False) J ⟨.ref a, h0, h1⟩) fun us s1 hh => ?_) he hpl
  · obtain ⟨vs, H1, J1, r1, z0⟩ := hh
    cases r1 with
    | nil => exact z0.elim
    | cons r0 rr =>
      rename_i v0 u0 ws us0
      obtain ⟨rfl, len, hsp⟩ := z0
      refine ⟨J1.kIn, ?_⟩
      cases r0
      have b := hb s1 (.ref a :: us0) J1.kIn (by rw [List.append_nil, List.length_cons, ← rr.length]; exact len)
      rw [List.append_nil] at b
      have P1 := J1.pin (a, oe) (List.mem_append_left _ hp)
      have nst : a ∉ frs X.stack := fun z => by
        rcases J1.ok.stk with z1 | ⟨z1, z2⟩
        · rw [z1] at z; exact P1.2.2.2.1 z
        · rw [z1] at z
          obtain ⟨e1, m1, q1⟩ := List.mem_filterMap.mp z
          rcases List.mem_cons.mp m1 with rfl | m2
          · exact P1.2.2.1 (Option.some.inj (q1.symm.trans z2))
          · exact P1.2.2.2.1 (List.mem_filterMap.mpr ⟨e1, m2, q1⟩)
      refine wpAny_call (codeAny_mono (M.run _ X.stack s1 H1 ⟨.ref a :: us0, []⟩ us0 ws Q E0 (a, oe) D hr hot ⟨P1.1, P1.2.1, nst, P1.2.2.2.2⟩ J1.env0 b rr len hz hf hsp) fun r s2 hq2 => ?_)
      cases r with
      | error u =>
        obtain ⟨_, _, _, _, _, _, _, _, _, _, _, _, z⟩ := hq2
        exact z.elim
      | ok fl =>
        cases fl with
        | ret u => exact J1.after hq2
        | next => exact False.elim hq2
        | brk => exact False.elim hq2
        | cont => exact False.elim hq2
end
end Hue
-- Hue31
namespace Hue
open PySem PySem.Spec PyProof.Rows L2
open Evl (Ex)
/-! ### truths, one behind the other -/
theorem eqv_boolsA : ∀ (as bs : List Bool), PyData.eqvAll (as.map PyData.bool) (bs.map PyData.bool) = decide (as = bs)
  | [], [] => rfl
  | [], b :: bs => rfl
  | a :: as, [] => rfl
  | a :: as, b :: bs => by
    show (PyData.eqv (.bool a) (.bool b) && PyData.eqvAll (as.map PyData.bool) (bs.map PyData.bool)) = _
    rw [eqv_boolsA as bs]
    cases a <;> cases b <;> simp [PyData.eqv]
theorem eqv_bools (as bs : List Bool) : PyData.eqv (.list (as.map PyData.bool)) (.list (bs.map PyData.bool)) = decide (as = bs) := eqv_boolsA as bs
def onesAt (n : Nat) (j : Int) : List Bool := (List.range n).map fun m : Nat => decide ((m : Int) = j)
theorem ones_eq {n k : Nat} {j : Int} (hk : k < n) : (onesAt n k = onesAt n j) ↔ j = k := by
  constructor
  · intro h
    have e : (onesAt n k)[k]? = (onesAt n j)[k]? := by rw [h]
    unfold onesAt at e
    rw [List.getElem?_map, List.getElem?_map, List.getElem?_range hk] at e
    have e : decide ((k : Int) = (k : Int)) = decide ((k : Int) = j) := Option.some.inj e
    rw [decide_eq_true rfl] at e
    exact (of_decide_eq_true e.symm).symm
  · intro h; rw [h]
theorem eq_ones {n k : Nat} {j : Int} (hk : k < n) : PyData.eqv (.list ((onesAt n k).map PyData.bool)) (.list ((onesAt n j).map PyData.bool)) = decide (j = k) := by
  rw [eqv_bools]
  exact decide_eq_decide.mpr (ones_eq hk)
/-! ### what the three defs say of an error -/
def spC (tab : Addr → Nat → Prop) : Addr → List V → Hp → VK → Prop := fun D vs H Q => vs = [] ∧ ∃ k, tab D k ∧ ∀ H' q, Ex H H' → H' q = none → Q (.ref q) (upd H' q (.lst ((onesAt 11 k).map V.bl)))
def spO (tab : Addr → Nat → Prop) : Addr → List V → Hp → VK → Prop := fun D vs H Q => ∃ (j : Int) (k : Nat), vs = [.int j] ∧ tab D k ∧ ∀ H', Ex H H' → Q (.bl (decide (j = k))) H'
structure OnF (K : PySem.W.Frag) (tab : Addr → Nat → Prop) (C0 : Addr) (cs : List Addr) : Prop where
  ok : ∀ D k, tab D k → k < 11 ∧ ExcC K D ∧ PySem.W.kitOne K (.ref D) (.type "ValueError") = some true ∧ PySem.W.kitOne K (.ref D) (.ref C0) = some true ∧ cs.map (fun C => PySem.W.kitOne K (.ref D) (.ref C)) = (onesAt 11 k).map some
section
variable {K : PySem.W.Frag} {D a : Addr} {ie ip : Nat} {σ : L2.St} {H : Hp} {Q : VK} {k : Nat} {tab : Addr → Nat → Prop}
/-- [p for p in range(11) if only(e, p)] -/
theorem lc_only (h0 : σ[ie]? = some (some (.ref a))) (ne : ie ≠ ip) (hp : ip < σ.length) (hk : k < 11) (ht : tab D k) (hQ : ∀ H' q, Ex H H' → H q = none → H' q = some (.lst [.int (k : Int)]) → Q (.ref q) H') :
    tLc (iRng1 (tCons (tC (.int 11)) tNil)) (gName ip) (tB (tErr (spO tab) D a ie 2 (tCons (tVar ip) tNil))) (tVar ip) [ip] σ H Q := by
  refine ⟨11, rfl, by decide, by decide, fun q hq => ?_⟩
  refine lc_range (fun i H' => Ex H H' ∧ H' q = some (.lst (if k < i then [.int (k : Int)] else []))) ⟨Ex.new hq, by rw [if_neg (Nat.not_lt_zero _)]; exact upd_same⟩ (fun i H' hi hP => ?_) fun H' hP => hQ H' q hP.1 hq (by rw [hP.2, if_pos (show k < (11 : Int).toNat from hk)])
  obtain ⟨e, hl⟩ := hP
  have li : ip < (L2.wipe σ [ip]).length := by rw [wipe_length]; exact hp
  have w1 : L2.wipe ((L2.wipe σ [ip]).set ip (some (.int (0 + (i : Int))))) [ip] = L2.wipe σ [ip] := by
    show (((σ.set ip none).set ip (some (.int (0 + (i : Int))))).set ip none) = σ.set ip none
    rw [List.set_set, List.set_set]
  refine ⟨w1, ?_⟩
  have s0 : ((L2.wipe σ [ip]).set ip (some (V.int (0 + (i : Int)))))[ie]? = some (some (.ref a)) := by
    show ((σ.set ip none).set ip _)[ie]? = _
    rw [List.set_set, List.getElem?_set_ne (Ne.symm ne)]
    exact h0
  have s1 : ((L2.wipe σ [ip]).set ip (some (V.int (0 + (i : Int)))))[ip]? = some (some (.int (0 + (i : Int)))) := List.getElem?_set_self li
  refine ⟨s0, .int (0 + (i : Int)), s1, rfl, rfl, 0 + (i : Int), k, rfl, ht, fun H2 e2 => ⟨_, rfl, ?_⟩⟩
  have l2 : H2 q = some (.lst (if k < i then [.int (k : Int)] else [])) := e2 _ _ hl
  by_cases z : (0 : Int) + i = k
  · have zi : i = k := by omega
    rw [decide_eq_true z]
    rw [if_neg (by omega)] at l2
    refine ⟨.int (0 + (i : Int)), s1, [], l2, by show 0 < sizeLine; rw [sizeLine_eq]; omega, ?_, ?_⟩
    · intro b o hb
      have nb : b ≠ q := fun y => by rw [y, hq] at hb; cases hb
      rw [upd_ne nb]
      exact e2 _ _ (e _ _ hb)
    · rw [upd_same, if_pos (by omega), z]
      rfl
  · rw [decide_eq_false z]
    refine ⟨fun b o hb => e2 _ _ (e _ _ hb), ?_⟩
    rw [l2]
    by_cases y : k < i
    · rw [if_pos y, if_pos (by omega)]
    · rw [if_neg y, if_neg (by omega)]
end
/-! ### try: .. except H as e: return [..] -/
def tHnd (tab : Addr → Nat → Prop) (pre : List V) (i : Nat) (a : Addr) (cls : Value) (d : Option Addr) : TE := fun σ H Q => σ[i]? = some (some (.ref a)) ∧ ∃ D m, cls = .ref D ∧ d = none ∧ tab D m ∧ ∀ H' q, Ex H H' → H q = none → H' q = some (.lst (pre ++ [.int (m : Int)])) → Q (.ref q) H'
section
variable {K : PySem.W.Frag} {mg : Str → Option Value} {E : XW} {G G' H H' : Hp} {σ σ' : L2.St} {ρ ρ' : Env}
def mTryL (i : Nat) (mk : Str → Option Nat) (pre : List PyData) (mb : Env → Fl) : Env → Fl := fun ρ => match mb ρ with
  | .ex x ρ' => match x.fs, mk x.c with
    | none, some m => if i < ρ'.length then .rt (.new (pre ++ [.int (m : Int)])) (ρ'.set i .un) else .bad
    | _, _ => .bad
  | r => r
theorem ss_tryL {tb : WX → TS} {mb : Env → Fl} {i : Nat} {mk : Str → Option Nat} {tab : Addr → Nat → Prop} {c : Value} {pre : List PyData} {preV : List V} (hb : ∀ W : WX, SS K mg W (tb W) mb) (hpre : ∀ G, DtA K G preV pre)
    (hx : ∀ y m, mk y = some m → ∀ cls, mg y = some cls → ∃ D, cls = .ref D ∧ tab D m ∧ PySem.W.exmOne K cls c = some true) :
    SS K mg E (fun D σ H => tb (wAll K c i (fun a cls d => tRet (tHnd tab preV i a cls d)) D) D σ H) (mTryL i mk pre mb) := fun B L G σ H ρ D A w => by
  refine hb _ B L G σ H ρ D A ?_
  unfold mTryL at w
  cases q : mb ρ with
  | nx ρ' => rw [q] at w; exact w
  | rt r ρ' => rw [q] at w; exact w
  | bk ρ' => rw [q] at w; exact w
  | ct ρ' => rw [q] at w; exact w
  | bad => rw [q] at w; exact w
  | ex x ρ' =>
    rw [q] at w
    dsimp only at w
    intro G' σ' H' cls da e A' X'
    obtain ⟨x1, x2⟩ := X'
    split at w
    · rename_i m hfs hm
      rw [hfs] at x2
      obtain ⟨Dd, rfl, ht, hex⟩ := hx _ m hm _ x1
      refine ⟨hex, fun a ha => ?_⟩
      by_cases len : i < ρ'.length
      · rw [if_pos len] at w
        have len2 : i < σ'.length := by rw [A'.len]; exact len
        refine ⟨?_, Dd, m, rfl, x2, ht, ?_⟩
        · rw [List.getElem?_set_self len2]
        · intro H2 p e2 hp hl
          have A2 := (A'.grow (Ex.refl G') e2 (A'.exG.trans e2) A'.dis fun i a h => A'.notG h).forget i
          refine w (.ref p) G' (σ'.set i none) H2 e A2 ⟨p, rfl, ⟨preV ++ [.int (m : Int)], hl, ?_, Evl.fresh_back A'.exG hp, Evl.fresh_back A'.exB hp⟩, fun j hj => ?_⟩
          · exact (hpre G').append (.cons (.int _) .nil)
          · obtain ⟨⟨ds, z1⟩, z2⟩ := hj
            by_cases y : i = j
            · subst y
              rw [List.getElem?_set_self len2] at z2; cases z2
            · rw [List.getElem?_set_ne y] at z1 z2
              exact A'.inH ⟨⟨ds, z1⟩, z2⟩ hp
      · rw [if_neg len] at w; exact w.elim
    · exact w.elim
end
end Hue
-- Hue32
namespace Hue
open PySem PySem.Spec PyProof.Rows L2 L2H
open Evl (Ex)
/-! ### the clause's value -/
section
variable {X : Cx} {a : Addr} {oe : Obj} {cls : Value} {d : Option Addr} {pn : List (Addr × Obj)} {e : Expr} {ie ip : Nat} {tab : Addr → Nat → Prop}
theorem hot_of {A : Around} (hz : L2N.Zn cls d oe) (hf : ∃ vs, oe.data = .fields vs) : Hot1 (A.mark (some (.ref a))) (a, oe) := by
  obtain ⟨vs, q⟩ := hf
  exact ⟨rfl, vs, q, hz.2.2 vs q⟩
theorem roomH_mark {k j : Nat} {A : Around} {v : Option Value} (hr : Room k A) (h : j ≤ k) : RoomH j (A.mark v) := ⟨(hr.mono h).dp, (hr.mono h).un⟩
theorem pe_hnd (h : ∀ D, cls = .ref D → d = none → PE (X.suite a ((a, oe) :: pn)) e (tLc (iRng1 (tCons (tC (.int 11)) tNil)) (gName ip) (tB (tErr (spO tab) D a ie 2 (tCons (tVar ip) tNil))) (tVar ip) [ip])) (hM : ∀ D k, tab D k → k < 11) (ne : ie ≠ ip) (lt : ip < X.N.length) : PE (X.suite a ((a, oe) :: pn)) e (tHnd tab [] ie a cls d) := by
  constructor
  intro pins s σ H Q J w
  obtain ⟨h0, D, m, e1, e2, ht, hq⟩ := w
  refine (h D e1 e2).run pins s σ H Q J (lc_only h0 ne (by rw [J.len]; exact lt) (hM D m ht) ht hq)
theorem pe_hndR {K : PySem.W.Frag} (hK : (X.suite a ((a, oe) :: pn)).K = K) {x : Str} {j : Nat} {p1 p2 p3 : Pos} (h : PE (X.suite a ((a, oe) :: pn)) e (tHnd tab [] ie a cls d)) : PE (X.suite a ((a, oe) :: pn)) (.BinOp (.List [.Constant (.str x) j p1] p2) .Add e p3) (tHnd tab [.str x] ie a cls d) := by
  have P : PE (X.suite a ((a, oe) :: pn)) (.BinOp (.List [.Constant (.str x) j p1] p2) .Add e p3) (tOp (rAdd K) (tLst (tCons (tC (.str x)) tNil)) (tHnd tab [] ie a cls d)) := pe_op (kop_add K hK) (pe_lst (pa_cons pe_str pa_nil)) h
  constructor
  intro pins s σ H Q J w
  obtain ⟨h0, D, m, e1, e2, ht, hq⟩ := w
  refine P.run pins s σ H Q J ⟨by show 1 ≤ sizeLine; rw [sizeLine_eq]; omega, fun r hr => ⟨h0, D, m, e1, e2, ht, fun H' q x1 n1 l1 => ?_⟩⟩
  refine .inr (.inr (.inr ⟨r, q, [.str x], [.int (m : Int)], rfl, rfl, x1 _ _ upd_same, l1, by show 1 + 1 ≤ sizeLine; rw [sizeLine_eq]; omega, fun t nt => ?_⟩))
  have xH : Ex H H' := (Ex.new hr).trans x1
  exact hq _ t (xH.trans (Ex.new nt)) (Evl.fresh_back xH nt) upd_same
end
/-! ### [e for x in xs if .. for y in ys if ..] -/
section
variable {K : PySem.W.Frag} {mg : Str → Option Value} {E : XW} {C : Cn} {G G' H H' : Hp} {σ σ' : L2.St} {ρ ρ' : Env}
theorem wipe_in {σ : L2.St} {us vs : List Nat} (h : ∀ j ∈ us, j ∈ vs) : L2.wipe (L2.wipe σ us) vs = L2.wipe σ vs := by
  refine List.ext_getElem? fun j => ?_
  rw [wipe_at, wipe_at, wipe_at, wipe_length]
  by_cases q : j ∈ vs ∧ j < σ.length
  · rw [if_pos q, if_pos q]
  · rw [if_neg q, if_neg q, if_neg fun z => q ⟨h j z.1, z.2⟩]
def cloop2 (b : PyData → Env → Option Env) (c : M Bool) (m1 : M (List PyData)) (b1 : PyData → Env → Option Env) (c1 : M Bool) (e : M PyData) (vs vs1 : List Nat) : List PyData → Env → List PyData → R (List PyData)
  | [], ρ, acc => .ok acc ρ
  | d :: ds, ρ, acc => match b d ρ with
    | none => .bad
    | some ρ1 => match c ρ1 with
      | .ok true ρ2 => match m1 ρ2 with
        | .ok ds1 ρ3 => (cloop b1 c1 e vs1 ds1 (wipeE ρ3 vs1) acc).bind fun acc2 ρ4 => cloop2 b c m1 b1 c1 e vs vs1 ds (wipeE ρ4 vs) acc2
        | _ => .bad
      | .ok false ρ2 => cloop2 b c m1 b1 c1 e vs vs1 ds (wipeE ρ2 vs) acc
      | _ => .bad
def mComp2 (m : M (List PyData)) (b : PyData → Env → Option Env) (c : M Bool) (m1 : M (List PyData)) (b1 : PyData → Env → Option Env) (c1 : M Bool) (e : M PyData) (vs vs1 : List Nat) : M Rv := mBind m fun ds => fun ρ => (cloop2 b c m1 b1 c1 e vs vs1 ds (wipeE ρ vs) []).bind fun acc ρ' => .ok (.new acc) ρ'
theorem sx_comp2 {wi wi1 : TI} {g g1 : TG} {tt tt1 : TT} {te : TE} {m m1 : M (List PyData)} {b b1 : PyData → Env → Option Env} {c c1 : M Bool} {e : M PyData} {js js1 vs vs1 : List Nat} {E' : XW} (hi : SI K mg E wi m) (hg : SG K g b js) (ht : STt K mg E' tt c) (hi1 : SI K mg E' wi1 m1) (hg1 : SG K g1 b1 js1) (ht1 : STt K mg E' tt1 c1) (he : SE K mg E' te e) (hj : ∀ j ∈ js, j ∈ vs) (hj1 : ∀ j ∈ js1, j ∈ vs1) (hv : ∀ j ∈ vs1, j ∈ vs) :
    SX K mg E (tLc2 wi g tt wi1 g1 tt1 te vs vs1) (mComp2 m b c m1 b1 c1 e vs vs1) := fun B L G σ H ρ Q A w => by
  refine hi B L G σ H ρ _ A ((WR.bind w).mono fun G1 H1 ρ1 ds e1 A1 k1 J hJ Dl hD => ?_)
  have F1 := A1.fresh hD (.nil : DtA K G1 [] [])
  have bD : B Dl = none := Evl.fresh_back A1.exB hD
  -- what holds before each turn of the outer loop
  let St : List PyData → Hp → Prop := fun rest H' => ∃ G' ρ' acc accV, Ex G1 G' ∧ H' Dl = some (.lst accV) ∧ DtA K G' accV acc ∧ Ab ⟨K, mg, upd B Dl (.lst accV), L⟩ G' (L2.wipe σ vs) H' (wipeE ρ' vs) ∧
      WR ⟨K, mg, B, L⟩ E G' σ (fun G' H' ρ' r => ∀ v, RvOk ⟨K, mg, B, L⟩ G' σ H' ρ' v r → Q v H') ((cloop2 b c m1 b1 c1 e vs vs1 rest (wipeE ρ' vs) acc).bind fun acc ρ' => .ok (.new acc) ρ')
  refine ⟨fun i n H' => n = ds.length - i ∧ i ≤ ds.length ∧ St (ds.drop i) H', ⟨ds.length, rfl, Nat.zero_le _, G1, ρ1, [], [], Ex.refl G1, upd_same, .nil, ?_, k1⟩, ?_⟩
  · obtain ⟨AF, p, hp, ⟨us, q1, q2, q3, q4⟩, q5⟩ := F1
    cases hp
    refine ((AF.wipe vs).frame upd_same q3 bD fun i h => ?_)
    exact (A1.wipe vs).inH h hD
  rintro i n H' ⟨rfl, hle, G', ρ', acc, accV, e', hA, hacc, A', w'⟩
  by_cases hlt : i < ds.length
  · refine .inr ⟨hJ.go i H' (e'.trans A'.exG) hlt, fun H2 => St (ds.drop (i + 1)) H2, fun H2 h => ⟨_, by omega, rfl, hlt, h⟩, fun x H2 y => ?_⟩
    obtain ⟨G2, e2, A2, hx⟩ := hJ.yld ⟨K, mg, upd B Dl (.lst accV), L⟩ G' _ H' _ i ds[i] x H2 rfl e' A' (List.getElem?_eq_getElem hlt) y
    rw [List.drop_eq_getElem_cons hlt] at w'
    unfold cloop2 at w'
    cases q : b ds[i] (wipeE ρ' vs) with
    | none => rw [q] at w'; exact w'.elim
    | some ρ2 =>
      rw [q] at w'
      dsimp only at w'
      refine hg ⟨K, mg, upd B Dl (.lst accV), L⟩ G2 _ H2 _ ρ2 x ds[i] _ rfl A2 hx q fun σ3 t3 A3 => ⟨wipe_tch t3 hj, ?_⟩
      have ew := wipe_tch t3 hj
      refine ht (upd B Dl (.lst accV)) L G2 σ3 H2 ρ2 _ A3 ?_
      cases qc : c ρ2 with
      | bad => rw [qc] at w'; exact w'.elim
      | ex x ρ3 => rw [qc] at w'; exact w'.elim
      | ok t ρ3 =>
        rw [qc] at w'
        intro G3 H3 e3 A4
        cases t with
        | false =>
          dsimp only at w'
          show St _ H3
          refine ⟨G3, ρ3, acc, accV, (e'.trans e2).trans e3, A4.exB _ _ upd_same, (hacc.mono e2).mono e3, ?_, ?_⟩
          · rw [← ew]; exact A4.wipe vs
          · exact WR.growG w' (e2.trans e3)
        | true =>
          dsimp only at w'
          show wi1 σ3 H3 _
          refine hi1 (upd B Dl (.lst accV)) L G3 σ3 H3 ρ3 _ A4 ?_
          cases qm : m1 ρ3 with
          | bad => rw [qm] at w'; exact w'.elim
          | ex x ρ4 => rw [qm] at w'; exact w'.elim
          | ok ds1 ρ4 =>
            rw [qm] at w'
            intro G4 H4 e4 A5 J1 hJ1
            dsimp only at w'
            -- the inner loop
            refine ⟨fun j n H' => n = ds1.length - j ∧ j ≤ ds1.length ∧ ∃ G' ρ' acc accV, Ex G4 G' ∧ H' Dl = some (.lst accV) ∧ DtA K G' accV acc ∧ Ab ⟨K, mg, upd B Dl (.lst accV), L⟩ G' (L2.wipe σ3 vs1) H' (wipeE ρ' vs1) ∧
              WR ⟨K, mg, B, L⟩ E G' σ (fun G' H' ρ' r => ∀ v, RvOk ⟨K, mg, B, L⟩ G' σ H' ρ' v r → Q v H') (((cloop b1 c1 e vs1 (ds1.drop j) (wipeE ρ' vs1) acc).bind fun acc2 ρ4 => cloop2 b c m1 b1 c1 e vs vs1 (ds.drop (i + 1)) (wipeE ρ4 vs) acc2).bind fun acc ρ' => .ok (.new acc) ρ'), ⟨ds1.length, rfl, Nat.zero_le _, G4, ρ4, acc, accV, Ex.refl G4, A5.exB _ _ upd_same, ((hacc.mono e2).mono e3).mono e4, A5.wipe vs1, WR.growG w' ((e2.trans e3).trans e4)⟩, ?_⟩
            rintro j n H5 ⟨rfl, hle1, G5, ρ5, acc5, accV5, e5, hA5, hacc5, A6, w6⟩
            by_cases hlt1 : j < ds1.length
            · refine .inr ⟨hJ1.go j H5 (e5.trans A6.exG) hlt1, fun H2 => ∃ G' ρ' acc accV, Ex G4 G' ∧ H2 Dl = some (.lst accV) ∧ DtA K G' accV acc ∧ Ab ⟨K, mg, upd B Dl (.lst accV), L⟩ G' (L2.wipe σ3 vs1) H2 (wipeE ρ' vs1) ∧
                WR ⟨K, mg, B, L⟩ E G' σ (fun G' H' ρ' r => ∀ v, RvOk ⟨K, mg, B, L⟩ G' σ H' ρ' v r → Q v H') (((cloop b1 c1 e vs1 (ds1.drop (j + 1)) (wipeE ρ' vs1) acc).bind fun acc2 ρ4 => cloop2 b c m1 b1 c1 e vs vs1 (ds.drop (i + 1)) (wipeE ρ4 vs) acc2).bind fun acc ρ' => .ok (.new acc) ρ'), fun H2 h => ⟨_, by omega, rfl, hlt1, h⟩, fun x1 H6 y1 => ?_⟩
              obtain ⟨G7, e7, A7, hx1⟩ := hJ1.yld ⟨K, mg, upd B Dl (.lst accV5), L⟩ G5 _ H5 _ j ds1[j] x1 H6 rfl e5 A6 (List.getElem?_eq_getElem hlt1) y1
              rw [List.drop_eq_getElem_cons hlt1] at w6
              unfold cloop at w6
              cases q1 : b1 ds1[j] (wipeE ρ5 vs1) with
              | none => rw [q1] at w6; exact w6.elim
              | some ρ7 =>
                rw [q1] at w6
                dsimp only at w6
                refine hg1 ⟨K, mg, upd B Dl (.lst accV5), L⟩ G7 _ H6 _ ρ7 x1 ds1[j] _ rfl A7 hx1 q1 fun σ8 t8 A8 => ⟨wipe_tch t8 hj1, ?_⟩
                have ew1 := wipe_tch t8 hj1
                refine ht1 (upd B Dl (.lst accV5)) L G7 σ8 H6 ρ7 _ A8 ?_
                cases qc1 : c1 ρ7 with
                | bad => rw [qc1] at w6; exact w6.elim
                | ex x ρ8 => rw [qc1] at w6; exact w6.elim
                | ok t1 ρ8 =>
                  rw [qc1] at w6
                  intro G9 H9 e9 A9
                  cases t1 with
                  | false =>
                    dsimp only at w6
                    show ∃ G' ρ' acc accV, _
                    refine ⟨G9, ρ8, acc5, accV5, (e5.trans e7).trans e9, A9.exB _ _ upd_same, (hacc5.mono e7).mono e9, ?_, WR.growG w6 (e7.trans e9)⟩
                    rw [← ew1]; exact A9.wipe vs1
                  | true =>
                    dsimp only at w6
                    show te σ8 H9 _
                    refine he (upd B Dl (.lst accV5)) L G9 σ8 H9 ρ8 _ A9 ?_
                    cases qe : e ρ8 with
                    | bad => rw [qe] at w6; exact w6.elim
                    | ex x ρ9 => rw [qe] at w6; exact w6.elim
                    | ok yd ρ9 =>
                      rw [qe] at w6
                      intro G10 H10 e10 A10 yv hy
                      dsimp only at w6
                      by_cases qs : small acc5.length = true
                      · rw [if_pos qs] at w6
                        have hD10 : H10 Dl = some (.lst accV5) := A10.exB _ _ upd_same
                        obtain ⟨A11, hp11, g11, n11⟩ := Ab.unframe (C := ⟨K, mg, B, L⟩) A10 bD A.scr
                        have A12 : Ab ⟨K, mg, B, L⟩ G10 σ8 (upd H10 Dl (.lst (accV5 ++ [yv]))) ρ9 := A11.other hp11 g11 bD n11
                        refine ⟨accV5, hD10, by rw [hacc5.length]; exact small_lt qs, G10, ρ9, acc5 ++ [yd], accV5 ++ [yv], ((e5.trans e7).trans e9).trans e10, upd_same, (((hacc5.mono e7).mono e9).mono e10).append (.cons hy .nil), ?_, WR.growG w6 ((e7.trans e9).trans e10)⟩
                        rw [← ew1]
                        exact (A12.frame upd_same g11 bD n11).wipe vs1
                      · rw [if_neg qs] at w6; exact w6.elim
            · have : j = ds1.length := by omega
              subst this
              rw [List.drop_length] at w6
              refine .inl ⟨hJ1.stop _ H5 (e5.trans A6.exG) (Nat.le_refl _), G5, wipeE ρ5 vs1, acc5, accV5, ((e'.trans e2).trans e3).trans (e4.trans e5), hA5, hacc5, ?_, w6⟩
              have z := A6.wipe vs
              rw [wipe_in hv, ew] at z
              exact z
  · have : i = ds.length := by omega
    subst this
    rw [List.drop_length] at w'
    obtain ⟨A2, hp2, g2, n2⟩ := Ab.unframe (C := ⟨K, mg, B, L⟩) A' bD A.scr
    refine .inl ⟨hJ.stop _ H' (e'.trans A'.exG) (Nat.le_refl _), ?_⟩
    have A3 : Ab ⟨K, mg, B, L⟩ G' σ H' (wipeE ρ' vs) := A2.unwipe
    exact w' G' H' (Ex.refl G') A3 (.ref Dl) ⟨Dl, rfl, ⟨accV, hA, hacc, g2, bD⟩, fun j hj => by
      obtain ⟨⟨es, z1⟩, z2⟩ := hj
      refine n2 j ⟨⟨es, z1⟩, ?_⟩
      have nj : j ∉ vs := by
        rcases z1 with q | q
        all_goals
          rcases wipeE_at ρ' vs j _ q with z | z
          · cases z
          · exact z
      rw [wipe_at, if_neg fun y => nj y.1]
      exact z2⟩
end
end Hue
namespace Hue
open PySem PySem.Spec PyProof.Rows L2
def OnlyOk (P : Program) (w : World) (K : PySem.W.Frag) (mg : Str → Option Value) (base : Heap) (tab : Addr → Nat → Prop) : Prop :=
  ∃ f fd, FnE P w K mg base 2 f fd ["_law_e", "_law_place"] (spO tab) ∧ mg "_law_only" = some (.ref f) ∧ PySem.W.keepIn K (.ref f) = true ∧ Binds K fd ["_law_e", "_law_place"] []
end Hue
namespace Hue
open PySem PySem.Spec PyProof.Rows L2
open Evl (Ex)
section
variable {K : PySem.W.Frag} {mg : Str → Option Value} {E : XW}
/-! ### tuple(range(a, b)) -/
def trD2 : PyData → PyData → Option Rv
  | .int a, .int b => if (decide (0 ≤ a) && decide (a ≤ 100000) && decide (0 ≤ b) && decide (b ≤ 100000)) = true then some (.dat (.tuple (rngL a (b - a).toNat))) else none
  | _, _ => none
def mTrng2 (ma mb : M PyData) : M Rv := mBind ma fun d => mBind mb fun e => mOpt (trD2 d e)
theorem sx_trng2 {t u : TE} {ma mb : M PyData} (h : SE K mg E t ma) (h2 : SE K mg E u mb) : SX K mg E (tTupRg (tRg2 t u)) (mTrng2 ma mb) := fun B L G σ H ρ Q A w => by
  refine h B L G σ H ρ _ A ((WR.bind w).mono fun G1 H1 ρ1 d e1 A1 k v hv => ?_)
  refine h2 B L G1 σ H1 ρ1 _ A1 ((WR.bind k).mono fun G2 H2 ρ2 d2 e2 A2 k2 v2 hv2 => ?_)
  obtain ⟨z, q, k3⟩ := WR.opt k2
  unfold trD2 at q
  split at q
  · rename_i a b
    split at q
    · rename_i y
      cases q
      rw [Bool.and_eq_true, Bool.and_eq_true, Bool.and_eq_true] at y
      have y1 := of_decide_eq_true y.1.1.1
      have y2 := of_decide_eq_true y.1.1.2
      have y3 := of_decide_eq_true y.1.2
      have y4 := of_decide_eq_true y.2
      refine ⟨a, b, (hv.mono e2).int_inv, hv2.int_inv, RgOk.of_le (by omega) (by omega) (by omega) (by omega), fun p hp => ?_⟩
      have dd : DtA K G2 (rgV a b) (rngL a (b - a).toNat) := by
        unfold rgV rngL
        have key : ∀ l : List Nat, DtA K G2 (l.map fun i => V.int (a + (i : Nat))) (l.map fun i => PyData.int (a + (i : Nat))) := fun l => by
          induction l with
          | nil => exact .nil
          | cons a r ih => exact .cons (.int _) ih
        exact key _
      have T := A2.tup hp dd
      exact k3 _ _ T.1 T.2.1 _ T.2.2
    · cases q
  · cases q
end
end Hue
namespace Hue
open PySem PySem.Spec PyProof.Rows L2
open Evl (Ex)
/-! ### b is not True, b a truth -/
theorem bool_same (a b : Bool) : (Value.bool a == Value.bool b) = decide (a = b) := by cases a <;> cases b <;> rfl
def rNotB : R2 := fun x y H Q => ∃ a b, x = .bl a ∧ y = .bl b ∧ Q (.bl (!decide (a = b))) H
theorem op_notB {X : Cx} : OpR X (compareOp .IsNot) rNotB := by
  intro pins s σ H x y v u Q I rx ry h
  obtain ⟨a, b, rfl, rfl, q⟩ := h
  cases rx
  cases ry
  exact wpAny_isNot_plain rfl (fin_bl I q (congrArg not (bool_same a b).symm))
def fNotB : PyData → PyData → Option Rv
  | .bool a, .bool b => some (.dat (.bool (!decide (a = b))))
  | _, _ => none
theorem ops_notB {K : PySem.W.Frag} : OpS K rNotB fNotB := fun mg B L G σ H ρ x y d e z Q A hx hy hz k => by
  unfold fNotB at hz
  split at hz
  · cases hz
    exact ⟨_, _, hx.bl_inv, hy.bl_inv, k _ G H (Ex.refl G) A (.bl _)⟩
  · cases hz
end Hue
-- Hue33
namespace Hue
open PySem PySem.Spec PyProof.Rows L2 L2H
open Evl (Ex)
/-- as tErr, the class told by the clause -/
def tErrX (sp : Addr → List V → Hp → VK → Prop) (cls : Value) (d : Option Addr) (a : Addr) (i n : Nat) (t : TA) : TE := fun σ H Q => ∃ D, cls = .ref D ∧ d = none ∧ tErr sp D a i n t σ H Q
section
variable {X : Cx} {k i : Nat} {f a : Addr} {fd : FuncData} {x e : Str} {oe : Obj} {ps : List Str} {sp : Addr → List V → Hp → VK → Prop} {cls : Value} {d : Option Addr}
theorem pe_callX {p q pos : Pos} {es : List Expr} {t : TA} (M : FnE X.prog X.w X.K X.mg X.base k f fd ps sp) (hr : RoomH k X.A) (hot : Hot1 X.A (a, oe)) (hp : (a, oe) ∈ X.pn) (hg : Gl X x) (hm : X.mg x = some (.ref f)) (hk : PySem.W.keepIn X.K (.ref f) = true) (hb : Binds X.K fd ps []) (hz : Zc cls d oe) (hf : ∃ vs, oe.data = .fields vs)
    (ha : PA X (.Name e q :: es) (tCons (tVar i) t)) {n : Nat} (hn : ps.length = n := by rfl) (hdb : (x == ("__debug__" : Str)) = false := by decide) (he : starEach (.Name e q :: es) X.env = (false, eval (.Name e q) X.env) :: starEach es X.env := by rfl) (hpl : (backTo pos (starEach es X.env)).any (·.1) = false := by rfl) :
    PE X (.Call (.Name x p) (.Name e q :: es) [] pos) (tErrX sp cls d a i n t) := by
  constructor
  rintro pins s σ H Q J ⟨D, e1, e2, h⟩
  subst e1 e2 hn
  exact (pe_callE (D := D) M hr hot hp hg hm hk hb hz hf ha hdb he hpl).run pins s σ H Q J h
end
section
variable {K : PySem.W.Frag} {D a : Addr} {ie ip : Nat} {σ : L2.St} {H : Hp} {Q : VK} {k : Nat} {tab : Addr → Nat → Prop}
theorem lc_onlyX (h0 : σ[ie]? = some (some (.ref a))) (ne : ie ≠ ip) (hp : ip < σ.length) (hk : k < 11) (ht : tab D k) (hQ : ∀ H' q, Ex H H' → H q = none → H' q = some (.lst [.int (k : Int)]) → Q (.ref q) H') :
    tLc (iRng1 (tCons (tC (.int 11)) tNil)) (gName ip) (tB (tErrX (spO tab) (.ref D) none a ie 2 (tCons (tVar ip) tNil))) (tVar ip) [ip] σ H Q := by
  obtain ⟨n, e, b1, b2, hL⟩ := lc_only (tab := tab) (D := D) h0 ne hp hk ht hQ
  refine ⟨n, e, b1, b2, fun q hq => ?_⟩
  obtain ⟨W, w0, turn⟩ := hL q hq
  refine ⟨W, w0, fun i m H' h => ?_⟩
  rcases turn i m H' h with z | ⟨go, Nx, hN, step⟩
  · exact .inl z
  · refine .inr ⟨go, Nx, hN, fun x H2 y => ?_⟩
    obtain ⟨s1, s2⟩ := step x H2 y
    exact ⟨s1, D, rfl, rfl, s2⟩
end
section
variable {X : Cx} {a : Addr} {oe : Obj} {cls : Value} {d : Option Addr} {pn : List (Addr × Obj)} {e : Expr} {ie ip : Nat} {tab : Addr → Nat → Prop}
theorem pe_hndX (hM : ∀ D k, tab D k → k < 11) (ne : ie ≠ ip) (lt : ip < X.N.length) (h : PE (X.suite a ((a, oe) :: pn)) e (tLc (iRng1 (tCons (tC (.int 11)) tNil)) (gName ip) (tB (tErrX (spO tab) cls d a ie 2 (tCons (tVar ip) tNil))) (tVar ip) [ip])) : PE (X.suite a ((a, oe) :: pn)) e (tHnd tab [] ie a cls d) := by
  constructor
  intro pins s σ H Q J w
  obtain ⟨h0, D, m, e1, e2, ht, hq⟩ := w
  subst e1 e2
  exact h.run pins s σ H Q J (lc_onlyX h0 ne (by rw [J.len]; exact lt) (hM D m ht) ht hq)
end
end Hue
-- Hue34
namespace Hue
open PySem PySem.Spec PyProof.Rows L2
open Evl (Ex)
/-! ### sorted(xs), xs a list of tuples of ints, none empty -/
def intB : PyData → Bool
  | .int _ => true
  | _ => false
def isTI : PyData → Bool
  | .tuple (x :: r) => (x :: r).all intB
  | _ => false
def leT : PyData → PyData → Bool := PySem.W.dataLe false fun d : PyData => d
theorem alike_intB : ∀ {xs ys : List PyData}, xs.all intB = true → ys.all intB = true → PySem.W.alikeAll xs ys = true
  | [], _, _, _ => by simp [PySem.W.alikeAll]
  | _ :: _, [], _, _ => by simp [PySem.W.alikeAll]
  | x :: xs, y :: ys, h, g => by
    rw [List.all_cons, Bool.and_eq_true] at h g
    rw [PySem.W.alikeAll, alike_intB h.2 g.2, Bool.and_true]
    cases x with
    | int i => cases y with
      | int j => simp [PySem.W.alike]
      | _ => cases g.1
    | _ => cases h.1
theorem depth_intB : ∀ {xs : List PyData}, xs.all intB = true → PyData.depthAll xs = 0
  | [], _ => by simp [PyData.depthAll]
  | x :: xs, h => by
    rw [List.all_cons, Bool.and_eq_true] at h
    rw [PyData.depthAll, depth_intB h.2]
    cases x with
    | int i => simp [PyData.depth]
    | _ => cases h.1
theorem isTI_inv {d : PyData} (h : isTI d = true) : ∃ x r, d = .tuple (x :: r) ∧ (x :: r).all intB = true := by
  unfold isTI at h
  split at h
  · exact ⟨_, _, rfl, h⟩
  · cases h
def sortRD : List PyData → Option Rv
  | [.list ds] => if (ds.all isTI && decide (ds.length ≤ 100000)) = true then some (.new (ds.mergeSort leT)) else none
  | _ => none
def rSortR (K : PySem.W.Frag) : List V → Hp → VK → Prop := fun vs H Q => ∃ a ys ds, vs = [V.ref a] ∧ SqL K H a ys ∧ DtA K H ys ds ∧ ds.all isTI = true ∧ ds.length ≤ 100000 ∧
  ∀ (p : Addr) (bs : List (V × PyData)), H p = none → bs.Perm (ys.zip ds) → bs.map (·.2) = ds.mergeSort leT → Q (.ref p) (upd H p (.lst (bs.map (·.1))))
theorem each_zip {R : Value → V × PyData → Prop} {K : PySem.W.Frag} {H : Hp} : ∀ {ys : List V} {ds : List PyData} {us : List Value}, DtA K H ys ds → Vals ys us → (∀ y d u, Dt K H y d → RelV y u → R u (y, d)) → PySem.W.EachIs R us (ys.zip ds)
  | _, _, _, .nil, r, _ => by cases r; exact .nil
  | _, _, _, .cons h1 h2, r, g => by
    cases r with
    | cons r1 r2 => exact .cons (g _ _ _ h1 r1) (each_zip h2 r2 g)
theorem DtA.len {K : PySem.W.Frag} {H : Hp} {ys : List V} {ds : List PyData} (h : DtA K H ys ds) : ys.length = ds.length := h.length
theorem vals_each {R : Value → V × PyData → Prop} (g : ∀ u b, R u b → RelV b.1 u) : ∀ {us : List Value} {bs : List (V × PyData)}, PySem.W.EachIs R us bs → Vals (bs.map (·.1)) us
  | _, _, .nil => .nil
  | _, _, .cons h t => .cons (g _ _ h) (vals_each g t)
section
variable {X : Cx}
theorem ksortR {k : Nat} (K : PySem.W.Frag) (hK : X.K = K) (hr : Room k X.A) : CallR X (.builtin "sorted") (rSortR K) := by
  subst hK
  intro pins s σ H vs us Q I r h
  obtain ⟨a, ys, ds, rfl, hs, hd, ht, hl0, q⟩ := h
  obtain ⟨its, rv, hl, hz⟩ := I.list hs
  rw [Vals.ref1 r]
  have un := hr.un
  have lz : ys.length = ds.length := hd.length
  have snd : (ys.zip ds).map (·.2) = ds := by rw [List.map_snd_zip (by omega)]
  have eR : PySem.W.EachIs (fun v (b : V × PyData) => RelV b.1 v ∧ ∃ as, Reads s.heap v b.2 as) its (ys.zip ds) := each_zip hd rv fun y d u h1 h2 => by
    obtain ⟨as, h3, _⟩ := Dt.reads I h1 h2
    exact ⟨h2, as, h3⟩
  have tis : ∀ b ∈ ys.zip ds, isTI b.2 = true := fun b hb => List.all_eq_true.mp ht b.2 (List.of_mem_zip (a := b.1) (b := b.2) hb).2
  refine PySem.W.sorted_data (β := V × PyData) (enc := fun b => b.2) (R := fun v b => RelV b.1 v ∧ ∃ as, Reads s.heap v b.2 as) hl.isList eR (eR.mono fun _ _ h => h.2) ?_ (.inl ?_) ?_ ?_ fun out ho he => ?_
  · intro d hd' d' hd2
    rw [snd] at hd' hd2
    obtain ⟨x, r, rfl, h1⟩ := isTI_inv (List.all_eq_true.mp ht d hd')
    obtain ⟨y, t, rfl, h2⟩ := isTI_inv (List.all_eq_true.mp ht d' hd2)
    rw [PySem.W.alike]
    exact alike_intB h1 h2
  · intro d hd'
    rw [snd] at hd'
    obtain ⟨x, r, rfl, h1⟩ := isTI_inv (List.all_eq_true.mp ht d hd')
    exact ⟨x, r, rfl⟩
  · rw [List.length_zip]
    exact Evl.sz_of (by omega)
  · intro b hb
    obtain ⟨x, r, e, h1⟩ := isTI_inv (tis b hb)
    have e2 : b.2.depth ≤ 1 := by
      rw [e, PyData.depth, depth_intB h1]
      exact Nat.le_refl 1
    omega
  · obtain ⟨ep, he'⟩ := PyProof.Rows.sortedAll_at s.heap its out.toArray
    have pm : ((ys.zip ds).mergeSort (PySem.W.dataLe false fun b : V × PyData => b.2)).Perm (ys.zip ds) := List.mergeSort_perm _ _
    have mp : ((ys.zip ds).mergeSort (PySem.W.dataLe false fun b : V × PyData => b.2)).map (·.2) = ds.mergeSort leT := by
      have z := List.map_mergeSort (r := PySem.W.dataLe false fun b : V × PyData => b.2) (s := leT) (f := fun b : V × PyData => b.2) (l := ys.zip ds) (fun a _ b _ => rfl)
      rw [snd] at z
      exact z
    generalize (ys.zip ds).mergeSort (PySem.W.dataLe false fun b : V × PyData => b.2) = bs at he pm mp
    have hlen : (bs.map (·.1)).length ≤ sizeLine := by
      rw [List.length_map, pm.length_eq, List.length_zip]
      exact Evl.sz_of (by omega)
    exact ⟨.ref _, upd H (s.heap.objs.size + 1) (.lst (bs.map (·.1))), I.laid (t' := s.toks) (fun _ _ => PyProof.Rows.sortedAll_old) (Nat.le_succ _) ⟨hlen, out, ep, vals_each (fun _ _ h => h.1) he, by simpa using he'⟩, rfl, q _ bs (I.hok.fresh (Nat.le_succ _)) pm mp⟩
end
theorem DtA.ofPairs {K : PySem.W.Frag} {G : Hp} : ∀ {bs : List (V × PyData)}, (∀ b ∈ bs, Dt K G b.1 b.2) → DtA K G (bs.map (·.1)) (bs.map (·.2))
  | [], _ => .nil
  | b :: r, h => .cons (h b (List.mem_cons_self ..)) (DtA.ofPairs fun x hx => h x (List.mem_cons_of_mem _ hx))
theorem DtA.zip {K : PySem.W.Frag} {G : Hp} : ∀ {ys : List V} {ds : List PyData}, DtA K G ys ds → ∀ b ∈ ys.zip ds, Dt K G b.1 b.2
  | _, _, .nil, b, hb => by cases hb
  | _, _, .cons h1 h2, b, hb => by
    rw [List.zip_cons_cons] at hb
    rcases List.mem_cons.mp hb with e | e
    · rw [e]; exact h1
    · exact DtA.zip h2 b e
section
variable {K : PySem.W.Frag} {mg : Str → Option Value} {E : XW}
theorem cas_sortR : CaS K (rSortR K) sortRD := fun mg B L G σ H ρ vs ds z Q A hv hz k => by
  unfold sortRD at hz
  split at hz
  · rename_i es
    by_cases q : (es.all isTI && decide (es.length ≤ 100000)) = true
    · rw [if_pos q] at hz
      cases hz
      rw [Bool.and_eq_true, decide_eq_true_eq] at q
      obtain ⟨v, rfl, h1⟩ := hv.one
      obtain ⟨a, xs, rfl, h2, h3⟩ := h1.lst_inv
      refine ⟨a, xs, es, rfl, SqL.of (A.exG _ _ h2), h3.mono A.exG, q.1, q.2, fun p bs hp pm mp => ?_⟩
      have dd : DtA K G (bs.map (·.1)) (es.mergeSort leT) := by
        rw [← mp]
        exact DtA.ofPairs fun b hb => DtA.zip h3 b (pm.mem_iff.mp hb)
      have T := A.fresh hp dd
      exact k _ _ _ (Ex.refl _) T.1 T.2
    · rw [if_neg q] at hz; cases hz
  · cases hz
end
/-! ### min(xs, default=d), max(xs, default=d), xs a list of ints -/
def rBestD (K : PySem.W.Frag) (f : Int → Int → Int) : List V → List V → Hp → VK → Prop := fun vs zs H Q => ∃ a ns z, vs = [V.ref a] ∧ zs = [z] ∧ SqL K H a (ns.map V.int) ∧ (ns = [] → Q z H) ∧ ∀ n r, ns = n :: r → Q (.int (r.foldl f n)) H
theorem reads_intsAre {h : Heap} {vs : List Value} {ns : List Int} (hi : IntsAre vs ns) : ∃ as, ReadsAll h vs (ns.map PyData.int) as := by
  induction hi with
  | nil => exact ⟨[], .nil⟩
  | cons _ _ _ ih =>
    obtain ⟨as, q⟩ := ih
    exact ⟨_, .cons (.int _ _) q⟩
theorem alike_nums (ns : List Int) : PySem.W.AlikeAll (ns.map PyData.int) := by
  refine ⟨fun x hx y hy => ?_, fun x hx e => ?_⟩
  · obtain ⟨i, _, rfl⟩ := List.mem_map.mp hx
    obtain ⟨j, _, rfl⟩ := List.mem_map.mp hy
    simp [PySem.W.alike]
  · obtain ⟨i, _, rfl⟩ := List.mem_map.mp hx
    cases e
section
variable {X : Cx}
theorem kminD {k : Nat} (K : PySem.W.Frag) (hK : X.K = K) (hc : X.calm = true) (hr : Room k X.A) : CallRK X (.builtin "min") [Str.ofString "default"] (rBestD K min) := by
  subst hK
  intro pins s σ H vs zs us ws Q I r rz h
  obtain ⟨a, ns, z, rfl, rfl, hs, q0, q1⟩ := h
  obtain ⟨its, rv, hl, hz⟩ := I.list hs
  obtain rfl := Vals.ref1 r
  obtain ⟨w1, rfl, e1⟩ := vals1 rz
  obtain ⟨as, hR⟩ := reads_intsAre (h := s.heap) rv.ints
  have un := hr.un
  refine PySem.W.min_list_default (xs := ns.map PyData.int) (I.ok.hd hc) hl.isList (by simpa using hR) (alike_nums ns) (by rw [PySem.W.depth_ints]; omega) (fun e h' tk hk => ⟨z, H, I.kept hk, e1, q0 (List.map_eq_nil_iff.mp e)⟩) fun y ys i v h' tk bs e hv hrd hk => ?_
  cases ns with
  | nil => cases e
  | cons n t =>
    rw [List.map_cons] at e
    cases e
    rw [PySem.W.minD_ints] at hrd
    obtain ⟨t0, rfl, _⟩ := reads_int_inv hrd
    exact ⟨.int _, H, I.kept hk, ⟨_, rfl⟩, q1 n t rfl⟩
theorem kmaxD {k : Nat} (K : PySem.W.Frag) (hK : X.K = K) (hc : X.calm = true) (hr : Room k X.A) : CallRK X (.builtin "max") [Str.ofString "default"] (rBestD K max) := by
  subst hK
  intro pins s σ H vs zs us ws Q I r rz h
  obtain ⟨a, ns, z, rfl, rfl, hs, q0, q1⟩ := h
  obtain ⟨its, rv, hl, hz⟩ := I.list hs
  obtain rfl := Vals.ref1 r
  obtain ⟨w1, rfl, e1⟩ := vals1 rz
  obtain ⟨as, hR⟩ := reads_intsAre (h := s.heap) rv.ints
  have un := hr.un
  refine PySem.W.max_list_default (xs := ns.map PyData.int) (I.ok.hd hc) hl.isList (by simpa using hR) (alike_nums ns) (by rw [PySem.W.depth_ints]; omega) (fun e h' tk hk => ⟨z, H, I.kept hk, e1, q0 (List.map_eq_nil_iff.mp e)⟩) fun y ys i v h' tk bs e hv hrd hk => ?_
  cases ns with
  | nil => cases e
  | cons n t =>
    rw [List.map_cons] at e
    cases e
    rw [PySem.W.maxD_ints] at hrd
    obtain ⟨t0, rfl, _⟩ := reads_int_inv hrd
    exact ⟨.int _, H, I.kept hk, ⟨_, rfl⟩, q1 n t rfl⟩
end
section
variable {K : PySem.W.Frag} {mg : Str → Option Value} {E : XW}
/-- a call with keywords, as flows have it -/
def CaK (K : PySem.W.Frag) (r : List V → List V → Hp → VK → Prop) (f : List PyData → List PyData → Option Rv) : Prop := ∀ (mg : Str → Option Value) (B : Hp) (L : Frm) (G : Hp) (σ : L2.St) (H : Hp) (ρ : Env) (vs ws : List V) (ds es : List PyData) (z : Rv) (Q : VK), Ab ⟨K, mg, B, L⟩ G σ H ρ → DtA K G vs ds → DtA K G ws es → f ds es = some z →
  (∀ v G' H', Ex G G' → Ab ⟨K, mg, B, L⟩ G' σ H' ρ → RvOk ⟨K, mg, B, L⟩ G' σ H' ρ v z → Q v H') → r vs ws H Q
def mCk (f : List PyData → List PyData → Option Rv) (a b : M (List PyData)) : M Rv := mBind a fun ds => mBind b fun es => mOpt (f ds es)
theorem sx_ck {r : List V → List V → Hp → VK → Prop} {f : List PyData → List PyData → Option Rv} {t u : TA} {a b : M (List PyData)} (hc : CaK K r f) (h : SA K mg E t a) (h2 : SA K mg E u b) : SX K mg E (tCKw r t u) (mCk f a b) := fun B L G σ H ρ Q A w => by
  refine h B L G σ H ρ _ A ((WR.bind w).mono fun G1 H1 ρ1 ds e1 A1 k vs hv => ?_)
  refine h2 B L G1 σ H1 ρ1 _ A1 ((WR.bind k).mono fun G2 H2 ρ2 es e2 A2 k2 ws hw => ?_)
  obtain ⟨z, q, k3⟩ := WR.opt k2
  exact hc mg B L G2 σ H2 ρ2 vs ws ds es z Q A2 (hv.mono e2) hw q fun v G' H' e3 A3 hv => k3 G' H' e3 A3 v hv
def bestI (f : Int → Int → Int) (d : PyData) : List Int → Rv
  | [] => .dat d
  | n :: r => .dat (.int (r.foldl f n))
def bestD (f : Int → Int → Int) : List PyData → List PyData → Option Rv
  | [.list ds], [d] => (intsD ds).map (bestI f d)
  | _, _ => none
theorem cak_best {f : Int → Int → Int} : CaK K (rBestD K f) (bestD f) := fun mg B L G σ H ρ vs ws ds es z Q A hv hw hz k => by
  unfold bestD at hz
  split at hz
  · rename_i es d
    cases q : intsD es with
    | none => rw [q] at hz; cases hz
    | some ns =>
      rw [q] at hz
      have hz : some (bestI f d ns) = some z := hz
      obtain ⟨v, rfl, h1⟩ := hv.one
      obtain ⟨w, rfl, h4⟩ := hw.one
      obtain ⟨a, xs, rfl, h2, h3⟩ := h1.lst_inv
      rw [intsD_inv q] at h3
      rw [h3.ints] at h2
      refine ⟨a, ns, w, rfl, rfl, SqL.of (A.exG _ _ h2), fun e => ?_, fun n r e => ?_⟩
      · subst e
        cases hz
        exact k _ G H (Ex.refl G) A h4
      · subst e
        cases hz
        exact k _ G H (Ex.refl G) A (.int _)
  · cases hz
end
end Hue
-- Hue35
namespace Hue
open PySem PySem.Spec PyProof.Rows L2
open Evl (Ex)
/-! ### xs.pop(i) where a comprehension stands around it -/
theorem kpe_pop {X : Cx} (K : PySem.W.Frag) (hK : X.K = K) {o e : Expr} {to te : TE} {ap cp : Pos} (ho : PE X o to) (he : PE X e te) (h1 : attributeBase o "pop" X.env (eval o X.env) = eval o X.env := by rfl)
    (h2 : ((backTo cp (starEach [e] X.env)).all (fun x => !x.1) && (backToKw cp (keywordEach [] X.env)).all (fun x => x.1.isSome) && decide ([e].length + ([] : List Keyword).length + (if ([] : List Keyword).isEmpty then 0 else 1) < 30)) = true := by rfl)
    (h3 : (ap.endLine == cp.line) = true := by rfl) (h4 : starEach [e] X.env = (false, eval e X.env) :: starEach [] X.env := by rfl) (h5 : (backTo cp (starEach [] X.env)).any (·.1) = false := by rfl) :
    PE X (.Call (.Attribute o "pop" ap) [e] [] cp) (tBM K "list" rPopAt to (tCons te tNil)) := by
  subst hK
  exact pe_bm PySem.F.plainAttrs_list PySem.F.slot_list_pop PySem.F.type_list_pop mt_popAt ho (pa_cons he pa_nil h4) h1 h2 h3 h4 h5
end Hue
-- Hue36
namespace Hue
open PySem PySem.Spec PyProof.Rows L2
open Evl (Ex)
/-! ### xs[i] op= e, xs a held list, i from nought on -/
def rGetL : V → V → Hp → VK → Prop := fun o i H Q => ∃ p xs k x, o = .ref p ∧ i = .int k ∧ H p = some (.lst xs) ∧ 0 ≤ k ∧ xs[k.toNat]? = some x ∧ Q x H
theorem get_list {X : Cx} : PGet X rGetL := by
  intro pins s σ H o i ov iv Q J ro ri h
  obtain ⟨p, xs, k, x, rfl, rfl, hp, k0, hx, q⟩ := h
  cases ro
  obtain ⟨t, rfl⟩ := ri
  obtain ⟨its, n, r, ho, hz⟩ := J.lst hp
  have lt : k.toNat < xs.length := (List.getElem?_eq_some_iff.mp hx).1
  have hn := line63
  have hl := r.length
  obtain ⟨u, hu, ru⟩ : ∃ u, its[k.toNat]? = some u ∧ RelV x u := by
    have z := r.get hx
    exact z
  refine wpAny_getItem_list (x := u) ⟨_, ho, rfl, n, rfl⟩ k0 (by omega) (by simpa using hu) ⟨x, H, J, ru, q⟩
section
variable {K : PySem.W.Frag} {mg : Str → Option Value} {E : XW} {G G' H H' : Hp} {σ σ' : L2.St} {ρ ρ' : Env}
def mAugP (k : Nat) (mi : M PyData) (f : Int → Int → Int) (m : M PyData) : Env → Fl := fun ρ => if (heldAt ρ k).isSome = true then mThen mi (fun i ρ1 => match i, heldAt ρ1 k with
  | .int i, some ds => if 0 ≤ i then match ds[i.toNat]? with
    | some (.int x) => mThen m (fun d ρ2 => match d, heldAt ρ2 k with
      | .int y, some es => if i.toNat < es.length then .nx (putAt ρ2 k (es.set i.toNat (.int (f x y)))) else .bad
      | _, _ => .bad) ρ1
    | _ => .bad else .bad
  | _, _ => .bad) ρ else .bad
theorem DtA.atN : ∀ {vs : List V} {ds : List PyData}, DtA K G vs ds → ∀ {j : Nat} {d : PyData}, ds[j]? = some d → ∃ v, vs[j]? = some v ∧ Dt K G v d
  | _, _, .nil, j, d, z => by cases z
  | _, _, .cons h1 h2, 0, d, z => by cases z; exact ⟨_, rfl, h1⟩
  | _, _, .cons h1 h2, j + 1, d, z => DtA.atN h2 z
theorem ixN_of {n : Nat} {i : Int} (h0 : 0 ≤ i) (h : i.toNat < n) : ixN n i = some i.toNat := by
  unfold ixN
  rw [if_pos h0, if_pos (by omega)]
theorem ss_augP {ti te : TE} {mi m : M PyData} {k : Nat} {f : Int → Int → Int} (hi : SE K mg E ti mi) (h : SE K mg E te m) : SS K mg E (tAugS (tVar k) ti te rGetL (ipI f) rSetL) (mAugP k mi f m) := fun B L G σ H ρ D A w => by
  unfold mAugP at w
  by_cases z : (heldAt ρ k).isSome = true
  · rw [if_pos z] at w
    obtain ⟨ds0, z⟩ := Option.isSome_iff_exists.mp z
    obtain ⟨a, hh, vs0, l0, _⟩ := A.held z
    refine ⟨.ref a, hh.2, ?_⟩
    refine hi B L G σ H ρ _ A ((WS.thn A w).mono fun G1 H1 ρ1 i e1 A1 k1 x hx => ?_)
    split at k1
    · rename_i i ds q
      by_cases i0 : 0 ≤ i
      · rw [if_pos i0] at k1
        split at k1
        · rename_i n qn
          obtain ⟨b, hb, vs, l, d1, g1, b1⟩ := A1.held q
          obtain rfl := hold_same hb hh.2
          obtain ⟨v, hv, dv⟩ := d1.atN qn
          refine ⟨b, vs, i, v, rfl, hx.int_inv, l, i0, hv, ?_⟩
          refine h B L G1 σ H1 ρ1 _ A1 ((WS.thn A1 k1).mono fun G2 H2 ρ2 d e2 A2 k2 y hy => ?_)
          split at k2
          · rename_i y es q2
            by_cases lt : i.toNat < es.length
            · rw [if_pos lt] at k2
              obtain ⟨c, hc, ws, l2, d2, g2, b2⟩ := A2.held q2
              obtain rfl := hold_same hc hh.2
              refine ⟨n, y, dv.int_inv, hy.int_inv, c, ws, i, i.toNat, rfl, hx.int_inv, l2, by rw [d2.length]; exact ixN_of i0 lt, ?_⟩
              exact k2.nx' (A2.put hc (d2.set (.int _) i.toNat))
            · rw [if_neg lt] at k2; exact k2.elim
          · exact k2.elim
        · exact k1.elim
      · rw [if_neg i0] at k1; exact k1.elim
    · exact k1.elim
  · rw [if_neg z] at w; exact w.elim
/-! ### xs.count(x), xs.index(x), xs a list that is data -/
def LmS (K : PySem.W.Frag) (r : V → List V → Hp → VK → Prop) (f : List PyData → PyData → Option Rv) : Prop := ∀ (mg : Str → Option Value) (B : Hp) (L : Frm) (G : Hp) (σ : L2.St) (H : Hp) (ρ : Env) (a : Addr) (ds : List PyData) (y : V) (e : PyData) (z : Rv) (Q : VK), Ab ⟨K, mg, B, L⟩ G σ H ρ → Dt K G (.ref a) (.list ds) → Dt K G y e → f ds e = some z →
  (∀ v G' H', Ex G G' → Ab ⟨K, mg, B, L⟩ G' σ H' ρ → RvOk ⟨K, mg, B, L⟩ G' σ H' ρ v z → Q v H') → r (.ref a) [y] H Q
def mLm (f : List PyData → PyData → Option Rv) (m mk : M PyData) : M Rv := mBind m fun d => match d with
  | .list ds => mBind mk fun e => mOpt (f ds e)
  | _ => fun _ => .bad
theorem sx_lm {r : V → List V → Hp → VK → Prop} {f : List PyData → PyData → Option Rv} {t tk : TE} {m mk : M PyData} (hr : LmS K r f) (h : SE K mg E t m) (hk : SE K mg E tk mk) : SX K mg E (tBM K "list" r t (tCons tk tNil)) (mLm f m mk) := fun B L G σ H ρ Q A w => by
  refine h B L G σ H ρ _ A ((WR.bind w).mono fun G1 H1 ρ1 d e1 A1 k1 x hx => ?_)
  cases d with
  | list ds =>
    obtain ⟨a, xs, rfl, h2, h3⟩ := hx.lst_inv
    refine ⟨.inl ⟨rfl, xs, SqL.of (A1.exG _ _ h2)⟩, ?_⟩
    refine hk B L G1 σ H1 ρ1 _ A1 ((WR.bind k1).mono fun G2 H2 ρ2 kd e2 A2 k2 y hy => ?_)
    obtain ⟨z, q, k3⟩ := WR.opt k2
    exact hr mg B L G2 σ H2 ρ2 a ds y kd z Q A2 (hx.mono e2) hy q fun v G' H' e A' hv => k3 G' H' e A' v hv
  | _ => exact k1.elim
def countD (ds : List PyData) (d : PyData) : Option Rv := if (shp (.list ds) && shp d) = true then some (.dat (.int ((ds.countP fun z => PyData.eqv z d : Nat) : Int))) else none
theorem lm_count : LmS K (rCount K) countD := fun mg B L G σ H ρ a ds y e z Q A hl hy hz k => by
  unfold countD at hz
  by_cases q : (shp (.list ds) && shp e) = true
  · rw [if_pos q] at hz
    cases hz
    rw [Bool.and_eq_true] at q
    exact ⟨a, y, e, ds, rfl, rfl, hl.dp A.exG (SeqAt.canLay_of_shaped q.1), hy.dp A.exG (SeqAt.canLay_of_shaped q.2), q.1, q.2, k _ G H (Ex.refl G) A (.int _)⟩
  · rw [if_neg q] at hz; cases hz
def indexLD (ds : List PyData) (d : PyData) : Option Rv := if (shp (.list ds) && shp d) = true then (ds.findIdx? fun z => PyData.eqv z d).map fun j => .dat (.int (j : Nat)) else none
theorem lm_index : LmS K (rIndexD K) indexLD := fun mg B L G σ H ρ a ds y e z Q A hl hy hz k => by
  unfold indexLD at hz
  by_cases q : (shp (.list ds) && shp e) = true
  · rw [if_pos q] at hz
    rw [Bool.and_eq_true] at q
    cases f : ds.findIdx? fun z => PyData.eqv z e with
    | none => rw [f] at hz; cases hz
    | some j =>
      rw [f] at hz
      cases hz
      obtain ⟨hj, pj, no⟩ := List.findIdx?_eq_some_iff_getElem.mp f
      refine ⟨a, y, e, ds, j, ds[j], rfl, rfl, hl.dp A.exG (SeqAt.canLay_of_shaped q.1), hy.dp A.exG (SeqAt.canLay_of_shaped q.2), q.1, q.2, List.getElem?_eq_getElem hj, pj, fun m z' hm hz' => ?_, k _ G H (Ex.refl G) A (.int _)⟩
      have z := no m hm
      rw [List.getElem?_eq_getElem (by omega)] at hz'
      cases hz'
      exact Bool.not_eq_true _ |>.mp z
  · rw [if_neg q] at hz; cases hz
end
theorem kpe_index {X : Cx} {n : Nat} (K : PySem.W.Frag) (hK : X.K = K) (hr : Room n X.A) {o e : Expr} {to te : TE} {ap cp : Pos} (ho : PE X o to) (he : PE X e te) (h1 : attributeBase o "index" X.env (eval o X.env) = eval o X.env := by rfl)
    (h2 : ((backTo cp (starEach [e] X.env)).all (fun x => !x.1) && (backToKw cp (keywordEach [] X.env)).all (fun x => x.1.isSome) && decide ([e].length + ([] : List Keyword).length + (if ([] : List Keyword).isEmpty then 0 else 1) < 30)) = true := by rfl)
    (h3 : (ap.endLine == cp.line) = true := by rfl) (h4 : starEach [e] X.env = (false, eval e X.env) :: starEach [] X.env := by rfl) (h5 : (backTo cp (starEach [] X.env)).any (·.1) = false := by rfl) :
    PE X (.Call (.Attribute o "index" ap) [e] [] cp) (tBM K "list" (rIndexD K) to (tCons te tNil)) := by
  subst hK
  have un := hr.un
  exact pe_bm PySem.F.plainAttrs_list PySem.F.slot_list_index PySem.F.type_list_index (mt_indexD (by omega)) ho (pa_cons he pa_nil h4) h1 h2 h3 h4 h5
theorem kpe_count {X : Cx} {n : Nat} (K : PySem.W.Frag) (hK : X.K = K) (hr : Room n X.A) {o e : Expr} {to te : TE} {ap cp : Pos} (ho : PE X o to) (he : PE X e te) (h1 : attributeBase o "count" X.env (eval o X.env) = eval o X.env := by rfl)
    (h2 : ((backTo cp (starEach [e] X.env)).all (fun x => !x.1) && (backToKw cp (keywordEach [] X.env)).all (fun x => x.1.isSome) && decide ([e].length + ([] : List Keyword).length + (if ([] : List Keyword).isEmpty then 0 else 1) < 30)) = true := by rfl)
    (h3 : (ap.endLine == cp.line) = true := by rfl) (h4 : starEach [e] X.env = (false, eval e X.env) :: starEach [] X.env := by rfl) (h5 : (backTo cp (starEach [] X.env)).any (·.1) = false := by rfl) :
    PE X (.Call (.Attribute o "count" ap) [e] [] cp) (tBM K "list" (rCount K) to (tCons te tNil)) := by
  subst hK
  have un := hr.un
  exact pe_bm PySem.F.plainAttrs_list PySem.F.slot_list_count PySem.F.type_list_count (mt_count (by omega)) ho (pa_cons he pa_nil h4) h1 h2 h3 h4 h5
end Hue
-- Hue37
namespace Hue
open PySem PySem.Spec PyProof.Rows L2
open Evl (Ex)
/-! ### {e for x in xs for y in ys}: a set of ints -/
abbrev sc2 (el t0 i0 t1 i1 : Expr) (sp : Scope) (ps : Pos) : Expr := .SetComp el [⟨t0, i0, [], 0⟩, ⟨t1, i1, [], 0⟩] sp ps
section
variable {P : Program} {w : World} {A : Around} {Z : Result → Shared → Prop} {s : Shared} {el t0 i0 t1 i1 : Expr} {sp : Scope} {ps : Pos} {it acc : Value} {en : PySem.Env}
theorem sc2_first : compTurn (sc2 el t0 i0 t1 i1 sp ps) 0 it acc en = (do
    standAt i0.pos
    match ← pyNext it with
    | none => pure (.done .next)
    | some v =>
      letOwnedTupleGo t0 it v
      assign t0 en v
      let x ← eval i1 en
      standAt i1.pos
      let x ← foldedSetIterable i1 en x
      let _ ← runOwn (.compStart (sc2 el t0 i0 t1 i1 sp ps) 1 (← holding [x] (pyIter x)) acc en) en
      again (.compLoop (sc2 el t0 i0 t1 i1 sp ps) 0 it acc en)) := by rfl
theorem sc2_second : compTurn (sc2 el t0 i0 t1 i1 sp ps) 1 it acc en = (do
    standAt i1.pos
    match ← pyNext it with
    | none => pure (.done .next)
    | some v =>
      letOwnedTupleGo t1 it v
      assign t1 en v
      (do let v ← eval el en; standAt el.pos; let _ ← call (.builtin "set.add") [acc, v])
      again (.compLoop (sc2 el t0 i0 t1 i1 sp ps) 1 it acc en)) := by rfl

/-- no error goes out -/
abbrev Nerr : Value → Shared → Prop := fun _ _ => False
theorem quiet {α : Type} {M : Model} {m : Sem α} {Q : α → Shared → Prop} {E : Value → Shared → Prop} {s : Shared} (h : wpAny M A m Q Nerr s) : wpAny M A m Q E s := wpAny_mono h (fun _ _ q => q) fun _ _ q => q.elim
theorem sc2_out (hs : ∀ x, foldedSetIterable i1 en x = pure x) (V : Nat → Shared → Prop)
    (step : ∀ n s, V n s → wpAny (model P w) A (pyNext it) (fun r s1 => match r with
      | none => Z (.ok .next) s1
      | some v => wpAny (model P w) A (letOwnedTupleGo t0 it v) (fun _ s2 => wpAny (model P w) A (assign t0 en v) (fun _ s3 => wpAny (model P w) A (eval i1 en) (fun x s4 => wpAny (model P w) A (pyIter x) (fun j s5 =>
          codeAny (model P w) A (.compStart (sc2 el t0 i0 t1 i1 sp ps) 1 j acc en) (fun r s' => match r with
            | .ok _ => ∃ m, m < n ∧ V m s'
            | .error _ => False) s5) Nerr s4) Nerr s3) Nerr s2) Nerr s1) Nerr s) (n : Nat) (h0 : V n s) : codeAny (model P w) A (.compLoop (sc2 el t0 i0 t1 i1 sp ps) 0 it acc en) Z s := by
  refine codeAny_loop rfl V (fun n s v0 => ?_) n h0
  show wpAny _ A ((compTurn (sc2 el t0 i0 t1 i1 sp ps) 0 it acc en).onRaise (fun x => do noteFrame x en; theTreesLotGoes x)) _ _ s
  refine wpAny_noted ?_
  rw [sc2_first]
  refine wpAny_bind (wpAny_standAt (wpAny_bind (wpAny_mono (step n s v0) (fun r s1 k1 => ?_) fun _ _ z => z.elim)))
  cases r with
  | none => exact wpAny_pure k1
  | some v =>
    refine wpAny_bind (wpAny_mono k1 (fun _ s2 k2 => wpAny_bind (wpAny_mono k2 (fun _ s3 k3 => wpAny_bind (wpAny_mono k3 (fun x s4 k4 => ?_) fun _ _ z => z.elim)) fun _ _ z => z.elim)) fun _ _ z => z.elim)
    refine wpAny_bind (wpAny_standAt (wpAny_bind (wpAny_of_eq (hs x) (wpAny_bind (wpAny_holding (wpAny_mono k4 (fun j s5 k5 => wpAny_bind (wpAny_runOwn ?_)) fun _ _ z => z.elim))))))
    rw [Around.mark_none]
    refine codeAny_mono k5 fun r s' kr => ?_
    cases r with
    | ok f => exact wpAny_pure ⟨rfl, kr⟩
    | error e => exact kr.elim
theorem sc2_in (V : Nat → Shared → Prop)
    (step : ∀ n s, V n s → wpAny (model P w) A (pyNext it) (fun r s1 => match r with
      | none => Z (.ok .next) s1
      | some v => wpAny (model P w) A (letOwnedTupleGo t1 it v) (fun _ s2 => wpAny (model P w) A (assign t1 en v) (fun _ s3 => wpAny (model P w) A (eval el en) (fun x s4 =>
          wpAny (model P w) A (call (.builtin "set.add") [acc, x]) (fun _ s5 => ∃ m, m < n ∧ V m s5) Nerr s4) Nerr s3) Nerr s2) Nerr s1) Nerr s) (n : Nat) (h0 : V n s) : codeAny (model P w) A (.compLoop (sc2 el t0 i0 t1 i1 sp ps) 1 it acc en) Z s := by
  refine codeAny_loop rfl V (fun n s v0 => ?_) n h0
  show wpAny _ A ((compTurn (sc2 el t0 i0 t1 i1 sp ps) 1 it acc en).onRaise (fun x => do noteFrame x en; theTreesLotGoes x)) _ _ s
  refine wpAny_noted ?_
  rw [sc2_second]
  refine wpAny_bind (wpAny_standAt (wpAny_bind (wpAny_mono (step n s v0) (fun r s1 k1 => ?_) fun _ _ z => z.elim)))
  cases r with
  | none => exact wpAny_pure k1
  | some v =>
    refine wpAny_bind (wpAny_mono k1 (fun _ s2 k2 => wpAny_bind (wpAny_mono k2 (fun _ s3 k3 => ?_) fun _ _ z => z.elim)) fun _ _ z => z.elim)
    exact wpAny_bind (wpAny_bind (wpAny_mono k3 (fun x s4 k4 => wpAny_bind (wpAny_standAt (wpAny_bind (wpAny_mono k4 (fun _ s5 k5 => wpAny_pure (wpAny_pure ⟨rfl, k5⟩)) fun _ _ z => z.elim)))) fun _ _ z => z.elim))
/-- the start of either clause -/
theorem sc2_start {k : Nat} (hk : k = 0 ∨ k = 1) (h0 : codeAny (model P w) A (.compLoop (sc2 el t0 i0 t1 i1 sp ps) k it acc en) Z s)
    (h : wpAny (model P w) A (pyIter it) (fun j s' => codeAny (model P w) A (.compLoop (sc2 el t0 i0 t1 i1 sp ps) k j acc en) Z s') Nerr s) : codeAny (model P w) A (.compStart (sc2 el t0 i0 t1 i1 sp ps) k it acc en) Z s := by
  rcases hk with rfl | rfl
  all_goals
    refine codeAny_of_tree ?_
    show wpAny _ _ ((compStart (sc2 el t0 i0 t1 i1 sp ps) _ it acc en).onRaise (fun x => do noteFrame x en; standAt theWindowsPlace)) _ _ s
    refine wpAny_notedAt ?_
    unfold compStart
    show wpAny _ _ (ask >>= _) _ _ s
    refine wpAny_bind (wpAny_askSetting (wpAny_ite ?_))
    split
    · first
        | exact wpAny_pure ⟨rfl, h0⟩
        | exact wpAny_bind (wpAny_pure (wpAny_pure ⟨rfl, h0⟩))
    · first
        | exact wpAny_bind (wpAny_rule (wpAny_bind (wpAny_standAt (wpAny_bind (wpAny_mono h (fun j s' q => wpAny_pure ⟨rfl, q⟩) fun _ _ z => z.elim)))))
        | (refine wpAny_bind (wpAny_rule ?_); show wpAny _ _ (standAt _ >>= _) _ _ s; exact wpAny_bind (wpAny_standAt (wpAny_bind (wpAny_mono h (fun j s' q => wpAny_pure ⟨rfl, q⟩) fun _ _ z => z.elim))))
end

section
variable {X : Cx}
/-- D: the new set; vs: the block's names; vs1: those that the second clause stores -/
def tSc2 (w : World) (wi : TI) (g : TG) (wi1 : TI) (g1 : TG) (te : TE) (vs vs1 : List Nat) : TE := fun σ H Q => wi σ H fun J Ha => ∀ D, Ha D = none → ∃ W : Nat → Nat → Hp → Prop, (∃ n, W 0 n (upd Ha D (SetO w D (fun _ => false) 0))) ∧ ∀ i n Hb, W i n Hb →
  (J.stop i Hb ∧ Q (.ref D) Hb) ∨ (J.go i Hb ∧ ∃ Nx : Hp → Prop, (∀ Hc, Nx Hc → ∃ k, k < n ∧ W (i + 1) k Hc) ∧ ∀ x Hc, J.yld i Hb x Hc → g x (L2.wipe σ vs) Hc fun σ1 Hd => L2.wipe σ1 vs = L2.wipe σ vs ∧ wi1 σ1 Hd fun J1 He =>
    ∃ W1 : Nat → Nat → Hp → Prop, (∃ n, W1 0 n He) ∧ ∀ j n Hf, W1 j n Hf →
      (J1.stop j Hf ∧ Nx Hf) ∨ (J1.go j Hf ∧ ∃ Nx1 : Hp → Prop, (∀ Hc, Nx1 Hc → ∃ k, k < n ∧ W1 (j + 1) k Hc) ∧ ∀ y Hc, J1.yld j Hf y Hc → g1 y (L2.wipe σ1 vs1) Hc fun σ2 Hg => L2.wipe σ2 vs1 = L2.wipe σ1 vs1 ∧ te σ2 Hg fun z Hh =>
        ∃ (c : Int) (S : Int → Bool) (m : Nat), z = .int c ∧ Hh D = some (SetO w D S m) ∧ m + 1 < scanBound ∧ Nx1 (upd Hh D (SetO w D (fun q => S q || decide (q = c)) (if S c = true then m else m + 1)))))
theorem add_quiet {pins : List (Addr × Obj)} {σ : L2.St} {H : Hp} {s : Shared} {D : Addr} {c : Int} {S : Int → Bool} {m : Nat} {v : Value} {Q : Value → Shared → Prop} (J : Inv X pins σ H s) (hD : H D = some (SetO X.w D S m)) (hm : m + 1 < scanBound) (hv : RelV (.int c) v)
    (k : ∀ s', Inv X pins σ (upd H D (SetO X.w D (fun q => S q || decide (q = c)) (if S c = true then m else m + 1))) s' → Q .none s') : wpAny (model X.prog X.w) X.A (call (.builtin "set.add") [.ref D, v]) Q Nerr s := by
  obtain ⟨tk, rfl⟩ := hv
  refine setR_add (setO_get J hD) hm fun h' sb new => k _ ?_
  refine J.write (e := D) (t' := s.toks + 1) (by rw [hD]; trivial) (.inl rfl) (fun b u hb hu => (sb.2 b hb).trans hu) ?_ (setO_new new)
  obtain ⟨o, _, _, _, ho, _⟩ := id new
  exact ⟨o, ho⟩
abbrev BlkPG (X : Cx) (sp : Scope) (t : Expr) (g : TG) : Prop := ∀ (s : Shared) (H : Hp) (C : Addr) (cl : List (PySem.Str × Addr)) (fp : List Addr), PG (X.blk s H sp (compEnvC sp cl C X.env) fp) t g
abbrev BlkPE (X : Cx) (sp : Scope) (e : Expr) (t : TE) : Prop := ∀ (s : Shared) (H : Hp) (C : Addr) (cl : List (PySem.Str × Addr)) (fp : List Addr), PE (X.blk s H sp (compEnvC sp cl C X.env) fp) e t
abbrev BlkPI (X : Cx) (sp : Scope) (t e : Expr) (wi : TI) : Prop := ∀ (s : Shared) (H : Hp) (C : Addr) (cl : List (PySem.Str × Addr)) (fp : List Addr), PI (X.blk s H sp (compEnvC sp cl C X.env) fp) t e wi
theorem pe_sc2 {el t0 i0 t1 i1 : Expr} {sp : Scope} {own : List (PySem.Str × Nat)} {vs1 : List Nat} {ps : Pos} {wi wi1 : TI} {g g1 : TG} {te : TE} (hc : X.calm = true) (hN : X.N.Nodup) (hi : PI X t0 i0 wi) (ok : BlkOk X.N X.env.scope sp own) (hv : ∀ i ∈ vs1, i ∈ own.map (·.2))
    (hg : BlkPG X sp t0 g) (hi1 : BlkPI X sp t1 i1 wi1) (hg1 : BlkPG X sp t1 g1) (he : BlkPE X sp el te) (hs : ∀ x, foldedSetIterable i0 X.env x = pure x := by intro _; rfl) (hs1 : ∀ en x, foldedSetIterable i1 en x = pure x := by intro _ _; rfl) :
    PE X (sc2 el t0 i0 t1 i1 sp ps) (tSc2 X.w wi g wi1 g1 te (own.map (·.2)) vs1) := by
  constructor
  intro pins s σ H Q I wish
  show wpAny _ _ (comprehension (sc2 el t0 i0 t1 i1 sp ps) sp X.env (firstIterPos [⟨t0, i0, [], 0⟩, ⟨t1, i1, [], 0⟩] ps) (newSet (.type "set")) (firstAsync [⟨t0, i0, [], 0⟩, ⟨t1, i1, [], 0⟩]) (firstIter [⟨t0, i0, [], 0⟩, ⟨t1, i1, [], 0⟩] X.env)) _ _ s
  have cells : ∀ y ∈ sp.names, y.2 = .free → ∃ c, X.env.cells.lookup y.1 = some c := fun y hy e => (ok.free y hy e).elim (fun k => I.ok.has _ (.inl k)) fun k => I.ok.has _ (.inr k)
  refine wpAny_comprehension_free rfl hs (closure_ok cells) ok.kind (fun y hy e => by rw [ok.uniq y hy, e]) (thn (hi.run pins s σ H _ I wish) fun xv sa hx => thn hx fun itv sb hb => ?_)
  obtain ⟨a0, fp, tn, J, Hb, rfl, Ib, T, stb, fb, q⟩ := hb
  refine PpSet.newSet_ok (newEnv_comp ?_)
  obtain ⟨D, eD⟩ : ∃ D, sb.heap.objs.size = D := ⟨_, rfl⟩
  obtain ⟨W, ⟨n0, w0⟩, turn⟩ := q D (Ib.hok.fresh (Nat.le_of_eq eD))
  rw [eD]
  obtain ⟨sc, esc⟩ : ∃ sc : Shared, { sb with heap := sb.heap.push { cls := .type "set", dict := none, data := .set #[] 0 (.fresh 0 0 (!X.w.params.followText "set-order")) } } = sc := ⟨_, rfl⟩
  have hpc : sc.heap = sb.heap.push { cls := .type "set", dict := none, data := .set #[] 0 (.fresh 0 0 (!X.w.params.followText "set-order")) } := by rw [← esc]
  have up : ∀ b o, sb.heap.get? b = some o → sc.heap.get? b = some o := fun b o e => by rw [hpc]; exact Heap.get?_push_of_some _ e
  have Ic : Inv X pins σ (upd Hb D (SetO X.w D (fun _ => false) 0)) sc := by
    have z := Ib.laid (a := D) (o := SetO X.w D (fun _ => false) 0) (h' := sc.heap) (t' := sb.toks) up (Nat.le_of_eq eD) (by rw [hpc, ← eD]; exact setO_new (setR_fresh X.w))
    rw [← esc] at z ⊢
    exact z
  have stc : tn 0 sc.heap := T.keep _ _ _ stb fun b _ o e => up b o e
  have low : ∀ b ∈ fp, b < sb.heap.objs.size := fun b hb => let ⟨o, e, _⟩ := T.obj _ _ stb b hb; Heap.lt_size e
  have fc : ∀ b ∈ fp, FpOk X pins (upd Hb D (SetO X.w D (fun _ => false) 0)) b ∧ b < sc.heap.objs.size := fun b hb =>
    ⟨⟨by rw [upd_ne (by rw [← eD]; exact Nat.ne_of_lt (low b hb))]; exact (fb b hb).1, (fb b hb).2⟩, by rw [hpc, Heap.size_push]; exact Nat.lt_succ_of_lt (low b hb)⟩
  obtain ⟨Hc, eHc⟩ : ∃ Hc, upd Hb D (SetO X.w D (fun _ => false) 0) = Hc := ⟨_, rfl⟩
  rw [eHc] at Ic fc w0
  have Id := block_start Ic ok hN fc
  have pg := hg sc Hc sc.heap.objs.size (cellsFrom (sc.heap.objs.size + 1) sp.names (cloFrom X.env.cells sp.names [])) fp
  have pg1 := hg1 sc Hc sc.heap.objs.size (cellsFrom (sc.heap.objs.size + 1) sp.names (cloFrom X.env.cells sp.names [])) fp
  have pi1 := hi1 sc Hc sc.heap.objs.size (cellsFrom (sc.heap.objs.size + 1) sp.names (cloFrom X.env.cells sp.names [])) fp
  have pe1 := he sc Hc sc.heap.objs.size (cellsFrom (sc.heap.objs.size + 1) sp.names (cloFrom X.env.cells sp.names [])) fp
  rw [esc]
  show codeAny _ _ (.compStart (sc2 el t0 i0 t1 i1 sp ps) 0 (.ref a0) (.ref D) (compEnvC sp (cellsFrom (sc.heap.objs.size + 1) sp.names (cloFrom X.env.cells sp.names [])) sc.heap.objs.size X.env)) (compPost (model X.prog X.w) X.A X.xe none (EP X pins σ Q) (.ref D) sc.heap.objs.size) { sc with heap := pushCells (sc.heap.push { cls := .type "dict", data := .dict #[] }) sp.names }
  obtain ⟨ce, ece⟩ : ∃ ce, compEnvC sp (cellsFrom (sc.heap.objs.size + 1) sp.names (cloFrom X.env.cells sp.names [])) sc.heap.objs.size X.env = ce := ⟨_, rfl⟩
  have cl : ce.locals = sc.heap.objs.size := by rw [← ece]; rfl
  obtain ⟨sd, esd⟩ : ∃ sd : Shared, { sc with heap := pushCells (sc.heap.push { cls := .type "dict", data := .dict #[] }) sp.names } = sd := ⟨_, rfl⟩
  have std : tn 0 sd.heap := T.keep _ _ _ stc fun b _ o e => by rw [← esd]; exact pushCells_keeps _ _ _ _ (Heap.get?_push_of_some _ e)
  rw [ece, esd] at Id
  rw [ece] at pg pg1 pi1 pe1
  rw [ece, esd]
  -- what the turns know
  obtain ⟨Y, eY⟩ : ∃ Y, X.blk sc Hc sp ce fp = Y := ⟨_, rfl⟩
  have yP : Y.prog = X.prog := by rw [← eY]
  have yw : Y.w = X.w := by rw [← eY]
  have yK : Y.K = X.K := by rw [← eY]
  have yc : Y.calm = true := by rw [← eY]; exact hc
  have yA : Y.A = X.A := by rw [← eY]
  have yE : Y.env = ce := by rw [← eY]
  have yX : Y.xe = fun _ _ => False := by rw [← eY]
  have own0 : ∀ {σ' : L2.St} {H' : Hp} {s' : Shared}, Inv Y [] σ' H' s' → (∀ b ∈ fp, H' b = none) → ∀ b ∈ fp, FpOk Y [] H' b := fun {σ' H' s'} K' hn b hb => by
    subst eY
    exact ⟨hn b hb, (K'.ok.exf b hb).1, K'.ok.exfs b hb, .inl hb, fun x c e => (K'.ok.exf b hb).2 x c e, fun p hp => absurd (show p ∈ ([] : List (Addr × Obj)) ++ [] from hp) (by simp)⟩
  have back : ∀ {H' : Hp} {s' : Shared}, Inv Y [] (L2.wipe σ (own.map (·.2))) H' s' → Inv X pins σ H' s' ∧ ∃ m, s'.heap.Ns sc.heap.objs.size m ∧ H' sc.heap.objs.size = none := fun {H' s'} K' => by
    subst eY
    obtain ⟨m, hm, _⟩ := K'.loc
    refine ⟨Ic.call' (ch := fp) K'.os K'.base K'.hok K'.bare fun b hb => ⟨(fc b hb).1.2.2.2.1, (fc b hb).1.2.1, (fc b hb).1.2.2.2.2.1, (fc b hb).1.2.2.2.2.2⟩, m, ?_, ?_⟩
    · have z : s'.heap.Ns ce.locals m := hm
      rwa [cl] at z
    · have z : H' ce.locals = none := K'.free
      rwa [cl] at z
  rw [eY] at Id pg pg1 pi1 pe1
  have run : codeAny (model X.prog X.w) X.A (.compLoop (sc2 el t0 i0 t1 i1 sp ps) 0 (.ref a0) (.ref D) ce) (compPost (model X.prog X.w) X.A X.xe none (EP X pins σ Q) (.ref D) sc.heap.objs.size) sd := by
    refine sc2_out (hs1 ce) (fun n s' => ∃ i H', Inv Y [] (L2.wipe σ (own.map (·.2))) H' s' ∧ tn i s'.heap ∧ (∀ b ∈ fp, H' b = none) ∧ W i n H') ?_ n0 ⟨0, Hc, Id, std, fun b hb => (fc b hb).1.1, w0⟩
    rintro n se ⟨i, He, Ie, ste, ne, we⟩
    rcases turn i n He we with ⟨stop, fin⟩ | ⟨go, Nx, next, each⟩
    · have z := T.done Y yP yw yK yc i [] se _ He Nerr Ie (own0 Ie ne) ste stop
      simp only [yP, yw, yA, yE, yX] at z
      refine thnF z fun r sf ⟨er, If⟩ => ?_
      subst er
      obtain ⟨Ig, m, hm, hC⟩ := back If
      obtain ⟨f0, f1, f2, f3, f4, f5⟩ := Ic.fpOk (Nat.le_refl sc.heap.objs.size) (Ic.hok.fresh (Nat.le_refl _))
      exact ⟨m, hm, fun h2 sb2 => ⟨.ref D, He, Ig.turned (t' := sf.toks) (fun b o hb e => (sb2.2 b hb).trans e) hC f1 f3 f4 f5, rfl, fin⟩⟩
    · have z := T.item Y yP yw yK yc i [] se _ He Nerr Ie (own0 Ie ne) ste go
      simp only [yP, yw, yA, yE, yX] at z
      refine thnF z fun r sf ⟨u, er, kf⟩ => ?_
      subst er
      refine thnF kf fun _ sg ⟨x, Hg, Ig, rg, yg, stg, ng⟩ => ?_
      have zg := pg.run _ sg _ Hg x u _ (Ig.pinned (own0 Ig ng) (T.obj _ _ stg)) rg (each x Hg yg)
      simp only [yP, yw, yA, yE, yX] at zg
      refine thnF zg fun _ sh ⟨σh, Hh, Ih, eh, qh⟩ => ?_
      have zi := pi1.run _ sh σh Hh _ Ih qh
      simp only [yP, yw, yA, yE, yX] at zi
      refine thnF zi fun xv si hx => thnF hx fun jv sj kj => ?_
      obtain ⟨a1, fp1, tn1, J1, Hj, ej, Ij, T1, stj, fj, W1, ⟨m1, w1⟩, turn1⟩ := kj
      subst ej
      -- the turn's end
      have done1 : ∀ {σ9 : L2.St} {s9 : Shared} {H9 : Hp}, Inv Y ([] ++ pinsAt fp sg.heap) σ9 H9 s9 → (L2.wipe σ (own.map (·.2))).length = σ9.length → (∀ (j : Nat) v, (L2.wipe σ (own.map (·.2)))[j]? = some (some v) → σ9[j]? = some (some v)) → Nx H9 →
          ∃ m, m < n ∧ ∃ i H', Inv Y [] (L2.wipe σ (own.map (·.2))) H' s9 ∧ tn i s9.heap ∧ (∀ b ∈ fp, H' b = none) ∧ W i m H' := fun {σ9 s9 H9} I9 l9 k9 nx => by
        obtain ⟨m, lt, wm⟩ := next H9 nx
        have pin : ∀ b ∈ fp, ∀ o, sg.heap.get? b = some o → s9.heap.get? b = some o ∧ H9 b = none := fun b hb o e =>
          let y := I9.pin (b, o) (List.mem_append_right _ (List.mem_append_right _ (mem_pinsAt hb e)))
          ⟨y.1, y.2.1⟩
        exact ⟨m, lt, i + 1, H9, (I9.unpinned (pins := [])).weak l9 k9, T.keep _ _ _ stg fun b hb o e => (pin b hb o e).1, fun b hb => let ⟨o, e, _⟩ := T.obj _ _ stg b hb; (pin b hb o e).2, wm⟩
      have lh : (L2.wipe σ (own.map (·.2))).length = (L2.wipe σh vs1).length := by rw [← eh, wipe_length, wipe_length]
      have kh : ∀ (j : Nat) v, (L2.wipe σ (own.map (·.2)))[j]? = some (some v) → (L2.wipe σh vs1)[j]? = some (some v) := fun j v e => by
        rw [← eh] at e
        obtain ⟨e1, e2⟩ := wipe_some e
        rw [wipe_out fun y => e2 (hv j y)]
        exact e1
      have own1 : ∀ {H' : Hp}, (∀ b ∈ fp1, H' b = none) → ∀ b ∈ fp1, FpOk Y ([] ++ pinsAt fp sg.heap) H' b := fun hn b hb => ⟨hn b hb, (fj b hb).2⟩
      have run1 : codeAny (model X.prog X.w) X.A (.compLoop (sc2 el t0 i0 t1 i1 sp ps) 1 (.ref a1) (.ref D) ce) (fun r s' => match r with
          | .ok _ => ∃ m, m < n ∧ ∃ i H', Inv Y [] (L2.wipe σ (own.map (·.2))) H' s' ∧ tn i s'.heap ∧ (∀ b ∈ fp, H' b = none) ∧ W i m H'
          | .error _ => False) sj := by
        refine sc2_in (fun k s' => ∃ j H', Inv Y ([] ++ pinsAt fp sg.heap) (L2.wipe σh vs1) H' s' ∧ tn1 j s'.heap ∧ (∀ b ∈ fp1, H' b = none) ∧ W1 j k H') ?_ m1 ⟨0, Hj, Ij.weak (wipe_length _ _) (fun j v e => (wipe_some e).1), stj, fun b hb => (fj b hb).1, w1⟩
        rintro k sk ⟨j, Hk, Ik, stk, nk, wk⟩
        rcases turn1 j k Hk wk with ⟨stop1, nx1⟩ | ⟨go1, Nx1, next1, each1⟩
        · have z := T1.done Y rfl rfl rfl yc j _ sk (L2.wipe σh vs1) Hk Nerr Ik (own1 nk) stk stop1
          simp only [yP, yw, yA, yE, yX] at z
          refine thnF z fun r sl ⟨er, Il⟩ => ?_
          subst er
          exact done1 Il lh kh nx1
        · have z := T1.item Y rfl rfl rfl yc j _ sk (L2.wipe σh vs1) Hk Nerr Ik (own1 nk) stk go1
          simp only [yP, yw, yA, yE, yX] at z
          refine thnF z fun r sl ⟨u1, er, kl⟩ => ?_
          subst er
          refine thnF kl fun _ sm ⟨y, Hm, Im, rm, ym, stm, nm⟩ => ?_
          have zm := pg1.run _ sm (L2.wipe σh vs1) Hm y u1 _ (Im.pinned (own1 nm) (T1.obj _ _ stm)) rm (each1 y Hm ym)
          simp only [yP, yw, yA, yE, yX] at zm
          refine thnF zm fun _ sn ⟨σn, Hn, In, en', qn⟩ => ?_
          have ze := pe1.run _ sn σn Hn _ In qn
          simp only [yP, yw, yA, yE, yX] at ze
          refine thnF ze fun v so ⟨zv, Ho, Io, ro, c, S, m, ez, hD, hm, nx⟩ => ?_
          subst ez
          have za := add_quiet (Q := fun _ s' => ∃ m, m < k ∧ ∃ j H', Inv Y ([] ++ pinsAt fp sg.heap) (L2.wipe σh vs1) H' s' ∧ tn1 j s'.heap ∧ (∀ b ∈ fp1, H' b = none) ∧ W1 j m H') Io (by rw [yw]; exact hD) hm ro (fun s' Iq => by
            rw [yw] at Iq
            obtain ⟨m', lt, wm⟩ := next1 _ nx
            have pin : ∀ b ∈ fp1, ∀ o, sm.heap.get? b = some o → s'.heap.get? b = some o ∧ _ = none := fun b hb o e =>
              let y := Iq.pin (b, o) (List.mem_append_right _ (List.mem_append_right _ (mem_pinsAt hb e)))
              ⟨y.1, y.2.1⟩
            exact ⟨m', lt, j + 1, _, Iq.unpinned.weak (by rw [← en', wipe_length]) (fun j v e => by rw [← en'] at e; exact (wipe_some e).1), T1.keep _ _ _ stm fun b hb o e => (pin b hb o e).1, fun b hb => let ⟨o, e, _⟩ := T1.obj _ _ stm b hb; (pin b hb o e).2, wm⟩)
          simp only [yP, yw, yA, yE, yX] at za
          exact za
      refine sc2_start (.inr rfl) run1 ?_
      have zs := T1.self X.A 0 sj (fun j s' => codeAny (model X.prog X.w) X.A (.compLoop (sc2 el t0 i0 t1 i1 sp ps) 1 j (.ref D) ce) (fun r s' => match r with
          | .ok _ => ∃ m, m < n ∧ ∃ i H', Inv Y [] (L2.wipe σ (own.map (·.2))) H' s' ∧ tn i s'.heap ∧ (∀ b ∈ fp, H' b = none) ∧ W i m H'
          | .error _ => False) s') Nerr stj run1
      rw [yP, yw] at zs
      exact zs
  exact sc2_start (.inl rfl) run (T.self X.A 0 _ _ _ std run)
end
end Hue
-- Hue38
namespace Hue
open PySem PySem.Spec PyProof.Rows L2
open Evl (Ex)
section
variable {K : PySem.W.Frag} {mg : Str → Option Value} {E : XW} {C : Cn} {G G' H H' : Hp} {σ σ' : L2.St} {ρ ρ' : Env} {w : World} {P : Program}
/-! ### a dict of one int and one int -/
def mDctI (k i : Int) : M PyData := mPure (.dict [(.int k, .int i)])
theorem se_dctI {k i : Int} : SE K mg E (tDisp [(tC (.int k), tC (.int i))]) (mDctI k i) := fun B L G σ H ρ Q A w => fun p hp => by
  refine ⟨upd_same, [(.inl k, .int i)], rfl, (show 1 ≤ 15 by decide), ?_⟩
  rw [upd_upd, show mergeK [] [((.inl k : Key), V.int i)] = [(.inl k, .int i)] from rfl]
  exact w _ _ (A.laid hp) (A.lay hp) _ (.dct (.inl upd_same) (.cons (k := .inl k) (.int i) .nil))
/-! ### [e for k, v in d.items()] -/
def noExR {α : Type} : R α → R α
  | .ex _ _ => .bad
  | r => r
def mCompI (k : Nat) (b : PyData → Env → Option Env) (c : M Bool) (e : M PyData) (vs : List Nat) : M Rv := fun ρ => noExR (mComp (mItems k) b c e vs ρ)
def tOrE (t u : TE) : TE := fun σ H Q => t σ H Q ∨ u σ H Q
theorem pe_or2 {X : Cx} {x : Expr} {t u : TE} (h1 : PE X x t) (h2 : PE X x u) : PE X x (tOrE t u) := ⟨fun pins s σ H Q I h => h.elim (h1.run pins s σ H Q I) (h2.run pins s σ H Q I)⟩
theorem sx_compI {k : Nat} {g : TG} {tt : TT} {te : TE} {b : PyData → Env → Option Env} {c : M Bool} {e : M PyData} {js vs : List Nat} {E' : XW} (hg : SG K g b js) (ht : STt K mg E' tt c) (he : SE K mg E' te e) (hj : ∀ j ∈ js, j ∈ vs) :
    SX K mg E (tOrE (tLc (iItems (tVar k)) g tt te vs) (tLockE (tLc (iItems (tVar k)) g tt te vs))) (mCompI k b c e vs) := fun B L G σ H ρ Q A w => by
  have S := sx_comp (E := E) (vs := vs) (si_items (K := K) (mg := mg) (E := E) (k := k)) hg ht he hj
  unfold mCompI at w
  have no : (∀ es, ρ[k]? ≠ some (.dat (.dict es))) → False := fun n => by
    have z : mItems k ρ = .bad := by
      unfold mItems
      split
      · rename_i es q; exact absurd q (n es)
      · rfl
    have y : mComp (mItems k) b c e vs ρ = .bad := by
      unfold mComp mBind
      rw [z]
      rfl
    rw [y] at w
    exact w
  cases q : ρ[k]? with
  | none => exact (no fun es z => by rw [q] at z; cases z).elim
  | some t =>
    cases t with
    | dat d =>
      cases d with
      | dict es =>
        obtain ⟨x, h1, v, rfl, h2⟩ := A.sl k _ q
        obtain ⟨a, kvs, rfl, h3, h4⟩ := h2.dct_inv
        have lk : ∀ {Hx : Hp} {o : Obj}, Hx a = some (.frz o (.dK kvs)) → Lk k σ Hx := fun {Hx o} hx d' ks z1 z2 => by
          rw [h1] at z1
          cases z1
          rcases z2 with z2 | ⟨o', z2⟩
          · rw [hx] at z2; cases z2
          · exact ⟨o', z2⟩
        rcases h3 with h3 | ⟨o, h3⟩
        · refine .inr ⟨a, .dK kvs, A.exG _ _ h3, trivial, fun od => ?_⟩
          have ga : G a ≠ none := by rw [h3]; exact fun z => by cases z
          refine (fun wr => S B L _ σ _ ρ (fun v H' => H' a = some (.frz od (.dK kvs)) ∧ Q v (upd H' a (.dK kvs))) (A.swap ga (sm_lock h3)) wr (lk upd_same)) ?_
          have key : ∀ {G' : Hp}, Ex (upd G a (.frz od (.dK kvs))) G' → G' a = some (.frz od (.dK kvs)) := fun e => e _ _ upd_same
          cases r : mComp (mItems k) b c e vs ρ with
          | bad => rw [r] at w; exact w
          | ex x ρ1 => rw [r] at w; exact w.elim
          | ok rv ρ1 =>
            rw [r] at w
            intro G1 H1 e1 A1 v hv
            have gn : G1 a ≠ none := by rw [key e1]; exact fun z => by cases z
            exact ⟨A1.exG _ _ (key e1), w _ _ (ex_back h3 e1) (A1.swap gn (sm_free (key e1))) v (hv.swap gn (sm_free (key e1)))⟩
        · refine .inl (S B L G σ H ρ Q A ?_ (lk (A.exG _ _ h3)))
          cases r : mComp (mItems k) b c e vs ρ with
          | bad => rw [r] at w; exact w
          | ex x ρ1 => rw [r] at w; exact w.elim
          | ok rv ρ1 => rw [r] at w; exact w
      | _ => exact (no fun es z => by rw [q] at z; cases z).elim
    | _ => exact (no fun es z => by rw [q] at z; cases z).elim
/-! ### sorted({y for x in xs for y in x}), the y ints -/
def rowsI : List PyData → Option (List Int)
  | [] => some []
  | d :: r => (seqD d).bind fun xs => (intsD xs).bind fun ns => (rowsI r).map (ns ++ ·)
def fitS (r h : Nat) (ρ : Env) : Bool := decide (r < ρ.length) && decide (h < ρ.length) && decide (r ≠ h)
def mSortC (r h : Nat) (m : M PyData) : M Rv := mBind (mSeqI m) fun ds => fun ρ => match rowsI ds with
  | some ns => if (decide (ns.length < 64) && fitS r h ρ) = true then .ok (.new ((sdd ns).map PyData.int)) (wipeE ρ [r, h]) else .bad
  | none => .bad
abbrev tSortC (K : PySem.W.Frag) (P : Program) (w : World) (r h : Nat) (t : TE) : TE := tCB (cOr (rSortedSet w) (rSortedT K P w)) (tCons (tSc2 w (iSeq K t) (gName r) (iSeq K (tVar r)) (gName h) (tVar h) [r, h] [h]) tNil)
theorem rows_at : ∀ {ds : List PyData} {ns : List Int} {i : Nat} {d : PyData}, rowsI ds = some ns → ds[i]? = some d → ∃ xs ms us, seqD d = some xs ∧ intsD xs = some ms ∧ rowsI (ds.take i) = some us ∧ rowsI (ds.take (i + 1)) = some (us ++ ms) ∧ us.length + ms.length ≤ ns.length
  | [], _, _, _, _, z => by cases z
  | d :: r, ns, i, x, h, z => by
    unfold rowsI at h
    cases q1 : seqD d with
    | none => rw [q1] at h; cases h
    | some xs =>
      rw [q1] at h
      cases q2 : intsD xs with
      | none => rw [Option.bind_some, q2] at h; cases h
      | some ms =>
        rw [Option.bind_some, q2, Option.bind_some] at h
        cases q3 : rowsI r with
        | none => rw [q3] at h; cases h
        | some us =>
          rw [q3] at h
          cases h
          cases i with
          | zero =>
            cases z
            refine ⟨xs, ms, [], q1, q2, rfl, ?_, by rw [List.length_append, List.length_nil]; omega⟩
            show rowsI [d] = _
            unfold rowsI
            rw [q1, Option.bind_some, q2, Option.bind_some]
            show some (ms ++ []) = _
            rw [List.append_nil, List.nil_append]
          | succ i =>
            obtain ⟨xs', ms', us', a1, a2, a3, a4, a5⟩ := rows_at q3 (show r[i]? = some x from z)
            refine ⟨xs', ms', ms ++ us', a1, a2, ?_, ?_, by rw [List.length_append, List.length_append]; omega⟩
            · rw [List.take_succ_cons]
              unfold rowsI
              rw [q1, Option.bind_some, q2, Option.bind_some, a3]
              rfl
            · rw [List.take_succ_cons]
              unfold rowsI
              rw [q1, Option.bind_some, q2, Option.bind_some, a4, List.append_assoc]
              rfl
theorem Ab.setO {B : Hp} {L : Frm} {D : Addr} {o o' : HO} (A : Ab ⟨K, mg, upd B D o, L⟩ G σ H ρ) (b : B D = none) (sc : ∀ a ns, L.scr = some (a, ns) → SqL K B a (ns.map V.int)) : Ab ⟨K, mg, upd B D o', L⟩ G σ (upd H D o') ρ := by
  obtain ⟨A0, h1, h2, h3⟩ := Ab.unframe (C := ⟨K, mg, B, L⟩) A b sc
  exact Ab.frame (C := ⟨K, mg, B, L⟩) (A0.other h1 h2 b h3) upd_same h2 b h3
theorem env_a {ρ : Env} {r h : Nat} {d : Sl} (ne : r ≠ h) : wipeE (wipeE ((wipeE ρ [r, h]).set r d) [h]) [r, h] = wipeE ρ [r, h] := by
  show ((((((ρ.set h .un).set r .un).set r d).set h .un).set h .un).set r .un) = (ρ.set h .un).set r .un
  rw [List.set_set, List.set_set, List.set_comm _ _ (fun z => ne z.symm), List.set_set, List.set_comm _ _ ne, List.set_set]
theorem env_b {ρ : Env} {h : Nat} {d : Sl} : wipeE ((wipeE ρ [h]).set h d) [h] = wipeE ρ [h] := by
  show ((ρ.set h .un).set h d).set h .un = ρ.set h .un
  rw [List.set_set, List.set_set]
theorem setS_wiped {ρ : Env} {i : Nat} {vs : List Nat} {d : PyData} (hi : i < ρ.length) (hv : i ∈ vs) : bName i d (wipeE ρ vs) = some ((wipeE ρ vs).set i (.dat d)) := by
  have hl : (wipeE ρ vs).length = ρ.length := by
    clear hv
    induction vs with
    | nil => rfl
    | cons v vs ih => exact (List.length_set).trans ih
  have e : (wipeE ρ vs)[i]? = some (wipeE ρ vs)[i] := List.getElem?_eq_getElem (by omega)
  unfold bName setS
  rcases wipeE_at ρ vs i _ e with z | z
  · rw [e, z]; rfl
  · exact absurd hv z
theorem wipeE_len (ρ : Env) (vs : List Nat) : (wipeE ρ vs).length = ρ.length := by
  induction vs with
  | nil => rfl
  | cons v vs ih => exact (List.length_set).trans ih
set_option maxHeartbeats 1000000 in
theorem sx_sortC {t : TE} {m : M PyData} {r h : Nat} (hm : SE K mg E t m) : SX K mg E (tSortC K P w r h t) (mSortC r h m) := fun B L G σ H ρ Q A w0 => by
  refine (si_seq hm) B L G σ H ρ _ A ((WR.bind w0).mono fun G1 H1 ρ1 ds e1 A1 k1 J hJ D hD => ?_)
  dsimp only at k1
  cases q : rowsI ds with
  | none => rw [q] at k1; exact k1.elim
  | some ns =>
    rw [q] at k1
    dsimp only at k1
    have fit : (decide (ns.length < 64) && fitS r h ρ1) = true := by
      by_cases f : (decide (ns.length < 64) && fitS r h ρ1) = true
      · exact f
      · rw [if_neg f] at k1; exact k1.elim
    rw [if_pos fit] at k1
    unfold fitS at fit
    rw [Bool.and_eq_true, Bool.and_eq_true, Bool.and_eq_true] at fit
    have n64 := of_decide_eq_true fit.1
    have hr := of_decide_eq_true fit.2.1.1
    have hh := of_decide_eq_true fit.2.1.2
    have ne := of_decide_eq_true fit.2.2
    have bD : B D = none := Evl.fresh_back A1.exB hD
    let St : Nat → Hp → Prop := fun i H' => ∃ (G' : Hp) (S : Int → Bool) (c : Nat) (us : List Int), Ex G1 G' ∧ rowsI (ds.take i) = some us ∧ (∀ k, S k = true ↔ k ∈ us) ∧ c ≤ us.length ∧ Ab ⟨K, mg, upd B D (SetO w D S c), L⟩ G' (L2.wipe σ [r, h]) H' (wipeE ρ1 [r, h])
    refine ⟨fun i n H' => n = ds.length - i ∧ i ≤ ds.length ∧ St i H', ⟨ds.length, rfl, Nat.zero_le _, G1, fun _ => false, 0, [], Ex.refl G1, rfl, fun k => by simp, Nat.le_refl 0, ?_⟩, ?_⟩
    · exact (((A1.more hD).wipe [r, h]).frame upd_same (Evl.fresh_back A1.exG hD) bD fun i z => (A1.wipe [r, h]).inH z hD)
    rintro i n H' ⟨rfl, hle, G', S, c, us, e', qu, hS, hc, A'⟩
    by_cases hlt : i < ds.length
    · obtain ⟨xs, ms, us', a1, a2, a3, a4, a5⟩ := rows_at q (List.getElem?_eq_getElem hlt)
      rw [qu] at a3
      cases a3
      have exs := intsD_inv a2
      refine .inr ⟨hJ.go i H' (e'.trans A'.exG) hlt, St (i + 1), fun H2 k => ⟨_, by omega, rfl, hlt, k⟩, fun x H2 y => ?_⟩
      obtain ⟨G2, e2, A2, hx⟩ := hJ.yld ⟨K, mg, upd B D (SetO w D S c), L⟩ G' _ H' _ i ds[i] x H2 rfl e' A' (List.getElem?_eq_getElem hlt) y
      refine (sg_name (K := K) (i := r)) ⟨K, mg, upd B D (SetO w D S c), L⟩ G2 _ H2 _ _ x ds[i] _ rfl A2 hx (setS_wiped (ρ := ρ1) (i := r) (vs := [r, h]) hr (by simp)) fun σ3 t3 A3 => ⟨wipe_tch t3 (by simp), ?_⟩
      have ew := wipe_tch t3 (vs := [r, h]) (by simp)
      have at3 : ((wipeE ρ1 [r, h]).set r (.dat ds[i]))[r]? = some (.dat ds[i]) := List.getElem?_set_self (by rw [wipeE_len]; exact hr)
      generalize eρ : (wipeE ρ1 [r, h]).set r (.dat ds[i]) = ρ2 at A3 at3
      have ρl : h < ρ2.length := by rw [← eρ, List.length_set, wipeE_len]; exact hh
      refine (si_seq (K := K) (mg := mg) (E := E) (se_var (i := r))) (upd B D (SetO w D S c)) L G2 σ3 H2 ρ2 _ A3 ?_
      have ev : mSeqI (mVar r) ρ2 = .ok xs ρ2 := by
        unfold mSeqI mBind mVar
        rw [at3]
        show mOpt (seqD ds[i]) ρ2 = _
        rw [a1]
        rfl
      rw [ev]
      intro G4 H4 e4 A5 J1 hJ1
      refine ⟨fun j n H' => n = xs.length - j ∧ j ≤ xs.length ∧ ∃ (G' : Hp) (S : Int → Bool) (c : Nat), Ex G4 G' ∧ (∀ k, S k = true ↔ k ∈ us ++ ms.take j) ∧ c ≤ us.length + j ∧ Ab ⟨K, mg, upd B D (SetO w D S c), L⟩ G' (L2.wipe σ3 [h]) H' (wipeE ρ2 [h]), ⟨xs.length, rfl, Nat.zero_le _, G4, S, c, Ex.refl G4, fun k => by rw [List.take_zero, List.append_nil]; exact hS k, hc, A5.wipe [h]⟩, ?_⟩
      rintro j n H5 ⟨rfl, hle1, G5, S5, c5, e5, hS5, hc5, A6⟩
      have xl : xs.length = ms.length := by rw [exs, List.length_map]
      by_cases hlt1 : j < xs.length
      · refine .inr ⟨hJ1.go j H5 (e5.trans A6.exG) hlt1, fun H2 => ∃ (G' : Hp) (S : Int → Bool) (c : Nat), Ex G4 G' ∧ (∀ k, S k = true ↔ k ∈ us ++ ms.take (j + 1)) ∧ c ≤ us.length + (j + 1) ∧ Ab ⟨K, mg, upd B D (SetO w D S c), L⟩ G' (L2.wipe σ3 [h]) H2 (wipeE ρ2 [h]), fun H2 k => ⟨_, by omega, rfl, hlt1, k⟩, fun x1 H6 y1 => ?_⟩
        obtain ⟨z, hz⟩ : ∃ z, ms[j]? = some z := ⟨ms[j], List.getElem?_eq_getElem (by omega)⟩
        have hz' : xs[j]? = some (.int z) := by rw [exs, List.getElem?_map, hz]; rfl
        obtain ⟨G7, e7, A7, hx1⟩ := hJ1.yld ⟨K, mg, upd B D (SetO w D S5 c5), L⟩ G5 _ H5 _ j (.int z) x1 H6 rfl e5 A6 hz' y1
        refine (sg_name (K := K) (i := h)) ⟨K, mg, upd B D (SetO w D S5 c5), L⟩ G7 _ H6 _ _ x1 (.int z) _ rfl A7 hx1 (setS_wiped (ρ := ρ2) (i := h) (vs := [h]) ρl (by simp)) fun σ8 t8 A8 => ⟨wipe_tch t8 (by simp), ?_⟩
        have ew1 := wipe_tch t8 (vs := [h]) (by simp)
        refine (se_var (K := K) (mg := mg) (E := E) (i := h)) (upd B D (SetO w D S5 c5)) L G7 σ8 H6 _ _ A8 ?_
        have at8 : ((wipeE ρ2 [h]).set h (.dat (.int z)))[h]? = some (.dat (.int z)) := List.getElem?_set_self (by rw [wipeE_len]; exact ρl)
        have ev8 : mVar h ((wipeE ρ2 [h]).set h (.dat (.int z))) = .ok (.int z) ((wipeE ρ2 [h]).set h (.dat (.int z))) := by
          unfold mVar
          rw [at8]
        rw [ev8]
        intro G9 H9 e9 A9 v hv
        refine ⟨z, S5, c5, hv.int_inv, A9.exB _ _ upd_same, by unfold scanBound; omega, G9, (fun q => S5 q || decide (q = z)), (if S5 z = true then c5 else c5 + 1), (e5.trans e7).trans e9, fun k => ?_, ?_, ?_⟩
        · rw [Bool.or_eq_true, hS5, decide_eq_true_iff, List.take_add_one, hz, ← List.append_assoc, List.mem_append (s := us ++ ms.take j)]
          simp
        · split <;> omega
        · have y := (Ab.setO (o' := SetO w D (fun q => S5 q || decide (q = z)) (if S5 z = true then c5 else c5 + 1)) A9 bD A.scr).wipe [h]
          rw [ew1, env_b] at y
          exact y
      · have ej : j = xs.length := by omega
        subst ej
        refine .inl ⟨hJ1.stop _ H5 (e5.trans A6.exG) (Nat.le_refl _), G5, S5, c5, us ++ ms, ((e'.trans e2).trans e4).trans e5, a4, fun k => ?_, by rw [List.length_append]; omega, ?_⟩
        · rw [hS5, xl, List.take_length]
        · have y := A6.wipe [r, h]
          rw [wipe_in (by simp), ew, ← eρ, env_a ne] at y
          exact y
    · have ei : i = ds.length := by omega
      subst ei
      rw [List.take_length, q] at qu
      cases qu
      obtain ⟨A2, hp2, g2, n2⟩ := Ab.unframe (C := ⟨K, mg, B, L⟩) A' bD A.scr
      refine .inl ⟨hJ.stop _ H' (e'.trans A'.exG) (Nat.le_refl _), .inl ⟨D, S, c, rfl, hp2, by omega, fun ns' p srt mem len hp => ?_⟩⟩
      have e : ns' = sdd ns := rising_one (fun y => by rw [mem, sdd_mem, hS]) srt (sdd_sorted ns)
      subst e
      have T := (A2.unwipe).fresh hp (DtA.ofInts (K := K) (G := G') (sdd ns))
      exact k1 _ _ e' T.1 _ T.2
end
end Hue
-- Hue39
namespace Hue
open PySem PySem.Spec PyProof.Rows L2
open Evl (Ex)
/-! ### zip of a tuple and a list -/
section
variable {P : Program} {w : World} {A : Around}
/-- a way to go on from turn i, be it beyond the end -/
theorem drawT (hh : A.handled = none) (it t : Addr) (hne : t ≠ it) (its : Array Value) (i : Nat) : ∃ n Pv St, Draws P w A it [it, t] n Pv St ∧ (∀ h : Heap, h.IsTupleIter it t i → h.IsTuple t its → St i h) ∧ i ≤ n ∧ (its.size ≤ i → i = n) := by
  by_cases q : i ≤ its.size
  · exact ⟨_, _, _, Draws.tuple hh it t hne its, fun h a b => ⟨a, b⟩, q, fun z => by omega⟩
  · refine ⟨i, fun _ _ => False, fun j h => h.IsTupleIter it t j ∧ h.IsTuple t its ∧ j = i, ⟨fun _ _ st => let ⟨o, ho, _⟩ := st.1; ⟨o, ho⟩, fun _ _ _ st k => ⟨st.1.at fun o e => k it (by simp) o e, st.2.1.at fun o e => k t (by simp) o e, st.2.2⟩, fun j s Q E hj st _ => absurd st.2.2 (Nat.ne_of_lt hj), fun s Q E st hE => wpAny_nextOf_tuple_end hh st.1 st.2.1 (Array.getElem?_eq_none (by omega)) hE⟩, fun h a b => ⟨a, b, rfl⟩, Nat.le_refl i, fun _ => rfl⟩
theorem drawL (hh : A.handled = none) (it t : Addr) (hne : t ≠ it) (its : Array Value) (i : Nat) : ∃ n Pv St, Draws P w A it [it, t] n Pv St ∧ (∀ h : Heap, h.IsListIter it t i → h.IsList t its → St i h) ∧ i ≤ n ∧ (its.size ≤ i → i = n) := by
  by_cases q : i ≤ its.size
  · exact ⟨_, _, _, Draws.list hh it t hne its, fun h a b => ⟨a, b⟩, q, fun z => by omega⟩
  · refine ⟨i, fun _ _ => False, fun j h => h.IsListIter it t j ∧ h.IsList t its ∧ j = i, ⟨fun _ _ st => let ⟨o, ho, _⟩ := st.1; ⟨o, ho⟩, fun _ _ _ st k => ⟨st.1.at fun o e => k it (by simp) o e, st.2.1.at fun o e => k t (by simp) o e, st.2.2⟩, fun j s Q E hj st _ => absurd st.2.2 (Nat.ne_of_lt hj), fun s Q E st hE => wpAny_nextOf_list_end hh st.1 st.2.1 (Array.getElem?_eq_none (by omega)) hE⟩, fun h a b => ⟨a, b, rfl⟩, Nat.le_refl i, fun _ => rfl⟩
end
def ItzM (K : PySem.W.Frag) (a b : Addr) : It :=
  ⟨fun i H => ∃ (xs ys : List V) (x y : V), SqT K H a xs ∧ SqL K H b ys ∧ xs[i]? = some x ∧ ys[i]? = some y, fun i H v H' => ∃ T x y, v = .ref T ∧ H T = none ∧ H' = upd H T (.tup [x, y]) ∧ (∀ xs, SqT K H a xs → xs[i]? = some x) ∧ ∀ ys, SqL K H b ys → ys[i]? = some y,
    fun i H => ∃ xs ys : List V, SqT K H a xs ∧ SqL K H b ys ∧ (xs.length ≤ i ∨ ys.length ≤ i)⟩
theorem five_of {c z t o i j : Addr} (h : c ∈ [z, t, o, i, j]) {Y : Addr → Prop} (hz : Y z) (ht : Y t) (ho : Y o) (hi : Y i) (hj : Y j) : Y c := by
  rcases (show c = z ∨ c = t ∨ c = o ∨ c = i ∨ c = j by simpa using h) with q | q | q | q | q <;> (rw [q]; assumption)
theorem turn_zipM {P : Program} {w : World} {K : PySem.W.Frag} {elts : List Expr} {kk : Nat} {tp : Pos} {a b z ti to i j : Addr} (S : ZipSep2 z ti to i j [i, a] [j, b]) (hai : a ≠ i) (hbj : b ≠ j) :
    Turn P w K (.Tuple elts kk tp) (ItzM K a b) [z, ti, to, i, j] z (fun n h => IsZip h z ti to .none ∧ IsTupOf2 h ti (.ref i) (.ref j) ∧ (∃ x y, IsTupOf2 h to x y) ∧ h.IsTupleIter i a n ∧ h.IsListIter j b n) where
  mem := by simp
  obj := fun n h st c hc => by
    obtain ⟨hz, ht, ⟨x, y, ho⟩, ⟨o1, e1, _, d1⟩, ⟨o2, e2, _, d2⟩⟩ := st
    exact five_of hc (Y := fun c => ∃ o, h.get? c = some o ∧ ∀ v, o.data ≠ .cell v) ⟨_, hz, fun v q => nomatch q⟩ ⟨_, ht, fun v q => nomatch q⟩ ⟨_, ho, fun v q => nomatch q⟩ ⟨o1, e1, fun v q => by rw [d1] at q; cases q⟩ ⟨o2, e2, fun v q => by rw [d2] at q; cases q⟩
  keep := fun n h h' st k => by
    obtain ⟨hz, ht, ⟨x, y, ho⟩, h1, h2⟩ := st
    exact ⟨k z (by simp) _ hz, k ti (by simp) _ ht, ⟨x, y, k to (by simp) _ ho⟩, h1.at fun o q => k i (by simp) o q, h2.at fun o q => k j (by simp) o q⟩
  item := by
    intro X hP hw hK hc n pins s σ H E I hf st hg
    subst hP hw hK
    obtain ⟨hz, ht, ⟨x0, y0, ho⟩, h1, h2⟩ := st
    obtain ⟨xs, ys, x, y, hqx, hqy, hx, hy⟩ := hg
    obtain ⟨us, ru, pu, _⟩ := I.tuple hqx
    obtain ⟨vs, rv, pv, _⟩ := I.list hqy
    obtain ⟨u, hu, ru1⟩ := ru.get hx
    obtain ⟨v, hv, rv1⟩ := rv.get hy
    have zl : z < s.heap.objs.size := Heap.lt_size hz
    have D1 : Draws X.prog X.w X.A.in1 i [i, a] us.toArray.size (fun i v => us.toArray[i]? = some v) (fun n h => h.IsTupleIter i a n ∧ h.IsTuple a us.toArray) := Draws.tuple (show X.A.in1.handled = none from I.ok.hd hc) i a hai _
    have D2 : Draws X.prog X.w X.A.in1 j [j, b] vs.toArray.size (fun i v => vs.toArray[i]? = some v) (fun n h => h.IsListIter j b n ∧ h.IsList b vs.toArray) := Draws.list (show X.A.in1.handled = none from I.ok.hd hc) j b hbj _
    refine wpAny_pyNext_zipD2_item S D1 D2 hz ht ho (i := n) ⟨h1, pu⟩ ⟨h2, pv.isList⟩ (by rw [List.size_toArray]; exact (List.getElem?_eq_some_iff.mp hu).1) (by rw [List.size_toArray]; exact (List.getElem?_eq_some_iff.mp hv).1) fun x1 x2 h' tk p1 p2 z' o' s1 s2 T' hs hk => ?_
    have e1 : x1 = u := by rw [List.getElem?_toArray, hu] at p1; cases p1; rfl
    have e2 : x2 = v := by rw [List.getElem?_toArray, hv] at p2; cases p2; rfl
    subst e1 e2
    refine ⟨_, rfl, wpAny_letOwnedTupleGo_zip (s := { s with heap := h', toks := tk }) z' fun h2' z2 sb => ?_⟩
    have T2 : h2'.get? s.heap.objs.size = some { cls := .type "tuple", data := .seq #[x1, x2] } := (sb.2 _ (Nat.ne_of_gt zl)).trans T'
    have new : ObjOk X.prog X.w (upd H s.heap.objs.size (.tup [x, y])) h2' s.heap.objs.size (.tup [x, y]) := ⟨by show 2 ≤ sizeLine; decide, [x1, x2], .cons ru1 (.cons rv1 .nil), ⟨_, T2, rfl, _, rfl⟩⟩
    have I1 : Inv X pins σ (upd H s.heap.objs.size (.tup [x, y])) { s with heap := h2', toks := tk } := I.turnedNew (ch := [z, ti, to, i, j]) (fun c o hb q => (sb.2 c fun q' => hb (by simp [q'])).trans (hk c o (fun q' => hb (by simp [q'])) (fun q' => hb (by simp [q'])) (fun q' => hb (by simp [q'])) (fun q' => hb (by simp [q'])) q)) hf (Nat.le_refl _) new
    refine ⟨.ref s.heap.objs.size, _, I1, rfl, ⟨_, x, y, rfl, I.hok.fresh (Nat.le_refl _), rfl, fun l hl => by rw [I.tuple_inj hl hqx]; exact hx, fun l hl => by rw [I.list_inj hl hqy]; exact hy⟩, ⟨z2, (sb.2 _ S.TIz).trans (hk _ _ S.TIz S.TITO S.TIi1 S.TIi2 ht), ⟨x1, x2, (sb.2 _ S.TOz).trans o'⟩, s1.1.at fun o q => (sb.2 _ (Ne.symm S.zi1)).trans q, s2.1.at fun o q => (sb.2 _ (Ne.symm S.zi2)).trans q⟩, fun c hcm => ?_⟩
    have lt : c < s.heap.objs.size := five_of hcm (Y := fun c => c < s.heap.objs.size) zl (Heap.lt_size ht) (Heap.lt_size ho) (let ⟨_, e, _⟩ := h1; Heap.lt_size e) (let ⟨_, e, _⟩ := h2; Heap.lt_size e)
    rw [upd_ne (Nat.ne_of_lt lt)]
    exact (hf c hcm).1
  done := by
    intro X hP hw hK hc n pins s σ H E I hf st hg
    subst hP hw hK
    obtain ⟨hz, ht, ⟨x0, y0, ho⟩, h1, h2⟩ := st
    obtain ⟨xs, ys, hqx, hqy, hend⟩ := hg
    obtain ⟨us, ru, pu, _⟩ := I.tuple hqx
    obtain ⟨vs, rv, pv, _⟩ := I.list hqy
    have l1 := ru.length
    have l2 := rv.length
    obtain ⟨n1, P1, S1, D1, k1, a1, b1⟩ := drawT (P := X.prog) (w := X.w) (A := X.A.in1) (I.ok.hd hc) i a hai us.toArray n
    obtain ⟨n2, P2, S2, D2, k2, a2, b2⟩ := drawL (P := X.prog) (w := X.w) (A := X.A.in1) (I.ok.hd hc) j b hbj vs.toArray n
    rw [List.size_toArray] at b1 b2
    exact wpAny_pyNext_zipD2_end S D1 D2 hz ht ho (k1 _ h1 pu) (k2 _ h2 pv.isList) a1 a2 (hend.imp (fun q => b1 (by omega)) fun q => b2 (by omega)) fun h' tk hk => ⟨rfl, I.turnedL (t' := tk) (ch := [z, ti, to, i, j]) (fun c o hb q => hk c o (fun q' => hb (by simp [q'])) (fun q' => hb (by simp [q'])) (fun q' => hb (by simp [q'])) (fun q' => hb (by simp [q'])) q) hf⟩
  self := fun A n s Q E st h => wpAny_pyIter_zip st.1 h
/-! what zip lays -/
def zo1 (a : Addr) : Obj := { cls := .type "tuple_iterator", data := .fields #[.ref a, .int 0 0] }
def zo2 (b : Addr) : Obj := { cls := .type "list_iterator", data := .fields #[.ref b, .int 0 0] }
def zo3 (i j : Addr) : Obj := { cls := .type "tuple", data := .seq #[.ref i, .ref j] }
def zo4 : Obj := { cls := .type "tuple", data := .seq #[.none, .none] }
def zo5 (t o : Addr) : Obj := { cls := .type "zip", data := .fields #[.none, .bool false, .bool false, .ref t, .ref o] }
def zh (h : Heap) (a b : Addr) : Heap := ((((h.push (zo1 a)).push (zo2 b)).push (zo3 h.objs.size (h.objs.size + 1))).push zo4).push (zo5 (h.objs.size + 2) (h.objs.size + 3))
theorem push1 (h : Heap) (o : Obj) : (h.push o).objs.size = h.objs.size + 1 := Heap.size_push ..
set_option maxHeartbeats 1000000 in
theorem zip_newM (a b : Addr) (us vs : Array Value) : Meets (Builtin.«zip.__new__» ⟨[.type "zip", .ref a, .ref b], []⟩) (fun _ R s => s.heap.IsTuple a us ∧ s.heap.IsList b vs ∧ R (.ok (.ret (.ref (s.heap.objs.size + 4)))) { s with heap := zh s.heap a b }) := .of_wp fun P w A R s0 hyp => by
  obtain ⟨hp, gl, dd, tk, os⟩ := s0
  obtain ⟨h1, h2, fin⟩ := hyp
  have sb := sub_zip
  have go1 : ∀ {A1 : Around} {E : Value → Shared → Prop} {Q : Value → Shared → Prop}, Q (.ref hp.objs.size) ⟨hp.push (zo1 a), gl, dd, tk, os⟩ → wpAny (model P w) A1 (pyIter (.ref a)) Q E ⟨hp, gl, dd, tk, os⟩ := fun q => (begins_tuple a us).iter P w _ _ ⟨hp, gl, dd, tk, os⟩ _ h1 q
  have h2' : (hp.push (zo1 a)).IsList b vs := Heap.IsList.push h2 _
  have go2 : ∀ {A1 : Around} {E : Value → Shared → Prop} {Q : Value → Shared → Prop}, Q (.ref (hp.push (zo1 a)).objs.size) ⟨(hp.push (zo1 a)).push (zo2 b), gl, dd, tk, os⟩ → wpAny (model P w) A1 (pyIter (.ref b)) Q E ⟨hp.push (zo1 a), gl, dd, tk, os⟩ := fun q => (begins_list b vs).iter P w _ _ ⟨hp.push (zo1 a), gl, dd, tk, os⟩ _ h2' q
  wp_walk using go1, go2
  refine ⟨_, rfl, ?_⟩
  have e : zh hp a b = ((((hp.push (zo1 a)).push (zo2 b)).push (zo3 hp.objs.size (hp.push (zo1 a)).objs.size)).push zo4).push (zo5 ((hp.push (zo1 a)).push (zo2 b)).objs.size (((hp.push (zo1 a)).push (zo2 b)).push (zo3 hp.objs.size (hp.push (zo1 a)).objs.size)).objs.size) := by
    unfold zh
    simp only [push1] <;> rfl
  have e2 : hp.objs.size + 4 = ((((hp.push (zo1 a)).push (zo2 b)).push (zo3 hp.objs.size (hp.push (zo1 a)).objs.size)).push zo4).objs.size := by simp only [push1] <;> rfl
  have fin' : R (.ok (.ret (.ref (hp.objs.size + 4)))) ⟨zh hp a b, gl, dd, tk, os⟩ := fin
  rw [e, e2] at fin'
  exact fin'
section
variable {P : Program} {w : World} {A : Around} {E : Value → Shared → Prop} {s : Shared}
theorem call_zipM {a b : Addr} {us vs : Array Value} {Q : Value → Shared → Prop} (h1 : s.heap.IsTuple a us) (h2 : s.heap.IsList b vs)
    (fin : ∀ h, IsZip h (s.heap.objs.size + 4) (s.heap.objs.size + 2) (s.heap.objs.size + 3) .none → IsTupOf2 h (s.heap.objs.size + 2) (.ref s.heap.objs.size) (.ref (s.heap.objs.size + 1)) → IsTupOf2 h (s.heap.objs.size + 3) .none .none → h.IsTupleIter s.heap.objs.size a 0 → h.IsListIter (s.heap.objs.size + 1) b 0 → (∀ c o, s.heap.get? c = some o → h.get? c = some o) → Q (.ref (s.heap.objs.size + 4)) { s with heap := h }) :
    wpAny (model P w) A (call (.type "zip") [.ref a, .ref b]) Q E s := by
  refine callType_new F.called_zip (by decide) (F.typeCall_zip_2 _ _) (F.newCall_zip_2 _ _) (fun obj => F.args_object_init_3 obj _ _) F.entry_zip_new (zip_newM a b us vs) ⟨h1, h2, ?_⟩
  have up : ∀ {h : Heap} {o o' : Obj} {n : Nat}, h.get? n = some o → (h.push o').get? n = some o := fun e => Heap.get?_push_of_some _ e
  have g1 := Heap.get?_push_size s.heap (o := zo1 a) rfl
  have g2 := Heap.get?_push_size (s.heap.push (zo1 a)) (o := zo2 b) rfl
  have g3 := Heap.get?_push_size ((s.heap.push (zo1 a)).push (zo2 b)) (o := zo3 s.heap.objs.size (s.heap.objs.size + 1)) rfl
  have g4 := Heap.get?_push_size (((s.heap.push (zo1 a)).push (zo2 b)).push (zo3 s.heap.objs.size (s.heap.objs.size + 1))) (o := zo4) rfl
  have g5 := Heap.get?_push_size ((((s.heap.push (zo1 a)).push (zo2 b)).push (zo3 s.heap.objs.size (s.heap.objs.size + 1))).push zo4) (o := zo5 (s.heap.objs.size + 2) (s.heap.objs.size + 3)) rfl
  rw [push1] at g2
  rw [push1, push1] at g3
  rw [push1, push1, push1] at g4
  rw [push1, push1, push1, push1] at g5
  exact ⟨⟨_, g5, rfl⟩, fin _ g5 (up (up g3)) (up g4) ⟨_, up (up (up (up g1))), rfl, rfl⟩ ⟨_, up (up (up g2)), rfl, rfl⟩ fun c o x => up (up (up (up (up x))))⟩
end
theorem out2 {c x y : Nat} (h1 : c ≠ x) (h2 : c ≠ y) : c ∉ [x, y] := fun h => by
  rcases List.mem_cons.mp h with q | q
  · exact h1 q
  · exact h2 (List.mem_singleton.mp q)
theorem sep_of (N a b : Nat) (al : a < N) (bl : b < N) : ZipSep2 (N + 4) (N + 2) (N + 3) N (N + 1) [N, a] [N + 1, b] where
  TIz := show (N + 2 : Nat) ≠ N + 4 by omega
  TOz := show (N + 3 : Nat) ≠ N + 4 by omega
  TITO := show (N + 2 : Nat) ≠ N + 3 by omega
  TIi1 := show (N + 2 : Nat) ≠ N by omega
  mem1 := List.mem_cons_self ..
  zf1 := out2 (by omega) (by omega)
  Tf1 := out2 (by omega) (by omega)
  TIi2 := show (N + 2 : Nat) ≠ N + 1 by omega
  mem2 := List.mem_cons_self ..
  zf2 := out2 (by omega) (by omega)
  Tf2 := out2 (by omega) (by omega)
  sep1_2 := out2 (by omega) (by omega)
  sep2_1 := out2 (by omega) (by omega)
def iZipB (K : PySem.W.Frag) (ta : TA) : TI := fun σ H R => (RZ.iZipA K ta σ H R) ∨ ta σ H fun vs H1 => ∃ a b xs ys, vs = [.ref a, .ref b] ∧ SqT K H1 a xs ∧ SqL K H1 b ys ∧ R (ItzM K a b) H1
theorem pi_zipB {X : Cx} (K : PySem.W.Frag) (hK : X.K = K) {e e2 : Expr} {ta : TA} {p pos tpos : Pos} {elts : List Expr} {kk : Nat} (hg : Gl X "zip") (hm : X.mg "zip" = none) (ha : PA X [e, e2] ta)
    (hs : starEach [e, e2] X.env = (false, eval e X.env) :: starEach [e2] X.env := by rfl) (hpl : (backTo pos (starEach [e2] X.env)).any (·.1) = false := by rfl) : PI X (.Tuple elts kk tpos) (.Call (.Name "zip" p) [e, e2] [] pos) (iZipB K ta) := by
  subst hK
  constructor
  intro pins s σ H R I h
  rcases h with h | h
  · exact (RZ.pi_zipA hg hm ha hs hpl).run pins s σ H R I h
  refine Call_ (ld_blt I hg hm PyProof.Rows.boot_zip (PyProof.Rows.callWith_type1 (thn (ha.run pos pins s σ H _ I h) fun us s1 ⟨vs, H1, I1, r1, q1⟩ => ?_) hs hpl))
  obtain ⟨a, b, xs, ys, ex, hqx, hqy, q⟩ := q1
  subst ex
  cases r1 with
  | cons r rr =>
    cases rr with
    | cons r' rr =>
      cases rr
      cases r
      cases r'
      obtain ⟨its, rv, p1, _⟩ := I1.tuple hqx
      obtain ⟨its2, rv2, p2, _⟩ := I1.list hqy
      have al : a < s1.heap.objs.size := p1.lt
      have bl : b < s1.heap.objs.size := p2.lt
      refine call_zipM (show s1.heap.IsTuple a its.toArray from p1) p2.isList fun h' hz ht ho h1 h2 hk => wpAny_pyIter_zip hz ?_
      have new : ∀ c ∈ [s1.heap.objs.size + 4, s1.heap.objs.size + 2, s1.heap.objs.size + 3, s1.heap.objs.size, s1.heap.objs.size + 1], FpOk X pins H1 c := fun c hc => by
        have le : s1.heap.objs.size ≤ c := five_of hc (Y := fun c => s1.heap.objs.size ≤ c) (Nat.le_add_right _ _) (Nat.le_add_right _ _) (Nat.le_add_right _ _) (Nat.le_refl _) (Nat.le_add_right _ _)
        exact I1.fpOk le (I1.hok.fresh le)
      have S : ZipSep2 (s1.heap.objs.size + 4) (s1.heap.objs.size + 2) (s1.heap.objs.size + 3) s1.heap.objs.size (s1.heap.objs.size + 1) [s1.heap.objs.size, a] [s1.heap.objs.size + 1, b] := by
        exact sep_of _ _ _ al bl
      exact ⟨s1.heap.objs.size + 4, [s1.heap.objs.size + 4, s1.heap.objs.size + 2, s1.heap.objs.size + 3, s1.heap.objs.size, s1.heap.objs.size + 1], _, _, H1, rfl, I1.kept (t' := s1.toks) hk, turn_zipM S (Nat.ne_of_lt al) (Nat.ne_of_lt (Nat.lt_succ_of_lt bl)), ⟨hz, ht, ⟨_, _, ho⟩, h1, h2⟩, new, q⟩
section
variable {K : PySem.W.Frag} {mg : Str → Option Value} {E : XW}
theorem it_zipM {G0 : Hp} {a b : Addr} {xs ys : List V} {ds es : List PyData} (h1 : SqT K G0 a xs) (h2 : DtA K G0 xs ds) (h3 : G0 b = some (.lst ys)) (h4 : DtA K G0 ys es) : ItOk K G0 (ItzM K a b) (zipL ds es) where
  go := fun i H e lt => by
    have l := zipL_len ds es
    have l1 := h2.length
    have l2 := h4.length
    exact ⟨xs, ys, xs[i]'(by omega), ys[i]'(by omega), Evl.ex_t e h1, SqL.of (e _ _ h3), List.getElem?_eq_getElem _, List.getElem?_eq_getElem _⟩
  stop := fun i H e le => by
    have l := zipL_len ds es
    have l1 := h2.length
    have l2 := h4.length
    exact ⟨xs, ys, Evl.ex_t e h1, SqL.of (e _ _ h3), by omega⟩
  yld := fun C G σ H ρ i d x H' hK eG A hd y => by
    obtain ⟨T, u, v, rfl, hT, rfl, y1, y2⟩ := y
    obtain ⟨p, q, z1, z3, rfl⟩ := zipL_get hd
    obtain ⟨u', z1', z2⟩ := h2.get' z1
    obtain ⟨v', z3', z4⟩ := h4.get' z3
    have y1 := y1 xs (Evl.ex_t (eG.trans A.exG) h1)
    have y2 := y2 ys (SqL.of (A.exG _ _ (eG _ _ h3)))
    rw [z1'] at y1; cases y1
    rw [z3'] at y2; cases y2
    subst hK
    have T := A.tup hT (.cons (z2.mono eG) (.cons (z4.mono eG) .nil))
    exact ⟨_, T.1, T.2.1, T.2.2⟩
def zipDB : List PyData → Option (List PyData)
  | [.list ds, .list es] => some (zipL ds es)
  | [.tuple ds, .tuple es] => some (zipL ds es)
  | [.tuple ds, .list es] => some (zipL ds es)
  | _ => none
theorem zipDB_or : ∀ ds, zipD ds = zipDB ds ∨ ∃ xs ys, ds = [.tuple xs, .list ys]
  | [] => .inl rfl
  | [d] => by cases d <;> exact .inl rfl
  | [d, e] => by cases d <;> cases e <;> first | exact .inl rfl | exact .inr ⟨_, _, rfl⟩
  | d :: e :: f :: r => by cases d <;> cases e <;> exact .inl rfl
def mZipB (m : M (List PyData)) : M (List PyData) := mBind m fun d => mOpt (zipDB d)
theorem si_zipB {t : TA} {m : M (List PyData)} (h : SA K mg E t m) : SI K mg E (iZipB K t) (mZipB m) := fun B L G σ H ρ W A w => by
  have w1 := WR.bind w
  cases q0 : m ρ with
  | bad => rw [q0] at w1; exact w1.elim
  | ex x ρ1 => exact .inr (h B L G σ H ρ _ A (by rw [q0] at w1 ⊢; exact w1))
  | ok ds ρ1 =>
    rw [q0] at w1
    have old : zipD ds = zipDB ds → iZipB K t σ H W := fun e => .inl (si_zip h B L G σ H ρ W A (by
      unfold mZip
      unfold mZipB at w
      have z : (mBind m fun d => mOpt (zipD d)) ρ = (mBind m fun d => mOpt (zipDB d)) ρ := by
        unfold mBind
        rw [q0]
        show mOpt (zipD ds) ρ1 = mOpt (zipDB ds) ρ1
        rw [e]
      rw [z]
      exact w))
    rcases zipDB_or ds with e | ⟨xs, ys, rfl⟩
    · exact old e
    · refine .inr (h B L G σ H ρ _ A ?_)
      rw [q0]
      intro G1 H1 e1 A1 vs hv
      obtain ⟨v, u, rfl, h1, h2⟩ := hv.two
      obtain ⟨a, as, rfl, z1, z2⟩ := h1.tup_inv
      obtain ⟨b, bs, rfl, z3, z4⟩ := h2.lst_inv
      exact ⟨a, b, as, bs, rfl, Evl.ex_t A1.exG z1, SqL.of (A1.exG _ _ z3), (w1 G1 H1 e1 A1).here A1 _ (it_zipM z1 z2 z3 z4)⟩
end
end Hue
-- C_k52
namespace Hue
open PySem PySem.Spec PyProof.Rows L2
open Evl (Ex)
def b_is_whole : Env → Fl := (mRet (mD (mAndV (mF (mIsi "int" (mVar 0))) (mNotV (mF (mIsi "bool" (mVar 0)))))))
def f_is_whole : Fn := mkFn 1 b_is_whole
def b_is_tuple_of : Env → Fl := (mRet (mD (mAndV (mF (mIsi "tuple" (mVar 0))) (mF (mOp fEq (mF (mLenN 0)) (mVar 1))))))
def f_is_tuple_of : Fn := mkFn 2 b_is_tuple_of
def b_rises : Env → Fl := (mRet (mCb allD (mCons (mF (mComp (mZip (mCons (mVar 0) (mCons (mF (mSl (mVar 0) (mPart (mPure (.int 1))) mNoPart)) mNil))) (bTup 2 (bCons (bName 1) (bCons (bName 2) bNil))) (mPure true) (mF (mOp fLt (mVar 1) (mVar 2))) [1, 2])) mNil)))
def f_rises : Fn := mkFn 3 b_rises
def b_times_less : Env → Fl := (mSeq (mSet 2 (mOp fAdd (mF (mLst (mCons (mPure (.int 0)) mNil))) (mVar 0)))
  (mRet (mComp (mZip (mCons (mVar 2) (mCons (mF (mOp fAdd (mVar 0) (mF (mLst (mCons (mPure (.int 0)) mNil))))) mNil))) (bTup 2 (bCons (bName 3) (bCons (bName 4) bNil))) (mPure true) (mF (mOp fSub (mVar 3) (mF (mOp fMulA (mVar 1) (mVar 4))))) [3, 4])))
def f_times_less : Fn := mkFn 5 b_times_less
def b_law_box : Env → Fl := (mSeq (mSet 2 (mOp fAdd (mF (mOp fMulA (mPure (.int 7919)) (mVar 1))) (mPure (.int 13))))
  (mSeq (mIfS (mB (mF (mOp fLt (mVar 1) (mF (mLenN 0))))) (mSet 2 (mIxN 0 (mVar 1))) Fl.nx)
  (mSeq (mIfS (mB (mF (mOp fEq (mF (mOp fMod (mVar 2) (mPure (.int 2)))) (mPure (.int 0))))) (mRet (mLst (mCons (mF (mOp fDiv (mVar 2) (mPure (.int 2)))) mNil))) Fl.nx)
  (mSeq (mSet 3 (mD (mPure (.int 0))))
  (mSeq (mFor (mRng1 (mCons (mPure (.int 16)) mNil)) (bName 4) (mSeq (mSet 5 (mOp fMod (mF (mOp fAdd (mF (mOp fAdd (mF (mOp fMulA (mF (mOp fMod (mVar 2) (mPure (.int 2147483647)))) (mPure (.int 48271)))) (mF (mOp fMulA (mPure (.int 7919)) (mVar 4))))) (mPure (.int 1)))) (mPure (.int 2147483647))))
  (mSeq (mSet 5 (mOp fMod (mF (mOp fMulA (mVar 5) (mVar 5))) (mPure (.int 2147483629))))
  (mSet 3 (mOp fAdd (mF (mOp fMulA (mVar 3) (mPure (.int 2147483647)))) (mF (mOp fMod (mF (mOp fMulA (mVar 5) (mF (mOp fAdd (mVar 5) (mPure (.int 13)))))) (mPure (.int 2147483647)))))))))
  (mRet (mLst (mCons (mVar 3) mNil))))))))
def f_law_box : Fn := mkFn 6 b_law_box
def b_law_take : Env → Fl := (mSeq (mBnd (bTup 2 (bCons (bName 2) (bCons (bName 3) bNil))) (mF (mCb dmD (mCons (mF (mIxN 0 (mPure (.int 0)))) (mCons (mVar 1) mNil)))))
  (mSeq (mPut 0 (mPure (.int 0)) (mVar 2))
  (mRet (mMove 3))))
def f_law_take : Fn := mkFn 4 b_law_take
def b_law_goes_round : Env → Fl := (mSeq (mSet 2 (mLrng (mF (mIxN 0 (mPure (.int 0))))))
  (mSeq (mSet 3 (mLst mNil))
  (mSeq (mFor (mZip (mCons (mF (mIxN 0 (mPure (.int 1)))) (mCons (mVar 1) mNil))) (bTup 2 (bCons (bName 4) (bCons (bName 5) bNil))) (mApp 3 (mF (mIf (mB (mF (mOp fGt (mVar 5) (mPure (.int 0))))) (mD (mVar 4)) (mBack (mVar 4))))))
  (mSeq (mSet 6 (mD (mPure (.bool true))))
  (mSeq (wloop (mT (mVar 6)) (mSeq (mSet 7 (mComp (mSeqI (mVar 2)) (bName 8) (mB (mF (mOp fEq (mF (mComp (mSeqI (mVar 3)) (bTup 2 (bCons (bName 9) (bCons (bName 10) bNil))) (mAnd (mB (mF (mOp fEq (mVar 9) (mVar 8)))) (mB (mF (mOp fIn (mVar 10) (mVar 2))))) (mPure (.int 1)) [9, 10])) (mF (mLst mNil))))) (mVar 8) [8]))
  (mSeq (mSet 6 (mOp fNe (mVar 7) (mF (mLst mNil))))
  (mSet 2 (mComp (mSeqI (mVar 2)) (bName 8) (mB (mF (mOp fNotIn (mVar 8) (mVar 7)))) (mVar 8) [8])))) 100)
  (mRet (mOp fNe (mVar 2) (mF (mLst mNil)))))))))
def f_law_goes_round : Fn := mkFn 11 b_law_goes_round
def b_is_places : Env → Fl := (mRet (mD (mAndV (mF (mCall 1 f_is_whole (mCons (mVar 0) mNil))) (mChain fLe fLe (mPure (.int 1)) (mVar 0) (mPure (.int 6))))))
def f_is_places : Fn := mkFn 1 b_is_places
def b_is_place : Env → Fl := (mRet (mD (mAndV (mF (mCall 1 f_is_whole (mCons (mVar 0) mNil))) (mChain fLe fLt (mPure (.int 0)) (mVar 0) (mVar 1)))))
def f_is_place : Fn := mkFn 2 b_is_place
def b_law_web : Env → Fl := (mSeq (mSet 3 (mOp fAdd (mVar 1) (mF (mCallB 2 f_law_take 0 (mCons (mF (mOp fAdd (mF (mOp fSub (mVar 2) (mVar 1))) (mPure (.int 1)))) mNil)))))
  (mSeq (mSet 4 (mCallB 2 f_law_take 0 (mCons (mPure (.int 7)) mNil)))
  (mSeq (mSet 5 (mOp ixD (mF (mLst (mCons (mPure (.int 1)) (mCons (mPure (.int 2)) (mCons (mPure (.int 3)) mNil))))) (mF (mCallB 2 f_law_take 0 (mCons (mPure (.int 3)) mNil)))))
  (mSeq (mSet 6 (mLst mNil))
  (mSeq (mFor (mRng2 (mCons (mPure (.int 1)) (mCons (mVar 3) mNil))) (bName 7) (mSeq (mSet 8 (mCallB 2 f_law_take 0 (mCons (mVar 7) mNil)))
  (mFor (mRng1 (mCons (mVar 7) mNil)) (bName 9) (mSeq (mSet 10 (mOp fLt (mF (mCallB 2 f_law_take 0 (mCons (mPure (.int 4)) mNil))) (mVar 5)))
  (mSeq (mSet 11 (mD (mAndV (mF (mOp fIn (mF (mOp fSub (mVar 7) (mVar 9))) (mTup (mCons (mPure (.int 1)) (mCons (mF (mOp fSub (mVar 3) (mPure (.int 1)))) mNil))))) (mF (mOp fEq (mVar 4) (mPure (.int 2)))))))
  (mSeq (mSet 12 (mD (mAndV (mF (mOp fEq (mF (mOp fMod (mF (mOp fAdd (mVar 9) (mVar 7))) (mPure (.int 2)))) (mPure (.int 1)))) (mAndV (mF (mOp fEq (mVar 4) (mPure (.int 4)))) (mVar 10)))))
  (mSeq (mSet 13 (mD (mOrV (mF (mOp fEq (mVar 9) (mVar 8))) (mAndV (mF (mOp fEq (mVar 4) (mPure (.int 5)))) (mAndV (mF (mOp fEq (mF (mOp fMod (mVar 7) (mPure (.int 2)))) (mPure (.int 0)))) (mF (mOp fEq (mVar 9) (mF (mOp fSub (mVar 7) (mPure (.int 1)))))))))))
  (mIfS (mOr (mAnd (mB (mF (mOp fIn (mVar 4) (mTup (mCons (mPure (.int 1)) (mCons (mPure (.int 5)) mNil)))))) (mT (mVar 13))) (mAnd (mB (mF (mOp fIn (mVar 4) (mTup (mCons (mPure (.int 0)) (mCons (mPure (.int 6)) mNil)))))) (mT (mVar 10)))) (mApp 6 (mTup (mCons (mVar 9) (mCons (mVar 7) mNil)))) (mIfS (mOr (mT (mVar 11)) (mOr (mB (mF (mOp fEq (mVar 4) (mPure (.int 3))))) (mT (mVar 12)))) (mApp 6 (mTup (mCons (mVar 9) (mCons (mVar 7) mNil)))) Fl.nx)))))))))
  (mSeq (mSet 14 (mLrng (mVar 3)))
  (mSeq (mFor (mRng1 (mCons (mF (mOp fMulA (mVar 3) (mF (mCb intD (mCons (mF (mOp fGt (mVar 4) (mPure (.int 0)))) mNil))))) mNil)) (bName 15) (mSeq (mSet 16 (mCallB 2 f_law_take 0 (mCons (mVar 3) mNil)))
  (mPut2 14 (mVar 15) (mVar 16) (mTup (mCons (mF (mIxN 14 (mVar 16))) (mCons (mF (mIxN 14 (mVar 15))) mNil))))))
  (mSeq (mSet 17 (mLst mNil))
  (mSeq (mFor (mSeqI (mVar 6)) (bTup 2 (bCons (bName 9) (bCons (bName 7) bNil))) (mApp 17 (mTup (mCons (mF (mCb minD (mCons (mF (mIxN 14 (mVar 9))) (mCons (mF (mIxN 14 (mVar 7))) mNil)))) (mCons (mF (mCb maxD (mCons (mF (mIxN 14 (mVar 9))) (mCons (mF (mIxN 14 (mVar 7))) mNil)))) mNil)))))
  (mRet (mD (mTup (mCons (mVar 3) (mCons (mF (mCb tupD (mCons (mF (mCb sortUD (mCons (mVar 17) mNil))) mNil))) mNil))))))))))))))
def f_law_web : Fn := mkFn 18 b_law_web
def b_is_tie : Env → Fl := (mSeq (mIfS (mNot (mB (mF (mCall 2 f_is_tuple_of (mCons (mVar 0) (mCons (mPure (.int 2)) mNil)))))) (mRet (mD (mPure (.bool false)))) Fl.nx)
  (mSeq (mBnd (bTup 2 (bCons (bName 2) (bCons (bName 3) bNil))) (mVar 0))
  (mRet (mD (mAndV (mF (mCall 2 f_is_place (mCons (mVar 2) (mCons (mVar 1) mNil)))) (mAndV (mF (mCall 2 f_is_place (mCons (mVar 3) (mCons (mVar 1) mNil)))) (mF (mOp fLt (mVar 2) (mVar 3)))))))))
def f_is_tie : Fn := mkFn 4 b_is_tie
def b_are_ties : Env → Fl := (mRet (mD (mAndV (mF (mIsi "tuple" (mVar 0))) (mAndV (mF (mCb allD (mCons (mF (mComp (mSeqI (mVar 0)) (bName 2) (mPure true) (mF (mCall 2 f_is_tie (mCons (mVar 2) (mCons (mVar 1) mNil)))) [2])) mNil))) (mF (mCall 1 f_rises (mCons (mVar 0) mNil)))))))
def f_are_ties : Fn := mkFn 3 b_are_ties
def b_is_web : Env → Fl := (mSeq (mIfS (mNot (mB (mF (mCall 2 f_is_tuple_of (mCons (mVar 0) (mCons (mPure (.int 2)) mNil)))))) (mRet (mD (mPure (.bool false)))) Fl.nx)
  (mSeq (mBnd (bTup 2 (bCons (bName 1) (bCons (bName 2) bNil))) (mVar 0))
  (mRet (mD (mAndV (mF (mCall 1 f_is_places (mCons (mVar 1) mNil))) (mF (mCall 2 f_are_ties (mCons (mVar 2) (mCons (mVar 1) mNil)))))))))
def f_is_web : Fn := mkFn 3 b_is_web
def b_check_web : Env → Fl := (mIfS (mNot (mB (mF (mCall 1 f_is_web (mCons (mVar 0) mNil))))) (fun _ => .bad) Fl.nx)
def f_check_web : Fn := mkFn 1 b_check_web
def b_near : Env → Fl := (mSeq (mDrop (mCall 1 f_check_web (mCons (mVar 0) mNil)))
  (mSeq (mBnd (bTup 2 (bCons (bName 2) (bCons (bName 3) bNil))) (mVar 0))
  (mSeq (mIfS (mNot (mB (mF (mCall 2 f_is_place (mCons (mVar 1) (mCons (mVar 2) mNil)))))) (fun _ => .bad) Fl.nx)
  (mRet (mCb tupD (mCons (mF (mComp (mRng1 (mCons (mVar 2) mNil)) (bName 4) (mOr (mB (mF (mOp fIn (mTup (mCons (mVar 1) (mCons (mVar 4) mNil))) (mVar 3)))) (mB (mF (mOp fIn (mTup (mCons (mVar 4) (mCons (mVar 1) mNil))) (mVar 3))))) (mVar 4) [4])) mNil))))))
def f_near : Fn := mkFn 5 b_near
def b_all_near : Env → Fl := (mRet (mComp (mRng1 (mCons (mF (mIxN 0 (mPure (.int 0)))) mNil)) (bName 1) (mPure true) (mF (mCall 2 f_near (mCons (mVar 0) (mCons (mVar 1) mNil)))) [1]))
def f_all_near : Fn := mkFn 2 b_all_near
def b_partings : Env → Fl := (mSeq (mSet 1 (mCall 1 f_all_near (mCons (mVar 0) mNil)))
  (mSeq (mSet 2 (mLst (mCons (mTup mNil) mNil)))
  (mSeq (mFor (mRng1 (mCons (mF (mIxN 0 (mPure (.int 0)))) mNil)) (bName 3) (mSeq (mSet 4 (mLst mNil))
  (mSeq (mFor (mSeqI (mVar 2)) (bName 5) (mSeq (mApp 4 (mF (mOp fAdd (mVar 5) (mTup (mCons (mTup (mCons (mVar 3) mNil)) mNil)))))
  (mFor (mEnum (mCons (mVar 5) mNil)) (bTup 2 (bCons (bName 6) (bCons (bName 7) bNil))) (mIfS (mNot (mB (mF (mCb anyD (mCons (mF (mComp (mSeqI (mVar 7)) (bName 8) (mPure true) (mF (mOp fIn (mVar 8) (mF (mIxN 1 (mVar 3))))) [8])) mNil))))) (mApp 4 (mF (mOp fAdd (mF (mOp fAdd (mF (mSl (mVar 5) mNoPart (mPart (mVar 6)))) (mTup (mCons (mF (mOp fAdd (mVar 7) (mTup (mCons (mVar 3) mNil)))) mNil)))) (mF (mSl (mVar 5) (mPart (mF (mOp fAdd (mVar 6) (mPure (.int 1))))) mNoPart))))) Fl.nx))))
  (mSet 2 (mD (mVar 4))))))
  (mRet (mMove 2)))))
def f_partings : Fn := mkFn 9 b_partings
def b_powers_of : Env → Fl := (mSeq (mDrop (mCall 1 f_check_web (mCons (mVar 0) mNil)))
  (mSeq (mSet 1 (mIxN 0 (mPure (.int 0))))
  (mSeq (mSet 2 (mComp (mSeqI (mF (mCall 1 f_partings (mCons (mVar 0) mNil)))) (bName 8) (mPure true) (mF (mLenN 8)) [8]))
  (mSeq (mSet 3 (mOp fMulA (mF (mLst (mCons (mPure (.int 0)) mNil))) (mF (mOp fAdd (mVar 1) (mPure (.int 1))))))
  (mSeq (mSet 4 (mLst (mCons (mPure (.int 1)) mNil)))
  (mSeq (mFor (mRng2 (mCons (mPure (.int 1)) (mCons (mF (mOp fAdd (mVar 1) (mPure (.int 1)))) mNil))) (bName 5) (mSeq (mSet 4 (mCall 2 f_times_less (mCons (mVar 4) (mCons (mF (mOp fSub (mVar 5) (mPure (.int 1)))) mNil))))
  (mFor (mEnum (mCons (mVar 4) mNil)) (bTup 2 (bCons (bName 6) (bCons (bName 7) bNil))) (mAugP 3 (mVar 6) (fun i j => i + j) (mF (mOp fMulA (mF (mLm countD (mVar 2) (mVar 5))) (mVar 7)))))))
  (mRet (mCb tupD (mCons (mVar 3) mNil)))))))))
def f_powers_of : Fn := mkFn 9 b_powers_of
def b_count_at : Env → Fl := (mSeq (mSet 2 (mCall 1 f_powers_of (mCons (mVar 0) mNil)))
  (mSeq (mIfS (mNot (mB (mF (mCall 1 f_is_whole (mCons (mVar 1) mNil))))) (fun _ => .bad) Fl.nx)
  (mSeq (mSet 3 (mD (mPure (.int 0))))
  (mSeq (mFor (mSeqI (mF (mBack (mVar 2)))) (bName 4) (mSet 3 (mOp fAdd (mF (mOp fMulA (mVar 3) (mVar 1))) (mVar 4))))
  (mRet (mMove 3))))))
def f_count_at : Fn := mkFn 5 b_count_at
def b_no_rounds_many : Env → Fl := (mRet (mCb absD (mCons (mF (mCall 2 f_count_at (mCons (mVar 0) (mCons (mNeg (mPure (.int 1))) mNil)))) mNil)))
def f_no_rounds_many : Fn := mkFn 1 b_no_rounds_many
def b_law : Env → Fl := (mSeq (mFor (mRng1 (mCons (mF (mCb maxD (mCons (mPure (.int 1)) (mCons (mF (mCb minD (mCons (mF (mLenN 0)) (mCons (mPure (.int 4)) mNil)))) mNil)))) mNil)) (bName 1) (mSeq (mSet 2 (mCallB 2 f_law_box 0 (mCons (mVar 1) mNil)))
  (mSeq (mSet 3 (mCallB 3 f_law_web 2 (mCons (mPure (.int 1)) (mCons (mPure (.int 5)) mNil))))
  (mSeq (mSet 3 (mD (mTup (mCons (mF (mIxN 3 (mPure (.int 0)))) (mCons (mF (mSl (mF (mIxN 3 (mPure (.int 1)))) mNoPart (mPart (mPure (.int 7))))) mNil)))))
  (mSeq (mSet 4 (mLst (mCons (mTup mNil) mNil)))
  (mSeq (mFor (mSeqI (mF (mIxN 3 (mPure (.int 1))))) (bName 5) (mSet 4 (mOp fAdd (mF (mComp (mSeqI (mVar 4)) (bName 7) (mPure true) (mF (mOp fAdd (mVar 7) (mTup (mCons (mPure (.int 1)) mNil)))) [7])) (mF (mComp (mSeqI (mVar 4)) (bName 7) (mPure true) (mF (mOp fAdd (mVar 7) (mTup (mCons (mNeg (mPure (.int 1))) mNil)))) [7])))))
  (mSeq (mSet 6 (mCb lenD (mCons (mF (mComp (mSeqI (mVar 4)) (bName 7) (mNot (mB (mF (mCall 2 f_law_goes_round (mCons (mVar 3) (mCons (mVar 7) mNil)))))) (mVar 7) [7])) mNil)))
  (mIfS (mB (mF (mOp fNe (mF (mCb reprD (mCons (mF (mCall 1 f_no_rounds_many (mCons (mVar 3) mNil))) mNil))) (mF (mCb reprD (mCons (mVar 6) mNil)))))) (mRet (mD (mPure (.bool false)))) Fl.nx))))))))
  (mRet (mD (mPure (.bool true)))))
def f_law : Fn := mkFn 8 b_law
end Hue
-- L_k52
namespace Hue
open PySem PySem.Spec PyProof.Rows L2

/-! ### how flows run -/
theorem chain_val {f g : PyData → PyData → Option Rv} {a b c : M PyData} {x y z : PyData} {p q : Bool} {ρ : Env} (ha : a ρ = .ok x ρ) (hb : b ρ = .ok y ρ) (hc : c ρ = .ok z ρ) (hf : f x y = some (.dat (.bool p))) (hg : g y z = some (.dat (.bool q))) : mChain f g a b c ρ = .ok (.bool (p && q)) ρ := by
  unfold mChain mBind
  rw [ha]
  show (R.bind (b ρ) _) = _
  rw [hb]
  show R.bind (mOpt (f x y) ρ) _ = _
  rw [hf]
  cases p with
  | false => rfl
  | true =>
    show R.bind (c ρ) _ = _
    rw [hc]
    show R.bind (mOpt (g y z) ρ) _ = _
    rw [hg]
    rfl
theorem and_val {a b : M PyData} {p q : Bool} {ρ : Env} (ha : a ρ = .ok (.bool p) ρ) (hb : p = true → b ρ = .ok (.bool q) ρ) : mAndV a b ρ = .ok (.bool (p && q)) ρ := by
  unfold mAndV mBind mB mBind
  rw [ha]
  cases p with
  | false => rfl
  | true => exact hb rfl
theorem ret_ok {as : List Ar} {n : Nat} {body : Env → Fl} {r : Rv} {ρ : Env} {as' : List Ar} (h : body (as.map arSl ++ List.replicate (n - as.length) .un) = .rt r ρ) (hb : back as ρ = some as') : mkFn n body as = .ok r as' := by
  unfold mkFn
  rw [h]
  show frOf as (Fr.ok r) ρ = _
  unfold frOf
  rw [hb]
theorem nx_ok {as : List Ar} {n : Nat} {body : Env → Fl} {ρ : Env} {as' : List Ar} (h : body (as.map arSl ++ List.replicate (n - as.length) .un) = .nx ρ) (hb : back as ρ = some as') : mkFn n body as = .ok (.dat .none) as' := by
  unfold mkFn
  rw [h]
  show frOf as (Fr.ok (.dat .none)) ρ = _
  unfold frOf
  rw [hb]
theorem retE {m : M PyData} {d : PyData} {ρ ρ' : Env} (h : m ρ = .ok d ρ') : mRet (mD m) ρ = .rt (.dat d) ρ' := by
  unfold mRet mThen mD mMap
  rw [h]
  rfl
theorem retX {m : M Rv} {d : Rv} {ρ ρ' : Env} (h : m ρ = .ok d ρ') : mRet m ρ = .rt d ρ' := by
  unfold mRet mThen
  rw [h]
theorem fOk {m : M Rv} {r : Rv} {ρ ρ' : Env} (h : m ρ = .ok r ρ') : mF m ρ = .ok (frz r) ρ' := by
  unfold mF mMap
  rw [h]
  rfl
theorem fD {m : M Rv} {d : PyData} {ρ ρ' : Env} (h : m ρ = .ok (.dat d) ρ') : mF m ρ = .ok d ρ' := by
  unfold mF mMap
  rw [h]
  rfl
theorem fN {m : M Rv} {d : List PyData} {ρ ρ' : Env} (h : m ρ = .ok (.new d) ρ') : mF m ρ = .ok (.list d) ρ' := by
  unfold mF mMap
  rw [h]
  rfl
theorem dOk {m : M PyData} {r : PyData} {ρ ρ' : Env} (h : m ρ = .ok r ρ') : mD m ρ = .ok (.dat r) ρ' := by
  unfold mD mMap
  rw [h]
  rfl
theorem opOk {f : PyData → PyData → Option Rv} {a b : M PyData} {x y : PyData} {r : Rv} {ρ ρ1 ρ2 : Env} (ha : a ρ = .ok x ρ1) (hb : b ρ1 = .ok y ρ2) (hf : f x y = some r) : mOp f a b ρ = .ok r ρ2 := by
  unfold mOp mBind
  rw [ha]
  show R.bind (b ρ1) _ = _
  rw [hb]
  show mOpt (f x y) ρ2 = _
  rw [hf]
  rfl
theorem bOk {m : M PyData} {b : Bool} {ρ ρ' : Env} (h : m ρ = .ok (.bool b) ρ') : mB m ρ = .ok b ρ' := by
  unfold mB mBind
  rw [h]
  rfl
theorem notOk {m : M Bool} {b : Bool} {ρ ρ' : Env} (h : m ρ = .ok b ρ') : mNot m ρ = .ok (!b) ρ' := by
  unfold mNot mMap
  rw [h]
  rfl
theorem orOk {a b : M Bool} {p q : Bool} {ρ : Env} (ha : a ρ = .ok p ρ) (hb : p = false → b ρ = .ok q ρ) : mOr a b ρ = .ok (p || q) ρ := by
  unfold mOr mBind
  rw [ha]
  cases p with
  | true => rfl
  | false => exact hb rfl
theorem andOk {a b : M Bool} {p q : Bool} {ρ : Env} (ha : a ρ = .ok p ρ) (hb : p = true → b ρ = .ok q ρ) : mAnd a b ρ = .ok (p && q) ρ := by
  unfold mAnd mBind
  rw [ha]
  cases p with
  | false => rfl
  | true => exact hb rfl
theorem nilOk {ρ : Env} : mNil ρ = .ok [] ρ := rfl
theorem consOk {a : M PyData} {r : M (List PyData)} {x : PyData} {xs : List PyData} {ρ ρ1 ρ2 : Env} (ha : a ρ = .ok x ρ1) (hr : r ρ1 = .ok xs ρ2) : mCons a r ρ = .ok (x :: xs) ρ2 := by
  unfold mCons mBind mMap
  rw [ha]
  show R.bind (r ρ1) _ = _
  rw [hr]
  rfl
theorem callOk {f : Fn} {n : Nat} {a : M (List PyData)} {xs : List PyData} {r : Rv} {ρ ρ' : Env} {as : List Ar} (ha : a ρ = .ok xs ρ') (hn : xs.length = n) (hf : f (xs.map Ar.dat) = .ok r as) : mCall n f a ρ = .ok r ρ' := by
  unfold mCall mBind
  rw [ha]
  show (if xs.length = n then frR ρ' (f (xs.map Ar.dat)) else .bad) = _
  rw [if_pos hn, hf]
  rfl
theorem cbOk {f : List PyData → Option Rv} {a : M (List PyData)} {xs : List PyData} {r : Rv} {ρ ρ' : Env} (ha : a ρ = .ok xs ρ') (hf : f xs = some r) : mCb f a ρ = .ok r ρ' := by
  unfold mCb mBind
  rw [ha]
  show mOpt (f xs) ρ' = _
  rw [hf]
  rfl
theorem tupOk {a : M (List PyData)} {xs : List PyData} {ρ ρ' : Env} (ha : a ρ = .ok xs ρ') (h : xs.length ≤ 100000) : mTup a ρ = .ok (.tuple xs) ρ' := by
  unfold mTup mBind
  rw [ha]
  show mOpt (lim PyData.tuple xs) ρ' = _
  unfold lim small
  rw [decide_eq_true h]
  rfl
theorem lstOk {a : M (List PyData)} {xs : List PyData} {ρ ρ' : Env} (ha : a ρ = .ok xs ρ') (h : xs.length ≤ 100000) : mLst a ρ = .ok (.new xs) ρ' := by
  unfold mLst mBind
  rw [ha]
  show mOpt (lim Rv.new xs) ρ' = _
  unfold lim small
  rw [decide_eq_true h]
  rfl
theorem setOk {m : M Rv} {r : Rv} {i : Nat} {ρ ρ1 ρ2 : Env} (h : m ρ = .ok r ρ1) (hs : setS i r ρ1 = some ρ2) : mSet i m ρ = .nx ρ2 := by
  unfold mSet mThen
  rw [h]
  show oFl (setS i r ρ1) = _
  rw [hs]
  rfl
theorem dropOk {m : M Rv} {r : Rv} {ρ ρ1 : Env} (h : m ρ = .ok r ρ1) : mDrop m ρ = .nx ρ1 := by
  unfold mDrop mThen
  rw [h]
theorem seqOk {a b : Env → Fl} {ρ ρ1 : Env} (h : a ρ = .nx ρ1) : mSeq a b ρ = b ρ1 := by
  unfold mSeq
  rw [h]
  rfl
theorem seqRt {a b : Env → Fl} {ρ ρ1 : Env} {r : Rv} (h : a ρ = .rt r ρ1) : mSeq a b ρ = .rt r ρ1 := by
  unfold mSeq
  rw [h]
  rfl
theorem ifT {c : M Bool} {a b : Env → Fl} {ρ ρ1 : Env} (h : c ρ = .ok true ρ1) : mIfS c a b ρ = a ρ1 := by
  unfold mIfS mThen
  rw [h]
  rfl
theorem ifF {c : M Bool} {a b : Env → Fl} {ρ ρ1 : Env} (h : c ρ = .ok false ρ1) : mIfS c a b ρ = b ρ1 := by
  unfold mIfS mThen
  rw [h]
  rfl
/-- a comprehension whose test and element change nothing -/
theorem cl_pure {b : PyData → Env → Option Env} {c : M Bool} {e : M PyData} {vs : List Nat} {ρ : Env} {p : PyData → Bool} {g : PyData → PyData} : ∀ {ds acc : List PyData}, (∀ d ∈ ds, ∃ ρ1, b d ρ = some ρ1 ∧ c ρ1 = .ok (p d) ρ1 ∧ (p d = true → e ρ1 = .ok (g d) ρ1) ∧ wipeE ρ1 vs = ρ) → acc.length + ds.length ≤ 100000 →
    cloop b c e vs ds ρ acc = .ok (acc ++ (ds.filter p).map g) ρ
  | [], acc, _, _ => by rw [List.filter_nil, List.map_nil, List.append_nil]; rfl
  | d :: ds, acc, h, hl => by
    obtain ⟨ρ1, h1, h2, h3, h4⟩ := h d (List.mem_cons_self ..)
    unfold cloop
    rw [h1]
    dsimp only
    rw [h2]
    rw [List.length_cons] at hl
    cases q : p d with
    | false =>
      dsimp only
      rw [h4, cl_pure (fun x hx => h x (List.mem_cons_of_mem _ hx)) (by omega), List.filter_cons, if_neg (by rw [q]; decide)]
    | true =>
      dsimp only
      rw [h3 q]
      dsimp only
      rw [if_pos (show small acc.length = true from decide_eq_true (by omega)), h4, cl_pure (fun x hx => h x (List.mem_cons_of_mem _ hx)) (by rw [List.length_append, List.length_singleton]; omega), List.filter_cons, if_pos q, List.map_cons, List.append_assoc]
      rfl
theorem compOk {m : M (List PyData)} {b : PyData → Env → Option Env} {c : M Bool} {e : M PyData} {vs : List Nat} {ρ ρ1 : Env} {p : PyData → Bool} {g : PyData → PyData} {ds : List PyData} (hm : m ρ = .ok ds ρ1)
    (h : ∀ d ∈ ds, ∃ ρ2, b d (wipeE ρ1 vs) = some ρ2 ∧ c ρ2 = .ok (p d) ρ2 ∧ (p d = true → e ρ2 = .ok (g d) ρ2) ∧ wipeE ρ2 vs = wipeE ρ1 vs) (hl : ds.length ≤ 100000) : mComp m b c e vs ρ = .ok (.new ((ds.filter p).map g)) (wipeE ρ1 vs) := by
  unfold mComp mBind
  rw [hm]
  show R.bind (cloop b c e vs ds (wipeE ρ1 vs) []) _ = _
  rw [cl_pure h (by rw [List.length_nil]; omega)]
  rfl
theorem zipOk {m : M (List PyData)} {ds es : List PyData} {ρ ρ1 : Env} (h : m ρ = .ok [.tuple ds, .tuple es] ρ1) : mZip m ρ = .ok (zipL ds es) ρ1 := by
  unfold mZip mBind
  rw [h]
  rfl
theorem seqT {m : M PyData} {ds : List PyData} {ρ ρ1 : Env} (h : m ρ = .ok (.tuple ds) ρ1) : mSeqI m ρ = .ok ds ρ1 := by
  unfold mSeqI mBind
  rw [h]
  rfl
theorem seqL {m : M PyData} {ds : List PyData} {ρ ρ1 : Env} (h : m ρ = .ok (.list ds) ρ1) : mSeqI m ρ = .ok ds ρ1 := by
  unfold mSeqI mBind
  rw [h]
  rfl
theorem rng1Ok {m : M (List PyData)} {n : Int} {ρ ρ1 : Env} (h : m ρ = .ok [.int n] ρ1) (h0 : -1000 ≤ n) (h1 : n ≤ 1000) : mRng1 m ρ = .ok (rngL 0 n.toNat) ρ1 := by
  unfold mRng1 mBind
  rw [h]
  show mOpt (if inR n = true then some (rngL 0 n.toNat) else none) ρ1 = _
  rw [if_pos (show inR n = true by unfold inR; rw [decide_eq_true (by omega), decide_eq_true (by omega)]; rfl)]
  rfl
theorem rng2Ok {m : M (List PyData)} {i n : Int} {ρ ρ1 : Env} (h : m ρ = .ok [.int i, .int n] ρ1) (g0 : -1000 ≤ i) (g1 : i ≤ 1000) (h0 : -1000 ≤ n) (h1 : n ≤ 1000) : mRng2 m ρ = .ok (rngL i (n - i).toNat) ρ1 := by
  unfold mRng2 mBind
  rw [h]
  show mOpt (if (inR i && inR n) = true then some (rngL i (n - i).toNat) else none) ρ1 = _
  rw [if_pos (show (inR i && inR n) = true by unfold inR; rw [decide_eq_true (by omega), decide_eq_true (by omega), decide_eq_true (by omega), decide_eq_true (by omega)]; rfl)]
  rfl
theorem ite_small {α : Type} {n : Nat} {a b : α} (h : n ≤ 100000) : (if small n = true then a else b) = a := if_pos (decide_eq_true h)
theorem filter_yes {α : Type} (l : List α) : l.filter (fun _ => true) = l := List.filter_eq_self.mpr fun _ _ => rfl
theorem bools_map {α : Type} (f : α → Bool) (l : List α) : boolsD (l.map fun x => .bool (f x)) = some (l.map f) := by
  induction l with
  | nil => rfl
  | cons a r ih => show (boolsD (r.map fun x => .bool (f x))).map (f a :: ·) = _; rw [ih]; rfl
theorem allOk {α : Type} {f : α → Bool} {l : List α} : allD [.list (l.map fun x => .bool (f x))] = some (.dat (.bool (l.all f))) := by
  show (boolsD _).map _ = _
  rw [bools_map]
  show some (Rv.dat (.bool ((l.map f).all id))) = _
  rw [List.all_map]
  rfl

/-! ### small defs -/
def isInt : PyData → Bool
  | .int _ => true
  | _ => false
theorem fn_is_whole (d : PyData) : f_is_whole [.dat d] = .ok (.dat (.bool (isInt d))) [.dat d] := by cases d <;> rfl
def tupN (n : Int) : PyData → Bool
  | .tuple ds => decide ((ds.length : Int) = n)
  | _ => false
theorem ibeq (a b : Int) : (a == b) = decide (a = b) := by
  by_cases h : a = b
  · rw [decide_eq_true h]; exact beq_iff_eq.mpr h
  · rw [decide_eq_false h]; exact beq_eq_false_iff_ne.mpr h
theorem fn_is_tuple_of (d : PyData) (n : Int) : f_is_tuple_of [.dat d, .dat (.int n)] = .ok (.dat (.bool (tupN n d))) [.dat d, .dat (.int n)] := by
  cases d with
  | tuple ds =>
    show Fr.ok (.dat (.bool ((ds.length : Int) == n))) _ = _
    unfold tupN
    rw [ibeq]
  | _ => rfl
def rngT (lo hi : Int) : PyData → Bool
  | .int i => decide (lo ≤ i) && decide (i ≤ hi)
  | _ => false
theorem call1 {f : Fn} {a : M PyData} {x : PyData} {r : Rv} {ρ : Env} {as : List Ar} (ha : a ρ = .ok x ρ) (hf : f [.dat x] = .ok r as) : mCall 1 f (mCons a mNil) ρ = .ok r ρ := callOk (consOk ha nilOk) rfl hf
theorem call2 {f : Fn} {a b : M PyData} {x y : PyData} {r : Rv} {ρ : Env} {as : List Ar} (ha : a ρ = .ok x ρ) (hb : b ρ = .ok y ρ) (hf : f [.dat x, .dat y] = .ok r as) : mCall 2 f (mCons a (mCons b mNil)) ρ = .ok r ρ := callOk (consOk ha (consOk hb nilOk)) rfl hf
theorem fn_is_places (d : PyData) : f_is_places [.dat d] = .ok (.dat (.bool (rngT 1 6 d))) [.dat d] := by
  cases d with
  | int i => exact ret_ok (ρ := [.dat (.int i)]) (retE (and_val (p := true) (fD (call1 rfl (fn_is_whole _))) fun _ => chain_val rfl rfl rfl rfl rfl)) rfl
  | _ => rfl
def isPl (p : Int) : PyData → Bool
  | .int i => decide (0 ≤ i) && decide (i < p)
  | _ => false
theorem fn_is_place (d : PyData) (p : Int) : f_is_place [.dat d, .dat (.int p)] = .ok (.dat (.bool (isPl p d))) [.dat d, .dat (.int p)] := by
  cases d with
  | int i => exact ret_ok (ρ := [.dat (.int i), .dat (.int p)]) (retE (and_val (p := true) (fD (call1 rfl (fn_is_whole _))) fun _ => chain_val rfl rfl rfl rfl rfl)) rfl
  | _ => rfl
/-- two places, the first the lesser -/
def ltD : PyData → PyData → Bool
  | .int a, .int b => decide (a < b)
  | _, _ => false
def tieT (p : Int) : PyData → Bool
  | .tuple [x, y] => isPl p x && (isPl p y && ltD x y)
  | _ => false
theorem lt_ints (a b : Int) : fLt (.int a) (.int b) = some (.dat (.bool (decide (a < b)))) := rfl
theorem isPl_int {p : Int} {d : PyData} (h : isPl p d = true) : ∃ i, d = .int i := by
  cases d with
  | int i => exact ⟨i, rfl⟩
  | _ => cases h
theorem tieT_len {p : Int} {ds : List PyData} (h : ds.length ≠ 2) : tieT p (.tuple ds) = false := by
  unfold tieT
  split
  · rename_i q
    cases q
    exact absurd rfl h
  · rfl
theorem fn_is_tie (d : PyData) (p : Int) : f_is_tie [.dat d, .dat (.int p)] = .ok (.dat (.bool (tieT p d))) [.dat d, .dat (.int p)] := by
  cases d with
  | tuple ds =>
    by_cases hl : ds.length = 2
    · match ds, hl with
      | [x, y], _ =>
        refine ret_ok (ρ := [.dat (.tuple [x, y]), .dat (.int p), .dat x, .dat y]) ?_ rfl
        show mSeq _ _ [.dat (.tuple [x, y]), .dat (.int p), .un, .un] = _
        refine (seqOk (ρ1 := [.dat (.tuple [x, y]), .dat (.int p), .un, .un]) ?_).trans ?_
        · exact ifF (notOk (b := true) (bOk (fD (call2 rfl rfl (fn_is_tuple_of _ 2)))))
        refine (seqOk (ρ1 := [.dat (.tuple [x, y]), .dat (.int p), .dat x, .dat y]) ?_).trans ?_
        · rfl
        refine retE (and_val (p := isPl p x) (fD (call2 rfl rfl (fn_is_place x p))) fun h1 => and_val (p := isPl p y) (fD (call2 rfl rfl (fn_is_place y p))) fun h2 => ?_)
        obtain ⟨a, rfl⟩ := isPl_int h1
        obtain ⟨b, rfl⟩ := isPl_int h2
        exact fD (opOk rfl rfl (lt_ints a b))
    · rw [tieT_len hl]
      refine ret_ok (ρ := [.dat (.tuple ds), .dat (.int p), .un, .un]) ?_ rfl
      show mSeq _ _ [.dat (.tuple ds), .dat (.int p), .un, .un] = _
      refine seqRt ?_
      have e : tupN 2 (.tuple ds) = false := decide_eq_false fun z => hl (by omega)
      refine (ifT (ρ1 := [.dat (.tuple ds), .dat (.int p), .un, .un]) (notOk (b := false) (bOk (fD ?_)))).trans rfl
      rw [← e]
      exact call2 rfl rfl (fn_is_tuple_of _ 2)
  | _ => rfl
/-! ### rising rows -/
theorem cut_one (ds : List PyData) : cutD ds (some 1) none = ds.drop 1 := by
  unfold cutD
  rw [show HT.sIx ds.length 0 (some 1) = min 1 ds.length from HT.sIx_nat ds.length 0 1, HT.sIx_none]
  cases ds with
  | nil => rfl
  | cons x r =>
    rw [show min 1 (x :: r).length = 1 by rw [List.length_cons]; omega]
    show List.take ((x :: r).length - 1) r = r
    rw [List.length_cons, Nat.add_sub_cancel]
    exact List.take_length
def steps (lt : PyData → PyData → Bool) (ds : List PyData) : Bool := (ds.zip (ds.drop 1)).all fun p => lt p.1 p.2
theorem fn_rises {ds : List PyData} {lt : PyData → PyData → Bool} (h : ∀ p ∈ ds.zip (ds.drop 1), fLt p.1 p.2 = some (.dat (.bool (lt p.1 p.2)))) (hl : ds.length ≤ 100000) : f_rises [.dat (.tuple ds)] = .ok (.dat (.bool (steps lt ds))) [.dat (.tuple ds)] := by
  refine ret_ok (ρ := [.dat (.tuple ds), .un, .un]) (retX (cbOk (consOk (fN ?_) nilOk) (allOk (l := ds.zip (ds.drop 1)) (f := fun p => lt p.1 p.2)))) rfl
  have e : (ds.zip (ds.drop 1)).map (fun p => PyData.bool (lt p.1 p.2)) = ((zipL ds (ds.drop 1)).filter fun _ => true).map fun d => match d with
      | .tuple [x, y] => .bool (lt x y)
      | _ => .none := by
    rw [filter_yes]
    unfold zipL
    rw [List.map_map]
    rfl
  rw [e]
  refine compOk (ρ1 := [.dat (.tuple ds), .un, .un]) ?_ (fun d hd => ?_) ?_
  · refine zipOk (consOk rfl (consOk ?_ nilOk))
    rw [← cut_one]
    rfl
  · unfold zipL at hd
    obtain ⟨p, hp, rfl⟩ := List.mem_map.mp hd
    exact ⟨[.dat (.tuple ds), .dat p.1, .dat p.2], rfl, rfl, fun _ => fD (opOk rfl rfl (h p hp)), rfl⟩
  · rw [zipL_len]
    omega
/-- the ties of a web of p places -/
def ltP : PyData → PyData → Bool
  | .tuple [.int a, .int b], .tuple [.int c, .int d] => HT.lexLt [a, b] [c, d]
  | _, _ => false
theorem tieT_inv {p : Int} {d : PyData} (h : tieT p d = true) : ∃ a b, d = .tuple [.int a, .int b] ∧ 0 ≤ a ∧ a < b ∧ b < p := by
  unfold tieT at h
  split at h
  · rename_i x y
    rw [Bool.and_eq_true, Bool.and_eq_true] at h
    obtain ⟨a, rfl⟩ := isPl_int h.1
    obtain ⟨b, rfl⟩ := isPl_int h.2.1
    have h1 : (decide (0 ≤ a) && decide (a < p)) = true := h.1
    have h2 : (decide (0 ≤ b) && decide (b < p)) = true := h.2.1
    have h3 : decide (a < b) = true := h.2.2
    rw [Bool.and_eq_true] at h1 h2
    exact ⟨a, b, rfl, of_decide_eq_true h1.1, of_decide_eq_true h3, of_decide_eq_true h2.2⟩
  · cases h
theorem zip_mem {α : Type} {l : List α} {p : α × α} (h : p ∈ l.zip (l.drop 1)) : p.1 ∈ l ∧ p.2 ∈ l := by
  obtain ⟨x, y⟩ := p
  have z := List.of_mem_zip h
  exact ⟨z.1, List.mem_of_mem_drop z.2⟩
def tiesT (p : Int) : PyData → Bool
  | .tuple ds => ds.all (tieT p) && steps ltP ds
  | _ => false
theorem fn_are_ties (d : PyData) (p : Int) (hd : ∀ ds, d = .tuple ds → ds.length ≤ 100000) : f_are_ties [.dat d, .dat (.int p)] = .ok (.dat (.bool (tiesT p d))) [.dat d, .dat (.int p)] := by
  cases d with
  | tuple ds =>
    have hl := hd ds rfl
    refine ret_ok (ρ := [.dat (.tuple ds), .dat (.int p), .un]) (retE ?_) rfl
    show mAndV _ _ [.dat (.tuple ds), .dat (.int p), .un] = _
    refine and_val (p := true) (q := ds.all (tieT p) && steps ltP ds) rfl fun _ => and_val (p := ds.all (tieT p)) (fD (cbOk (consOk (fN ?_) nilOk) (allOk (l := ds) (f := tieT p)))) fun h => fD (call1 rfl (fn_rises (fun q hq => ?_) hl))
    · rw [show ds.map (fun x => PyData.bool (tieT p x)) = (ds.filter fun _ => true).map fun x => .bool (tieT p x) by rw [filter_yes]]
      exact compOk (ρ1 := [.dat (.tuple ds), .dat (.int p), .un]) (seqT rfl) (fun d _ => ⟨[.dat (.tuple ds), .dat (.int p), .dat d], rfl, rfl, fun _ => fD (call2 rfl rfl (fn_is_tie d p)), rfl⟩) hl
    · have m := zip_mem hq
      obtain ⟨a, b, e1, _⟩ := tieT_inv (List.all_eq_true.mp h _ m.1)
      obtain ⟨c, d, e2, _⟩ := tieT_inv (List.all_eq_true.mp h _ m.2)
      rw [e1, e2]
      rfl
  | _ => rfl
def webT : PyData → Bool
  | .tuple [.int p, t] => rngT 1 6 (.int p) && tiesT p t
  | _ => false
def Few (d : PyData) : Prop := ∀ p t, d = .tuple [p, t] → ∀ ds, t = .tuple ds → ds.length ≤ 100000
theorem fn_is_web (d : PyData) (hf : Few d) : f_is_web [.dat d] = .ok (.dat (.bool (webT d))) [.dat d] := by
  cases d with
  | tuple ds =>
    by_cases hl : ds.length = 2
    · match ds, hl with
      | [x, y], _ =>
        refine ret_ok (ρ := [.dat (.tuple [x, y]), .dat x, .dat y]) ?_ rfl
        show mSeq _ _ [.dat (.tuple [x, y]), .un, .un] = _
        refine (seqOk (ρ1 := [.dat (.tuple [x, y]), .un, .un]) ?_).trans ?_
        · exact ifF (notOk (b := true) (bOk (fD (call2 rfl rfl (fn_is_tuple_of _ 2)))))
        refine (seqOk (ρ1 := [.dat (.tuple [x, y]), .dat x, .dat y]) ?_).trans ?_
        · rfl
        have e : webT (.tuple [x, y]) = (rngT 1 6 x && match x with
            | .int p => tiesT p y
            | _ => false) := by
          cases x <;> rfl
        rw [e]
        refine retE (and_val (p := rngT 1 6 x) (fD (call1 rfl (fn_is_places x))) fun h => ?_)
        cases x with
        | int p => exact fD (call2 rfl rfl (fn_are_ties y p fun ds e => hf _ _ rfl ds e))
        | _ => cases h
    · have e0 : webT (.tuple ds) = false := by
        unfold webT
        split
        · rename_i q; cases q; exact absurd rfl hl
        · rfl
      rw [e0]
      refine ret_ok (ρ := [.dat (.tuple ds), .un, .un]) ?_ rfl
      show mSeq _ _ [.dat (.tuple ds), .un, .un] = _
      refine seqRt ?_
      have e : tupN 2 (.tuple ds) = false := decide_eq_false fun z => hl (by omega)
      refine (ifT (ρ1 := [.dat (.tuple ds), .un, .un]) (notOk (b := false) (bOk (fD ?_)))).trans rfl
      rw [← e]
      exact call2 rfl rfl (fn_is_tuple_of _ 2)
  | _ => rfl
theorem fn_check_web (d : PyData) (hf : Few d) (h : webT d = true) : f_check_web [.dat d] = .ok (.dat .none) [.dat d] := by
  refine nx_ok (ρ := [.dat d]) ?_ rfl
  show mIfS _ _ _ [.dat d] = _
  refine (ifF (ρ1 := [.dat d]) (notOk (b := true) (bOk (fD ?_)))).trans rfl
  rw [← h]
  exact call1 rfl (fn_is_web d hf)
/-! ### hues -/
def huesT : PyData → Bool
  | .tuple ds => decide ((ds.length : Int) ≤ 8) && (ds.all (rngT 0 99) && steps ltD ds)
  | _ => false
theorem rngT_int {lo hi : Int} {d : PyData} (h : rngT lo hi d = true) : ∃ i, d = .int i ∧ lo ≤ i ∧ i ≤ hi := by
  cases d with
  | int i =>
    have h : (decide (lo ≤ i) && decide (i ≤ hi)) = true := h
    rw [Bool.and_eq_true] at h
    exact ⟨i, rfl, of_decide_eq_true h.1, of_decide_eq_true h.2⟩
  | _ => cases h
def listsT (n : Int) : PyData → Bool
  | .tuple ds => decide ((ds.length : Int) = n) && ds.all huesT
  | _ => false
def sizesT (n : Int) : PyData → Bool
  | .tuple ds => decide ((ds.length : Int) = n) && ds.all (rngT 0 8)
  | _ => false
theorem ixT {ds : List PyData} {i : Int} {j : Nat} {x : PyData} (e : i = (j : Int)) (h : ds[j]? = some x) : ixD (.tuple ds) (.int i) = some (.dat x) := by
  show (atI ds i).map Rv.dat = _
  rw [e, atI_nat h]
  rfl
theorem ixL {ds : List PyData} {i : Int} {j : Nat} {x : PyData} (e : i = (j : Int)) (h : ds[j]? = some x) : ixD (.list ds) (.int i) = some (.dat x) := by
  show (atI ds i).map Rv.dat = _
  rw [e, atI_nat h]
  rfl
theorem ix0 {ρ : Env} {k : Nat} {x : PyData} {r : List PyData} (h : ρ[k]? = some (.dat (.tuple (x :: r)))) : mIxN k (mPure (.int 0)) ρ = .ok (.dat x) ρ := by
  unfold mIxN
  rw [h]
  dsimp only
  refine opOk (x := .tuple (x :: r)) (y := .int 0) (ρ1 := ρ) ?_ rfl (ixT (j := 0) rfl rfl)
  unfold mVar
  rw [h]
theorem tri_val {f g h : PyData → PyData → Option Rv} {a b c d : M PyData} {x y z u : PyData} {p q r : Bool} {ρ : Env} (ha : a ρ = .ok x ρ) (hb : b ρ = .ok y ρ) (hc : c ρ = .ok z ρ) (hd : d ρ = .ok u ρ) (hf : f x y = some (.dat (.bool p))) (hg : g y z = some (.dat (.bool q))) (hh : h z u = some (.dat (.bool r))) :
    mTri f g h a b c d ρ = .ok (p && (q && r)) ρ := by
  unfold mTri mBind
  rw [ha]
  show R.bind (b ρ) _ = _
  rw [hb]
  show R.bind (mOpt (bR (f x y)) ρ) _ = _
  rw [hf]
  cases p with
  | false => rfl
  | true =>
    show R.bind (c ρ) _ = _
    rw [hc]
    show R.bind (mOpt (bR (g y z)) ρ) _ = _
    rw [hg]
    cases q with
    | false => rfl
    | true =>
      show R.bind (d ρ) _ = _
      rw [hd]
      show mOpt (bR (h z u)) ρ = _
      rw [hh]
      rfl
theorem forOk {m : M (List PyData)} {b : PyData → Env → Option Env} {f : Env → Fl} {ds : List PyData} {ρ ρ1 : Env} (h : m ρ = .ok ds ρ1) : mFor m b f ρ = loop b f ds ρ1 := by
  unfold mFor mThen
  rw [h]
theorem seqC {a a' b : Env → Fl} {ρ ρ' : Env} (h : a ρ = a' ρ') : mSeq a b ρ = mSeq a' b ρ' := by
  unfold mSeq
  rw [h]
theorem ne_ints (a b : Int) : fNe (.int a) (.int b) = some (.dat (.bool (!decide (a = b)))) := by
  show some (Rv.dat (.bool (!(a == b)))) = _
  rw [ibeq]
/-! ### webs as the law looks at them -/
def pr (a b : Int) : PyData := .tuple [.int a, .int b]
def tieR (p : Int) (l : Int × Int) : PyData → Option (Int × Int)
  | .tuple [.int a, .int b] => if (decide (0 ≤ a) && (decide (a < b) && decide (b < p)) && HT.lexLt [l.1, l.2] [a, b]) = true then some (a, b) else none
  | _ => none
def tiesR (p : Int) : Int × Int → List PyData → Bool
  | _, [] => true
  | l, d :: r => match tieR p l d with
    | some m => tiesR p m r
    | none => false
theorem steps_two (lt : PyData → PyData → Bool) (x y : PyData) (r : List PyData) : steps lt (x :: y :: r) = (lt x y && steps lt (y :: r)) := rfl
theorem tieR_tieT (p : Int) (l : Int × Int) (d : PyData) : tieR p l d = if (tieT p d && ltP (pr l.1 l.2) d) = true then (match d with
    | .tuple [.int a, .int b] => some (a, b)
    | _ => none) else none := by
  have key : ∀ a b : Int, tieR p l (pr a b) = if (tieT p (pr a b) && ltP (pr l.1 l.2) (pr a b)) = true then some (a, b) else none := fun a b => by
    show (if (decide (0 ≤ a) && (decide (a < b) && decide (b < p)) && HT.lexLt [l.1, l.2] [a, b]) = true then _ else _) = (if ((decide (0 ≤ a) && decide (a < p)) && ((decide (0 ≤ b) && decide (b < p)) && decide (a < b)) && HT.lexLt [l.1, l.2] [a, b]) = true then _ else _)
    have e : (decide (0 ≤ a) && (decide (a < b) && decide (b < p))) = ((decide (0 ≤ a) && decide (a < p)) && ((decide (0 ≤ b) && decide (b < p)) && decide (a < b))) := by
      rw [Bool.eq_iff_iff]
      simp only [Bool.and_eq_true, decide_eq_true_eq]
      omega
    rw [e]
  cases d with
  | tuple ds =>
    match ds with
    | [.int a, .int b] => exact key a b
    | [] => rfl
    | [x] => rw [show tieT p (.tuple [x]) = false from tieT_len (by simp)]; cases x <;> rfl
    | [.int a, .none] => simp [tieR, tieT, isPl]
    | [.int a, .bool _] => simp [tieR, tieT, isPl]
    | [.int a, .str _] => simp [tieR, tieT, isPl]
    | [.int a, .list _] => simp [tieR, tieT, isPl]
    | [.int a, .tuple _] => simp [tieR, tieT, isPl]
    | [.int a, .dict _] => simp [tieR, tieT, isPl]
    | [.none, y] => simp [tieR, tieT, isPl]
    | [.bool _, y] => simp [tieR, tieT, isPl]
    | [.str _, y] => simp [tieR, tieT, isPl]
    | [.list _, y] => simp [tieR, tieT, isPl]
    | [.tuple _, y] => simp [tieR, tieT, isPl]
    | [.dict _, y] => simp [tieR, tieT, isPl]
    | x :: y :: z :: r =>
      rw [show tieT p (.tuple (x :: y :: z :: r)) = false from tieT_len (by simp)]
      unfold tieR
      split
      · rename_i q; cases q
      · rfl
  | _ => rfl
theorem tiesR_eq (p : Int) : ∀ (ds : List PyData) (l : Int × Int), tiesR p l ds = (ds.all (tieT p) && steps ltP ds && match ds with
    | [] => true
    | d :: _ => ltP (pr l.1 l.2) d)
  | [], l => rfl
  | d :: r, l => by
    unfold tiesR
    rw [tieR_tieT]
    by_cases c : (tieT p d && ltP (pr l.1 l.2) d) = true
    · rw [if_pos c]
      rw [Bool.and_eq_true] at c
      obtain ⟨a, b, rfl, _⟩ := tieT_inv c.1
      dsimp only
      rw [tiesR_eq p r (a, b), List.all_cons, c.1, Bool.true_and, c.2, Bool.and_true]
      cases r with
      | nil => rfl
      | cons e r =>
        rw [steps_two]
        dsimp only
        show (_ && _ && ltP (pr a b) e) = (_ && (ltP (pr a b) e && _))
        rw [Bool.and_assoc, Bool.and_comm (steps ltP (e :: r))]
    · rw [if_neg c]
      rw [Bool.not_eq_true] at c
      dsimp only
      rw [List.all_cons]
      cases h1 : tieT p d with
      | false => rw [Bool.false_and, Bool.false_and, Bool.false_and]
      | true =>
        rw [h1, Bool.true_and] at c
        rw [c, Bool.and_false]
theorem tiesT_R (p : Int) (ds : List PyData) : tiesT p (.tuple ds) = tiesR p (-1, -1) ds := by
  rw [tiesR_eq]
  show (ds.all (tieT p) && steps ltP ds) = _
  cases ds with
  | nil => rfl
  | cons d r =>
    dsimp only
    cases h1 : tieT p d with
    | false => rw [List.all_cons, h1, Bool.false_and, Bool.false_and, Bool.false_and]
    | true =>
      obtain ⟨a, b, rfl, ha, _⟩ := tieT_inv h1
      have e : ltP (pr (-1) (-1)) (.tuple [.int a, .int b]) = true := by
        show HT.lexLt [-1, -1] [a, b] = true
        rw [HT.lexLt_cons, if_neg (by omega)]
        exact decide_eq_true (by omega)
      rw [e, Bool.and_true]
/-! ### lists as the law looks at them -/
theorem layA_ints : ∀ ns : List Int, PyData.canLayAll0 (ns.map PyData.int) = true
  | [] => rfl
  | n :: r => by
    rw [List.map_cons, PyData.canLayAll0, layA_ints r]
    rfl
theorem depA_ints : ∀ ns : List Int, PyData.depthAll (ns.map PyData.int) = 0
  | [] => rfl
  | n :: r => by
    rw [List.map_cons, PyData.depthAll, depA_ints r]
    rfl
theorem shp_list (ns : List Int) : shp (.list (ns.map PyData.int)) = true := by
  unfold shp SeqAt.shaped
  rw [PyData.canLay0, layA_ints, PyData.depth, depA_ints]
  rfl
theorem shp_tup (ns : List Int) : shp (.tuple (ns.map PyData.int)) = true := by
  unfold shp SeqAt.shaped
  rw [PyData.canLay0, layA_ints, PyData.depth, depA_ints]
  rfl
theorem eqvA_ints : ∀ a b : List Int, PyData.eqvAll (a.map PyData.int) (b.map PyData.int) = decide (a = b)
  | [], [] => by simp [PyData.eqvAll]
  | [], y :: b => by simp [PyData.eqvAll]
  | x :: a, [] => by simp [PyData.eqvAll]
  | x :: a, y :: b => by
    rw [List.map_cons, List.map_cons, PyData.eqvAll, eqvA_ints a b]
    show ((x == y) && _) = _
    rw [ibeq, Bool.eq_iff_iff, Bool.and_eq_true, decide_eq_true_eq, decide_eq_true_eq, decide_eq_true_eq]
    constructor
    · rintro ⟨h1, h2⟩
      rw [h1, h2]
    · intro h
      cases h
      exact ⟨rfl, rfl⟩
theorem ne_lists (a b : List Int) : fNe (.list (a.map PyData.int)) (.list (b.map PyData.int)) = some (.dat (.bool (!decide (a = b)))) := by
  unfold fNe
  rw [shp_list, shp_list, if_pos (by rfl), PyData.eqv, eqvA_ints]
theorem ne_tups (a b : List Int) : fNe (.tuple (a.map PyData.int)) (.tuple (b.map PyData.int)) = some (.dat (.bool (!decide (a = b)))) := by
  unfold fNe
  rw [shp_tup, shp_tup, if_pos (by rfl), PyData.eqv, eqvA_ints]
theorem eq_tups (a b : List Int) : fEq (.tuple (a.map PyData.int)) (.tuple (b.map PyData.int)) = some (.dat (.bool (decide (a = b)))) := by
  unfold fEq
  rw [shp_tup, shp_tup, if_pos (by rfl), PyData.eqv, eqvA_ints]
theorem sdd_eq (ns : List Int) : ns = sdd ns ↔ ns.Pairwise (· < ·) := by
  constructor
  · intro h
    rw [h]
    exact sdd_sorted ns
  · intro h
    exact rising_one (fun z => (sdd_mem z ns).symm) h (sdd_sorted ns)
theorem steps_ints : ∀ ns : List Int, steps ltD (ns.map PyData.int) = true ↔ ns.Pairwise (· < ·)
  | [] => by simp [steps]
  | [x] => by simp [steps]
  | x :: y :: r => by
    rw [List.map_cons, List.map_cons, steps_two, Bool.and_eq_true, ← List.map_cons, steps_ints (y :: r)]
    show (decide (x < y) = true ∧ _) ↔ _
    rw [decide_eq_true_eq, List.pairwise_cons (a := x)]
    constructor
    · rintro ⟨h1, h2⟩
      refine ⟨fun z hz => ?_, h2⟩
      rcases List.mem_cons.mp hz with e | e
      · rw [e]; exact h1
      · exact Int.lt_trans h1 ((List.pairwise_cons.mp h2).1 z e)
    · rintro ⟨h1, h2⟩
      exact ⟨h1 y (List.mem_cons_self ..), h2⟩
theorem ints_of : ∀ {ds : List PyData}, ds.all isInt = true → ∃ ns : List Int, ds = ns.map PyData.int
  | [], _ => ⟨[], rfl⟩
  | d :: r, h => by
    rw [List.all_cons, Bool.and_eq_true] at h
    obtain ⟨ns, e⟩ := ints_of h.2
    cases d with
    | int i => exact ⟨i :: ns, by rw [e]; rfl⟩
    | _ => cases h.1
theorem sset_tup {ns : List Int} (h : ns.length < 64) : ssetD (.tuple (ns.map PyData.int)) = some (.new ((sdd ns).map PyData.int)) := by
  show (intsD _).bind _ = _
  rw [intsD_map]
  show (if ns.length < 64 then _ else _) = _
  rw [if_pos h]
theorem sset_lst {ns : List Int} (h : ns.length < 64) : ssetD (.list (ns.map PyData.int)) = some (.new ((sdd ns).map PyData.int)) := by
  show (ssetI _).or _ = _
  have e : ssetI (ns.map PyData.int) = some (.new ((sdd ns).map PyData.int)) := by
    unfold ssetI
    rw [intsD_map]
    show (if ns.length < 64 then _ else _) = _
    rw [if_pos h]
  rw [e]
  rfl
theorem ssetOk {m : M PyData} {d : PyData} {r : Rv} {ρ ρ1 : Env} (h : m ρ = .ok d ρ1) (e : ssetD d = some r) : mSset m ρ = .ok r ρ1 := by
  unfold mSset mBind
  rw [h]
  show mOpt (ssetD d) ρ1 = _
  rw [e]
  rfl
/-- one list: rising and in bounds -/
def hueI (ns : List Int) : Bool := decide (ns = sdd ns) && (decide (ns = []) || (decide (0 ≤ ns.headD 0) && (decide (ns.headD 0 ≤ ns.getLastD 0) && decide (ns.getLastD 0 ≤ 99))))
theorem last_ge : ∀ {ns : List Int} {x : Int}, (x :: ns).Pairwise (· < ·) → ∀ z ∈ x :: ns, z ≤ (x :: ns).getLastD 0
  | [], x, _, z, hz => by
    rcases List.mem_cons.mp hz with e | e
    · rw [e]; exact Int.le_refl _
    · cases e
  | y :: r, x, h, z, hz => by
    have h2 := (List.pairwise_cons.mp h).2
    have e : (x :: y :: r).getLastD 0 = (y :: r).getLastD 0 := by cases r <;> rfl
    rw [e]
    rcases List.mem_cons.mp hz with q | q
    · rw [q]
      exact Int.le_trans (Int.le_of_lt ((List.pairwise_cons.mp h).1 y (List.mem_cons_self ..))) (last_ge h2 y (List.mem_cons_self ..))
    · exact last_ge h2 z q
theorem last_mem : ∀ (ns : List Int) (x : Int), (x :: ns).getLastD 0 ∈ x :: ns
  | [], x => List.mem_cons_self ..
  | y :: r, x => by
    have e : (x :: y :: r).getLastD 0 = (y :: r).getLastD 0 := by cases r <;> rfl
    rw [e]
    exact List.mem_cons_of_mem _ (last_mem r y)
theorem hueI_eq (ns : List Int) : hueI ns = ((ns.map PyData.int).all (rngT 0 99) && steps ltD (ns.map PyData.int)) := by
  rw [Bool.eq_iff_iff, Bool.and_eq_true, steps_ints, List.all_map, List.all_eq_true]
  unfold hueI
  rw [Bool.and_eq_true, decide_eq_true_eq, sdd_eq, Bool.or_eq_true, Bool.and_eq_true, Bool.and_eq_true, decide_eq_true_eq, decide_eq_true_eq, decide_eq_true_eq, decide_eq_true_eq]
  have rg : ∀ z : Int, ((rngT 0 99 ∘ PyData.int) z = true) ↔ 0 ≤ z ∧ z ≤ 99 := fun z => by
    show (decide _ && decide _) = true ↔ _
    rw [Bool.and_eq_true, decide_eq_true_eq, decide_eq_true_eq]
  constructor
  · rintro ⟨h, h2⟩
    refine ⟨fun z hz => (rg z).mpr ?_, h⟩
    cases ns with
    | nil => cases hz
    | cons x r =>
      rcases h2 with h2 | h2
      · cases h2
      · have a := last_ge h z hz
        have b : x ≤ z := by
          rcases List.mem_cons.mp hz with e | e
          · rw [e]; exact Int.le_refl _
          · exact Int.le_of_lt ((List.pairwise_cons.mp h).1 z e)
        have c : 0 ≤ x := h2.1
        omega
  · rintro ⟨h1, h⟩
    refine ⟨h, ?_⟩
    cases ns with
    | nil => exact .inl rfl
    | cons x r =>
      right
      have a := (rg _).mp (h1 x (List.mem_cons_self ..))
      have b := (rg _).mp (h1 _ (last_mem r x))
      exact ⟨a.1, last_ge h x (List.mem_cons_self ..), b.2⟩
theorem last_at : ∀ (r : List Int) (x : Int), (x :: r)[r.length]? = some ((x :: r).getLastD 0)
  | [], x => rfl
  | y :: r, x => by
    have e : (x :: y :: r).getLastD 0 = (y :: r).getLastD 0 := by cases r <;> rfl
    rw [e]
    exact last_at r y
theorem atI_last (x : Int) (r : List Int) : atI ((x :: r).map PyData.int) (-1) = some (.int ((x :: r).getLastD 0)) := by
  have hl : ((x :: r).map PyData.int).length = r.length + 1 := by rw [List.length_map, List.length_cons]
  unfold atI
  rw [hl]
  have e : ixN (r.length + 1) (-1) = some r.length := by
    unfold ixN
    rw [if_neg (by omega), if_pos (by omega)]
    refine congrArg some ?_
    omega
  rw [e]
  show ((x :: r).map PyData.int)[r.length]? = _
  rw [List.getElem?_map]
  rw [last_at r x]
  rfl
theorem all_more {α : Type} {p q : α → Bool} {l : List α} (h : ∀ x, p x = true → q x = true) (hl : l.all p = true) : l.all q = true := List.all_eq_true.mpr fun x hx => h x (List.all_eq_true.mp hl x hx)
theorem rngT_isInt {lo hi : Int} (d : PyData) (h : rngT lo hi d = true) : isInt d = true := by
  obtain ⟨i, rfl, _⟩ := rngT_int h
  rfl
/-! ### things that can be printed -/
structure Pu (j k : Nat) (d : PyData) : Prop where
  sh : d.showable = true
  dp : d.depth ≤ j
  ln : d.shown.length ≤ k
  so : PyData.strOk d.shown = true
  nl : noL d = true
  nd : d.hasDict = false
structure Th (j k : Nat) (d : PyData) : Prop where
  sh : d.showable = true
  dp : d.depth ≤ j
  ln : d.shown.length ≤ k
  so : PyData.strOk d.shown = true
  dn : d.hasDict = true → noL d = true
theorem Pu.th {j k : Nat} {d : PyData} (h : Pu j k d) : Th j k d := ⟨h.sh, h.dp, h.ln, h.so, fun _ => h.nl⟩
theorem Pu.more {j k j' k' : Nat} {d : PyData} (h : Pu j k d) (a : j ≤ j') (b : k ≤ k') : Pu j' k' d := ⟨h.sh, Nat.le_trans h.dp a, Nat.le_trans h.ln b, h.so, h.nl, h.nd⟩
theorem Th.more {j k j' k' : Nat} {d : PyData} (h : Th j k d) (a : j ≤ j') (b : k ≤ k') : Th j' k' d := ⟨h.sh, Nat.le_trans h.dp a, Nat.le_trans h.ln b, h.so, h.dn⟩
theorem Th.shw {j k : Nat} {d : PyData} (h : Th j k d) (a : j ≤ 60) (b : k ≤ 100000) : shw d = true := by
  unfold Hue.shw
  rw [h.sh, decide_eq_true (Nat.le_trans h.dp a), decide_eq_true (Nat.le_trans h.ln b)]
  cases q : d.hasDict with
  | false => rfl
  | true => rw [h.dn q]; rfl
theorem shA {j k : Nat} : ∀ {ds : List PyData}, (∀ x ∈ ds, x.showable = true ∧ x.depth ≤ j ∧ x.shown.length ≤ k) → PyData.showableAll ds = true ∧ PyData.depthAll ds ≤ j ∧ piled (PyData.shownAll ds) ≤ (k + 2) * ds.length
  | [], _ => ⟨rfl, Nat.zero_le _, Nat.zero_le _⟩
  | x :: r, h => by
    obtain ⟨a, b, c⟩ := h x (List.mem_cons_self ..)
    obtain ⟨a2, b2, c2⟩ := shA (ds := r) fun y hy => h y (List.mem_cons_of_mem _ hy)
    rw [PyData.showableAll, PyData.depthAll, PyData.shownAll, piled_cons, List.length_cons, Nat.mul_add, Nat.mul_one, a, a2]
    exact ⟨rfl, Nat.max_le.mpr ⟨b, b2⟩, by omega⟩
theorem tupT_len (ts : List Str) : (tupleText ts).length ≤ piled ts + 3 := by
  unfold tupleText
  rw [strLen_append, strLen_append]
  have e1 : ((("(" : String) : Str)).length = 1 := rfl
  have e3 : (((if ts.length == 1 then ",)" else ")" : String) : Str)).length ≤ 2 := by split <;> decide
  rw [e1]
  by_cases h : ts = []
  · subst h
    have : (Str.join ", " ([] : List Str)).length = 0 := rfl
    omega
  · have := join_length_add ts h
    omega
theorem from_len : ∀ (ts : List Str) (k : Nat) (acc : Str), (textFrom k acc ts).length ≤ acc.length + piled ts
  | [], k, acc => Nat.le_add_right _ _
  | t :: r, k, acc => by
    have ih := from_len r (k + 1) (acc ++ (if k > 0 then ", " else "" : String) ++ t)
    have e : (acc ++ (if k > 0 then ", " else "" : String) ++ t).length = acc.length + (if k > 0 then 2 else 0) + t.length := by
      rw [strLen_append, strLen_append]
      split <;> rfl
    have e2 : (if k > 0 then 2 else 0 : Nat) ≤ 2 := by split <;> omega
    rw [e] at ih
    rw [piled_cons]
    show (textFrom (k + 1) _ r).length ≤ _
    omega
theorem lstT_len (ts : List Str) : (listText ts).length ≤ piled ts + 3 := by
  unfold listText
  rw [strLen_append]
  have e1 : ((("[" : String) : Str)).length = 1 := rfl
  have e2 : ((("]" : String) : Str)).length = 1 := rfl
  have := from_len ts 0 "["
  omega
theorem so_app (a b : Str) : PyData.strOk (a ++ b) = (PyData.strOk a && PyData.strOk b) := by
  show (a.cps ++ b.cps).all _ = (a.cps.all _ && b.cps.all _)
  exact Array.all_append ..
theorem so_join : ∀ {ts : List Str}, (∀ t ∈ ts, PyData.strOk t = true) → PyData.strOk (Str.join ", " ts) = true
  | [], _ => by decide +kernel
  | [x], h => h x (List.mem_cons_self ..)
  | x :: y :: r, h => by
    show PyData.strOk (x ++ ", " ++ Str.join ", " (y :: r)) = true
    rw [so_app, so_app, h x (List.mem_cons_self ..), so_join fun t ht => h t (List.mem_cons_of_mem _ ht)]
    decide +kernel
theorem so_tup {ts : List Str} (h : ∀ t ∈ ts, PyData.strOk t = true) : PyData.strOk (tupleText ts) = true := by
  unfold tupleText
  rw [so_app, so_app, so_join h]
  split <;> decide +kernel
theorem so_from : ∀ {ts : List Str} {k : Nat} {acc : Str}, (∀ t ∈ ts, PyData.strOk t = true) → PyData.strOk acc = true → PyData.strOk (textFrom k acc ts) = true
  | [], k, acc, _, ha => ha
  | t :: r, k, acc, h, ha => by
    show PyData.strOk (textFrom (k + 1) _ r) = true
    refine so_from (fun u hu => h u (List.mem_cons_of_mem _ hu)) ?_
    rw [so_app, so_app, ha, h t (List.mem_cons_self ..)]
    split <;> decide +kernel
theorem so_lst {ts : List Str} (h : ∀ t ∈ ts, PyData.strOk t = true) : PyData.strOk (listText ts) = true := by
  unfold listText
  rw [so_app, so_from h (by decide +kernel)]
  decide +kernel
theorem soA : ∀ {ds : List PyData}, (∀ x ∈ ds, PyData.strOk x.shown = true) → ∀ t ∈ PyData.shownAll ds, PyData.strOk t = true
  | [], _, t, ht => nomatch ht
  | x :: r, h, t, ht => by
    rw [PyData.shownAll] at ht
    rcases List.mem_cons.mp ht with e | e
    · rw [e]; exact h x (List.mem_cons_self ..)
    · exact soA (fun y hy => h y (List.mem_cons_of_mem _ hy)) t e
theorem nlA : ∀ {ds : List PyData}, (∀ x ∈ ds, noL x = true) → noLA ds = true
  | [], _ => rfl
  | x :: r, h => by rw [noLA, h x (List.mem_cons_self ..), nlA fun y hy => h y (List.mem_cons_of_mem _ hy)]; rfl
theorem ndA : ∀ {ds : List PyData}, (∀ x ∈ ds, x.hasDict = false) → PyData.hasDictAll ds = false
  | [], _ => rfl
  | x :: r, h => by rw [PyData.hasDictAll, h x (List.mem_cons_self ..), ndA fun y hy => h y (List.mem_cons_of_mem _ hy)]; rfl
theorem ndA_inv : ∀ {ds : List PyData}, PyData.hasDictAll ds = true → ∃ x ∈ ds, x.hasDict = true
  | [], h => by cases h
  | x :: r, h => by
    rw [PyData.hasDictAll, Bool.or_eq_true] at h
    rcases h with h | h
    · exact ⟨x, List.mem_cons_self .., h⟩
    · obtain ⟨y, hy, e⟩ := ndA_inv h
      exact ⟨y, List.mem_cons_of_mem _ hy, e⟩
theorem mul_up {k a m : Nat} (h : a ≤ m) : k * a ≤ k * m := Nat.mul_le_mul_left k h
theorem Pu.tup {j k m : Nat} {ds : List PyData} (h : ∀ x ∈ ds, Pu j k x) (hm : ds.length ≤ m) : Pu (j + 1) ((k + 2) * m + 3) (.tuple ds) := by
  obtain ⟨a, b, c⟩ := shA (ds := ds) fun x hx => ⟨(h x hx).sh, (h x hx).dp, (h x hx).ln⟩
  refine ⟨by rw [PyData.showable]; exact a, by rw [PyData.depth]; omega, ?_, by rw [PyData.shown]; exact so_tup (soA fun x hx => (h x hx).so), by rw [noL]; exact nlA fun x hx => (h x hx).nl, by rw [PyData.hasDict]; exact ndA fun x hx => (h x hx).nd⟩
  rw [PyData.shown]
  have := tupT_len (PyData.shownAll ds)
  have := mul_up (k := k + 2) hm
  omega
theorem Th.lst {j k m : Nat} {ds : List PyData} (h : ∀ x ∈ ds, Pu j k x) (hm : ds.length ≤ m) : Th (j + 1) ((k + 2) * m + 3) (.list ds) := by
  obtain ⟨a, b, c⟩ := shA (ds := ds) fun x hx => ⟨(h x hx).sh, (h x hx).dp, (h x hx).ln⟩
  refine ⟨by rw [PyData.showable]; exact a, by rw [PyData.depth]; omega, ?_, by rw [PyData.shown]; exact so_lst (soA fun x hx => (h x hx).so), fun z => ?_⟩
  · rw [PyData.shown]
    have := lstT_len (PyData.shownAll ds)
    have := mul_up (k := k + 2) hm
    omega
  · rw [PyData.hasDict, ndA fun x hx => (h x hx).nd] at z
    cases z
theorem Th.tup {j k m : Nat} {l1 l2 : List PyData} {x : PyData} (h1 : ∀ x ∈ l1, Pu j k x) (hx : Th j k x) (h2 : ∀ x ∈ l2, Pu j k x) (hm : (l1 ++ x :: l2).length ≤ m) : Th (j + 1) ((k + 2) * m + 3) (.tuple (l1 ++ x :: l2)) := by
  have all : ∀ y ∈ l1 ++ x :: l2, y.showable = true ∧ y.depth ≤ j ∧ y.shown.length ≤ k := fun y hy => by
    rcases List.mem_append.mp hy with q | q
    · exact ⟨(h1 y q).sh, (h1 y q).dp, (h1 y q).ln⟩
    · rcases List.mem_cons.mp q with q | q
      · rw [q]; exact ⟨hx.sh, hx.dp, hx.ln⟩
      · exact ⟨(h2 y q).sh, (h2 y q).dp, (h2 y q).ln⟩
  obtain ⟨a, b, c⟩ := shA all
  refine ⟨by rw [PyData.showable]; exact a, by rw [PyData.depth]; omega, ?_, by
    rw [PyData.shown]
    refine so_tup (soA fun y hy => ?_)
    rcases List.mem_append.mp hy with q | q
    · exact (h1 y q).so
    · rcases List.mem_cons.mp q with q | q
      · rw [q]; exact hx.so
      · exact (h2 y q).so, fun z => ?_⟩
  · rw [PyData.shown]
    have := tupT_len (PyData.shownAll (l1 ++ x :: l2))
    have := mul_up (k := k + 2) hm
    omega
  · rw [PyData.hasDict] at z
    rw [noL]
    refine nlA fun y hy => ?_
    have hxd : x.hasDict = true := by
      obtain ⟨u, hu, e⟩ := ndA_inv z
      rcases List.mem_append.mp hu with q | q
      · rw [(h1 u q).nd] at e; cases e
      · rcases List.mem_cons.mp q with q | q
        · rw [← q]; exact e
        · rw [(h2 u q).nd] at e; cases e
    rcases List.mem_append.mp hy with q | q
    · exact (h1 y q).nl
    · rcases List.mem_cons.mp q with q | q
      · rw [q]; exact hx.dn hxd
      · exact (h2 y q).nl
theorem fin_shown : ∀ n : Fin 101, (PyData.int (n.val : Int)).shown.length ≤ 3 ∧ (PyData.int (n.val : Int)).showable = true ∧ PyData.strOk (PyData.int (n.val : Int)).shown = true := by decide +kernel
theorem Pu.int {i : Int} (h : 0 ≤ i) (h1 : i ≤ 100) : Pu 0 3 (.int i) := by
  have e : i = (i.toNat : Int) := by omega
  have f := fin_shown ⟨i.toNat, by omega⟩
  rw [e]
  exact ⟨f.2.1, by rw [PyData.depth]; exact Nat.le_refl _, f.1, f.2.2, by rw [noL], by rw [PyData.hasDict]⟩
theorem Pu.pair {a b : Int} (h : 0 ≤ a) (h1 : a ≤ 100) (g : 0 ≤ b) (g1 : b ≤ 100) : Pu 1 13 (pr a b) := Pu.tup (j := 0) (k := 3) (m := 2) (fun x hx => by
  rcases List.mem_cons.mp hx with e | e
  · rw [e]; exact Pu.int h h1
  · rcases List.mem_cons.mp e with e | e
    · rw [e]; exact Pu.int g g1
    · cases e) (Nat.le_refl 2)
def puB (j k : Nat) (d : PyData) : Bool := d.showable && decide (d.depth ≤ j) && decide (d.shown.length ≤ k) && PyData.strOk d.shown && noL d && !d.hasDict
def thB (j k : Nat) (d : PyData) : Bool := d.showable && decide (d.depth ≤ j) && decide (d.shown.length ≤ k) && PyData.strOk d.shown && (!d.hasDict || noL d)
theorem puB_ok {j k : Nat} {d : PyData} (h : puB j k d = true) : Pu j k d := by
  unfold puB at h
  rw [Bool.and_eq_true, Bool.and_eq_true, Bool.and_eq_true, Bool.and_eq_true, Bool.and_eq_true, decide_eq_true_eq, decide_eq_true_eq] at h
  refine ⟨h.1.1.1.1.1, h.1.1.1.1.2, h.1.1.1.2, h.1.1.2, h.1.2, ?_⟩
  cases q : d.hasDict with
  | false => rfl
  | true => rw [q] at h; cases h.2
theorem thB_ok {j k : Nat} {d : PyData} (h : thB j k d = true) : Th j k d := by
  unfold thB at h
  rw [Bool.and_eq_true, Bool.and_eq_true, Bool.and_eq_true, Bool.and_eq_true, decide_eq_true_eq, decide_eq_true_eq] at h
  refine ⟨h.1.1.1.1, h.1.1.1.2, h.1.1.2, h.1.2, fun q => ?_⟩
  rw [q] at h
  exact h.2

/-! ### loops by what stays true -/
theorem cl_hoare {b : PyData → Env → Option Env} {c : M Bool} {e : M PyData} {vs : List Nat} {I : Env → Prop} {P : PyData → Prop} : ∀ {ds acc : List PyData} {ρ : Env}, (∀ d ∈ ds, ∀ ρ, I ρ → ∃ ρ1 t ρ2, b d ρ = some ρ1 ∧ c ρ1 = .ok t ρ2 ∧ (t = false → I (wipeE ρ2 vs)) ∧ (t = true → ∃ y ρ3, e ρ2 = .ok y ρ3 ∧ P y ∧ I (wipeE ρ3 vs))) → I ρ → acc.length + ds.length ≤ 100000 → (∀ y ∈ acc, P y) →
    ∃ acc' ρ', cloop b c e vs ds ρ acc = .ok acc' ρ' ∧ I ρ' ∧ acc'.length ≤ acc.length + ds.length ∧ ∀ y ∈ acc', P y
  | [], acc, ρ, _, hI, _, hp => ⟨acc, ρ, rfl, hI, Nat.le_refl _, hp⟩
  | d :: ds, acc, ρ, h, hI, hl, hp => by
    obtain ⟨ρ1, t, ρ2, h1, h2, h3, h4⟩ := h d (List.mem_cons_self ..) ρ hI
    unfold cloop
    rw [h1]
    dsimp only
    rw [h2]
    rw [List.length_cons] at hl
    cases t with
    | false =>
      dsimp only
      obtain ⟨a, r, q1, q2, q3, q4⟩ := cl_hoare (fun x hx => h x (List.mem_cons_of_mem _ hx)) (h3 rfl) (by omega) hp
      exact ⟨a, r, q1, q2, by rw [List.length_cons]; omega, q4⟩
    | true =>
      obtain ⟨y, ρ3, g1, g2, g3⟩ := h4 rfl
      dsimp only
      rw [g1]
      dsimp only
      rw [if_pos (show small acc.length = true from decide_eq_true (by omega))]
      obtain ⟨a, r, q1, q2, q3, q4⟩ := cl_hoare (acc := acc ++ [y]) (fun x hx => h x (List.mem_cons_of_mem _ hx)) g3 (by rw [List.length_append, List.length_singleton]; omega) (fun z hz => by
        rcases List.mem_append.mp hz with q | q
        · exact hp z q
        · rw [List.mem_singleton.mp q]; exact g2)
      refine ⟨a, r, q1, q2, ?_, q4⟩
      rw [List.length_append, List.length_singleton] at q3
      rw [List.length_cons]
      omega
theorem comp_hoare {m : M (List PyData)} {b : PyData → Env → Option Env} {c : M Bool} {e : M PyData} {vs : List Nat} {I : Env → Prop} {P : PyData → Prop} {ds : List PyData} {ρ ρ1 : Env} (hm : m ρ = .ok ds ρ1) (h : ∀ d ∈ ds, ∀ ρ, I ρ → ∃ ρ1 t ρ2, b d ρ = some ρ1 ∧ c ρ1 = .ok t ρ2 ∧ (t = false → I (wipeE ρ2 vs)) ∧ (t = true → ∃ y ρ3, e ρ2 = .ok y ρ3 ∧ P y ∧ I (wipeE ρ3 vs))) (hI : I (wipeE ρ1 vs)) (hl : ds.length ≤ 100000) :
    ∃ es ρ', mComp m b c e vs ρ = .ok (.new es) ρ' ∧ I ρ' ∧ es.length ≤ ds.length ∧ ∀ y ∈ es, P y := by
  obtain ⟨a, r, q1, q2, q3, q4⟩ := cl_hoare (acc := []) h hI (by rw [List.length_nil]; omega) (fun y hy => by cases hy)
  refine ⟨a, r, ?_, q2, by rw [List.length_nil] at q3; omega, q4⟩
  unfold mComp mBind
  rw [hm]
  show R.bind (cloop b c e vs ds (wipeE ρ1 vs) []) _ = _
  rw [q1]
  rfl
theorem lp_hoare {b : PyData → Env → Option Env} {f : Env → Fl} {I : Nat → Env → Prop} : ∀ {ds : List PyData} {k : Nat} {ρ : Env}, (∀ d ∈ ds, ∀ k ρ, I k ρ → ∃ ρ1 ρ2, b d ρ = some ρ1 ∧ f ρ1 = .nx ρ2 ∧ I (k + 1) ρ2) → I k ρ → ∃ ρ', loop b f ds ρ = .nx ρ' ∧ I (k + ds.length) ρ'
  | [], k, ρ, _, hI => ⟨ρ, rfl, hI⟩
  | d :: ds, k, ρ, h, hI => by
    obtain ⟨ρ1, ρ2, h1, h2, h3⟩ := h d (List.mem_cons_self ..) k ρ hI
    unfold loop
    rw [h1]
    dsimp only
    rw [h2]
    dsimp only
    obtain ⟨r, q1, q2⟩ := lp_hoare (k := k + 1) (fun x hx => h x (List.mem_cons_of_mem _ hx)) h3
    refine ⟨r, q1, ?_⟩
    rw [List.length_cons, show k + (ds.length + 1) = k + 1 + ds.length by omega]
    exact q2
theorem for_hoare {m : M (List PyData)} {b : PyData → Env → Option Env} {f : Env → Fl} {I : Nat → Env → Prop} {ds : List PyData} {ρ ρ1 : Env} (hm : m ρ = .ok ds ρ1) (h : ∀ d ∈ ds, ∀ k ρ, I k ρ → ∃ ρ1 ρ2, b d ρ = some ρ1 ∧ f ρ1 = .nx ρ2 ∧ I (k + 1) ρ2) (hI : I 0 ρ1) : ∃ ρ', mFor m b f ρ = .nx ρ' ∧ I ds.length ρ' := by
  obtain ⟨r, q1, q2⟩ := lp_hoare h hI
  refine ⟨r, (forOk hm).trans q1, ?_⟩
  rw [Nat.zero_add] at q2
  exact q2
theorem bndOk {b : PyData → Env → Option Env} {m : M PyData} {d : PyData} {ρ ρ1 ρ2 : Env} (h : m ρ = .ok d ρ1) (hb : b d ρ1 = some ρ2) : mBnd b m ρ = .nx ρ2 := by
  unfold mBnd mThen
  rw [h]
  show oFl (b d ρ1) = _
  rw [hb]
  rfl
/-! ### the box -/
theorem callB0 {f : Fn} {n : Nat} {m : M (List PyData)} {xs d0 d1 d2 : List PyData} {r : Rv} {ρ ρ' : Env} {as : List Ar} (h : m (.lnt d0 :: ρ) = .ok xs (.lnt d1 :: ρ')) (hn : xs.length + 1 = n) (hf : f (.lnt d1 :: xs.map Ar.dat) = .ok r (.lnt d2 :: as)) : mCallB n f 0 m (.lnt d0 :: ρ) = .ok r (.lnt d2 :: ρ') := by
  show mBind m _ _ = _
  unfold mBind
  rw [h]
  show (if xs.length + 1 = n then frB (.lnt d1 :: ρ') 0 (f (.lnt d1 :: xs.map Ar.dat)) else .bad) = _
  rw [if_pos hn, hf]
  rfl
theorem callB2 {f : Fn} {n : Nat} {m : M (List PyData)} {xs d0 d1 d2 : List PyData} {r : Rv} {ρ ρ' : Env} {a b a' b' : Sl} {as : List Ar} (h : m (a :: b :: .own d0 :: ρ) = .ok xs (a' :: b' :: .own d1 :: ρ')) (hn : xs.length + 1 = n) (hf : f (.lnt d1 :: xs.map Ar.dat) = .ok r (.lnt d2 :: as)) : mCallB n f 2 m (a :: b :: .own d0 :: ρ) = .ok r (a' :: b' :: .own d2 :: ρ') := by
  show mBind m _ _ = _
  unfold mBind
  rw [h]
  show (if xs.length + 1 = n then frB (a' :: b' :: .own d1 :: ρ') 2 (f (.lnt d1 :: xs.map Ar.dat)) else .bad) = _
  rw [if_pos hn, hf]
  rfl
theorem log_small {m : Int} (h : 0 < m) (h1 : m ≤ 1000) : m.natAbs.log2 < 9000 := by
  have : m.natAbs < 2 ^ 9000 := Nat.lt_of_le_of_lt (show m.natAbs ≤ 1000 by omega) (by decide +kernel)
  exact (Nat.log2_lt (by omega)).mpr this
theorem fn_take (n m : Int) (h : 0 < m) (h1 : m ≤ 1000) : f_law_take [.lnt [.int n], .dat (.int m)] = .ok (.dat (.int (n % m))) [.lnt [.int (n / m)], .dat (.int m)] := by
  refine ret_ok (ρ := [.lnt [.int (n / m)], .dat (.int m), .dat (.int (n / m)), .dat (.int (n % m))]) ?_ rfl
  refine (seqOk (ρ1 := [.lnt [.int n], .dat (.int m), .dat (.int (n / m)), .dat (.int (n % m))]) (bndOk (d := .tuple [.int (n / m), .int (n % m)]) (fD (cbOk (xs := [.int n, .int m]) (consOk rfl (consOk rfl nilOk)) ?_)) rfl)).trans ?_
  · show (if _ then _ else _) = _
    rw [if_pos (by rw [decide_eq_true h, decide_eq_true (log_small h h1)]; rfl)]
  · rfl
theorem take0 {a : M PyData} {n m : Int} {ρ : Env} (ha : a (.lnt [.int n] :: ρ) = .ok (.int m) (.lnt [.int n] :: ρ)) (h : 0 < m) (h1 : m ≤ 1000) : mCallB 2 f_law_take 0 (mCons a mNil) (.lnt [.int n] :: ρ) = .ok (.dat (.int (n % m))) (.lnt [.int (n / m)] :: ρ) := callB0 (consOk ha nilOk) rfl (fn_take n m h h1)
theorem ix_some {ds : List PyData} {i : Int} (h : 0 ≤ i) (h1 : i < ds.length) : ∃ x ∈ ds, atI ds i = some x := by
  have hl : i.toNat < ds.length := by omega
  refine ⟨ds[i.toNat], List.getElem_mem hl, ?_⟩
  have e : i = (i.toNat : Int) := by omega
  have := atI_nat (xs := ds) (j := i.toNat) (v := ds[i.toNat]) (List.getElem?_eq_getElem hl)
  rw [← e] at this
  exact this
/-! ### pairs -/
def Prs (p : Int) (ds : List PyData) : Prop := ∀ d ∈ ds, ∃ a b, d = pr a b ∧ 0 ≤ a ∧ a < b ∧ b < p
def prs (p : Int) (ds : List PyData) : Bool := ds.all (tieT p)
theorem Prs.of {p : Int} {ds : List PyData} (h : prs p ds = true) : Prs p ds := fun d hd => tieT_inv (List.all_eq_true.mp h d hd)
/-! ### the sorted set of pairs -/
def Cod (p c : Int) : Prop := ∃ a b, c = a * 64 + b ∧ 0 ≤ a ∧ a < b ∧ b < p
theorem Cod.dec {p c : Int} (hp : p ≤ 6) (h : Cod p c) : ∃ a b, c = a * 64 + b ∧ decP c = pr a b ∧ 0 ≤ a ∧ a < b ∧ b < p := by
  obtain ⟨a, b, e, h1, h2, h3⟩ := h
  refine ⟨a, b, e, ?_, h1, h2, h3⟩
  unfold decP pr
  rw [show c / 64 = a by omega, show c % 64 = b by omega]
theorem prCodes {p : Int} (hp : p ≤ 6) : ∀ {ds : List PyData}, Prs p ds → ∃ cs, pairsC ds = some cs ∧ cs.length = ds.length ∧ ∀ c ∈ cs, Cod p c
  | [], _ => ⟨[], rfl, rfl, fun c hc => by cases hc⟩
  | d :: r, h => by
    obtain ⟨cs, q1, q2, q3⟩ := prCodes hp (ds := r) fun x hx => h x (List.mem_cons_of_mem _ hx)
    obtain ⟨a, b, rfl, h1, h2, h3⟩ := h d (List.mem_cons_self ..)
    have e : pairC (pr a b) = some (a * 64 + b) := by
      show (if _ then _ else _) = _
      rw [if_pos]
      rw [decide_eq_true (show 0 ≤ a by omega), decide_eq_true (show a < 64 by omega), decide_eq_true (show 0 ≤ b by omega), decide_eq_true (show b < 64 by omega)]
      rfl
    refine ⟨(a * 64 + b) :: cs, ?_, by rw [List.length_cons, List.length_cons, q2], fun c hc => ?_⟩
    · show (pairC (pr a b)).bind (fun c => (pairsC r).map (c :: ·)) = _
      rw [e, q1]
      rfl
    · rcases List.mem_cons.mp hc with q | q
      · rw [q]; exact ⟨a, b, rfl, h1, h2, h3⟩
      · exact q3 c q
theorem ins0_len (x : Int) : ∀ l : List Int, (ins0 x l).length ≤ l.length + 1
  | [] => Nat.le_refl _
  | y :: r => by
    unfold ins0
    split
    · exact Nat.le_refl _
    · split
      · exact Nat.le_succ _
      · rw [List.length_cons, List.length_cons]
        have := ins0_len x r
        omega
theorem sdd_len : ∀ l : List Int, (sdd l).length ≤ l.length
  | [] => Nat.le_refl _
  | x :: r => by
    show (ins0 x (sdd r)).length ≤ _
    have := ins0_len x (sdd r)
    have := sdd_len r
    rw [List.length_cons]
    omega
theorem steps_dec {p : Int} (hp : p ≤ 6) : ∀ {cs : List Int}, cs.Pairwise (· < ·) → (∀ c ∈ cs, Cod p c) → steps ltP (cs.map decP) = true
  | [], _, _ => rfl
  | [x], _, _ => rfl
  | x :: y :: r, h, hc => by
    rw [List.map_cons, List.map_cons, steps_two, ← List.map_cons, steps_dec hp (List.pairwise_cons.mp h).2 (fun c q => hc c (List.mem_cons_of_mem _ q)), Bool.and_true]
    obtain ⟨a, b, e1, e2, _⟩ := (hc x (List.mem_cons_self ..)).dec hp
    obtain ⟨c, d, f1, f2, _⟩ := (hc y (List.mem_cons_of_mem _ (List.mem_cons_self ..))).dec hp
    have lt := (List.pairwise_cons.mp h).1 y (List.mem_cons_self ..)
    rw [e2, f2]
    show HT.lexLt [a, b] [c, d] = true
    rw [HT.lexLt_cons]
    by_cases q : a = c
    · rw [if_pos q, HT.lexLt_cons, if_neg (by omega)]
      exact decide_eq_true (by omega)
    · rw [if_neg q]
      exact decide_eq_true (by omega)
theorem tieT_of {p a b : Int} (h1 : 0 ≤ a) (h2 : a < b) (h3 : b < p) : tieT p (pr a b) = true := by
  show ((decide (0 ≤ a) && decide (a < p)) && ((decide (0 ≤ b) && decide (b < p)) && decide (a < b))) = true
  rw [decide_eq_true h1, decide_eq_true (show a < p by omega), decide_eq_true (show 0 ≤ b by omega), decide_eq_true h3, decide_eq_true h2]
  rfl
theorem sset_prs {p : Int} (hp : p ≤ 6) {ds : List PyData} (h : Prs p ds) (hl : ds.length < 64) : ∃ ts, ssetD (.list ds) = some (.new ts) ∧ tiesT p (.tuple ts) = true ∧ ts.length ≤ ds.length ∧ Prs p ts := by
  cases ds with
  | nil => exact ⟨[], rfl, rfl, Nat.le_refl _, h⟩
  | cons d r =>
    obtain ⟨cs, q1, q2, q3⟩ := prCodes hp h
    obtain ⟨a, b, e, _⟩ := h d (List.mem_cons_self ..)
    have sm : ∀ c ∈ sdd cs, Cod p c := fun c hc => q3 c ((sdd_mem c cs).mp hc)
    have pp : Prs p ((sdd cs).map decP) := fun x hx => by
      obtain ⟨c, hc, rfl⟩ := List.mem_map.mp hx
      obtain ⟨a, b, _, e, h1⟩ := (sm c hc).dec hp
      exact ⟨a, b, e, h1⟩
    refine ⟨(sdd cs).map decP, ?_, ?_, ?_, pp⟩
    · show (ssetI (d :: r)).or (ssetP (d :: r)) = _
      have z : ssetI (d :: r) = none := by rw [e]; rfl
      rw [z]
      show (pairsC (d :: r)).bind _ = _
      rw [q1]
      show (if cs.length < 64 then _ else _) = _
      rw [if_pos (by omega)]
    · show (_ && _) = true
      rw [steps_dec hp (sdd_sorted cs) sm, Bool.and_true, List.all_eq_true]
      intro x hx
      obtain ⟨a, b, rfl, h1, h2, h3⟩ := pp x hx
      exact tieT_of h1 h2 h3
    · rw [List.length_map]
      have := sdd_len cs
      omega
/-! ### a web is drawn -/
def Web (d : PyData) : Prop := ∃ p ts, d = .tuple [.int p, .tuple ts] ∧ 1 ≤ p ∧ p ≤ 6 ∧ tiesT p (.tuple ts) = true ∧ ts.length ≤ 20 ∧ Prs p ts
theorem mod_lt {n m : Int} (h : 0 < m) : 0 ≤ n % m ∧ n % m < m := ⟨Int.emod_nonneg n (by omega), Int.emod_lt_of_pos n h⟩
theorem mod_fits {i j : Int} (h : 0 < j) : fMod (.int i) (.int j) = some (.dat (.int (i % j))) := by
  show (if cPos i j = true then _ else _) = _
  rw [if_pos (show cPos i j = true from decide_eq_true h)]
theorem eq_ints (a b : Int) : fEq (.int a) (.int b) = some (.dat (.bool (decide (a = b)))) := by
  show some (Rv.dat (.bool (a == b))) = _
  rw [ibeq]
theorem gt_ints (a b : Int) : fGt (.int a) (.int b) = some (.dat (.bool (decide (b < a)))) := rfl
/-- the box at slot 0, and the other slots as they are -/
def Bx (ρ0 : Env) (ρ : Env) : Prop := ∃ n : Int, ρ = .lnt [.int n] :: ρ0
theorem rng_mem {lo : Int} {n : Nat} {d : PyData} (h : d ∈ rngL lo n) : ∃ i : Int, d = .int i ∧ lo ≤ i ∧ i < lo + n := by
  unfold rngL at h
  obtain ⟨j, hj, rfl⟩ := List.mem_map.mp h
  rw [List.mem_range] at hj
  exact ⟨_, rfl, by omega, by omega⟩
theorem rng_len (lo : Int) (n : Nat) : (rngL lo n).length = n := by
  unfold rngL
  rw [List.length_map, List.length_range]
theorem add_lists {a b : List PyData} (h : a.length + b.length ≤ 100000) : fAdd (.list a) (.list b) = some (.new (a ++ b)) := by
  show (if small (a.length + b.length) = true then _ else _) = _
  rw [if_pos (show small _ = true from decide_eq_true h)]
theorem add_tups {a b : List PyData} (h : a.length + b.length ≤ 100000) : fAdd (.tuple a) (.tuple b) = some (.dat (.tuple (a ++ b))) := by
  show Option.or (if small (a.length + b.length) = true then some (Rv.dat (.tuple (a ++ b))) else none) _ = _
  rw [if_pos (show small _ = true from decide_eq_true h)]
  rfl
def Stw (p k q : Int) (ρ : Env) : Prop := ∃ n e, ρ = [.lnt [.int n], .dat (.int 6), .dat (.int p), .dat (.int k), .dat (.int q), .own e, .un, .un] ∧ Prs p e ∧ e.length ≤ 20
theorem ifGo {c : M Bool} {a : Env → Fl} {ρ : Env} {t : Bool} {I : Env → Prop} (h : c ρ = .ok t ρ) (ha : t = true → ∃ ρ', a ρ = .nx ρ' ∧ I ρ') (hI : I ρ) : ∃ ρ', mIfS c a Fl.nx ρ = .nx ρ' ∧ I ρ' := by
  cases t with
  | true =>
    obtain ⟨r, q1, q2⟩ := ha rfl
    exact ⟨r, (ifT h).trans q1, q2⟩
  | false => exact ⟨ρ, ifF h, hI⟩
theorem lp_bound {b : PyData → Env → Option Env} {f : Env → Fl} {I : Nat → Env → Prop} {N : Nat} : ∀ {ds : List PyData} {k : Nat} {ρ : Env}, (∀ d ∈ ds, ∀ k ρ, k < N → I k ρ → ∃ ρ1 ρ2, b d ρ = some ρ1 ∧ f ρ1 = .nx ρ2 ∧ I (k + 1) ρ2) → k + ds.length ≤ N → I k ρ → ∃ ρ', loop b f ds ρ = .nx ρ' ∧ I (k + ds.length) ρ'
  | [], k, ρ, _, _, hI => ⟨ρ, rfl, hI⟩
  | d :: ds, k, ρ, h, hN, hI => by
    rw [List.length_cons] at hN
    obtain ⟨ρ1, ρ2, h1, h2, h3⟩ := h d (List.mem_cons_self ..) k ρ (by omega) hI
    unfold loop
    rw [h1]
    dsimp only
    rw [h2]
    dsimp only
    obtain ⟨r, q1, q2⟩ := lp_bound (k := k + 1) (fun x hx => h x (List.mem_cons_of_mem _ hx)) (by omega) h3
    refine ⟨r, q1, ?_⟩
    rw [List.length_cons, show k + (ds.length + 1) = k + 1 + ds.length by omega]
    exact q2
theorem for_bound {m : M (List PyData)} {b : PyData → Env → Option Env} {f : Env → Fl} {I : Nat → Env → Prop} {ds : List PyData} {ρ ρ1 : Env} (hm : m ρ = .ok ds ρ1) (h : ∀ d ∈ ds, ∀ k ρ, k < ds.length → I k ρ → ∃ ρ1 ρ2, b d ρ = some ρ1 ∧ f ρ1 = .nx ρ2 ∧ I (k + 1) ρ2) (hI : I 0 ρ1) : ∃ ρ', mFor m b f ρ = .nx ρ' ∧ I ds.length ρ' := by
  obtain ⟨r, q1, q2⟩ := lp_bound (k := 0) h (by omega) hI
  refine ⟨r, (forOk hm).trans q1, ?_⟩
  rw [Nat.zero_add] at q2
  exact q2
theorem log_lt {n k : Nat} (hk : 0 < k) (h : n < 2 ^ k) : n.log2 < k := by
  by_cases z : n = 0
  · rw [z]; exact hk
  · exact (Nat.log2_lt z).mpr h
theorem mul_fits {a b : Int} (ha : a.natAbs < 2 ^ 2000) (hb : b.natAbs < 2 ^ 2000) : fMulA (.int a) (.int b) = some (.dat (.int (a * b))) := by
  have h1 := log_lt (by omega) ha
  have h2 := log_lt (by omega) hb
  have e : fMul (.int a) (.int b) = some (.dat (.int (a * b))) := by
    show (if cMul a b = true then _ else _) = _
    rw [if_pos (show cMul a b = true from decide_eq_true (by omega))]
  show Option.or (fMul (.int a) (.int b)) _ = _
  rw [e]
  rfl
theorem div_fits {i j : Int} (h : 0 < j) (h1 : j ≤ 1000) : fDiv (.int i) (.int j) = some (.dat (.int (i / j))) := by
  show (if cDiv i j = true then _ else _) = _
  rw [if_pos (show cDiv i j = true by unfold cDiv; rw [decide_eq_true h, decide_eq_true (log_small h h1)]; rfl)]
theorem small_pow {a : Int} (h : -(2 ^ 64) < a) (h1 : a < 2 ^ 64) : a.natAbs < 2 ^ 2000 := Nat.lt_of_lt_of_le (show a.natAbs < 2 ^ 64 by omega) (Nat.pow_le_pow_right (by omega) (by omega))
theorem callS0 {f : Fn} {n : Nat} {m : M (List PyData)} {xs : List PyData} {ns : List Int} {r : Rv} {ρ ρ' : Env} {as : List Ar} (h : m (.scr ns :: ρ) = .ok xs (.scr ns :: ρ')) (hn : xs.length + 1 = n) (hf : f (.scr ns :: xs.map Ar.dat) = .ok r as) : mCallB n f 0 m (.scr ns :: ρ) = .ok r (.scr ns :: ρ') := by
  show mBind m _ _ = _
  unfold mBind
  rw [h]
  show (if xs.length + 1 = n then frR (.scr ns :: ρ') (f (.scr ns :: xs.map Ar.dat)) else .bad) = _
  rw [if_pos hn, hf]
  rfl
/-! ### the script's cells and the box -/
theorem appOk {k : Nat} {m : M PyData} {z ds : List PyData} {d : PyData} {ρ ρ1 ρ2 : Env} (h0 : heldAt ρ k = some z) (h : m ρ = .ok d ρ1) (h1 : heldAt ρ1 k = some ds) (hs : ds.length ≤ 100000) (e : putAt ρ1 k (ds ++ [d]) = ρ2) : mApp k m ρ = .nx ρ2 := by
  unfold mApp
  rw [h0, if_pos (by rfl)]
  unfold mThen
  rw [h]
  dsimp only
  rw [h1]
  dsimp only
  rw [if_pos (show small ds.length = true from decide_eq_true hs), e]
theorem put_name {i : Nat} {d : PyData} {ρ : Env} {s : Sl} (h : ρ[i]? = some s) (hs : ∀ z, s ≠ .lnt z) : bName i d ρ = some (ρ.set i (.dat d)) := by
  unfold bName setS
  rw [h]
  cases s with
  | lnt z => exact absurd rfl (hs z)
  | _ => rfl
/-- a list of small numbers -/
def Hl (d : PyData) : Prop := ∃ ns : List Int, d = .tuple (ns.map PyData.int) ∧ ns.length ≤ 8 ∧ ∀ x ∈ ns, 0 ≤ x ∧ x ≤ 100
/-! ### sizes -/
theorem rep_tup {x : PyData} {p : Int} (p1 : 1 ≤ p) (p6 : p ≤ 6) : fMulA (.tuple [x]) (.int p) = some (.dat (.tuple (List.replicate p.toNat x))) := by
  have c : p = 1 ∨ p = 2 ∨ p = 3 ∨ p = 4 ∨ p = 5 ∨ p = 6 := by omega
  rcases c with rfl | rfl | rfl | rfl | rfl | rfl <;> rfl
def ti (l : List Int) : PyData := .tuple (l.map PyData.int)
def menuA : List PyData := [.none, .bool true, .bool false, .int (-1), .str "", .str "1", ti [0], .list [.int 1], .dict [(.str "a", .int 1)], ti [-1], .tuple [.bool true], .tuple [ti [1]], .tuple [.none], .int (10 ^ 29)]
def menuB : List PyData := [ti [1, 2], .tuple [.int 2, .tuple [ti [0, 1]]], .tuple [.int 0, .tuple []], .tuple [.int 7, .tuple []], .tuple [ti [0], ti [1]], .list [], .tuple [.int 1, .list []]]
theorem menu_th : ∀ x ∈ menuA ++ menuB, Th 3 40 x := by
  have h : (menuA ++ menuB).all (thB 3 40) = true := by decide +kernel
  exact fun x hx => thB_ok (List.all_eq_true.mp h x hx)
theorem own_ix {ds : List PyData} {mi : M PyData} {k : Nat} {j : Int} {x : PyData} {ρ ρ1 : Env} (h0 : ρ[k]? = some (.own ds)) (h : mi ρ = .ok (.int j) ρ1) (h1 : peek ρ1 k = some ds) (e : atI ds j = some x) : mIxN k mi ρ = .ok (.dat x) ρ1 := by
  unfold mIxN
  rw [h0]
  dsimp only
  unfold mBind
  rw [h]
  show (match peek ρ1 k, PyData.int j with
    | some ds, .int j => mOpt ((atI ds j).map Rv.dat) ρ1
    | _, _ => .bad) = _
  rw [h1]
  show mOpt ((atI ds j).map Rv.dat) ρ1 = _
  rw [e]
  rfl
/-! ### pieces of tuples -/
theorem cut_mem {ds : List PyData} {lo hi : Option Int} {x : PyData} (h : x ∈ cutD ds lo hi) : x ∈ ds := by
  unfold cutD at h
  exact List.mem_of_mem_drop (List.mem_of_mem_take h)
theorem cut_len (ds : List PyData) (lo hi : Option Int) : (cutD ds lo hi).length ≤ ds.length := by
  unfold cutD
  rw [List.length_take, List.length_drop]
  omega
theorem Web.pu {d : PyData} (h : Web d) : Pu 3 613 d := by
  obtain ⟨p, ts, rfl, p1, p6, _, tl, pr'⟩ := h
  have t : Pu 2 303 (.tuple ts) := Pu.tup (j := 1) (k := 13) (m := 20) (fun x hx => by
    obtain ⟨a, b, rfl, h1, h2, h3⟩ := pr' x hx
    exact Pu.pair (by omega) (by omega) (by omega) (by omega)) tl
  exact Pu.tup (j := 2) (k := 303) (m := 2) (fun x hx => by
    rcases List.mem_cons.mp hx with e | e
    · rw [e]; exact (Pu.int (by omega) (by omega)).more (by omega) (by omega)
    · rw [List.mem_singleton.mp e]; exact t) (Nat.le_refl 2)
theorem Hl.pu {d : PyData} (h : Hl d) : Pu 1 43 d := by
  obtain ⟨ns, rfl, hl, hx⟩ := h
  exact Pu.tup (j := 0) (k := 3) (m := 8) (fun x hx' => by
    obtain ⟨i, hi, rfl⟩ := List.mem_map.mp hx'
    exact Pu.int (hx i hi).1 (hx i hi).2) (by rw [List.length_map]; exact hl)
theorem th_two {p : Int} {y : PyData} (h0 : 0 ≤ p) (h1 : p ≤ 100) (hy : Th 4 1725 y) : Th 5 5000 (.tuple [.int p, y]) := (Th.tup (j := 4) (k := 1725) (m := 2) (l1 := [.int p]) (l2 := []) (fun z hz => by
  rw [List.mem_singleton.mp hz]
  exact (Pu.int h0 h1).more (by omega) (by omega)) hy (fun z hz => by cases hz) (Nat.le_refl 2)).more (by omega) (by omega)
def Nl (s : Sl) : Prop := ∀ z, s ≠ .lnt z
theorem nl_un : Nl .un := fun z h => nomatch h
theorem nl_dat {d : PyData} : Nl (.dat d) := fun z h => nomatch h
theorem nl_own {d : List PyData} : Nl (.own d) := fun z h => nomatch h
theorem set_at {i : Nat} {r : Rv} {ρ : Env} {s : Sl} (h : ρ[i]? = some s) (hs : Nl s) : setS i r ρ = some (ρ.set i (toSl r)) := by
  unfold setS
  rw [h]
  cases s with
  | lnt z => exact absurd rfl (hs z)
  | _ => rfl
theorem piled_two : ∀ ts : List Str, 2 * ts.length ≤ piled ts
  | [] => Nat.zero_le _
  | t :: r => by
    rw [piled_cons, List.length_cons]
    have := piled_two r
    omega
theorem shownA_len : ∀ ds : List PyData, (PyData.shownAll ds).length = ds.length
  | [] => rfl
  | d :: r => by rw [PyData.shownAll, List.length_cons, List.length_cons, shownA_len r]
theorem Th.short {j k : Nat} {ds : List PyData} (h : Th j k (.tuple ds)) (hk : k ≤ 100000) : ds.length ≤ 100000 := by
  have a := h.ln
  rw [PyData.shown] at a
  have b := piled_le_tupleText (PyData.shownAll ds)
  have c := piled_two (PyData.shownAll ds)
  rw [shownA_len] at c
  omega
theorem Th.few {j k : Nat} {d : PyData} (h : Th j k d) (hk : k ≤ 100000) : Few d := fun p t e ds e2 => by
  subst e e2
  have a := h.ln
  rw [PyData.shown] at a
  have b := piled_le_tupleText (PyData.shownAll [p, .tuple ds])
  rw [PyData.shownAll, PyData.shownAll, PyData.shownAll, piled_cons, piled_cons] at b
  rw [PyData.shownAll, PyData.shownAll, PyData.shownAll] at a
  have c := piled_le_tupleText (PyData.shownAll ds)
  have e : (PyData.tuple ds).shown = tupleText (PyData.shownAll ds) := by rw [PyData.shown]
  rw [← e] at c
  have c2 := piled_two (PyData.shownAll ds)
  rw [shownA_len] at c2
  omega
theorem Web.tt {p : Int} {t : PyData} (h : Web (.tuple [.int p, t])) : webT (.tuple [.int p, t]) = true := by
  obtain ⟨q, ts, e, p1, p6, ht, _⟩ := h
  cases e
  show ((decide (1 ≤ p) && decide (p ≤ 6)) && _) = true
  rw [decide_eq_true p1, decide_eq_true p6, ht]
  rfl
theorem ne_str {x : Str} (h : PyData.strOk x = true) : fNe (.str x) (.str x) = some (.dat (.bool false)) := by
  have e : PyData.eqv (.str x) (.str x) = true := by
    rw [PyData.eqv]
    exact beq_self_eq_true x
  have q : shp (.str x) = true := by
    unfold shp SeqAt.shaped
    rw [PyData.canLay0, h, PyData.depth]
    rfl
  unfold fNe
  rw [q, if_pos (by rfl), e]
  rfl
/-! ### one thing -/
theorem parOk {i j : Nat} {m : M (List PyData)} {d e : PyData} {ρ ρ1 ρ2 ρ3 : Env} (h : m ρ = .ok [d, e] ρ1) (h1 : setS i (.dat d) ρ1 = some ρ2) (h2 : setS j (.dat e) ρ2 = some ρ3) : mPar i j m ρ = .nx ρ3 := by
  unfold mPar mThen
  rw [h]
  show oFl ((setS i (.dat d) ρ1).bind (setS j (.dat e))) = _
  rw [h1]
  show oFl (setS j (.dat e) ρ2) = _
  rw [h2]
  rfl
/-- a list of hues as it should be -/
def Hr (d : PyData) : Prop := ∃ ns : List Int, d = .tuple (ns.map PyData.int) ∧ ns.length ≤ 4 ∧ (∀ x ∈ ns, 0 ≤ x ∧ x ≤ 99) ∧ ns.Pairwise (· < ·)
theorem Hr.hues {d : PyData} (h : Hr d) : huesT d = true := by
  obtain ⟨ns, rfl, hl, hx, hs⟩ := h
  show (decide _ && _) = true
  rw [decide_eq_true (by rw [List.length_map]; omega), (steps_ints ns).mpr hs, Bool.and_true, Bool.true_and, List.all_map, List.all_eq_true]
  intro x hx'
  show (decide _ && decide _) = true
  rw [decide_eq_true (hx x hx').1, decide_eq_true (hx x hx').2]
  rfl
/-! ### errors on their way -/
theorem ex_ok {as : List Ar} {n : Nat} {body : Env → Fl} {x : Xn} {ρ : Env} {as' : List Ar} (h : body (as.map arSl ++ List.replicate (n - as.length) .un) = .ex x ρ) (hb : back as ρ = some as') : mkFn n body as = .ex x as' := by
  unfold mkFn
  rw [h]
  show frOf as (Fr.ex x) ρ = _
  unfold frOf
  rw [hb]
theorem callEx {f : Fn} {n : Nat} {a : M (List PyData)} {xs : List PyData} {x : Xn} {ρ ρ' : Env} {as : List Ar} (ha : a ρ = .ok xs ρ') (hn : xs.length = n) (hf : f (xs.map Ar.dat) = .ex x as) : mCall n f a ρ = .ex x ρ' := by
  unfold mCall mBind
  rw [ha]
  show (if xs.length = n then frR ρ' (f (xs.map Ar.dat)) else .bad) = _
  rw [if_pos hn, hf]
  rfl
theorem dropEx {m : M Rv} {x : Xn} {ρ ρ1 : Env} (h : m ρ = .ex x ρ1) : mDrop m ρ = .ex x ρ1 := by
  unfold mDrop mThen
  rw [h]
theorem retEx {m : M Rv} {x : Xn} {ρ ρ1 : Env} (h : m ρ = .ex x ρ1) : mRet m ρ = .ex x ρ1 := by
  unfold mRet mThen
  rw [h]
theorem seqEx {a b : Env → Fl} {ρ ρ1 : Env} {x : Xn} (h : a ρ = .ex x ρ1) : mSeq a b ρ = .ex x ρ1 := by
  unfold mSeq
  rw [h]
  rfl
theorem tryRt {i : Nat} {mk : Str → Option Str} {mb : Env → Fl} {ρ ρ1 : Env} {r : Rv} (h : mb ρ = .rt r ρ1) : mTry i mk mb ρ = .rt r ρ1 := by
  unfold mTry
  rw [h]
theorem tryEx {i : Nat} {mk : Str → Option Str} {mb : Env → Fl} {ρ ρ1 : Env} {c m : Str} (h : mb ρ = .ex ⟨c, none⟩ ρ1) (hm : mk c = some m) (hi : i < ρ1.length) : mTry i mk mb ρ = .rt (.dat (.str m)) (ρ1.set i .un) := by
  unfold mTry
  rw [h]
  dsimp only
  rw [hm]
  dsimp only
  rw [if_pos hi]
theorem call3 {f : Fn} {a b c : M PyData} {x y z : PyData} {r : Rv} {ρ : Env} {as : List Ar} (ha : a ρ = .ok x ρ) (hb : b ρ = .ok y ρ) (hc : c ρ = .ok z ρ) (hf : f [.dat x, .dat y, .dat z] = .ok r as) : mCall 3 f (mCons a (mCons b (mCons c mNil))) ρ = .ok r ρ := callOk (consOk ha (consOk hb (consOk hc nilOk))) rfl hf
/-! ### lists are looked at -/
/-! ### sizes -/
def lenOf : PyData → Int
  | .tuple ds => ds.length
  | _ => 0
/-! ### in, over numbers -/
theorem isIn_int (i : Int) : ∀ ns : List Int, isIn (.int i) (ns.map PyData.int) = decide (i ∈ ns)
  | [] => rfl
  | n :: r => by
    have ih := isIn_int i r
    unfold isIn at ih ⊢
    rw [List.map_cons, List.any_cons, ih]
    have e : PyData.eqv (.int n) (.int i) = (n == i) := rfl
    rw [e, ibeq, Bool.eq_iff_iff, Bool.or_eq_true, decide_eq_true_eq, decide_eq_true_eq, decide_eq_true_eq, List.mem_cons]
    constructor
    · rintro (h | h)
      · exact .inl h.symm
      · exact .inr h
    · rintro (h | h)
      · exact .inl h.symm
      · exact .inr h
theorem in_int (i : Int) (ns : List Int) : fIn (.int i) (.tuple (ns.map PyData.int)) = some (.dat (.bool (decide (i ∈ ns)))) := by
  show Option.or (if (shp (.int i) && shp (.tuple (ns.map PyData.int))) = true then some (Rv.dat (.bool (isIn (.int i) (ns.map PyData.int)))) else none) _ = _
  rw [shp_tup, show shp (.int i) = true from rfl, if_pos (by rfl), isIn_int]
  rfl
theorem notin_int (i : Int) (ns : List Int) : fNotIn (.int i) (.tuple (ns.map PyData.int)) = some (.dat (.bool (!decide (i ∈ ns)))) := by
  show Option.or (if (shp (.int i) && shp (.tuple (ns.map PyData.int))) = true then some (Rv.dat (.bool (!isIn (.int i) (ns.map PyData.int)))) else none) _ = _
  rw [shp_tup, show shp (.int i) = true from rfl, if_pos (by rfl), isIn_int]
  rfl
theorem shp_of : ∀ {ds : List PyData}, (∀ d ∈ ds, d.canLay0 = true ∧ d.depth ≤ 10) → PyData.canLayAll0 ds = true ∧ PyData.depthAll ds ≤ 10
  | [], _ => ⟨rfl, Nat.zero_le _⟩
  | d :: r, h => by
    obtain ⟨a, b⟩ := h d (List.mem_cons_self ..)
    obtain ⟨c, e⟩ := shp_of (ds := r) fun y hy => h y (List.mem_cons_of_mem _ hy)
    rw [PyData.canLayAll0, PyData.depthAll, a, c]
    exact ⟨rfl, Nat.max_le.mpr ⟨b, e⟩⟩
theorem shp_listOf {ds : List PyData} (h : ∀ d ∈ ds, d.canLay0 = true ∧ d.depth ≤ 10) : shp (.list ds) = true := by
  obtain ⟨a, b⟩ := shp_of h
  unfold shp SeqAt.shaped
  rw [PyData.canLay0, a, PyData.depth, decide_eq_true (by omega)]
  rfl
theorem eqv_nil (ds : List PyData) : PyData.eqv (.list ds) (.list []) = ds.isEmpty := by
  rw [PyData.eqv]
  cases ds <;> simp [PyData.eqvAll]
theorem ne_nil {ds : List PyData} (h : ∀ d ∈ ds, d.canLay0 = true ∧ d.depth ≤ 10) : fNe (.list ds) (.list []) = some (.dat (.bool (!ds.isEmpty))) := by
  unfold fNe
  rw [shp_listOf h, show shp (.list []) = true from rfl, if_pos (by rfl), eqv_nil]
theorem eq_nil {ds : List PyData} (h : ∀ d ∈ ds, d.canLay0 = true ∧ d.depth ≤ 10) : fEq (.list ds) (.list []) = some (.dat (.bool ds.isEmpty)) := by
  unfold fEq
  rw [shp_listOf h, show shp (.list []) = true from rfl, if_pos (by rfl), eqv_nil]
theorem empty_filter {α : Type} (l : List α) (f : α → Bool) : (l.filter f).isEmpty = l.all (fun x => !f x) := by
  induction l with
  | nil => rfl
  | cons a r ih =>
    rw [List.filter_cons, List.all_cons, ← ih]
    cases f a <;> simp
/-! ### a choice, as the program looks at it -/
def inT : PyData → PyData → Bool
  | .int i, .tuple ds => isIn (.int i) ds
  | _, _ => false
def chk (q : PyData × PyData) : Bool := rngT 0 99 q.1 && inT q.1 q.2
def atD (xs : List PyData) (i : Int) : PyData := xs.getD i.toNat .none
def unl (xs : List PyData) : PyData → Bool
  | .tuple [.int a, .int b] => !PyData.eqv (atD xs a) (atD xs b)
  | _ => false
theorem at_ok {xs : List PyData} {a : Int} (h : 0 ≤ a) (h1 : a < xs.length) : atI xs a = some (atD xs a) := by
  have e : a = (a.toNat : Int) := by omega
  have hl : a.toNat < xs.length := by omega
  have := atI_nat (xs := xs) (j := a.toNat) (v := xs[a.toNat]) (List.getElem?_eq_getElem hl)
  rw [← e] at this
  rw [this]
  unfold atD
  rw [List.getD_eq_getElem?_getD, List.getElem?_eq_getElem hl]
  rfl
def chT (p : Int) (ts ls : List PyData) : PyData → Bool
  | .tuple xs => decide ((xs.length : Int) = p) && ((xs.zip ls).all chk && ts.all (unl xs))
  | _ => false
theorem zip_left {α β : Type} {l : List α} {m : List β} (h : l.length = m.length) {x : α} (hx : x ∈ l) : ∃ y, (x, y) ∈ l.zip m := by
  obtain ⟨i, hi, e⟩ := List.getElem_of_mem hx
  refine ⟨m[i]'(by omega), ?_⟩
  rw [← e]
  have : (l.zip m)[i]'(by rw [List.length_zip]; omega) = (l[i], m[i]'(by omega)) := List.getElem_zip
  rw [← this]
  exact List.getElem_mem _
/-! ### a choice, as the law looks at it -/
def inAt (xs ls : List PyData) : PyData → Bool
  | .int k => inT (atD xs k) (atD ls k)
  | _ => false
theorem atD_mem {xs : List PyData} {c : Int} (h0 : 0 ≤ c) (h : c < xs.length) : atD xs c ∈ xs := by
  unfold atD
  rw [List.getD_eq_getElem?_getD, List.getElem?_eq_getElem (show c.toNat < xs.length by omega)]
  exact List.getElem_mem _
theorem all_at {p : Int} {xs ls : List PyData} (hx : (xs.length : Int) = p) (hl : (ls.length : Int) = p) (hls : ∀ d ∈ ls, Hr d) : (rngL 0 p.toNat).all (inAt xs ls) = (xs.zip ls).all chk := by
  rw [Bool.eq_iff_iff, List.all_eq_true, List.all_eq_true]
  have key : ∀ k : Nat, (hk : k < xs.length) → (hk2 : k < ls.length) → inAt xs ls (.int k) = chk (xs[k], ls[k]) := fun k hk hk2 => by
    have a1 : atD xs k = xs[k] := by
      unfold atD
      rw [List.getD_eq_getElem?_getD, show ((k : Int)).toNat = k from rfl, List.getElem?_eq_getElem hk]
      rfl
    have a2 : atD ls k = ls[k] := by
      unfold atD
      rw [List.getD_eq_getElem?_getD, show ((k : Int)).toNat = k from rfl, List.getElem?_eq_getElem hk2]
      rfl
    show inT (atD xs k) (atD ls k) = (rngT 0 99 xs[k] && inT xs[k] ls[k])
    rw [a1, a2]
    obtain ⟨ns, e, _, hn, _⟩ := hls ls[k] (List.getElem_mem _)
    rw [e]
    cases xs[k] with
    | int i =>
      show isIn (.int i) (ns.map PyData.int) = ((decide (0 ≤ i) && decide (i ≤ 99)) && isIn (.int i) (ns.map PyData.int))
      rw [isIn_int, Bool.eq_iff_iff, Bool.and_eq_true, Bool.and_eq_true, decide_eq_true_eq, decide_eq_true_eq, decide_eq_true_eq]
      exact ⟨fun h => ⟨hn i h, h⟩, fun h => h.2⟩
    | _ => rfl
  constructor
  · intro h q hq
    obtain ⟨k, hk, e⟩ := List.getElem_of_mem hq
    rw [List.length_zip] at hk
    rw [List.getElem_zip] at e
    rw [← e, ← key k (by omega) (by omega)]
    refine h _ ?_
    unfold rngL
    refine List.mem_map.mpr ⟨k, List.mem_range.mpr (by omega), ?_⟩
    rw [Int.zero_add]
  · intro h d hd
    obtain ⟨i, rfl, h0, h1⟩ := rng_mem hd
    have e : i = (i.toNat : Int) := by omega
    rw [e, key i.toNat (by omega) (by omega)]
    refine h _ ?_
    have : (xs.zip ls)[i.toNat]'(by rw [List.length_zip]; omega) = (xs[i.toNat]'(by omega), ls[i.toNat]'(by omega)) := List.getElem_zip
    rw [← this]
    exact List.getElem_mem _
/-! ### ties in their order -/
def codeD : PyData → Int
  | .tuple [.int a, .int b] => a * 64 + b
  | _ => 0
theorem ties_rise {p : Int} (hp : p ≤ 6) : ∀ {ts : List PyData}, Prs p ts → steps ltP ts = true → steps ltD ((ts.map codeD).map PyData.int) = true
  | [], _, _ => rfl
  | [x], _, _ => rfl
  | x :: y :: r, h, hs => by
    rw [steps_two, Bool.and_eq_true] at hs
    rw [List.map_cons, List.map_cons, List.map_cons, List.map_cons, steps_two, ← List.map_cons, ← List.map_cons, ties_rise hp (fun d hd => h d (List.mem_cons_of_mem _ hd)) hs.2, Bool.and_true]
    obtain ⟨a, b, rfl, _, _, _⟩ := h x (List.mem_cons_self ..)
    obtain ⟨c, d, rfl, _, _, _⟩ := h y (List.mem_cons_of_mem _ (List.mem_cons_self ..))
    have z : HT.lexLt [a, b] [c, d] = true := hs.1
    show decide (a * 64 + b < c * 64 + d) = true
    rw [HT.lexLt_cons] at z
    by_cases q : a = c
    · rw [if_pos q, HT.lexLt_cons] at z
      by_cases q2 : b = d
      · rw [if_pos q2] at z; cases z
      · rw [if_neg q2] at z
        have := of_decide_eq_true z
        exact decide_eq_true (by omega)
    · rw [if_neg q] at z
      have := of_decide_eq_true z
      exact decide_eq_true (by omega)
def nbr (v : Int) : PyData → List Int
  | .tuple [.int a, .int b] => (if a = v then [b] else []) ++ (if b = v then [a] else [])
  | _ => []
theorem nbr_mem {v n a b : Int} : n ∈ nbr v (pr a b) ↔ (a = v ∧ n = b) ∨ (b = v ∧ n = a) := by
  show n ∈ (if a = v then [b] else []) ++ (if b = v then [a] else []) ↔ _
  rw [List.mem_append]
  by_cases h1 : a = v <;> by_cases h2 : b = v <;> simp [h1, h2]
theorem nbrs_rise {p v : Int} (hp : p ≤ 6) {ts : List PyData} (h : Prs p ts) (hs : steps ltP ts = true) : (ts.flatMap (nbr v)).Pairwise (· < ·) := by
  have c := (steps_ints _).mp (ties_rise hp h hs)
  rw [List.pairwise_map] at c
  rw [List.pairwise_flatMap]
  refine ⟨fun d hd => ?_, ?_⟩
  · obtain ⟨a, b, rfl, _, _, _⟩ := h d hd
    show ((if a = v then [b] else []) ++ (if b = v then [a] else [])).Pairwise _
    by_cases h1 : a = v
    · rw [if_pos h1, if_neg (by omega)]
      exact List.pairwise_singleton _ _
    · rw [if_neg h1]
      by_cases h2 : b = v
      · rw [if_pos h2]; exact List.pairwise_singleton _ _
      · rw [if_neg h2]; exact .nil
  · refine List.Pairwise.imp_of_mem (fun {x y} hx hy z m hm n hn => ?_) c
    obtain ⟨a, b, rfl, _, _, _⟩ := h x hx
    obtain ⟨c, d, rfl, _, _, _⟩ := h y hy
    have z : a * 64 + b < c * 64 + d := z
    rw [nbr_mem] at hm hn
    omega
theorem ins1_first {x : Int} : ∀ {r : List Int}, (x :: r).Pairwise (· < ·) → ins1 x r = x :: r
  | [], _ => rfl
  | y :: r, h => by
    have z := (List.pairwise_cons.mp h).1 y (List.mem_cons_self ..)
    unfold ins1
    first
      | rw [if_pos (by omega)]
      | rw [if_neg (by omega)]
theorem isort_id : ∀ {l : List Int}, l.Pairwise (· < ·) → isort l = l
  | [], _ => rfl
  | x :: r, h => by
    show ins1 x (isort r) = _
    rw [isort_id (List.pairwise_cons.mp h).2]
    exact ins1_first h
theorem eqv_pr (a b c d : Int) : PyData.eqv (pr a b) (pr c d) = decide (a = c ∧ b = d) := by
  show PyData.eqv (.tuple [.int a, .int b]) (.tuple [.int c, .int d]) = _
  rw [PyData.eqv]
  have e := eqvA_ints [a, b] [c, d]
  rw [show PyData.eqvAll [.int a, .int b] [.int c, .int d] = decide ([a, b] = [c, d]) from e, Bool.eq_iff_iff, decide_eq_true_eq, decide_eq_true_eq]
  simp
theorem isIn_pr {p v n : Int} {ts : List PyData} (h : Prs p ts) : isIn (pr v n) ts = true ↔ pr v n ∈ ts := by
  unfold isIn
  rw [List.any_eq_true]
  constructor
  · rintro ⟨d, hd, e⟩
    obtain ⟨a, b, rfl, _⟩ := h d hd
    rw [eqv_pr, decide_eq_true_eq] at e
    rw [← e.1, ← e.2]
    exact hd
  · intro hm
    exact ⟨_, hm, by rw [eqv_pr]; exact decide_eq_true ⟨rfl, rfl⟩⟩
def adj (v : Int) (ts : List PyData) : PyData → Bool
  | .int n => isIn (pr v n) ts || isIn (pr n v) ts
  | _ => false
theorem near_tied {p v : Int} (hp : p ≤ 6) {ts : List PyData} (h : Prs p ts) (hs : steps ltP ts = true) : (rngL 0 p.toNat).filter (adj v ts) = (ts.flatMap (nbr v)).map PyData.int := by
  have e : (rngL 0 p.toNat).filter (adj v ts) = (((List.range p.toNat).map (fun k : Nat => (k : Int))).filter fun n => isIn (pr v n) ts || isIn (pr n v) ts).map PyData.int := by
    unfold rngL
    have f1 : (fun i : Nat => PyData.int (0 + (i : Int))) = PyData.int ∘ fun k : Nat => (k : Int) := funext fun k => by
      show PyData.int (0 + (k : Int)) = .int k
      rw [Int.zero_add]
    rw [f1, List.filter_map, List.filter_map, List.map_map]
    rfl
  rw [e]
  refine congrArg _ (rising_one (fun n => ?_) ?_ (nbrs_rise hp h hs))
  · rw [List.mem_filter, List.mem_map, Bool.or_eq_true, isIn_pr h, isIn_pr h, List.mem_flatMap]
    constructor
    · rintro ⟨_, hm | hm⟩
      · exact ⟨_, hm, nbr_mem.mpr (.inl ⟨rfl, rfl⟩)⟩
      · exact ⟨_, hm, nbr_mem.mpr (.inr ⟨rfl, rfl⟩)⟩
    · rintro ⟨d, hd, hn⟩
      obtain ⟨a, b, rfl, h1, h2, h3⟩ := h d hd
      rcases nbr_mem.mp hn with ⟨rfl, rfl⟩ | ⟨rfl, rfl⟩
      · exact ⟨⟨n.toNat, List.mem_range.mpr (by omega), by omega⟩, .inl hd⟩
      · exact ⟨⟨n.toNat, List.mem_range.mpr (by omega), by omega⟩, .inr hd⟩
  · refine List.Pairwise.filter _ ?_
    rw [List.pairwise_map]
    refine List.Pairwise.imp (fun {a b} h => ?_) List.pairwise_lt_range
    omega

abbrev tiedBody : Env → Fl := mSeq (mIfS (mB (mF (mOp fEq (mVar 3) (mVar 1)))) (mApp 2 (mVar 4)) Fl.nx) (mIfS (mB (mF (mOp fEq (mVar 4) (mVar 1)))) (mApp 2 (mVar 3)) Fl.nx)
theorem tied_turn (w : PyData) (v a b : Int) (ns : List Int) (hn : ns.length ≤ 1000) : tiedBody [.dat w, .dat (.int v), .own (ns.map PyData.int), .dat (.int a), .dat (.int b)] = .nx [.dat w, .dat (.int v), .own ((ns ++ nbr v (pr a b)).map PyData.int), .dat (.int a), .dat (.int b)] := by
  have c1 : mB (mF (mOp fEq (mVar 3) (mVar 1))) [.dat w, .dat (.int v), .own (ns.map PyData.int), .dat (.int a), .dat (.int b)] = .ok (decide (a = v)) [.dat w, .dat (.int v), .own (ns.map PyData.int), .dat (.int a), .dat (.int b)] := bOk (fD (opOk rfl rfl (eq_ints a v)))
  have g1 : mIfS (mB (mF (mOp fEq (mVar 3) (mVar 1)))) (mApp 2 (mVar 4)) Fl.nx [.dat w, .dat (.int v), .own (ns.map PyData.int), .dat (.int a), .dat (.int b)] = .nx [.dat w, .dat (.int v), .own ((ns ++ if a = v then [b] else []).map PyData.int), .dat (.int a), .dat (.int b)] := by
    by_cases q : a = v
    · rw [decide_eq_true q] at c1
      rw [if_pos q]
      exact (ifT c1).trans (appOk (z := ns.map PyData.int) (ds := ns.map PyData.int) rfl rfl rfl (by rw [List.length_map]; omega) (by rw [List.map_append]; rfl))
    · rw [decide_eq_false q] at c1
      rw [if_neg q, List.append_nil]
      exact ifF c1
  have hm : (ns ++ if a = v then [b] else []).length ≤ 1001 := by
    rw [List.length_append]
    split
    · rw [List.length_singleton]; omega
    · rw [List.length_nil]; omega
  have e : nbr v (pr a b) = (if a = v then [b] else []) ++ (if b = v then [a] else []) := rfl
  rw [e, ← List.append_assoc]
  generalize (ns ++ if a = v then [b] else []) = ms at g1 hm
  have c2 : mB (mF (mOp fEq (mVar 4) (mVar 1))) [.dat w, .dat (.int v), .own (ms.map PyData.int), .dat (.int a), .dat (.int b)] = .ok (decide (b = v)) [.dat w, .dat (.int v), .own (ms.map PyData.int), .dat (.int a), .dat (.int b)] := bOk (fD (opOk rfl rfl (eq_ints b v)))
  refine (seqOk g1).trans ?_
  by_cases q : b = v
  · rw [decide_eq_true q] at c2
    rw [if_pos q]
    exact (ifT c2).trans (appOk (z := ms.map PyData.int) (ds := ms.map PyData.int) rfl rfl rfl (by rw [List.length_map]; omega) (by rw [List.map_append]; rfl))
  · rw [decide_eq_false q] at c2
    rw [if_neg q, List.append_nil]
    exact ifF c2
theorem nbr_len (v : Int) (d : PyData) : (nbr v d).length ≤ 2 := by
  unfold nbr
  split
  · rw [List.length_append]
    split <;> split <;> simp
  · simp
theorem tied_loop (w : PyData) (v p : Int) : ∀ (ts : List PyData) (ns : List Int) (s u : Sl), Prs p ts → Nl s → Nl u → ns.length + 2 * ts.length ≤ 1000 → ∃ s' u', loop (bTup 2 (bCons (bName 3) (bCons (bName 4) bNil))) tiedBody ts [.dat w, .dat (.int v), .own (ns.map PyData.int), s, u] = .nx [.dat w, .dat (.int v), .own ((ns ++ ts.flatMap (nbr v)).map PyData.int), s', u']
  | [], ns, s, u, _, _, _, _ => ⟨s, u, by rw [List.flatMap_nil, List.append_nil]; rfl⟩
  | d :: ts, ns, s, u, h, hs, hu, hl => by
    obtain ⟨a, b, rfl, _⟩ := h d (List.mem_cons_self ..)
    have bn : bTup 2 (bCons (bName 3) (bCons (bName 4) bNil)) (pr a b) [.dat w, .dat (.int v), .own (ns.map PyData.int), s, u] = some [.dat w, .dat (.int v), .own (ns.map PyData.int), .dat (.int a), .dat (.int b)] := by
      cases s with
      | lnt z => exact absurd rfl (hs z)
      | _ => cases u with
        | lnt z => exact absurd rfl (hu z)
        | _ => rfl
    rw [List.length_cons] at hl
    unfold loop
    rw [bn]
    dsimp only
    rw [tied_turn w v a b ns (by omega)]
    dsimp only
    have z := nbr_len v (pr a b)
    obtain ⟨s', u', e⟩ := tied_loop w v p ts (ns ++ nbr v (pr a b)) (.dat (.int a)) (.dat (.int b)) (fun x hx => h x (List.mem_cons_of_mem _ hx)) nl_dat nl_dat (by rw [List.length_append]; omega)
    refine ⟨s', u', ?_⟩
    rw [e, List.flatMap_cons, List.append_assoc]
theorem shp_ties {p : Int} {ts : List PyData} (h : Prs p ts) : shp (.tuple ts) = true := by
  obtain ⟨a, b⟩ := shp_of (ds := ts) fun d hd => by
    obtain ⟨x, y, rfl, _⟩ := h d hd
    exact ⟨rfl, show 1 ≤ 10 by decide⟩
  unfold shp SeqAt.shaped
  rw [PyData.canLay0, a, PyData.depth, decide_eq_true (by omega)]
  rfl
theorem in_ties {p v n : Int} {ts : List PyData} (h : Prs p ts) : fIn (pr v n) (.tuple ts) = some (.dat (.bool (isIn (pr v n) ts))) := by
  show Option.or (if (shp (pr v n) && shp (.tuple ts)) = true then some (Rv.dat (.bool (isIn (pr v n) ts))) else none) _ = _
  rw [shp_ties h, show shp (pr v n) = true from rfl, if_pos (by rfl)]
  rfl
theorem fn_near {p v : Int} {ts : List PyData} (hf : Few (.tuple [.int p, .tuple ts])) (hw : webT (.tuple [.int p, .tuple ts]) = true) (h : Prs p ts) (p6 : p ≤ 6) (v0 : 0 ≤ v) (v1 : v < p) : f_near [.dat (.tuple [.int p, .tuple ts]), .dat (.int v)] = .ok (.dat (.tuple ((rngL 0 p.toNat).filter (adj v ts)))) [.dat (.tuple [.int p, .tuple ts]), .dat (.int v)] := by
  refine ret_ok (ρ := [.dat (.tuple [.int p, .tuple ts]), .dat (.int v), .dat (.int p), .dat (.tuple ts), .un]) ?_ rfl
  refine (seqOk (ρ1 := [.dat (.tuple [.int p, .tuple ts]), .dat (.int v), .un, .un, .un]) (dropOk (call1 rfl (fn_check_web _ hf hw)))).trans ?_
  refine (seqOk (ρ1 := [.dat (.tuple [.int p, .tuple ts]), .dat (.int v), .dat (.int p), .dat (.tuple ts), .un]) rfl).trans ?_
  have c := call2 (a := mVar 1) (b := mVar 2) (ρ := [.dat (.tuple [.int p, .tuple ts]), .dat (.int v), .dat (.int p), .dat (.tuple ts), .un]) rfl rfl (fn_is_place (.int v) p)
  have e : isPl p (.int v) = true := by
    show (decide _ && decide _) = true
    rw [decide_eq_true v0, decide_eq_true v1]
    rfl
  rw [e] at c
  refine (seqOk (ifF (notOk (b := true) (bOk (fD c))))).trans ?_
  refine retX (cbOk (xs := [.list ((rngL 0 p.toNat).filter (adj v ts))]) (consOk (fN ?_) nilOk) rfl)
  rw [show (rngL 0 p.toNat).filter (adj v ts) = ((rngL 0 p.toNat).filter (adj v ts)).map fun d => d by rw [List.map_id']]
  refine compOk (ρ1 := [.dat (.tuple [.int p, .tuple ts]), .dat (.int v), .dat (.int p), .dat (.tuple ts), .un]) (rng1Ok (consOk rfl nilOk) (by omega) (by omega)) (fun d hd => ?_) (by rw [rng_len]; omega)
  obtain ⟨n, rfl, _⟩ := rng_mem hd
  exact ⟨[.dat (.tuple [.int p, .tuple ts]), .dat (.int v), .dat (.int p), .dat (.tuple ts), .dat (.int n)], rfl, orOk (bOk (fD (opOk (x := pr v n) rfl rfl (in_ties h)))) (fun _ => bOk (fD (opOk (x := pr n v) rfl rfl (in_ties h)))), fun _ => rfl, rfl⟩
theorem lp_at {b : PyData → Env → Option Env} {f : Env → Fl} {I : Nat → Env → Prop} : ∀ {ds : List PyData} {k : Nat} {ρ : Env}, (∀ j d ρ, ds[j]? = some d → I (k + j) ρ → ∃ ρ1 ρ2, b d ρ = some ρ1 ∧ f ρ1 = .nx ρ2 ∧ I (k + j + 1) ρ2) → I k ρ → ∃ ρ', loop b f ds ρ = .nx ρ' ∧ I (k + ds.length) ρ'
  | [], k, ρ, _, hI => ⟨ρ, rfl, hI⟩
  | d :: ds, k, ρ, h, hI => by
    obtain ⟨ρ1, ρ2, h1, h2, h3⟩ := h 0 d ρ rfl hI
    unfold loop
    rw [h1]
    dsimp only
    rw [h2]
    dsimp only
    obtain ⟨r, q1, q2⟩ := lp_at (ds := ds) (k := k + 1) (ρ := ρ2) (fun j e ρ he hi => by
      have z := h (j + 1) e ρ (by simpa using he) (by rw [show k + (j + 1) = k + 1 + j by omega]; exact hi)
      rw [show k + (j + 1) + 1 = k + 1 + j + 1 by omega] at z
      exact z) h3
    refine ⟨r, q1, ?_⟩
    rw [List.length_cons, show k + (ds.length + 1) = k + 1 + ds.length by omega]
    exact q2
theorem rng_at {n k : Nat} {d : PyData} (h : (rngL 0 n)[k]? = some d) : d = .int k ∧ k < n := by
  unfold rngL at h
  rw [List.getElem?_map] at h
  by_cases q : k < n
  · rw [List.getElem?_range q] at h
    cases h
    exact ⟨by show PyData.int (0 + (k : Int)) = _; rw [Int.zero_add], q⟩
  · rw [List.getElem?_eq_none (by rw [List.length_range]; omega)] at h
    cases h
def Tu (v : Int) (d : PyData) : Prop := ∃ ms : List Int, d = .tuple (ms.map PyData.int) ∧ (ms.length : Int) = v ∧ ∀ i ∈ ms, 0 ≤ i ∧ i ≤ 99
theorem notin_lst (i : Int) (ns : List Int) : fNotIn (.int i) (.list (ns.map PyData.int)) = some (.dat (.bool (!decide (i ∈ ns)))) := by
  show Option.or (if (shp (.int i) && shp (.list (ns.map PyData.int))) = true then some (Rv.dat (.bool (!isIn (.int i) (ns.map PyData.int)))) else none) _ = _
  rw [shp_list, show shp (.int i) = true from rfl, if_pos (by rfl), isIn_int]
  rfl
theorem ints_list : ∀ {ds : List PyData}, (∀ d ∈ ds, ∃ i, d = .int i) → ∃ ns : List Int, ds = ns.map PyData.int
  | [], _ => ⟨[], rfl⟩
  | d :: r, h => by
    obtain ⟨i, e⟩ := h d (List.mem_cons_self ..)
    obtain ⟨ns, e2⟩ := ints_list (ds := r) fun x hx => h x (List.mem_cons_of_mem _ hx)
    exact ⟨i :: ns, by rw [e, e2]; rfl⟩
theorem log_big {m : Int} (h : 0 < m) (h1 : m ≤ 100000) : m.natAbs.log2 < 9000 := by
  have : m.natAbs < 2 ^ 9000 := Nat.lt_of_le_of_lt (show m.natAbs ≤ 100000 by omega) (by decide +kernel)
  exact (Nat.log2_lt (by omega)).mpr this
theorem fn_takeL (n m : Int) (h : 0 < m) (h1 : m ≤ 100000) : f_law_take [.lnt [.int n], .dat (.int m)] = .ok (.dat (.int (n % m))) [.lnt [.int (n / m)], .dat (.int m)] := by
  refine ret_ok (ρ := [.lnt [.int (n / m)], .dat (.int m), .dat (.int (n / m)), .dat (.int (n % m))]) ?_ rfl
  refine (seqOk (ρ1 := [.lnt [.int n], .dat (.int m), .dat (.int (n / m)), .dat (.int (n % m))]) (bndOk (d := .tuple [.int (n / m), .int (n % m)]) (fD (cbOk (xs := [.int n, .int m]) (consOk rfl (consOk rfl nilOk)) ?_)) rfl)).trans ?_
  · show (if _ then _ else _) = _
    rw [if_pos (by rw [decide_eq_true h, decide_eq_true (log_big h h1)]; rfl)]
  · rfl
/-- the box at slot 2 -/
theorem take2 {a : M PyData} {n m : Int} {x y : Sl} {ρ : Env} (ha : a (x :: y :: .own [.int n] :: ρ) = .ok (.int m) (x :: y :: .own [.int n] :: ρ)) (h : 0 < m) (h1 : m ≤ 100000) : mCallB 2 f_law_take 2 (mCons a mNil) (x :: y :: .own [.int n] :: ρ) = .ok (.dat (.int (n % m))) (x :: y :: .own [.int (n / m)] :: ρ) := callB2 (consOk ha nilOk) rfl (fn_takeL n m h h1)
theorem cl_all {b : PyData → Env → Option Env} {e : M PyData} {vs : List Nat} {I : Env → Prop} {P : PyData → Prop} : ∀ {ds acc : List PyData} {ρ : Env}, (∀ d ∈ ds, ∀ ρ, I ρ → ∃ ρ1 y ρ3, b d ρ = some ρ1 ∧ e ρ1 = .ok y ρ3 ∧ P y ∧ I (wipeE ρ3 vs)) → I ρ → acc.length + ds.length ≤ 100000 → (∀ y ∈ acc, P y) →
    ∃ acc' ρ', cloop b (mPure true) e vs ds ρ acc = .ok acc' ρ' ∧ I ρ' ∧ acc'.length = acc.length + ds.length ∧ ∀ y ∈ acc', P y
  | [], acc, ρ, _, hI, _, hp => ⟨acc, ρ, rfl, hI, rfl, hp⟩
  | d :: ds, acc, ρ, h, hI, hl, hp => by
    obtain ⟨ρ1, y, ρ3, h1, h2, h3, h4⟩ := h d (List.mem_cons_self ..) ρ hI
    rw [List.length_cons] at hl
    obtain ⟨a, r, q1, q2, q3, q4⟩ := cl_all (acc := acc ++ [y]) (fun x hx => h x (List.mem_cons_of_mem _ hx)) h4 (by rw [List.length_append, List.length_singleton]; omega) (fun z hz => by
      rcases List.mem_append.mp hz with q | q
      · exact hp z q
      · rw [List.mem_singleton.mp q]; exact h3)
    refine ⟨a, r, ?_, q2, ?_, q4⟩
    · unfold cloop
      rw [h1]
      dsimp only [mPure]
      rw [h2]
      dsimp only
      rw [if_pos (show small acc.length = true from decide_eq_true (by omega))]
      exact q1
    · rw [List.length_append, List.length_singleton] at q3
      rw [List.length_cons]
      omega
theorem comp_all {m : M (List PyData)} {b : PyData → Env → Option Env} {e : M PyData} {vs : List Nat} {I : Env → Prop} {P : PyData → Prop} {ds : List PyData} {ρ ρ1 : Env} (hm : m ρ = .ok ds ρ1) (h : ∀ d ∈ ds, ∀ ρ, I ρ → ∃ ρ1 y ρ3, b d ρ = some ρ1 ∧ e ρ1 = .ok y ρ3 ∧ P y ∧ I (wipeE ρ3 vs)) (hI : I (wipeE ρ1 vs)) (hl : ds.length ≤ 100000) :
    ∃ es ρ', mComp m b (mPure true) e vs ρ = .ok (.new es) ρ' ∧ I ρ' ∧ es.length = ds.length ∧ ∀ y ∈ es, P y := by
  obtain ⟨a, r, q1, q2, q3, q4⟩ := cl_all (acc := []) h hI (by rw [List.length_nil]; omega) (fun y hy => by cases hy)
  refine ⟨a, r, ?_, q2, by rw [List.length_nil] at q3; omega, q4⟩
  unfold mComp mBind
  rw [hm]
  show R.bind (cloop b (mPure true) e vs ds (wipeE ρ1 vs) []) _ = _
  rw [q1]
  rfl
theorem Tu.pu {v : Int} {d : PyData} (h : Tu v d) (hv : v ≤ 12) : Pu 1 63 d := by
  obtain ⟨ms, rfl, hl, hx⟩ := h
  exact Pu.tup (j := 0) (k := 3) (m := 12) (fun x hx' => by
    obtain ⟨i, hi, rfl⟩ := List.mem_map.mp hx'
    exact Pu.int (hx i hi).1 (by have := (hx i hi).2; omega)) (by rw [List.length_map]; omega)
/-- one foreign thing in a tuple of numbers -/
theorem th_one {ms : List PyData} {x : PyData} {a b c d : Option Int} (hm : ∀ y ∈ ms, Pu 3 40 y) (hl : ms.length ≤ 12) (hx : Th 3 40 x) : Th 5 5000 (.tuple (cutD ms a b ++ [x] ++ cutD ms c d)) := by
  rw [List.append_assoc]
  have k1 := cut_len ms a b
  have k2 := cut_len ms c d
  refine (Th.tup (j := 3) (k := 40) (m := 25) (fun z hz => hm z (cut_mem hz)) hx (fun z hz => hm z (cut_mem hz)) ?_).more (by omega) (by omega)
  rw [List.length_append, List.length_cons]
  omega
theorem th_cut {ms : List PyData} {a b : Option Int} (hm : ∀ y ∈ ms, Pu 3 40 y) (hl : ms.length ≤ 12) : Th 5 5000 (.tuple (cutD ms a b)) := by
  have k1 := cut_len ms a b
  exact ((Pu.tup (j := 3) (k := 40) (m := 12) (fun z hz => hm z (cut_mem hz)) (by omega)).th).more (by omega) (by omega)
/-! ### near places -/
def nb (ts : List PyData) (v : Int) : List Int := ts.flatMap (nbr v)
theorem nb_range {p v : Int} {ts : List PyData} (h : Prs p ts) : ∀ x ∈ nb ts v, 0 ≤ x ∧ x < p := fun x hx => by
  obtain ⟨d, hd, hj⟩ := List.mem_flatMap.mp hx
  obtain ⟨a, b, rfl, a0, ab, bp⟩ := h d hd
  rcases nbr_mem.mp hj with ⟨_, e⟩ | ⟨_, e⟩ <;> omega
def nbT (ts : List PyData) (v : Int) : PyData := .tuple ((nb ts v).map PyData.int)
def nbD (ts : List PyData) : PyData → PyData
  | .int v => nbT ts v
  | _ => .none
theorem fn_nearX {p v : Int} {ts : List PyData} (hf : Few (.tuple [.int p, .tuple ts])) (hw : webT (.tuple [.int p, .tuple ts]) = true) (h : Prs p ts) (hs : steps ltP ts = true) (p6 : p ≤ 6) (v0 : 0 ≤ v) (v1 : v < p) : f_near [.dat (.tuple [.int p, .tuple ts]), .dat (.int v)] = .ok (.dat (nbT ts v)) [.dat (.tuple [.int p, .tuple ts]), .dat (.int v)] := by
  rw [fn_near hf hw h p6 v0 v1, near_tied p6 h hs]
  rfl
def rngI (n : Nat) : List Int := (List.range n).map fun i => (0 : Int) + (i : Nat)
theorem rngL_eq (n : Nat) : rngL 0 n = (rngI n).map PyData.int := by
  unfold rngL rngI
  rw [List.map_map]
  rfl
theorem rngI_mem {n : Nat} {x : Int} : x ∈ rngI n ↔ 0 ≤ x ∧ x < n := by
  unfold rngI
  rw [List.mem_map]
  constructor
  · rintro ⟨i, hi, rfl⟩
    rw [List.mem_range] at hi
    omega
  · rintro ⟨h0, h1⟩
    exact ⟨x.toNat, by rw [List.mem_range]; omega, by omega⟩
theorem rngI_len (n : Nat) : (rngI n).length = n := by unfold rngI; rw [List.length_map, List.length_range]
theorem rngI_at {n i : Nat} (h : i < n) : (rngI n)[i]? = some (i : Int) := by
  unfold rngI
  rw [List.getElem?_map, List.getElem?_range h]
  show some ((0 : Int) + i) = _
  rw [Int.zero_add]
theorem rngI_rise (n : Nat) : (rngI n).Pairwise (· < ·) := by
  unfold rngI
  rw [List.pairwise_map]
  exact (List.pairwise_lt_range (n := n)).imp fun h => by omega
theorem rise_nodup {l : List Int} (h : l.Pairwise (· < ·)) : l.Nodup := h.imp fun h => by omega
def nearsD (p : Int) (ts : List PyData) : List PyData := (rngI p.toNat).map (nbT ts)
theorem fn_all_near {p : Int} {ts : List PyData} (hf : Few (.tuple [.int p, .tuple ts])) (hw : webT (.tuple [.int p, .tuple ts]) = true) (h : Prs p ts) (hs : steps ltP ts = true) (p1 : 1 ≤ p) (p6 : p ≤ 6) : f_all_near [.dat (.tuple [.int p, .tuple ts])] = .ok (.new (nearsD p ts)) [.dat (.tuple [.int p, .tuple ts])] := by
  have e : nearsD p ts = ((rngL 0 p.toNat).filter fun _ => true).map (nbD ts) := by
    rw [filter_yes, rngL_eq, List.map_map]
    rfl
  rw [e]
  refine ret_ok (ρ := [.dat (.tuple [.int p, .tuple ts]), .un]) (retX (compOk (ρ1 := [.dat (.tuple [.int p, .tuple ts]), .un]) (rng1Ok (n := p) (consOk rfl nilOk) (by omega) (by omega)) (fun d hd => ?_) (by rw [rng_len]; omega))) rfl
  obtain ⟨v, rfl, v0, v1⟩ := rng_mem hd
  exact ⟨[.dat (.tuple [.int p, .tuple ts]), .dat (.int v)], rfl, rfl, fun _ => fD (call2 rfl rfl (fn_nearX hf hw h hs p6 v0 (by omega))), rfl⟩
theorem nears_at {p v : Int} {ts : List PyData} (v0 : 0 ≤ v) (v1 : v < p) : ixD (.list (nearsD p ts)) (.int v) = some (.dat (nbT ts v)) := by
  refine ixL (j := v.toNat) (by omega) ?_
  unfold nearsD
  rw [List.getElem?_map, rngI_at (by omega), show ((v.toNat : Nat) : Int) = v by omega]
  rfl
/-! ### how many are tied -/
def inI (ns : List Int) : PyData → Bool
  | .int i => decide (i ∈ ns)
  | _ => false
def cnt (ts : List PyData) (v : Int) (os : List Int) : Nat := (os.filter fun x => decide (x ∈ nb ts v)).length
theorem filter_ints (ns os : List Int) : (os.map PyData.int).filter (inI ns) = (os.filter fun x => decide (x ∈ ns)).map PyData.int := by
  rw [List.filter_map]
  rfl
/-! ### sizes -/
def sz (zs : List Int) (v : Int) : Int := zs.getD v.toNat 0
theorem sz_at {zs : List Int} {v : Int} (v0 : 0 ≤ v) (v1 : v < zs.length) : ixD (.tuple (zs.map PyData.int)) (.int v) = some (.dat (.int (sz zs v))) := by
  refine ixT (j := v.toNat) (by omega) ?_
  rw [List.getElem?_map]
  unfold sz
  rw [List.getD_eq_getElem?_getD]
  have : v.toNat < zs.length := by omega
  rw [List.getElem?_eq_getElem this]
  rfl
def freeL (ts : List PyData) (zs ls : List Int) : List Int := ls.filter fun v => decide ((cnt ts v ls : Int) < sz zs v)
def freeB (ts : List PyData) (zs ls : List Int) : PyData → Bool
  | .int v => decide ((cnt ts v ls : Int) < sz zs v)
  | _ => false
/-! ### letting go -/
def rm (v : Int) (l : List Int) : List Int := l.eraseIdx (l.idxOf v)
def goL (ts : List PyData) (zs : List Int) : Nat → List Int → List Int → List Int × List Int
  | 0, g, l => (g, l)
  | n + 1, g, l => match freeL ts zs l with
    | [] => (g, l)
    | v :: _ => goL ts zs n (g ++ [v]) (rm v l)
theorem rm_mem {v x : Int} {l : List Int} (h : x ∈ rm v l) : x ∈ l := List.mem_of_mem_eraseIdx h
theorem idx_lt {v : Int} {l : List Int} (h : v ∈ l) : l.idxOf v < l.length := List.idxOf_lt_length_of_mem h
theorem rm_len {v : Int} {l : List Int} (h : v ∈ l) : (rm v l).length + 1 = l.length := by
  unfold rm
  rw [List.length_eraseIdx_of_lt (idx_lt h)]
  have := idx_lt h
  omega
theorem lfA_ints : ∀ ns : List Int, lfA (ns.map PyData.int) = true
  | [] => rfl
  | n :: r => by rw [List.map_cons, lfA, lfA_ints r]; rfl
theorem lrngOk {m : M PyData} {n : Int} {ρ ρ1 : Env} (h : m ρ = .ok (.int n) ρ1) (h0 : 0 ≤ n) (h1 : n ≤ 1000) : mLrng m ρ = .ok (.new (rngL 0 n.toNat)) ρ1 := by
  unfold mLrng mBind
  rw [h]
  show mOpt (if (decide (0 ≤ n) && decide (n ≤ 100000)) = true then some (Rv.new (rngL 0 n.toNat)) else none) ρ1 = _
  rw [decide_eq_true h0, decide_eq_true (show n ≤ 100000 by omega)]
  rfl
theorem peekOk {m : M Rv} {r : Rv} {ρ ρ1 : Env} (h : m (frzE ρ) = .ok r ρ1) (hr : lfR r = true) : mPeek m ρ = .ok r ρ := by
  unfold mPeek
  rw [h]
  dsimp only
  rw [if_pos hr]
theorem ix0L {ρ : Env} {k : Nat} {x : PyData} {r : List PyData} (h : ρ[k]? = some (.dat (.list (x :: r)))) : mIxN k (mPure (.int 0)) ρ = .ok (.dat x) ρ := by
  unfold mIxN
  rw [h]
  dsimp only
  refine opOk (x := .list (x :: r)) (y := .int 0) (ρ1 := ρ) ?_ rfl (ixL (j := 0) rfl rfl)
  unfold mVar
  rw [h]
theorem remOk {k : Nat} {m : M PyData} {z : List PyData} {ns : List Int} {i : Int} {ρ ρ1 ρ2 : Env} (h0 : heldAt ρ k = some z) (h : m ρ = .ok (.int i) ρ1) (h1 : heldAt ρ1 k = some (ns.map PyData.int)) (hm : i ∈ ns) (e : putAt ρ1 k ((rm i ns).map PyData.int) = ρ2) : mRem k m ρ = .nx ρ2 := by
  unfold mRem
  rw [h0, if_pos (show (some z).isSome = true from rfl)]
  unfold mThen
  rw [h]
  dsimp only
  rw [h1]
  show (match PyData.int i, intsD (ns.map PyData.int) with
    | .int i, some ns => if ns.idxOf i < ns.length then Fl.nx (putAt ρ1 k ((ns.eraseIdx (ns.idxOf i)).map PyData.int)) else .bad
    | _, _ => .bad) = _
  rw [intsD_map]
  dsimp only
  rw [if_pos (idx_lt hm), ← e]
  rfl
theorem le_ints (a b : Int) : fLe (.int a) (.int b) = some (.dat (.bool (decide (a ≤ b)))) := rfl
/-! ### mixed up -/
theorem popOk {k : Nat} {mi : M PyData} {z ds : List PyData} {i : Int} {d : PyData} {ρ ρ1 ρ2 : Env} (h0 : heldAt ρ k = some z) (h : mi ρ = .ok (.int i) ρ1) (h1 : heldAt ρ1 k = some ds) (i0 : 0 ≤ i) (i1 : i < ds.length) (il : ds.length ≤ 1000) (hd : ds[i.toNat]? = some d) (e : putAt ρ1 k (ds.eraseIdx i.toNat) = ρ2) : mPop k mi ρ = .ok (.dat d) ρ2 := by
  unfold mPop
  rw [h0, if_pos (show (some z).isSome = true from rfl), h]
  show (match PyData.int i, heldAt ρ1 k with
    | .int i, some ds => if inR i = true then match seqIndex? i ds.length with
      | some j => match ds[j]? with
        | some d => R.ok (Rv.dat d) (putAt ρ1 k (ds.eraseIdx j))
        | none => .bad
      | none => .bad else .bad
    | _, _ => .bad) = _
  rw [h1]
  dsimp only
  have a : inR i = true := by
    unfold inR
    rw [decide_eq_true (by omega), decide_eq_true (by omega)]
    rfl
  have b : seqIndex? i ds.length = some i.toNat := by
    show (if (decide (0 ≤ if i < 0 then i + (ds.length : Int) else i) && decide ((if i < 0 then i + (ds.length : Int) else i) < (ds.length : Int))) = true then some (if i < 0 then i + (ds.length : Int) else i).toNat else none) = _
    rw [if_neg (show ¬ i < 0 by omega), decide_eq_true i0, decide_eq_true i1]
    rfl
  rw [if_pos a, b]
  dsimp only
  rw [hd, ← e]
theorem map_erase : ∀ (l : List Int) (n : Nat), (l.map PyData.int).eraseIdx n = (l.eraseIdx n).map PyData.int
  | [], n => by rw [List.map_nil, List.eraseIdx_nil, List.eraseIdx_nil]; rfl
  | a :: l, 0 => rfl
  | a :: l, n + 1 => by rw [List.map_cons, List.eraseIdx_cons_succ, List.eraseIdx_cons_succ, List.map_cons, map_erase l n]
abbrev mixTest : M Bool := mB (mF (mPeek (mOp fNe (mVar 2) (mF (mLst mNil)))))
abbrev mixBody : Env → Fl := mApp 3 (mF (mPop 2 (mF (mCallB 2 f_law_take 0 (mCons (mF (mLenN 2)) mNil)))))
/-! ### bent orders -/
theorem put2Ok {k : Nat} {mi mj m : M PyData} {x y : PyData} {ds : List PyData} {i j : Int} {a b : Nat} {ρ ρ1 ρ2 ρ3 : Env} (hm : m ρ = .ok (.tuple [x, y]) ρ1) (h1 : heldAt ρ1 k = some ds) (hi : mi ρ1 = .ok (.int i) ρ1) (ha : ixN ds.length i = some a) (e1 : putAt ρ1 k (ds.set a x) = ρ2) (h2 : heldAt ρ2 k = some (ds.set a x)) (hj : mj ρ2 = .ok (.int j) ρ2) (hb : ixN ds.length j = some b) (e2 : putAt ρ2 k ((ds.set a x).set b y) = ρ3) : mPut2 k mi mj m ρ = .nx ρ3 := by
  have p1 : putI k mi x ρ1 = some ρ2 := by
    unfold putI
    rw [h1, if_pos (show (some ds).isSome = true from rfl), hi]
    dsimp only
    rw [h1]
    dsimp only
    rw [ha, ← e1]
    rfl
  have p2 : putI k mj y ρ2 = some ρ3 := by
    unfold putI
    rw [h2, if_pos (show (some (ds.set a x)).isSome = true from rfl), hj]
    dsimp only
    rw [h2]
    dsimp only
    rw [List.length_set, hb, ← e2]
    rfl
  unfold mPut2 mThen
  rw [hm]
  show oFl ((putI k mi x ρ1).bind (putI k mj y)) = _
  rw [p1]
  show oFl (putI k mj y ρ2) = _
  rw [p2]
  rfl
theorem ixN_nat {n : Nat} {i : Int} (h0 : 0 ≤ i) (h1 : i < n) : ixN n i = some i.toNat := by
  unfold ixN
  rw [if_pos h0, if_pos (by omega)]
/-! ### a dict of ints by ints -/
abbrev Dc := List (Int × Int)
def keysI (d : Dc) : List Int := d.map (·.1)
def lkI (d : Dc) (k : Int) : Option Int := (d.find? fun q => decide (q.1 = k)).map (·.2)
def enc (d : Dc) : Es := d.map fun q => (PyData.int q.1, PyData.int q.2)
theorem isK_int (i k : Int) : isK (.int i) (.inl k) = decide (i = k) := by
  unfold isK keyOf
  by_cases h : i = k
  · rw [h, decide_eq_true rfl, decide_eq_true rfl]
  · rw [decide_eq_false h, decide_eq_false fun z => h (by injection z with z; injection z)]
theorem lkE_enc (k : Int) : ∀ d : Dc, lkE (enc d) (.inl k) = (lkI d k).map PyData.int
  | [] => rfl
  | (a, b) :: r => by
    have ih := lkE_enc k r
    unfold lkE lkI enc at ih ⊢
    rw [List.map_cons, List.find?_cons, List.find?_cons]
    dsimp only
    rw [isK_int]
    by_cases h : a = k
    · rw [decide_eq_true h]; rfl
    · rw [decide_eq_false h]; exact ih
theorem lkI_iff (k : Int) : ∀ d : Dc, (lkI d k).isSome = decide (k ∈ keysI d)
  | [] => by simp [lkI, keysI]
  | (a, b) :: r => by
    have ih := lkI_iff k r
    unfold lkI keysI at ih ⊢
    rw [List.find?_cons, List.map_cons]
    dsimp only
    by_cases h : a = k
    · rw [decide_eq_true h, decide_eq_true (by rw [h]; exact List.mem_cons_self ..)]; rfl
    · rw [decide_eq_false h]
      dsimp only
      rw [ih]
      by_cases q : k ∈ r.map (·.1)
      · rw [decide_eq_true q, decide_eq_true (List.mem_cons_of_mem _ q)]
      · rw [decide_eq_false q, decide_eq_false fun z => (List.mem_cons.mp z).elim (fun z => h z.symm) q]
theorem lkI_some {k : Int} {d : Dc} (h : k ∈ keysI d) : ∃ c, lkI d k = some c := Option.isSome_iff_exists.mp (by rw [lkI_iff, decide_eq_true h])
theorem enc_len (d : Dc) : (enc d).length = d.length := by unfold enc; rw [List.length_map]
theorem putE_enc {k c : Int} {d : Dc} (h : k ∉ keysI d) : putE (enc d) (.inl k) (.int c) = enc (d ++ [(k, c)]) := by
  have e : (enc d).any (fun p => isK p.1 (.inl k)) = false := by
    rw [List.any_eq_false]
    intro q hq
    unfold enc at hq
    obtain ⟨x, hx, rfl⟩ := List.mem_map.mp hq
    rw [isK_int]
    intro z
    exact h (List.mem_map.mpr ⟨x, hx, of_decide_eq_true z⟩)
  unfold putE
  rw [e, if_neg (fun z => nomatch z)]
  unfold enc
  rw [List.map_append]
  rfl
/-! ### going along -/
def visit (v : Int) (s : Dc × List Int) (u : Int) : Dc × List Int := if u ∈ keysI s.1 then s else (s.1 ++ [(u, 1 - (lkI s.1 v).getD 0)], s.2 ++ [u])
def visits (v : Int) (us : List Int) (s : Dc × List Int) : Dc × List Int := us.foldl (visit v) s
theorem keys_app (d : Dc) (k c x : Int) : x ∈ keysI (d ++ [(k, c)]) ↔ x ∈ keysI d ∨ x = k := by
  unfold keysI
  rw [List.map_append, List.mem_append]
  show _ ∨ x ∈ [k] ↔ _
  rw [List.mem_singleton]
structure Vs (v : Int) (us : List Int) (s t : Dc × List Int) : Prop where
  ks : ∀ k, k ∈ keysI t.1 ↔ k ∈ keysI s.1 ∨ k ∈ us
  nd : (keysI s.1).Nodup → (keysI t.1).Nodup
  ln : ∃ m, t.1.length = s.1.length + m ∧ t.2.length = s.2.length + m
  ws : ∀ k, k ∈ t.2 ↔ k ∈ s.2 ∨ (k ∈ us ∧ k ∉ keysI s.1)
theorem visits_ok (v : Int) : ∀ (us : List Int) (s : Dc × List Int), Vs v us s (visits v us s)
  | [], s => ⟨fun k => by simp [visits], fun h => h, ⟨0, rfl, rfl⟩, fun k => by simp [visits]⟩
  | u :: us, s => by
    have ih := visits_ok v us (visit v s u)
    show Vs v (u :: us) s (visits v us (visit v s u))
    by_cases h : u ∈ keysI s.1
    · have e : visit v s u = s := by unfold visit; rw [if_pos h]
      rw [e] at ih ⊢
      refine ⟨fun k => ?_, ih.nd, ih.ln, fun k => ?_⟩
      · rw [ih.ks, List.mem_cons]
        constructor
        · rintro (q | q)
          · exact .inl q
          · exact .inr (.inr q)
        · rintro (q | q | q)
          · exact .inl q
          · exact .inl (q ▸ h)
          · exact .inr q
      · rw [ih.ws, List.mem_cons]
        constructor
        · rintro (q | ⟨q, q2⟩)
          · exact .inl q
          · exact .inr ⟨.inr q, q2⟩
        · rintro (q | ⟨q | q, q2⟩)
          · exact .inl q
          · exact absurd (q ▸ h) q2
          · exact .inr ⟨q, q2⟩
    · have e : visit v s u = (s.1 ++ [(u, 1 - (lkI s.1 v).getD 0)], s.2 ++ [u]) := by unfold visit; rw [if_neg h]
      rw [e] at ih ⊢
      obtain ⟨i1, i2, ⟨m, i3, i4⟩, i5⟩ := ih
      dsimp only at i1 i2 i3 i4 i5
      refine ⟨fun k => ?_, fun nd => i2 ?_, ⟨m + 1, ?_, ?_⟩, fun k => ?_⟩
      · rw [i1, keys_app, List.mem_cons, or_assoc]
      · unfold keysI at nd h ⊢
        rw [List.map_append]
        refine List.nodup_append.mpr ⟨nd, by simp, fun a ha b hb => ?_⟩
        simp only [List.map_cons, List.map_nil, List.mem_singleton] at hb
        rw [hb]
        exact fun z => h (z ▸ ha)
      · rw [i3, List.length_append, List.length_singleton]; omega
      · rw [i4, List.length_append, List.length_singleton]; omega
      · rw [i5, List.mem_append, List.mem_singleton, List.mem_cons]
        constructor
        · rintro ((q | q) | ⟨q, q2⟩)
          · exact .inl q
          · exact .inr ⟨.inl q, q ▸ h⟩
          · exact .inr ⟨.inr q, fun z => q2 ((keys_app ..).mpr (.inl z))⟩
        · rintro (q | ⟨q | q, q2⟩)
          · exact .inl (.inl q)
          · exact .inl (.inr q)
          · by_cases z : k = u
            · exact .inl (.inr z)
            · exact .inr ⟨q, fun y => ((keys_app ..).mp y).elim q2 z⟩
theorem pigeon : ∀ (n : Nat) (l : List Int), l.Nodup → (∀ x ∈ l, 0 ≤ x ∧ x < n) → l.length ≤ n
  | 0, l, _, h => by
    cases l with
    | nil => exact Nat.le_refl _
    | cons a r => have := h a (List.mem_cons_self ..); omega
  | n + 1, l, nd, h => by
    have ih := pigeon n (l.erase (n : Int)) (nd.erase _) fun x hx => by
      obtain ⟨h1, h2⟩ := (List.Nodup.mem_erase_iff nd).mp hx
      have := h x h2
      omega
    by_cases z : (n : Int) ∈ l
    · rw [List.length_erase_of_mem z] at ih; omega
    · rw [List.erase_of_not_mem z] at ih; omega
def dfs (nb : Int → List Int) : Nat → Dc → List Int → Dc
  | 0, d, _ => d
  | n + 1, d, ws => match ws.getLast? with
    | none => d
    | some v => dfs nb n (visits v (nb v) (d, ws.dropLast)).1 (visits v (nb v) (d, ws.dropLast)).2
structure Iv (nb : Int → List Int) (P : Nat) (d : Dc) (ws : List Int) : Prop where
  nd : (keysI d).Nodup
  rg : ∀ k ∈ keysI d, 0 ≤ k ∧ k < P
  sub : ∀ k ∈ ws, k ∈ keysI d
  cl : ∀ k ∈ keysI d, k ∈ ws ∨ ∀ u ∈ nb k, u ∈ keysI d
theorem Iv.le {nb : Int → List Int} {P : Nat} {d : Dc} {ws : List Int} (h : Iv nb P d ws) : d.length ≤ P := by
  have := pigeon P (keysI d) h.nd h.rg
  unfold keysI at this
  rwa [List.length_map] at this
theorem last_split {ws : List Int} {v : Int} (h : ws.getLast? = some v) : ws = ws.dropLast ++ [v] := by
  obtain ⟨ys, rfl⟩ := List.getLast?_eq_some_iff.mp h
  rw [List.dropLast_concat]
theorem Iv.step {nb : Int → List Int} {P : Nat} {d : Dc} {ws : List Int} {v : Int} (h : Iv nb P d ws) (hn : ∀ k u, u ∈ nb k → 0 ≤ u ∧ u < P) (hv : ws.getLast? = some v) :
    Iv nb P (visits v (nb v) (d, ws.dropLast)).1 (visits v (nb v) (d, ws.dropLast)).2 := by
  have V := visits_ok v (nb v) (d, ws.dropLast)
  generalize visits v (nb v) (d, ws.dropLast) = t at V ⊢
  have e := last_split hv
  have V1 : ∀ k, k ∈ keysI t.1 ↔ k ∈ keysI d ∨ k ∈ nb v := V.ks
  have V2 : ∀ k, k ∈ t.2 ↔ k ∈ ws.dropLast ∨ (k ∈ nb v ∧ k ∉ keysI d) := V.ws
  refine ⟨V.nd h.nd, fun k hk => ?_, fun k hk => ?_, fun k hk => ?_⟩
  · rcases (V1 k).mp hk with q | q
    · exact h.rg k q
    · exact hn v k q
  · rcases (V2 k).mp hk with q | q
    · exact (V1 k).mpr (.inl (h.sub k (by rw [e]; exact List.mem_append_left _ q)))
    · exact (V1 k).mpr (.inr q.1)
  · by_cases q : k ∈ keysI d
    · rcases h.cl k q with z | z
      · rw [e] at z
        rcases List.mem_append.mp z with z | z
        · exact .inl ((V2 k).mpr (.inl z))
        · rw [List.mem_singleton.mp z]
          exact .inr fun u hu => (V1 u).mpr (.inr hu)
      · exact .inr fun u hu => (V1 u).mpr (.inl (z u hu))
    · exact .inl ((V2 k).mpr (.inr ⟨((V1 k).mp hk).resolve_left q, q⟩))
theorem dfs_ok {nb : Int → List Int} {P : Nat} (hn : ∀ k u, u ∈ nb k → 0 ≤ u ∧ u < P) : ∀ (n : Nat) (d : Dc) (ws : List Int), Iv nb P d ws → ws.length + P + 1 ≤ n + d.length → Iv nb P (dfs nb n d ws) [] ∧ ∀ k ∈ keysI d, k ∈ keysI (dfs nb n d ws)
  | 0, d, ws, h, hl => by have := h.le; omega
  | n + 1, d, ws, h, hl => by
    unfold dfs
    cases q : ws.getLast? with
    | none =>
      rw [List.getLast?_eq_none_iff] at q
      subst q
      exact ⟨h, fun k hk => hk⟩
    | some v =>
      dsimp only
      have V := visits_ok v (nb v) (d, ws.dropLast)
      obtain ⟨m, l1, l2⟩ := V.ln
      have e := congrArg List.length (last_split q)
      rw [List.length_append, List.length_singleton] at e
      dsimp only at l1 l2
      obtain ⟨i1, i2⟩ := dfs_ok hn n _ _ (h.step hn q) (by omega)
      exact ⟨i1, fun k hk => i2 k ((V.ks k).mpr (.inl hk))⟩
theorem visits_none {v : Int} : ∀ {us : List Int} {s : Dc × List Int}, (∀ u ∈ us, u ∈ keysI s.1) → visits v us s = s
  | [], s, _ => rfl
  | u :: us, s, h => by
    show visits v us (visit v s u) = s
    have e : visit v s u = s := by unfold visit; rw [if_pos (h u (List.mem_cons_self ..))]
    rw [e]
    exact visits_none fun x hx => h x (List.mem_cons_of_mem _ hx)
theorem dfs_none {nb : Int → List Int} {P n : Nat} {d : Dc} {k : Int} (h : Iv nb P d []) (hk : k ∈ keysI d) : dfs nb (n + 2) d [k] = d := by
  have z : ∀ u ∈ nb k, u ∈ keysI d := (h.cl k hk).resolve_left (fun y => nomatch y)
  show dfs nb (n + 1) (visits k (nb k) (d, [])).1 (visits k (nb k) (d, [])).2 = d
  rw [visits_none (s := (d, [])) z]
  rfl
/-! ### flows beside a dict -/
section
variable {i : Nat} {ρ ρ1 ρ2 : Env} {es es1 : Es}
theorem l1Ok {α : Type} {m : M α} {r : α} (h : m ρ = .ok r ρ1) (hu : isUn ρ1 i = true) : l1 i m ρ es = .ok r ρ1 := by
  unfold l1
  rw [h]
  dsimp only
  rw [if_pos hu]
theorem pkBOk {m : M Bool} {b : Bool} (h : m ((frzE ρ).set i (.dat (.dict es))) = .ok b ρ1) : pkB i m ρ es = .ok b ρ := by
  unfold pkB
  rw [h]
theorem pk1Ok {m : M Rv} {r : Rv} (h : m ((frzE ρ).set i (.dat (.dict es))) = .ok r ρ1) (hl : lfR r = true) : pk1 i m ρ es = .ok r ρ := by
  unfold pk1
  rw [h]
  dsimp only
  rw [if_pos hl]
theorem s1SeqOk {x y : S1} (h : x ρ es = .nx ρ1 es1) : s1Seq x y ρ es = y ρ1 es1 := by
  unfold s1Seq
  rw [h]
  rfl
theorem s1SeqRt {x y : S1} {r : Rv} (h : x ρ es = .rt r ρ1) : s1Seq x y ρ es = .rt r ρ1 := by
  unfold s1Seq
  rw [h]
  rfl
theorem s1IfT {c : X1 Bool} {x y : S1} (h : c ρ es = .ok true ρ1) : s1If c x y ρ es = x ρ1 es := by
  unfold s1If t1
  rw [h]
  rfl
theorem s1IfF {c : X1 Bool} {x y : S1} (h : c ρ es = .ok false ρ1) : s1If c x y ρ es = y ρ1 es := by
  unfold s1If t1
  rw [h]
  rfl
theorem s1RetOk {x : X1 Rv} {r : Rv} (h : x ρ es = .ok r ρ1) : s1Ret x ρ es = .rt r ρ1 := by
  unfold s1Ret t1
  rw [h]
theorem s1ForOk {m : M (List PyData)} {b : PyData → Env → Option Env} {f : S1} {ds : List PyData} (h : m ρ = .ok ds ρ1) (hu : isUn ρ1 i = true) : s1For i m b f ρ es = loop1 i b f ds ρ1 es := by
  unfold s1For t1
  rw [l1Ok h hu]
theorem s1SetOk {j : Nat} {x : X1 Rv} {r : Rv} (h : x ρ es = .ok r ρ1) (hij : i ≠ j) (hs : setS j r ρ1 = some ρ2) (hu : isUn ρ2 i = true) : s1Set i j x ρ es = .nx ρ2 es := by
  unfold s1Set t1
  rw [h]
  dsimp only
  rw [if_neg hij, hs]
  dsimp only
  rw [if_pos hu]
theorem s1PutOk {x : X1 Rv} {mk : M PyData} {r : Rv} {k : PyData} {key : Key} (h : x ρ es = .ok r ρ1) (hk : mk ρ1 = .ok k ρ2) (hu : isUn ρ2 i = true) (hq : keyOf k = some key) (hl : es.length ≤ 100000) : s1Put i x mk ρ es = .nx ρ2 (putE es key (frz r)) := by
  unfold s1Put t1
  rw [h]
  dsimp only
  rw [l1Ok hk hu]
  dsimp only
  rw [hq]
  dsimp only
  rw [if_pos (show small es.length = true from decide_eq_true hl)]
theorem s1AppOk {k : Nat} {m : M PyData} {z ds : List PyData} {d : PyData} (h0 : heldAt ρ k = some z) (h : m ρ = .ok d ρ1) (h1 : heldAt ρ1 k = some ds) (hl : ds.length ≤ 100000) (e : putAt ρ1 k (ds ++ [d]) = ρ2) (hu : isUn ρ2 i = true) : s1App i k m ρ es = .nx ρ2 es := by
  unfold s1App
  rw [h0, if_pos (by rfl), h]
  dsimp only
  rw [h1]
  dsimp only
  rw [e, hu, show small ds.length = true from decide_eq_true hl]
  rfl
theorem loop1Ok {b : PyData → Env → Option Env} {f : S1} {d : PyData} {ds : List PyData} (h1 : b d ρ = some ρ1) (hu : isUn ρ1 i = true) (h2 : f ρ1 es = .nx ρ2 es1) : loop1 i b f (d :: ds) ρ es = loop1 i b f ds ρ2 es1 := by
  show (match b d ρ with | none => Fl1.bad | some ρ1 => _) = _
  rw [h1]
  dsimp only
  rw [if_pos hu, h2]
end
def dnin (d : Dc) (u : Int) : Bool := !decide (u ∈ keysI d)
theorem dnin_ok (d : Dc) (u : Int) : dninD (.dict (enc d)) (.int u) = some (.bool (dnin d u)) := by
  show some (PyData.bool (!(lkE (enc d) (.inl u)).isSome)) = _
  rw [lkE_enc, Option.isSome_map, lkI_iff]
  rfl
theorem dget_ok {d : Dc} {v c : Int} (h : lkI d v = some c) : dgetD (.dict (enc d)) (.int v) = some (.int c) := by
  show lkE (enc d) (.inl v) = _
  rw [lkE_enc, h]
  rfl
theorem mdgetOk {md mk : M PyData} {d : Dc} {v c : Int} {ρ ρ1 ρ2 : Env} (h1 : md ρ = .ok (.dict (enc d)) ρ1) (h2 : mk ρ1 = .ok (.int v) ρ2) (h : lkI d v = some c) : mDGet md mk ρ = .ok (.int c) ρ2 := by
  unfold mDGet mBind
  rw [h1]
  show R.bind (mk ρ1) _ = _
  rw [h2]
  show mOpt (dgetD (.dict (enc d)) (.int v)) ρ2 = _
  rw [dget_ok h]
  rfl
theorem mdninOk {md mk : M PyData} {d : Dc} {u : Int} {ρ ρ1 ρ2 : Env} (h2 : mk ρ = .ok (.int u) ρ1) (h1 : md ρ1 = .ok (.dict (enc d)) ρ2) : mDNin mk md ρ = .ok (.bool (dnin d u)) ρ2 := by
  unfold mDNin mBind
  rw [h2]
  show R.bind (md ρ1) _ = _
  rw [h1]
  show mOpt (dninD (.dict (enc d)) (.int u)) ρ2 = _
  rw [dnin_ok]
  rfl
/-! ### one place more -/
abbrev step1 : S1 := (s1If (pkB 1 (mB (mDNin (mVar 5) (mVar 1)))) (s1Seq (s1Put 1 (pk1 1 (mOp fSub (mPure (.int 1)) (mDGet (mVar 1) (mVar 4)))) (mVar 5))
  (s1App 1 3 (mVar 5))) Fl1.nx)
def wI (ws : List Int) : Sl := .own (ws.map PyData.int)
theorem visit_go {x0 x2 : Sl} {r : Env} {d : Dc} {ws : List Int} {v u : Int} (hv : v ∈ keysI d) (hd : d.length ≤ 1000) (hw : ws.length ≤ 1000) :
    step1 (x0 :: .un :: x2 :: wI ws :: .dat (.int v) :: .dat (.int u) :: r) (enc d) = .nx (x0 :: .un :: x2 :: wI (visit v (d, ws) u).2 :: .dat (.int v) :: .dat (.int u) :: r) (enc (visit v (d, ws) u).1) := by
  have t : pkB 1 (mB (mDNin (mVar 5) (mVar 1))) (x0 :: .un :: x2 :: wI ws :: .dat (.int v) :: .dat (.int u) :: r) (enc d) = .ok (dnin d u) (x0 :: .un :: x2 :: wI ws :: .dat (.int v) :: .dat (.int u) :: r) :=
    pkBOk (bOk (mdninOk rfl rfl))
  by_cases q : u ∈ keysI d
  · have e : visit v (d, ws) u = (d, ws) := by unfold visit; rw [if_pos q]
    rw [e]
    have f : dnin d u = false := by unfold dnin; rw [decide_eq_true q]; rfl
    rw [f] at t
    exact s1IfF t
  · have e : visit v (d, ws) u = (d ++ [(u, 1 - (lkI d v).getD 0)], ws ++ [u]) := by unfold visit; rw [if_neg q]
    rw [e]
    have f : dnin d u = true := by unfold dnin; rw [decide_eq_false q]; rfl
    rw [f] at t
    obtain ⟨c, hc⟩ := lkI_some hv
    rw [hc]
    refine (s1IfT t).trans ((s1SeqOk (ρ1 := x0 :: .un :: x2 :: wI ws :: .dat (.int v) :: .dat (.int u) :: r) (es1 := enc (d ++ [(u, 1 - c)])) ?_).trans ?_)
    · rw [← putE_enc q]
      exact s1PutOk (r := .dat (.int (1 - c))) (pk1Ok (opOk rfl (mdgetOk rfl rfl hc) rfl) rfl) rfl rfl rfl (by rw [enc_len]; omega)
    · refine s1AppOk (ds := ws.map PyData.int) (z := ws.map PyData.int) rfl rfl rfl (by rw [List.length_map]; omega) ?_ rfl
      show _ :: _ :: _ :: Sl.own (ws.map PyData.int ++ [.int u]) :: _ = _
      unfold wI
      rw [List.map_append]
      rfl
theorem visits_go {x0 x2 : Sl} {r : Env} {v : Int} : ∀ (us : List Int) (d : Dc) (ws : List Int) (s5 : Sl), v ∈ keysI d → d.length + us.length ≤ 1000 → ws.length + us.length ≤ 1000 → Nl s5 →
    ∃ t5, loop1 1 (bName 5) step1 (us.map PyData.int) (x0 :: .un :: x2 :: wI ws :: .dat (.int v) :: s5 :: r) (enc d) = .nx (x0 :: .un :: x2 :: wI (visits v us (d, ws)).2 :: .dat (.int v) :: t5 :: r) (enc (visits v us (d, ws)).1) ∧ Nl t5
  | [], d, ws, s5, _, _, _, h5 => ⟨s5, rfl, h5⟩
  | u :: us, d, ws, s5, hv, hd, hw, h5 => by
    rw [List.length_cons] at hd hw
    have g := visit_go (x0 := x0) (x2 := x2) (r := r) (d := d) (ws := ws) (v := v) (u := u) hv (by omega) (by omega)
    have V := visits_ok v [u] (d, ws)
    have e : visits v [u] (d, ws) = visit v (d, ws) u := rfl
    rw [e] at V
    have ln : (visit v (d, ws) u).1.length ≤ d.length + 1 ∧ (visit v (d, ws) u).2.length ≤ ws.length + 1 := by
      unfold visit
      split
      · exact ⟨Nat.le_succ _, Nat.le_succ _⟩
      · dsimp only; rw [List.length_append, List.length_append]; exact ⟨Nat.le_refl _, Nat.le_refl _⟩
    obtain ⟨t5, g2, k5⟩ := visits_go (x0 := x0) (x2 := x2) (r := r) (v := v) us (visit v (d, ws) u).1 (visit v (d, ws) u).2 (.dat (.int u)) ((V.ks v).mpr (.inl hv)) (by omega) (by omega) nl_dat
    exact ⟨t5, (loop1Ok (ρ1 := x0 :: .un :: x2 :: wI ws :: .dat (.int v) :: .dat (.int u) :: r) (put_name (s := s5) rfl h5) rfl g).trans g2, k5⟩
/-! ### till none waits -/
theorem wl_go {x0 x2 : Sl} {r : Env} {cond : X1 Bool} {iter : M (List PyData)} {nb : Int → List Int} {P : Nat} (hP : P ≤ 6) (hn : ∀ k u, u ∈ nb k → 0 ≤ u ∧ u < P) (hl : ∀ k, (nb k).length ≤ 100)
    (hc : ∀ ws s4 s5 es, ws.length ≤ 1000 → cond (x0 :: .un :: x2 :: wI ws :: s4 :: s5 :: r) es = .ok (!ws.isEmpty) (x0 :: .un :: x2 :: wI ws :: s4 :: s5 :: r))
    (hi : ∀ (v : Int) ws s5, 0 ≤ v → v < P → iter (x0 :: .un :: x2 :: wI ws :: .dat (.int v) :: s5 :: r) = .ok ((nb v).map PyData.int) (x0 :: .un :: x2 :: wI ws :: .dat (.int v) :: s5 :: r)) :
    ∀ (n : Nat) (d : Dc) (ws : List Int) (s4 s5 : Sl), Iv nb P d ws → ws.length + P + 1 ≤ n + d.length → n ≤ 100 → Nl s4 → Nl s5 →
      ∃ t4 t5, wloop1 cond (s1Seq (s1Set 1 4 (l1 1 (mPopL 3))) (s1For 1 iter (bName 5) step1)) n (x0 :: .un :: x2 :: wI ws :: s4 :: s5 :: r) (enc d) = .nx (x0 :: .un :: x2 :: wI [] :: t4 :: t5 :: r) (enc (dfs nb n d ws)) ∧ Nl t4 ∧ Nl t5
  | 0, d, ws, s4, s5, h, hm, _, _, _ => by have := h.le; omega
  | n + 1, d, ws, s4, s5, h, hm, h100, h4, h5 => by
    have hle := h.le
    have c := hc ws s4 s5 (enc d) (by omega)
    cases q : ws.getLast? with
    | none =>
      have e := List.getLast?_eq_none_iff.mp q
      subst e
      refine ⟨s4, s5, ?_, h4, h5⟩
      show t1 cond _ _ _ = _
      unfold t1
      rw [c]
      rfl
    | some v =>
      have e := last_split q
      have el := congrArg List.length e
      rw [List.length_append, List.length_singleton] at el
      have ne : ws.isEmpty = false := by
        rw [e]
        cases ws.dropLast <;> rfl
      have hv : v ∈ keysI d := h.sub v (by rw [e]; exact List.mem_append_right _ (List.mem_singleton.mpr rfl))
      have vr := h.rg v hv
      have s := h.step hn q
      have V := visits_ok v (nb v) (d, ws.dropLast)
      obtain ⟨m, l1', l2'⟩ := V.ln
      dsimp only at l1' l2'
      have hnl := hl v
      obtain ⟨t5, g2, k5⟩ := visits_go (x0 := x0) (x2 := x2) (r := r) (v := v) (nb v) d ws.dropLast s5 hv (by omega) (by omega) h5
      obtain ⟨u4, u5, g3, k4, k6⟩ := wl_go hP hn hl hc hi n _ _ (.dat (.int v)) t5 s (by omega) (by omega) nl_dat k5
      refine ⟨u4, u5, ?_, k4, k6⟩
      have pop : s1Set 1 4 (l1 1 (mPopL 3)) (x0 :: .un :: x2 :: wI ws :: s4 :: s5 :: r) (enc d) = .nx (x0 :: .un :: x2 :: wI ws.dropLast :: .dat (.int v) :: s5 :: r) (enc d) := by
        refine s1SetOk (r := .dat (.int v)) (ρ1 := x0 :: .un :: x2 :: wI ws.dropLast :: s4 :: s5 :: r) (l1Ok ?_ rfl) (by decide) (set_at (s := s4) rfl h4) rfl
        have eg : (ws.map PyData.int)[(ws.map PyData.int).length - 1]? = some (.int v) := by
          rw [List.length_map, List.getElem?_map]
          have : ws[ws.length - 1]? = some v := by rw [← List.getLast?_eq_getElem?]; exact q
          rw [this]
          rfl
        show (match heldAt (x0 :: .un :: x2 :: wI ws :: s4 :: s5 :: r) 3 with | some ds => _ | none => R.bad) = _
        show (match (ws.map PyData.int)[(ws.map PyData.int).length - 1]? with | some d => _ | none => R.bad) = _
        rw [eg]
        show R.ok _ (x0 :: .un :: x2 :: Sl.own ((ws.map PyData.int).dropLast) :: s4 :: s5 :: r) = _
        rw [← List.map_dropLast]
        rfl
      have bd : s1Seq (s1Set 1 4 (l1 1 (mPopL 3))) (s1For 1 iter (bName 5) step1) (x0 :: .un :: x2 :: wI ws :: s4 :: s5 :: r) (enc d) = .nx (x0 :: .un :: x2 :: wI (visits v (nb v) (d, ws.dropLast)).2 :: .dat (.int v) :: t5 :: r) (enc (visits v (nb v) (d, ws.dropLast)).1) :=
        (s1SeqOk pop).trans ((s1ForOk (hi v _ s5 vr.1 vr.2) rfl).trans g2)
      show t1 cond _ _ _ = _
      unfold t1
      rw [c, ne]
      show (match s1Seq (s1Set 1 4 (l1 1 (mPopL 3))) (s1For 1 iter (bName 5) step1) (x0 :: .un :: x2 :: wI ws :: s4 :: s5 :: r) (enc d) with | .nx ρ2 es2 => _ | .ct ρ2 es2 => _ | .bk ρ2 es2 => _ | .rt r ρ2 => _ | .ex x ρ2 => _ | .bad => _) = _
      rw [bd]
      dsimp only
      rw [g3]
      have ed : dfs nb (n + 1) d ws = dfs nb n (visits v (nb v) (d, ws.dropLast)).1 (visits v (nb v) (d, ws.dropLast)).2 := by
        show (match ws.getLast? with | none => d | some v => _) = _
        rw [q]
      rw [ed]
def with0 (d : Dc) (k : Int) : Dc := if k ∈ keysI d then d else d ++ [(k, 0)]
def outer (nb : Int → List Int) : Nat → Dc
  | 0 => []
  | k + 1 => dfs nb 100 (with0 (outer nb k) k) [(k : Int)]
theorem with0_iv {nb : Int → List Int} {P k : Nat} {d : Dc} (h : Iv nb P d []) (hk : k < P) : Iv nb P (with0 d k) [(k : Int)] ∧ ∀ x ∈ keysI d, x ∈ keysI (with0 d k) := by
  unfold with0
  by_cases q : (k : Int) ∈ keysI d
  · rw [if_pos q]
    exact ⟨⟨h.nd, h.rg, fun x hx => by rw [List.mem_singleton.mp hx]; exact q, fun x hx => .inr ((h.cl x hx).resolve_left fun y => nomatch y)⟩, fun x hx => hx⟩
  · rw [if_neg q]
    refine ⟨⟨?_, fun x hx => ?_, fun x hx => ?_, fun x hx => ?_⟩, fun x hx => (keys_app ..).mpr (.inl hx)⟩
    · have nd := h.nd
      unfold keysI at nd q ⊢
      rw [List.map_append]
      refine List.nodup_append.mpr ⟨nd, by simp, fun a ha b hb => ?_⟩
      simp only [List.map_cons, List.map_nil, List.mem_singleton] at hb
      rw [hb]
      exact fun z => q (z ▸ ha)
    · rcases (keys_app ..).mp hx with z | z
      · exact h.rg x z
      · omega
    · exact (keys_app ..).mpr (.inr (List.mem_singleton.mp hx))
    · rcases (keys_app ..).mp hx with z | z
      · exact .inr fun u hu => (keys_app ..).mpr (.inl (((h.cl x z).resolve_left fun y => nomatch y) u hu))
      · exact .inl (List.mem_singleton.mpr z)
theorem outer_ok {nb : Int → List Int} {P : Nat} (hP : P ≤ 6) (hn : ∀ k u, u ∈ nb k → 0 ≤ u ∧ u < P) : ∀ k : Nat, k ≤ P → Iv nb P (outer nb k) [] ∧ ∀ j : Nat, j < k → (j : Int) ∈ keysI (outer nb k)
  | 0, _ => ⟨⟨List.Pairwise.nil, fun x hx => (nomatch hx), fun x hx => (nomatch hx), fun x hx => (nomatch hx)⟩, fun j hj => absurd hj (Nat.not_lt_zero _)⟩
  | k + 1, hk => by
    obtain ⟨h1, h2⟩ := outer_ok hP hn k (by omega)
    obtain ⟨w1, w2⟩ := with0_iv (k := k) h1 (by omega)
    obtain ⟨d1, d2⟩ := dfs_ok hn 100 _ _ w1 (by rw [List.length_singleton]; omega)
    refine ⟨d1, fun j hj => d2 _ ?_⟩
    by_cases e : j = k
    · rw [e]; exact w1.sub _ (List.mem_singleton.mpr rfl)
    · exact w2 _ (h2 j (by omega))
theorem outer_same {nb : Int → List Int} {P : Nat} (hP : P ≤ 6) (hn : ∀ k u, u ∈ nb k → 0 ≤ u ∧ u < P) {k : Nat} (hk : k ≤ P) (h : (k : Int) ∈ keysI (outer nb k)) : outer nb (k + 1) = outer nb k := by
  show dfs nb (98 + 2) (with0 (outer nb k) k) [(k : Int)] = _
  have e : with0 (outer nb k) k = outer nb k := by unfold with0; rw [if_pos h]
  rw [e]
  exact dfs_none (outer_ok hP hn k hk).1 h
/-! ### loops with a count -/
theorem lp1_at {i : Nat} {b : PyData → Env → Option Env} {f : S1} {I : Nat → Env → Es → Prop} : ∀ {ds : List PyData} {k : Nat} {ρ : Env} {es : Es}, (∀ j d ρ es, ds[j]? = some d → I (k + j) ρ es → ∃ ρ1 ρ2 es2, b d ρ = some ρ1 ∧ isUn ρ1 i = true ∧ f ρ1 es = .nx ρ2 es2 ∧ I (k + j + 1) ρ2 es2) → I k ρ es → ∃ ρ' es', loop1 i b f ds ρ es = .nx ρ' es' ∧ I (k + ds.length) ρ' es'
  | [], k, ρ, es, _, h => ⟨ρ, es, rfl, h⟩
  | d :: ds, k, ρ, es, hs, h => by
    obtain ⟨ρ1, ρ2, es2, h1, h2, h3, h4⟩ := hs 0 d ρ es rfl h
    obtain ⟨ρ', es', g, hI⟩ := lp1_at (ds := ds) (k := k + 1) (fun j d ρ es hj hI => by
      have := hs (j + 1) d ρ es (by rw [List.getElem?_cons_succ]; exact hj) (by rw [show k + (j + 1) = k + 1 + j by omega]; exact hI)
      rw [show k + (j + 1) = k + 1 + j by omega] at this
      exact this) h4
    exact ⟨ρ', es', (loop1Ok h1 h2 h3).trans g, by rw [List.length_cons, show k + (ds.length + 1) = k + 1 + ds.length by omega]; exact hI⟩
theorem s1SetdOk {i : Nat} {mk mx : M PyData} {k : Int} {x : Int} {d : Dc} {ρ ρ1 ρ2 : Env} (hk : mk ρ = .ok (.int k) ρ1) (hu : isUn ρ1 i = true) (hx : mx ρ1 = .ok (.int x) ρ2) (hu2 : isUn ρ2 i = true) (hl : d.length ≤ 1000) : s1Setd i mk mx ρ (enc d) = .nx ρ2 (enc (if k ∈ keysI d then d else d ++ [(k, x)])) := by
  unfold s1Setd t1
  rw [l1Ok hk hu]
  dsimp only
  rw [l1Ok hx hu2]
  show (if small (enc d).length = true then match lkE (enc d) (.inl k) with | some _ => Fl1.nx ρ2 (enc d) | none => Fl1.nx ρ2 (putE (enc d) (.inl k) (.int x)) else Fl1.bad) = _
  rw [if_pos (show small _ = true from decide_eq_true (by rw [enc_len]; omega)), lkE_enc]
  by_cases q : k ∈ keysI d
  · obtain ⟨c, hc⟩ := lkI_some q
    rw [hc, if_pos q]
    rfl
  · have e : lkI d k = none := by
      have := lkI_iff k d
      rw [decide_eq_false q] at this
      cases z : lkI d k with
      | none => rfl
      | some c => rw [z] at this; cases this
    rw [e, if_neg q, ← putE_enc q]
    rfl
/-! ### the program's sides -/
theorem nb_few (ts : List PyData) (v : Int) : (nb ts v).length ≤ 2 * ts.length := by
  unfold nb
  induction ts with
  | nil => exact Nat.zero_le _
  | cons d r ih =>
    rw [List.flatMap_cons, List.length_append, List.length_cons]
    have := nbr_len v d
    omega
theorem cond_t {x0 x2 s4 s5 : Sl} {r : Env} {ws : List Int} {es : Es} : l1 1 (mTruN 3) (x0 :: .un :: x2 :: wI ws :: s4 :: s5 :: r) es = .ok (!ws.isEmpty) (x0 :: .un :: x2 :: wI ws :: s4 :: s5 :: r) := by
  refine l1Ok ?_ rfl
  show R.ok (!(ws.map PyData.int).isEmpty) _ = _
  rw [List.isEmpty_map]
abbrev sidesTurn : S1 := (s1Seq (s1Setd 1 (mVar 2) (mPure (.int 0)))
  (s1Seq (s1Set 1 3 (l1 1 (mLst (mCons (mVar 2) mNil))))
  (wloop1 (l1 1 (mTruN 3)) (s1Seq (s1Set 1 4 (l1 1 (mPopL 3)))
  (s1For 1 (mSeqI (mF (mIxN 0 (mVar 4)))) (bName 5) step1)) 100)))
/-! ### near places, the law's way -/
def hasT (v : Int) : PyData → Bool
  | .tuple [.int a, .int b] => decide (v = a ∨ v = b)
  | _ => false
def othT (v : Int) : PyData → PyData
  | .tuple [.int a, .int b] => .int (a + b - v)
  | _ => .none
theorem near_same {p v : Int} : ∀ {ts : List PyData}, Prs p ts → (ts.filter (hasT v)).map (othT v) = (nb ts v).map PyData.int
  | [], _ => rfl
  | d :: ts, h => by
    obtain ⟨a, b, rfl, a0, ab, bp⟩ := h d (List.mem_cons_self ..)
    have ih := near_same (v := v) (ts := ts) fun x hx => h x (List.mem_cons_of_mem _ hx)
    unfold nb at ih ⊢
    rw [List.flatMap_cons, List.map_append, ← ih]
    have e : nbr v (pr a b) = (if a = v then [b] else []) ++ (if b = v then [a] else []) := rfl
    have f : hasT v (pr a b) = decide (v = a ∨ v = b) := rfl
    rw [e]
    by_cases q1 : a = v
    · have q2 : ¬ b = v := by omega
      rw [List.filter_cons, f, decide_eq_true (.inl q1.symm), if_pos rfl, if_pos q1, if_neg q2]
      show PyData.int (a + b - v) :: _ = .int b :: _
      rw [show a + b - v = b by omega]
      rfl
    · by_cases q2 : b = v
      · rw [List.filter_cons, f, decide_eq_true (.inr q2.symm), if_pos rfl, if_neg q1, if_pos q2]
        show PyData.int (a + b - v) :: _ = .int a :: _
        rw [show a + b - v = a by omega]
        rfl
      · rw [List.filter_cons, f, decide_eq_false (by omega), if_neg (by decide), if_neg q1, if_neg q2]
        rfl
/-! ### sides alike, and first ones -/
def sameT (D : Dc) : PyData → Bool
  | .tuple [.int a, .int b] => decide ((lkI D a).getD 0 = (lkI D b).getD 0)
  | _ => false
def zeroT (D : Dc) : PyData → Bool
  | .int v => decide ((lkI D v).getD 0 = 0)
  | _ => false
def partR (D : Dc) (P : Nat) (ts : List PyData) : PyData := if ts.any (sameT D) = true then .none else .tuple ((rngL 0 P).filter (zeroT D))
theorem lk_at {nb : Int → List Int} {P : Nat} (hP : P ≤ 6) (hn : ∀ k u, u ∈ nb k → 0 ≤ u ∧ u < P) {v : Int} (v0 : 0 ≤ v) (v1 : v < P) : ∃ c, lkI (outer nb P) v = some c := by
  have := (outer_ok hP hn P (Nat.le_refl _)).2 v.toNat (by omega)
  rw [show ((v.toNat : Nat) : Int) = v by omega] at this
  exact lkI_some this
theorem lf_ints {ds : List PyData} (h : ∀ d ∈ ds, ∃ i : Int, d = .int i) : lfA ds = true := by
  induction ds with
  | nil => rfl
  | cons d r ih =>
    obtain ⟨i, rfl⟩ := h d (List.mem_cons_self ..)
    show (true && lfA r) = true
    rw [ih fun x hx => h x (List.mem_cons_of_mem _ hx)]
    rfl
theorem rng_ints {P : Nat} {f : PyData → Bool} : ∀ d ∈ (rngL 0 P).filter f, ∃ i : Int, d = .int i := fun d hd => by
  obtain ⟨i, e, _⟩ := rng_mem (List.mem_filter.mp hd).1
  exact ⟨i, e⟩
theorem pr_flat (a b : Int) : (pr a b).canLay0 = true ∧ (pr a b).depth ≤ 10 := by
  unfold pr
  rw [PyData.canLay0, PyData.depth]
  exact ⟨rfl, by simp [PyData.depthAll, PyData.depth]⟩
section
variable {p : Int} {ts : List PyData}
end
abbrev partTest : X1 Bool := (pkB 1 (mB (mF (mOp fNe (mF (mComp (mSeqI (mF (mIxN 0 (mPure (.int 1))))) (bName 6) (mB (mF (mOp fEq (mDGet (mVar 1) (mF (mIxN 6 (mPure (.int 0))))) (mDGet (mVar 1) (mF (mIxN 6 (mPure (.int 1)))))))) (mVar 6) [6])) (mF (mLst mNil))))))
abbrev partEnd : X1 Rv := (pk1 1 (mCb tupD (mCons (mF (mComp (mRng1 (mCons (mF (mIxN 0 (mPure (.int 0)))) mNil)) (bName 7) (mB (mF (mOp fEq (mDGet (mVar 1) (mVar 7)) (mPure (.int 0))))) (mVar 7) [7])) mNil)))
theorem cond_l {x0 x2 s4 s5 : Sl} {r : Env} {ws : List Int} {es : Es} : l1 1 (mB (mF (mPeek (mOp fNe (mVar 3) (mF (mLst mNil)))))) (x0 :: .un :: x2 :: wI ws :: s4 :: s5 :: r) es = .ok (!ws.isEmpty) (x0 :: .un :: x2 :: wI ws :: s4 :: s5 :: r) := by
  refine l1Ok (bOk (fD ?_)) rfl
  have e : mOp fNe (mVar 3) (mF (mLst mNil)) (frzE (x0 :: .un :: x2 :: wI ws :: s4 :: s5 :: r)) = .ok (.dat (.bool (!ws.isEmpty))) (frzE (x0 :: .un :: x2 :: wI ws :: s4 :: s5 :: r)) := by
    refine opOk (x := .list (ws.map PyData.int)) (y := .list []) (ρ1 := frzE (x0 :: .un :: x2 :: wI ws :: s4 :: s5 :: r)) rfl rfl ?_
    rw [ne_nil (fun d hd => by obtain ⟨i, _, rfl⟩ := List.mem_map.mp hd; exact ⟨rfl, Nat.zero_le _⟩), List.isEmpty_map]
  unfold mPeek
  rw [e]
  rfl
section
variable {p : Int} {ts : List PyData}
end
set_option exponentiation.threshold 3000
/-! ### pairs sorted -/
def cdP : PyData → Int
  | .tuple [.int a, .int b] => a * 64 + b
  | _ => 0
theorem pairs_cd {p : Int} (hp : p ≤ 6) : ∀ {ds : List PyData}, Prs p ds → pairsC ds = some (ds.map cdP)
  | [], _ => rfl
  | d :: r, h => by
    obtain ⟨a, b, rfl, a0, ab, bp⟩ := h d (List.mem_cons_self ..)
    have ih := pairs_cd hp (ds := r) fun x hx => h x (List.mem_cons_of_mem _ hx)
    obtain ⟨cs, q1, _⟩ := prCodes hp (ds := [pr a b]) fun x hx => by rw [List.mem_singleton.mp hx]; exact ⟨a, b, rfl, a0, ab, bp⟩
    show (pairC (pr a b)).bind (fun c => (pairsC r).map (c :: ·)) = _
    rw [ih]
    have e : pairC (pr a b) = some (a * 64 + b) := by
      unfold pairC pr
      first
        | rfl
        | (rw [if_pos (by simp; omega)])
        | (simp; omega)
    rw [e]
    rfl
theorem isort_strict {cs : List Int} (h : cs.Nodup) : (isort cs).Pairwise (· < ·) := by
  have p := isort_perm cs
  exact (List.Pairwise.and (isort_sorted cs) (p.nodup_iff.mpr h)).imp fun {x y} h => by have := h.1; have := h.2; omega
theorem sort_prs {p : Int} (hp : p ≤ 6) {ds : List PyData} (h : Prs p ds) (nd : ds.Nodup) (hl : ds.length ≤ 20) : ∃ ts, sortUD [.list ds] = some (.new ts) ∧ tiesT p (.tuple ts) = true ∧ ts.length ≤ 20 ∧ Prs p ts := by
  have cn : (ds.map cdP).Nodup := by
    refine List.pairwise_map.mpr (List.Pairwise.imp_of_mem (fun {x y} hx hy n => ?_) nd)
    obtain ⟨a, b, rfl, a0, ab, bp⟩ := h x hx
    obtain ⟨c, d, rfl, c0, cd, dp⟩ := h y hy
    show a * 64 + b ≠ c * 64 + d
    intro z
    have e1 : a = c := by omega
    have e2 : b = d := by omega
    rw [e1, e2] at n
    exact n rfl
  have sm : ∀ c ∈ isort (ds.map cdP), Cod p c := fun c hc => by
    obtain ⟨x, hx, rfl⟩ := List.mem_map.mp ((isort_perm _).mem_iff.mp hc)
    obtain ⟨a, b, rfl, a0, ab, bp⟩ := h x hx
    exact ⟨a, b, rfl, a0, ab, bp⟩
  have pp : Prs p ((isort (ds.map cdP)).map decP) := fun x hx => by
    obtain ⟨c, hc, rfl⟩ := List.mem_map.mp hx
    obtain ⟨a, b, _, e, h1⟩ := (sm c hc).dec hp
    exact ⟨a, b, e, h1⟩
  have ln : ((isort (ds.map cdP)).map decP).length = ds.length := by rw [List.length_map, (isort_perm _).length_eq, List.length_map]
  refine ⟨(isort (ds.map cdP)).map decP, ?_, ?_, by omega, pp⟩
  · show (pairsC ds).bind _ = _
    rw [pairs_cd hp h]
    show (if (ds.map cdP).length < 64 then _ else _) = _
    rw [if_pos (by rw [List.length_map]; omega)]
  · show (_ && _) = true
    rw [steps_dec hp (isort_strict cn) sm, Bool.and_true, List.all_eq_true]
    intro x hx
    obtain ⟨a, b, rfl, h1, h2, h3⟩ := pp x hx
    exact tieT_of h1 h2 h3
/-! ### pairs that come one behind the other -/
def kP : PyData → Int
  | .tuple [.int a, .int b] => b * 8 + a
  | _ => 0
structure Pl (p : Int) (e : List PyData) (bd : Int) (L : Nat) : Prop where
  prs : Prs p e
  lt : ∀ d ∈ e, kP d < bd
  inc : e.Pairwise fun x y => kP x < kP y
  len : e.length ≤ L
theorem Pl.more {p : Int} {e : List PyData} {bd bd' : Int} {L L' : Nat} (h : Pl p e bd L) (hb : bd ≤ bd') (hL : L ≤ L') : Pl p e bd' L' := ⟨h.prs, fun d hd => by have := h.lt d hd; omega, h.inc, by have := h.len; omega⟩
theorem Pl.add {p a b : Int} {e : List PyData} {bd : Int} {L : Nat} (h : Pl p e bd L) (a0 : 0 ≤ a) (ab : a < b) (bp : b < p) (hb : bd ≤ b * 8 + a) : Pl p (e ++ [pr a b]) (b * 8 + a + 1) (L + 1) := by
  refine ⟨fun d hd => ?_, fun d hd => ?_, ?_, by rw [List.length_append, List.length_singleton]; have := h.len; omega⟩
  · rcases List.mem_append.mp hd with z | z
    · exact h.prs d z
    · rw [List.mem_singleton.mp z]; exact ⟨a, b, rfl, a0, ab, bp⟩
  · rcases List.mem_append.mp hd with z | z
    · have := h.lt d z; omega
    · rw [List.mem_singleton.mp z]; show b * 8 + a < _; omega
  · refine List.pairwise_append.mpr ⟨h.inc, List.pairwise_singleton .., fun x hx y hy => ?_⟩
    rw [List.mem_singleton.mp hy]
    have := h.lt x hx
    show kP x < b * 8 + a
    omega
theorem Pl.nodup {p : Int} {e : List PyData} {bd : Int} {L : Nat} (h : Pl p e bd L) : e.Nodup := h.inc.imp fun {x y} z e => by rw [e] at z; omega
def tri : Nat → Nat
  | 0 => 0
  | k + 1 => tri k + k
theorem tri_le {k : Nat} (h : k ≤ 6) : tri k ≤ 15 := by
  have : k = 0 ∨ k = 1 ∨ k = 2 ∨ k = 3 ∨ k = 4 ∨ k = 5 ∨ k = 6 := by omega
  rcases this with rfl | rfl | rfl | rfl | rfl | rfl | rfl <;> decide
/-! ### the box -/
theorem fn_boxN (ns : List Int) {i : Int} (hi : 0 ≤ i) (hi2 : i ≤ 1000) : ∃ n, f_law_box [.scr ns, .dat (.int i)] = .ok (.new [.int n]) [.scr ns, .dat (.int i)] := by
  have s1 : mSet 2 (mOp fAdd (mF (mOp fMulA (mPure (.int 7919)) (mVar 1))) (mPure (.int 13))) [.scr ns, .dat (.int i), .un, .un, .un, .un] = .nx [.scr ns, .dat (.int i), .dat (.int (7919 * i + 13)), .un, .un, .un] :=
    setOk (r := .dat (.int (7919 * i + 13))) (opOk (x := .int (7919 * i)) (y := .int 13) (fD (opOk rfl rfl (mul_fits (small_pow (by omega) (by omega)) (small_pow (by omega) (by omega))))) rfl rfl) rfl
  have s2 : ∃ c, mIfS (mB (mF (mOp fLt (mVar 1) (mF (mLenN 0))))) (mSet 2 (mIxN 0 (mVar 1))) Fl.nx [.scr ns, .dat (.int i), .dat (.int (7919 * i + 13)), .un, .un, .un] = .nx [.scr ns, .dat (.int i), .dat (.int c), .un, .un, .un] := by
    have t : mB (mF (mOp fLt (mVar 1) (mF (mLenN 0)))) [.scr ns, .dat (.int i), .dat (.int (7919 * i + 13)), .un, .un, .un] = .ok (decide (i < (ns.map PyData.int).length)) [.scr ns, .dat (.int i), .dat (.int (7919 * i + 13)), .un, .un, .un] := bOk (fD (opOk (x := .int i) (y := .int (ns.map PyData.int).length) rfl rfl rfl))
    by_cases q : i < (ns.map PyData.int).length
    · obtain ⟨x, hx, ex⟩ := ix_some hi q
      obtain ⟨c, _, rfl⟩ := List.mem_map.mp hx
      rw [decide_eq_true q] at t
      refine ⟨c, (ifT t).trans (setOk (r := .dat (.int c)) (ρ1 := [.scr ns, .dat (.int i), .dat (.int (7919 * i + 13)), .un, .un, .un]) ?_ rfl)⟩
      show mOpt ((atI (ns.map PyData.int) i).map Rv.dat) _ = _
      rw [ex]
      rfl
    · rw [decide_eq_false q] at t
      exact ⟨_, ifF t⟩
  obtain ⟨c, s2⟩ := s2
  have t : mB (mF (mOp fEq (mF (mOp fMod (mVar 2) (mPure (.int 2)))) (mPure (.int 0)))) [.scr ns, .dat (.int i), .dat (.int c), .un, .un, .un] = .ok (decide (c % 2 = 0)) [.scr ns, .dat (.int i), .dat (.int c), .un, .un, .un] := bOk (fD (opOk (fD (opOk rfl rfl (mod_fits (by omega)))) rfl (eq_ints _ _)))
  by_cases q : c % 2 = 0
  · rw [decide_eq_true q] at t
    have b2 := fD (opOk (a := mVar 2) (x := .int c) (ρ := [.scr ns, .dat (.int i), .dat (.int c), .un, .un, .un]) rfl (b := mPure (.int 2)) (y := .int 2) rfl (div_fits (by omega) (by omega)))
    exact ⟨_, ret_ok (ρ := [.scr ns, .dat (.int i), .dat (.int c), .un, .un, .un]) ((seqOk s1).trans ((seqOk s2).trans (seqRt ((ifT t).trans (retX (lstOk (consOk b2 nilOk) (show 1 ≤ 100000 by decide))))))) rfl⟩
  · rw [decide_eq_false q] at t
    obtain ⟨ρ', f1, x, s, u, rfl, _⟩ := for_bound (m := mRng1 (mCons (mPure (.int 16)) mNil)) (b := bName 4) (f := (mSeq (mSet 5 (mOp fMod (mF (mOp fAdd (mF (mOp fAdd (mF (mOp fMulA (mF (mOp fMod (mVar 2) (mPure (.int 2147483647)))) (mPure (.int 48271)))) (mF (mOp fMulA (mPure (.int 7919)) (mVar 4))))) (mPure (.int 1)))) (mPure (.int 2147483647))))
  (mSeq (mSet 5 (mOp fMod (mF (mOp fMulA (mVar 5) (mVar 5))) (mPure (.int 2147483629))))
  (mSet 3 (mOp fAdd (mF (mOp fMulA (mVar 3) (mPure (.int 2147483647)))) (mF (mOp fMod (mF (mOp fMulA (mVar 5) (mF (mOp fAdd (mVar 5) (mPure (.int 13)))))) (mPure (.int 2147483647))))))))) (ds := rngL 0 16) (ρ := [.scr ns, .dat (.int i), .dat (.int c), .dat (.int 0), .un, .un]) (ρ1 := [.scr ns, .dat (.int i), .dat (.int c), .dat (.int 0), .un, .un])
      (I := fun k ρ => ∃ x s u, ρ = [.scr ns, .dat (.int i), .dat (.int c), .dat (.int x), s, u] ∧ Nl s ∧ Nl u ∧ 0 ≤ x ∧ x.toNat < 2 ^ (31 * (k + 1))) (rng1Ok (n := 16) (consOk rfl nilOk) (by omega) (by omega)) (fun d hd k ρ hk hI => by
        obtain ⟨x, s, u, rfl, hs, hu, h0, h1⟩ := hI
        obtain ⟨v, rfl, v0, v1⟩ := rng_mem hd
        rw [rng_len] at hk
        have pk : 2 ^ (31 * (k + 1)) ≤ 2 ^ 2000 := Nat.pow_le_pow_right (n := 2) (by omega) (by omega)
        have xb : x.natAbs < 2 ^ 2000 := Nat.lt_of_lt_of_le (show x.natAbs < 2 ^ (31 * (k + 1)) by rw [show x.natAbs = x.toNat by omega]; exact h1) pk
        have c1 := mod_lt (n := c) (m := 2147483647) (by omega)
        obtain ⟨y, hy⟩ : ∃ y : Int, y = (c % 2147483647 * 48271 + 7919 * v + 1) % 2147483647 := ⟨_, rfl⟩
        have y1 := mod_lt (n := c % 2147483647 * 48271 + 7919 * v + 1) (m := 2147483647) (by omega)
        rw [← hy] at y1
        have e1 : mSet 5 (mOp fMod (mF (mOp fAdd (mF (mOp fAdd (mF (mOp fMulA (mF (mOp fMod (mVar 2) (mPure (.int 2147483647)))) (mPure (.int 48271)))) (mF (mOp fMulA (mPure (.int 7919)) (mVar 4))))) (mPure (.int 1)))) (mPure (.int 2147483647))) [.scr ns, .dat (.int i), .dat (.int c), .dat (.int x), .dat (.int v), u] = .nx [.scr ns, .dat (.int i), .dat (.int c), .dat (.int x), .dat (.int v), .dat (.int y)] := by
          rw [hy]
          exact setOk (r := .dat (.int _)) (opOk (fD (opOk (fD (opOk (fD (opOk (fD (opOk rfl rfl (mod_fits (by omega)))) rfl (mul_fits (small_pow (by omega) (by omega)) (small_pow (by omega) (by omega))))) (fD (opOk rfl rfl (mul_fits (small_pow (by omega) (by omega)) (small_pow (by omega) (by omega))))) rfl)) rfl rfl)) rfl (mod_fits (by omega))) (set_at (s := u) rfl hu)
        obtain ⟨z, hz⟩ : ∃ z : Int, z = y * y % 2147483629 := ⟨_, rfl⟩
        have z1 := mod_lt (n := y * y) (m := 2147483629) (by omega)
        rw [← hz] at z1
        have e2 : mSet 5 (mOp fMod (mF (mOp fMulA (mVar 5) (mVar 5))) (mPure (.int 2147483629))) [.scr ns, .dat (.int i), .dat (.int c), .dat (.int x), .dat (.int v), .dat (.int y)] = .nx [.scr ns, .dat (.int i), .dat (.int c), .dat (.int x), .dat (.int v), .dat (.int z)] := by
          rw [hz]
          exact setOk (r := .dat (.int _)) (opOk (fD (opOk rfl rfl (mul_fits (small_pow (by omega) (by omega)) (small_pow (by omega) (by omega))))) rfl (mod_fits (by omega))) rfl
        obtain ⟨r, hr⟩ : ∃ r : Int, r = z * (z + 13) % 2147483647 := ⟨_, rfl⟩
        have r1 := mod_lt (n := z * (z + 13)) (m := 2147483647) (by omega)
        rw [← hr] at r1
        have e3 : mSet 3 (mOp fAdd (mF (mOp fMulA (mVar 3) (mPure (.int 2147483647)))) (mF (mOp fMod (mF (mOp fMulA (mVar 5) (mF (mOp fAdd (mVar 5) (mPure (.int 13)))))) (mPure (.int 2147483647))))) [.scr ns, .dat (.int i), .dat (.int c), .dat (.int x), .dat (.int v), .dat (.int z)] = .nx [.scr ns, .dat (.int i), .dat (.int c), .dat (.int (x * 2147483647 + r)), .dat (.int v), .dat (.int z)] := by
          rw [hr]
          exact setOk (r := .dat (.int _)) (opOk (fD (opOk rfl rfl (mul_fits xb (small_pow (by omega) (by omega))))) (fD (opOk (fD (opOk (y := .int (z + 13)) rfl rfl (mul_fits (small_pow (by omega) (by omega)) (small_pow (by omega) (by omega))))) rfl (mod_fits (by omega)))) rfl) rfl
        refine ⟨[.scr ns, .dat (.int i), .dat (.int c), .dat (.int x), .dat (.int v), u], _, put_name (s := s) rfl hs, (seqOk e1).trans ((seqOk e2).trans e3), _, _, _, rfl, nl_dat, nl_dat, by omega, ?_⟩
        have e : 2 ^ (31 * (k + 1 + 1)) = 2 ^ (31 * (k + 1)) * 2147483648 := by rw [show 31 * (k + 1 + 1) = 31 * (k + 1) + 31 by omega, Nat.pow_add]
        rw [e]
        clear pk xb e hy hz hr e1 e2 e3
        generalize 2 ^ (31 * (k + 1)) = B at h1
        omega) ⟨0, .un, .un, rfl, nl_un, nl_un, by omega, by decide⟩
    exact ⟨x, ret_ok (ρ := [.scr ns, .dat (.int i), .dat (.int c), .dat (.int x), s, u]) ((seqOk s1).trans ((seqOk s2).trans ((seqOk (ifF t)).trans ((seqOk (ρ1 := [.scr ns, .dat (.int i), .dat (.int c), .dat (.int 0), .un, .un]) rfl).trans ((seqOk f1).trans rfl))))) rfl⟩
theorem or_val {a b : M PyData} {p q : Bool} {ρ : Env} (ha : a ρ = .ok (.bool p) ρ) (hb : p = false → b ρ = .ok (.bool q) ρ) : mOrV a b ρ = .ok (.bool (p || q)) ρ := by
  unfold mOrV mBind mB mBind
  rw [ha]
  cases p with
  | true => rfl
  | false => exact hb rfl
theorem andT {a b : M Bool} {ρ ρ1 : Env} (ha : a ρ = .ok true ρ1) : mAnd a b ρ = b ρ1 := by
  unfold mAnd mBind
  rw [ha]
  rfl
theorem andF {a b : M Bool} {ρ ρ1 : Env} (ha : a ρ = .ok false ρ1) : mAnd a b ρ = .ok false ρ1 := by
  unfold mAnd mBind
  rw [ha]
  rfl
theorem tOk {m : M PyData} {b : Bool} {ρ ρ1 : Env} (h : m ρ = .ok (.bool b) ρ1) : mT m ρ = .ok b ρ1 := by
  unfold mT mBind
  rw [h]
  rfl
theorem rng_at1 {lo : Int} {n k : Nat} {d : PyData} (h : (rngL lo n)[k]? = some d) : d = .int (lo + k) ∧ k < n := by
  unfold rngL at h
  rw [List.getElem?_map] at h
  by_cases q : k < n
  · rw [List.getElem?_range q] at h
    cases h
    exact ⟨rfl, q⟩
  · rw [List.getElem?_eq_none (by rw [List.length_range]; omega)] at h
    cases h
theorem own_int {ls : List Int} {mi : M PyData} {k : Nat} {j : Int} {ρ : Env} (h0 : ρ[k]? = some (.own (ls.map PyData.int))) (h : mi ρ = .ok (.int j) ρ) (j0 : 0 ≤ j) (j1 : j < ls.length) : mF (mIxN k mi) ρ = .ok (.int (ls.getD j.toNat 0)) ρ := by
  obtain ⟨x, hx, ex⟩ := ix_some (ds := ls.map PyData.int) j0 (by rw [List.length_map]; exact j1)
  have e : x = .int (ls.getD j.toNat 0) := by
    have q : atI (ls.map PyData.int) j = (ls.map PyData.int)[j.toNat]? := by
      unfold atI
      rw [ixN_nat j0 (by rw [List.length_map]; exact j1)]
      rfl
    rw [q, List.getElem?_map, List.getElem?_eq_getElem (by omega : j.toNat < ls.length)] at ex
    cases ex
    rw [List.getD_eq_getElem?_getD, List.getElem?_eq_getElem (by omega : j.toNat < ls.length)]
    rfl
  subst e
  refine fD (own_ix h0 h ?_ ex)
  unfold peek
  rw [h0]
/-! ### a two-sided web is drawn -/
abbrev tEnv (n p : Int) (ls : List Int) (e : List PyData) (s5 s6 : Sl) : Env := [.lnt [.int n], .dat (.int 6), .dat (.int p), .own (ls.map PyData.int), .own e, s5, s6, .un]
abbrev twoIn : Env → Fl := (mIfS (mAnd (mB (mF (mOp fNe (mF (mIxN 3 (mVar 6))) (mF (mIxN 3 (mVar 5)))))) (mB (mF (mOp fGt (mF (mCallB 2 f_law_take 0 (mCons (mPure (.int 5)) mNil))) (mPure (.int 0)))))) (mApp 4 (mTup (mCons (mVar 6) (mCons (mVar 5) mNil)))) Fl.nx)
theorem two_in {n p : Int} {ls : List Int} {e : List PyData} {o m : Nat} (hl : (ls.length : Int) = p) (om : m < o) (op : (o : Int) < p) (p6 : p ≤ 6) (h : Pl p e (o * 8 + m) (tri o + m)) :
    ∃ n' e', twoIn (tEnv n p ls e (.dat (.int o)) (.dat (.int m))) = .nx (tEnv n' p ls e' (.dat (.int o)) (.dat (.int m))) ∧ Pl p e' (o * 8 + (m + 1 : Nat)) (tri o + (m + 1)) := by
  have tl := tri_le (k := o) (by omega)
  have hlen := h.len
  have c1 : mB (mF (mOp fNe (mF (mIxN 3 (mVar 6))) (mF (mIxN 3 (mVar 5))))) (tEnv n p ls e (.dat (.int o)) (.dat (.int m))) = .ok (!decide (ls.getD m 0 = ls.getD o 0)) (tEnv n p ls e (.dat (.int o)) (.dat (.int m))) := by
    have a := own_int (ls := ls) (mi := mVar 6) (k := 3) (j := (m : Int)) (ρ := tEnv n p ls e (.dat (.int o)) (.dat (.int m))) rfl rfl (by omega) (by omega)
    have b := own_int (ls := ls) (mi := mVar 5) (k := 3) (j := (o : Int)) (ρ := tEnv n p ls e (.dat (.int o)) (.dat (.int m))) rfl rfl (by omega) (by omega)
    exact bOk (fD (opOk a b (ne_ints _ _)))
  have keep : ∀ n', ∃ n'' e', (.nx (tEnv n' p ls e (.dat (.int o)) (.dat (.int m))) : Fl) = .nx (tEnv n'' p ls e' (.dat (.int o)) (.dat (.int m))) ∧ Pl p e' (o * 8 + (m + 1 : Nat)) (tri o + (m + 1)) := fun n' => ⟨n', e, rfl, h.more (by omega) (by omega)⟩
  cases q : !decide (ls.getD m 0 = ls.getD o 0) with
  | false =>
    rw [q] at c1
    obtain ⟨n'', e', k1, k2⟩ := keep n
    exact ⟨n'', e', (ifF (andF c1)).trans k1, k2⟩
  | true =>
    rw [q] at c1
    have c2 : mB (mF (mOp fGt (mF (mCallB 2 f_law_take 0 (mCons (mPure (.int 5)) mNil))) (mPure (.int 0)))) (tEnv n p ls e (.dat (.int o)) (.dat (.int m))) = .ok (decide (0 < n % 5)) (tEnv (n / 5) p ls e (.dat (.int o)) (.dat (.int m))) := bOk (fD (opOk (fD (take0 rfl (by omega) (by omega))) rfl (gt_ints _ _)))
    cases q2 : decide (0 < n % 5) with
    | false =>
      rw [q2] at c2
      obtain ⟨n'', e', k1, k2⟩ := keep (n / 5)
      exact ⟨n'', e', (ifF ((andT c1).trans c2)).trans k1, k2⟩
    | true =>
      rw [q2] at c2
      refine ⟨n / 5, e ++ [pr m o], (ifT ((andT c1).trans c2)).trans ?_, ?_⟩
      · exact appOk (z := e) (ds := e) (d := pr m o) rfl (tupOk (consOk rfl (consOk rfl nilOk)) (by show 2 ≤ 100000; decide)) rfl (by omega) rfl
      · exact (h.add (a := m) (b := o) (by omega) (by omega) op (Int.le_refl _)).more (by omega) (by omega)
theorem bndEx {b : PyData → Env → Option Env} {m : M PyData} {x : Xn} {ρ ρ1 : Env} (h : m ρ = .ex x ρ1) : mBnd b m ρ = .ex x ρ1 := by
  unfold mBnd mThen
  rw [h]
theorem setEx {i : Nat} {m : M Rv} {x : Xn} {ρ ρ1 : Env} (h : m ρ = .ex x ρ1) : mSet i m ρ = .ex x ρ1 := by
  unfold mSet mThen
  rw [h]
theorem fEx {m : M Rv} {x : Xn} {ρ ρ1 : Env} (h : m ρ = .ex x ρ1) : mF m ρ = .ex x ρ1 := by
  show R.bind (m ρ) _ = _
  rw [h]
  rfl
theorem bEx {m : M PyData} {x : Xn} {ρ ρ1 : Env} (h : m ρ = .ex x ρ1) : mB m ρ = .ex x ρ1 := by
  show R.bind (m ρ) _ = _
  rw [h]
  rfl
theorem notEx {m : M Bool} {x : Xn} {ρ ρ1 : Env} (h : m ρ = .ex x ρ1) : mNot m ρ = .ex x ρ1 := by
  show R.bind (m ρ) _ = _
  rw [h]
  rfl
theorem opEx {f : PyData → PyData → Option Rv} {a b : M PyData} {x : Xn} {ρ ρ1 : Env} (h : a ρ = .ex x ρ1) : mOp f a b ρ = .ex x ρ1 := by
  show R.bind (a ρ) _ = _
  rw [h]
  rfl
theorem ifEx {c : M Bool} {a b : Env → Fl} {x : Xn} {ρ ρ1 : Env} (h : c ρ = .ex x ρ1) : mIfS c a b ρ = .ex x ρ1 := by
  unfold mIfS mThen
  rw [h]
theorem near_w {c : Str} {w x : PyData} (h : f_check_web [.dat w] = .ex ⟨c, none⟩ [.dat w]) : f_near [.dat w, .dat x] = .ex ⟨c, none⟩ [.dat w, .dat x] := by
  refine ex_ok (ρ := [.dat w, .dat x, .un, .un, .un]) ?_ rfl
  exact seqEx (dropEx (callEx (xs := [w]) (consOk rfl nilOk) rfl h))
abbrev w0 : Env → Fl := mSet 2 (mCallB 2 f_law_box 0 (mCons (mVar 1) mNil))
abbrev w2 : Env → Fl := mBnd (bTup 2 (bCons (bName 4) (bCons (bName 5) bNil))) (mVar 3)
abbrev w3 : Env → Fl := mSet 6 (mLst (mCons (mPure .none) (mCons (mF (mLst (mCons (mVar 4) (mCons (mVar 5) mNil)))) (mCons (mTup (mCons (mVar 4) mNil)) (mCons (mTup (mCons (mPure (.int 7)) (mCons (mTup mNil) mNil))) (mCons (mTup (mCons (mPure (.int 0)) (mCons (mTup mNil) mNil))) (mCons (mTup (mCons (mPure (.bool true)) (mCons (mTup mNil) mNil))) (mCons (mTup (mCons (mVar 4) (mCons (mF (mCb listD (mCons (mVar 5) mNil))) mNil))) (mCons (mTup (mCons (mVar 4) (mCons (mF (mOp fAdd (mVar 5) (mTup (mCons (mTup (mCons (mPure (.int 0)) (mCons (mPure (.int 9)) mNil))) mNil)))) mNil))) mNil)))))))))
abbrev w4 : Env → Fl := mSet 6 (mOp fAdd (mVar 6) (mF (mLst (mCons (mTup (mCons (mVar 4) (mCons (mTup (mCons (mTup (mCons (mPure (.int 0)) (mCons (mPure (.int 0)) mNil))) mNil)) mNil))) (mCons (mTup (mCons (mPure (.str "1")) (mCons (mTup mNil) mNil))) (mCons (mTup (mCons (mVar 4) (mCons (mTup (mCons (mTup (mCons (mPure (.int 1)) (mCons (mPure (.int 0)) mNil))) mNil)) mNil))) (mCons (mPure (.dict [])) (mCons (mTup (mCons (mVar 4) (mCons (mVar 5) (mCons (mTup mNil) mNil)))) (mCons (mTup (mCons (mVar 4) (mCons (mTup (mCons (mTup (mCons (mPure (.int 0)) (mCons (mPure (.bool true)) mNil))) mNil)) mNil))) mNil)))))))))
abbrev w5 : Env → Fl := mSet 7 (mIxN 6 (mF (mCallB 2 f_law_take 2 (mCons (mPure (.int 14)) mNil))))
abbrev w7 : Env → Fl := mSet 9 (mLst (mCons (mPure .none) (mCons (mF (mOp fMul0 (mTup (mCons (mTup (mCons (mPure (.int 0)) mNil)) mNil)) (mF (mOp fAdd (mVar 4) (mPure (.int 1)))))) (mCons (mF (mOp fMul0 (mF (mLst (mCons (mTup (mCons (mPure (.int 0)) mNil)) mNil))) (mVar 4))) (mCons (mF (mOp fAdd (mTup (mCons (mTup (mCons (mPure (.int 1)) (mCons (mPure (.int 0)) mNil))) mNil)) (mF (mOp fMul0 (mTup (mCons (mTup mNil) mNil)) (mF (mOp fSub (mVar 4) (mPure (.int 1)))))))) mNil)))))
abbrev w8 : Env → Fl := mSet 10 (mOp ixD (mF (mOp fAdd (mVar 9) (mF (mLst (mCons (mF (mOp fMul0 (mTup (mCons (mTup (mCons (mPure (.int 100)) mNil)) mNil)) (mVar 4))) (mCons (mF (mOp fMul0 (mTup (mCons (mPure (.int 1)) mNil)) (mVar 4))) mNil)))))) (mF (mCallB 2 f_law_take 2 (mCons (mPure (.int 6)) mNil))))
abbrev w10 : Env → Fl := mSet 11 (mLst (mCons (mPure .none) (mCons (mF (mOp fMul0 (mTup (mCons (mPure (.int 1)) mNil)) (mF (mOp fAdd (mVar 4) (mPure (.int 1)))))) (mCons (mF (mOp fMul0 (mF (mLst (mCons (mPure (.int 1)) mNil))) (mVar 4))) (mCons (mF (mOp fMul0 (mTup (mCons (mPure (.int 9)) mNil)) (mVar 4))) (mCons (mF (mOp fMul0 (mTup (mCons (mNeg (mPure (.int 1))) mNil)) (mVar 4))) (mCons (mF (mOp fMul0 (mTup (mCons (mPure (.bool true)) mNil)) (mVar 4))) (mCons (mF (mOp fMul0 (mTup (mCons (mPure (.str "1")) mNil)) (mVar 4))) mNil))))))))
abbrev w11 : Env → Fl := mSet 10 (mIxN 11 (mF (mCallB 2 f_law_take 2 (mCons (mPure (.int 7)) mNil))))
theorem tie_no {p : Int} {ds : List PyData} {x : PyData} (hx : x ∈ ds) (h : tieT p x = false) : tiesT p (.tuple ds) = false := by
  have e : ds.all (tieT p) = false := by
    cases z : ds.all (tieT p) with
    | false => rfl
    | true => rw [List.all_eq_true.mp z x hx] at h; cases h
  show (ds.all (tieT p) && _) = false
  rw [e, Bool.false_and]
theorem web_no {p : Int} {t : PyData} (h : tiesT p t = false) : webT (.tuple [.int p, t]) = false := by
  show (rngT 1 6 (.int p) && tiesT p t) = false
  rw [h, Bool.and_false]
theorem tie_at {p a b : Int} : tieT p (pr a b) = (decide (0 ≤ a) && decide (a < p) && (decide (0 ≤ b) && decide (b < p)) && decide (a < b)) := by
  first
    | rfl
    | (show _ = _; simp only [tieT, pr, isPl, ltD]; done)
    | (unfold tieT pr isPl ltD; simp [Bool.and_assoc])
theorem ne_selfL {ds : List PyData} (h : ∀ d ∈ ds, d.canLay0 = true ∧ d.depth ≤ 10) : fNe (.list ds) (.list ds) = some (.dat (.bool false)) := by
  obtain ⟨a, b⟩ := shp_of h
  unfold fNe
  rw [shp_listOf h, if_pos (by rfl), PySem.SeqAt.eqv_refl _ (by rw [PyData.canLay0]; exact a)]
  rfl
theorem str_flat {m : Str} (hm : PyData.strOk m = true) : (PyData.str m).canLay0 = true ∧ (PyData.str m).depth ≤ 10 := by
  exact ⟨by rw [PyData.canLay0]; exact hm, by rw [PyData.depth]; omega⟩
theorem nw {m : Str} (n : Nat) (hm : PyData.strOk m = true) : fNe (.list (((rngL 0 n).filter fun _ => true).map fun _ => .str m)) (.list (List.replicate n (.str m))) = some (.dat (.bool false)) := by
  rw [filter_yes]
  have e : (rngL 0 n).map (fun _ => PyData.str m) = List.replicate n (.str m) := by
    rw [List.map_const', rng_len]
  rw [e]
  exact ne_selfL fun d hd => by
    rw [(List.mem_replicate.mp hd).2]
    exact str_flat hm
theorem loop_nx {b : PyData → Env → Option Env} {f : Env → Fl} {d : PyData} {ds : List PyData} {ρ ρ1 ρ2 : Env} (h1 : b d ρ = some ρ1) (h2 : f ρ1 = .nx ρ2) : loop b f (d :: ds) ρ = loop b f ds ρ2 := by
  show (match b d ρ with | none => Fl.bad | some ρ1 => _) = _
  rw [h1]
  dsimp only
  rw [h2]
theorem list_tup {ds : List PyData} (h : ds.length ≤ 100000) : listD [.tuple ds] = some (.new ds) := by
  first
    | rfl
    | (show (if small ds.length = true then _ else _) = _; rw [if_pos (decide_eq_true h)])
def tupLe : PyData → Bool
  | .tuple ds => decide (ds.length ≤ 100000)
  | _ => true
theorem tupLe_ok {x : PyData} (h : tupLe x = true) : ∀ ds, x = .tuple ds → ds.length ≤ 100000 := fun ds e => by subst e; exact of_decide_eq_true h
theorem two_all {p : Int} {f : Int → PyData → Bool} {l : List PyData} (h : (l.all fun x => !(f p x) && tupLe x) = true) {x : PyData} (hx : x ∈ l) : f p x = false ∧ ∀ ds, x = .tuple ds → ds.length ≤ 100000 := by
  have q := List.all_eq_true.mp h x hx
  rw [Bool.and_eq_true] at q
  refine ⟨?_, tupLe_ok q.2⟩
  cases z : f p x with
  | false => rfl
  | true => rw [z] at q; cases q.1
theorem ixL4 {ds : List PyData} {j : Int} {x : PyData} (e : atI ds j = some x) : ixD (.list ds) (.int j) = some (.dat x) := by
  show (atI ds j).map Rv.dat = _
  rw [e]
  rfl
theorem mseq2 {a b f : Env → Fl} {ρ ρ1 : Env} (h : mSeq a b ρ = .nx ρ1) : mSeq a (mSeq b f) ρ = f ρ1 := by
  unfold mSeq at h ⊢
  cases z : a ρ with
  | nx ρ2 =>
    rw [z] at h
    have h' : b ρ2 = .nx ρ1 := h
    show fSeq (b ρ2) f = _
    rw [h']
    rfl
  | rt r ρ2 => rw [z] at h; cases h
  | bk ρ2 => rw [z] at h; cases h
  | ct ρ2 => rw [z] at h; cases h
  | ex x ρ2 => rw [z] at h; cases h
  | bad => rw [z] at h; cases h
theorem ix1 {ρ : Env} {k : Nat} {x y : PyData} {r : List PyData} (h : ρ[k]? = some (.dat (.tuple (x :: y :: r)))) : mIxN k (mPure (.int 1)) ρ = .ok (.dat y) ρ := by
  unfold mIxN
  rw [h]
  dsimp only
  refine opOk (x := .tuple (x :: y :: r)) (y := .int 1) (ρ1 := ρ) ?_ rfl (ixT (j := 1) rfl rfl)
  unfold mVar
  rw [h]
/-! ### lists at ties -/
/-! ### loops that go on or say no -/
theorem lp_test {b : PyData → Env → Option Env} {f : Env → Fl} {I : Env → Prop} {q : PyData → Bool} : ∀ {ds : List PyData} {ρ : Env}, (∀ d ∈ ds, ∀ ρ, I ρ → ∃ ρ1 ρ2, b d ρ = some ρ1 ∧ f ρ1 = (if q d = true then Fl.nx ρ2 else .rt (.dat (.bool false)) ρ2) ∧ I ρ2) → I ρ →
    ∃ ρ', loop b f ds ρ = (if ds.all q = true then Fl.nx ρ' else .rt (.dat (.bool false)) ρ') ∧ I ρ'
  | [], ρ, _, hI => ⟨ρ, rfl, hI⟩
  | d :: ds, ρ, h, hI => by
    obtain ⟨ρ1, ρ2, h1, h2, h3⟩ := h d (List.mem_cons_self ..) ρ hI
    unfold loop
    rw [h1]
    dsimp only
    rw [h2, List.all_cons]
    cases c : q d with
    | false =>
      refine ⟨ρ2, ?_, h3⟩
      rw [if_neg (by decide), Bool.false_and, if_neg (by decide)]
    | true =>
      rw [if_pos rfl, Bool.true_and]
      exact lp_test (fun x hx => h x (List.mem_cons_of_mem _ hx)) h3
theorem for_test {m : M (List PyData)} {b : PyData → Env → Option Env} {f : Env → Fl} {I : Env → Prop} {q : PyData → Bool} {ds : List PyData} {ρ ρ1 : Env} (hm : m ρ = .ok ds ρ1) (h : ∀ d ∈ ds, ∀ ρ, I ρ → ∃ ρ1 ρ2, b d ρ = some ρ1 ∧ f ρ1 = (if q d = true then Fl.nx ρ2 else .rt (.dat (.bool false)) ρ2) ∧ I ρ2) (hI : I ρ1) :
    ∃ ρ', mFor m b f ρ = (if ds.all q = true then Fl.nx ρ' else .rt (.dat (.bool false)) ρ') ∧ I ρ' := by
  obtain ⟨r, q1, q2⟩ := lp_test h hI
  exact ⟨r, (forOk hm).trans q1, q2⟩
/-! ### one list at the law's loop -/
def meetB : PyData → PyData → Bool
  | .tuple [.int a, .int b], .tuple [.int c, .int d] => decide (a ∈ [c, d]) || decide (b ∈ [c, d])
  | _, _ => false
/-! ### a comprehension with two fors whose parts change nothing -/
theorem cl2_pure {b b1 : PyData → Env → Option Env} {c c1 : M Bool} {m1 : M (List PyData)} {e : M PyData} {vs vs1 : List Nat} {ρ : Env} {p2 : PyData → PyData → Bool} {g : PyData → PyData → PyData} {L : PyData → List PyData} : ∀ {ds acc : List PyData},
    (∀ d ∈ ds, ∃ ρ1 ρ3, b d ρ = some ρ1 ∧ c ρ1 = .ok true ρ1 ∧ m1 ρ1 = .ok (L d) ρ3 ∧ (∀ d1 ∈ L d, ∃ ρ4, b1 d1 (wipeE ρ3 vs1) = some ρ4 ∧ c1 ρ4 = .ok (p2 d d1) ρ4 ∧ (p2 d d1 = true → e ρ4 = .ok (g d d1) ρ4) ∧ wipeE ρ4 vs1 = wipeE ρ3 vs1) ∧ wipeE (wipeE ρ3 vs1) vs = ρ ∧ (L d).length ≤ 100) → acc.length + 100 * ds.length ≤ 100000 →
    cloop2 b c m1 b1 c1 e vs vs1 ds ρ acc = .ok (acc ++ ds.flatMap fun d => ((L d).filter (p2 d)).map (g d)) ρ
  | [], acc, _, _ => by rw [List.flatMap_nil, List.append_nil]; rfl
  | d :: ds, acc, h, hl => by
    obtain ⟨ρ1, ρ3, h1, h2, h3, h4, h5, h6⟩ := h d (List.mem_cons_self ..)
    rw [List.length_cons] at hl
    unfold cloop2
    rw [h1]
    dsimp only
    rw [h2]
    dsimp only
    rw [h3]
    dsimp only
    rw [cl_pure h4 (by omega)]
    show cloop2 b c m1 b1 c1 e vs vs1 ds (wipeE (wipeE ρ3 vs1) vs) _ = _
    have fl := List.length_filter_le (p2 d) (L d)
    rw [h5, cl2_pure (fun x hx => h x (List.mem_cons_of_mem _ hx)) (by rw [List.length_append, List.length_map]; omega), List.flatMap_cons, List.append_assoc]
theorem comp2Ok {m m1 : M (List PyData)} {b b1 : PyData → Env → Option Env} {c c1 : M Bool} {e : M PyData} {vs vs1 : List Nat} {ρ ρ0 : Env} {p2 : PyData → PyData → Bool} {g : PyData → PyData → PyData} {L : PyData → List PyData} {ds : List PyData} (hm : m ρ = .ok ds ρ0)
    (h : ∀ d ∈ ds, ∃ ρ1 ρ3, b d (wipeE ρ0 vs) = some ρ1 ∧ c ρ1 = .ok true ρ1 ∧ m1 ρ1 = .ok (L d) ρ3 ∧ (∀ d1 ∈ L d, ∃ ρ4, b1 d1 (wipeE ρ3 vs1) = some ρ4 ∧ c1 ρ4 = .ok (p2 d d1) ρ4 ∧ (p2 d d1 = true → e ρ4 = .ok (g d d1) ρ4) ∧ wipeE ρ4 vs1 = wipeE ρ3 vs1) ∧ wipeE (wipeE ρ3 vs1) vs = wipeE ρ0 vs ∧ (L d).length ≤ 100) (hl : ds.length ≤ 900) :
    mComp2 m b c m1 b1 c1 e vs vs1 ρ = .ok (.new (ds.flatMap fun d => ((L d).filter (p2 d)).map (g d))) (wipeE ρ0 vs) := by
  unfold mComp2 mBind
  rw [hm]
  show R.bind (cloop2 b c m1 b1 c1 e vs vs1 ds (wipeE ρ0 vs) []) _ = _
  rw [cl2_pure h (by rw [List.length_nil]; omega)]
  rfl
/-! ### pairs of ties that meet -/
def numD : PyData → Int
  | .int i => i
  | _ => 0
def metP (ts : List PyData) (d e : PyData) : Bool := meetB (atD ts (numD d)) (atD ts (numD e))
def mPairs (ts : List PyData) : List PyData := (rngL 0 ts.length).flatMap fun d => ((rngL (numD d + 1) ((ts.length : Int) - (numD d + 1)).toNat).filter (metP ts d)).map fun e => .tuple [d, e]
theorem rngL_in {lo : Int} {n : Nat} {i : Int} (h : lo ≤ i) (h1 : i < lo + n) : PyData.int i ∈ rngL lo n := by
  unfold rngL
  refine List.mem_map.mpr ⟨(i - lo).toNat, List.mem_range.mpr (by omega), ?_⟩
  exact congrArg PyData.int (by omega)
theorem mPairs_mem {ts : List PyData} {x : PyData} : x ∈ mPairs ts ↔ ∃ i j : Int, x = pr i j ∧ 0 ≤ i ∧ i < j ∧ j < ts.length ∧ meetB (atD ts i) (atD ts j) = true := by
  unfold mPairs
  rw [List.mem_flatMap]
  constructor
  · rintro ⟨d, hd, hx⟩
    obtain ⟨i, rfl, i0, i1⟩ := rng_mem hd
    obtain ⟨e, he, rfl⟩ := List.mem_map.mp hx
    obtain ⟨he, hq⟩ := List.mem_filter.mp he
    obtain ⟨j, rfl, j0, j1⟩ := rng_mem he
    have j0 : i + 1 ≤ j := j0
    have j1 : j < i + 1 + (((ts.length : Int) - (i + 1)).toNat : Nat) := j1
    exact ⟨i, j, rfl, i0, by omega, by omega, hq⟩
  · rintro ⟨i, j, rfl, i0, ij, jn, hq⟩
    refine ⟨.int i, rngL_in i0 (by omega), List.mem_map.mpr ⟨.int j, List.mem_filter.mpr ⟨rngL_in (show i + 1 ≤ j by omega) ?_, hq⟩, rfl⟩⟩
    show j < i + 1 + (((ts.length : Int) - (i + 1)).toNat : Nat)
    omega
theorem ixAt {xs : List PyData} {m a : M PyData} {i : Int} {ρ : Env} (hm : m ρ = .ok (.tuple xs) ρ) (ha : a ρ = .ok (.int i) ρ) (h0 : 0 ≤ i) (h1 : i < xs.length) : mF (mOp ixD m a) ρ = .ok (atD xs i) ρ := by
  refine fD (opOk hm ha ?_)
  show (atI xs i).map Rv.dat = _
  rw [at_ok h0 h1]
  rfl
theorem ixNAt {xs : List PyData} {a : M PyData} {i : Int} {k : Nat} {ρ : Env} (h : ρ[k]? = some (.dat (.tuple xs))) (ha : a ρ = .ok (.int i) ρ) (h0 : 0 ≤ i) (h1 : i < xs.length) : mF (mIxN k a) ρ = .ok (atD xs i) ρ := by
  unfold mIxN
  have v : mVar k ρ = .ok (.tuple xs) ρ := by
    unfold mVar
    rw [h]
  show mMap frz (fun ρ => _) ρ = _
  unfold mMap
  dsimp only
  rw [h]
  exact ixAt v ha h0 h1
theorem Prs.at {p i : Int} {ts : List PyData} (h : Prs p ts) (h0 : 0 ≤ i) (h1 : i < ts.length) : ∃ a b, atD ts i = pr a b := by
  obtain ⟨a, b, e, _⟩ := h _ (atD_mem h0 h1)
  exact ⟨a, b, e⟩
theorem mPairs_len {ts : List PyData} (hl : ts.length ≤ 20) : (mPairs ts).length ≤ 400 := by
  unfold mPairs
  have z : ∀ l : List PyData, (∀ d ∈ l, ∃ i : Int, d = .int i ∧ 0 ≤ i) → (l.flatMap fun d => ((rngL (numD d + 1) ((ts.length : Int) - (numD d + 1)).toNat).filter (metP ts d)).map fun e => PyData.tuple [d, e]).length ≤ 20 * l.length := fun l => by
    induction l with
    | nil => exact fun _ => Nat.zero_le _
    | cons x r ih =>
      intro hx
      rw [List.flatMap_cons, List.length_append, List.length_cons, List.length_map]
      have f := List.length_filter_le (metP ts x) (rngL (numD x + 1) ((ts.length : Int) - (numD x + 1)).toNat)
      obtain ⟨i, rfl, i0⟩ := hx x (List.mem_cons_self ..)
      rw [rng_len] at f
      have f : _ ≤ ((ts.length : Int) - (i + 1)).toNat := f
      have := ih fun d hd => hx d (List.mem_cons_of_mem _ hd)
      omega
  have y := z (rngL 0 ts.length) fun d hd => by
    obtain ⟨i, rfl, i0, _⟩ := rng_mem hd
    exact ⟨i, rfl, i0⟩
  rw [rng_len] at y
  omega
/-! ### a tie choice -/
def tcT (ts ls : List PyData) : PyData → Bool
  | .tuple xs => decide ((xs.length : Int) = ls.length) && ((xs.zip ls).all chk && (mPairs ts).all (unl xs))
  | _ => false
theorem chk_nums {xs ls : List PyData} (hl : xs.length = ls.length) (q : (xs.zip ls).all chk = true) : ∀ x ∈ xs, ∃ i, x = .int i := fun x hx => by
  obtain ⟨y, hy⟩ := zip_left (l := xs) (m := ls) hl hx
  have z := List.all_eq_true.mp q _ hy
  unfold chk at z
  rw [Bool.and_eq_true] at z
  obtain ⟨i, e, _⟩ := rngT_int z.1
  exact ⟨i, e⟩
theorem listsOk {ts ls : List PyData} (hl : ls.length = ts.length) (hls : ∀ d ∈ ls, Hr d) : listsT ts.length (.tuple ls) = true := by
  show (decide _ && _) = true
  rw [decide_eq_true (show (ls.length : Int) = ts.length by omega), List.all_eq_true.mpr fun d hd => (hls d hd).hues]
  rfl
/-! ### as the law looks at it -/
def clsh (ts : List PyData) (ns : List Int) (a : Int) : PyData → Bool
  | .int k => !(decide (ns.getD k.toNat 0 = ns.getD a.toNat 0) && meetB (atD ts k) (atD ts a))
  | _ => false
def lawT (ts ls : List PyData) (ns : List Int) (d : PyData) : Bool := inAt (ns.map PyData.int) ls d && (rngL 0 (numD d).toNat).all (clsh ts ns (numD d))
theorem atD_ints {ns : List Int} {k : Int} (h0 : 0 ≤ k) (h1 : k < ns.length) : atD (ns.map PyData.int) k = .int (ns.getD k.toNat 0) := by
  unfold atD
  rw [List.getD_eq_getElem?_getD, List.getElem?_map, List.getD_eq_getElem?_getD, List.getElem?_eq_getElem (show k.toNat < ns.length by omega)]
  rfl
theorem law_two {p : Int} {ts ls : List PyData} {ns : List Int} (hl : ls.length = ts.length) (hn : ns.length = ts.length) (hls : ∀ d ∈ ls, Hr d) : tcT ts ls (.tuple (ns.map PyData.int)) = (rngL 0 ns.length).all (lawT ts ls ns) := by
  have a := all_at (p := ns.length) (xs := ns.map PyData.int) (ls := ls) (by rw [List.length_map]) (by omega) hls
  rw [Int.toNat_natCast] at a
  show (decide _ && (_ && _)) = _
  rw [decide_eq_true (by rw [List.length_map]; omega), Bool.true_and, ← a, Bool.eq_iff_iff, Bool.and_eq_true, List.all_eq_true, List.all_eq_true, List.all_eq_true]
  unfold lawT
  constructor
  · rintro ⟨h1, h2⟩ d hd
    rw [Bool.and_eq_true]
    refine ⟨h1 d hd, ?_⟩
    obtain ⟨j, rfl, j0, j1⟩ := rng_mem hd
    rw [List.all_eq_true]
    intro e he
    obtain ⟨i, rfl, i0, i1⟩ := rng_mem he
    have i1 : i < 0 + (j.toNat : Int) := i1
    show (!(decide _ && meetB _ (atD ts j))) = true
    cases q : meetB (atD ts i) (atD ts j) with
    | false => rw [Bool.and_false]; rfl
    | true =>
      have z := h2 (pr i j) (mPairs_mem.mpr ⟨i, j, rfl, i0, by omega, by omega, q⟩)
      have z : (!PyData.eqv (atD (ns.map PyData.int) i) (atD (ns.map PyData.int) j)) = true := z
      rw [atD_ints i0 (by omega), atD_ints j0 (by omega), show PyData.eqv (.int (ns.getD i.toNat 0)) (.int (ns.getD j.toNat 0)) = (ns.getD i.toNat 0 == ns.getD j.toNat 0) from rfl, ibeq] at z
      rw [Bool.and_true]
      exact z
  · intro h
    refine ⟨fun d hd => ((Bool.and_eq_true _ _ ▸ h d hd : _ ∧ _)).1, fun d hd => ?_⟩
    obtain ⟨i, j, rfl, i0, ij, j1, q⟩ := mPairs_mem.mp hd
    have z := h (.int j) (rngL_in (by omega) (by omega))
    rw [Bool.and_eq_true, List.all_eq_true] at z
    have z := z.2 (.int i) (rngL_in i0 (by show i < 0 + (j.toNat : Int); omega))
    have z : (!(decide (ns.getD i.toNat 0 = ns.getD j.toNat 0) && meetB (atD ts i) (atD ts j))) = true := z
    rw [q, Bool.and_true] at z
    show (!PyData.eqv (atD (ns.map PyData.int) i) (atD (ns.map PyData.int) j)) = true
    rw [atD_ints i0 (by omega), atD_ints (k := j) (by omega) (by omega), show PyData.eqv (.int (ns.getD i.toNat 0)) (.int (ns.getD j.toNat 0)) = (ns.getD i.toNat 0 == ns.getD j.toNat 0) from rfl, ibeq]
    exact z
theorem callB0' {f : Fn} {n : Nat} {m : M (List PyData)} {xs d0 d1 d2 : List PyData} {r : Rv} {ρ ρ' : Env} {as : List Ar} (h : m (.lnt d0 :: ρ) = .ok xs (.lnt d1 :: ρ')) (hn : xs.length + 1 = n) (hf : f (.lnt d1 :: xs.map Ar.dat) = .ok r (.lnt d2 :: as)) : mCallB n f 0 m (.lnt d0 :: ρ) = .ok r (.lnt d2 :: ρ') := callB0 h hn hf
/-! ### odd things -/
def menuO : List PyData := [.none, .bool true, .bool false, .int (-1), .int 2, .str "", .str "1", ti [0], .list [.int 1], .dict [(.str "a", .int 1)], ti [-1], .tuple [.bool true], .tuple [ti [1]], .tuple [.none], .int (10 ^ 29), .list []]
theorem menuO_th : ∀ x ∈ menuO, Th 3 40 x := by
  have h : menuO.all (thB 3 40) = true := by decide +kernel
  exact fun x hx => thB_ok (List.all_eq_true.mp h x hx)
/-! ### all tie choices -/
/-! ### bent things -/
def bentG (es : List PyData) (i : Int) : PyData → PyData
  | .tuple t => .tuple (cutD es none (some i) ++ t ++ cutD es (some (i + 1)) none)
  | _ => .none
theorem repr_th {x : PyData} (h : Th 5 5000 x) : reprD [x] = some (.dat (.str x.shown)) := by
  show (if shw x = true then _ else _) = _
  rw [if_pos (h.shw (by omega) (by omega))]
theorem ne_bool (b : Bool) : fNe (.bool b) (.bool b) = some (.dat (.bool false)) := by cases b <;> rfl
theorem mifT {α : Type} {c : M Bool} {a b : M α} {ρ ρ1 : Env} (h : c ρ = .ok true ρ1) : mIf c a b ρ = a ρ1 := by
  unfold mIf mBind
  rw [h]
  rfl
theorem mifF {α : Type} {c : M Bool} {a b : M α} {ρ ρ1 : Env} (h : c ρ = .ok false ρ1) : mIf c a b ρ = b ρ1 := by
  unfold mIf mBind
  rw [h]
  rfl
/-! ### the first six ties -/
theorem cut_six (ds : List PyData) : cutD ds none (some 6) = ds.take 6 := by
  unfold cutD
  rw [HT.sIx_none, show HT.sIx ds.length ds.length (some 6) = min 6 ds.length from HT.sIx_nat ds.length ds.length 6, List.drop_zero]
  rcases Nat.lt_or_ge ds.length 6 with h | h
  · rw [show min 6 ds.length - 0 = ds.length by omega, List.take_length, List.take_of_length_le (by omega)]
  · rw [show min 6 ds.length - 0 = 6 by omega]
theorem steps_take (lt : PyData → PyData → Bool) : ∀ (ds : List PyData) (k : Nat), steps lt ds = true → steps lt (ds.take k) = true
  | [], k, _ => by rw [List.take_nil]; rfl
  | [x], 0, _ => rfl
  | [x], k + 1, _ => by rw [List.take_succ_cons, List.take_nil]; rfl
  | x :: y :: r, 0, _ => rfl
  | x :: y :: r, 1, _ => rfl
  | x :: y :: r, k + 2, h => by
    rw [steps_two, Bool.and_eq_true] at h
    have ih := steps_take lt (y :: r) (k + 1) h.2
    rw [List.take_succ_cons] at ih
    rw [List.take_succ_cons, List.take_succ_cons, steps_two, h.1, ih]
    rfl
theorem web_six {p : Int} {ts : List PyData} (h : Web (.tuple [.int p, .tuple ts])) : Web (.tuple [.int p, .tuple (ts.take 6)]) := by
  obtain ⟨q, us, e, p1, p6, ht, tl, hp⟩ := h
  cases e
  have ht : (ts.all (tieT p) && steps ltP ts) = true := ht
  rw [Bool.and_eq_true] at ht
  refine ⟨p, ts.take 6, rfl, p1, p6, ?_, by rw [List.length_take]; omega, fun d hd => hp d (List.mem_of_mem_take hd)⟩
  show (_ && _) = true
  rw [steps_take ltP ts 6 ht.2, Bool.and_true, List.all_eq_true]
  exact fun d hd => List.all_eq_true.mp ht.1 d (List.mem_of_mem_take hd)
theorem Tu.lay {v : Int} {d : PyData} (h : Tu v d) : d.canLay0 = true ∧ d.depth ≤ 10 := by
  obtain ⟨ms, rfl, _⟩ := h
  rw [PyData.canLay0, layA_ints, PyData.depth, depA_ints]
  exact ⟨rfl, by omega⟩
/-! ### one thing, looked at as lists -/
/-! ### one thing, looked at as a choice -/
/-! ### one turn -/
/-! ### a comprehension with two fors, the first with a test -/
theorem cl2c_pure {b b1 : PyData → Env → Option Env} {c c1 : M Bool} {m1 : M (List PyData)} {e : M PyData} {vs vs1 : List Nat} {ρ : Env} {pc : PyData → Bool} {p2 : PyData → PyData → Bool} {g : PyData → PyData → PyData} {L : PyData → List PyData} : ∀ {ds acc : List PyData},
    (∀ d ∈ ds, ∃ ρ1 ρ3, b d ρ = some ρ1 ∧ c ρ1 = .ok (pc d) ρ1 ∧ wipeE ρ1 vs = ρ ∧ (pc d = true → m1 ρ1 = .ok (L d) ρ3 ∧ (∀ d1 ∈ L d, ∃ ρ4, b1 d1 (wipeE ρ3 vs1) = some ρ4 ∧ c1 ρ4 = .ok (p2 d d1) ρ4 ∧ (p2 d d1 = true → e ρ4 = .ok (g d d1) ρ4) ∧ wipeE ρ4 vs1 = wipeE ρ3 vs1) ∧ wipeE (wipeE ρ3 vs1) vs = ρ ∧ (L d).length ≤ 100)) → acc.length + 100 * ds.length ≤ 100000 →
    cloop2 b c m1 b1 c1 e vs vs1 ds ρ acc = .ok (acc ++ (ds.filter pc).flatMap fun d => ((L d).filter (p2 d)).map (g d)) ρ
  | [], acc, _, _ => by rw [List.filter_nil, List.flatMap_nil, List.append_nil]; rfl
  | d :: ds, acc, h, hl => by
    obtain ⟨ρ1, ρ3, h1, h2, h0, h3⟩ := h d (List.mem_cons_self ..)
    rw [List.length_cons] at hl
    unfold cloop2
    rw [h1]
    dsimp only
    rw [h2]
    cases q : pc d with
    | false =>
      dsimp only
      rw [h0, cl2c_pure (fun x hx => h x (List.mem_cons_of_mem _ hx)) (by omega), List.filter_cons, if_neg (by rw [q]; decide)]
    | true =>
      obtain ⟨h3, h4, h5, h6⟩ := h3 q
      dsimp only
      rw [h3]
      dsimp only
      rw [cl_pure h4 (by omega)]
      show cloop2 b c m1 b1 c1 e vs vs1 ds (wipeE (wipeE ρ3 vs1) vs) _ = _
      have fl := List.length_filter_le (p2 d) (L d)
      rw [h5, cl2c_pure (fun x hx => h x (List.mem_cons_of_mem _ hx)) (by rw [List.length_append, List.length_map]; omega), List.filter_cons, if_pos q, List.flatMap_cons, List.append_assoc]
theorem comp2C {m m1 : M (List PyData)} {b b1 : PyData → Env → Option Env} {c c1 : M Bool} {e : M PyData} {vs vs1 : List Nat} {ρ ρ0 : Env} {pc : PyData → Bool} {p2 : PyData → PyData → Bool} {g : PyData → PyData → PyData} {L : PyData → List PyData} {ds : List PyData} (hm : m ρ = .ok ds ρ0)
    (h : ∀ d ∈ ds, ∃ ρ1 ρ3, b d (wipeE ρ0 vs) = some ρ1 ∧ c ρ1 = .ok (pc d) ρ1 ∧ wipeE ρ1 vs = wipeE ρ0 vs ∧ (pc d = true → m1 ρ1 = .ok (L d) ρ3 ∧ (∀ d1 ∈ L d, ∃ ρ4, b1 d1 (wipeE ρ3 vs1) = some ρ4 ∧ c1 ρ4 = .ok (p2 d d1) ρ4 ∧ (p2 d d1 = true → e ρ4 = .ok (g d d1) ρ4) ∧ wipeE ρ4 vs1 = wipeE ρ3 vs1) ∧ wipeE (wipeE ρ3 vs1) vs = wipeE ρ0 vs ∧ (L d).length ≤ 100)) (hl : ds.length ≤ 900) :
    mComp2 m b c m1 b1 c1 e vs vs1 ρ = .ok (.new ((ds.filter pc).flatMap fun d => ((L d).filter (p2 d)).map (g d))) (wipeE ρ0 vs) := by
  unfold mComp2 mBind
  rw [hm]
  show R.bind (cloop2 b c m1 b1 c1 e vs vs1 ds (wipeE ρ0 vs) []) _ = _
  rw [cl2c_pure h (by rw [List.length_nil]; omega)]
  rfl
/-! ### groups that ties join -/
def hasB (a b : Int) (l : List Int) : Bool := decide (a ∈ l) || decide (b ∈ l)
def stepG (a b : Int) (Gs : List (List Int)) : List (List Int) := Gs.filter (fun l => !hasB a b l) ++ [(Gs.filter (hasB a b)).flatten]
def fstD : PyData → Int
  | .tuple [.int a, _] => a
  | _ => 0
def sndD : PyData → Int
  | .tuple [_, .int b] => b
  | _ => 0
def groupsOf (p : Int) (ts : List PyData) : List (List Int) := ts.foldl (fun Gs t => stepG (fstD t) (sndD t) Gs) ((rngI p.toNat).map fun v => [v])
structure Gi (p : Int) (Gs : List (List Int)) : Prop where
  ne : ∀ l ∈ Gs, l ≠ []
  pm : Gs.flatten.Perm (rngI p.toNat)
theorem flat_filter (f : List Int → Bool) : ∀ Gs : List (List Int), ((Gs.filter fun l => !f l) ++ [(Gs.filter f).flatten]).flatten.Perm Gs.flatten
  | [] => by simp
  | l :: Gs => by
    have ih := flat_filter f Gs
    rw [List.flatten_append, List.flatten_singleton] at ih ⊢
    rw [List.filter_cons, List.filter_cons, List.flatten_cons]
    cases f l with
    | false =>
      rw [Bool.not_false, if_pos rfl, if_neg (by decide), List.flatten_cons, List.append_assoc]
      exact List.Perm.append_left l ih
    | true =>
      rw [Bool.not_true, if_neg (by decide), if_pos rfl, List.flatten_cons]
      refine List.Perm.trans ?_ (List.Perm.append_left l ih)
      rw [← List.append_assoc, ← List.append_assoc]
      exact List.Perm.append_right _ List.perm_append_comm
theorem Gi.start (p : Int) : Gi p ((rngI p.toNat).map fun v => [v]) := by
  refine ⟨fun l hl => ?_, ?_⟩
  · obtain ⟨v, _, rfl⟩ := List.mem_map.mp hl
    exact fun z => nomatch z
  · have e : ∀ l : List Int, (l.map fun v => [v]).flatten = l := fun l => by
      induction l with
      | nil => rfl
      | cons x r ih => rw [List.map_cons, List.flatten_cons, ih]; rfl
    rw [e]
theorem Gi.step {p a b : Int} {Gs : List (List Int)} (h : Gi p Gs) (a0 : 0 ≤ a) (ap : a < p) : Gi p (stepG a b Gs) := by
  refine ⟨fun l hl => ?_, (flat_filter (hasB a b) Gs).trans h.pm⟩
  rcases List.mem_append.mp hl with q | q
  · exact h.ne l (List.mem_filter.mp q).1
  · rw [List.mem_singleton.mp q]
    have m : a ∈ Gs.flatten := h.pm.mem_iff.mpr (rngI_mem.mpr ⟨a0, by omega⟩)
    obtain ⟨g, hg, ha⟩ := List.mem_flatten.mp m
    have : a ∈ (Gs.filter (hasB a b)).flatten := List.mem_flatten.mpr ⟨g, List.mem_filter.mpr ⟨hg, by unfold hasB; rw [decide_eq_true ha]; rfl⟩, ha⟩
    intro z
    rw [z] at this
    cases this
theorem len_flat : ∀ {Gs : List (List Int)}, (∀ l ∈ Gs, l ≠ []) → Gs.length ≤ Gs.flatten.length
  | [], _ => Nat.le_refl _
  | l :: Gs, h => by
    have ih := len_flat (Gs := Gs) fun x hx => h x (List.mem_cons_of_mem _ hx)
    have := List.length_pos_iff.mpr (h l (List.mem_cons_self ..))
    rw [List.length_cons, List.flatten_cons, List.length_append]
    omega
theorem Gi.len {p : Int} {Gs : List (List Int)} (h : Gi p Gs) (p6 : p ≤ 6) : Gs.length ≤ 6 ∧ ∀ l ∈ Gs, l.length ≤ 6 := by
  have fl : Gs.flatten.length ≤ 6 := by
    rw [h.pm.length_eq, rngI_len]
    omega
  refine ⟨Nat.le_trans (len_flat h.ne) fl, fun l hl => ?_⟩
  have : l.Sublist Gs.flatten := List.sublist_flatten_of_mem hl
  exact Nat.le_trans this.length_le fl
def unti : PyData → List Int
  | .tuple ds => ds.map numD
  | _ => []
theorem unti_ti (l : List Int) : unti (ti l) = l := by
  show (l.map PyData.int).map numD = l
  rw [List.map_map]
  have : numD ∘ PyData.int = id := by funext x; rfl
  rw [this, List.map_id]
theorem sortA_ints (l : List Int) : sortAD [.tuple (l.map PyData.int)] = some (.new ((isort l).map PyData.int)) := by
  show Option.or none ((intsD (l.map PyData.int)).map _) = _
  rw [intsD_map]
  rfl
theorem fold_take {α β : Type} (f : β → α → β) (z : β) {l : List α} {k : Nat} {x : α} (h : l[k]? = some x) : (l.take (k + 1)).foldl f z = f ((l.take k).foldl f z) x := by
  rw [List.take_add_one, h, List.foldl_append]
  rfl
theorem Gi.groups {p : Int} {ts : List PyData} (h : Prs p ts) : Gi p (groupsOf p ts) := by
  unfold groupsOf
  have z : ∀ (l : List PyData) (Gs : List (List Int)), Prs p l → Gi p Gs → Gi p (l.foldl (fun Gs t => stepG (fstD t) (sndD t) Gs) Gs) := fun l => by
    induction l with
    | nil => exact fun Gs _ h => h
    | cons t r ih =>
      intro Gs hp h
      obtain ⟨a, b, rfl, a0, ab, bp⟩ := hp t (List.mem_cons_self ..)
      exact ih _ (fun d hd => hp d (List.mem_cons_of_mem _ hd)) (h.step a0 (show a < p by omega))
  exact z ts _ h (Gi.start p)
theorem Prs.take {p : Int} {ts : List PyData} (h : Prs p ts) (k : Nat) : Prs p (ts.take k) := fun d hd => h d (List.mem_of_mem_take hd)
/-! ### things that are no web -/
def nwA : List PyData := [.none, .tuple [.int 0, .tuple []], .tuple [.int 7, .tuple []], .tuple [.int 2, .tuple [pr 1 0]], .tuple [.int 2, .tuple [pr 0 1, pr 0 1]], .tuple [.int 3, .list [pr 0 1]]]
def nwB : List PyData := [.tuple [.bool true, .tuple []], .tuple [.int 2, .tuple [pr 0 2]], .tuple [.int 3, .tuple [pr 1 2, pr 0 1]], .list [.int 1, .tuple []], ti [2], .str "2"]
def nwC : List PyData := [.tuple [.int 2, .tuple [ti [0, 1, 1]]], .tuple [.int 2, .tuple [.tuple [.int 0, .bool true]]], .int 5, .dict []]
def fewB : PyData → Bool
  | .tuple [_, .tuple ds] => decide (ds.length ≤ 100000)
  | _ => true
theorem fewB_ok {x : PyData} (h : fewB x = true) : Few x := fun p t e ds e2 => by
  subst e e2
  exact of_decide_eq_true h
theorem nw_no : ∀ x ∈ nwA ++ nwB ++ nwC, Few x ∧ webT x = false := by
  have h : (nwA ++ nwB ++ nwC).all (fun x => fewB x && !webT x) = true := by decide +kernel
  intro x hx
  have z := List.all_eq_true.mp h x hx
  rw [Bool.and_eq_true, Bool.not_eq_true'] at z
  exact ⟨fewB_ok z.1, z.2⟩
/-! ### what is refused -/
section
variable {c : Str} {w l : PyData}
end
/-! ### good lists -/
def gl (p : Int) : List PyData := List.replicate p.toNat (ti [0, 3])
theorem five {p : Int} {P : Int → Prop} (h2 : 2 ≤ p) (h6 : p ≤ 6) (a : P 2) (b : P 3) (c : P 4) (d : P 5) (e : P 6) : P p := by
  have q : p = 2 ∨ p = 3 ∨ p = 4 ∨ p = 5 ∨ p = 6 := by omega
  rcases q with rfl | rfl | rfl | rfl | rfl
  · exact a
  · exact b
  · exact c
  · exact d
  · exact e
theorem gl_ok {p : Int} (h2 : 2 ≤ p) (h6 : p ≤ 6) : listsT p (.tuple (gl p)) = true := five (P := fun p => listsT p (.tuple (gl p)) = true) h2 h6 (by decide +kernel) (by decide +kernel) (by decide +kernel) (by decide +kernel) (by decide +kernel)
theorem gl_len {p : Int} (h2 : 2 ≤ p) (h6 : p ≤ 6) : (gl p).length ≤ 6 := by
  unfold gl
  rw [List.length_replicate]
  omega
section
variable {p : Int} {ts : List PyData}
end
def dueG : PyData → PyData
  | .int k => if k < 3 then .list [.int 4] else .list []
  | _ => .none
/-! ### lists that are none -/
def bd1 (p : Int) : List PyData := [.none, .tuple ((gl p).drop 1), .list (gl p), .tuple (gl p ++ [ti [1]]), .tuple ((gl p).drop 1 ++ [ti [3, 0]]), .tuple ((gl p).drop 1 ++ [ti [0, 100]])]
def bd2 (p : Int) : List PyData := [.tuple ((gl p).drop 1 ++ [.tuple [.int 0, .bool true]]), .tuple ((gl p).drop 1 ++ [.none]), .tuple ((gl p).drop 1 ++ [.list [.int 0]]), .tuple ((gl p).drop 1 ++ [ti [0, 1, 2, 3, 4, 5, 6, 7, 8]])]
theorem bd_no {p : Int} (h2 : 2 ≤ p) (h6 : p ≤ 6) : ∀ x ∈ bd1 p ++ bd2 p, listsT p x = false ∧ ∀ ds, x = .tuple ds → ds.length ≤ 100000 := fun x hx => two_all (f := listsT) (five (P := fun p => ((bd1 p ++ bd2 p).all fun x => !(listsT p x) && tupLe x) = true) h2 h6 (by decide +kernel) (by decide +kernel) (by decide +kernel) (by decide +kernel) (by decide +kernel)) hx
/-! ### one turn -/
theorem rep_of {es : List PyData} {d : PyData} {n : Nat} (h : es.length = n) (g : ∀ y ∈ es, y = d) : es = List.replicate n d := List.eq_replicate_iff.mpr ⟨h, g⟩
end Hue
-- W_k52
namespace Hue
open PySem PySem.Spec PyProof.Rows L2
abbrev wEnv (lo hi n p k q : Int) (e : List PyData) (s7 s8 s9 s10 s11 s12 s13 : Sl) : Env := [.lnt [.int n], .dat (.int lo), .dat (.int hi), .dat (.int p), .dat (.int k), .dat (.int q), .own e, s7, s8, s9, s10, s11, s12, s13, .un, .un, .un, .un]
abbrev webIn : Env → Fl := (mSeq (mSet 10 (mOp fLt (mF (mCallB 2 f_law_take 0 (mCons (mPure (.int 4)) mNil))) (mVar 5)))
  (mSeq (mSet 11 (mD (mAndV (mF (mOp fIn (mF (mOp fSub (mVar 7) (mVar 9))) (mTup (mCons (mPure (.int 1)) (mCons (mF (mOp fSub (mVar 3) (mPure (.int 1)))) mNil))))) (mF (mOp fEq (mVar 4) (mPure (.int 2)))))))
  (mSeq (mSet 12 (mD (mAndV (mF (mOp fEq (mF (mOp fMod (mF (mOp fAdd (mVar 9) (mVar 7))) (mPure (.int 2)))) (mPure (.int 1)))) (mAndV (mF (mOp fEq (mVar 4) (mPure (.int 4)))) (mVar 10)))))
  (mSeq (mSet 13 (mD (mOrV (mF (mOp fEq (mVar 9) (mVar 8))) (mAndV (mF (mOp fEq (mVar 4) (mPure (.int 5)))) (mAndV (mF (mOp fEq (mF (mOp fMod (mVar 7) (mPure (.int 2)))) (mPure (.int 0)))) (mF (mOp fEq (mVar 9) (mF (mOp fSub (mVar 7) (mPure (.int 1)))))))))))
  (mIfS (mOr (mAnd (mB (mF (mOp fIn (mVar 4) (mTup (mCons (mPure (.int 1)) (mCons (mPure (.int 5)) mNil)))))) (mT (mVar 13))) (mAnd (mB (mF (mOp fIn (mVar 4) (mTup (mCons (mPure (.int 0)) (mCons (mPure (.int 6)) mNil)))))) (mT (mVar 10)))) (mApp 6 (mTup (mCons (mVar 9) (mCons (mVar 7) mNil)))) (mIfS (mOr (mT (mVar 11)) (mOr (mB (mF (mOp fEq (mVar 4) (mPure (.int 3))))) (mT (mVar 12)))) (mApp 6 (mTup (mCons (mVar 9) (mCons (mVar 7) mNil)))) Fl.nx))))))
theorem web_in {lo hi n p k q j : Int} {e : List PyData} {o m : Nat} {s10 s11 s12 s13 : Sl} (om : m < o) (op : (o : Int) < p) (p6 : p ≤ 6) (h10 : Nl s10) (h11 : Nl s11) (h12 : Nl s12) (h13 : Nl s13) (h : Pl p e (o * 8 + m) (tri o + m)) :
    ∃ n' e' t10 t11 t12 t13, webIn (wEnv lo hi n p k q e (.dat (.int o)) (.dat (.int j)) (.dat (.int m)) s10 s11 s12 s13) = .nx (wEnv lo hi n' p k q e' (.dat (.int o)) (.dat (.int j)) (.dat (.int m)) t10 t11 t12 t13) ∧ Nl t10 ∧ Nl t11 ∧ Nl t12 ∧ Nl t13 ∧ Pl p e' (o * 8 + (m + 1 : Nat)) (tri o + (m + 1)) := by
  have tl := tri_le (k := o) (by omega)
  have hlen := h.len
  obtain ⟨b10, g10⟩ : ∃ b10, mSet 10 (mOp fLt (mF (mCallB 2 f_law_take 0 (mCons (mPure (.int 4)) mNil))) (mVar 5)) (wEnv lo hi n p k q e (.dat (.int o)) (.dat (.int j)) (.dat (.int m)) s10 s11 s12 s13) = .nx (wEnv lo hi (n / 4) p k q e (.dat (.int o)) (.dat (.int j)) (.dat (.int m)) (.dat (.bool b10)) s11 s12 s13) := ⟨decide (n % 4 < q), setOk (r := .dat (.bool _)) (opOk (fD (take0 rfl (by omega) (by omega))) rfl (lt_ints _ _)) (set_at (s := s10) rfl h10)⟩
  obtain ⟨b11, g11⟩ : ∃ b11, mSet 11 (mD (mAndV (mF (mOp fIn (mF (mOp fSub (mVar 7) (mVar 9))) (mTup (mCons (mPure (.int 1)) (mCons (mF (mOp fSub (mVar 3) (mPure (.int 1)))) mNil))))) (mF (mOp fEq (mVar 4) (mPure (.int 2)))))) (wEnv lo hi (n / 4) p k q e (.dat (.int o)) (.dat (.int j)) (.dat (.int m)) (.dat (.bool b10)) s11 s12 s13) = .nx (wEnv lo hi (n / 4) p k q e (.dat (.int o)) (.dat (.int j)) (.dat (.int m)) (.dat (.bool b10)) (.dat (.bool b11)) s12 s13) := by
    refine ⟨_, setOk (r := .dat (.bool _)) (ρ1 := (wEnv lo hi (n / 4) p k q e (.dat (.int o)) (.dat (.int j)) (.dat (.int m)) (.dat (.bool b10)) s11 s12 s13)) (dOk (and_val (p := decide ((o : Int) - m ∈ [1, p - 1])) (q := decide (k = 2)) (fD (opOk (x := .int ((o : Int) - m)) (y := .tuple [.int 1, .int (p - 1)]) (fD (opOk rfl rfl rfl)) (tupOk (consOk rfl (consOk (fD (opOk rfl rfl rfl)) nilOk)) (by show 2 ≤ 100000; decide)) (in_int _ [1, p - 1]))) fun _ => fD (opOk rfl rfl (eq_ints k 2)))) (set_at (s := s11) rfl h11)⟩
  obtain ⟨b12, g12⟩ : ∃ b12, mSet 12 (mD (mAndV (mF (mOp fEq (mF (mOp fMod (mF (mOp fAdd (mVar 9) (mVar 7))) (mPure (.int 2)))) (mPure (.int 1)))) (mAndV (mF (mOp fEq (mVar 4) (mPure (.int 4)))) (mVar 10)))) (wEnv lo hi (n / 4) p k q e (.dat (.int o)) (.dat (.int j)) (.dat (.int m)) (.dat (.bool b10)) (.dat (.bool b11)) s12 s13) = .nx (wEnv lo hi (n / 4) p k q e (.dat (.int o)) (.dat (.int j)) (.dat (.int m)) (.dat (.bool b10)) (.dat (.bool b11)) (.dat (.bool b12)) s13) := by
    refine ⟨_, setOk (r := .dat (.bool _)) (ρ1 := (wEnv lo hi (n / 4) p k q e (.dat (.int o)) (.dat (.int j)) (.dat (.int m)) (.dat (.bool b10)) (.dat (.bool b11)) s12 s13)) (dOk (and_val (p := decide (((m : Int) + o) % 2 = 1)) (fD (opOk (x := .int (((m : Int) + o) % 2)) (y := .int 1) (fD (opOk (x := .int ((m : Int) + o)) (y := .int 2) (fD (opOk rfl rfl rfl)) rfl (mod_fits (by omega)))) rfl (eq_ints _ 1))) fun _ => and_val (p := decide (k = 4)) (q := b10) (fD (opOk rfl rfl (eq_ints k 4))) fun _ => rfl)) (set_at (s := s12) rfl h12)⟩
  obtain ⟨b13, g13⟩ : ∃ b13, mSet 13 (mD (mOrV (mF (mOp fEq (mVar 9) (mVar 8))) (mAndV (mF (mOp fEq (mVar 4) (mPure (.int 5)))) (mAndV (mF (mOp fEq (mF (mOp fMod (mVar 7) (mPure (.int 2)))) (mPure (.int 0)))) (mF (mOp fEq (mVar 9) (mF (mOp fSub (mVar 7) (mPure (.int 1)))))))))) (wEnv lo hi (n / 4) p k q e (.dat (.int o)) (.dat (.int j)) (.dat (.int m)) (.dat (.bool b10)) (.dat (.bool b11)) (.dat (.bool b12)) s13) = .nx (wEnv lo hi (n / 4) p k q e (.dat (.int o)) (.dat (.int j)) (.dat (.int m)) (.dat (.bool b10)) (.dat (.bool b11)) (.dat (.bool b12)) (.dat (.bool b13))) := by
    refine ⟨_, setOk (r := .dat (.bool _)) (ρ1 := (wEnv lo hi (n / 4) p k q e (.dat (.int o)) (.dat (.int j)) (.dat (.int m)) (.dat (.bool b10)) (.dat (.bool b11)) (.dat (.bool b12)) s13)) (dOk (or_val (p := decide ((m : Int) = j)) (fD (opOk rfl rfl (eq_ints (m : Int) j))) fun _ => and_val (p := decide (k = 5)) (fD (opOk rfl rfl (eq_ints k 5))) fun _ => and_val (p := decide ((o : Int) % 2 = 0)) (q := decide ((m : Int) = (o : Int) - 1)) (fD (opOk (x := .int ((o : Int) % 2)) (y := .int 0) (fD (opOk (x := .int (o : Int)) (y := .int 2) rfl rfl (mod_fits (by omega)))) rfl (eq_ints _ 0))) fun _ => fD (opOk (x := .int (m : Int)) (y := .int ((o : Int) - 1)) rfl (fD (opOk rfl rfl rfl)) (eq_ints _ _)))) (set_at (s := s13) rfl h13)⟩
  obtain ⟨c1, f1⟩ : ∃ c, (mOr (mAnd (mB (mF (mOp fIn (mVar 4) (mTup (mCons (mPure (.int 1)) (mCons (mPure (.int 5)) mNil)))))) (mT (mVar 13))) (mAnd (mB (mF (mOp fIn (mVar 4) (mTup (mCons (mPure (.int 0)) (mCons (mPure (.int 6)) mNil)))))) (mT (mVar 10)))) (wEnv lo hi (n / 4) p k q e (.dat (.int o)) (.dat (.int j)) (.dat (.int m)) (.dat (.bool b10)) (.dat (.bool b11)) (.dat (.bool b12)) (.dat (.bool b13))) = .ok c (wEnv lo hi (n / 4) p k q e (.dat (.int o)) (.dat (.int j)) (.dat (.int m)) (.dat (.bool b10)) (.dat (.bool b11)) (.dat (.bool b12)) (.dat (.bool b13))) := ⟨_, orOk (andOk (q := b13) (bOk (fD (opOk (x := .int k) (y := .tuple [.int 1, .int 5]) rfl rfl (in_int k [1, 5])))) fun _ => tOk rfl) fun _ => andOk (q := b10) (bOk (fD (opOk (x := .int k) (y := .tuple [.int 0, .int 6]) rfl rfl (in_int k [0, 6])))) fun _ => tOk rfl⟩
  obtain ⟨c2, f2⟩ : ∃ c, (mOr (mT (mVar 11)) (mOr (mB (mF (mOp fEq (mVar 4) (mPure (.int 3))))) (mT (mVar 12)))) (wEnv lo hi (n / 4) p k q e (.dat (.int o)) (.dat (.int j)) (.dat (.int m)) (.dat (.bool b10)) (.dat (.bool b11)) (.dat (.bool b12)) (.dat (.bool b13))) = .ok c (wEnv lo hi (n / 4) p k q e (.dat (.int o)) (.dat (.int j)) (.dat (.int m)) (.dat (.bool b10)) (.dat (.bool b11)) (.dat (.bool b12)) (.dat (.bool b13))) := ⟨_, orOk (p := b11) (tOk rfl) fun _ => orOk (p := decide (k = 3)) (q := b12) (bOk (fD (opOk rfl rfl (eq_ints k 3)))) fun _ => tOk rfl⟩
  have ap : mApp 6 (mTup (mCons (mVar 9) (mCons (mVar 7) mNil))) (wEnv lo hi (n / 4) p k q e (.dat (.int o)) (.dat (.int j)) (.dat (.int m)) (.dat (.bool b10)) (.dat (.bool b11)) (.dat (.bool b12)) (.dat (.bool b13))) = .nx (wEnv lo hi (n / 4) p k q (e ++ [pr m o]) (.dat (.int o)) (.dat (.int j)) (.dat (.int m)) (.dat (.bool b10)) (.dat (.bool b11)) (.dat (.bool b12)) (.dat (.bool b13))) := appOk (z := e) (ds := e) (d := pr m o) rfl (tupOk (consOk rfl (consOk rfl nilOk)) (by show 2 ≤ 100000; decide)) rfl (by omega) rfl
  have pl : Pl p (e ++ [pr m o]) (o * 8 + (m + 1 : Nat)) (tri o + (m + 1)) := (h.add (a := m) (b := o) (by omega) (by omega) op (Int.le_refl _)).more (by omega) (by omega)
  have go : ∀ ρ', (mIfS (mOr (mAnd (mB (mF (mOp fIn (mVar 4) (mTup (mCons (mPure (.int 1)) (mCons (mPure (.int 5)) mNil)))))) (mT (mVar 13))) (mAnd (mB (mF (mOp fIn (mVar 4) (mTup (mCons (mPure (.int 0)) (mCons (mPure (.int 6)) mNil)))))) (mT (mVar 10)))) (mApp 6 (mTup (mCons (mVar 9) (mCons (mVar 7) mNil)))) (mIfS (mOr (mT (mVar 11)) (mOr (mB (mF (mOp fEq (mVar 4) (mPure (.int 3))))) (mT (mVar 12)))) (mApp 6 (mTup (mCons (mVar 9) (mCons (mVar 7) mNil)))) Fl.nx)) (wEnv lo hi (n / 4) p k q e (.dat (.int o)) (.dat (.int j)) (.dat (.int m)) (.dat (.bool b10)) (.dat (.bool b11)) (.dat (.bool b12)) (.dat (.bool b13))) = .nx ρ' → webIn (wEnv lo hi n p k q e (.dat (.int o)) (.dat (.int j)) (.dat (.int m)) s10 s11 s12 s13) = .nx ρ' := fun ρ' hh => (seqOk g10).trans ((seqOk g11).trans ((seqOk g12).trans ((seqOk g13).trans hh)))
  cases c1 with
  | true => exact ⟨_, _, _, _, _, _, go _ ((ifT f1).trans ap), nl_dat, nl_dat, nl_dat, nl_dat, pl⟩
  | false =>
    cases c2 with
    | true => exact ⟨_, _, _, _, _, _, go _ ((ifF f1).trans ((ifT f2).trans ap)), nl_dat, nl_dat, nl_dat, nl_dat, pl⟩
    | false => exact ⟨_, e, _, _, _, _, go _ ((ifF f1).trans (ifF f2)), nl_dat, nl_dat, nl_dat, nl_dat, h.more (by omega) (by omega)⟩
structure Od (p : Int) (os : List Int) : Prop where
  len : (os.length : Int) = p
  rg : ∀ a : Nat, a < os.length → 0 ≤ os.getD a 0 ∧ os.getD a 0 < p
  inj : ∀ a b : Nat, a < os.length → b < os.length → os.getD a 0 = os.getD b 0 → a = b
theorem getD_set {os : List Int} {i a : Nat} {x : Int} (hi : i < os.length) : (os.set i x).getD a 0 = if a = i then x else os.getD a 0 := by
  rw [List.getD_eq_getElem?_getD, List.getD_eq_getElem?_getD]
  by_cases e : a = i
  · rw [if_pos e, e, List.getElem?_set_self hi]
    rfl
  · rw [if_neg e, List.getElem?_set_ne (Ne.symm e)]
theorem Od.swap {p : Int} {os : List Int} {i j : Nat} (h : Od p os) (hi : i < os.length) (hj : j < os.length) : Od p ((os.set i (os.getD j 0)).set j (os.getD i 0)) := by
  have hl : ((os.set i (os.getD j 0)).set j (os.getD i 0)).length = os.length := by rw [List.length_set, List.length_set]
  have at_ : ∀ a : Nat, ((os.set i (os.getD j 0)).set j (os.getD i 0)).getD a 0 = os.getD (if a = j then i else if a = i then j else a) 0 := fun a => by
    rw [getD_set (by rw [List.length_set]; exact hj), getD_set hi]
    split
    · rfl
    · split <;> rfl
  refine ⟨by rw [hl]; exact h.len, fun a ha => ?_, fun a b ha hb e => ?_⟩
  · rw [at_]
    refine h.rg _ ?_
    rw [hl] at ha
    split
    · exact hi
    · split
      · exact hj
      · exact ha
  · rw [hl] at ha hb
    rw [at_, at_] at e
    have z := h.inj _ _ (by split; exact hi; split; exact hj; exact ha) (by split; exact hi; split; exact hj; exact hb) e
    split at z <;> split at z <;> (try split at z) <;> (try split at z) <;> omega
theorem Od.start {p : Int} (p1 : 1 ≤ p) : Od p (rngI p.toNat) := by
  have g : ∀ a : Nat, a < (rngI p.toNat).length → (rngI p.toNat).getD a 0 = a := fun a ha => by
    rw [rngI_len] at ha
    rw [List.getD_eq_getElem?_getD, rngI_at ha]
    rfl
  refine ⟨by rw [rngI_len]; omega, fun a ha => ?_, fun a b ha hb e => ?_⟩
  · rw [g a ha]
    rw [rngI_len] at ha
    omega
  · rw [g a ha, g b hb] at e
    omega
def gP (os : List Int) : PyData → PyData
  | .tuple [.int a, .int b] => pr (if os.getD b.toNat 0 < os.getD a.toNat 0 then os.getD b.toNat 0 else os.getD a.toNat 0) (if os.getD b.toNat 0 > os.getD a.toNat 0 then os.getD b.toNat 0 else os.getD a.toNat 0)
  | _ => .none
theorem gP_prs {p : Int} {os : List Int} (h : Od p os) {e : List PyData} (he : Prs p e) : Prs p (e.map (gP os)) := fun d hd => by
  obtain ⟨x, hx, rfl⟩ := List.mem_map.mp hd
  obtain ⟨a, b, rfl, a0, ab, bp⟩ := he x hx
  have hl := h.len
  have r1 := h.rg a.toNat (by omega)
  have r2 := h.rg b.toNat (by omega)
  have ne : os.getD a.toNat 0 ≠ os.getD b.toNat 0 := fun z => by have := h.inj _ _ (by omega) (by omega) z; omega
  refine ⟨_, _, rfl, ?_, ?_, ?_⟩
  · split <;> omega
  · split <;> split <;> omega
  · split <;> omega
theorem gP_nodup {p : Int} {os : List Int} (h : Od p os) {e : List PyData} (he : Prs p e) (nd : e.Nodup) : (e.map (gP os)).Nodup := by
  refine List.pairwise_map.mpr (List.Pairwise.imp_of_mem (fun {x y} hx hy n z => n ?_) nd)
  obtain ⟨a, b, rfl, a0, ab, bp⟩ := he x hx
  obtain ⟨c, d, rfl, c0, cd, dp⟩ := he y hy
  have hl := h.len
  unfold gP pr at z
  injection z with z
  injection z with z1 z
  injection z with z2 _
  injection z1 with z1
  injection z2 with z2
  have i1 := h.inj a.toNat c.toNat (by omega) (by omega)
  have i2 := h.inj b.toNat d.toNat (by omega) (by omega)
  have i3 := h.inj a.toNat d.toNat (by omega) (by omega)
  have i4 := h.inj b.toNat c.toNat (by omega) (by omega)
  have key : (os.getD a.toNat 0 = os.getD c.toNat 0 ∧ os.getD b.toNat 0 = os.getD d.toNat 0) ∨ (os.getD a.toNat 0 = os.getD d.toNat 0 ∧ os.getD b.toNat 0 = os.getD c.toNat 0) := by
    generalize os.getD a.toNat 0 = A at z1 z2 ⊢
    generalize os.getD b.toNat 0 = B at z1 z2 ⊢
    generalize os.getD c.toNat 0 = C at z1 z2 ⊢
    generalize os.getD d.toNat 0 = D at z1 z2 ⊢
    split at z1 <;> split at z1 <;> split at z2 <;> split at z2 <;> omega
  rcases key with ⟨k1, k2⟩ | ⟨k1, k2⟩
  · have e1 : a = c := by have := i1 k1; omega
    have e2 : b = d := by have := i2 k2; omega
    rw [e1, e2]
  · have := i3 k1
    have := i4 k2
    omega
abbrev oEnv (lo hi n p k q : Int) (e : List PyData) (s7 s8 s9 s10 s11 s12 s13 : Sl) (os : List Int) (s15 s16 : Sl) : Env := [.lnt [.int n], .dat (.int lo), .dat (.int hi), .dat (.int p), .dat (.int k), .dat (.int q), .own e, s7, s8, s9, s10, s11, s12, s13, .own (os.map PyData.int), s15, s16, .un]
abbrev swIn : Env → Fl := (mSeq (mSet 16 (mCallB 2 f_law_take 0 (mCons (mVar 3) mNil)))
  (mPut2 14 (mVar 15) (mVar 16) (mTup (mCons (mF (mIxN 14 (mVar 16))) (mCons (mF (mIxN 14 (mVar 15))) mNil)))))
theorem map_set2 (os : List Int) (i : Nat) (x : Int) : (os.map PyData.int).set i (.int x) = (os.set i x).map PyData.int := by rw [List.map_set]
theorem sw_in {lo hi n p k q : Int} {e : List PyData} {s7 s8 s9 s10 s11 s12 s13 s16 : Sl} {os : List Int} {j : Nat} (p1 : 1 ≤ p) (p6 : p ≤ 6) (h : Od p os) (hj : (j : Int) < p) (h16 : Nl s16) :
    ∃ os', swIn (oEnv lo hi n p k q e s7 s8 s9 s10 s11 s12 s13 (os) (.dat (.int j)) s16) = .nx (oEnv lo hi (n / p) p k q e s7 s8 s9 s10 s11 s12 s13 (os') (.dat (.int j)) (.dat (.int (n % p)))) ∧ Od p os' := by
  have hl := h.len
  have m := mod_lt (n := n) (m := p) (by omega)
  have g1 : mSet 16 (mCallB 2 f_law_take 0 (mCons (mVar 3) mNil)) (oEnv lo hi n p k q e s7 s8 s9 s10 s11 s12 s13 (os) (.dat (.int j)) s16) = .nx (oEnv lo hi (n / p) p k q e s7 s8 s9 s10 s11 s12 s13 (os) (.dat (.int j)) (.dat (.int (n % p)))) := setOk (r := .dat (.int _)) (take0 rfl (by omega) (by omega)) (set_at (s := s16) rfl h16)
  have a := own_int (ls := os) (mi := mVar 16) (k := 14) (j := n % p) (ρ := (oEnv lo hi (n / p) p k q e s7 s8 s9 s10 s11 s12 s13 (os) (.dat (.int j)) (.dat (.int (n % p))))) rfl rfl m.1 (by omega)
  have b := own_int (ls := os) (mi := mVar 15) (k := 14) (j := (j : Int)) (ρ := (oEnv lo hi (n / p) p k q e s7 s8 s9 s10 s11 s12 s13 (os) (.dat (.int j)) (.dat (.int (n % p))))) rfl rfl (by omega) (by omega)
  refine ⟨_, (seqOk g1).trans (put2Ok (a := j) (b := (n % p).toNat) (ds := os.map PyData.int) (x := .int (os.getD (n % p).toNat 0)) (y := .int (os.getD j 0)) (ρ1 := (oEnv lo hi (n / p) p k q e s7 s8 s9 s10 s11 s12 s13 (os) (.dat (.int j)) (.dat (.int (n % p))))) (tupOk (consOk a (consOk b nilOk)) (by show 2 ≤ 100000; decide)) rfl rfl (ixN_nat (by omega) (by rw [List.length_map]; omega)) (ρ2 := (oEnv lo hi (n / p) p k q e s7 s8 s9 s10 s11 s12 s13 (os.set j (os.getD (n % p).toNat 0)) (.dat (.int j)) (.dat (.int (n % p))))) ?_ ?_ rfl (ixN_nat m.1 (by rw [List.length_map]; omega)) (ρ3 := (oEnv lo hi (n / p) p k q e s7 s8 s9 s10 s11 s12 s13 ((os.set j (os.getD (n % p).toNat 0)).set (n % p).toNat (os.getD j 0)) (.dat (.int j)) (.dat (.int (n % p))))) ?_), h.swap (by omega) (by omega)⟩
  · rw [map_set2]
    rfl
  · rw [map_set2]
    rfl
  · rw [map_set2, map_set2]
    rfl
abbrev foIn : Env → Fl := (mApp 17 (mTup (mCons (mF (mCb minD (mCons (mF (mIxN 14 (mVar 9))) (mCons (mF (mIxN 14 (mVar 7))) mNil)))) (mCons (mF (mCb maxD (mCons (mF (mIxN 14 (mVar 9))) (mCons (mF (mIxN 14 (mVar 7))) mNil)))) mNil))))
theorem fo_in {lo hi n p k q a b : Int} {e fs : List PyData} {s8 s10 s11 s12 s13 s15 s16 : Sl} {os : List Int} (h : Od p os) (a0 : 0 ≤ a) (ab : a < b) (bp : b < p) (hf : fs.length ≤ 1000) :
    foIn [.lnt [.int n], .dat (.int lo), .dat (.int hi), .dat (.int p), .dat (.int k), .dat (.int q), .dat (.list e), .dat (.int b), s8, .dat (.int a), s10, s11, s12, s13, .own (os.map PyData.int), s15, s16, .own fs] = .nx [.lnt [.int n], .dat (.int lo), .dat (.int hi), .dat (.int p), .dat (.int k), .dat (.int q), .dat (.list e), .dat (.int b), s8, .dat (.int a), s10, s11, s12, s13, .own (os.map PyData.int), s15, s16, .own (fs ++ [gP os (pr a b)])] := by
  have hl := h.len
  have x := own_int (ls := os) (mi := mVar 9) (k := 14) (j := a) (ρ := [.lnt [.int n], .dat (.int lo), .dat (.int hi), .dat (.int p), .dat (.int k), .dat (.int q), .dat (.list e), .dat (.int b), s8, .dat (.int a), s10, s11, s12, s13, .own (os.map PyData.int), s15, s16, .own fs]) rfl rfl a0 (by omega)
  have y := own_int (ls := os) (mi := mVar 7) (k := 14) (j := b) (ρ := [.lnt [.int n], .dat (.int lo), .dat (.int hi), .dat (.int p), .dat (.int k), .dat (.int q), .dat (.list e), .dat (.int b), s8, .dat (.int a), s10, s11, s12, s13, .own (os.map PyData.int), s15, s16, .own fs]) rfl rfl (by omega) (by omega)
  exact appOk (z := fs) (ds := fs) (d := gP os (pr a b)) rfl (tupOk (consOk (fD (cbOk (consOk x (consOk y nilOk)) rfl)) (consOk (fD (cbOk (consOk x (consOk y nilOk)) rfl)) nilOk)) (by show 2 ≤ 100000; decide)) rfl (by omega) rfl
theorem fn_lwebG (n lo hi : Int) (l1 : 1 ≤ lo) (lh : lo ≤ hi) (h6 : hi ≤ 6) : ∃ n' d, f_law_web [.lnt [.int n], .dat (.int lo), .dat (.int hi)] = .ok (.dat d) [.lnt [.int n'], .dat (.int lo), .dat (.int hi)] ∧ Web d ∧ ∃ p t, d = .tuple [.int p, t] ∧ lo ≤ p ∧ p ≤ hi := by
  obtain ⟨p, hp, p1, p6, pl, ph⟩ : ∃ p : Int, p = lo + n % (hi - lo + 1) ∧ 1 ≤ p ∧ p ≤ 6 ∧ lo ≤ p ∧ p ≤ hi := ⟨_, rfl, by have := mod_lt (n := n) (m := hi - lo + 1) (by omega); omega, by have := mod_lt (n := n) (m := hi - lo + 1) (by omega); omega, by have := mod_lt (n := n) (m := hi - lo + 1) (by omega); omega, by have := mod_lt (n := n) (m := hi - lo + 1) (by omega); omega⟩
  have g1 : mSet 3 (mOp fAdd (mVar 1) (mF (mCallB 2 f_law_take 0 (mCons (mF (mOp fAdd (mF (mOp fSub (mVar 2) (mVar 1))) (mPure (.int 1)))) mNil)))) [.lnt [.int n], .dat (.int lo), .dat (.int hi), .un, .un, .un, .un, .un, .un, .un, .un, .un, .un, .un, .un, .un, .un, .un] = .nx [.lnt [.int (n / (hi - lo + 1))], .dat (.int lo), .dat (.int hi), .dat (.int p), .un, .un, .un, .un, .un, .un, .un, .un, .un, .un, .un, .un, .un, .un] := by
    rw [hp]
    exact setOk (opOk rfl (fD (take0 (m := hi - lo + 1) rfl (by omega) (by omega))) rfl) rfl
  generalize n / (hi - lo + 1) = n1 at g1
  have g2 : mSet 4 (mCallB 2 f_law_take 0 (mCons (mPure (.int 7)) mNil)) [.lnt [.int n1], .dat (.int lo), .dat (.int hi), .dat (.int p), .un, .un, .un, .un, .un, .un, .un, .un, .un, .un, .un, .un, .un, .un] = .nx [.lnt [.int (n1 / 7)], .dat (.int lo), .dat (.int hi), .dat (.int p), .dat (.int (n1 % 7)), .un, .un, .un, .un, .un, .un, .un, .un, .un, .un, .un, .un, .un] := setOk (take0 rfl (by omega) (by omega)) rfl
  generalize n1 / 7 = n2 at g2
  generalize n1 % 7 = k at g2
  obtain ⟨x, hx, ex⟩ := ix_some (ds := [.int 1, .int 2, .int 3]) (mod_lt (n := n2) (m := 3) (by omega)).1 (mod_lt (n := n2) (m := 3) (by omega)).2
  obtain ⟨q, rfl⟩ : ∃ q : Int, x = .int q := by
    simp only [List.mem_cons, List.not_mem_nil, or_false] at hx
    rcases hx with rfl | rfl | rfl
    · exact ⟨_, rfl⟩
    · exact ⟨_, rfl⟩
    · exact ⟨_, rfl⟩
  have g3 : mSet 5 (mOp ixD (mF (mLst (mCons (mPure (.int 1)) (mCons (mPure (.int 2)) (mCons (mPure (.int 3)) mNil))))) (mF (mCallB 2 f_law_take 0 (mCons (mPure (.int 3)) mNil)))) [.lnt [.int n2], .dat (.int lo), .dat (.int hi), .dat (.int p), .dat (.int k), .un, .un, .un, .un, .un, .un, .un, .un, .un, .un, .un, .un, .un] = .nx [.lnt [.int (n2 / 3)], .dat (.int lo), .dat (.int hi), .dat (.int p), .dat (.int k), .dat (.int q), .un, .un, .un, .un, .un, .un, .un, .un, .un, .un, .un, .un] := by
    refine setOk (r := .dat (.int q)) (opOk rfl (fD (take0 rfl (by omega) (by omega))) ?_) rfl
    show (atI _ _).map Rv.dat = _
    rw [ex]
    rfl
  generalize n2 / 3 = n3 at g3
  have g4 : mSet 6 (mLst mNil) [.lnt [.int n3], .dat (.int lo), .dat (.int hi), .dat (.int p), .dat (.int k), .dat (.int q), .un, .un, .un, .un, .un, .un, .un, .un, .un, .un, .un, .un] = .nx (wEnv lo hi n3 p k q [] .un .un .un .un .un .un .un) := rfl
  -- the ties
  obtain ⟨ρ5, g5, n5, e5, s7, s8, s9, s10, s11, s12, s13, rfl, k7, k8, k9, k10, k11, k12, k13, hPl⟩ := lp_at (b := bName 7) (f := (mSeq (mSet 8 (mCallB 2 f_law_take 0 (mCons (mVar 7) mNil)))
  (mFor (mRng1 (mCons (mVar 7) mNil)) (bName 9) (mSeq (mSet 10 (mOp fLt (mF (mCallB 2 f_law_take 0 (mCons (mPure (.int 4)) mNil))) (mVar 5)))
  (mSeq (mSet 11 (mD (mAndV (mF (mOp fIn (mF (mOp fSub (mVar 7) (mVar 9))) (mTup (mCons (mPure (.int 1)) (mCons (mF (mOp fSub (mVar 3) (mPure (.int 1)))) mNil))))) (mF (mOp fEq (mVar 4) (mPure (.int 2)))))))
  (mSeq (mSet 12 (mD (mAndV (mF (mOp fEq (mF (mOp fMod (mF (mOp fAdd (mVar 9) (mVar 7))) (mPure (.int 2)))) (mPure (.int 1)))) (mAndV (mF (mOp fEq (mVar 4) (mPure (.int 4)))) (mVar 10)))))
  (mSeq (mSet 13 (mD (mOrV (mF (mOp fEq (mVar 9) (mVar 8))) (mAndV (mF (mOp fEq (mVar 4) (mPure (.int 5)))) (mAndV (mF (mOp fEq (mF (mOp fMod (mVar 7) (mPure (.int 2)))) (mPure (.int 0)))) (mF (mOp fEq (mVar 9) (mF (mOp fSub (mVar 7) (mPure (.int 1)))))))))))
  (mIfS (mOr (mAnd (mB (mF (mOp fIn (mVar 4) (mTup (mCons (mPure (.int 1)) (mCons (mPure (.int 5)) mNil)))))) (mT (mVar 13))) (mAnd (mB (mF (mOp fIn (mVar 4) (mTup (mCons (mPure (.int 0)) (mCons (mPure (.int 6)) mNil)))))) (mT (mVar 10)))) (mApp 6 (mTup (mCons (mVar 9) (mCons (mVar 7) mNil)))) (mIfS (mOr (mT (mVar 11)) (mOr (mB (mF (mOp fEq (mVar 4) (mPure (.int 3))))) (mT (mVar 12)))) (mApp 6 (mTup (mCons (mVar 9) (mCons (mVar 7) mNil)))) Fl.nx))))))))) (ds := rngL 1 (p - 1).toNat) (k := 0) (ρ := wEnv lo hi n3 p k q [] .un .un .un .un .un .un .un)
    (I := fun c ρ => ∃ n e s7 s8 s9 s10 s11 s12 s13, ρ = wEnv lo hi n p k q e s7 s8 s9 s10 s11 s12 s13 ∧ Nl s7 ∧ Nl s8 ∧ Nl s9 ∧ Nl s10 ∧ Nl s11 ∧ Nl s12 ∧ Nl s13 ∧ Pl p e (((c + 1 : Nat) : Int) * 8) (tri (c + 1))) (fun c d ρ hj hI => by
      obtain ⟨n, e, s7, s8, s9, s10, s11, s12, s13, rfl, k7, k8, k9, k10, k11, k12, k13, hPl⟩ := hI
      rw [Nat.zero_add] at hPl ⊢
      obtain ⟨hd, hlt⟩ := rng_at1 hj
      have hd : d = .int ((c + 1 : Nat) : Int) := by rw [hd]; congr 1; omega
      subst hd
      have g8 : mSet 8 (mCallB 2 f_law_take 0 (mCons (mVar 7) mNil)) (wEnv lo hi n p k q e (.dat (.int ((c + 1 : Nat) : Int))) s8 s9 s10 s11 s12 s13) = .nx (wEnv lo hi (n / ((c + 1 : Nat) : Int)) p k q e (.dat (.int ((c + 1 : Nat) : Int))) (.dat (.int (n % ((c + 1 : Nat) : Int)))) s9 s10 s11 s12 s13) := setOk (r := .dat (.int _)) (take0 rfl (by omega) (by omega)) (set_at (s := s8) rfl k8)
      generalize n / ((c + 1 : Nat) : Int) = n' at g8
      generalize n % ((c + 1 : Nat) : Int) = j at g8
      obtain ⟨ρ6, g6, n6, e6, t9, t10, t11, t12, t13, rfl, m9, m10, m11, m12, m13, hP6⟩ := lp_at (b := bName 9) (f := webIn) (ds := rngL 0 (c + 1)) (k := 0) (ρ := wEnv lo hi n' p k q e (.dat (.int ((c + 1 : Nat) : Int))) (.dat (.int j)) s9 s10 s11 s12 s13)
        (I := fun m ρ => ∃ n e s9 s10 s11 s12 s13, ρ = wEnv lo hi n p k q e (.dat (.int ((c + 1 : Nat) : Int))) (.dat (.int j)) s9 s10 s11 s12 s13 ∧ Nl s9 ∧ Nl s10 ∧ Nl s11 ∧ Nl s12 ∧ Nl s13 ∧ Pl p e (((c + 1 : Nat) : Int) * 8 + m) (tri (c + 1) + m)) (fun m d ρ hm hI => by
          obtain ⟨n, e, s9, s10, s11, s12, s13, rfl, k9, k10, k11, k12, k13, hPl⟩ := hI
          rw [Nat.zero_add] at hPl ⊢
          obtain ⟨rfl, hm2⟩ := rng_at hm
          obtain ⟨n', e', t10, t11, t12, t13, g, u10, u11, u12, u13, h'⟩ := web_in (n := n) (k := k) (q := q) (j := j) hm2 (by omega) p6 k10 k11 k12 k13 hPl
          exact ⟨wEnv lo hi n p k q e (.dat (.int ((c + 1 : Nat) : Int))) (.dat (.int j)) (.dat (.int m)) s10 s11 s12 s13, _, put_name (s := s9) rfl k9, g, n', e', _, t10, t11, t12, t13, rfl, nl_dat, u10, u11, u12, u13, h'⟩) ⟨n', e, s9, s10, s11, s12, s13, rfl, k9, k10, k11, k12, k13, hPl.more (by omega) (by omega)⟩
      rw [rng_len, Nat.zero_add] at hP6
      have fo := forOk (b := bName 9) (f := webIn) (rng1Ok (m := mCons (mVar 7) mNil) (n := ((c + 1 : Nat) : Int)) (ρ := wEnv lo hi n' p k q e (.dat (.int ((c + 1 : Nat) : Int))) (.dat (.int j)) s9 s10 s11 s12 s13) (ρ1 := wEnv lo hi n' p k q e (.dat (.int ((c + 1 : Nat) : Int))) (.dat (.int j)) s9 s10 s11 s12 s13) (consOk rfl nilOk) (by omega) (by omega))
      rw [Int.toNat_natCast] at fo
      exact ⟨wEnv lo hi n p k q e (.dat (.int ((c + 1 : Nat) : Int))) s8 s9 s10 s11 s12 s13, _, put_name (s := s7) rfl k7, (seqOk g8).trans (fo.trans g6), n6, e6, _, _, t9, t10, t11, t12, t13, rfl, nl_dat, nl_dat, m9, m10, m11, m12, m13, hP6.more (by omega) (by show tri (c + 1) + (c + 1) ≤ tri (c + 1) + (c + 1); exact Nat.le_refl _)⟩) ⟨n3, [], _, _, _, _, _, _, _, rfl, nl_un, nl_un, nl_un, nl_un, nl_un, nl_un, nl_un, ⟨fun d hd => (nomatch hd), fun d hd => (nomatch hd), List.Pairwise.nil, Nat.zero_le _⟩⟩
  rw [rng_len, Nat.zero_add] at hPl
  have tl := tri_le (k := (p - 1).toNat + 1) (by omega)
  have hlen := hPl.len
  have h5 := (forOk (b := bName 7) (f := (mSeq (mSet 8 (mCallB 2 f_law_take 0 (mCons (mVar 7) mNil)))
  (mFor (mRng1 (mCons (mVar 7) mNil)) (bName 9) (mSeq (mSet 10 (mOp fLt (mF (mCallB 2 f_law_take 0 (mCons (mPure (.int 4)) mNil))) (mVar 5)))
  (mSeq (mSet 11 (mD (mAndV (mF (mOp fIn (mF (mOp fSub (mVar 7) (mVar 9))) (mTup (mCons (mPure (.int 1)) (mCons (mF (mOp fSub (mVar 3) (mPure (.int 1)))) mNil))))) (mF (mOp fEq (mVar 4) (mPure (.int 2)))))))
  (mSeq (mSet 12 (mD (mAndV (mF (mOp fEq (mF (mOp fMod (mF (mOp fAdd (mVar 9) (mVar 7))) (mPure (.int 2)))) (mPure (.int 1)))) (mAndV (mF (mOp fEq (mVar 4) (mPure (.int 4)))) (mVar 10)))))
  (mSeq (mSet 13 (mD (mOrV (mF (mOp fEq (mVar 9) (mVar 8))) (mAndV (mF (mOp fEq (mVar 4) (mPure (.int 5)))) (mAndV (mF (mOp fEq (mF (mOp fMod (mVar 7) (mPure (.int 2)))) (mPure (.int 0)))) (mF (mOp fEq (mVar 9) (mF (mOp fSub (mVar 7) (mPure (.int 1)))))))))))
  (mIfS (mOr (mAnd (mB (mF (mOp fIn (mVar 4) (mTup (mCons (mPure (.int 1)) (mCons (mPure (.int 5)) mNil)))))) (mT (mVar 13))) (mAnd (mB (mF (mOp fIn (mVar 4) (mTup (mCons (mPure (.int 0)) (mCons (mPure (.int 6)) mNil)))))) (mT (mVar 10)))) (mApp 6 (mTup (mCons (mVar 9) (mCons (mVar 7) mNil)))) (mIfS (mOr (mT (mVar 11)) (mOr (mB (mF (mOp fEq (mVar 4) (mPure (.int 3))))) (mT (mVar 12)))) (mApp 6 (mTup (mCons (mVar 9) (mCons (mVar 7) mNil)))) Fl.nx))))))))) (rng2Ok (m := mCons (mPure (.int 1)) (mCons (mVar 3) mNil)) (i := 1) (n := p) (ρ := wEnv lo hi n3 p k q [] .un .un .un .un .un .un .un) (ρ1 := wEnv lo hi n3 p k q [] .un .un .un .un .un .un .un) (consOk rfl (consOk rfl nilOk)) (by omega) (by omega) (by omega) (by omega))).trans g5
  -- the order
  have g6 : mSet 14 (mLrng (mVar 3)) (wEnv lo hi n5 p k q e5 s7 s8 s9 s10 s11 s12 s13) = .nx (oEnv lo hi n5 p k q e5 s7 s8 s9 s10 s11 s12 s13 (rngI p.toNat) .un .un) := by
    show _ = Fl.nx [.lnt [.int n5], .dat (.int lo), .dat (.int hi), .dat (.int p), .dat (.int k), .dat (.int q), .own e5, s7, s8, s9, s10, s11, s12, s13, .own ((rngI p.toNat).map PyData.int), .un, .un, .un]
    rw [← rngL_eq]
    exact setOk (r := .new (rngL 0 p.toNat)) (ρ1 := wEnv lo hi n5 p k q e5 s7 s8 s9 s10 s11 s12 s13) (lrngOk rfl (by omega) (by omega)) rfl
  obtain ⟨c, hc, c0, cp⟩ : ∃ c : Int, (mCons (mF (mOp fMulA (mVar 3) (mF (mCb intD (mCons (mF (mOp fGt (mVar 4) (mPure (.int 0)))) mNil))))) mNil) (oEnv lo hi n5 p k q e5 s7 s8 s9 s10 s11 s12 s13 (rngI p.toNat) .un .un) = .ok [.int c] (oEnv lo hi n5 p k q e5 s7 s8 s9 s10 s11 s12 s13 (rngI p.toNat) .un .un) ∧ 0 ≤ c ∧ c ≤ p := by
    cases z : decide (0 < k) with
    | true => exact ⟨p * 1, consOk (fD (opOk (x := .int p) (y := .int 1) rfl (fD (cbOk (xs := [.bool true]) (consOk (fD (opOk rfl rfl (by rw [gt_ints, z]))) nilOk) rfl)) (mul_fits (small_pow (by omega) (by omega)) (small_pow (by omega) (by omega))))) nilOk, by omega, by omega⟩
    | false => exact ⟨p * 0, consOk (fD (opOk (x := .int p) (y := .int 0) rfl (fD (cbOk (xs := [.bool false]) (consOk (fD (opOk rfl rfl (by rw [gt_ints, z]))) nilOk) rfl)) (mul_fits (small_pow (by omega) (by omega)) (small_pow (by omega) (by omega))))) nilOk, by omega, by omega⟩
  obtain ⟨ρ7, g7, n7, os, s15, s16, rfl, k15, k16, hO⟩ := lp_at (b := bName 15) (f := swIn) (ds := rngL 0 c.toNat) (k := 0) (ρ := oEnv lo hi n5 p k q e5 s7 s8 s9 s10 s11 s12 s13 (rngI p.toNat) .un .un)
    (I := fun _ ρ => ∃ n os s15 s16, ρ = oEnv lo hi n p k q e5 s7 s8 s9 s10 s11 s12 s13 os s15 s16 ∧ Nl s15 ∧ Nl s16 ∧ Od p os) (fun j d ρ hj hI => by
      obtain ⟨n, os, s15, s16, rfl, k15, k16, hO⟩ := hI
      obtain ⟨rfl, hlt⟩ := rng_at hj
      obtain ⟨os', g, hO'⟩ := sw_in (n := n) (k := k) (q := q) (e := e5) (s7 := s7) (s8 := s8) (s9 := s9) (s10 := s10) (s11 := s11) (s12 := s12) (s13 := s13) (j := j) p1 p6 hO (by omega) k16
      exact ⟨oEnv lo hi n p k q e5 s7 s8 s9 s10 s11 s12 s13 os (.dat (.int j)) s16, _, put_name (s := s15) rfl k15, g, _, os', _, _, rfl, nl_dat, nl_dat, hO'⟩) ⟨n5, rngI p.toNat, .un, .un, rfl, nl_un, nl_un, Od.start p1⟩
  have h7 := (forOk (b := bName 15) (f := swIn) (rng1Ok hc (by omega) (by omega))).trans g7
  have g8 : mSet 17 (mLst mNil) (oEnv lo hi n7 p k q e5 s7 s8 s9 s10 s11 s12 s13 os s15 s16) = .nx [.lnt [.int n7], .dat (.int lo), .dat (.int hi), .dat (.int p), .dat (.int k), .dat (.int q), .own e5, s7, s8, s9, s10, s11, s12, s13, .own (os.map PyData.int), s15, s16, .own []] := rfl
  -- the ties of the order
  obtain ⟨ρ9, g9, t7, t9, rfl, m7, m9⟩ := lp_at (b := (bTup 2 (bCons (bName 9) (bCons (bName 7) bNil)))) (f := foIn) (ds := e5) (k := 0) (ρ := [.lnt [.int n7], .dat (.int lo), .dat (.int hi), .dat (.int p), .dat (.int k), .dat (.int q), .dat (.list e5), s7, s8, s9, s10, s11, s12, s13, .own (os.map PyData.int), s15, s16, .own []])
    (I := fun c ρ => ∃ t7 t9, ρ = [.lnt [.int n7], .dat (.int lo), .dat (.int hi), .dat (.int p), .dat (.int k), .dat (.int q), .dat (.list e5), t7, s8, t9, s10, s11, s12, s13, .own (os.map PyData.int), s15, s16, .own ((e5.take c).map (gP os))] ∧ Nl t7 ∧ Nl t9) (fun j d ρ hj hI => by
      obtain ⟨t7, t9, rfl, m7, m9⟩ := hI
      rw [Nat.zero_add]
      obtain ⟨a, b, rfl, a0, ab, bp⟩ := hPl.prs d (List.mem_of_getElem? hj)
      refine ⟨[.lnt [.int n7], .dat (.int lo), .dat (.int hi), .dat (.int p), .dat (.int k), .dat (.int q), .dat (.list e5), .dat (.int b), s8, .dat (.int a), s10, s11, s12, s13, .own (os.map PyData.int), s15, s16, .own ((e5.take j).map (gP os))], _, ?_, fo_in hO a0 ab bp (by rw [List.length_map, List.length_take]; omega), .dat (.int b), .dat (.int a), ?_, nl_dat, nl_dat⟩
      · show bCons (bName 9) (bCons (bName 7) bNil) [.int a, .int b] _ = _
        show ((bName 9 (.int a) _).bind _) = _
        rw [put_name (s := t9) rfl m9]
        show ((bName 7 (.int b) _).bind _) = _
        rw [put_name (s := t7) rfl m7]
        rfl
      · have e : (e5.take (j + 1)).map (gP os) = (e5.take j).map (gP os) ++ [gP os (pr a b)] := by
          rw [List.take_add_one, hj, List.map_append]
          rfl
        rw [e]) ⟨s7, s9, by rw [List.take_zero]; rfl, k7, k9⟩
  rw [Nat.zero_add, List.take_length] at g9
  have h9 := (forOk (b := (bTup 2 (bCons (bName 9) (bCons (bName 7) bNil)))) (f := foIn) (m := mSeqI (mVar 6)) (ds := e5) (ρ := [.lnt [.int n7], .dat (.int lo), .dat (.int hi), .dat (.int p), .dat (.int k), .dat (.int q), .own e5, s7, s8, s9, s10, s11, s12, s13, .own (os.map PyData.int), s15, s16, .own []]) (ρ1 := [.lnt [.int n7], .dat (.int lo), .dat (.int hi), .dat (.int p), .dat (.int k), .dat (.int q), .dat (.list e5), s7, s8, s9, s10, s11, s12, s13, .own (os.map PyData.int), s15, s16, .own []]) (seqL rfl)).trans g9
  obtain ⟨ts, z1, z2, z3, z4⟩ := sort_prs p6 (gP_prs hO hPl.prs) (gP_nodup hO hPl.prs hPl.nodup) (by rw [List.length_map]; omega)
  refine ⟨n7, .tuple [.int p, .tuple ts], ret_ok (ρ := [.lnt [.int n7], .dat (.int lo), .dat (.int hi), .dat (.int p), .dat (.int k), .dat (.int q), .dat (.list e5), t7, s8, t9, s10, s11, s12, s13, .own (os.map PyData.int), s15, s16, .dat (.list (e5.map (gP os)))]) ((seqOk g1).trans ((seqOk g2).trans ((seqOk g3).trans ((seqOk g4).trans ((seqOk h5).trans ((seqOk g6).trans ((seqOk h7).trans ((seqOk g8).trans ((seqOk h9).trans ?_))))))))) rfl, ⟨p, ts, rfl, p1, p6, z2, z3, z4⟩, p, .tuple ts, rfl, pl, ph⟩
  exact retE (tupOk (xs := [.int p, .tuple ts]) (consOk rfl (consOk (fD (cbOk (consOk (fN (cbOk (consOk rfl nilOk) z1)) nilOk) rfl)) nilOk)) (show 2 ≤ 100000 by decide))
end Hue
-- PB1
namespace Hue
open PySem PySem.Spec PyProof.Rows L2

/-! ### pieces of rows -/
theorem bnd_two {i j : Nat} {x y : PyData} {ρ : Env} {s s' : Sl} (h : ρ[i]? = some s) (hs : Nl s) (h' : (ρ.set i (.dat x))[j]? = some s') (hs' : Nl s') : bTup 2 (bCons (bName i) (bCons (bName j) bNil)) (.tuple [x, y]) ρ = some ((ρ.set i (.dat x)).set j (.dat y)) := by
  show (bName i x ρ).bind _ = _
  rw [put_name h hs]
  show (bName j y (ρ.set i (.dat x))).bind _ = _
  rw [put_name h' hs']
  rfl
theorem cut_take (ds : List PyData) (k : Nat) : cutD ds none (some (k : Int)) = ds.take k := by
  unfold cutD
  rw [HT.sIx_none, HT.sIx_nat ds.length ds.length k, List.drop_zero, Nat.sub_zero]
  rcases Nat.le_total k ds.length with h | h
  · rw [Nat.min_eq_left h]
  · rw [Nat.min_eq_right h, List.take_length, List.take_of_length_le h]
theorem cut_drop (ds : List PyData) (k : Nat) : cutD ds (some (k : Int)) none = ds.drop k := by
  unfold cutD
  rw [HT.sIx_none, HT.sIx_nat ds.length 0 k]
  rcases Nat.le_total k ds.length with h | h
  · rw [Nat.min_eq_left h, List.take_of_length_le (by rw [List.length_drop]; exact Nat.le_refl _)]
  · rw [Nat.min_eq_right h, Nat.sub_self, List.take_zero, List.drop_of_length_le h]
theorem anyOk' {α : Type} {f : α → Bool} {l : List α} : anyD [.list (l.map fun x => .bool (f x))] = some (.dat (.bool (l.any f))) := by
  show (boolsD _).map _ = _
  rw [bools_map]
  show some (Rv.dat (.bool ((l.map f).any id))) = _
  rw [List.any_map]
  rfl
theorem atI_nears {p v : Int} {ts : List PyData} (v0 : 0 ≤ v) (v1 : v < p) : atI (nearsD p ts) v = some (nbT ts v) := by
  have z : (atI (nearsD p ts) v).map Rv.dat = some (.dat (nbT ts v)) := nears_at v0 v1
  cases q : atI (nearsD p ts) v with
  | none => rw [q] at z; cases z
  | some x => rw [q] at z; cases z; rfl
theorem flatMap_len {α β : Type} {f : α → List β} {c : Nat} : ∀ {l : List α}, (∀ x ∈ l, (f x).length ≤ c) → (l.flatMap f).length ≤ c * l.length
  | [], _ => Nat.zero_le _
  | x :: r, h => by
    have ih := flatMap_len (f := f) (l := r) fun y hy => h y (List.mem_cons_of_mem _ hy)
    have := h x (List.mem_cons_self ..)
    rw [List.flatMap_cons, List.length_append, List.length_cons, Nat.mul_succ]
    omega
/-! ### partings -/
def ttG (gs : List (List Int)) : PyData := .tuple (gs.map ti)
def okP (N g : List Int) : Bool := !g.any fun x => decide (x ∈ N)
def insP (v : Int) (gs : List (List Int)) (k : Nat) : List (List Int) := gs.take k ++ [gs.getD k [] ++ [v]] ++ gs.drop (k + 1)
def stepP (N : List Int) (v : Int) (gs : List (List Int)) (k : Nat) : List (List (List Int)) := (gs ++ [[v]]) :: ((List.range k).filter fun j => okP N (gs.getD j [])).map (insP v gs)
def nextP (N : List Int) (v : Int) (F : List (List (List Int))) : List (List (List Int)) := F.flatMap fun gs => stepP N v gs gs.length
def partsP (ts : List PyData) (n : Nat) : List (List (List Int)) := (List.range n).foldl (fun F (v : Nat) => nextP (nb ts (v : Int)) (v : Int) F) [[]]
theorem parts_succ (ts : List PyData) (n : Nat) : partsP ts (n + 1) = nextP (nb ts n) n (partsP ts n) := by
  unfold partsP
  rw [List.range_succ, List.foldl_append]
  rfl
theorem step_succ (N : List Int) (v : Int) (gs : List (List Int)) (k : Nat) : stepP N v gs (k + 1) = stepP N v gs k ++ (if okP N (gs.getD k []) = true then [insP v gs k] else []) := by
  unfold stepP
  rw [List.range_succ, List.filter_append, List.map_append, List.cons_append, List.filter_cons, List.filter_nil]
  split <;> rfl
theorem step_len (N : List Int) (v : Int) (gs : List (List Int)) (k : Nat) : (stepP N v gs k).length ≤ k + 1 := by
  unfold stepP
  rw [List.length_cons, List.length_map]
  have := List.length_filter_le (fun j => okP N (gs.getD j [])) (List.range k)
  rw [List.length_range] at this
  omega
def fct : Nat → Nat
  | 0 => 1
  | k + 1 => (k + 1) * fct k
theorem fct_le {k : Nat} (h : k ≤ 6) : fct k ≤ 720 := by
  have : k = 0 ∨ k = 1 ∨ k = 2 ∨ k = 3 ∨ k = 4 ∨ k = 5 ∨ k = 6 := by omega
  rcases this with rfl | rfl | rfl | rfl | rfl | rfl | rfl <;> decide
structure Bp (K : Nat) (F : List (List (List Int))) : Prop where
  len : F.length ≤ fct K
  grs : ∀ gs ∈ F, gs.length ≤ K
  gl : ∀ gs ∈ F, ∀ g ∈ gs, g.length ≤ K
theorem Bp.next {K : Nat} {F : List (List (List Int))} (h : Bp K F) (N : List Int) (v : Int) : Bp (K + 1) (nextP N v F) := by
  have el : ∀ gs' ∈ nextP N v F, gs'.length ≤ K + 1 ∧ ∀ g ∈ gs', g.length ≤ K + 1 := fun gs' hg => by
    obtain ⟨gs, hgs, hm⟩ := List.mem_flatMap.mp hg
    have l1 := h.grs gs hgs
    have l2 := h.gl gs hgs
    rcases List.mem_cons.mp hm with e | e
    · rw [e]
      refine ⟨by rw [List.length_append, List.length_singleton]; omega, fun g hg => ?_⟩
      rcases List.mem_append.mp hg with q | q
      · have := l2 g q; omega
      · rw [List.mem_singleton.mp q, List.length_singleton]; omega
    · obtain ⟨j, hj, rfl⟩ := List.mem_map.mp e
      have hj := List.mem_range.mp (List.mem_filter.mp hj).1
      unfold insP
      refine ⟨by rw [List.length_append, List.length_append, List.length_take, List.length_drop, List.length_singleton]; omega, fun g hg => ?_⟩
      rcases List.mem_append.mp hg with q | q
      · rcases List.mem_append.mp q with q | q
        · have := l2 g (List.mem_of_mem_take q); omega
        · rw [List.mem_singleton.mp q, List.length_append, List.length_singleton]
          have : gs.getD j [] ∈ gs := by
            rw [List.getD_eq_getElem?_getD, List.getElem?_eq_getElem hj]
            exact List.getElem_mem _
          have := l2 _ this
          omega
      · have := l2 g (List.mem_of_mem_drop q); omega
  refine ⟨?_, fun gs hg => (el gs hg).1, fun gs hg => (el gs hg).2⟩
  have z := flatMap_len (f := fun gs => stepP N v gs gs.length) (c := K + 1) (l := F) fun gs hg => Nat.le_trans (step_len N v gs gs.length) (by have := h.grs gs hg; omega)
  exact Nat.le_trans z (Nat.mul_le_mul_left _ h.len)
theorem Bp.parts (ts : List PyData) : ∀ n, Bp n (partsP ts n)
  | 0 => ⟨Nat.le_refl 1, fun gs h => by rw [List.mem_singleton.mp h]; exact Nat.le_refl 0, fun gs h g hg => by rw [List.mem_singleton.mp h] at hg; cases hg⟩
  | n + 1 => by rw [parts_succ]; exact (Bp.parts ts n).next _ _
theorem ttG_ins (v : Int) (gs : List (List Int)) (k : Nat) : ttG (insP v gs k) = .tuple ((gs.map ti).take k ++ [ti (gs.getD k [] ++ [v])] ++ (gs.map ti).drop (k + 1)) := by
  unfold ttG insP
  rw [List.map_append, List.map_append, List.map_take, List.map_drop]
  rfl
theorem fn_partings {p : Int} {ts : List PyData} (hw : Web (.tuple [.int p, .tuple ts])) (h : Prs p ts) (hs : steps ltP ts = true) (p1 : 1 ≤ p) (p6 : p ≤ 6) : f_partings [.dat (.tuple [.int p, .tuple ts])] = .ok (.dat (.list ((partsP ts p.toNat).map ttG))) [.dat (.tuple [.int p, .tuple ts])] := by
  have g0 : mSet 1 (mCall 1 f_all_near (mCons (mVar 0) mNil)) [.dat (.tuple [.int p, .tuple ts]), .un, .un, .un, .un, .un, .un, .un, .un] = .nx [.dat (.tuple [.int p, .tuple ts]), .own (nearsD p ts), .un, .un, .un, .un, .un, .un, .un] := setOk (r := .new (nearsD p ts)) (call1 rfl (fn_all_near (hw.pu.th.few (by omega)) hw.tt h hs p1 p6)) rfl
  obtain ⟨ρ', g2, s2, s3, s4, s5, s6, s7, rfl, h2, _⟩ := lp_at (ds := rngL 0 p.toNat) (k := 0) (b := bName 3) (f := (mSeq (mSet 4 (mLst mNil))
  (mSeq (mFor (mSeqI (mVar 2)) (bName 5) (mSeq (mApp 4 (mF (mOp fAdd (mVar 5) (mTup (mCons (mTup (mCons (mVar 3) mNil)) mNil)))))
  (mFor (mEnum (mCons (mVar 5) mNil)) (bTup 2 (bCons (bName 6) (bCons (bName 7) bNil))) (mIfS (mNot (mB (mF (mCb anyD (mCons (mF (mComp (mSeqI (mVar 7)) (bName 8) (mPure true) (mF (mOp fIn (mVar 8) (mF (mIxN 1 (mVar 3))))) [8])) mNil))))) (mApp 4 (mF (mOp fAdd (mF (mOp fAdd (mF (mSl (mVar 5) mNoPart (mPart (mVar 6)))) (mTup (mCons (mF (mOp fAdd (mVar 7) (mTup (mCons (mVar 3) mNil)))) mNil)))) (mF (mSl (mVar 5) (mPart (mF (mOp fAdd (mVar 6) (mPure (.int 1))))) mNoPart))))) Fl.nx))))
  (mSet 2 (mD (mVar 4)))))) (ρ := [.dat (.tuple [.int p, .tuple ts]), .own (nearsD p ts), .own [.tuple []], .un, .un, .un, .un, .un, .un])
    (I := fun k ρ => ∃ s2 s3 s4 s5 s6 s7, ρ = [.dat (.tuple [.int p, .tuple ts]), .own (nearsD p ts), s2, s3, s4, s5, s6, s7, .un] ∧ (k = 0 ∧ s2 = .own ((partsP ts k).map ttG) ∨ s2 = .dat (.list ((partsP ts k).map ttG))) ∧ Nl s3 ∧ Nl s4 ∧ Nl s5 ∧ Nl s6 ∧ Nl s7) (fun v d ρ hd hI => by
      rw [Nat.zero_add] at hI
      rw [Nat.zero_add]
      obtain ⟨rfl, hv⟩ := rng_at hd
      obtain ⟨s2, s3, s4, s5, s6, s7, rfl, h2, h3, h4, h5, h6, h7⟩ := hI
      have B := Bp.parts ts v
      rw [parts_succ]
      generalize partsP ts v = F at h2 B
      have fl : F.length ≤ 720 := Nat.le_trans B.len (fct_le (by omega))
      have k1 : mSet 4 (mLst mNil) [.dat (.tuple [.int p, .tuple ts]), .own (nearsD p ts), s2, .dat (.int v), s4, s5, s6, s7, .un] = .nx [.dat (.tuple [.int p, .tuple ts]), .own (nearsD p ts), s2, .dat (.int v), .own [], s5, s6, s7, .un] := setOk (r := .new []) rfl (set_at (s := s4) rfl h4)
      have it : mSeqI (mVar 2) [.dat (.tuple [.int p, .tuple ts]), .own (nearsD p ts), s2, .dat (.int v), .own [], s5, s6, s7, .un] = .ok (F.map ttG) [.dat (.tuple [.int p, .tuple ts]), .own (nearsD p ts), .dat (.list (F.map ttG)), .dat (.int v), .own [], s5, s6, s7, .un] := by
        rcases h2 with ⟨_, e⟩ | e
        · rw [e]; exact seqL rfl
        · rw [e]; exact seqL rfl
      obtain ⟨ρ2, k2, u4, u5, u6, u7, rfl, e4, m5, m6, m7⟩ := lp_at (ds := F.map ttG) (k := 0) (b := bName 5) (f := (mSeq (mApp 4 (mF (mOp fAdd (mVar 5) (mTup (mCons (mTup (mCons (mVar 3) mNil)) mNil)))))
  (mFor (mEnum (mCons (mVar 5) mNil)) (bTup 2 (bCons (bName 6) (bCons (bName 7) bNil))) (mIfS (mNot (mB (mF (mCb anyD (mCons (mF (mComp (mSeqI (mVar 7)) (bName 8) (mPure true) (mF (mOp fIn (mVar 8) (mF (mIxN 1 (mVar 3))))) [8])) mNil))))) (mApp 4 (mF (mOp fAdd (mF (mOp fAdd (mF (mSl (mVar 5) mNoPart (mPart (mVar 6)))) (mTup (mCons (mF (mOp fAdd (mVar 7) (mTup (mCons (mVar 3) mNil)))) mNil)))) (mF (mSl (mVar 5) (mPart (mF (mOp fAdd (mVar 6) (mPure (.int 1))))) mNoPart))))) Fl.nx)))) (ρ := [.dat (.tuple [.int p, .tuple ts]), .own (nearsD p ts), .dat (.list (F.map ttG)), .dat (.int v), .own [], s5, s6, s7, .un]) (I := fun j ρ => ∃ u4 u5 u6 u7, ρ = [.dat (.tuple [.int p, .tuple ts]), .own (nearsD p ts), .dat (.list (F.map ttG)), .dat (.int v), u4, u5, u6, u7, .un] ∧ u4 = .own ((nextP (nb ts v) v (F.take j)).map ttG) ∧ Nl u5 ∧ Nl u6 ∧ Nl u7) (fun j d ρ hd hI => by
        rw [Nat.zero_add] at hI
        rw [Nat.zero_add]
        obtain ⟨u4, u5, u6, u7, rfl, rfl, m5, m6, m7⟩ := hI
        rw [List.getElem?_map] at hd
        obtain ⟨gs, hg, rfl⟩ := Option.map_eq_some_iff.mp hd
        have gm := List.mem_of_getElem? hg
        have gl := B.grs gs gm
        have ggl := B.gl gs gm
        have et : nextP (nb ts v) v (F.take (j + 1)) = nextP (nb ts v) v (F.take j) ++ stepP (nb ts v) v gs gs.length := by
          unfold nextP
          rw [List.take_add_one, hg, List.flatMap_append]
          show _ ++ [gs].flatMap _ = _
          rw [List.flatMap_singleton]
        rw [et]
        have ln : (nextP (nb ts v) v (F.take j)).length ≤ 7 * 720 := by
          have z := flatMap_len (f := fun gs => stepP (nb ts v) v gs gs.length) (c := 7) (l := F.take j) fun gs hg => Nat.le_trans (step_len _ _ gs gs.length) (by have := B.grs gs (List.mem_of_mem_take hg); omega)
          rw [List.length_take] at z
          exact Nat.le_trans z (Nat.mul_le_mul_left _ (by omega))
        generalize nextP (nb ts v) v (F.take j) = L at ln
        have a1 : mApp 4 (mF (mOp fAdd (mVar 5) (mTup (mCons (mTup (mCons (mVar 3) mNil)) mNil)))) [.dat (.tuple [.int p, .tuple ts]), .own (nearsD p ts), .dat (.list (F.map ttG)), .dat (.int v), .own (L.map ttG), .dat (ttG gs), u6, u7, .un] = .nx [.dat (.tuple [.int p, .tuple ts]), .own (nearsD p ts), .dat (.list (F.map ttG)), .dat (.int v), .own ((L ++ stepP (nb ts v) v gs 0).map ttG), .dat (ttG gs), u6, u7, .un] := by
          refine appOk (z := L.map ttG) (ds := L.map ttG) (d := ttG (gs ++ [[(v : Int)]])) rfl (fD (opOk (x := ttG gs) (y := .tuple [ti [v]]) rfl rfl ?_)) rfl (by rw [List.length_map]; omega) ?_
          · show fAdd (.tuple (gs.map ti)) _ = _
            rw [add_tups (by rw [List.length_map, List.length_singleton]; omega)]
            unfold ttG
            rw [List.map_append]
            rfl
          · show _ = [.dat (.tuple [.int p, .tuple ts]), .own (nearsD p ts), .dat (.list (F.map ttG)), .dat (.int v), .own ((L ++ stepP (nb ts v) v gs 0).map ttG), .dat (ttG gs), u6, u7, .un]
            unfold stepP
            rw [List.map_append]
            rfl
        obtain ⟨ρ3, a2, w4, w6, w7, rfl, e4, n6, n7⟩ := lp_at (ds := enumL (gs.map ti)) (k := 0) (b := (bTup 2 (bCons (bName 6) (bCons (bName 7) bNil)))) (f := (mIfS (mNot (mB (mF (mCb anyD (mCons (mF (mComp (mSeqI (mVar 7)) (bName 8) (mPure true) (mF (mOp fIn (mVar 8) (mF (mIxN 1 (mVar 3))))) [8])) mNil))))) (mApp 4 (mF (mOp fAdd (mF (mOp fAdd (mF (mSl (mVar 5) mNoPart (mPart (mVar 6)))) (mTup (mCons (mF (mOp fAdd (mVar 7) (mTup (mCons (mVar 3) mNil)))) mNil)))) (mF (mSl (mVar 5) (mPart (mF (mOp fAdd (mVar 6) (mPure (.int 1))))) mNoPart))))) Fl.nx)) (ρ := [.dat (.tuple [.int p, .tuple ts]), .own (nearsD p ts), .dat (.list (F.map ttG)), .dat (.int v), .own ((L ++ stepP (nb ts v) v gs 0).map ttG), .dat (ttG gs), u6, u7, .un]) (I := fun k ρ => ∃ w4 w6 w7, ρ = [.dat (.tuple [.int p, .tuple ts]), .own (nearsD p ts), .dat (.list (F.map ttG)), .dat (.int v), w4, .dat (ttG gs), w6, w7, .un] ∧ w4 = .own ((L ++ stepP (nb ts v) v gs k).map ttG) ∧ Nl w6 ∧ Nl w7) (fun k d ρ hd hI => by
          rw [Nat.zero_add] at hI
          rw [Nat.zero_add]
          obtain ⟨w4, w6, w7, rfl, rfl, n6, n7⟩ := hI
          obtain ⟨x, hx, rfl⟩ := enumL_get hd
          rw [List.getElem?_map] at hx
          obtain ⟨g, hg, rfl⟩ := Option.map_eq_some_iff.mp hx
          have kl := (List.getElem?_eq_some_iff.mp hg).1
          have eg : gs.getD k [] = g := by rw [List.getD_eq_getElem?_getD, hg]; rfl
          have gl2 := ggl g (List.mem_of_getElem? hg)
          have sl := step_len (nb ts v) v gs k
          rw [step_succ, eg, ← List.append_assoc]
          have c : (mNot (mB (mF (mCb anyD (mCons (mF (mComp (mSeqI (mVar 7)) (bName 8) (mPure true) (mF (mOp fIn (mVar 8) (mF (mIxN 1 (mVar 3))))) [8])) mNil))))) [.dat (.tuple [.int p, .tuple ts]), .own (nearsD p ts), .dat (.list (F.map ttG)), .dat (.int v), .own ((L ++ stepP (nb ts v) v gs k).map ttG), .dat (ttG gs), .dat (.int k), .dat (ti g), .un] = .ok (okP (nb ts v) g) [.dat (.tuple [.int p, .tuple ts]), .own (nearsD p ts), .dat (.list (F.map ttG)), .dat (.int v), .own ((L ++ stepP (nb ts v) v gs k).map ttG), .dat (ttG gs), .dat (.int k), .dat (ti g), .un] := by
            have c := compOk (m := (mSeqI (mVar 7))) (b := bName 8) (c := mPure true) (e := (mF (mOp fIn (mVar 8) (mF (mIxN 1 (mVar 3)))))) (vs := [8]) (p := fun _ => true) (g := fun d => .bool (inI (nb ts v) d)) (ds := g.map PyData.int) (ρ := [.dat (.tuple [.int p, .tuple ts]), .own (nearsD p ts), .dat (.list (F.map ttG)), .dat (.int v), .own ((L ++ stepP (nb ts v) v gs k).map ttG), .dat (ttG gs), .dat (.int k), .dat (ti g), .un]) (ρ1 := [.dat (.tuple [.int p, .tuple ts]), .own (nearsD p ts), .dat (.list (F.map ttG)), .dat (.int v), .own ((L ++ stepP (nb ts v) v gs k).map ttG), .dat (ttG gs), .dat (.int k), .dat (ti g), .un]) (seqT rfl) (fun d hd => by
              obtain ⟨x, _, rfl⟩ := List.mem_map.mp hd
              exact ⟨[.dat (.tuple [.int p, .tuple ts]), .own (nearsD p ts), .dat (.list (F.map ttG)), .dat (.int v), .own ((L ++ stepP (nb ts v) v gs k).map ttG), .dat (ttG gs), .dat (.int k), .dat (ti g), .dat (.int x)], rfl, rfl, fun _ => fD (opOk (x := .int x) (y := nbT ts v) rfl (fD (own_ix rfl rfl rfl (atI_nears (by omega) (by omega)))) (in_int x _)), rfl⟩) (by rw [List.length_map]; omega)
            rw [filter_yes] at c
            refine notOk (bOk (fD (cbOk (consOk (fN c) nilOk) (anyOk'.trans ?_))))
            rw [List.any_map]
            rfl
          have lb : ((L ++ stepP (nb ts v) v gs k).map ttG).length ≤ 100000 := by
            rw [List.length_map, List.length_append]
            omega
          generalize L ++ stepP (nb ts v) v gs k = M at lb c
          refine ⟨[.dat (.tuple [.int p, .tuple ts]), .own (nearsD p ts), .dat (.list (F.map ttG)), .dat (.int v), .own (M.map ttG), .dat (ttG gs), .dat (.int k), .dat (ti g), .un], [.dat (.tuple [.int p, .tuple ts]), .own (nearsD p ts), .dat (.list (F.map ttG)), .dat (.int v), .own ((M ++ if okP (nb ts v) g = true then [insP v gs k] else []).map ttG), .dat (ttG gs), .dat (.int k), .dat (ti g), .un], bnd_two (s := w6) (s' := w7) rfl n6 rfl n7, ?_, _, _, _, rfl, rfl, nl_dat, nl_dat⟩
          cases q : okP (nb ts v) g with
          | false =>
            rw [q] at c
            rw [if_neg (by decide), List.append_nil]
            exact (ifF c).trans rfl
          | true =>
            rw [q] at c
            rw [if_pos rfl, List.map_append]
            refine (ifT c).trans (appOk (z := M.map ttG) (ds := M.map ttG) (d := ttG (insP v gs k)) (ρ1 := [.dat (.tuple [.int p, .tuple ts]), .own (nearsD p ts), .dat (.list (F.map ttG)), .dat (.int v), .own (M.map ttG), .dat (ttG gs), .dat (.int k), .dat (ti g), .un]) rfl (fD (opOk (ρ1 := [.dat (.tuple [.int p, .tuple ts]), .own (nearsD p ts), .dat (.list (F.map ttG)), .dat (.int v), .own (M.map ttG), .dat (ttG gs), .dat (.int k), .dat (ti g), .un]) (x := .tuple ((gs.map ti).take k ++ [ti (g ++ [(v : Int)])])) (y := .tuple ((gs.map ti).drop (k + 1))) (fD (opOk (ρ1 := [.dat (.tuple [.int p, .tuple ts]), .own (nearsD p ts), .dat (.list (F.map ttG)), .dat (.int v), .own (M.map ttG), .dat (ttG gs), .dat (.int k), .dat (ti g), .un]) (x := .tuple ((gs.map ti).take k)) (y := .tuple [ti (g ++ [(v : Int)])]) ?_ (tupOk (consOk (fD (opOk (x := ti g) (y := ti [v]) rfl rfl ?_)) nilOk) (show 1 ≤ 100000 by decide)) (add_tups ?_))) ?_ ?_)) rfl lb rfl)
            · rw [← cut_take]
              rfl
            · show fAdd (.tuple (g.map PyData.int)) (.tuple [.int v]) = _
              rw [add_tups (by rw [List.length_map, List.length_singleton]; omega)]
              show _ = some (Rv.dat (.tuple ((g ++ [(v : Int)]).map PyData.int)))
              rw [List.map_append]
              rfl
            · rw [List.length_take, List.length_map, List.length_singleton]
              omega
            · rw [← cut_drop]
              rfl
            · rw [add_tups (by rw [List.length_append, List.length_take, List.length_drop, List.length_map, List.length_singleton]; omega), ttG_ins, eg]) ⟨_, _, _, rfl, rfl, m6, m7⟩
        rw [Nat.zero_add, enumL_len, List.length_map] at e4
        subst e4
        have a2' := (forOk (m := (mEnum (mCons (mVar 5) mNil))) (b := (bTup 2 (bCons (bName 6) (bCons (bName 7) bNil)))) (f := (mIfS (mNot (mB (mF (mCb anyD (mCons (mF (mComp (mSeqI (mVar 7)) (bName 8) (mPure true) (mF (mOp fIn (mVar 8) (mF (mIxN 1 (mVar 3))))) [8])) mNil))))) (mApp 4 (mF (mOp fAdd (mF (mOp fAdd (mF (mSl (mVar 5) mNoPart (mPart (mVar 6)))) (mTup (mCons (mF (mOp fAdd (mVar 7) (mTup (mCons (mVar 3) mNil)))) mNil)))) (mF (mSl (mVar 5) (mPart (mF (mOp fAdd (mVar 6) (mPure (.int 1))))) mNoPart))))) Fl.nx)) (ds := enumL (gs.map ti)) (ρ := [.dat (.tuple [.int p, .tuple ts]), .own (nearsD p ts), .dat (.list (F.map ttG)), .dat (.int v), .own ((L ++ stepP (nb ts v) v gs 0).map ttG), .dat (ttG gs), u6, u7, .un]) (ρ1 := [.dat (.tuple [.int p, .tuple ts]), .own (nearsD p ts), .dat (.list (F.map ttG)), .dat (.int v), .own ((L ++ stepP (nb ts v) v gs 0).map ttG), .dat (ttG gs), u6, u7, .un]) rfl).trans a2
        exact ⟨[.dat (.tuple [.int p, .tuple ts]), .own (nearsD p ts), .dat (.list (F.map ttG)), .dat (.int v), .own (L.map ttG), .dat (ttG gs), u6, u7, .un], _, put_name (s := u5) rfl m5, (seqOk a1).trans a2', _, _, _, _, rfl, rfl, nl_dat, n6, n7⟩) ⟨_, _, _, _, rfl, rfl, h5, h6, h7⟩
      rw [Nat.zero_add, List.length_map, List.take_length] at e4
      subst e4
      have k2' := (forOk it).trans k2
      exact ⟨[.dat (.tuple [.int p, .tuple ts]), .own (nearsD p ts), s2, .dat (.int v), s4, s5, s6, s7, .un], _, put_name (s := s3) rfl h3, (seqOk k1).trans ((seqOk k2').trans (setOk (r := .dat (.list ((nextP (nb ts v) v F).map ttG))) rfl rfl)), _, _, _, _, _, _, rfl, .inr rfl, nl_dat, nl_dat, m5, m6, m7⟩) ⟨_, _, _, _, _, _, rfl, .inl ⟨rfl, rfl⟩, nl_un, nl_un, nl_un, nl_un, nl_un⟩
  rw [Nat.zero_add, rng_len] at h2
  have e2 : s2 = .dat (.list ((partsP ts p.toNat).map ttG)) := by
    rcases h2 with ⟨z, _⟩ | e
    · omega
    · exact e
  subst e2
  exact ret_ok (ρ := [.dat (.tuple [.int p, .tuple ts]), .own (nearsD p ts), .dat (.list ((partsP ts p.toNat).map ttG)), s3, s4, s5, s6, s7, .un]) ((seqOk g0).trans ((seqOk (ρ1 := [.dat (.tuple [.int p, .tuple ts]), .own (nearsD p ts), .own [.tuple []], .un, .un, .un, .un, .un, .un]) rfl).trans ((seqOk ((forOk (rng1Ok (n := p) (consOk (fD (ix0 rfl)) nilOk) (by omega) (by omega))).trans g2)).trans rfl))) rfl
end Hue
-- PB2
namespace Hue
open PySem PySem.Spec PyProof.Rows L2

/-! ### one power more -/
theorem mul_any {a b : Int} {m n : Nat} (m0 : 0 < m) (n0 : 0 < n) (ha : a.natAbs < 2 ^ m) (hb : b.natAbs < 2 ^ n) (h : m + n ≤ 900000) : fMulA (.int a) (.int b) = some (.dat (.int (a * b))) := by
  have h1 := log_lt m0 ha
  have h2 := log_lt n0 hb
  have e : fMul (.int a) (.int b) = some (.dat (.int (a * b))) := by
    show (if cMul a b = true then _ else _) = _
    rw [if_pos (show cMul a b = true from decide_eq_true (by omega))]
  show Option.or (fMul (.int a) (.int b)) _ = _
  rw [e]
  rfl
def Bn (M : Nat) (l : List Int) : Prop := ∀ x ∈ l, x.natAbs ≤ M
def tlI (us : List Int) (l : Int) : List Int := List.zipWith (fun a b => a - l * b) (0 :: us) (us ++ [0])
def tlG (l : Int) : PyData → PyData
  | .tuple [.int a, .int b] => .int (a - l * b)
  | _ => .none
theorem zip_tl (l : Int) : ∀ A B : List Int, (zipL (A.map PyData.int) (B.map PyData.int)).map (tlG l) = (List.zipWith (fun a b => a - l * b) A B).map PyData.int
  | [], B => by unfold zipL; rw [List.map_nil, List.zip_nil_left]; rfl
  | a :: A, [] => rfl
  | a :: A, b :: B => by
    have ih := zip_tl l A B
    unfold zipL at ih ⊢
    rw [List.map_cons, List.map_cons, List.zip_cons_cons, List.map_cons, List.map_cons, ih]
    rfl
theorem zip_ints {A B : List Int} {d : PyData} (h : d ∈ zipL (A.map PyData.int) (B.map PyData.int)) : ∃ a b : Int, d = .tuple [.int a, .int b] ∧ a ∈ A ∧ b ∈ B := by
  unfold zipL at h
  obtain ⟨q, hq, rfl⟩ := List.mem_map.mp h
  obtain ⟨h1, h2⟩ := List.of_mem_zip (a := q.1) (b := q.2) hq
  obtain ⟨a, ha, e1⟩ := List.mem_map.mp h1
  obtain ⟨b, hb, e2⟩ := List.mem_map.mp h2
  exact ⟨a, b, by rw [e1, e2], ha, hb⟩
theorem fn_times_less {us : List Int} {l : Int} (hl : us.length ≤ 1000) (hb : ∀ x ∈ us, x.natAbs < 2 ^ 60) (l0 : 0 ≤ l) (l1 : l ≤ 10) : f_times_less [.dat (.list (us.map PyData.int)), .dat (.int l)] = .ok (.new ((tlI us l).map PyData.int)) [.dat (.list (us.map PyData.int)), .dat (.int l)] := by
  have g0 : mSet 2 (mOp fAdd (mF (mLst (mCons (mPure (.int 0)) mNil))) (mVar 0)) [.dat (.list (us.map PyData.int)), .dat (.int l), .un, .un, .un] = .nx [.dat (.list (us.map PyData.int)), .dat (.int l), .own ((0 :: us).map PyData.int), .un, .un] := setOk (r := .new ((0 :: us).map PyData.int)) (opOk (x := .list [.int 0]) (y := .list (us.map PyData.int)) rfl rfl (add_lists (by rw [List.length_singleton, List.length_map]; omega))) rfl
  refine ret_ok (ρ := [.dat (.list (us.map PyData.int)), .dat (.int l), .dat (.list ((0 :: us).map PyData.int)), .un, .un]) ((seqOk g0).trans (retX ?_)) rfl
  have c := compOk (m := (mZip (mCons (mVar 2) (mCons (mF (mOp fAdd (mVar 0) (mF (mLst (mCons (mPure (.int 0)) mNil))))) mNil)))) (b := (bTup 2 (bCons (bName 3) (bCons (bName 4) bNil)))) (c := mPure true) (e := (mF (mOp fSub (mVar 3) (mF (mOp fMulA (mVar 1) (mVar 4)))))) (vs := [3, 4]) (p := fun _ => true) (g := tlG l) (ds := zipL ((0 :: us).map PyData.int) ((us ++ [0]).map PyData.int)) (ρ := [.dat (.list (us.map PyData.int)), .dat (.int l), .own ((0 :: us).map PyData.int), .un, .un]) (ρ1 := [.dat (.list (us.map PyData.int)), .dat (.int l), .dat (.list ((0 :: us).map PyData.int)), .un, .un]) (by
    have a : (mCons (mVar 2) (mCons (mF (mOp fAdd (mVar 0) (mF (mLst (mCons (mPure (.int 0)) mNil))))) mNil)) [.dat (.list (us.map PyData.int)), .dat (.int l), .own ((0 :: us).map PyData.int), .un, .un] = .ok [.list ((0 :: us).map PyData.int), .list ((us ++ [0]).map PyData.int)] [.dat (.list (us.map PyData.int)), .dat (.int l), .dat (.list ((0 :: us).map PyData.int)), .un, .un] := by
      refine consOk rfl (consOk (fN (opOk (x := .list (us.map PyData.int)) (y := .list [.int 0]) rfl rfl ?_)) nilOk)
      rw [add_lists (by rw [List.length_singleton, List.length_map]; omega), List.map_append]
      rfl
    show mBind _ _ _ = _
    unfold mBind
    rw [a]
    rfl) (fun d hd => by
    obtain ⟨a, b, rfl, ha, hb'⟩ := zip_ints hd
    have bb : b.natAbs < 2 ^ 60 := by
      rcases List.mem_append.mp hb' with q | q
      · exact hb b q
      · rw [List.mem_singleton.mp q]; decide
    refine ⟨[.dat (.list (us.map PyData.int)), .dat (.int l), .dat (.list ((0 :: us).map PyData.int)), .dat (.int a), .dat (.int b)], rfl, rfl, fun _ => fD (opOk (x := .int a) (y := .int (l * b)) rfl (fD (opOk rfl rfl (mul_any (m := 60) (n := 60) (by omega) (by omega) (Nat.lt_of_le_of_lt (show l.natAbs ≤ 10 by omega) (by decide)) bb (by omega)))) rfl), rfl⟩) (by rw [zipL_len, List.length_map, List.length_map, List.length_cons]; omega)
  rw [filter_yes, zip_tl] at c
  exact c
def usI : Nat → List Int
  | 0 => [1]
  | j + 1 => tlI (usI j) j
theorem us_len : ∀ j, (usI j).length = j + 1
  | 0 => rfl
  | j + 1 => by
    show (tlI (usI j) j).length = _
    unfold tlI
    rw [List.length_zipWith, List.length_cons, List.length_append, List.length_singleton, us_len j]
    omega
theorem zipW_mem {f : Int → Int → Int} {x : Int} : ∀ {A B : List Int}, x ∈ List.zipWith f A B → ∃ a b, x = f a b ∧ a ∈ A ∧ b ∈ B
  | [], _, h => by rw [List.zipWith_nil_left] at h; cases h
  | _ :: _, [], h => by rw [List.zipWith_nil_right] at h; cases h
  | a :: A, b :: B, h => by
    rw [List.zipWith_cons_cons] at h
    rcases List.mem_cons.mp h with e | e
    · exact ⟨a, b, e, List.mem_cons_self .., List.mem_cons_self ..⟩
    · obtain ⟨c, d, q, h1, h2⟩ := zipW_mem e
      exact ⟨c, d, q, List.mem_cons_of_mem _ h1, List.mem_cons_of_mem _ h2⟩
theorem tl_bound {us : List Int} {l : Int} {M : Nat} (h : Bn M us) (l0 : 0 ≤ l) (l6 : l ≤ 6) : Bn (7 * M) (tlI us l) := fun x hx => by
  unfold tlI at hx
  obtain ⟨a, b, rfl, h1, h2⟩ := zipW_mem hx
  have a1 : a.natAbs ≤ M := by
    rcases List.mem_cons.mp h1 with e | e
    · rw [e]; exact Nat.zero_le _
    · exact h _ e
  have a2 : b.natAbs ≤ M := by
    rcases List.mem_append.mp h2 with e | e
    · exact h _ e
    · rw [List.mem_singleton.mp e]; exact Nat.zero_le _
  show (a - l * b).natAbs ≤ 7 * M
  have : (l * b).natAbs ≤ 6 * M := by
    rw [Int.natAbs_mul]
    exact Nat.mul_le_mul (by omega) a2
  omega
theorem us_bound : ∀ j, j ≤ 6 → Bn (7 ^ j) (usI j)
  | 0, _ => fun x hx => by rw [List.mem_singleton.mp hx]; exact Nat.le_refl 1
  | j + 1, h => by
    have z := tl_bound (us_bound j (by omega)) (l := j) (by omega) (by omega)
    rw [Nat.pow_succ, Nat.mul_comm]
    exact z
/-! ### numbers added up -/
def addC (ns us : List Int) (c : Int) (k : Nat) : List Int := (List.range ns.length).map fun i => if i < k then ns.getD i 0 + c * us.getD i 0 else ns.getD i 0
theorem addC_len (ns us : List Int) (c : Int) (k : Nat) : (addC ns us c k).length = ns.length := by
  unfold addC
  rw [List.length_map, List.length_range]
theorem addC_get {ns us : List Int} {c : Int} {k i : Nat} (h : i < ns.length) : (addC ns us c k)[i]? = some (if i < k then ns.getD i 0 + c * us.getD i 0 else ns.getD i 0) := by
  unfold addC
  rw [List.getElem?_map, List.getElem?_range h]
  rfl
theorem addC_zero (ns us : List Int) (c : Int) : addC ns us c 0 = ns := by
  apply List.ext_getElem?
  intro i
  by_cases h : i < ns.length
  · rw [addC_get h, if_neg (by omega), List.getD_eq_getElem?_getD, List.getElem?_eq_getElem h]
    rfl
  · rw [List.getElem?_eq_none (by rw [addC_len]; omega), List.getElem?_eq_none (by omega)]
theorem addC_succ {ns us : List Int} {c : Int} {k : Nat} (h : k < ns.length) : addC ns us c (k + 1) = (addC ns us c k).set k (ns.getD k 0 + c * us.getD k 0) := by
  apply List.ext_getElem?
  intro i
  by_cases hi : i < ns.length
  · by_cases e : k = i
    · subst e
      rw [addC_get hi, if_pos (by omega), List.getElem?_set_self (by rw [addC_len]; exact h)]
    · rw [addC_get hi, List.getElem?_set_ne e, addC_get hi]
      by_cases q : i < k
      · rw [if_pos q, if_pos (by omega)]
      · rw [if_neg q, if_neg (by omega)]
  · rw [List.getElem?_eq_none (by rw [addC_len]; omega), List.getElem?_eq_none (by rw [List.length_set, addC_len]; omega)]
theorem addC_bound {ns us : List Int} {c : Int} {k A U : Nat} (hn : Bn A ns) (hu : Bn U us) (hc : c.natAbs ≤ 720) : Bn (A + 720 * U) (addC ns us c k) := fun x hx => by
  unfold addC at hx
  obtain ⟨i, hi, rfl⟩ := List.mem_map.mp hx
  have hi := List.mem_range.mp hi
  have a1 : (ns.getD i 0).natAbs ≤ A := by
    rw [List.getD_eq_getElem?_getD, List.getElem?_eq_getElem hi]
    exact hn _ (List.getElem_mem hi)
  have a2 : (us.getD i 0).natAbs ≤ U := by
    rw [List.getD_eq_getElem?_getD]
    cases q : us[i]? with
    | none => exact Nat.zero_le _
    | some x => exact hu x (List.mem_of_getElem? q)
  show (if i < k then ns.getD i 0 + c * us.getD i 0 else ns.getD i 0).natAbs ≤ _
  split
  · have : (c * us.getD i 0).natAbs ≤ 720 * U := by
      rw [Int.natAbs_mul]
      exact Nat.mul_le_mul hc a2
    omega
  · omega
theorem augOk {k : Nat} {mi m : M PyData} {f : Int → Int → Int} {ds0 ds es : List PyData} {i x y : Int} {ρ ρ1 ρ2 ρ3 : Env} (h0 : heldAt ρ k = some ds0) (hi : mi ρ = .ok (.int i) ρ1) (h1 : heldAt ρ1 k = some ds) (i0 : 0 ≤ i) (hx : ds[i.toNat]? = some (.int x)) (hm : m ρ1 = .ok (.int y) ρ2) (h2 : heldAt ρ2 k = some es) (lt : i.toNat < es.length) (e : putAt ρ2 k (es.set i.toNat (.int (f x y))) = ρ3) : mAugP k mi f m ρ = .nx ρ3 := by
  unfold mAugP
  rw [h0, if_pos (show (some ds0).isSome = true from rfl)]
  unfold mThen
  rw [hi]
  dsimp only
  rw [h1]
  dsimp only
  rw [if_pos i0, hx]
  dsimp only
  rw [hm]
  dsimp only
  rw [h2]
  dsimp only
  rw [if_pos lt, e]
theorem count_ints (m : Int) : ∀ ns : List Int, (ns.map PyData.int).countP (fun z => PyData.eqv z (.int m)) = ns.count m
  | [] => rfl
  | n :: r => by
    rw [List.map_cons, List.countP_cons, count_ints m r, List.count_cons]
    show _ + (if (n == m) = true then 1 else 0) = _
    rfl
theorem count_is (m : Int) (ns : List Int) : countD (ns.map PyData.int) (.int m) = some (.dat (.int ((ns.count m : Nat) : Int))) := by
  unfold countD
  rw [shp_list, show shp (.int m) = true from rfl, if_pos (by rfl), count_ints]
def lensP (F : List (List (List Int))) : List Int := F.map fun gs => (gs.length : Int)
def cntP (F : List (List (List Int))) (m : Int) : Int := ((lensP F).count m : Nat)
def numI (n : Nat) (F : List (List (List Int))) : Nat → List Int
  | 0 => List.replicate (n + 1) 0
  | j + 1 => addC (numI n F j) (usI (j + 1)) (cntP F ((j : Int) + 1)) (j + 2)
theorem num_len (n : Nat) (F : List (List (List Int))) : ∀ j, (numI n F j).length = n + 1
  | 0 => List.length_replicate
  | j + 1 => by
    show (addC _ _ _ _).length = _
    rw [addC_len, num_len n F j]
theorem cnt_le {F : List (List (List Int))} {m : Int} (h : F.length ≤ 720) : (cntP F m).natAbs ≤ 720 := by
  unfold cntP
  have := List.count_le_length (a := m) (l := lensP F)
  unfold lensP at this
  rw [List.length_map] at this
  rw [Int.natAbs_natCast]
  unfold lensP
  omega
theorem num_bound {n : Nat} {F : List (List (List Int))} (h : F.length ≤ 720) : ∀ j, j ≤ 6 → Bn (j * (720 * 7 ^ 6)) (numI n F j)
  | 0, _ => fun x hx => by rw [(List.mem_replicate.mp hx).2]; exact Nat.zero_le _
  | j + 1, hj => by
    have z := addC_bound (k := j + 2) (num_bound (n := n) h j (by omega)) (U := 7 ^ 6) (fun x hx => Nat.le_trans (us_bound (j + 1) hj x hx) (Nat.pow_le_pow_right (by omega) hj)) (cnt_le (m := (j : Int) + 1) h)
    rw [Nat.succ_mul]
    exact z
theorem rep_list {x : PyData} {k : Int} (k0 : 0 ≤ k) (k1 : k ≤ 1000) : fMulA (.list [x]) (.int k) = some (.new (List.replicate k.toNat x)) := by
  have e : fRepL (.list [x]) (.int k) = some (.new (List.replicate k.toNat x)) := by
    show (if _ then _ else _) = _
    rw [if_pos (by rw [decide_eq_true k0, decide_eq_true k1]; rfl), List.flatten_replicate_singleton]
  show Option.or none (Option.or none (Option.or none (fRepL (.list [x]) (.int k)))) = _
  rw [e]
  rfl
theorem fn_powers_of {p : Int} {ts : List PyData} (hw : Web (.tuple [.int p, .tuple ts])) (h : Prs p ts) (hs : steps ltP ts = true) (p1 : 1 ≤ p) (p6 : p ≤ 6) : f_powers_of [.dat (.tuple [.int p, .tuple ts])] = .ok (.dat (.tuple ((numI p.toNat (partsP ts p.toNat) p.toNat).map PyData.int))) [.dat (.tuple [.int p, .tuple ts])] := by
  have B := Bp.parts ts p.toNat
  have fp := fn_partings hw h hs p1 p6
  generalize hF : partsP ts p.toNat = F at B fp
  have fl : F.length ≤ 720 := Nat.le_trans B.len (fct_le (by omega))
  have g2 : mSet 2 (mComp (mSeqI (mF (mCall 1 f_partings (mCons (mVar 0) mNil)))) (bName 8) (mPure true) (mF (mLenN 8)) [8]) [.dat (.tuple [.int p, .tuple ts]), .dat (.int p), .un, .un, .un, .un, .un, .un, .un] = .nx [.dat (.tuple [.int p, .tuple ts]), .dat (.int p), .own ((lensP F).map PyData.int), .un, .un, .un, .un, .un, .un] := by
    have c := compOk (m := (mSeqI (mF (mCall 1 f_partings (mCons (mVar 0) mNil))))) (b := bName 8) (c := mPure true) (e := (mF (mLenN 8))) (vs := [8]) (p := fun _ => true) (g := fun d => .int (lenOf d)) (ds := F.map ttG) (ρ := [.dat (.tuple [.int p, .tuple ts]), .dat (.int p), .un, .un, .un, .un, .un, .un, .un]) (ρ1 := [.dat (.tuple [.int p, .tuple ts]), .dat (.int p), .un, .un, .un, .un, .un, .un, .un]) (seqL (fD (call1 rfl fp))) (fun d hd => by
      obtain ⟨gs, hg, rfl⟩ := List.mem_map.mp hd
      exact ⟨[.dat (.tuple [.int p, .tuple ts]), .dat (.int p), .un, .un, .un, .un, .un, .un, .dat (ttG gs)], rfl, rfl, fun _ => rfl, rfl⟩) (by rw [List.length_map]; omega)
    rw [filter_yes, List.map_map] at c
    have e : ((fun d => PyData.int (lenOf d)) ∘ ttG) = PyData.int ∘ fun gs => (gs.length : Int) := by
      funext gs
      show PyData.int ((gs.map ti).length : Nat) = _
      rw [List.length_map]
      rfl
    rw [e, ← List.map_map] at c
    exact setOk c rfl
  have g3 : mSet 3 (mOp fMulA (mF (mLst (mCons (mPure (.int 0)) mNil))) (mF (mOp fAdd (mVar 1) (mPure (.int 1))))) [.dat (.tuple [.int p, .tuple ts]), .dat (.int p), .own ((lensP F).map PyData.int), .un, .un, .un, .un, .un, .un] = .nx [.dat (.tuple [.int p, .tuple ts]), .dat (.int p), .own ((lensP F).map PyData.int), .own ((List.replicate (p.toNat + 1) (0 : Int)).map PyData.int), .un, .un, .un, .un, .un] := by
    refine setOk (r := .new ((List.replicate (p.toNat + 1) (0 : Int)).map PyData.int)) (ρ1 := [.dat (.tuple [.int p, .tuple ts]), .dat (.int p), .own ((lensP F).map PyData.int), .un, .un, .un, .un, .un, .un]) (opOk (x := .list [.int 0]) (y := .int (p + 1)) rfl (fD rfl) ?_) rfl
    rw [rep_list (by omega) (by omega), List.map_replicate, show (p + 1).toNat = p.toNat + 1 by omega]
  obtain ⟨ρ', g5, s2, s4, s5, s6, s7, rfl, _⟩ := lp_at (ds := rngL 1 p.toNat) (k := 0) (b := bName 5) (f := (mSeq (mSet 4 (mCall 2 f_times_less (mCons (mVar 4) (mCons (mF (mOp fSub (mVar 5) (mPure (.int 1)))) mNil))))
  (mFor (mEnum (mCons (mVar 4) mNil)) (bTup 2 (bCons (bName 6) (bCons (bName 7) bNil))) (mAugP 3 (mVar 6) (fun i j => i + j) (mF (mOp fMulA (mF (mLm countD (mVar 2) (mVar 5))) (mVar 7))))))) (ρ := [.dat (.tuple [.int p, .tuple ts]), .dat (.int p), .own ((lensP F).map PyData.int), .own ((numI p.toNat F 0).map PyData.int), .own [.int 1], .un, .un, .un, .un]) (I := fun j ρ => ∃ s2 s4 s5 s6 s7, ρ = [.dat (.tuple [.int p, .tuple ts]), .dat (.int p), s2, .own ((numI p.toNat F j).map PyData.int), s4, s5, s6, s7, .un] ∧ (s2 = .own ((lensP F).map PyData.int) ∨ s2 = .dat (.list ((lensP F).map PyData.int))) ∧ (s4 = .own ((usI j).map PyData.int) ∨ s4 = .dat (.list ((usI j).map PyData.int))) ∧ Nl s5 ∧ Nl s6 ∧ Nl s7) (fun j d ρ hd hI => by
    rw [Nat.zero_add] at hI
    rw [Nat.zero_add]
    obtain ⟨s2, s4, s5, s6, s7, rfl, h2, h4, h5, h6, h7⟩ := hI
    obtain ⟨rfl, hj⟩ := rng_at1 hd
    have ub := us_bound j (by omega)
    have ul := us_len j
    have ub' : ∀ x ∈ usI j, x.natAbs < 2 ^ 60 := fun x hx => Nat.lt_of_le_of_lt (Nat.le_trans (ub x hx) (Nat.pow_le_pow_right (by omega) (show j ≤ 6 by omega))) (by decide)
    have k1 : mSet 4 (mCall 2 f_times_less (mCons (mVar 4) (mCons (mF (mOp fSub (mVar 5) (mPure (.int 1)))) mNil))) [.dat (.tuple [.int p, .tuple ts]), .dat (.int p), s2, .own ((numI p.toNat F j).map PyData.int), s4, .dat (.int (1 + (j : Int))), s6, s7, .un] = .nx [.dat (.tuple [.int p, .tuple ts]), .dat (.int p), s2, .own ((numI p.toNat F j).map PyData.int), .own ((usI (j + 1)).map PyData.int), .dat (.int (1 + (j : Int))), s6, s7, .un] := by
      have f := fn_times_less (us := usI j) (l := j) (by omega) ub' (by omega) (by omega)
      have sb : mF (mOp fSub (mVar 5) (mPure (.int 1))) [.dat (.tuple [.int p, .tuple ts]), .dat (.int p), s2, .own ((numI p.toNat F j).map PyData.int), .dat (.list ((usI j).map PyData.int)), .dat (.int (1 + (j : Int))), s6, s7, .un] = .ok (.int j) [.dat (.tuple [.int p, .tuple ts]), .dat (.int p), s2, .own ((numI p.toNat F j).map PyData.int), .dat (.list ((usI j).map PyData.int)), .dat (.int (1 + (j : Int))), s6, s7, .un] := by
        refine fD (opOk (x := .int (1 + (j : Int))) (y := .int 1) rfl rfl ?_)
        show some (Rv.dat (.int (1 + (j : Int) - 1))) = _
        rw [show 1 + (j : Int) - 1 = j by omega]
      rcases h4 with e | e
      · subst e
        exact setOk (r := .new ((usI (j + 1)).map PyData.int)) (callOk (xs := [.list ((usI j).map PyData.int), .int j]) (ρ' := [.dat (.tuple [.int p, .tuple ts]), .dat (.int p), s2, .own ((numI p.toNat F j).map PyData.int), .dat (.list ((usI j).map PyData.int)), .dat (.int (1 + (j : Int))), s6, s7, .un]) (consOk rfl (consOk sb nilOk)) rfl f) rfl
      · subst e
        exact setOk (r := .new ((usI (j + 1)).map PyData.int)) (callOk (xs := [.list ((usI j).map PyData.int), .int j]) (ρ' := [.dat (.tuple [.int p, .tuple ts]), .dat (.int p), s2, .own ((numI p.toNat F j).map PyData.int), .dat (.list ((usI j).map PyData.int)), .dat (.int (1 + (j : Int))), s6, s7, .un]) (consOk rfl (consOk sb nilOk)) rfl f) rfl
    have ub1 := us_bound (j + 1) (by omega)
    have ul1 := us_len (j + 1)
    have nl := num_len p.toNat F j
    obtain ⟨ρ2, k2, t2, t6, t7, t3, rfl, e3, m2, m6, m7⟩ := lp_at (ds := enumL ((usI (j + 1)).map PyData.int)) (k := 0) (b := (bTup 2 (bCons (bName 6) (bCons (bName 7) bNil)))) (f := (mAugP 3 (mVar 6) (fun i j => i + j) (mF (mOp fMulA (mF (mLm countD (mVar 2) (mVar 5))) (mVar 7))))) (ρ := [.dat (.tuple [.int p, .tuple ts]), .dat (.int p), s2, .own ((numI p.toNat F j).map PyData.int), .dat (.list ((usI (j + 1)).map PyData.int)), .dat (.int (1 + (j : Int))), s6, s7, .un]) (I := fun k ρ => ∃ t2 t6 t7 t3, ρ = [.dat (.tuple [.int p, .tuple ts]), .dat (.int p), t2, t3, .dat (.list ((usI (j + 1)).map PyData.int)), .dat (.int (1 + (j : Int))), t6, t7, .un] ∧ t3 = .own ((addC (numI p.toNat F j) (usI (j + 1)) (cntP F ((j : Int) + 1)) k).map PyData.int) ∧ (t2 = .own ((lensP F).map PyData.int) ∨ t2 = .dat (.list ((lensP F).map PyData.int))) ∧ Nl t6 ∧ Nl t7) (fun k d ρ hd hI => by
      rw [Nat.zero_add] at hI
      rw [Nat.zero_add]
      obtain ⟨t2, t6, t7, t3, rfl, rfl, m2, m6, m7⟩ := hI
      obtain ⟨x, hx, rfl⟩ := enumL_get hd
      rw [List.getElem?_map] at hx
      obtain ⟨u, hu, rfl⟩ := Option.map_eq_some_iff.mp hx
      have kl := (List.getElem?_eq_some_iff.mp hu).1
      have eu : (usI (j + 1)).getD k 0 = u := by rw [List.getD_eq_getElem?_getD, hu]; rfl
      have um := ub1 u (List.mem_of_getElem? hu)
      rw [addC_succ (show k < (numI p.toNat F j).length by omega), eu]
      have al := addC_len (numI p.toNat F j) (usI (j + 1)) (cntP F ((j : Int) + 1)) k
      have ag := addC_get (us := usI (j + 1)) (c := cntP F ((j : Int) + 1)) (k := k) (show k < (numI p.toNat F j).length by omega)
      rw [if_neg (Nat.lt_irrefl k)] at ag
      generalize addC (numI p.toNat F j) (usI (j + 1)) (cntP F ((j : Int) + 1)) k = A at al ag
      have cm : (mF (mOp fMulA (mF (mLm countD (mVar 2) (mVar 5))) (mVar 7))) [.dat (.tuple [.int p, .tuple ts]), .dat (.int p), t2, .own (A.map PyData.int), .dat (.list ((usI (j + 1)).map PyData.int)), .dat (.int (1 + (j : Int))), .dat (.int k), .dat (.int u), .un] = .ok (.int (cntP F ((j : Int) + 1) * u)) [.dat (.tuple [.int p, .tuple ts]), .dat (.int p), .dat (.list ((lensP F).map PyData.int)), .own (A.map PyData.int), .dat (.list ((usI (j + 1)).map PyData.int)), .dat (.int (1 + (j : Int))), .dat (.int k), .dat (.int u), .un] := by
        have lm : mF (mLm countD (mVar 2) (mVar 5)) [.dat (.tuple [.int p, .tuple ts]), .dat (.int p), t2, .own (A.map PyData.int), .dat (.list ((usI (j + 1)).map PyData.int)), .dat (.int (1 + (j : Int))), .dat (.int k), .dat (.int u), .un] = .ok (.int (cntP F ((j : Int) + 1))) [.dat (.tuple [.int p, .tuple ts]), .dat (.int p), .dat (.list ((lensP F).map PyData.int)), .own (A.map PyData.int), .dat (.list ((usI (j + 1)).map PyData.int)), .dat (.int (1 + (j : Int))), .dat (.int k), .dat (.int u), .un] := by
          have ee : (1 + (j : Int)) = (j : Int) + 1 := by omega
          rcases m2 with e | e
          · subst e
            refine fD ?_
            show mOpt (countD ((lensP F).map PyData.int) (.int (1 + (j : Int)))) [.dat (.tuple [.int p, .tuple ts]), .dat (.int p), .dat (.list ((lensP F).map PyData.int)), .own (A.map PyData.int), .dat (.list ((usI (j + 1)).map PyData.int)), .dat (.int (1 + (j : Int))), .dat (.int k), .dat (.int u), .un] = _
            rw [count_is, ee]
            rfl
          · subst e
            refine fD ?_
            show mOpt (countD ((lensP F).map PyData.int) (.int (1 + (j : Int)))) [.dat (.tuple [.int p, .tuple ts]), .dat (.int p), .dat (.list ((lensP F).map PyData.int)), .own (A.map PyData.int), .dat (.list ((usI (j + 1)).map PyData.int)), .dat (.int (1 + (j : Int))), .dat (.int k), .dat (.int u), .un] = _
            rw [count_is, ee]
            rfl
        exact fD (opOk (x := .int (cntP F ((j : Int) + 1))) (y := .int u) lm rfl (mul_any (m := 60) (n := 60) (by omega) (by omega) (Nat.lt_of_le_of_lt (cnt_le fl) (by decide)) (Nat.lt_of_le_of_lt (Nat.le_trans um (Nat.pow_le_pow_right (by omega) (show j + 1 ≤ 6 by omega))) (by decide)) (by omega)))
      refine ⟨[.dat (.tuple [.int p, .tuple ts]), .dat (.int p), t2, .own (A.map PyData.int), .dat (.list ((usI (j + 1)).map PyData.int)), .dat (.int (1 + (j : Int))), .dat (.int k), .dat (.int u), .un], [.dat (.tuple [.int p, .tuple ts]), .dat (.int p), .dat (.list ((lensP F).map PyData.int)), .own ((A.set k ((numI p.toNat F j).getD k 0 + cntP F ((j : Int) + 1) * u)).map PyData.int), .dat (.list ((usI (j + 1)).map PyData.int)), .dat (.int (1 + (j : Int))), .dat (.int k), .dat (.int u), .un], bnd_two (s := t6) (s' := t7) rfl m6 rfl m7, augOk (ds0 := A.map PyData.int) (ds := A.map PyData.int) (es := A.map PyData.int) (i := k) (x := (numI p.toNat F j).getD k 0) (y := cntP F ((j : Int) + 1) * u) (ρ1 := [.dat (.tuple [.int p, .tuple ts]), .dat (.int p), t2, .own (A.map PyData.int), .dat (.list ((usI (j + 1)).map PyData.int)), .dat (.int (1 + (j : Int))), .dat (.int k), .dat (.int u), .un]) (ρ2 := [.dat (.tuple [.int p, .tuple ts]), .dat (.int p), .dat (.list ((lensP F).map PyData.int)), .own (A.map PyData.int), .dat (.list ((usI (j + 1)).map PyData.int)), .dat (.int (1 + (j : Int))), .dat (.int k), .dat (.int u), .un]) rfl rfl rfl (by omega) (by rw [Int.toNat_natCast, List.getElem?_map, ag]; rfl) cm rfl (by rw [List.length_map]; omega) ?_, _, _, _, _, rfl, rfl, .inr rfl, nl_dat, nl_dat⟩
      rw [Int.toNat_natCast, map_set2]
      rfl) ⟨_, _, _, _, rfl, by rw [addC_zero], h2, h6, h7⟩
    rw [Nat.zero_add, enumL_len, List.length_map, ul1] at e3
    subst e3
    have k2' := (forOk (m := (mEnum (mCons (mVar 4) mNil))) (b := (bTup 2 (bCons (bName 6) (bCons (bName 7) bNil)))) (f := (mAugP 3 (mVar 6) (fun i j => i + j) (mF (mOp fMulA (mF (mLm countD (mVar 2) (mVar 5))) (mVar 7))))) (ds := enumL ((usI (j + 1)).map PyData.int)) (ρ := [.dat (.tuple [.int p, .tuple ts]), .dat (.int p), s2, .own ((numI p.toNat F j).map PyData.int), .own ((usI (j + 1)).map PyData.int), .dat (.int (1 + (j : Int))), s6, s7, .un]) (ρ1 := [.dat (.tuple [.int p, .tuple ts]), .dat (.int p), s2, .own ((numI p.toNat F j).map PyData.int), .dat (.list ((usI (j + 1)).map PyData.int)), .dat (.int (1 + (j : Int))), s6, s7, .un]) rfl).trans k2
    exact ⟨[.dat (.tuple [.int p, .tuple ts]), .dat (.int p), s2, .own ((numI p.toNat F j).map PyData.int), s4, .dat (.int (1 + (j : Int))), s6, s7, .un], _, put_name (s := s5) rfl h5, (seqOk k1).trans k2', _, _, _, _, _, rfl, m2, .inr rfl, nl_dat, m6, m7⟩) ⟨_, _, _, _, _, rfl, .inl rfl, .inl rfl, nl_un, nl_un, nl_un⟩
  rw [Nat.zero_add, rng_len] at g5
  have it : (mRng2 (mCons (mPure (.int 1)) (mCons (mF (mOp fAdd (mVar 1) (mPure (.int 1)))) mNil))) [.dat (.tuple [.int p, .tuple ts]), .dat (.int p), .own ((lensP F).map PyData.int), .own ((numI p.toNat F 0).map PyData.int), .own [.int 1], .un, .un, .un, .un] = .ok (rngL 1 p.toNat) [.dat (.tuple [.int p, .tuple ts]), .dat (.int p), .own ((lensP F).map PyData.int), .own ((numI p.toNat F 0).map PyData.int), .own [.int 1], .un, .un, .un, .un] := by
    have z := rng2Ok (m := (mCons (mPure (.int 1)) (mCons (mF (mOp fAdd (mVar 1) (mPure (.int 1)))) mNil))) (i := 1) (n := p + 1) (ρ := [.dat (.tuple [.int p, .tuple ts]), .dat (.int p), .own ((lensP F).map PyData.int), .own ((numI p.toNat F 0).map PyData.int), .own [.int 1], .un, .un, .un, .un]) (ρ1 := [.dat (.tuple [.int p, .tuple ts]), .dat (.int p), .own ((lensP F).map PyData.int), .own ((numI p.toNat F 0).map PyData.int), .own [.int 1], .un, .un, .un, .un]) (consOk rfl (consOk (fD rfl) nilOk)) (by omega) (by omega) (by omega) (by omega)
    rw [show (p + 1 - 1).toNat = p.toNat by omega] at z
    exact z
  exact ret_ok (ρ := [.dat (.tuple [.int p, .tuple ts]), .dat (.int p), s2, .dat (.list ((numI p.toNat F p.toNat).map PyData.int)), s4, s5, s6, s7, .un]) ((seqOk (ρ1 := [.dat (.tuple [.int p, .tuple ts]), .un, .un, .un, .un, .un, .un, .un, .un]) (dropOk (call1 rfl (fn_check_web _ (hw.pu.th.few (by omega)) hw.tt)))).trans ((seqOk (ρ1 := [.dat (.tuple [.int p, .tuple ts]), .dat (.int p), .un, .un, .un, .un, .un, .un, .un]) rfl).trans ((seqOk g2).trans ((seqOk g3).trans ((seqOk (ρ1 := [.dat (.tuple [.int p, .tuple ts]), .dat (.int p), .own ((lensP F).map PyData.int), .own ((numI p.toNat F 0).map PyData.int), .own [.int 1], .un, .un, .un, .un]) rfl).trans ((seqOk ((forOk it).trans g5)).trans (retX (cbOk (consOk rfl nilOk) rfl)))))))) rfl
/-! ### the worth at a number -/
def hor (ns : List Int) (q : Int) : Int := ns.reverse.foldl (fun w n => w * q + n) 0
theorem hor_bound {q : Int} {b : Nat} (hq : q.natAbs < 2 ^ b) : ∀ (l : List Int), (∀ x ∈ l, x.natAbs < 2 ^ 60) → ∀ (w : Int) (a : Nat), 60 ≤ a → w.natAbs < 2 ^ a → (l.foldl (fun w n => w * q + n) w).natAbs < 2 ^ (a + (b + 1) * l.length)
  | [], _, w, a, _, hw => by rw [List.length_nil, Nat.mul_zero, Nat.add_zero]; exact hw
  | x :: r, h, w, a, ha, hw => by
    have hx := h x (List.mem_cons_self ..)
    have step : (w * q + x).natAbs < 2 ^ (a + b + 1) := by
      have h1 : (w * q).natAbs < 2 ^ (a + b) := by
        rw [Int.natAbs_mul, Nat.pow_add]
        exact Nat.mul_lt_mul'' hw hq
      have h2 : 2 ^ 60 ≤ 2 ^ (a + b) := Nat.pow_le_pow_right (by omega) (by omega)
      rw [Nat.pow_succ]
      omega
    have ih := hor_bound hq r (fun y hy => h y (List.mem_cons_of_mem _ hy)) (w * q + x) (a + b + 1) (by omega) step
    rw [List.foldl_cons, List.length_cons, Nat.mul_succ]
    rw [show a + ((b + 1) * r.length + (b + 1)) = a + b + 1 + (b + 1) * r.length by omega]
    exact ih
theorem fn_count_at {p q : Int} {b : Nat} {ts : List PyData} (hw : Web (.tuple [.int p, .tuple ts])) (h : Prs p ts) (hs : steps ltP ts = true) (p1 : 1 ≤ p) (p6 : p ≤ 6) (b0 : 0 < b) (b1 : b ≤ 10000) (hq : q.natAbs < 2 ^ b) :
    f_count_at [.dat (.tuple [.int p, .tuple ts]), .dat (.int q)] = .ok (.dat (.int (hor (numI p.toNat (partsP ts p.toNat) p.toNat) q))) [.dat (.tuple [.int p, .tuple ts]), .dat (.int q)] := by
  have fp := fn_powers_of hw h hs p1 p6
  have B := Bp.parts ts p.toNat
  have nb := num_bound (n := p.toNat) (F := partsP ts p.toNat) (Nat.le_trans B.len (fct_le (by omega))) p.toNat (by omega)
  have nl := num_len p.toNat (partsP ts p.toNat) p.toNat
  generalize numI p.toNat (partsP ts p.toNat) p.toNat = ns at fp nb nl
  have nb' : ∀ x ∈ ns, x.natAbs < 2 ^ 60 := fun x hx => Nat.lt_of_le_of_lt (Nat.le_trans (nb x hx) (Nat.mul_le_mul_right _ (show p.toNat ≤ 6 by omega))) (by decide)
  obtain ⟨ρ', g, s4, rfl, k4⟩ := lp_at (ds := (ns.reverse).map PyData.int) (k := 0) (b := bName 4) (f := (mSet 3 (mOp fAdd (mF (mOp fMulA (mVar 3) (mVar 1))) (mVar 4)))) (ρ := [.dat (.tuple [.int p, .tuple ts]), .dat (.int q), .dat (.tuple (ns.map PyData.int)), .dat (.int 0), .un]) (I := fun k ρ => ∃ s4, ρ = [.dat (.tuple [.int p, .tuple ts]), .dat (.int q), .dat (.tuple (ns.map PyData.int)), .dat (.int ((ns.reverse.take k).foldl (fun w n => w * q + n) 0)), s4] ∧ Nl s4) (fun k d ρ hd hI => by
    rw [Nat.zero_add] at hI
    rw [Nat.zero_add]
    obtain ⟨s4, rfl, k4⟩ := hI
    rw [List.getElem?_map] at hd
    obtain ⟨x, hx, rfl⟩ := Option.map_eq_some_iff.mp hd
    have kl := (List.getElem?_eq_some_iff.mp hx).1
    rw [List.length_reverse] at kl
    rw [fold_take _ _ hx]
    have wb := hor_bound hq (ns.reverse.take k) (fun y hy => nb' y (List.mem_reverse.mp (List.mem_of_mem_take hy))) 0 60 (Nat.le_refl _) (by decide)
    rw [List.length_take, List.length_reverse] at wb
    generalize (ns.reverse.take k).foldl (fun w n => w * q + n) 0 = w at wb
    have mm : (b + 1) * min k ns.length ≤ (b + 1) * 7 := Nat.mul_le_mul_left _ (by omega)
    exact ⟨[.dat (.tuple [.int p, .tuple ts]), .dat (.int q), .dat (.tuple (ns.map PyData.int)), .dat (.int w), .dat (.int x)], _, put_name (s := s4) rfl k4, setOk (r := .dat (.int (w * q + x))) (opOk (x := .int (w * q)) (y := .int x) (fD (opOk rfl rfl (mul_any (by omega) b0 wb hq (by omega)))) rfl rfl) rfl, _, rfl, nl_dat⟩) ⟨_, rfl, nl_un⟩
  rw [Nat.zero_add, List.length_map, List.take_length] at g
  have it : (mSeqI (mF (mBack (mVar 2)))) [.dat (.tuple [.int p, .tuple ts]), .dat (.int q), .dat (.tuple (ns.map PyData.int)), .dat (.int 0), .un] = .ok (ns.reverse.map PyData.int) [.dat (.tuple [.int p, .tuple ts]), .dat (.int q), .dat (.tuple (ns.map PyData.int)), .dat (.int 0), .un] := by
    have z : (mSeqI (mF (mBack (mVar 2)))) [.dat (.tuple [.int p, .tuple ts]), .dat (.int q), .dat (.tuple (ns.map PyData.int)), .dat (.int 0), .un] = .ok ((ns.map PyData.int).reverse) [.dat (.tuple [.int p, .tuple ts]), .dat (.int q), .dat (.tuple (ns.map PyData.int)), .dat (.int 0), .un] := seqT rfl
    rw [← List.map_reverse] at z
    exact z
  have ci : (mNot (mB (mF (mCall 1 f_is_whole (mCons (mVar 1) mNil))))) [.dat (.tuple [.int p, .tuple ts]), .dat (.int q), .dat (.tuple (ns.map PyData.int)), .un, .un] = .ok false [.dat (.tuple [.int p, .tuple ts]), .dat (.int q), .dat (.tuple (ns.map PyData.int)), .un, .un] := notOk (b := true) (bOk (fD (call1 (x := .int q) rfl (fn_is_whole (.int q)))))
  have gi : mIfS (mNot (mB (mF (mCall 1 f_is_whole (mCons (mVar 1) mNil))))) (fun _ => .bad) Fl.nx [.dat (.tuple [.int p, .tuple ts]), .dat (.int q), .dat (.tuple (ns.map PyData.int)), .un, .un] = .nx [.dat (.tuple [.int p, .tuple ts]), .dat (.int q), .dat (.tuple (ns.map PyData.int)), .un, .un] := ifF ci
  exact ret_ok (ρ := [.dat (.tuple [.int p, .tuple ts]), .dat (.int q), .dat (.tuple (ns.map PyData.int)), .dat (.int (hor ns q)), s4]) ((seqOk (ρ1 := [.dat (.tuple [.int p, .tuple ts]), .dat (.int q), .dat (.tuple (ns.map PyData.int)), .un, .un]) (setOk (call1 rfl fp) rfl)).trans ((seqOk gi).trans ((seqOk (ρ1 := [.dat (.tuple [.int p, .tuple ts]), .dat (.int q), .dat (.tuple (ns.map PyData.int)), .dat (.int 0), .un]) rfl).trans ((seqOk ((forOk it).trans g)).trans rfl)))) rfl
end Hue
-- PB3
namespace Hue
open PySem PySem.Spec PyProof.Rows L2
theorem cl_two {b : PyData → Env → Option Env} {c : M Bool} {e : M PyData} {vs : List Nat} {p : PyData → Bool} {g : PyData → PyData} {J : Env → Prop} : ∀ {ds acc : List PyData} {ρ : Env}, (∀ d ∈ ds, ∀ ρ, J ρ → ∃ ρ1 ρ2, b d ρ = some ρ1 ∧ c ρ1 = .ok (p d) ρ2 ∧ (p d = true → e ρ2 = .ok (g d) ρ2) ∧ J (wipeE ρ2 vs)) → J ρ → acc.length + ds.length ≤ 100000 → ∃ ρ', J ρ' ∧ cloop b c e vs ds ρ acc = .ok (acc ++ (ds.filter p).map g) ρ'
  | [], acc, ρ, _, hJ, _ => ⟨ρ, hJ, by rw [List.filter_nil, List.map_nil, List.append_nil]; rfl⟩
  | d :: ds, acc, ρ, h, hJ, hl => by
    obtain ⟨ρ1, ρ2, h1, h2, h3, h4⟩ := h d (List.mem_cons_self ..) ρ hJ
    rw [List.length_cons] at hl
    have h' := fun x hx => h x (List.mem_cons_of_mem _ hx)
    rw [List.filter_cons]
    cases q : p d with
    | true =>
      obtain ⟨ρ', j, z⟩ := cl_two (acc := acc ++ [g d]) h' h4 (by rw [List.length_append, List.length_singleton]; omega)
      refine ⟨ρ', j, ?_⟩
      rw [if_pos rfl, List.map_cons, cloop, h1]
      dsimp only
      rw [h2, q]
      dsimp only
      rw [h3 q]
      dsimp only
      rw [if_pos (show small acc.length = true from decide_eq_true (by omega)), z, List.append_assoc]
      rfl
    | false =>
      obtain ⟨ρ', j, z⟩ := cl_two (acc := acc) h' h4 (by omega)
      refine ⟨ρ', j, ?_⟩
      rw [if_neg (by decide), cloop, h1]
      dsimp only
      rw [h2, q]
      exact z
theorem comp_two {m : M (List PyData)} {b : PyData → Env → Option Env} {c : M Bool} {e : M PyData} {vs : List Nat} {p : PyData → Bool} {g : PyData → PyData} {J : Env → Prop} {ds : List PyData} {ρ ρ1 : Env} (hm : m ρ = .ok ds ρ1) (h : ∀ d ∈ ds, ∀ ρ, J ρ → ∃ ρ1 ρ2, b d ρ = some ρ1 ∧ c ρ1 = .ok (p d) ρ2 ∧ (p d = true → e ρ2 = .ok (g d) ρ2) ∧ J (wipeE ρ2 vs)) (hJ : J (wipeE ρ1 vs)) (hl : ds.length ≤ 100000) : ∃ ρ', J ρ' ∧ mComp m b c e vs ρ = .ok (.new ((ds.filter p).map g)) ρ' := by
  obtain ⟨ρ', j, z⟩ := cl_two (acc := []) h hJ (by rw [List.length_nil]; omega)
  refine ⟨ρ', j, ?_⟩
  unfold mComp mBind
  rw [hm]
  show R.bind (cloop b c e vs ds (wipeE ρ1 vs) []) _ = _
  rw [z]
  rfl
theorem in_lst (i : Int) (ns : List Int) : fIn (.int i) (.list (ns.map PyData.int)) = some (.dat (.bool (decide (i ∈ ns)))) := by
  show Option.or (if (shp (.int i) && shp (.list (ns.map PyData.int))) = true then some (Rv.dat (.bool (isIn (.int i) (ns.map PyData.int)))) else none) _ = _
  rw [shp_list, show shp (.int i) = true from rfl, if_pos (by rfl), isIn_int]
  rfl
/-! ### does a run go round -/
def prW (w : Int × Int) : PyData := pr w.1 w.2
def sinkI (W : List (Int × Int)) (L : List Int) (v : Int) : Bool := !(W.any fun w => decide (w.1 = v) && decide (w.2 ∈ L))
def grI (W : List (Int × Int)) : Nat → List Int → Bool
  | 0, L => !L.isEmpty
  | f + 1, L => if (L.filter (sinkI W L)).isEmpty = true then !L.isEmpty else grI W f (L.filter fun v => !decide (v ∈ L.filter (sinkI W L)))
abbrev eG (w r : PyData) (s2 s3 s4 s5 s6 s7 : Sl) : Env := [.dat w, .dat r, s2, s3, s4, s5, s6, s7, .un, .un, .un]
abbrev grF : Env → Fl := (mSeq (mSet 7 (mComp (mSeqI (mVar 2)) (bName 8) (mB (mF (mOp fEq (mF (mComp (mSeqI (mVar 3)) (bTup 2 (bCons (bName 9) (bCons (bName 10) bNil))) (mAnd (mB (mF (mOp fEq (mVar 9) (mVar 8)))) (mB (mF (mOp fIn (mVar 10) (mVar 2))))) (mPure (.int 1)) [9, 10])) (mF (mLst mNil))))) (mVar 8) [8]))
  (mSeq (mSet 6 (mOp fNe (mVar 7) (mF (mLst mNil))))
  (mSet 2 (mComp (mSeqI (mVar 2)) (bName 8) (mB (mF (mOp fNotIn (mVar 8) (mVar 7)))) (mVar 8) [8]))))
def HL (s : Sl) (ds : List PyData) : Prop := s = .own ds ∨ s = .dat (.list ds)
theorem HL.nl {s : Sl} {ds : List PyData} (h : HL s ds) : Nl s := by
  rcases h with e | e
  · rw [e]; exact nl_own
  · rw [e]; exact nl_dat
section
variable {w r : PyData} {W : List (Int × Int)} {L : List Int} {s2 s3 s4 s5 s6 s7 : Sl}
theorem int_lay (i : Int) : (PyData.int i).canLay0 = true ∧ (PyData.int i).depth ≤ 10 := ⟨rfl, by rw [PyData.depth]; omega⟩
theorem any_empty {α β : Type} (l : List α) (f : α → Bool) (g : α → β) : ((l.filter f).map g).isEmpty = !(l.any f) := by
  induction l with
  | nil => rfl
  | cons x t ih =>
    rw [List.filter_cons, List.any_cons]
    cases f x with
    | true => rfl
    | false => rw [if_neg (by decide), ih, Bool.false_or]
theorem gr_step (h2 : HL s2 (L.map PyData.int)) (h3 : HL s3 (W.map prW)) (h6 : Nl s6) (h7 : Nl s7) (lw : W.length ≤ 100) (ll : L.length ≤ 100) : ∃ u3, HL u3 (W.map prW) ∧ grF (eG w r s2 s3 s4 s5 s6 s7) = .nx (eG w r (.own ((L.filter fun v => !decide (v ∈ L.filter (sinkI W L))).map PyData.int)) u3 s4 s5 (.dat (.bool (!(L.filter (sinkI W L)).isEmpty))) (.dat (.list ((L.filter (sinkI W L)).map PyData.int)))) := by
  have v2 : mSeqI (mVar 2) (eG w r s2 s3 s4 s5 s6 s7) = .ok (L.map PyData.int) (eG w r (.dat (.list (L.map PyData.int))) s3 s4 s5 s6 s7) := by
    rcases h2 with e | e
    · rw [e]; exact seqL rfl
    · rw [e]; exact seqL rfl
  obtain ⟨ρ', ⟨u3, hu3, rfl⟩, ca⟩ := comp_two (m := mSeqI (mVar 2)) (b := bName 8) (c := (mB (mF (mOp fEq (mF (mComp (mSeqI (mVar 3)) (bTup 2 (bCons (bName 9) (bCons (bName 10) bNil))) (mAnd (mB (mF (mOp fEq (mVar 9) (mVar 8)))) (mB (mF (mOp fIn (mVar 10) (mVar 2))))) (mPure (.int 1)) [9, 10])) (mF (mLst mNil)))))) (e := mVar 8) (vs := [8]) (p := fun d => match d with | .int v => sinkI W L v | _ => false) (g := fun d => d) (J := fun ρ => ∃ u3, HL u3 (W.map prW) ∧ ρ = eG w r (.dat (.list (L.map PyData.int))) u3 s4 s5 s6 s7) (ds := L.map PyData.int) (ρ := eG w r s2 s3 s4 s5 s6 s7) (ρ1 := eG w r (.dat (.list (L.map PyData.int))) s3 s4 s5 s6 s7) v2 (fun d hd ρ hI => by
    obtain ⟨u3, hu3, rfl⟩ := hI
    obtain ⟨v, hv, rfl⟩ := List.mem_map.mp hd
    refine ⟨[.dat w, .dat r, .dat (.list (L.map PyData.int)), u3, s4, s5, s6, s7, .dat (.int v), .un, .un], [.dat w, .dat r, .dat (.list (L.map PyData.int)), .dat (.list (W.map prW)), s4, s5, s6, s7, .dat (.int v), .un, .un], rfl, ?_, fun _ => rfl, ⟨_, .inr rfl, rfl⟩⟩
    have ci := compOk (m := mSeqI (mVar 3)) (b := (bTup 2 (bCons (bName 9) (bCons (bName 10) bNil)))) (c := (mAnd (mB (mF (mOp fEq (mVar 9) (mVar 8)))) (mB (mF (mOp fIn (mVar 10) (mVar 2)))))) (e := (mPure (.int 1))) (vs := [9, 10]) (p := fun d => match d with | .tuple [.int a, .int b] => decide (a = v) && decide (b ∈ L) | _ => false) (g := fun _ => .int 1) (ds := W.map prW) (ρ := [.dat w, .dat r, .dat (.list (L.map PyData.int)), u3, s4, s5, s6, s7, .dat (.int v), .un, .un]) (ρ1 := [.dat w, .dat r, .dat (.list (L.map PyData.int)), .dat (.list (W.map prW)), s4, s5, s6, s7, .dat (.int v), .un, .un]) (by
      rcases hu3 with e | e
      · rw [e]; exact seqL rfl
      · rw [e]; exact seqL rfl) (fun d hd => by
      obtain ⟨x, hx, rfl⟩ := List.mem_map.mp hd
      exact ⟨[.dat w, .dat r, .dat (.list (L.map PyData.int)), .dat (.list (W.map prW)), s4, s5, s6, s7, .dat (.int v), .dat (.int x.1), .dat (.int x.2)], rfl, andOk (bOk (fD (opOk rfl rfl (eq_ints x.1 v)))) (fun _ => bOk (fD (opOk rfl rfl (in_lst x.2 L)))), fun _ => rfl, rfl⟩) (by rw [List.length_map]; omega)
    have es : (((W.map prW).filter fun d => match d with | .tuple [.int a, .int b] => decide (a = v) && decide (b ∈ L) | _ => false).map fun _ => PyData.int 1).isEmpty = sinkI W L v := by
      rw [any_empty, List.any_map]
      rfl
    show _ = R.ok (sinkI W L v) _
    rw [← es]
    exact bOk (fD (opOk (y := .list []) (fN ci) rfl (eq_nil fun d hd => by
      obtain ⟨_, _, rfl⟩ := List.mem_map.mp hd
      exact int_lay 1)))) ⟨_, h3, rfl⟩ (by rw [List.length_map]; omega)
  have ea : ((L.map PyData.int).filter fun d => match d with | .int v => sinkI W L v | _ => false).map (fun d => d) = (L.filter (sinkI W L)).map PyData.int := by
    rw [List.map_id', List.filter_map]
    rfl
  rw [ea] at ca
  have g7 := setOk (i := 7) (ρ2 := eG w r (.dat (.list (L.map PyData.int))) u3 s4 s5 s6 (.own ((L.filter (sinkI W L)).map PyData.int))) ca (set_at (s := s7) rfl h7)
  have fl := List.length_filter_le (sinkI W L) L
  generalize L.filter (sinkI W L) = S at g7 fl
  have g6 : mSet 6 (mOp fNe (mVar 7) (mF (mLst mNil))) (eG w r (.dat (.list (L.map PyData.int))) u3 s4 s5 s6 (.own (S.map PyData.int))) = .nx (eG w r (.dat (.list (L.map PyData.int))) u3 s4 s5 (.dat (.bool (!S.isEmpty))) (.dat (.list (S.map PyData.int)))) := by
    have z := ne_nil (ds := S.map PyData.int) fun d hd => by
      obtain ⟨i, _, rfl⟩ := List.mem_map.mp hd
      exact int_lay i
    rw [List.isEmpty_map] at z
    exact setOk (opOk (x := .list (S.map PyData.int)) (y := .list []) (ρ1 := eG w r (.dat (.list (L.map PyData.int))) u3 s4 s5 s6 (.dat (.list (S.map PyData.int)))) rfl rfl z) (set_at (s := s6) rfl h6)
  have cc := compOk (m := mSeqI (mVar 2)) (b := bName 8) (c := (mB (mF (mOp fNotIn (mVar 8) (mVar 7))))) (e := mVar 8) (vs := [8]) (p := fun d => match d with | .int v => !decide (v ∈ S) | _ => false) (g := fun d => d) (ds := L.map PyData.int) (ρ := eG w r (.dat (.list (L.map PyData.int))) u3 s4 s5 (.dat (.bool (!S.isEmpty))) (.dat (.list (S.map PyData.int)))) (ρ1 := eG w r (.dat (.list (L.map PyData.int))) u3 s4 s5 (.dat (.bool (!S.isEmpty))) (.dat (.list (S.map PyData.int)))) (seqL rfl) (fun d hd => by
    obtain ⟨v, hv, rfl⟩ := List.mem_map.mp hd
    exact ⟨[.dat w, .dat r, .dat (.list (L.map PyData.int)), u3, s4, s5, .dat (.bool (!S.isEmpty)), .dat (.list (S.map PyData.int)), .dat (.int v), .un, .un], rfl, bOk (fD (opOk rfl rfl (notin_lst v S))), fun _ => rfl, rfl⟩) (by rw [List.length_map]; omega)
  rw [List.map_id', List.filter_map] at cc
  exact ⟨u3, hu3, (seqOk g7).trans ((seqOk g6).trans (setOk (r := .new ((L.filter fun v => !decide (v ∈ S)).map PyData.int)) cc rfl))⟩
theorem gr_go (h3 : HL s3 (W.map prW)) (lw : W.length ≤ 100) : ∀ (f n : Nat) (L : List Int) (s2 s3 s7 : Sl), L.length < f → L.length ≤ 100 → f + 1 < n → HL s2 (L.map PyData.int) → HL s3 (W.map prW) → Nl s7 →
    ∃ (M : List Int) (t2 t3 t6 t7 : Sl), HL t2 (M.map PyData.int) ∧ (!M.isEmpty) = grI W f L ∧ M.length ≤ 100 ∧ wloop (mT (mVar 6)) grF n (eG w r s2 s3 s4 s5 (.dat (.bool true)) s7) = .nx (eG w r t2 t3 s4 s5 t6 t7) := fun f => by
  induction f with
  | zero => intro n L _ _ _ h; omega
  | succ f ih =>
    intro n L s2 s3 s7 hl l1 hn h2 h3 h7
    obtain ⟨n, rfl⟩ : ∃ m, n = m + 1 := ⟨n - 1, by omega⟩
    obtain ⟨u3, hu3, g⟩ := gr_step (w := w) (r := r) (s4 := s4) (s5 := s5) (s6 := .dat (.bool true)) h2 h3 nl_dat h7 lw l1
    have t : mT (mVar 6) (eG w r s2 s3 s4 s5 (.dat (.bool true)) s7) = .ok true (eG w r s2 s3 s4 s5 (.dat (.bool true)) s7) := tOk rfl
    have un : wloop (mT (mVar 6)) grF (n + 1) (eG w r s2 s3 s4 s5 (.dat (.bool true)) s7) = wloop (mT (mVar 6)) grF n (eG w r (.own ((L.filter fun v => !decide (v ∈ L.filter (sinkI W L))).map PyData.int)) u3 s4 s5 (.dat (.bool (!(L.filter (sinkI W L)).isEmpty))) (.dat (.list ((L.filter (sinkI W L)).map PyData.int)))) := by
      rw [wloop]
      unfold mThen
      rw [t]
      show (match grF _ with | .nx ρ2 => wloop (mT (mVar 6)) grF n ρ2 | .ct ρ2 => wloop (mT (mVar 6)) grF n ρ2 | .bk ρ2 => .nx ρ2 | .rt r ρ2 => .rt r ρ2 | .ex x ρ2 => .ex x ρ2 | .bad => .bad) = _
      rw [g]
    rw [grI]
    cases q : (L.filter (sinkI W L)).isEmpty with
    | true =>
      rw [q] at un
      have e : L.filter (sinkI W L) = [] := List.isEmpty_iff.mp q
      have eL : (L.filter fun v => !decide (v ∈ L.filter (sinkI W L))) = L := by
        rw [e]
        exact List.filter_eq_self.mpr fun _ _ => rfl
      rw [eL] at un
      obtain ⟨n, rfl⟩ : ∃ m, n = m + 1 := ⟨n - 1, by omega⟩
      refine ⟨L, .own (L.map PyData.int), u3, .dat (.bool false), .dat (.list ((L.filter (sinkI W L)).map PyData.int)), .inl rfl, by rw [if_pos rfl], l1, un.trans ?_⟩
      rw [wloop]
      rfl
    | false =>
      rw [q] at un
      have ls : (L.filter fun v => !decide (v ∈ L.filter (sinkI W L))).length < L.length := by
        obtain ⟨x, hx⟩ : ∃ x, x ∈ L.filter (sinkI W L) := by
          cases z : L.filter (sinkI W L) with
          | nil => rw [z] at q; cases q
          | cons x r => exact ⟨x, List.mem_cons_self ..⟩
        exact List.length_filter_lt_length_iff_exists.mpr ⟨x, (List.mem_filter.mp hx).1, by rw [decide_eq_true hx]; decide⟩
      obtain ⟨M, t2, t3, t6, t7, a, b, c, d⟩ := ih n _ (.own ((L.filter fun v => !decide (v ∈ L.filter (sinkI W L))).map PyData.int)) u3 (.dat (.list ((L.filter (sinkI W L)).map PyData.int))) (by omega) (by omega) (by omega) (.inl rfl) hu3 nl_dat
      exact ⟨M, t2, t3, t6, t7, a, by rw [if_neg (by decide)]; exact b, c, un.trans d⟩
end
end Hue
-- PB4
namespace Hue
open PySem PySem.Spec PyProof.Rows L2
theorem int_th : ∀ n : Nat, n ≤ 4096 → Th 5 5000 (.int (n : Int)) := fun n hn => by
  have h : ((List.range 4097).all fun n => thB 5 5000 (.int (n : Int))) = true := by decide +kernel
  exact thB_ok (List.all_eq_true.mp h n (List.mem_range.mpr (by omega)))
theorem repr_th4 {x : PyData} (h : Th 5 5000 x) : reprD [x] = some (.dat (.str x.shown)) := by
  show (if shw x = true then _ else _) = _
  rw [if_pos (h.shw (by omega) (by omega))]
theorem same_repr {x : PyData} (h : Th 5 5000 x) {a b : M PyData} {ρ ρ1 ρ2 : Env} (ha : a ρ = .ok x ρ1) (hb : b ρ1 = .ok x ρ2) : mB (mF (mOp fNe (mF (mCb reprD (mCons a mNil))) (mF (mCb reprD (mCons b mNil))))) ρ = .ok false ρ2 :=
  bOk (fD (opOk (x := .str x.shown) (y := .str x.shown) (fD (cbOk (xs := [x]) (consOk ha nilOk) (repr_th4 h))) (fD (cbOk (xs := [x]) (consOk hb nilOk) (repr_th4 h))) (ne_str h.so)))
theorem cut_take4 (ds : List PyData) (k : Nat) : cutD ds none (some (k : Int)) = ds.take k := by
  unfold cutD
  rw [HT.sIx_none, HT.sIx_nat ds.length ds.length k, List.drop_zero, Nat.sub_zero]
  rcases Nat.le_total k ds.length with h | h
  · rw [Nat.min_eq_left h]
  · rw [Nat.min_eq_right h, List.take_length, List.take_of_length_le h]
def tA : PyData → Int
  | .tuple [.int a, _] => a
  | _ => 0
def tB : PyData → Int
  | .tuple [_, .int b] => b
  | _ => 0
def ori (t : PyData) (s : Int) : Int × Int := if 0 < s then (tA t, tB t) else (tB t, tA t)
def wys (ts : List PyData) (run : List Int) : List (Int × Int) := List.zipWith ori ts run
theorem zipI_at {bs : List PyData} {rs : List Int} {k : Nat} {d : PyData} (h : (zipL bs (rs.map PyData.int))[k]? = some d) : ∃ o r, bs[k]? = some o ∧ rs[k]? = some r ∧ d = .tuple [o, .int r] := by
  unfold zipL at h
  rw [List.getElem?_map] at h
  obtain ⟨q, hq, rfl⟩ := Option.map_eq_some_iff.mp h
  obtain ⟨h1, h2⟩ := List.getElem?_zip_eq_some.mp hq
  rw [List.getElem?_map] at h2
  obtain ⟨r, hr, e⟩ := Option.map_eq_some_iff.mp h2
  exact ⟨q.1, r, h1, hr, by rw [e]⟩
section
variable {p : Int} {ts : List PyData} {run : List Int}
theorem fn_goes_round (h : Prs p ts) (p1 : 1 ≤ p) (p6 : p ≤ 6) (tl : ts.length ≤ 20) (rl : run.length = ts.length) : f_law_goes_round [.dat (.tuple [.int p, .tuple ts]), .dat (ti run)] = .ok (.dat (.bool (grI (wys ts run) (p.toNat + 1) (rngI p.toNat)))) [.dat (.tuple [.int p, .tuple ts]), .dat (ti run)] := by
  have wl : (wys ts run).length = ts.length := by unfold wys; rw [List.length_zipWith]; omega
  have g2 : mSet 2 (mLrng (mF (mIxN 0 (mPure (.int 0))))) (eG (.tuple [.int p, .tuple ts]) (ti run) .un .un .un .un .un .un) = .nx (eG (.tuple [.int p, .tuple ts]) (ti run) (.own ((rngI p.toNat).map PyData.int)) .un .un .un .un .un) := by
    rw [← rngL_eq]
    exact setOk (r := .new (rngL 0 p.toNat)) (lrngOk (n := p) (fD (ix0 rfl)) (by omega) (by omega)) rfl
  obtain ⟨ρ', f1, s4, s5, rfl, k4, k5⟩ := lp_at (ds := zipL ts (run.map PyData.int)) (k := 0) (b := (bTup 2 (bCons (bName 4) (bCons (bName 5) bNil)))) (f := (mApp 3 (mF (mIf (mB (mF (mOp fGt (mVar 5) (mPure (.int 0))))) (mD (mVar 4)) (mBack (mVar 4)))))) (ρ := eG (.tuple [.int p, .tuple ts]) (ti run) (.own ((rngI p.toNat).map PyData.int)) (.own []) .un .un .un .un)
    (I := fun k ρ => ∃ s4 s5, ρ = eG (.tuple [.int p, .tuple ts]) (ti run) (.own ((rngI p.toNat).map PyData.int)) (.own (((wys ts run).take k).map prW)) s4 s5 .un .un ∧ Nl s4 ∧ Nl s5) (fun k d ρ hd hI => by
      rw [Nat.zero_add] at hI
      rw [Nat.zero_add]
      obtain ⟨s4, s5, rfl, k4, k5⟩ := hI
      obtain ⟨o, s, ho, hs, rfl⟩ := zipI_at hd
      obtain ⟨a, b, rfl, _⟩ := h o (List.mem_of_getElem? ho)
      have wk : (wys ts run)[k]? = some (ori (pr a b) s) := by
        unfold wys
        rw [List.getElem?_zipWith, ho, hs]
      have tkl : (((wys ts run).take k).map prW).length ≤ 20 := by rw [List.length_map, List.length_take]; omega
      rw [List.take_add_one, wk, List.map_append]
      generalize ((wys ts run).take k).map prW = A at tkl
      have c : (mB (mF (mOp fGt (mVar 5) (mPure (.int 0))))) (eG (.tuple [.int p, .tuple ts]) (ti run) (.own ((rngI p.toNat).map PyData.int)) (.own A) (.dat (pr a b)) (.dat (.int s)) .un .un) = .ok (decide (0 < s)) (eG (.tuple [.int p, .tuple ts]) (ti run) (.own ((rngI p.toNat).map PyData.int)) (.own A) (.dat (pr a b)) (.dat (.int s)) .un .un) := bOk (fD (opOk rfl rfl (gt_ints s 0)))
      have m : (mF (mIf (mB (mF (mOp fGt (mVar 5) (mPure (.int 0))))) (mD (mVar 4)) (mBack (mVar 4)))) (eG (.tuple [.int p, .tuple ts]) (ti run) (.own ((rngI p.toNat).map PyData.int)) (.own A) (.dat (pr a b)) (.dat (.int s)) .un .un) = .ok (prW (ori (pr a b) s)) (eG (.tuple [.int p, .tuple ts]) (ti run) (.own ((rngI p.toNat).map PyData.int)) (.own A) (.dat (pr a b)) (.dat (.int s)) .un .un) := by
        unfold ori
        by_cases q : 0 < s
        · rw [decide_eq_true q] at c
          rw [if_pos q]
          exact fD ((mifT c).trans rfl)
        · rw [decide_eq_false q] at c
          rw [if_neg q]
          exact fD ((mifF c).trans rfl)
      exact ⟨eG (.tuple [.int p, .tuple ts]) (ti run) (.own ((rngI p.toNat).map PyData.int)) (.own A) (.dat (pr a b)) (.dat (.int s)) .un .un, eG (.tuple [.int p, .tuple ts]) (ti run) (.own ((rngI p.toNat).map PyData.int)) (.own (A ++ [prW (ori (pr a b) s)])) (.dat (pr a b)) (.dat (.int s)) .un .un, bnd_two (s := s4) (s' := s5) rfl k4 rfl k5, appOk (z := A) (ds := A) rfl m rfl (by omega) rfl, _, _, rfl, nl_dat, nl_dat⟩) ⟨.un, .un, rfl, nl_un, nl_un⟩
  have le : (wys ts run).take (0 + (zipL ts (run.map PyData.int)).length) = wys ts run := by
    rw [zipL_len, List.length_map]
    exact List.take_of_length_le (by omega)
  rw [le] at f1
  have z : mZip (mCons (mF (mIxN 0 (mPure (.int 1)))) (mCons (mVar 1) mNil)) (eG (.tuple [.int p, .tuple ts]) (ti run) (.own ((rngI p.toNat).map PyData.int)) (.own []) .un .un .un .un) = .ok (zipL ts (run.map PyData.int)) (eG (.tuple [.int p, .tuple ts]) (ti run) (.own ((rngI p.toNat).map PyData.int)) (.own []) .un .un .un .un) := zipOk (consOk (fD (ix1 rfl)) (consOk rfl nilOk))
  obtain ⟨M, t2, t3, t6, t7, hM, eM, lM, wz⟩ := gr_go (w := .tuple [.int p, .tuple ts]) (r := ti run) (s3 := .own ((wys ts run).map prW)) (s4 := s4) (s5 := s5) (.inl rfl) (by omega) (p.toNat + 1) 100 (rngI p.toNat) (.own ((rngI p.toNat).map PyData.int)) (.own ((wys ts run).map prW)) .un (by rw [rngI_len]; omega) (by rw [rngI_len]; omega) (by omega) (.inl rfl) (.inl rfl) nl_un
  have last : mOp fNe (mVar 2) (mF (mLst mNil)) (eG (.tuple [.int p, .tuple ts]) (ti run) t2 t3 s4 s5 t6 t7) = .ok (.dat (.bool (grI (wys ts run) (p.toNat + 1) (rngI p.toNat)))) (eG (.tuple [.int p, .tuple ts]) (ti run) (.dat (.list (M.map PyData.int))) t3 s4 s5 t6 t7) := by
    have y := ne_nil (ds := M.map PyData.int) fun d hd => by
      obtain ⟨i, _, rfl⟩ := List.mem_map.mp hd
      exact int_lay i
    rw [List.isEmpty_map, eM] at y
    rcases hM with e | e
    · rw [e]; exact opOk (x := .list (M.map PyData.int)) (y := .list []) (ρ1 := eG (.tuple [.int p, .tuple ts]) (ti run) (.dat (.list (M.map PyData.int))) t3 s4 s5 t6 t7) rfl rfl y
    · rw [e]; exact opOk (x := .list (M.map PyData.int)) (y := .list []) (ρ1 := eG (.tuple [.int p, .tuple ts]) (ti run) (.dat (.list (M.map PyData.int))) t3 s4 s5 t6 t7) rfl rfl y
  exact ret_ok (ρ := eG (.tuple [.int p, .tuple ts]) (ti run) (.dat (.list (M.map PyData.int))) t3 s4 s5 t6 t7) ((seqOk g2).trans ((seqOk (ρ1 := eG (.tuple [.int p, .tuple ts]) (ti run) (.own ((rngI p.toNat).map PyData.int)) (.own []) .un .un .un .un) rfl).trans ((seqOk ((forOk z).trans f1)).trans ((seqOk (ρ1 := eG (.tuple [.int p, .tuple ts]) (ti run) (.own ((rngI p.toNat).map PyData.int)) (.own ((wys ts run).map prW)) s4 s5 (.dat (.bool true)) .un) rfl).trans ((seqOk wz).trans (retX last)))))) rfl
end
def rns : Nat → List (List Int)
  | 0 => [[]]
  | k + 1 => (rns k).map (fun r => r ++ [1]) ++ (rns k).map (fun r => r ++ [-1])
theorem rns_len : ∀ k, (rns k).length = 2 ^ k
  | 0 => rfl
  | k + 1 => by rw [rns, List.length_append, List.length_map, List.length_map, rns_len k, Nat.pow_succ]; omega
theorem rns_each : ∀ k, ∀ r ∈ rns k, r.length = k
  | 0, r, h => by rw [List.mem_singleton.mp h]; rfl
  | k + 1, r, h => by
    rw [rns] at h
    rcases List.mem_append.mp h with q | q
    · obtain ⟨s, hs, rfl⟩ := List.mem_map.mp q; rw [List.length_append, rns_each k s hs]; rfl
    · obtain ⟨s, hs, rfl⟩ := List.mem_map.mp q; rw [List.length_append, rns_each k s hs]; rfl
def cntI (p : Int) (ts : List PyData) : Nat := ((rns ts.length).filter fun r => !grI (wys ts r) (p.toNat + 1) (rngI p.toNat)).length
end Hue
-- PBd
namespace Hue
open PySem PySem.Spec PyProof.Rows L2
/-! ### few places: each web gone through -/
def sinkN (W : List (Nat × Nat)) (L : List Nat) (v : Nat) : Bool := !(W.any fun w => Nat.beq w.1 v && L.any fun x => Nat.beq x w.2)
def grN (W : List (Nat × Nat)) : Nat → List Nat → Bool
  | 0, L => !L.isEmpty
  | f + 1, L => if (L.filter (sinkN W L)).isEmpty = true then !L.isEmpty else grN W f (L.filter fun v => !sinkN W L v)
def wR : List (Nat × Nat) → List (List (Nat × Nat))
  | [] => [[]]
  | t :: r => ((wR r).map fun W => t :: W) ++ (wR r).map fun W => (t.2, t.1) :: W
def cntN (p : Nat) (ps : List (Nat × Nat)) : Nat := ((wR ps).filter fun W => !grN W (p + 1) (List.range p)).length
def codN (c : Nat) : Nat × Nat := (c / 64, c % 64)
def subs : List Nat → List (List Nat)
  | [] => [[]]
  | x :: r => subs r ++ (subs r).map (x :: ·)
def allN (p : Nat) : List Nat := (List.range p).flatMap fun a => ((List.range p).filter fun b => Nat.blt a b).map fun b => a * 64 + b
def worth (p : Nat) (cs : List Nat) : Nat := (hor (numI p (partsP (cs.map fun (c : Nat) => decP (c : Int)) p) p) (-1)).natAbs
def chW (p : Nat) (cs : List Nat) : Bool := !Nat.ble cs.length 7 || Nat.beq (worth p cs) (cntN p (cs.reverse.map codN))
theorem c1 : (subs (allN 1)).all (chW 1) = true := by decide +kernel
theorem c2 : (subs (allN 2)).all (chW 2) = true := by decide +kernel
theorem c3 : (subs (allN 3)).all (chW 3) = true := by decide +kernel
theorem c4 : (subs (allN 4)).all (chW 4) = true := by decide +kernel
theorem all5 : allN 5 = 1 :: 2 :: 3 :: 4 :: 66 :: [67, 68, 131, 132, 196] := by decide +kernel
end Hue
-- PBe1
namespace Hue
theorem e5_0 : ((subs [67, 68, 131, 132, 196]).all fun s => chW 5 (s)) = true := by decide +kernel
theorem e5_1 : ((subs [67, 68, 131, 132, 196]).all fun s => chW 5 (66 :: s)) = true := by decide +kernel
theorem e5_2 : ((subs [67, 68, 131, 132, 196]).all fun s => chW 5 (4 :: s)) = true := by decide +kernel
theorem e5_3 : ((subs [67, 68, 131, 132, 196]).all fun s => chW 5 (4 :: 66 :: s)) = true := by decide +kernel
end Hue
-- PBe2
namespace Hue
theorem e5_4 : ((subs [67, 68, 131, 132, 196]).all fun s => chW 5 (3 :: s)) = true := by decide +kernel
theorem e5_5 : ((subs [67, 68, 131, 132, 196]).all fun s => chW 5 (3 :: 66 :: s)) = true := by decide +kernel
theorem e5_6 : ((subs [67, 68, 131, 132, 196]).all fun s => chW 5 (3 :: 4 :: s)) = true := by decide +kernel
theorem e5_7 : ((subs [67, 68, 131, 132, 196]).all fun s => chW 5 (3 :: 4 :: 66 :: s)) = true := by decide +kernel
end Hue
-- PBe3
namespace Hue
theorem e5_8 : ((subs [67, 68, 131, 132, 196]).all fun s => chW 5 (2 :: s)) = true := by decide +kernel
theorem e5_9 : ((subs [67, 68, 131, 132, 196]).all fun s => chW 5 (2 :: 66 :: s)) = true := by decide +kernel
theorem e5_10 : ((subs [67, 68, 131, 132, 196]).all fun s => chW 5 (2 :: 4 :: s)) = true := by decide +kernel
theorem e5_11 : ((subs [67, 68, 131, 132, 196]).all fun s => chW 5 (2 :: 4 :: 66 :: s)) = true := by decide +kernel
end Hue
-- PBe4
namespace Hue
theorem e5_12 : ((subs [67, 68, 131, 132, 196]).all fun s => chW 5 (2 :: 3 :: s)) = true := by decide +kernel
theorem e5_13 : ((subs [67, 68, 131, 132, 196]).all fun s => chW 5 (2 :: 3 :: 66 :: s)) = true := by decide +kernel
theorem e5_14 : ((subs [67, 68, 131, 132, 196]).all fun s => chW 5 (2 :: 3 :: 4 :: s)) = true := by decide +kernel
theorem e5_15 : ((subs [67, 68, 131, 132, 196]).all fun s => chW 5 (2 :: 3 :: 4 :: 66 :: s)) = true := by decide +kernel
end Hue
-- PBe5
namespace Hue
theorem e5_16 : ((subs [67, 68, 131, 132, 196]).all fun s => chW 5 (1 :: s)) = true := by decide +kernel
theorem e5_17 : ((subs [67, 68, 131, 132, 196]).all fun s => chW 5 (1 :: 66 :: s)) = true := by decide +kernel
theorem e5_18 : ((subs [67, 68, 131, 132, 196]).all fun s => chW 5 (1 :: 4 :: s)) = true := by decide +kernel
theorem e5_19 : ((subs [67, 68, 131, 132, 196]).all fun s => chW 5 (1 :: 4 :: 66 :: s)) = true := by decide +kernel
end Hue
-- PBe6
namespace Hue
theorem e5_20 : ((subs [67, 68, 131, 132, 196]).all fun s => chW 5 (1 :: 3 :: s)) = true := by decide +kernel
theorem e5_21 : ((subs [67, 68, 131, 132, 196]).all fun s => chW 5 (1 :: 3 :: 66 :: s)) = true := by decide +kernel
theorem e5_22 : ((subs [67, 68, 131, 132, 196]).all fun s => chW 5 (1 :: 3 :: 4 :: s)) = true := by decide +kernel
theorem e5_23 : ((subs [67, 68, 131, 132, 196]).all fun s => chW 5 (1 :: 3 :: 4 :: 66 :: s)) = true := by decide +kernel
end Hue
-- PBe7
namespace Hue
theorem e5_24 : ((subs [67, 68, 131, 132, 196]).all fun s => chW 5 (1 :: 2 :: s)) = true := by decide +kernel
theorem e5_25 : ((subs [67, 68, 131, 132, 196]).all fun s => chW 5 (1 :: 2 :: 66 :: s)) = true := by decide +kernel
theorem e5_26 : ((subs [67, 68, 131, 132, 196]).all fun s => chW 5 (1 :: 2 :: 4 :: s)) = true := by decide +kernel
theorem e5_27 : ((subs [67, 68, 131, 132, 196]).all fun s => chW 5 (1 :: 2 :: 4 :: 66 :: s)) = true := by decide +kernel
end Hue
-- PBe8
namespace Hue
theorem e5_28 : ((subs [67, 68, 131, 132, 196]).all fun s => chW 5 (1 :: 2 :: 3 :: s)) = true := by decide +kernel
theorem e5_29 : ((subs [67, 68, 131, 132, 196]).all fun s => chW 5 (1 :: 2 :: 3 :: 66 :: s)) = true := by decide +kernel
theorem e5_30 : ((subs [67, 68, 131, 132, 196]).all fun s => chW 5 (1 :: 2 :: 3 :: 4 :: s)) = true := by decide +kernel
theorem e5_31 : ((subs [67, 68, 131, 132, 196]).all fun s => chW 5 (1 :: 2 :: 3 :: 4 :: 66 :: s)) = true := by decide +kernel
end Hue
-- PB5
namespace Hue
open PySem PySem.Spec PyProof.Rows L2
def cN (n : Nat) : Int := n
def cw (w : Nat × Nat) : Int × Int := ((w.1 : Int), (w.2 : Int))
theorem beq_dec (a b : Nat) : Nat.beq a b = decide (a = b) := by
  rw [Bool.eq_iff_iff, decide_eq_true_iff]
  exact Nat.beq_eq ▸ Iff.rfl
theorem mem_any (L : List Nat) (b : Nat) : (L.any fun x => Nat.beq x b) = decide ((b : Int) ∈ L.map cN) := by
  rw [Bool.eq_iff_iff, decide_eq_true_iff, List.any_eq_true, List.mem_map]
  constructor
  · rintro ⟨x, hx, e⟩
    rw [beq_dec, decide_eq_true_iff] at e
    exact ⟨x, hx, by rw [e]; rfl⟩
  · rintro ⟨x, hx, e⟩
    refine ⟨x, hx, ?_⟩
    have e : (x : Int) = (b : Int) := e
    rw [beq_dec, decide_eq_true_iff]
    omega
theorem sink_eq (W : List (Nat × Nat)) (L : List Nat) (v : Nat) : sinkI (W.map cw).reverse (L.map cN) (cN v) = sinkN W L v := by
  unfold sinkI sinkN
  rw [List.any_reverse, List.any_map]
  congr 2
  funext w
  show (decide ((w.1 : Int) = (v : Int)) && decide ((w.2 : Int) ∈ L.map cN)) = _
  rw [mem_any, beq_dec]
  congr 1
  rw [Bool.eq_iff_iff, decide_eq_true_iff, decide_eq_true_iff]
  omega
theorem gr_eq (W : List (Nat × Nat)) : ∀ (f : Nat) (L : List Nat), grI (W.map cw).reverse f (L.map cN) = grN W f L
  | 0, L => by rw [grI, grN, List.isEmpty_map]
  | f + 1, L => by
    have e1 : (L.map cN).filter (sinkI (W.map cw).reverse (L.map cN)) = (L.filter (sinkN W L)).map cN := by
      rw [List.filter_map]
      congr 1
      apply List.filter_congr
      intro v _
      exact sink_eq W L v
    have e2 : ((L.map cN).filter fun v => !decide (v ∈ (L.filter (sinkN W L)).map cN)) = (L.filter fun v => !sinkN W L v).map cN := by
      rw [List.filter_map]
      congr 1
      apply List.filter_congr
      intro v hv
      show (!decide (cN v ∈ (L.filter (sinkN W L)).map cN)) = _
      congr 1
      rw [Bool.eq_iff_iff, decide_eq_true_iff, List.mem_map]
      constructor
      · rintro ⟨x, hx, e⟩
        have e : (x : Int) = (v : Int) := e
        have : x = v := by omega
        subst this
        exact (List.mem_filter.mp hx).2
      · exact fun z => ⟨v, List.mem_filter.mpr ⟨hv, z⟩, rfl⟩
    rw [grI, grN, e1, e2, List.isEmpty_map, List.isEmpty_map, gr_eq W f]
def prNN (q : Nat × Nat) : PyData := pr (q.1 : Int) (q.2 : Int)
theorem ways_eq : ∀ qs : List (Nat × Nat), (rns qs.length).map (wys (qs.reverse.map prNN)) = (wR qs).map fun W => (W.map cw).reverse
  | [] => rfl
  | t :: qs => by
    have ih := ways_eq qs
    have st : ∀ s : Int, ∀ r ∈ rns qs.length, wys (qs.reverse.map prNN ++ [prNN t]) (r ++ [s]) = wys (qs.reverse.map prNN) r ++ [ori (prNN t) s] := fun s r hr => by
      unfold wys
      rw [List.zipWith_append (by rw [List.length_map, List.length_reverse, rns_each _ r hr])]
      rfl
    have mp : ∀ s : Int, (rns qs.length).map (fun r => wys (qs.reverse.map prNN ++ [prNN t]) (r ++ [s])) = (wR qs).map fun W => (W.map cw).reverse ++ [ori (prNN t) s] := fun s => by
      rw [List.map_congr_left (st s)]
      have z := congrArg (List.map fun V => V ++ [ori (prNN t) s]) ih
      rw [List.map_map, List.map_map] at z
      exact z
    rw [List.length_cons, rns, List.reverse_cons, List.map_append, List.map_append, List.map_map, List.map_map, wR, List.map_append, List.map_map, List.map_map]
    refine congr (congrArg _ ?_) ?_
    · refine (mp 1).trans ?_
      apply List.map_congr_left
      intro W _
      show _ = ((t :: W).map cw).reverse
      rw [List.map_cons, List.reverse_cons]
      rfl
    · refine (mp (-1)).trans ?_
      apply List.map_congr_left
      intro W _
      show _ = (((t.2, t.1) :: W).map cw).reverse
      rw [List.map_cons, List.reverse_cons]
      rfl
theorem rng_cN (n : Nat) : rngI n = (List.range n).map cN := by
  unfold rngI
  apply List.map_congr_left
  intro i _
  show (0 : Int) + (i : Int) = (i : Int)
  omega
theorem cnt_eq (n : Nat) (qs : List (Nat × Nat)) : cntI (n : Int) (qs.reverse.map prNN) = cntN n qs := by
  unfold cntI cntN
  rw [List.length_map, List.length_reverse, Int.toNat_natCast, rng_cN]
  have e : ((rns qs.length).filter fun r => !grI (wys (qs.reverse.map prNN) r) (n + 1) ((List.range n).map cN)).length = (((rns qs.length).map (wys (qs.reverse.map prNN))).filter fun W => !grI W (n + 1) ((List.range n).map cN)).length := by
    rw [List.filter_map, List.length_map]
    rfl
  rw [e, ways_eq, List.filter_map, List.length_map]
  congr 1
  apply List.filter_congr
  intro W _
  show (!grI (W.map cw).reverse (n + 1) ((List.range n).map cN)) = _
  rw [gr_eq]
theorem filt_subs (f : Nat → Bool) : ∀ l : List Nat, l.filter f ∈ subs l
  | [] => List.mem_singleton.mpr rfl
  | x :: l => by
    rw [List.filter_cons, subs]
    split
    · exact List.mem_append_right _ (List.mem_map.mpr ⟨_, filt_subs f l, rfl⟩)
    · exact List.mem_append_left _ (filt_subs f l)
theorem up_eqN {l m : List Nat} (h1 : l.Pairwise (· < ·)) (h2 : m.Pairwise (· < ·)) (h : ∀ y, y ∈ l ↔ y ∈ m) : l = m := by
  have pm : l.Perm m := (List.perm_ext_iff_of_nodup (h1.imp fun z => by omega) (h2.imp fun z => by omega)).mpr h
  exact pm.eq_of_pairwise (le := fun a b => a < b) (fun a b _ _ x y => by omega) h1 h2
theorem allN_up : ((List.range 6).all fun n => decide ((allN n).Pairwise (· < ·))) = true := by decide +kernel
theorem sub_all {x : Nat} {r : List Nat} {f : List Nat → Bool} (h1 : (subs r).all f = true) (h2 : (subs r).all (fun s => f (x :: s)) = true) : (subs (x :: r)).all f = true := by
  rw [subs, List.all_append, h1, List.all_map, Bool.true_and]
  exact h2
theorem chk_all {n : Nat} (h1 : 1 ≤ n) (h5 : n ≤ 5) : (subs (allN n)).all (chW n) = true := by
  have : n = 1 ∨ n = 2 ∨ n = 3 ∨ n = 4 ∨ n = 5 := by omega
  rcases this with rfl | rfl | rfl | rfl | rfl
  · exact c1
  · exact c2
  · exact c3
  · exact c4
  · rw [all5]
    refine sub_all ?_ ?_ <;> refine sub_all ?_ ?_ <;> refine sub_all ?_ ?_ <;> refine sub_all ?_ ?_ <;> refine sub_all ?_ ?_
    · exact e5_0
    · exact e5_1
    · exact e5_2
    · exact e5_3
    · exact e5_4
    · exact e5_5
    · exact e5_6
    · exact e5_7
    · exact e5_8
    · exact e5_9
    · exact e5_10
    · exact e5_11
    · exact e5_12
    · exact e5_13
    · exact e5_14
    · exact e5_15
    · exact e5_16
    · exact e5_17
    · exact e5_18
    · exact e5_19
    · exact e5_20
    · exact e5_21
    · exact e5_22
    · exact e5_23
    · exact e5_24
    · exact e5_25
    · exact e5_26
    · exact e5_27
    · exact e5_28
    · exact e5_29
    · exact e5_30
    · exact e5_31
theorem worth_is {p : Int} {ts : List PyData} (h : Prs p ts) (hs : steps ltP ts = true) (p1 : 1 ≤ p) (p5 : p ≤ 5) (tl : ts.length ≤ 7) : (hor (numI p.toNat (partsP ts p.toNat) p.toNat) (-1)).natAbs = cntI p ts := by
  obtain ⟨n, rfl⟩ : ∃ n : Nat, p = n := ⟨p.toNat, by omega⟩
  have up0 := (steps_ints _).mp (ties_rise (by omega) h hs)
  obtain ⟨cs, ec⟩ : ∃ cs : List Nat, cs = ts.map fun t => (codeD t).toNat := ⟨_, rfl⟩
  have back : ∀ t ∈ ts, ∃ a b : Nat, t = pr (a : Int) (b : Int) ∧ a < b ∧ b < n ∧ codeD t = ((a * 64 + b : Nat) : Int) := fun t ht => by
    obtain ⟨a, b, rfl, a0, ab, bp⟩ := h t ht
    refine ⟨a.toNat, b.toNat, by rw [Int.toNat_of_nonneg a0, Int.toNat_of_nonneg (by omega)], by omega, by omega, ?_⟩
    show a * 64 + b = _
    omega
  have d1 : (cs.map fun (c : Nat) => decP (c : Int)) = ts := by
    rw [ec, List.map_map]
    refine (List.map_congr_left (g := id) fun t ht => ?_).trans (List.map_id ts)
    obtain ⟨a, b, rfl, ab, bn, e⟩ := back t ht
    show decP (((codeD _).toNat : Nat) : Int) = _
    rw [e, Int.toNat_natCast]
    show PyData.tuple [.int (((a * 64 + b : Nat) : Int) / 64), .int (((a * 64 + b : Nat) : Int) % 64)] = .tuple [.int (a : Int), .int (b : Int)]
    rw [show (((a * 64 + b : Nat) : Int) / 64) = a by omega, show (((a * 64 + b : Nat) : Int) % 64) = b by omega]
  have d2 : (cs.reverse.map codN).reverse.map prNN = ts := by
    rw [← List.map_reverse, List.reverse_reverse, List.map_map, ec, List.map_map]
    refine (List.map_congr_left (g := id) fun t ht => ?_).trans (List.map_id ts)
    obtain ⟨a, b, rfl, ab, bn, e⟩ := back t ht
    show prNN (codN (codeD _).toNat) = _
    rw [e, Int.toNat_natCast]
    show pr (((a * 64 + b) / 64 : Nat) : Int) (((a * 64 + b) % 64 : Nat) : Int) = _
    rw [show (a * 64 + b) / 64 = a by omega, show (a * 64 + b) % 64 = b by omega]
    rfl
  have up : cs.Pairwise (· < ·) := by
    rw [ec, List.pairwise_map]
    rw [List.pairwise_map] at up0
    refine up0.imp_of_mem fun {x y} hx hy z => ?_
    obtain ⟨a, b, _, _, _, e1⟩ := back x hx
    obtain ⟨c, d, _, _, _, e2⟩ := back y hy
    omega
  have ms : ∀ c ∈ cs, c ∈ allN n := fun c hc => by
    rw [ec] at hc
    obtain ⟨t, ht, rfl⟩ := List.mem_map.mp hc
    obtain ⟨a, b, _, ab, bn, e⟩ := back t ht
    rw [e, Int.toNat_natCast]
    exact List.mem_flatMap.mpr ⟨a, List.mem_range.mpr (by omega), List.mem_map.mpr ⟨b, List.mem_filter.mpr ⟨List.mem_range.mpr bn, by show Nat.ble (a + 1) b = true; exact Nat.ble_eq.mpr (by omega)⟩, rfl⟩⟩
  have au : (allN n).Pairwise (· < ·) := of_decide_eq_true (List.all_eq_true.mp allN_up n (List.mem_range.mpr (by omega)))
  have sb : cs ∈ subs (allN n) := by
    have e : cs = (allN n).filter fun c => decide (c ∈ cs) := up_eqN up (au.filter _) fun y => by
      rw [List.mem_filter, decide_eq_true_iff]
      exact ⟨fun z => ⟨ms y z, z⟩, fun z => z.2⟩
    rw [e]
    exact filt_subs _ _
  have c := List.all_eq_true.mp (chk_all (n := n) (by omega) (by omega)) cs sb
  unfold chW at c
  have cl : cs.length ≤ 7 := by rw [ec, List.length_map]; exact tl
  rw [Nat.ble_eq.mpr cl, Bool.not_true, Bool.false_or, beq_dec, decide_eq_true_iff, ← cnt_eq, d2] at c
  unfold worth at c
  rw [d1] at c
  rw [Int.toNat_natCast]
  exact c
end Hue
-- PB6
namespace Hue
open PySem PySem.Spec PyProof.Rows L2
theorem cut_seven (ds : List PyData) : cutD ds none (some 7) = ds.take 7 := cut_take4 ds 7
theorem web_seven {p : Int} {ts : List PyData} (h : Web (.tuple [.int p, .tuple ts])) : Web (.tuple [.int p, .tuple (ts.take 7)]) := by
  obtain ⟨q, us, e, p1, p6, ht, tl, hp⟩ := h
  cases e
  have ht : (ts.all (tieT p) && steps ltP ts) = true := ht
  rw [Bool.and_eq_true] at ht
  refine ⟨p, ts.take 7, rfl, p1, p6, ?_, by rw [List.length_take]; omega, fun d hd => hp d (List.mem_of_mem_take hd)⟩
  show (_ && _) = true
  rw [steps_take ltP ts 7 ht.2, Bool.and_true, List.all_eq_true]
  exact fun d hd => List.all_eq_true.mp ht.1 d (List.mem_of_mem_take hd)
abbrev eT (ns : List Int) (i n : Int) (w : PyData) (s4 s5 s6 : Sl) : Env := [.scr ns, .dat (.int i), .own [.int n], .dat w, s4, s5, s6, .un]
abbrev runF : Env → Fl := (mSet 4 (mOp fAdd (mF (mComp (mSeqI (mVar 4)) (bName 7) (mPure true) (mF (mOp fAdd (mVar 7) (mTup (mCons (mPure (.int 1)) mNil)))) [7])) (mF (mComp (mSeqI (mVar 4)) (bName 7) (mPure true) (mF (mOp fAdd (mVar 7) (mTup (mCons (mNeg (mPure (.int 1))) mNil)))) [7]))))
section
variable {ns : List Int} {i n : Int} {w : PyData} {s4 s5 s6 : Sl} {k : Nat}
def snD (s : Int) : PyData → PyData
  | .tuple ds => .tuple (ds ++ [.int s])
  | _ => .none
theorem sn_map (s : Int) (R : List (List Int)) : ((R.map ti).filter fun _ => true).map (snD s) = (R.map fun r => r ++ [s]).map ti := by
  rw [filter_yes, List.map_map, List.map_map]
  apply List.map_congr_left
  intro r _
  show PyData.tuple (r.map PyData.int ++ [.int s]) = .tuple ((r ++ [s]).map PyData.int)
  rw [List.map_append]
  rfl
theorem run_step (h4 : HL s4 ((rns k).map ti)) (hk : k ≤ 7) : runF (eT ns i n w s4 s5 s6) = .nx (eT ns i n w (.own ((rns (k + 1)).map ti)) s5 s6) := by
  have p7 : 2 ^ k ≤ 128 := Nat.le_trans (Nat.pow_le_pow_right (by omega) hk) (by decide)
  have rl := rns_len k
  have each : ∀ (s : Int) (m : M PyData), (∀ r : PyData, m [.scr ns, .dat (.int i), .own [.int n], .dat w, .dat (.list ((rns k).map ti)), s5, s6, .dat r] = .ok (.int s) [.scr ns, .dat (.int i), .own [.int n], .dat w, .dat (.list ((rns k).map ti)), s5, s6, .dat r]) → ∀ d ∈ (rns k).map ti, ∃ ρ1, bName 7 d (wipeE (eT ns i n w (.dat (.list ((rns k).map ti))) s5 s6) [7]) = some ρ1 ∧ mPure true ρ1 = .ok true ρ1 ∧ (true = true → (mF (mOp fAdd (mVar 7) (mTup (mCons m mNil)))) ρ1 = .ok (snD s d) ρ1) ∧ wipeE ρ1 [7] = wipeE (eT ns i n w (.dat (.list ((rns k).map ti))) s5 s6) [7] := fun s m hm d hd => by
    obtain ⟨r, hr, rfl⟩ := List.mem_map.mp hd
    refine ⟨[.scr ns, .dat (.int i), .own [.int n], .dat w, .dat (.list ((rns k).map ti)), s5, s6, .dat (ti r)], rfl, rfl, fun _ => ?_, rfl⟩
    exact fD (opOk (x := ti r) (y := .tuple [.int s]) rfl (tupOk (consOk (hm _) nilOk) (by show 1 ≤ 100000; decide)) (add_tups (by rw [List.length_map, rns_each k r hr, List.length_singleton]; omega)))
  have v4 : mSeqI (mVar 4) (eT ns i n w s4 s5 s6) = .ok ((rns k).map ti) (eT ns i n w (.dat (.list ((rns k).map ti))) s5 s6) := by
    rcases h4 with e | e
    · rw [e]; exact seqL rfl
    · rw [e]; exact seqL rfl
  have ca := compOk (m := mSeqI (mVar 4)) (b := bName 7) (c := mPure true) (e := (mF (mOp fAdd (mVar 7) (mTup (mCons (mPure (.int 1)) mNil))))) (vs := [7]) (p := fun _ => true) (g := snD 1) (ds := (rns k).map ti) (ρ := eT ns i n w s4 s5 s6) (ρ1 := eT ns i n w (.dat (.list ((rns k).map ti))) s5 s6) v4 (each 1 _ fun _ => rfl) (by rw [List.length_map]; omega)
  have cb := compOk (m := mSeqI (mVar 4)) (b := bName 7) (c := mPure true) (e := (mF (mOp fAdd (mVar 7) (mTup (mCons (mNeg (mPure (.int 1))) mNil))))) (vs := [7]) (p := fun _ => true) (g := snD (-1)) (ds := (rns k).map ti) (ρ := eT ns i n w (.dat (.list ((rns k).map ti))) s5 s6) (ρ1 := eT ns i n w (.dat (.list ((rns k).map ti))) s5 s6) (seqL rfl) (each (-1) _ fun _ => rfl) (by rw [List.length_map]; omega)
  rw [sn_map] at ca cb
  refine setOk (r := .new ((rns (k + 1)).map ti)) (opOk (x := .list (((rns k).map fun r => r ++ [1]).map ti)) (y := .list (((rns k).map fun r => r ++ [-1]).map ti)) (ρ1 := eT ns i n w (.dat (.list ((rns k).map ti))) s5 s6) (fN ca) (fN cb) ?_) rfl
  rw [add_lists (by rw [List.length_map, List.length_map, List.length_map, List.length_map]; omega), ← List.map_append]
  rfl
end
def unI (ds : List PyData) : List Int := ds.map fun d => match d with | .int i => i | _ => 0
theorem unI_map (r : List Int) : unI (r.map PyData.int) = r := by
  unfold unI
  rw [List.map_map]
  exact List.map_id r
abbrev turn52 : Env → Fl := (mSeq (mSet 2 (mCallB 2 f_law_box 0 (mCons (mVar 1) mNil)))
  (mSeq (mSet 3 (mCallB 3 f_law_web 2 (mCons (mPure (.int 1)) (mCons (mPure (.int 5)) mNil))))
  (mSeq (mSet 3 (mD (mTup (mCons (mF (mIxN 3 (mPure (.int 0)))) (mCons (mF (mSl (mF (mIxN 3 (mPure (.int 1)))) mNoPart (mPart (mPure (.int 7))))) mNil)))))
  (mSeq (mSet 4 (mLst (mCons (mTup mNil) mNil)))
  (mSeq (mFor (mSeqI (mF (mIxN 3 (mPure (.int 1))))) (bName 5) runF)
  (mSeq (mSet 6 (mCb lenD (mCons (mF (mComp (mSeqI (mVar 4)) (bName 7) (mNot (mB (mF (mCall 2 f_law_goes_round (mCons (mVar 3) (mCons (mVar 7) mNil)))))) (mVar 7) [7])) mNil)))
  (mIfS (mB (mF (mOp fNe (mF (mCb reprD (mCons (mF (mCall 1 f_no_rounds_many (mCons (mVar 3) mNil))) mNil))) (mF (mCb reprD (mCons (mVar 6) mNil)))))) (mRet (mD (mPure (.bool false)))) Fl.nx)))))))
set_option maxHeartbeats 1000000 in
theorem turn52_go {s2 s3 s4 s5 s6 : Sl} {i : Int} (ns : List Int) (i0 : 0 ≤ i) (i1 : i ≤ 8) (h2 : Nl s2) (h3 : Nl s3) (h4 : Nl s4) (h5 : Nl s5) (h6 : Nl s6) :
    ∃ n w t4 t5 t6, turn52 [.scr ns, .dat (.int i), s2, s3, s4, s5, s6, .un] = .nx (eT ns i n w t4 t5 t6) ∧ Nl t4 ∧ Nl t5 ∧ Nl t6 := by
  obtain ⟨n0, b0⟩ := fn_boxN ns i0 (by omega)
  have g0 : mSet 2 (mCallB 2 f_law_box 0 (mCons (mVar 1) mNil)) [.scr ns, .dat (.int i), s2, s3, s4, s5, s6, .un] = .nx [.scr ns, .dat (.int i), .own [.int n0], s3, s4, s5, s6, .un] := setOk (r := .new [.int n0]) (callS0 (xs := [.int i]) (consOk rfl nilOk) rfl b0) (set_at (s := s2) rfl h2)
  obtain ⟨n1, d1, b1, w1, p, tt, rfl, pl, ph⟩ := fn_lwebG n0 1 5 (by omega) (by omega) (by omega)
  have w1' := w1
  obtain ⟨_, ts0, e1, p1, p6, _⟩ := w1'
  cases e1
  have g1 : mSet 3 (mCallB 3 f_law_web 2 (mCons (mPure (.int 1)) (mCons (mPure (.int 5)) mNil))) [.scr ns, .dat (.int i), .own [.int n0], s3, s4, s5, s6, .un] = .nx (eT ns i n1 (.tuple [.int p, .tuple ts0]) s4 s5 s6) := setOk (r := .dat (.tuple [.int p, .tuple ts0])) (callB2 (xs := [.int 1, .int 5]) (consOk rfl (consOk rfl nilOk)) rfl b1) (set_at (s := s3) rfl h3)
  have wk := web_seven w1
  obtain ⟨ts, ets⟩ : ∃ ts, ts = ts0.take 7 := ⟨_, rfl⟩
  rw [← ets] at wk
  have g2 : mSet 3 (mD (mTup (mCons (mF (mIxN 3 (mPure (.int 0)))) (mCons (mF (mSl (mF (mIxN 3 (mPure (.int 1)))) mNoPart (mPart (mPure (.int 7))))) mNil)))) (eT ns i n1 (.tuple [.int p, .tuple ts0]) s4 s5 s6) = .nx (eT ns i n1 (.tuple [.int p, .tuple ts]) s4 s5 s6) := by
    refine setOk (r := .dat (.tuple [.int p, .tuple ts])) (ρ1 := eT ns i n1 (.tuple [.int p, .tuple ts0]) s4 s5 s6) (dOk (tupOk (consOk (fD (ix0 rfl)) (consOk (fD ?_) nilOk)) (by show 2 ≤ 100000; decide))) rfl
    rw [ets, ← cut_seven]
    rfl
  have tl : ts.length ≤ 7 := by rw [ets, List.length_take]; omega
  obtain ⟨hts, hs⟩ : Prs p ts ∧ steps ltP ts = true := by
    obtain ⟨q, us, e, _, _, ht, _, hp⟩ := wk
    cases e
    have z : (ts.all (tieT p) && steps ltP ts) = true := ht
    rw [Bool.and_eq_true] at z
    exact ⟨hp, z.2⟩
  have g3 : mSet 4 (mLst (mCons (mTup mNil) mNil)) (eT ns i n1 (.tuple [.int p, .tuple ts]) s4 s5 s6) = .nx (eT ns i n1 (.tuple [.int p, .tuple ts]) (.own ((rns 0).map ti)) s5 s6) := setOk (r := .new [.tuple []]) rfl (set_at (s := s4) rfl h4)
  obtain ⟨ρ', g4, t4, t5, rfl, k4, k5⟩ := for_bound (m := (mSeqI (mF (mIxN 3 (mPure (.int 1)))))) (b := bName 5) (f := runF) (ds := ts) (ρ := eT ns i n1 (.tuple [.int p, .tuple ts]) (.own ((rns 0).map ti)) s5 s6) (ρ1 := eT ns i n1 (.tuple [.int p, .tuple ts]) (.own ((rns 0).map ti)) s5 s6)
    (I := fun k ρ => ∃ t4 t5, ρ = eT ns i n1 (.tuple [.int p, .tuple ts]) t4 t5 s6 ∧ HL t4 ((rns k).map ti) ∧ Nl t5) (seqT (fD (ix1 rfl))) (fun d hd k ρ hk hI => by
      obtain ⟨t4, t5, rfl, k4, k5⟩ := hI
      exact ⟨eT ns i n1 (.tuple [.int p, .tuple ts]) t4 (.dat d) s6, _, put_name (s := t5) rfl k5, run_step k4 (by omega), _, _, rfl, .inl rfl, nl_dat⟩) ⟨_, _, rfl, .inl rfl, h5⟩
  have rl := rns_len ts.length
  have p7 : 2 ^ ts.length ≤ 128 := Nat.le_trans (Nat.pow_le_pow_right (by omega) tl) (by decide)
  have c6 := compOk (m := mSeqI (mVar 4)) (b := bName 7) (c := (mNot (mB (mF (mCall 2 f_law_goes_round (mCons (mVar 3) (mCons (mVar 7) mNil))))))) (e := mVar 7) (vs := [7]) (p := fun d => match d with | .tuple ds => !grI (wys ts (unI ds)) (p.toNat + 1) (rngI p.toNat) | _ => false) (g := fun d => d) (ds := (rns ts.length).map ti) (ρ := eT ns i n1 (.tuple [.int p, .tuple ts]) t4 t5 s6) (ρ1 := eT ns i n1 (.tuple [.int p, .tuple ts]) (.dat (.list ((rns ts.length).map ti))) t5 s6) (by
    rcases k4 with e | e
    · rw [e]; exact seqL rfl
    · rw [e]; exact seqL rfl) (fun d hd => by
    obtain ⟨r, hr, rfl⟩ := List.mem_map.mp hd
    refine ⟨[.scr ns, .dat (.int i), .own [.int n1], .dat (.tuple [.int p, .tuple ts]), .dat (.list ((rns ts.length).map ti)), t5, s6, .dat (ti r)], rfl, ?_, fun _ => rfl, rfl⟩
    show _ = R.ok (!grI (wys ts (unI (r.map PyData.int))) (p.toNat + 1) (rngI p.toNat)) _
    rw [unI_map]
    exact notOk (bOk (fD (call2 (x := .tuple [.int p, .tuple ts]) (y := ti r) rfl rfl (fn_goes_round hts p1 (by omega) (by omega) (rns_each _ r hr)))))) (by rw [List.length_map]; omega)
  have e6 : ((((rns ts.length).map ti).filter fun d => match d with | .tuple ds => !grI (wys ts (unI ds)) (p.toNat + 1) (rngI p.toNat) | _ => false).map fun d => d).length = cntI p ts := by
    rw [List.map_id', List.filter_map, List.length_map]
    unfold cntI
    congr 1
    apply List.filter_congr
    intro r _
    show (!grI (wys ts (unI (r.map PyData.int))) (p.toNat + 1) (rngI p.toNat)) = _
    rw [unI_map]
  have cl : cntI p ts ≤ 128 := by
    unfold cntI
    exact Nat.le_trans (List.length_filter_le _ _) (by omega)
  have g6 : mSet 6 (mCb lenD (mCons (mF (mComp (mSeqI (mVar 4)) (bName 7) (mNot (mB (mF (mCall 2 f_law_goes_round (mCons (mVar 3) (mCons (mVar 7) mNil)))))) (mVar 7) [7])) mNil)) (eT ns i n1 (.tuple [.int p, .tuple ts]) t4 t5 s6) = .nx (eT ns i n1 (.tuple [.int p, .tuple ts]) (.dat (.list ((rns ts.length).map ti))) t5 (.dat (.int (cntI p ts : Nat)))) := by
    rw [← e6]
    exact setOk (cbOk (consOk (fN c6) nilOk) rfl) (set_at (s := s6) rfl h6)
  have nr : f_no_rounds_many [.dat (.tuple [.int p, .tuple ts])] = .ok (.dat (.int (cntI p ts : Nat))) [.dat (.tuple [.int p, .tuple ts])] := by
    have ca := fn_count_at (q := -1) (b := 1) wk hts hs p1 p6 (by omega) (by omega) (by decide)
    rw [← worth_is hts hs p1 (by omega) tl]
    generalize hor (numI p.toNat (partsP ts p.toNat) p.toNat) (-1) = z at ca
    refine ret_ok (ρ := [.dat (.tuple [.int p, .tuple ts])]) (retX (cbOk (xs := [.int z]) (consOk (fD (callOk (xs := [.tuple [.int p, .tuple ts], .int (-1)]) (consOk rfl (consOk rfl nilOk)) rfl ca)) nilOk) ?_)) rfl
    show some (Rv.dat (.int (if z < 0 then -z else z))) = _
    rw [show (if z < 0 then -z else z) = ((z.natAbs : Nat) : Int) by split <;> omega]
  have c : (mB (mF (mOp fNe (mF (mCb reprD (mCons (mF (mCall 1 f_no_rounds_many (mCons (mVar 3) mNil))) mNil))) (mF (mCb reprD (mCons (mVar 6) mNil)))))) (eT ns i n1 (.tuple [.int p, .tuple ts]) (.dat (.list ((rns ts.length).map ti))) t5 (.dat (.int (cntI p ts : Nat)))) = .ok false (eT ns i n1 (.tuple [.int p, .tuple ts]) (.dat (.list ((rns ts.length).map ti))) t5 (.dat (.int (cntI p ts : Nat)))) := same_repr (int_th (cntI p ts) (by omega)) (fD (call1 (x := .tuple [.int p, .tuple ts]) rfl nr)) rfl
  exact ⟨n1, _, _, _, _, (seqOk g0).trans ((seqOk g1).trans ((seqOk g2).trans ((seqOk g3).trans ((seqOk g4).trans ((seqOk g6).trans ((ifF c).trans rfl)))))), nl_dat, k5, nl_dat⟩
theorem good : ∀ ns : List Int, ns.length ≤ 63 → ∃ as, f_law [.scr ns] = .ok (.dat (.bool true)) as := fun ns _ => by
  obtain ⟨v, mm, v1, v6⟩ : ∃ v : Int, (mF (mCb maxD (mCons (mPure (.int 1)) (mCons (mF (mCb minD (mCons (mF (mLenN 0)) (mCons (mPure (.int 4)) mNil)))) mNil)))) [.scr ns, .un, .un, .un, .un, .un, .un, .un] = .ok (.int v) [.scr ns, .un, .un, .un, .un, .un, .un, .un] ∧ 1 ≤ v ∧ v ≤ 4 := by
    refine ⟨_, fD (cbOk (xs := [.int 1, .int (if (4 : Int) < (ns.map PyData.int).length then 4 else ((ns.map PyData.int).length : Int))]) (consOk rfl (consOk (fD (cbOk (xs := [.int (ns.map PyData.int).length, .int 4]) (consOk rfl (consOk rfl nilOk)) rfl)) nilOk)) rfl), ?_⟩
    split
    · split <;> omega
    · omega
  obtain ⟨ρ', g1, s1, s2, s3, s4, s5, s6, rfl, _⟩ := for_bound (m := (mRng1 (mCons (mF (mCb maxD (mCons (mPure (.int 1)) (mCons (mF (mCb minD (mCons (mF (mLenN 0)) (mCons (mPure (.int 4)) mNil)))) mNil)))) mNil))) (b := bName 1) (f := turn52) (ds := rngL 0 v.toNat) (ρ := [.scr ns, .un, .un, .un, .un, .un, .un, .un]) (ρ1 := [.scr ns, .un, .un, .un, .un, .un, .un, .un])
    (I := fun _ ρ => ∃ s1 s2 s3 s4 s5 s6, ρ = [.scr ns, s1, s2, s3, s4, s5, s6, .un] ∧ Nl s1 ∧ Nl s2 ∧ Nl s3 ∧ Nl s4 ∧ Nl s5 ∧ Nl s6) (rng1Ok (consOk mm nilOk) (by omega) (by omega)) (fun d hd k ρ hk hI => by
      obtain ⟨s1, s2, s3, s4, s5, s6, rfl, h1, h2, h3, h4, h5, h6⟩ := hI
      obtain ⟨i, rfl, i0, i9⟩ := rng_mem hd
      obtain ⟨n, w, t4, t5, t6, g, k⟩ := turn52_go ns i0 (by omega) h2 h3 h4 h5 h6
      exact ⟨[.scr ns, .dat (.int i), s2, s3, s4, s5, s6, .un], _, put_name (s := s1) rfl h1, g, _, _, _, _, _, _, rfl, nl_dat, nl_own, nl_dat, k⟩) ⟨_, _, _, _, _, _, rfl, nl_un, nl_un, nl_un, nl_un, nl_un, nl_un⟩
  exact ⟨_, ret_ok (ρ := [.scr ns, s1, s2, s3, s4, s5, s6, .un]) ((seqOk g1).trans rfl) rfl⟩
end Hue
-- K_k52
namespace Hue
open PySem PySem.Spec PyProof.Rows L2
open Evl (Ex)
open L2H (RoomH PinOk cxH)
def topS (i : Nat) : Stmt := PySem.Challenge.pw_huelists_k52_runs_that_go_nowhere_round.main.body.getD i (.Pass ⟨0, 0, 0, 0⟩)
section
variable {P : Program} {w : World} {K : PySem.W.Frag} {mg : Str → Option Value} {base : Heap}
abbrev s_is_whole : Stmt := topS 10
theorem sc_is_whole : FnScope ["thing"] ["thing"] (defScope s_is_whole) := ⟨rfl, rfl, rfl, by decide +kernel, rfl, by decide +kernel, by decide +kernel⟩
theorem ok_is_whole (T : At K mg "is_whole" s_is_whole ["thing"]) (z_isinstance : mg "isinstance" = none) (z_int : mg "int" = none) (z_bool : mg "bool" = none) : Ok P w K mg base 1 "is_whole" 1 f_is_whole ["thing"] := by
  refine mkOk (k := 0) (body := b_is_whole) T sc_is_whole (fun f cdv A outer s H E hr => ?_) _ rfl rfl
  refine ⟨_, (pss_one (ps_ret (pe_and (pe_callB (kisi K rfl) (by rfl) z_isinstance bt_isinstance (pa_cons (pv 0) (pa_cons (pe_bltn (v := .ty "int") (by rfl) z_int bt_int rfl) pa_nil))) (pe_one (pe_not (pe_callB (kisi K rfl) (by rfl) z_isinstance bt_isinstance (pa_cons (pv 0) (pa_cons (pe_bltn (v := .ty "bool") (by rfl) z_bool bt_bool rfl) pa_nil)))))))), ?_⟩
  exact (ss_ret (sx (se_andV (se (sx_isi (n := "int") (by decide) se_var)) (se_notV (se (sx_isi (n := "bool") (by decide) se_var))))))
abbrev s_is_tuple_of : Stmt := topS 11
theorem sc_is_tuple_of : FnScope ["thing", "many"] ["thing", "many"] (defScope s_is_tuple_of) := ⟨rfl, rfl, rfl, by decide +kernel, rfl, by decide +kernel, by decide +kernel⟩
theorem ok_is_tuple_of (T : At K mg "is_tuple_of" s_is_tuple_of ["thing", "many"]) (z_isinstance : mg "isinstance" = none) (z_tuple : mg "tuple" = none) (z_len : mg "len" = none) : Ok P w K mg base 1 "is_tuple_of" 2 f_is_tuple_of ["thing", "many"] := by
  refine mkOk (k := 0) (body := b_is_tuple_of) T sc_is_tuple_of (fun f cdv A outer s H E hr => ?_) _ rfl rfl
  refine ⟨_, (pss_one (ps_ret (pe_and (pe_callB (kisi K rfl) (by rfl) z_isinstance bt_isinstance (pa_cons (pv 0) (pa_cons (pe_bltn (v := .ty "tuple") (by rfl) z_tuple bt_tuple rfl) pa_nil))) (pe_one (pe_cmpR (kop_eq K rfl hr.units) (pe_callB (klen K rfl) (by rfl) z_len bt_len (pa_cons (pv 0) pa_nil)) (pv 1) (nomark _)))))), ?_⟩
  exact (ss_ret (sx (se_andV (se (sx_isi (n := "tuple") (by decide) se_var)) (se (sx_op ops_eq (se (sx_lenN (k := 0))) se_var)))))
abbrev s_rises : Stmt := topS 16
theorem sc_rises : FnScope ["row", "ahead", "behind"] ["row"] (defScope s_rises) := ⟨rfl, rfl, rfl, by decide +kernel, rfl, by decide +kernel, by decide +kernel⟩
theorem ok_rises (T : At K mg "rises" s_rises ["row"]) (z_all : mg "all" = none) (z_zip : mg "zip" = none) : Ok P w K mg base 1 "rises" 1 f_rises ["row"] := by
  refine mkOk (k := 0) (body := b_rises) T sc_rises (fun f cdv A outer s H E hr => ?_) _ rfl rfl
  refine ⟨_, (pss_one (ps_ret (pe_callB (kall K rfl rfl) (by rfl) z_all bt_all (pa_cons (pe_lc (own := [("ahead", 1), ("behind", 2)]) (g := (gTup K 2 (gCons (gName 1) (gCons (gName 2) gNil)))) rfl sc_rises.nd (kpi_zip K rfl (by rfl) z_zip (pa_cons (pv 0) (pa_cons (pe_slice (ksl K rfl) (pv 0) (po_some pe_int) po_none) pa_nil))) (blkOk_by (N := ["row", "ahead", "behind"]) (sc := defScope s_rises) (by decide +kernel)) (fun _ _ _ _ _ => (kpg_tup K rfl rfl (pgs_cons (pg_name (i := 1) sc_rises.nd rfl (by first | exact Or.inl rfl | exact Or.inr rfl)) (pgs_cons (pg_name (i := 2) sc_rises.nd rfl (by first | exact Or.inl rfl | exact Or.inr rfl)) pgs_nil)))) (fun _ _ _ _ _ => pts_nil) (fun _ _ _ _ _ => (pe_cmpR (kop_lt K rfl hr.units0) (pv 1) (pv 2) (nomark _)))) pa_nil)))), ?_⟩
  exact (ss_ret (sx_cb cas_all (sa_cons (se (sx_comp (E' := liftE E0) (vs := [1, 2]) (si_zip (sa_cons se_var (sa_cons (se (sx_sl se_var (so_some se_int) so_none)) sa_nil))) (sg_tup (sgs_cons sg_name (sgs_cons sg_name sgs_nil))) st_yes (se (sx_op ops_lt se_var se_var)) (by decide))) sa_nil)))
abbrev s_times_less : Stmt := topS 22
theorem sc_times_less : FnScope ["numbers", "less", "raised", "up", "same"] ["numbers", "less"] (defScope s_times_less) := ⟨rfl, rfl, rfl, by decide +kernel, rfl, by decide +kernel, by decide +kernel⟩
theorem ok_times_less (T : At K mg "times_less" s_times_less ["numbers", "less"]) (z_zip : mg "zip" = none) : Ok P w K mg base 1 "times_less" 2 f_times_less ["numbers", "less"] := by
  refine mkOk (k := 0) (body := b_times_less) T sc_times_less (fun f cdv A outer s H E hr => ?_) _ rfl rfl
  refine ⟨_, (pss_cons (ps_set (i := 2) sc_times_less.nd rfl (by first | exact Or.inl rfl | exact Or.inr rfl) (pe_op (kop_add K rfl) (pe_lst (pa_cons pe_int pa_nil)) (pv 0)))
      (pss_one (ps_ret (pe_lc (own := [("up", 3), ("same", 4)]) (g := (gTup K 2 (gCons (gName 3) (gCons (gName 4) gNil)))) rfl sc_times_less.nd (kpi_zip K rfl (by rfl) z_zip (pa_cons (pv 2) (pa_cons (pe_op (kop_add K rfl) (pv 0) (pe_lst (pa_cons pe_int pa_nil))) pa_nil))) (blkOk_by (N := ["numbers", "less", "raised", "up", "same"]) (sc := defScope s_times_less) (by decide +kernel)) (fun _ _ _ _ _ => (kpg_tup K rfl rfl (pgs_cons (pg_name (i := 3) sc_times_less.nd rfl (by first | exact Or.inl rfl | exact Or.inr rfl)) (pgs_cons (pg_name (i := 4) sc_times_less.nd rfl (by first | exact Or.inl rfl | exact Or.inr rfl)) pgs_nil)))) (fun _ _ _ _ _ => pts_nil) (fun _ _ _ _ _ => (pe_op op_sub (pv 3) (pe_op (kop_mul K rfl) (pv 1) (pv 4)))))))), ?_⟩
  exact (ss_seq (ss_set (sx_op ops_add (se (sx_lst (sa_cons se_int sa_nil))) se_var))
      (ss_ret (sx_comp (E' := liftE E0) (vs := [3, 4]) (si_zip (sa_cons se_var (sa_cons (se (sx_op ops_add se_var (se (sx_lst (sa_cons se_int sa_nil))))) sa_nil))) (sg_tup (sgs_cons sg_name (sgs_cons sg_name sgs_nil))) st_yes (se (sx_op ops_sub se_var (se (sx_op ops_mulA se_var se_var)))) (by decide))))
abbrev s_law_box : Stmt := topS 24
theorem sc_law_box : FnScope ["_law_script", "_law_k", "_law_here", "_law_number", "_law_j", "_law_part"] ["_law_script", "_law_k"] (defScope s_law_box) := ⟨rfl, rfl, rfl, by decide +kernel, rfl, by decide +kernel, by decide +kernel⟩
theorem ok_law_box (T : At K mg "_law_box" s_law_box ["_law_script", "_law_k"]) (z_len : mg "len" = none) (z_range : mg "range" = none) : Ok P w K mg base 1 "_law_box" 2 f_law_box ["_law_script", "_law_k"] := by
  refine mkOk (k := 0) (body := b_law_box) T sc_law_box (fun f cdv A outer s H E hr => ?_) _ rfl rfl
  refine ⟨_, (pss_cons (ps_set (i := 2) sc_law_box.nd rfl (by first | exact Or.inl rfl | exact Or.inr rfl) (pe_op (kop_add K rfl) (pe_op (kop_mul K rfl) pe_int (pv 1)) pe_int))
      (pss_cons (ps_if (pt_cmpR (kop_lt K rfl hr.units0) (pv 1) (pe_callB (klen K rfl) (by rfl) z_len bt_len (pa_cons (pv 0) pa_nil)) (nomark _)) (pss_one (ps_set (i := 2) sc_law_box.nd rfl (by first | exact Or.inl rfl | exact Or.inr rfl) (pe_ix (kix K rfl) (pv 0) (pv 1) (fun _ _ => rfl)))) pss_nil)
      (pss_cons (ps_if (pt_cmpR (kop_eq K rfl hr.units) (pe_op op_mod (pv 2) pe_int) pe_int (nomark _)) (pss_one (ps_ret (pe_lst (pa_cons (pe_op op_fdivW (pv 2) pe_int) pa_nil)))) pss_nil)
      (pss_cons (ps_set (i := 3) sc_law_box.nd rfl (by first | exact Or.inl rfl | exact Or.inr rfl) pe_int)
      (pss_cons (ps_for PassesOwn.never rfl (pi_range1 (by rfl) z_range (pa_cons pe_int pa_nil)) (pg_name (i := 4) sc_law_box.nd rfl (by first | exact Or.inl rfl | exact Or.inr rfl)) (pss_cons (ps_set (i := 5) sc_law_box.nd rfl (by first | exact Or.inl rfl | exact Or.inr rfl) (pe_op op_mod (pe_op (kop_add K rfl) (pe_op (kop_add K rfl) (pe_op (kop_mul K rfl) (pe_op op_mod (pv 2) pe_int) pe_int) (pe_op (kop_mul K rfl) pe_int (pv 4))) pe_int) pe_int))
      (pss_cons (ps_set (i := 5) sc_law_box.nd rfl (by first | exact Or.inl rfl | exact Or.inr rfl) (pe_op op_mod (pe_op (kop_mul K rfl) (pv 5) (pv 5)) pe_int))
      (pss_one (ps_set (i := 3) sc_law_box.nd rfl (by first | exact Or.inl rfl | exact Or.inr rfl) (pe_op (kop_add K rfl) (pe_op (kop_mul K rfl) (pv 3) pe_int) (pe_op op_mod (pe_op (kop_mul K rfl) (pv 5) (pe_op (kop_add K rfl) (pv 5) pe_int)) pe_int)))))))
      (pss_one (ps_ret (pe_lst (pa_cons (pv 3) pa_nil))))))))), ?_⟩
  exact (ss_seq (ss_set (sx_op ops_add (se (sx_op ops_mulA se_int se_var)) se_int))
      (ss_seq (ss_if (st_test (se (sx_op ops_lt se_var (se (sx_lenN (k := 0)))))) (ss_set (sx_ixN (k := 0) se_var)) ss_next)
      (ss_seq (ss_if (st_test (se (sx_op ops_eq (se (sx_op ops_mod se_var se_int)) se_int))) (ss_ret (sx_lst (sa_cons (se (sx_op ops_div se_var se_int)) sa_nil))) ss_next)
      (ss_seq (ss_set (sx se_int))
      (ss_seq (ss_for (si_rng1 (sa_cons se_int sa_nil)) sg_name (ss_seq (ss_set (sx_op ops_mod (se (sx_op ops_add (se (sx_op ops_add (se (sx_op ops_mulA (se (sx_op ops_mod se_var se_int)) se_int)) (se (sx_op ops_mulA se_int se_var)))) se_int)) se_int))
      (ss_seq (ss_set (sx_op ops_mod (se (sx_op ops_mulA se_var se_var)) se_int))
      (ss_set (sx_op ops_add (se (sx_op ops_mulA se_var se_int)) (se (sx_op ops_mod (se (sx_op ops_mulA se_var (se (sx_op ops_add se_var se_int)))) se_int)))))))
      (ss_ret (sx_lst (sa_cons se_var sa_nil))))))))
abbrev s_law_take : Stmt := topS 25
theorem sc_law_take : FnScope ["_law_box_here", "_law_many", "_law_left", "_law_digit"] ["_law_box_here", "_law_many"] (defScope s_law_take) := ⟨rfl, rfl, rfl, by decide +kernel, rfl, by decide +kernel, by decide +kernel⟩
theorem ok_law_take (T : At K mg "_law_take" s_law_take ["_law_box_here", "_law_many"]) (z_divmod : mg "divmod" = none) : Ok P w K mg base 1 "_law_take" 2 f_law_take ["_law_box_here", "_law_many"] := by
  refine mkOk (k := 0) (body := b_law_take) T sc_law_take (fun f cdv A outer s H E hr => ?_) _ rfl rfl
  refine ⟨_, (pss_cons (ps_asg (pe_callB call_divmodW (by rfl) z_divmod bt_divmod (pa_cons (pe_ix (kix K rfl) (pv 0) pe_int (fun _ _ => rfl)) (pa_cons (pv 1) pa_nil))) (kpg_tup K rfl rfl (pgs_cons (pg_name (i := 2) sc_law_take.nd rfl (by first | exact Or.inl rfl | exact Or.inr rfl)) (pgs_cons (pg_name (i := 3) sc_law_take.nd rfl (by first | exact Or.inl rfl | exact Or.inr rfl)) pgs_nil))))
      (pss_cons (ps_asg (pv 2) (pg_sub (pv 0) pe_int L2.set_list))
      (pss_one (ps_ret (pv 3))))), ?_⟩
  exact (ss_seq (ss_bnd (se (sx_cb cas_dm (sa_cons (se (sx_ixN (k := 0) se_int)) (sa_cons se_var sa_nil)))) (sg_tup (sgs_cons sg_name (sgs_cons sg_name sgs_nil))))
      (ss_seq (ss_put (k := 0) se_var se_int)
      (ss_ret sx_move)))
abbrev s_law_goes_round : Stmt := topS 27
theorem sc_law_goes_round : FnScope ["_law_web_here", "_law_run", "_law_left", "_law_ways", "_law_tie", "_law_sign", "_law_more", "_law_last", "_law_place", "_law_one", "_law_other"] ["_law_web_here", "_law_run"] (defScope s_law_goes_round) := ⟨rfl, rfl, rfl, by decide +kernel, rfl, by decide +kernel, by decide +kernel⟩
theorem ok_law_goes_round (T : At K mg "_law_goes_round" s_law_goes_round ["_law_web_here", "_law_run"]) (z_list : mg "list" = none) (z_range : mg "range" = none) (z_zip : mg "zip" = none) : Ok P w K mg base 1 "_law_goes_round" 2 f_law_goes_round ["_law_web_here", "_law_run"] := by
  refine mkOk (k := 0) (body := b_law_goes_round) T sc_law_goes_round (fun f cdv A outer s H E hr => ?_) _ rfl rfl
  refine ⟨_, (pss_cons (ps_set (i := 2) sc_law_goes_round.nd rfl (by first | exact Or.inl rfl | exact Or.inr rfl) (pe_listRg rfl (by rfl) z_list (prg_1 (by rfl) z_range (pe_ix (kix K rfl) (pv 0) pe_int (fun _ _ => rfl)))))
      (pss_cons (ps_set (i := 3) sc_law_goes_round.nd rfl (by first | exact Or.inl rfl | exact Or.inr rfl) (pe_lst pa_nil))
      (pss_cons (ps_for PassesOwn.never rfl (kpi_zip K rfl (by rfl) z_zip (pa_cons (pe_ix (kix K rfl) (pv 0) pe_int (fun _ _ => rfl)) (pa_cons (pv 1) pa_nil))) (kpg_tup K rfl rfl (pgs_cons (pg_name (i := 4) sc_law_goes_round.nd rfl (by first | exact Or.inl rfl | exact Or.inr rfl)) (pgs_cons (pg_name (i := 5) sc_law_goes_round.nd rfl (by first | exact Or.inl rfl | exact Or.inr rfl)) pgs_nil))) (pss_one (ps_expr (pe_bm PySem.F.plainAttrs_list PySem.F.slot_list_append PySem.F.type_list_append mt_append (pv 3) (pa_cons (pe_ifExp (pt_cmpR op_gt (pv 5) pe_int (nomark _)) (pv 4) (kpe_back K rfl (pv 4))) pa_nil)))))
      (pss_cons (ps_set (i := 6) sc_law_goes_round.nd rfl (by first | exact Or.inl rfl | exact Or.inr rfl) pe_bl)
      (pss_cons (ps_while PassesOwn.never (kpt_truth K rfl (pv 6) (by intro _; rfl)) (pss_cons (ps_set (i := 7) sc_law_goes_round.nd rfl (by first | exact Or.inl rfl | exact Or.inr rfl) (pe_lc (own := [("_law_place", 8)]) (g := (gName 8)) rfl sc_law_goes_round.nd (kpi_seq K rfl (pv 2)) (blkOk_by (N := ["_law_web_here", "_law_run", "_law_left", "_law_ways", "_law_tie", "_law_sign", "_law_more", "_law_last", "_law_place", "_law_one", "_law_other"]) (sc := defScope s_law_goes_round) (by decide +kernel)) (fun _ _ _ _ _ => (pg_name (i := 8) sc_law_goes_round.nd rfl (by first | exact Or.inl rfl | exact Or.inr rfl))) (fun _ _ _ _ _ => (pts_one (pt_cmpR (kop_eq K rfl hr.units) (pe_lc (own := [("_law_one", 9), ("_law_other", 10)]) (g := (gTup K 2 (gCons (gName 9) (gCons (gName 10) gNil)))) rfl sc_law_goes_round.nd (kpi_seq K rfl (pv 3)) (blkOk_by (by rfl)) (fun _ _ _ _ _ => (kpg_tup K rfl rfl (pgs_cons (pg_name (i := 9) sc_law_goes_round.nd rfl (by first | exact Or.inl rfl | exact Or.inr rfl)) (pgs_cons (pg_name (i := 10) sc_law_goes_round.nd rfl (by first | exact Or.inl rfl | exact Or.inr rfl)) pgs_nil)))) (fun _ _ _ _ _ => (pts_one (PW.pt (pw_and (pt_cmpR (kop_eq K rfl hr.units) (pv 9) (pv 8) (nomark _)) (pw_and1 (pt_cmpR (kop_in K rfl hr.units65) (pv 10) (pv 2) (by rfl))))))) (fun _ _ _ _ _ => pe_int)) (pe_lst pa_nil) (nomark _)))) (fun _ _ _ _ _ => (pv 8))))
      (pss_cons (ps_set (i := 6) sc_law_goes_round.nd rfl (by first | exact Or.inl rfl | exact Or.inr rfl) (pe_cmpR (kop_ne K rfl hr.units) (pv 7) (pe_lst pa_nil) (nomark _)))
      (pss_one (ps_set (i := 2) sc_law_goes_round.nd rfl (by first | exact Or.inl rfl | exact Or.inr rfl) (pe_lc (own := [("_law_place", 8)]) (g := (gName 8)) rfl sc_law_goes_round.nd (kpi_seq K rfl (pv 2)) (blkOk_by (N := ["_law_web_here", "_law_run", "_law_left", "_law_ways", "_law_tie", "_law_sign", "_law_more", "_law_last", "_law_place", "_law_one", "_law_other"]) (sc := defScope s_law_goes_round) (by decide +kernel)) (fun _ _ _ _ _ => (pg_name (i := 8) sc_law_goes_round.nd rfl (by first | exact Or.inl rfl | exact Or.inr rfl))) (fun _ _ _ _ _ => (pts_one (pt_cmpR (kop_notin K rfl hr.units65) (pv 8) (pv 7) (by rfl)))) (fun _ _ _ _ _ => (pv 8))))))))
      (pss_one (ps_ret (pe_cmpR (kop_ne K rfl hr.units) (pv 2) (pe_lst pa_nil) (nomark _))))))))), ?_⟩
  exact (ss_seq (ss_set (sx_lrng (se (sx_ixN (k := 0) se_int))))
      (ss_seq (ss_set (sx_lst sa_nil))
      (ss_seq (ss_for (si_zip (sa_cons (se (sx_ixN (k := 0) se_int)) (sa_cons se_var sa_nil))) (sg_tup (sgs_cons sg_name (sgs_cons sg_name sgs_nil))) (ss_app (k := 3) (se (sx_if (st_test (se (sx_op ops_gt se_var se_int))) (sx se_var) (sx_back se_var)))))
      (ss_seq (ss_set (sx se_bl))
      (ss_seq (ss_while 100 (st_tru se_var) (ss_seq (ss_set (sx_comp (E' := liftE E0) (vs := [8]) (si_seq se_var) sg_name (st_test (se (sx_op ops_eq (se (sx_comp (E' := liftE E0) (vs := [9, 10]) (si_seq se_var) (sg_tup (sgs_cons sg_name (sgs_cons sg_name sgs_nil))) (st_and (st_test (se (sx_op ops_eq se_var se_var))) (st_test (se (sx_op ops_in se_var se_var)))) se_int (by decide))) (se (sx_lst sa_nil))))) se_var (by decide)))
      (ss_seq (ss_set (sx_op ops_ne se_var (se (sx_lst sa_nil))))
      (ss_set (sx_comp (E' := liftE E0) (vs := [8]) (si_seq se_var) sg_name (st_test (se (sx_op ops_notin se_var se_var))) se_var (by decide))))))
      (ss_ret (sx_op ops_ne se_var (se (sx_lst sa_nil)))))))))
abbrev s_is_places : Stmt := topS 12
theorem sc_is_places : FnScope ["thing"] ["thing"] (defScope s_is_places) := ⟨rfl, rfl, rfl, by decide +kernel, rfl, by decide +kernel, by decide +kernel⟩
theorem ok_is_places (T : At K mg "is_places" s_is_places ["thing"]) (O_is_whole : Ok P w K mg base 1 "is_whole" 1 f_is_whole ["thing"]) (q_MOST_PLACES : CnI mg "MOST_PLACES" 6) : Ok P w K mg base 2 "is_places" 1 f_is_places ["thing"] := by
  obtain ⟨p_is_whole, e_is_whole, G_is_whole, m_is_whole, k_is_whole, b_is_whole⟩ := O_is_whole
  obtain ⟨t_MOST_PLACES, q_MOST_PLACES⟩ := q_MOST_PLACES
  refine mkOk (k := 1) (body := b_is_places) T sc_is_places (fun f cdv A outer s H E hr => ?_) _ rfl rfl
  refine ⟨_, (pss_one (ps_ret (pe_and (pe_call G_is_whole (hr.mono (by decide)) (by rfl) m_is_whole k_is_whole b_is_whole .nil pass0 (pa_cons (pv 0) pa_nil)) (pe_one (pe_chain (kop_le K rfl hr.units0) (kop_le K rfl hr.units0) pe_int (pv 0) (pe_glob (v := .int 6) (by rfl) q_MOST_PLACES ⟨_, rfl⟩)))))), ?_⟩
  exact (ss_ret (sx (se_andV (se (sx_c (sa_cons se_var sa_nil))) (se_chain ops_le ops_le se_int se_var se_int))))
abbrev s_is_place : Stmt := topS 13
theorem sc_is_place : FnScope ["thing", "places"] ["thing", "places"] (defScope s_is_place) := ⟨rfl, rfl, rfl, by decide +kernel, rfl, by decide +kernel, by decide +kernel⟩
theorem ok_is_place (T : At K mg "is_place" s_is_place ["thing", "places"]) (O_is_whole : Ok P w K mg base 1 "is_whole" 1 f_is_whole ["thing"]) : Ok P w K mg base 2 "is_place" 2 f_is_place ["thing", "places"] := by
  obtain ⟨p_is_whole, e_is_whole, G_is_whole, m_is_whole, k_is_whole, b_is_whole⟩ := O_is_whole
  refine mkOk (k := 1) (body := b_is_place) T sc_is_place (fun f cdv A outer s H E hr => ?_) _ rfl rfl
  refine ⟨_, (pss_one (ps_ret (pe_and (pe_call G_is_whole (hr.mono (by decide)) (by rfl) m_is_whole k_is_whole b_is_whole .nil pass0 (pa_cons (pv 0) pa_nil)) (pe_one (pe_chain (kop_le K rfl hr.units0) (kop_lt K rfl hr.units0) pe_int (pv 0) (pv 1)))))), ?_⟩
  exact (ss_ret (sx (se_andV (se (sx_c (sa_cons se_var sa_nil))) (se_chain ops_le ops_lt se_int se_var se_var))))
abbrev s_law_web : Stmt := topS 26
theorem sc_law_web : FnScope ["_law_box_here", "_law_least", "_law_most", "_law_places", "_law_kind", "_law_full", "_law_ties", "_law_other", "_law_joint", "_law_one", "_law_drawn", "_law_ring", "_law_lots", "_law_tree", "_law_order", "_law_at", "_law_to", "_law_found"] ["_law_box_here", "_law_least", "_law_most"] (defScope s_law_web) := ⟨rfl, rfl, rfl, by decide +kernel, rfl, by decide +kernel, by decide +kernel⟩
theorem ok_law_web (T : At K mg "_law_web" s_law_web ["_law_box_here", "_law_least", "_law_most"]) (O_law_take : Ok P w K mg base 1 "_law_take" 2 f_law_take ["_law_box_here", "_law_many"]) (z_range : mg "range" = none) (z_list : mg "list" = none) (z_int : mg "int" = none) (z_max : mg "max" = none) (z_min : mg "min" = none) (z_tuple : mg "tuple" = none) (z_sorted : mg "sorted" = none) : Ok P w K mg base 2 "_law_web" 3 f_law_web ["_law_box_here", "_law_least", "_law_most"] := by
  obtain ⟨p_law_take, e_law_take, G_law_take, m_law_take, k_law_take, b_law_take⟩ := O_law_take
  refine mkOk (k := 1) (body := b_law_web) T sc_law_web (fun f cdv A outer s H E hr => ?_) _ rfl rfl
  refine ⟨_, (pss_cons (ps_set (i := 3) sc_law_web.nd rfl (by first | exact Or.inl rfl | exact Or.inr rfl) (pe_op (kop_add K rfl) (pv 1) (pe_call G_law_take (hr.mono (by decide)) (by rfl) m_law_take k_law_take b_law_take .nil pass0 (pa_cons (pv 0) (pa_cons (pe_op (kop_add K rfl) (pe_op op_sub (pv 2) (pv 1)) pe_int) pa_nil)))))
      (pss_cons (ps_set (i := 4) sc_law_web.nd rfl (by first | exact Or.inl rfl | exact Or.inr rfl) (pe_call G_law_take (hr.mono (by decide)) (by rfl) m_law_take k_law_take b_law_take .nil pass0 (pa_cons (pv 0) (pa_cons pe_int pa_nil))))
      (pss_cons (ps_set (i := 5) sc_law_web.nd rfl (by first | exact Or.inl rfl | exact Or.inr rfl) (pe_ix (kix K rfl) (pe_lst (pa_cons pe_int (pa_cons pe_int (pa_cons pe_int pa_nil)))) (pe_call G_law_take (hr.mono (by decide)) (by rfl) m_law_take k_law_take b_law_take .nil pass0 (pa_cons (pv 0) (pa_cons pe_int pa_nil))) (fun _ _ => rfl)))
      (pss_cons (ps_set (i := 6) sc_law_web.nd rfl (by first | exact Or.inl rfl | exact Or.inr rfl) (pe_lst pa_nil))
      (pss_cons (ps_for PassesOwn.never rfl (pi_range2 (by rfl) z_range (pa_cons pe_int (pa_cons (pv 3) pa_nil))) (pg_name (i := 7) sc_law_web.nd rfl (by first | exact Or.inl rfl | exact Or.inr rfl)) (pss_cons (ps_set (i := 8) sc_law_web.nd rfl (by first | exact Or.inl rfl | exact Or.inr rfl) (pe_call G_law_take (hr.mono (by decide)) (by rfl) m_law_take k_law_take b_law_take .nil pass0 (pa_cons (pv 0) (pa_cons (pv 7) pa_nil))))
      (pss_one (ps_for PassesOwn.never rfl (pi_range1 (by rfl) z_range (pa_cons (pv 7) pa_nil)) (pg_name (i := 9) sc_law_web.nd rfl (by first | exact Or.inl rfl | exact Or.inr rfl)) (pss_cons (ps_set (i := 10) sc_law_web.nd rfl (by first | exact Or.inl rfl | exact Or.inr rfl) (pe_cmpR (kop_lt K rfl hr.units0) (pe_call G_law_take (hr.mono (by decide)) (by rfl) m_law_take k_law_take b_law_take .nil pass0 (pa_cons (pv 0) (pa_cons pe_int pa_nil))) (pv 5) (nomark _)))
      (pss_cons (ps_set (i := 11) sc_law_web.nd rfl (by first | exact Or.inl rfl | exact Or.inr rfl) (pe_and (pe_cmpR (kop_in K rfl hr.units65) (pe_op op_sub (pv 7) (pv 9)) (pe_tup (pa_cons pe_int (pa_cons (pe_op op_sub (pv 3) pe_int) pa_nil))) (by rfl)) (pe_one (pe_cmpR (kop_eq K rfl hr.units) (pv 4) pe_int (nomark _)))))
      (pss_cons (ps_set (i := 12) sc_law_web.nd rfl (by first | exact Or.inl rfl | exact Or.inr rfl) (pe_and (pe_cmpR (kop_eq K rfl hr.units) (pe_op op_mod (pe_op (kop_add K rfl) (pv 9) (pv 7)) pe_int) pe_int (nomark _)) (pe_and (pe_cmpR (kop_eq K rfl hr.units) (pv 4) pe_int (nomark _)) (pe_one (pv 10)))))
      (pss_cons (ps_set (i := 13) sc_law_web.nd rfl (by first | exact Or.inl rfl | exact Or.inr rfl) (pe_or (pe_cmpR (kop_eq K rfl hr.units) (pv 9) (pv 8) (nomark _)) (pe_one (pe_and (pe_cmpR (kop_eq K rfl hr.units) (pv 4) pe_int (nomark _)) (pe_and (pe_cmpR (kop_eq K rfl hr.units) (pe_op op_mod (pv 7) pe_int) pe_int (nomark _)) (pe_one (pe_cmpR (kop_eq K rfl hr.units) (pv 9) (pe_op op_sub (pv 7) pe_int) (nomark _))))))))
      (pss_one (ps_if (PW.pt (pw_or (PW.pt (pw_and (pt_cmpR (kop_in K rfl hr.units65) (pv 4) (pe_tup (pa_cons pe_int (pa_cons pe_int pa_nil))) (by rfl)) (pw_and1 (kpt_truth K rfl (pv 13) (by intro _; rfl))))) (pw_or1 (PW.pt (pw_and (pt_cmpR (kop_in K rfl hr.units65) (pv 4) (pe_tup (pa_cons pe_int (pa_cons pe_int pa_nil))) (by rfl)) (pw_and1 (kpt_truth K rfl (pv 10) (by intro _; rfl)))))))) (pss_one (ps_expr (pe_bm PySem.F.plainAttrs_list PySem.F.slot_list_append PySem.F.type_list_append mt_append (pv 6) (pa_cons (pe_tup (pa_cons (pv 9) (pa_cons (pv 7) pa_nil))) pa_nil)))) (pss_one (ps_if (PW.pt (pw_or (kpt_truth K rfl (pv 11) (by intro _; rfl)) (pw_or (pt_cmpR (kop_eq K rfl hr.units) (pv 4) pe_int (nomark _)) (pw_or1 (kpt_truth K rfl (pv 12) (by intro _; rfl)))))) (pss_one (ps_expr (pe_bm PySem.F.plainAttrs_list PySem.F.slot_list_append PySem.F.type_list_append mt_append (pv 6) (pa_cons (pe_tup (pa_cons (pv 9) (pa_cons (pv 7) pa_nil))) pa_nil)))) pss_nil))))))))))))
      (pss_cons (ps_set (i := 14) sc_law_web.nd rfl (by first | exact Or.inl rfl | exact Or.inr rfl) (pe_listRg rfl (by rfl) z_list (prg_1 (by rfl) z_range (pv 3))))
      (pss_cons (ps_for PassesOwn.never rfl (pi_range1 (by rfl) z_range (pa_cons (pe_op (kop_mul K rfl) (pv 3) (pe_callTy call_int1 (by rfl) z_int bt_int (pa_cons (pe_cmpR op_gt (pv 4) pe_int (nomark _)) pa_nil))) pa_nil)) (pg_name (i := 15) sc_law_web.nd rfl (by first | exact Or.inl rfl | exact Or.inr rfl)) (pss_cons (ps_set (i := 16) sc_law_web.nd rfl (by first | exact Or.inl rfl | exact Or.inr rfl) (pe_call G_law_take (hr.mono (by decide)) (by rfl) m_law_take k_law_take b_law_take .nil pass0 (pa_cons (pv 0) (pa_cons (pv 3) pa_nil))))
      (pss_one (ps_asg (pe_tup (pa_cons (pe_ix (kix K rfl) (pv 14) (pv 16) (fun _ _ => rfl)) (pa_cons (pe_ix (kix K rfl) (pv 14) (pv 15) (fun _ _ => rfl)) pa_nil))) (kpg_tup K rfl rfl (pgs_cons (pg_sub (pv 14) (pv 15) L2.set_list) (pgs_cons (pg_sub (pv 14) (pv 16) L2.set_list) pgs_nil)))))))
      (pss_cons (ps_set (i := 17) sc_law_web.nd rfl (by first | exact Or.inl rfl | exact Or.inr rfl) (pe_lst pa_nil))
      (pss_cons (ps_for PassesOwn.never rfl (kpi_seq K rfl (pv 6)) (kpg_tup K rfl rfl (pgs_cons (pg_name (i := 9) sc_law_web.nd rfl (by first | exact Or.inl rfl | exact Or.inr rfl)) (pgs_cons (pg_name (i := 7) sc_law_web.nd rfl (by first | exact Or.inl rfl | exact Or.inr rfl)) pgs_nil))) (pss_one (ps_expr (pe_bm PySem.F.plainAttrs_list PySem.F.slot_list_append PySem.F.type_list_append mt_append (pv 17) (pa_cons (pe_tup (pa_cons (pe_callB (call_min2 rfl) (by rfl) z_min bt_min (pa_cons (pe_ix (kix K rfl) (pv 14) (pv 9) (fun _ _ => rfl)) (pa_cons (pe_ix (kix K rfl) (pv 14) (pv 7) (fun _ _ => rfl)) pa_nil))) (pa_cons (pe_callB (call_max2 rfl) (by rfl) z_max bt_max (pa_cons (pe_ix (kix K rfl) (pv 14) (pv 9) (fun _ _ => rfl)) (pa_cons (pe_ix (kix K rfl) (pv 14) (pv 7) (fun _ _ => rfl)) pa_nil))) pa_nil))) pa_nil)))))
      (pss_one (ps_ret (pe_tup (pa_cons (pv 3) (pa_cons (pe_callTy (ktup K rfl) (by rfl) z_tuple bt_tuple (pa_cons (pe_callB (ksortU K rfl) (by rfl) z_sorted bt_sorted (pa_cons (pv 17) pa_nil)) pa_nil)) pa_nil)))))))))))))), ?_⟩
  exact (ss_seq (ss_set (sx_op ops_add se_var (se (sx_cB (k := 0) (sa_cons (se (sx_op ops_add (se (sx_op ops_sub se_var se_var)) se_int)) sa_nil)))))
      (ss_seq (ss_set (sx_cB (k := 0) (sa_cons se_int sa_nil)))
      (ss_seq (ss_set (sx_op ops_ix (se (sx_lst (sa_cons se_int (sa_cons se_int (sa_cons se_int sa_nil))))) (se (sx_cB (k := 0) (sa_cons se_int sa_nil)))))
      (ss_seq (ss_set (sx_lst sa_nil))
      (ss_seq (ss_for (si_rng2 (sa_cons se_int (sa_cons se_var sa_nil))) sg_name (ss_seq (ss_set (sx_cB (k := 0) (sa_cons se_var sa_nil)))
      (ss_for (si_rng1 (sa_cons se_var sa_nil)) sg_name (ss_seq (ss_set (sx_op ops_lt (se (sx_cB (k := 0) (sa_cons se_int sa_nil))) se_var))
      (ss_seq (ss_set (sx (se_andV (se (sx_op ops_in (se (sx_op ops_sub se_var se_var)) (se_tup (sa_cons se_int (sa_cons (se (sx_op ops_sub se_var se_int)) sa_nil))))) (se (sx_op ops_eq se_var se_int)))))
      (ss_seq (ss_set (sx (se_andV (se (sx_op ops_eq (se (sx_op ops_mod (se (sx_op ops_add se_var se_var)) se_int)) se_int)) (se_andV (se (sx_op ops_eq se_var se_int)) se_var))))
      (ss_seq (ss_set (sx (se_orV (se (sx_op ops_eq se_var se_var)) (se_andV (se (sx_op ops_eq se_var se_int)) (se_andV (se (sx_op ops_eq (se (sx_op ops_mod se_var se_int)) se_int)) (se (sx_op ops_eq se_var (se (sx_op ops_sub se_var se_int)))))))))
      (ss_if (st_or (st_and (st_test (se (sx_op ops_in se_var (se_tup (sa_cons se_int (sa_cons se_int sa_nil)))))) (st_tru se_var)) (st_and (st_test (se (sx_op ops_in se_var (se_tup (sa_cons se_int (sa_cons se_int sa_nil)))))) (st_tru se_var))) (ss_app (k := 6) (se_tup (sa_cons se_var (sa_cons se_var sa_nil)))) (ss_if (st_or (st_tru se_var) (st_or (st_test (se (sx_op ops_eq se_var se_int))) (st_tru se_var))) (ss_app (k := 6) (se_tup (sa_cons se_var (sa_cons se_var sa_nil)))) ss_next)))))))))
      (ss_seq (ss_set (sx_lrng se_var))
      (ss_seq (ss_for (si_rng1 (sa_cons (se (sx_op ops_mulA se_var (se (sx_cb cas_int (sa_cons (se (sx_op ops_gt se_var se_int)) sa_nil))))) sa_nil)) sg_name (ss_seq (ss_set (sx_cB (k := 0) (sa_cons se_var sa_nil)))
      (ss_put2 (k := 14) (se_tup (sa_cons (se (sx_ixN (k := 14) se_var)) (sa_cons (se (sx_ixN (k := 14) se_var)) sa_nil))) se_var se_var)))
      (ss_seq (ss_set (sx_lst sa_nil))
      (ss_seq (ss_for (si_seq se_var) (sg_tup (sgs_cons sg_name (sgs_cons sg_name sgs_nil))) (ss_app (k := 17) (se_tup (sa_cons (se (sx_cb cas_min (sa_cons (se (sx_ixN (k := 14) se_var)) (sa_cons (se (sx_ixN (k := 14) se_var)) sa_nil)))) (sa_cons (se (sx_cb cas_max (sa_cons (se (sx_ixN (k := 14) se_var)) (sa_cons (se (sx_ixN (k := 14) se_var)) sa_nil)))) sa_nil)))))
      (ss_ret (sx (se_tup (sa_cons se_var (sa_cons (se (sx_cb cas_tup (sa_cons (se (sx_cb cas_sortU (sa_cons se_var sa_nil))) sa_nil))) sa_nil))))))))))))))
abbrev s_is_tie : Stmt := topS 14
theorem sc_is_tie : FnScope ["thing", "places", "a", "b"] ["thing", "places"] (defScope s_is_tie) := ⟨rfl, rfl, rfl, by decide +kernel, rfl, by decide +kernel, by decide +kernel⟩
theorem ok_is_tie (T : At K mg "is_tie" s_is_tie ["thing", "places"]) (O_is_tuple_of : Ok P w K mg base 1 "is_tuple_of" 2 f_is_tuple_of ["thing", "many"]) (O_is_place : Ok P w K mg base 2 "is_place" 2 f_is_place ["thing", "places"]) : Ok P w K mg base 3 "is_tie" 2 f_is_tie ["thing", "places"] := by
  obtain ⟨p_is_tuple_of, e_is_tuple_of, G_is_tuple_of, m_is_tuple_of, k_is_tuple_of, b_is_tuple_of⟩ := O_is_tuple_of
  obtain ⟨p_is_place, e_is_place, G_is_place, m_is_place, k_is_place, b_is_place⟩ := O_is_place
  refine mkOk (k := 2) (body := b_is_tie) T sc_is_tie (fun f cdv A outer s H E hr => ?_) _ rfl rfl
  refine ⟨_, (pss_cons (ps_if (pt_not (pt_val (pe_call G_is_tuple_of (hr.mono (by decide)) (by rfl) m_is_tuple_of k_is_tuple_of b_is_tuple_of .nil pass0 (pa_cons (pv 0) (pa_cons pe_int pa_nil))))) (pss_one (ps_ret pe_bl)) pss_nil)
      (pss_cons (ps_asg (pv 0) (kpg_tup K rfl rfl (pgs_cons (pg_name (i := 2) sc_is_tie.nd rfl (by first | exact Or.inl rfl | exact Or.inr rfl)) (pgs_cons (pg_name (i := 3) sc_is_tie.nd rfl (by first | exact Or.inl rfl | exact Or.inr rfl)) pgs_nil))))
      (pss_one (ps_ret (pe_and (pe_call G_is_place (hr.mono (by decide)) (by rfl) m_is_place k_is_place b_is_place .nil pass0 (pa_cons (pv 2) (pa_cons (pv 1) pa_nil))) (pe_and (pe_call G_is_place (hr.mono (by decide)) (by rfl) m_is_place k_is_place b_is_place .nil pass0 (pa_cons (pv 3) (pa_cons (pv 1) pa_nil))) (pe_one (pe_cmpR (kop_lt K rfl hr.units0) (pv 2) (pv 3) (nomark _))))))))), ?_⟩
  exact (ss_seq (ss_if (st_not (st_B (se (sx_c (sa_cons se_var (sa_cons se_int sa_nil)))))) (ss_ret (sx se_bl)) ss_next)
      (ss_seq (ss_bnd se_var (sg_tup (sgs_cons sg_name (sgs_cons sg_name sgs_nil))))
      (ss_ret (sx (se_andV (se (sx_c (sa_cons se_var (sa_cons se_var sa_nil)))) (se_andV (se (sx_c (sa_cons se_var (sa_cons se_var sa_nil)))) (se (sx_op ops_lt se_var se_var))))))))
abbrev s_are_ties : Stmt := topS 15
theorem sc_are_ties : FnScope ["thing", "places", "tie"] ["thing", "places"] (defScope s_are_ties) := ⟨rfl, rfl, rfl, by decide +kernel, rfl, by decide +kernel, by decide +kernel⟩
theorem ok_are_ties (T : At K mg "are_ties" s_are_ties ["thing", "places"]) (O_rises : Ok P w K mg base 1 "rises" 1 f_rises ["row"]) (O_is_tie : Ok P w K mg base 3 "is_tie" 2 f_is_tie ["thing", "places"]) (z_isinstance : mg "isinstance" = none) (z_tuple : mg "tuple" = none) (z_all : mg "all" = none) : Ok P w K mg base 4 "are_ties" 2 f_are_ties ["thing", "places"] := by
  obtain ⟨p_rises, e_rises, G_rises, m_rises, k_rises, b_rises⟩ := O_rises
  obtain ⟨p_is_tie, e_is_tie, G_is_tie, m_is_tie, k_is_tie, b_is_tie⟩ := O_is_tie
  refine mkOk (k := 3) (body := b_are_ties) T sc_are_ties (fun f cdv A outer s H E hr => ?_) _ rfl rfl
  refine ⟨_, (pss_one (ps_ret (pe_and (pe_callB (kisi K rfl) (by rfl) z_isinstance bt_isinstance (pa_cons (pv 0) (pa_cons (pe_bltn (v := .ty "tuple") (by rfl) z_tuple bt_tuple rfl) pa_nil))) (pe_and (pe_callB (kall K rfl rfl) (by rfl) z_all bt_all (pa_cons (pe_lc (own := [("tie", 2)]) (g := (gName 2)) rfl sc_are_ties.nd (kpi_seq K rfl (pv 0)) (blkOk_by (N := ["thing", "places", "tie"]) (sc := defScope s_are_ties) (by decide +kernel)) (fun _ _ _ _ _ => (pg_name (i := 2) sc_are_ties.nd rfl (by first | exact Or.inl rfl | exact Or.inr rfl))) (fun _ _ _ _ _ => pts_nil) (fun _ _ _ _ _ => (pe_call G_is_tie (hr.mono (by decide)) (by rfl) m_is_tie k_is_tie b_is_tie .nil pass0 (pa_cons (pv 2) (pa_cons (pv 1) pa_nil))))) pa_nil)) (pe_one (pe_call G_rises (hr.mono (by decide)) (by rfl) m_rises k_rises b_rises .nil pass0 (pa_cons (pv 0) pa_nil))))))), ?_⟩
  exact (ss_ret (sx (se_andV (se (sx_isi (n := "tuple") (by decide) se_var)) (se_andV (se (sx_cb cas_all (sa_cons (se (sx_comp (E' := liftE E0) (vs := [2]) (si_seq se_var) sg_name st_yes (se (sx_c (sa_cons se_var (sa_cons se_var sa_nil)))) (by decide))) sa_nil))) (se (sx_c (sa_cons se_var sa_nil)))))))
abbrev s_is_web : Stmt := topS 6
theorem sc_is_web : FnScope ["thing", "places", "ties"] ["thing"] (defScope s_is_web) := ⟨rfl, rfl, rfl, by decide +kernel, rfl, by decide +kernel, by decide +kernel⟩
theorem ok_is_web (T : At K mg "is_web" s_is_web ["thing"]) (O_is_tuple_of : Ok P w K mg base 1 "is_tuple_of" 2 f_is_tuple_of ["thing", "many"]) (O_is_places : Ok P w K mg base 2 "is_places" 1 f_is_places ["thing"]) (O_are_ties : Ok P w K mg base 4 "are_ties" 2 f_are_ties ["thing", "places"]) : Ok P w K mg base 5 "is_web" 1 f_is_web ["thing"] := by
  obtain ⟨p_is_tuple_of, e_is_tuple_of, G_is_tuple_of, m_is_tuple_of, k_is_tuple_of, b_is_tuple_of⟩ := O_is_tuple_of
  obtain ⟨p_is_places, e_is_places, G_is_places, m_is_places, k_is_places, b_is_places⟩ := O_is_places
  obtain ⟨p_are_ties, e_are_ties, G_are_ties, m_are_ties, k_are_ties, b_are_ties⟩ := O_are_ties
  refine mkOk (k := 4) (body := b_is_web) T sc_is_web (fun f cdv A outer s H E hr => ?_) _ rfl rfl
  refine ⟨_, (pss_cons (ps_if (pt_not (pt_val (pe_call G_is_tuple_of (hr.mono (by decide)) (by rfl) m_is_tuple_of k_is_tuple_of b_is_tuple_of .nil pass0 (pa_cons (pv 0) (pa_cons pe_int pa_nil))))) (pss_one (ps_ret pe_bl)) pss_nil)
      (pss_cons (ps_asg (pv 0) (kpg_tup K rfl rfl (pgs_cons (pg_name (i := 1) sc_is_web.nd rfl (by first | exact Or.inl rfl | exact Or.inr rfl)) (pgs_cons (pg_name (i := 2) sc_is_web.nd rfl (by first | exact Or.inl rfl | exact Or.inr rfl)) pgs_nil))))
      (pss_one (ps_ret (pe_and (pe_call G_is_places (hr.mono (by decide)) (by rfl) m_is_places k_is_places b_is_places .nil pass0 (pa_cons (pv 1) pa_nil)) (pe_one (pe_call G_are_ties (hr.mono (by decide)) (by rfl) m_are_ties k_are_ties b_are_ties .nil pass0 (pa_cons (pv 2) (pa_cons (pv 1) pa_nil))))))))), ?_⟩
  exact (ss_seq (ss_if (st_not (st_B (se (sx_c (sa_cons se_var (sa_cons se_int sa_nil)))))) (ss_ret (sx se_bl)) ss_next)
      (ss_seq (ss_bnd se_var (sg_tup (sgs_cons sg_name (sgs_cons sg_name sgs_nil))))
      (ss_ret (sx (se_andV (se (sx_c (sa_cons se_var sa_nil))) (se (sx_c (sa_cons se_var (sa_cons se_var sa_nil)))))))))
abbrev s_check_web : Stmt := topS 8
theorem sc_check_web : FnScope ["thing"] ["thing"] (defScope s_check_web) := ⟨rfl, rfl, rfl, by decide +kernel, rfl, by decide +kernel, by decide +kernel⟩
theorem ok_check_web (T : At K mg "check_web" s_check_web ["thing"]) (O_is_web : Ok P w K mg base 5 "is_web" 1 f_is_web ["thing"]) : Ok P w K mg base 6 "check_web" 1 f_check_web ["thing"] := by
  obtain ⟨p_is_web, e_is_web, G_is_web, m_is_web, k_is_web, b_is_web⟩ := O_is_web
  refine mkOk (k := 5) (body := b_check_web) T sc_check_web (fun f cdv A outer s H E hr => ?_) _ rfl rfl
  refine ⟨_, (pss_one (ps_if (pt_not (pt_val (pe_call G_is_web (hr.mono (by decide)) (by rfl) m_is_web k_is_web b_is_web .nil pass0 (pa_cons (pv 0) pa_nil)))) (pss_one ps_never) pss_nil)), ?_⟩
  exact (ss_if (st_not (st_B (se (sx_c (sa_cons se_var sa_nil))))) ss_never ss_next)
abbrev s_near : Stmt := topS 7
theorem sc_near : FnScope ["web", "place", "places", "ties", "other"] ["web", "place"] (defScope s_near) := ⟨rfl, rfl, rfl, by decide +kernel, rfl, by decide +kernel, by decide +kernel⟩
theorem ok_near (T : At K mg "near" s_near ["web", "place"]) (O_check_web : Ok P w K mg base 6 "check_web" 1 f_check_web ["thing"]) (O_is_place : Ok P w K mg base 2 "is_place" 2 f_is_place ["thing", "places"]) (z_tuple : mg "tuple" = none) (z_range : mg "range" = none) : Ok P w K mg base 7 "near" 2 f_near ["web", "place"] := by
  obtain ⟨p_check_web, e_check_web, G_check_web, m_check_web, k_check_web, b_check_web⟩ := O_check_web
  obtain ⟨p_is_place, e_is_place, G_is_place, m_is_place, k_is_place, b_is_place⟩ := O_is_place
  refine mkOk (k := 6) (body := b_near) T sc_near (fun f cdv A outer s H E hr => ?_) _ rfl rfl
  refine ⟨_, (pss_cons (ps_expr (pe_call G_check_web (hr.mono (by decide)) (by rfl) m_check_web k_check_web b_check_web .nil pass0 (pa_cons (pv 0) pa_nil)))
      (pss_cons (ps_asg (pv 0) (kpg_tup K rfl rfl (pgs_cons (pg_name (i := 2) sc_near.nd rfl (by first | exact Or.inl rfl | exact Or.inr rfl)) (pgs_cons (pg_name (i := 3) sc_near.nd rfl (by first | exact Or.inl rfl | exact Or.inr rfl)) pgs_nil))))
      (pss_cons (ps_if (pt_not (pt_val (pe_call G_is_place (hr.mono (by decide)) (by rfl) m_is_place k_is_place b_is_place .nil pass0 (pa_cons (pv 1) (pa_cons (pv 2) pa_nil))))) (pss_one ps_never) pss_nil)
      (pss_one (ps_ret (pe_callTy (ktup K rfl) (by rfl) z_tuple bt_tuple (pa_cons (pe_lc (own := [("other", 4)]) (g := (gName 4)) rfl sc_near.nd (pi_range1 (by rfl) z_range (pa_cons (pv 2) pa_nil)) (blkOk_by (N := ["web", "place", "places", "ties", "other"]) (sc := defScope s_near) (by decide +kernel)) (fun _ _ _ _ _ => (pg_name (i := 4) sc_near.nd rfl (by first | exact Or.inl rfl | exact Or.inr rfl))) (fun _ _ _ _ _ => (pts_one (PW.pt (pw_or (pt_cmpR (kop_in K rfl hr.units65) (pe_tup (pa_cons (pv 1) (pa_cons (pv 4) pa_nil))) (pv 3) (by rfl)) (pw_or1 (pt_cmpR (kop_in K rfl hr.units65) (pe_tup (pa_cons (pv 4) (pa_cons (pv 1) pa_nil))) (pv 3) (by rfl))))))) (fun _ _ _ _ _ => (pv 4))) pa_nil))))))), ?_⟩
  exact (ss_seq (ss_drop (sx_c (sa_cons se_var sa_nil)))
      (ss_seq (ss_bnd se_var (sg_tup (sgs_cons sg_name (sgs_cons sg_name sgs_nil))))
      (ss_seq (ss_if (st_not (st_B (se (sx_c (sa_cons se_var (sa_cons se_var sa_nil)))))) ss_never ss_next)
      (ss_ret (sx_cb cas_tup (sa_cons (se (sx_comp (E' := liftE E0) (vs := [4]) (si_rng1 (sa_cons se_var sa_nil)) sg_name (st_or (st_test (se (sx_op ops_in (se_tup (sa_cons se_var (sa_cons se_var sa_nil))) se_var))) (st_test (se (sx_op ops_in (se_tup (sa_cons se_var (sa_cons se_var sa_nil))) se_var)))) se_var (by decide))) sa_nil))))))
abbrev s_all_near : Stmt := topS 9
theorem sc_all_near : FnScope ["web", "place"] ["web"] (defScope s_all_near) := ⟨rfl, rfl, rfl, by decide +kernel, rfl, by decide +kernel, by decide +kernel⟩
theorem ok_all_near (T : At K mg "all_near" s_all_near ["web"]) (O_near : Ok P w K mg base 7 "near" 2 f_near ["web", "place"]) (z_range : mg "range" = none) : Ok P w K mg base 8 "all_near" 1 f_all_near ["web"] := by
  obtain ⟨p_near, e_near, G_near, m_near, k_near, b_near⟩ := O_near
  refine mkOk (k := 7) (body := b_all_near) T sc_all_near (fun f cdv A outer s H E hr => ?_) _ rfl rfl
  refine ⟨_, (pss_one (ps_ret (pe_lc (own := [("place", 1)]) (g := (gName 1)) rfl sc_all_near.nd (pi_range1 (by rfl) z_range (pa_cons (pe_ix (kix K rfl) (pv 0) pe_int (fun _ _ => rfl)) pa_nil)) (blkOk_by (N := ["web", "place"]) (sc := defScope s_all_near) (by decide +kernel)) (fun _ _ _ _ _ => (pg_name (i := 1) sc_all_near.nd rfl (by first | exact Or.inl rfl | exact Or.inr rfl))) (fun _ _ _ _ _ => pts_nil) (fun _ _ _ _ _ => (pe_call G_near (hr.mono (by decide)) (by rfl) m_near k_near b_near .nil pass0 (pa_cons (pv 0) (pa_cons (pv 1) pa_nil))))))), ?_⟩
  exact (ss_ret (sx_comp (E' := liftE E0) (vs := [1]) (si_rng1 (sa_cons (se (sx_ixN (k := 0) se_int)) sa_nil)) sg_name st_yes (se (sx_c (sa_cons se_var (sa_cons se_var sa_nil)))) (by decide)))
abbrev s_partings : Stmt := topS 21
theorem sc_partings : FnScope ["web", "nears", "found", "place", "longer", "groups", "at", "group", "other"] ["web"] (defScope s_partings) := ⟨rfl, rfl, rfl, by decide +kernel, rfl, by decide +kernel, by decide +kernel⟩
theorem ok_partings (T : At K mg "partings" s_partings ["web"]) (O_all_near : Ok P w K mg base 8 "all_near" 1 f_all_near ["web"]) (z_range : mg "range" = none) (z_enumerate : mg "enumerate" = none) (z_any : mg "any" = none) : Ok P w K mg base 9 "partings" 1 f_partings ["web"] := by
  obtain ⟨p_all_near, e_all_near, G_all_near, m_all_near, k_all_near, b_all_near⟩ := O_all_near
  refine mkOk (k := 8) (body := b_partings) T sc_partings (fun f cdv A outer s H E hr => ?_) _ rfl rfl
  refine ⟨_, (pss_cons (ps_set (i := 1) sc_partings.nd rfl (by first | exact Or.inl rfl | exact Or.inr rfl) (pe_call G_all_near (hr.mono (by decide)) (by rfl) m_all_near k_all_near b_all_near .nil pass0 (pa_cons (pv 0) pa_nil)))
      (pss_cons (ps_set (i := 2) sc_partings.nd rfl (by first | exact Or.inl rfl | exact Or.inr rfl) (pe_lst (pa_cons (pe_tup pa_nil) pa_nil)))
      (pss_cons (ps_for PassesOwn.never rfl (pi_range1 (by rfl) z_range (pa_cons (pe_ix (kix K rfl) (pv 0) pe_int (fun _ _ => rfl)) pa_nil)) (pg_name (i := 3) sc_partings.nd rfl (by first | exact Or.inl rfl | exact Or.inr rfl)) (pss_cons (ps_set (i := 4) sc_partings.nd rfl (by first | exact Or.inl rfl | exact Or.inr rfl) (pe_lst pa_nil))
      (pss_cons (ps_for PassesOwn.never rfl (kpi_seq K rfl (pv 2)) (pg_name (i := 5) sc_partings.nd rfl (by first | exact Or.inl rfl | exact Or.inr rfl)) (pss_cons (ps_expr (pe_bm PySem.F.plainAttrs_list PySem.F.slot_list_append PySem.F.type_list_append mt_append (pv 4) (pa_cons (pe_op (kop_add K rfl) (pv 5) (pe_tup (pa_cons (pe_tup (pa_cons (pv 3) pa_nil)) pa_nil))) pa_nil)))
      (pss_one (ps_for PassesOwn.never rfl (pi_enumA K rfl (by rfl) z_enumerate (pa_cons (pv 5) pa_nil)) (kpg_tup K rfl rfl (pgs_cons (pg_name (i := 6) sc_partings.nd rfl (by first | exact Or.inl rfl | exact Or.inr rfl)) (pgs_cons (pg_name (i := 7) sc_partings.nd rfl (by first | exact Or.inl rfl | exact Or.inr rfl)) pgs_nil))) (pss_one (ps_if (pt_not (pt_val (pe_callB (kany K rfl rfl) (by rfl) z_any bt_any (pa_cons (pe_lc (own := [("other", 8)]) (g := (gName 8)) rfl sc_partings.nd (kpi_seq K rfl (pv 7)) (blkOk_by (N := ["web", "nears", "found", "place", "longer", "groups", "at", "group", "other"]) (sc := defScope s_partings) (by decide +kernel)) (fun _ _ _ _ _ => (pg_name (i := 8) sc_partings.nd rfl (by first | exact Or.inl rfl | exact Or.inr rfl))) (fun _ _ _ _ _ => pts_nil) (fun _ _ _ _ _ => (pe_cmpR (kop_in K rfl hr.units65) (pv 8) (pe_ix (kix K rfl) (pv 1) (pv 3) (fun _ _ => rfl)) (by rfl)))) pa_nil)))) (pss_one (ps_expr (pe_bm PySem.F.plainAttrs_list PySem.F.slot_list_append PySem.F.type_list_append mt_append (pv 4) (pa_cons (pe_op (kop_add K rfl) (pe_op (kop_add K rfl) (pe_slice (ksl K rfl) (pv 5) po_none (po_some (pv 6))) (pe_tup (pa_cons (pe_op (kop_add K rfl) (pv 7) (pe_tup (pa_cons (pv 3) pa_nil))) pa_nil))) (pe_slice (ksl K rfl) (pv 5) (po_some (pe_op (kop_add K rfl) (pv 6) pe_int)) po_none)) pa_nil)))) pss_nil))))))
      (pss_one (ps_set (i := 2) sc_partings.nd rfl (by first | exact Or.inl rfl | exact Or.inr rfl) (pv 4))))))
      (pss_one (ps_ret (pv 2)))))), ?_⟩
  exact (ss_seq (ss_set (sx_c (sa_cons se_var sa_nil)))
      (ss_seq (ss_set (sx_lst (sa_cons (se_tup sa_nil) sa_nil)))
      (ss_seq (ss_for (si_rng1 (sa_cons (se (sx_ixN (k := 0) se_int)) sa_nil)) sg_name (ss_seq (ss_set (sx_lst sa_nil))
      (ss_seq (ss_for (si_seq se_var) sg_name (ss_seq (ss_app (k := 4) (se (sx_op ops_add se_var (se_tup (sa_cons (se_tup (sa_cons se_var sa_nil)) sa_nil)))))
      (ss_for (si_enum (sa_cons se_var sa_nil)) (sg_tup (sgs_cons sg_name (sgs_cons sg_name sgs_nil))) (ss_if (st_not (st_B (se (sx_cb cas_any (sa_cons (se (sx_comp (E' := liftE E0) (vs := [8]) (si_seq se_var) sg_name st_yes (se (sx_op ops_in se_var (se (sx_ixN (k := 1) se_var)))) (by decide))) sa_nil))))) (ss_app (k := 4) (se (sx_op ops_add (se (sx_op ops_add (se (sx_sl se_var so_none (so_some se_var))) (se_tup (sa_cons (se (sx_op ops_add se_var (se_tup (sa_cons se_var sa_nil)))) sa_nil)))) (se (sx_sl se_var (so_some (se (sx_op ops_add se_var se_int))) so_none))))) ss_next))))
      (ss_set (sx se_var)))))
      (ss_ret sx_move))))
abbrev s_powers_of : Stmt := topS 18
theorem sc_powers_of : FnScope ["web", "places", "groups_many", "numbers", "unlike", "many", "power", "number", "groups"] ["web"] (defScope s_powers_of) := ⟨rfl, rfl, rfl, by decide +kernel, rfl, by decide +kernel, by decide +kernel⟩
theorem ok_powers_of (T : At K mg "powers_of" s_powers_of ["web"]) (O_check_web : Ok P w K mg base 6 "check_web" 1 f_check_web ["thing"]) (O_partings : Ok P w K mg base 9 "partings" 1 f_partings ["web"]) (O_times_less : Ok P w K mg base 1 "times_less" 2 f_times_less ["numbers", "less"]) (z_len : mg "len" = none) (z_range : mg "range" = none) (z_enumerate : mg "enumerate" = none) (z_tuple : mg "tuple" = none) : Ok P w K mg base 10 "powers_of" 1 f_powers_of ["web"] := by
  obtain ⟨p_check_web, e_check_web, G_check_web, m_check_web, k_check_web, b_check_web⟩ := O_check_web
  obtain ⟨p_partings, e_partings, G_partings, m_partings, k_partings, b_partings⟩ := O_partings
  obtain ⟨p_times_less, e_times_less, G_times_less, m_times_less, k_times_less, b_times_less⟩ := O_times_less
  refine mkOk (k := 9) (body := b_powers_of) T sc_powers_of (fun f cdv A outer s H E hr => ?_) _ rfl rfl
  refine ⟨_, (pss_cons (ps_expr (pe_call G_check_web (hr.mono (by decide)) (by rfl) m_check_web k_check_web b_check_web .nil pass0 (pa_cons (pv 0) pa_nil)))
      (pss_cons (ps_set (i := 1) sc_powers_of.nd rfl (by first | exact Or.inl rfl | exact Or.inr rfl) (pe_ix (kix K rfl) (pv 0) pe_int (fun _ _ => rfl)))
      (pss_cons (ps_setLc (i := 2) (own := [("groups", 8)]) (g := (gName 8)) rfl sc_powers_of.nd rfl rfl (sw_true rfl rfl rfl (by decide +kernel)) (kpi_seq K rfl (pe_call G_partings (hr.mono (by decide)) (by rfl) m_partings k_partings b_partings .nil pass0 (pa_cons (pv 0) pa_nil))) (blkOk_by (N := ["web", "places", "groups_many", "numbers", "unlike", "many", "power", "number", "groups"]) (sc := defScope s_powers_of) (by decide +kernel)) (fun _ _ _ _ _ => (pg_name (i := 8) sc_powers_of.nd rfl (by first | exact Or.inl rfl | exact Or.inr rfl))) (fun _ _ _ _ _ => pts_nil) (fun _ _ _ _ _ => (pe_callB (klen K rfl) (by rfl) z_len bt_len (pa_cons (pv 8) pa_nil))))
      (pss_cons (ps_set (i := 3) sc_powers_of.nd rfl (by first | exact Or.inl rfl | exact Or.inr rfl) (pe_op (kop_mul K rfl) (pe_lst (pa_cons pe_int pa_nil)) (pe_op (kop_add K rfl) (pv 1) pe_int)))
      (pss_cons (ps_set (i := 4) sc_powers_of.nd rfl (by first | exact Or.inl rfl | exact Or.inr rfl) (pe_lst (pa_cons pe_int pa_nil)))
      (pss_cons (ps_for PassesOwn.never rfl (pi_range2 (by rfl) z_range (pa_cons pe_int (pa_cons (pe_op (kop_add K rfl) (pv 1) pe_int) pa_nil))) (pg_name (i := 5) sc_powers_of.nd rfl (by first | exact Or.inl rfl | exact Or.inr rfl)) (pss_cons (ps_set (i := 4) sc_powers_of.nd rfl (by first | exact Or.inl rfl | exact Or.inr rfl) (pe_call G_times_less (hr.mono (by decide)) (by rfl) m_times_less k_times_less b_times_less .nil pass0 (pa_cons (pv 4) (pa_cons (pe_op op_sub (pv 5) pe_int) pa_nil))))
      (pss_one (ps_for PassesOwn.never rfl (pi_enumA K rfl (by rfl) z_enumerate (pa_cons (pv 4) pa_nil)) (kpg_tup K rfl rfl (pgs_cons (pg_name (i := 6) sc_powers_of.nd rfl (by first | exact Or.inl rfl | exact Or.inr rfl)) (pgs_cons (pg_name (i := 7) sc_powers_of.nd rfl (by first | exact Or.inl rfl | exact Or.inr rfl)) pgs_nil))) (pss_one (ps_augS (pv 3) (pv 6) get_list (pe_op (kop_mul K rfl) (kpe_count K rfl hr (pv 2) (pv 5)) (pv 7)) ip_add L2.set_list))))))
      (pss_one (ps_ret (pe_callTy (ktup K rfl) (by rfl) z_tuple bt_tuple (pa_cons (pv 3) pa_nil)))))))))), ?_⟩
  exact (ss_seq (ss_drop (sx_c (sa_cons se_var sa_nil)))
      (ss_seq (ss_set (sx_ixN (k := 0) se_int))
      (ss_seq (ss_set (sx_comp (E' := liftE E0) (vs := [8]) (si_seq (se (sx_c (sa_cons se_var sa_nil)))) sg_name st_yes (se (sx_lenN (k := 8))) (by decide)))
      (ss_seq (ss_set (sx_op ops_mulA (se (sx_lst (sa_cons se_int sa_nil))) (se (sx_op ops_add se_var se_int))))
      (ss_seq (ss_set (sx_lst (sa_cons se_int sa_nil)))
      (ss_seq (ss_for (si_rng2 (sa_cons se_int (sa_cons (se (sx_op ops_add se_var se_int)) sa_nil))) sg_name (ss_seq (ss_set (sx_c (sa_cons se_var (sa_cons (se (sx_op ops_sub se_var se_int)) sa_nil))))
      (ss_for (si_enum (sa_cons se_var sa_nil)) (sg_tup (sgs_cons sg_name (sgs_cons sg_name sgs_nil))) (ss_augP (k := 3) se_var (se (sx_op ops_mulA (se (sx_lm lm_count se_var se_var)) se_var))))))
      (ss_ret (sx_cb cas_tup (sa_cons se_var sa_nil)))))))))
abbrev s_count_at : Stmt := topS 19
theorem sc_count_at : FnScope ["web", "q", "numbers", "worth", "number"] ["web", "q"] (defScope s_count_at) := ⟨rfl, rfl, rfl, by decide +kernel, rfl, by decide +kernel, by decide +kernel⟩
theorem ok_count_at (T : At K mg "count_at" s_count_at ["web", "q"]) (O_powers_of : Ok P w K mg base 10 "powers_of" 1 f_powers_of ["web"]) (O_is_whole : Ok P w K mg base 1 "is_whole" 1 f_is_whole ["thing"]) : Ok P w K mg base 11 "count_at" 2 f_count_at ["web", "q"] := by
  obtain ⟨p_powers_of, e_powers_of, G_powers_of, m_powers_of, k_powers_of, b_powers_of⟩ := O_powers_of
  obtain ⟨p_is_whole, e_is_whole, G_is_whole, m_is_whole, k_is_whole, b_is_whole⟩ := O_is_whole
  refine mkOk (k := 10) (body := b_count_at) T sc_count_at (fun f cdv A outer s H E hr => ?_) _ rfl rfl
  refine ⟨_, (pss_cons (ps_set (i := 2) sc_count_at.nd rfl (by first | exact Or.inl rfl | exact Or.inr rfl) (pe_call G_powers_of (hr.mono (by decide)) (by rfl) m_powers_of k_powers_of b_powers_of .nil pass0 (pa_cons (pv 0) pa_nil)))
      (pss_cons (ps_if (pt_not (pt_val (pe_call G_is_whole (hr.mono (by decide)) (by rfl) m_is_whole k_is_whole b_is_whole .nil pass0 (pa_cons (pv 1) pa_nil)))) (pss_one ps_never) pss_nil)
      (pss_cons (ps_set (i := 3) sc_count_at.nd rfl (by first | exact Or.inl rfl | exact Or.inr rfl) pe_int)
      (pss_cons (ps_for PassesOwn.never rfl (kpi_seq K rfl (kpe_back K rfl (pv 2))) (pg_name (i := 4) sc_count_at.nd rfl (by first | exact Or.inl rfl | exact Or.inr rfl)) (pss_one (ps_set (i := 3) sc_count_at.nd rfl (by first | exact Or.inl rfl | exact Or.inr rfl) (pe_op (kop_add K rfl) (pe_op (kop_mul K rfl) (pv 3) (pv 1)) (pv 4)))))
      (pss_one (ps_ret (pv 3))))))), ?_⟩
  exact (ss_seq (ss_set (sx_c (sa_cons se_var sa_nil)))
      (ss_seq (ss_if (st_not (st_B (se (sx_c (sa_cons se_var sa_nil))))) ss_never ss_next)
      (ss_seq (ss_set (sx se_int))
      (ss_seq (ss_for (si_seq (se (sx_back se_var))) sg_name (ss_set (sx_op ops_add (se (sx_op ops_mulA se_var se_var)) se_var)))
      (ss_ret sx_move)))))
abbrev s_no_rounds_many : Stmt := topS 20
theorem sc_no_rounds_many : FnScope ["web"] ["web"] (defScope s_no_rounds_many) := ⟨rfl, rfl, rfl, by decide +kernel, rfl, by decide +kernel, by decide +kernel⟩
theorem ok_no_rounds_many (T : At K mg "no_rounds_many" s_no_rounds_many ["web"]) (O_count_at : Ok P w K mg base 11 "count_at" 2 f_count_at ["web", "q"]) (z_abs : mg "abs" = none) : Ok P w K mg base 12 "no_rounds_many" 1 f_no_rounds_many ["web"] := by
  obtain ⟨p_count_at, e_count_at, G_count_at, m_count_at, k_count_at, b_count_at⟩ := O_count_at
  refine mkOk (k := 11) (body := b_no_rounds_many) T sc_no_rounds_many (fun f cdv A outer s H E hr => ?_) _ rfl rfl
  refine ⟨_, (pss_one (ps_ret (pe_callB call_abs (by rfl) z_abs bt_abs (pa_cons (pe_call G_count_at (hr.mono (by decide)) (by rfl) m_count_at k_count_at b_count_at .nil pass0 (pa_cons (pv 0) (pa_cons (pe_un un_neg pe_int) pa_nil))) pa_nil)))), ?_⟩
  exact (ss_ret (sx_cb cas_abs (sa_cons (se (sx_c (sa_cons se_var (sa_cons (se_neg se_int) sa_nil)))) sa_nil)))
abbrev s_law : Stmt := topS 28
theorem sc_law : FnScope ["_law_script", "_law_k", "_law_box_here", "_law_web_here", "_law_runs", "_law_tie", "_law_due", "_law_run"] ["_law_script"] (defScope s_law) := ⟨rfl, rfl, rfl, by decide +kernel, rfl, by decide +kernel, by decide +kernel⟩
theorem ok_law {f : Addr} {fd : FuncData} (F : Fun K "law" "law" s_law f fd) (hb : ∀ (s : Shared) (u : Value), BindsTo s fd ⟨[u], []⟩ [("_law_script", u)]) (O_law_box : ∀ base, Ok P w K mg base 1 "_law_box" 2 f_law_box ["_law_script", "_law_k"]) (O_law_web : ∀ base, Ok P w K mg base 2 "_law_web" 3 f_law_web ["_law_box_here", "_law_least", "_law_most"]) (O_no_rounds_many : ∀ base, Ok P w K mg base 12 "no_rounds_many" 1 f_no_rounds_many ["web"]) (O_law_goes_round : ∀ base, Ok P w K mg base 1 "_law_goes_round" 2 f_law_goes_round ["_law_web_here", "_law_run"]) (z_range : mg "range" = none) (z_max : mg "max" = none) (z_min : mg "min" = none) (z_len : mg "len" = none) (z_repr : mg "repr" = none)
    (good : ∀ ns : List Int, ns.length ≤ 63 → ∃ as, f_law [.scr ns] = .ok (.dat (.bool true)) as) : LawOk P w K mg f fd 63 := by
  refine mkLaw (k := 12) (body := fun _ => b_law) F sc_law ⟨rfl, by decide, by decide⟩ hb (fun base cdv s H hg hr => ?_) good
  obtain ⟨p_law_box, e_law_box, G_law_box, m_law_box, k_law_box, b_law_box⟩ := O_law_box base
  obtain ⟨p_law_web, e_law_web, G_law_web, m_law_web, k_law_web, b_law_web⟩ := O_law_web base
  obtain ⟨p_no_rounds_many, e_no_rounds_many, G_no_rounds_many, m_no_rounds_many, k_no_rounds_many, b_no_rounds_many⟩ := O_no_rounds_many base
  obtain ⟨p_law_goes_round, e_law_goes_round, G_law_goes_round, m_law_goes_round, k_law_goes_round, b_law_goes_round⟩ := O_law_goes_round base
  refine ⟨_, (pss_cons (ps_for PassesOwn.never rfl (pi_range1 (by rfl) z_range (pa_cons (pe_callB (call_max2 rfl) (by rfl) z_max bt_max (pa_cons pe_int (pa_cons (pe_callB (call_min2 rfl) (by rfl) z_min bt_min (pa_cons (pe_callB (klen K rfl) (by rfl) z_len bt_len (pa_cons (pv 0) pa_nil)) (pa_cons pe_int pa_nil))) pa_nil))) pa_nil)) (pg_name (i := 1) sc_law.nd rfl (by first | exact Or.inl rfl | exact Or.inr rfl)) (pss_cons (ps_set (i := 2) sc_law.nd rfl (by first | exact Or.inl rfl | exact Or.inr rfl) (pe_call G_law_box (hr.mono (by decide)) (by rfl) m_law_box k_law_box b_law_box .nil pass0 (pa_cons (pv 0) (pa_cons (pv 1) pa_nil))))
      (pss_cons (ps_set (i := 3) sc_law.nd rfl (by first | exact Or.inl rfl | exact Or.inr rfl) (pe_call G_law_web (hr.mono (by decide)) (by rfl) m_law_web k_law_web b_law_web .nil pass0 (pa_cons (pv 2) (pa_cons pe_int (pa_cons pe_int pa_nil)))))
      (pss_cons (ps_set (i := 3) sc_law.nd rfl (by first | exact Or.inl rfl | exact Or.inr rfl) (pe_tup (pa_cons (pe_ix (kix K rfl) (pv 3) pe_int (fun _ _ => rfl)) (pa_cons (pe_slice (ksl K rfl) (pe_ix (kix K rfl) (pv 3) pe_int (fun _ _ => rfl)) po_none (po_some pe_int)) pa_nil))))
      (pss_cons (ps_set (i := 4) sc_law.nd rfl (by first | exact Or.inl rfl | exact Or.inr rfl) (pe_lst (pa_cons (pe_tup pa_nil) pa_nil)))
      (pss_cons (ps_for PassesOwn.never rfl (kpi_seq K rfl (pe_ix (kix K rfl) (pv 3) pe_int (fun _ _ => rfl))) (pg_name (i := 5) sc_law.nd rfl (by first | exact Or.inl rfl | exact Or.inr rfl)) (pss_one (ps_set (i := 4) sc_law.nd rfl (by first | exact Or.inl rfl | exact Or.inr rfl) (pe_op (kop_add K rfl) (pe_lc (own := [("_law_run", 7)]) (g := (gName 7)) rfl sc_law.nd (kpi_seq K rfl (pv 4)) (blkOk_by (N := ["_law_script", "_law_k", "_law_box_here", "_law_web_here", "_law_runs", "_law_tie", "_law_due", "_law_run"]) (sc := defScope s_law) (by decide +kernel)) (fun _ _ _ _ _ => (pg_name (i := 7) sc_law.nd rfl (by first | exact Or.inl rfl | exact Or.inr rfl))) (fun _ _ _ _ _ => pts_nil) (fun _ _ _ _ _ => (pe_op (kop_add K rfl) (pv 7) (pe_tup (pa_cons pe_int pa_nil))))) (pe_lc (own := [("_law_run", 7)]) (g := (gName 7)) rfl sc_law.nd (kpi_seq K rfl (pv 4)) (blkOk_by (N := ["_law_script", "_law_k", "_law_box_here", "_law_web_here", "_law_runs", "_law_tie", "_law_due", "_law_run"]) (sc := defScope s_law) (by decide +kernel)) (fun _ _ _ _ _ => (pg_name (i := 7) sc_law.nd rfl (by first | exact Or.inl rfl | exact Or.inr rfl))) (fun _ _ _ _ _ => pts_nil) (fun _ _ _ _ _ => (pe_op (kop_add K rfl) (pv 7) (pe_tup (pa_cons (pe_un un_neg pe_int) pa_nil)))))))))
      (pss_cons (ps_set (i := 6) sc_law.nd rfl (by first | exact Or.inl rfl | exact Or.inr rfl) (pe_callB (klen K rfl) (by rfl) z_len bt_len (pa_cons (pe_lc (own := [("_law_run", 7)]) (g := (gName 7)) rfl sc_law.nd (kpi_seq K rfl (pv 4)) (blkOk_by (N := ["_law_script", "_law_k", "_law_box_here", "_law_web_here", "_law_runs", "_law_tie", "_law_due", "_law_run"]) (sc := defScope s_law) (by decide +kernel)) (fun _ _ _ _ _ => (pg_name (i := 7) sc_law.nd rfl (by first | exact Or.inl rfl | exact Or.inr rfl))) (fun _ _ _ _ _ => (pts_one (pt_not (pt_val (pe_call G_law_goes_round (hr.mono (by decide)) (by rfl) m_law_goes_round k_law_goes_round b_law_goes_round .nil pass0 (pa_cons (pv 3) (pa_cons (pv 7) pa_nil))))))) (fun _ _ _ _ _ => (pv 7))) pa_nil)))
      (pss_one (ps_if (pt_cmpR (kop_ne K rfl hr.units) (pe_callB (krepr K rfl hg hr) (by rfl) z_repr bt_repr (pa_cons (pe_call G_no_rounds_many (hr.mono (by decide)) (by rfl) m_no_rounds_many k_no_rounds_many b_no_rounds_many .nil pass0 (pa_cons (pv 3) pa_nil)) pa_nil)) (pe_callB (krepr K rfl hg hr) (by rfl) z_repr bt_repr (pa_cons (pv 6) pa_nil)) (nomark _)) (pss_one (ps_ret pe_bl)) pss_nil)))))))))
      (pss_one (ps_ret pe_bl))), ?_⟩
  exact (ss_seq (ss_for (si_rng1 (sa_cons (se (sx_cb cas_max (sa_cons se_int (sa_cons (se (sx_cb cas_min (sa_cons (se (sx_lenN (k := 0))) (sa_cons se_int sa_nil)))) sa_nil)))) sa_nil)) sg_name (ss_seq (ss_set (sx_cB (k := 0) (sa_cons se_var sa_nil)))
      (ss_seq (ss_set (sx_cB (k := 2) (sa_cons se_int (sa_cons se_int sa_nil))))
      (ss_seq (ss_set (sx (se_tup (sa_cons (se (sx_ixN (k := 3) se_int)) (sa_cons (se (sx_sl (se (sx_ixN (k := 3) se_int)) so_none (so_some se_int))) sa_nil)))))
      (ss_seq (ss_set (sx_lst (sa_cons (se_tup sa_nil) sa_nil)))
      (ss_seq (ss_for (si_seq (se (sx_ixN (k := 3) se_int))) sg_name (ss_set (sx_op ops_add (se (sx_comp (E' := liftE E0) (vs := [7]) (si_seq se_var) sg_name st_yes (se (sx_op ops_add se_var (se_tup (sa_cons se_int sa_nil)))) (by decide))) (se (sx_comp (E' := liftE E0) (vs := [7]) (si_seq se_var) sg_name st_yes (se (sx_op ops_add se_var (se_tup (sa_cons (se_neg se_int) sa_nil)))) (by decide))))))
      (ss_seq (ss_set (sx_cb cas_len (sa_cons (se (sx_comp (E' := liftE E0) (vs := [7]) (si_seq se_var) sg_name (st_not (st_B (se (sx_c (sa_cons se_var (sa_cons se_var sa_nil)))))) se_var (by decide))) sa_nil)))
      (ss_if (st_test (se (sx_op ops_ne (se (sx_cb cas_repr (sa_cons (se (sx_c (sa_cons se_var sa_nil))) sa_nil))) (se (sx_cb cas_repr (sa_cons se_var sa_nil)))))) (ss_ret (sx se_bl)) ss_next))))))))
      (ss_ret (sx se_bl)))
end
set_option maxHeartbeats 0 in
theorem all_law {P : Program} {w : World} {K : PySem.W.Frag} {h : Heap} {mg : Str → Option Value} {fa : Addr} (X : K.In h) (G : h.Ns mainGlobals mg) (hfa : mg "law" = some (.ref fa))
    (good : ∀ ns : List Int, ns.length ≤ 63 → ∃ as, f_law [.scr ns] = .ok (.dat (.bool true)) as)
    {f0 : Addr} {od0 an0 : Option Addr} {sl0 : Array (Option Value)} {oc0 kV0 dc0 pm0 cd0 ct0 : Value}
    (a0 : PySem.W.nsIn K mainGlobals "is_whole" = some (some (.ref f0))) (l0 : K.lookup f0 = some ⟨oc0, od0, .func (PySem.W.fnOf "is_whole" "is_whole" (defArgs s_is_whole) (defBody s_is_whole) (defScope s_is_whole) .none kV0 dc0 pm0 an0 cd0 ct0), sl0⟩) (c0 : PySem.W.codeIn K cd0 "is_whole" = true) (k0 : PySem.W.keepIn K (.ref f0) = true)
    {f1 : Addr} {od1 an1 : Option Addr} {sl1 : Array (Option Value)} {oc1 kV1 dc1 pm1 cd1 ct1 : Value}
    (a1 : PySem.W.nsIn K mainGlobals "is_tuple_of" = some (some (.ref f1))) (l1 : K.lookup f1 = some ⟨oc1, od1, .func (PySem.W.fnOf "is_tuple_of" "is_tuple_of" (defArgs s_is_tuple_of) (defBody s_is_tuple_of) (defScope s_is_tuple_of) .none kV1 dc1 pm1 an1 cd1 ct1), sl1⟩) (c1 : PySem.W.codeIn K cd1 "is_tuple_of" = true) (k1 : PySem.W.keepIn K (.ref f1) = true)
    {f2 : Addr} {od2 an2 : Option Addr} {sl2 : Array (Option Value)} {oc2 kV2 dc2 pm2 cd2 ct2 : Value}
    (a2 : PySem.W.nsIn K mainGlobals "rises" = some (some (.ref f2))) (l2 : K.lookup f2 = some ⟨oc2, od2, .func (PySem.W.fnOf "rises" "rises" (defArgs s_rises) (defBody s_rises) (defScope s_rises) .none kV2 dc2 pm2 an2 cd2 ct2), sl2⟩) (c2 : PySem.W.codeIn K cd2 "rises" = true) (k2 : PySem.W.keepIn K (.ref f2) = true)
    {f3 : Addr} {od3 an3 : Option Addr} {sl3 : Array (Option Value)} {oc3 kV3 dc3 pm3 cd3 ct3 : Value}
    (a3 : PySem.W.nsIn K mainGlobals "times_less" = some (some (.ref f3))) (l3 : K.lookup f3 = some ⟨oc3, od3, .func (PySem.W.fnOf "times_less" "times_less" (defArgs s_times_less) (defBody s_times_less) (defScope s_times_less) .none kV3 dc3 pm3 an3 cd3 ct3), sl3⟩) (c3 : PySem.W.codeIn K cd3 "times_less" = true) (k3 : PySem.W.keepIn K (.ref f3) = true)
    {f4 : Addr} {od4 an4 : Option Addr} {sl4 : Array (Option Value)} {oc4 kV4 dc4 pm4 cd4 ct4 : Value}
    (a4 : PySem.W.nsIn K mainGlobals "_law_box" = some (some (.ref f4))) (l4 : K.lookup f4 = some ⟨oc4, od4, .func (PySem.W.fnOf "_law_box" "_law_box" (defArgs s_law_box) (defBody s_law_box) (defScope s_law_box) .none kV4 dc4 pm4 an4 cd4 ct4), sl4⟩) (c4 : PySem.W.codeIn K cd4 "_law_box" = true) (k4 : PySem.W.keepIn K (.ref f4) = true)
    {f5 : Addr} {od5 an5 : Option Addr} {sl5 : Array (Option Value)} {oc5 kV5 dc5 pm5 cd5 ct5 : Value}
    (a5 : PySem.W.nsIn K mainGlobals "_law_take" = some (some (.ref f5))) (l5 : K.lookup f5 = some ⟨oc5, od5, .func (PySem.W.fnOf "_law_take" "_law_take" (defArgs s_law_take) (defBody s_law_take) (defScope s_law_take) .none kV5 dc5 pm5 an5 cd5 ct5), sl5⟩) (c5 : PySem.W.codeIn K cd5 "_law_take" = true) (k5 : PySem.W.keepIn K (.ref f5) = true)
    {f6 : Addr} {od6 an6 : Option Addr} {sl6 : Array (Option Value)} {oc6 kV6 dc6 pm6 cd6 ct6 : Value}
    (a6 : PySem.W.nsIn K mainGlobals "_law_goes_round" = some (some (.ref f6))) (l6 : K.lookup f6 = some ⟨oc6, od6, .func (PySem.W.fnOf "_law_goes_round" "_law_goes_round" (defArgs s_law_goes_round) (defBody s_law_goes_round) (defScope s_law_goes_round) .none kV6 dc6 pm6 an6 cd6 ct6), sl6⟩) (c6 : PySem.W.codeIn K cd6 "_law_goes_round" = true) (k6 : PySem.W.keepIn K (.ref f6) = true)
    {f7 : Addr} {od7 an7 : Option Addr} {sl7 : Array (Option Value)} {oc7 kV7 dc7 pm7 cd7 ct7 : Value}
    (a7 : PySem.W.nsIn K mainGlobals "is_places" = some (some (.ref f7))) (l7 : K.lookup f7 = some ⟨oc7, od7, .func (PySem.W.fnOf "is_places" "is_places" (defArgs s_is_places) (defBody s_is_places) (defScope s_is_places) .none kV7 dc7 pm7 an7 cd7 ct7), sl7⟩) (c7 : PySem.W.codeIn K cd7 "is_places" = true) (k7 : PySem.W.keepIn K (.ref f7) = true)
    {f8 : Addr} {od8 an8 : Option Addr} {sl8 : Array (Option Value)} {oc8 kV8 dc8 pm8 cd8 ct8 : Value}
    (a8 : PySem.W.nsIn K mainGlobals "is_place" = some (some (.ref f8))) (l8 : K.lookup f8 = some ⟨oc8, od8, .func (PySem.W.fnOf "is_place" "is_place" (defArgs s_is_place) (defBody s_is_place) (defScope s_is_place) .none kV8 dc8 pm8 an8 cd8 ct8), sl8⟩) (c8 : PySem.W.codeIn K cd8 "is_place" = true) (k8 : PySem.W.keepIn K (.ref f8) = true)
    {f9 : Addr} {od9 an9 : Option Addr} {sl9 : Array (Option Value)} {oc9 kV9 dc9 pm9 cd9 ct9 : Value}
    (a9 : PySem.W.nsIn K mainGlobals "_law_web" = some (some (.ref f9))) (l9 : K.lookup f9 = some ⟨oc9, od9, .func (PySem.W.fnOf "_law_web" "_law_web" (defArgs s_law_web) (defBody s_law_web) (defScope s_law_web) .none kV9 dc9 pm9 an9 cd9 ct9), sl9⟩) (c9 : PySem.W.codeIn K cd9 "_law_web" = true) (k9 : PySem.W.keepIn K (.ref f9) = true)
    {f10 : Addr} {od10 an10 : Option Addr} {sl10 : Array (Option Value)} {oc10 kV10 dc10 pm10 cd10 ct10 : Value}
    (a10 : PySem.W.nsIn K mainGlobals "is_tie" = some (some (.ref f10))) (l10 : K.lookup f10 = some ⟨oc10, od10, .func (PySem.W.fnOf "is_tie" "is_tie" (defArgs s_is_tie) (defBody s_is_tie) (defScope s_is_tie) .none kV10 dc10 pm10 an10 cd10 ct10), sl10⟩) (c10 : PySem.W.codeIn K cd10 "is_tie" = true) (k10 : PySem.W.keepIn K (.ref f10) = true)
    {f11 : Addr} {od11 an11 : Option Addr} {sl11 : Array (Option Value)} {oc11 kV11 dc11 pm11 cd11 ct11 : Value}
    (a11 : PySem.W.nsIn K mainGlobals "are_ties" = some (some (.ref f11))) (l11 : K.lookup f11 = some ⟨oc11, od11, .func (PySem.W.fnOf "are_ties" "are_ties" (defArgs s_are_ties) (defBody s_are_ties) (defScope s_are_ties) .none kV11 dc11 pm11 an11 cd11 ct11), sl11⟩) (c11 : PySem.W.codeIn K cd11 "are_ties" = true) (k11 : PySem.W.keepIn K (.ref f11) = true)
    {f12 : Addr} {od12 an12 : Option Addr} {sl12 : Array (Option Value)} {oc12 kV12 dc12 pm12 cd12 ct12 : Value}
    (a12 : PySem.W.nsIn K mainGlobals "is_web" = some (some (.ref f12))) (l12 : K.lookup f12 = some ⟨oc12, od12, .func (PySem.W.fnOf "is_web" "is_web" (defArgs s_is_web) (defBody s_is_web) (defScope s_is_web) .none kV12 dc12 pm12 an12 cd12 ct12), sl12⟩) (c12 : PySem.W.codeIn K cd12 "is_web" = true) (k12 : PySem.W.keepIn K (.ref f12) = true)
    {f13 : Addr} {od13 an13 : Option Addr} {sl13 : Array (Option Value)} {oc13 kV13 dc13 pm13 cd13 ct13 : Value}
    (a13 : PySem.W.nsIn K mainGlobals "check_web" = some (some (.ref f13))) (l13 : K.lookup f13 = some ⟨oc13, od13, .func (PySem.W.fnOf "check_web" "check_web" (defArgs s_check_web) (defBody s_check_web) (defScope s_check_web) .none kV13 dc13 pm13 an13 cd13 ct13), sl13⟩) (c13 : PySem.W.codeIn K cd13 "check_web" = true) (k13 : PySem.W.keepIn K (.ref f13) = true)
    {f14 : Addr} {od14 an14 : Option Addr} {sl14 : Array (Option Value)} {oc14 kV14 dc14 pm14 cd14 ct14 : Value}
    (a14 : PySem.W.nsIn K mainGlobals "near" = some (some (.ref f14))) (l14 : K.lookup f14 = some ⟨oc14, od14, .func (PySem.W.fnOf "near" "near" (defArgs s_near) (defBody s_near) (defScope s_near) .none kV14 dc14 pm14 an14 cd14 ct14), sl14⟩) (c14 : PySem.W.codeIn K cd14 "near" = true) (k14 : PySem.W.keepIn K (.ref f14) = true)
    {f15 : Addr} {od15 an15 : Option Addr} {sl15 : Array (Option Value)} {oc15 kV15 dc15 pm15 cd15 ct15 : Value}
    (a15 : PySem.W.nsIn K mainGlobals "all_near" = some (some (.ref f15))) (l15 : K.lookup f15 = some ⟨oc15, od15, .func (PySem.W.fnOf "all_near" "all_near" (defArgs s_all_near) (defBody s_all_near) (defScope s_all_near) .none kV15 dc15 pm15 an15 cd15 ct15), sl15⟩) (c15 : PySem.W.codeIn K cd15 "all_near" = true) (k15 : PySem.W.keepIn K (.ref f15) = true)
    {f16 : Addr} {od16 an16 : Option Addr} {sl16 : Array (Option Value)} {oc16 kV16 dc16 pm16 cd16 ct16 : Value}
    (a16 : PySem.W.nsIn K mainGlobals "partings" = some (some (.ref f16))) (l16 : K.lookup f16 = some ⟨oc16, od16, .func (PySem.W.fnOf "partings" "partings" (defArgs s_partings) (defBody s_partings) (defScope s_partings) .none kV16 dc16 pm16 an16 cd16 ct16), sl16⟩) (c16 : PySem.W.codeIn K cd16 "partings" = true) (k16 : PySem.W.keepIn K (.ref f16) = true)
    {f17 : Addr} {od17 an17 : Option Addr} {sl17 : Array (Option Value)} {oc17 kV17 dc17 pm17 cd17 ct17 : Value}
    (a17 : PySem.W.nsIn K mainGlobals "powers_of" = some (some (.ref f17))) (l17 : K.lookup f17 = some ⟨oc17, od17, .func (PySem.W.fnOf "powers_of" "powers_of" (defArgs s_powers_of) (defBody s_powers_of) (defScope s_powers_of) .none kV17 dc17 pm17 an17 cd17 ct17), sl17⟩) (c17 : PySem.W.codeIn K cd17 "powers_of" = true) (k17 : PySem.W.keepIn K (.ref f17) = true)
    {f18 : Addr} {od18 an18 : Option Addr} {sl18 : Array (Option Value)} {oc18 kV18 dc18 pm18 cd18 ct18 : Value}
    (a18 : PySem.W.nsIn K mainGlobals "count_at" = some (some (.ref f18))) (l18 : K.lookup f18 = some ⟨oc18, od18, .func (PySem.W.fnOf "count_at" "count_at" (defArgs s_count_at) (defBody s_count_at) (defScope s_count_at) .none kV18 dc18 pm18 an18 cd18 ct18), sl18⟩) (c18 : PySem.W.codeIn K cd18 "count_at" = true) (k18 : PySem.W.keepIn K (.ref f18) = true)
    {f19 : Addr} {od19 an19 : Option Addr} {sl19 : Array (Option Value)} {oc19 kV19 dc19 pm19 cd19 ct19 : Value}
    (a19 : PySem.W.nsIn K mainGlobals "no_rounds_many" = some (some (.ref f19))) (l19 : K.lookup f19 = some ⟨oc19, od19, .func (PySem.W.fnOf "no_rounds_many" "no_rounds_many" (defArgs s_no_rounds_many) (defBody s_no_rounds_many) (defScope s_no_rounds_many) .none kV19 dc19 pm19 an19 cd19 ct19), sl19⟩) (c19 : PySem.W.codeIn K cd19 "no_rounds_many" = true) (k19 : PySem.W.keepIn K (.ref f19) = true)
    {f20 : Addr} {od20 an20 : Option Addr} {sl20 : Array (Option Value)} {oc20 kV20 dc20 pm20 cd20 ct20 : Value}
    (a20 : PySem.W.nsIn K mainGlobals "law" = some (some (.ref f20))) (l20 : K.lookup f20 = some ⟨oc20, od20, .func (PySem.W.fnOf "law" "law" (defArgs s_law) (defBody s_law) (defScope s_law) .none kV20 dc20 pm20 an20 cd20 ct20), sl20⟩) (c20 : PySem.W.codeIn K cd20 "law" = true) (k20 : PySem.W.keepIn K (.ref f20) = true)
    (y_isinstance : PySem.W.nsIn K mainGlobals "isinstance" = some none)
    (y_int : PySem.W.nsIn K mainGlobals "int" = some none)
    (y_bool : PySem.W.nsIn K mainGlobals "bool" = some none)
    (y_tuple : PySem.W.nsIn K mainGlobals "tuple" = some none)
    (y_len : PySem.W.nsIn K mainGlobals "len" = some none)
    (y_all : PySem.W.nsIn K mainGlobals "all" = some none)
    (y_zip : PySem.W.nsIn K mainGlobals "zip" = some none)
    (y_range : PySem.W.nsIn K mainGlobals "range" = some none)
    (y_divmod : PySem.W.nsIn K mainGlobals "divmod" = some none)
    (y_list : PySem.W.nsIn K mainGlobals "list" = some none)
    (y_max : PySem.W.nsIn K mainGlobals "max" = some none)
    (y_min : PySem.W.nsIn K mainGlobals "min" = some none)
    (y_sorted : PySem.W.nsIn K mainGlobals "sorted" = some none)
    (y_enumerate : PySem.W.nsIn K mainGlobals "enumerate" = some none)
    (y_any : PySem.W.nsIn K mainGlobals "any" = some none)
    (y_abs : PySem.W.nsIn K mainGlobals "abs" = some none)
    (y_repr : PySem.W.nsIn K mainGlobals "repr" = some none)
    {tk_MOST_PLACES : Tok} (x_MOST_PLACES : PySem.W.nsIn K mainGlobals "MOST_PLACES" = some (some (.int 6 tk_MOST_PLACES)))
    : ∃ fd : FuncData, LawOk P w K mg fa fd 63 := by
  cases hfa.symm.trans (PySem.W.mg_of X G a20)
  have z_isinstance := PySem.W.mg_none_of X G y_isinstance
  have z_int := PySem.W.mg_none_of X G y_int
  have z_bool := PySem.W.mg_none_of X G y_bool
  have z_tuple := PySem.W.mg_none_of X G y_tuple
  have z_len := PySem.W.mg_none_of X G y_len
  have z_all := PySem.W.mg_none_of X G y_all
  have z_zip := PySem.W.mg_none_of X G y_zip
  have z_range := PySem.W.mg_none_of X G y_range
  have z_divmod := PySem.W.mg_none_of X G y_divmod
  have z_list := PySem.W.mg_none_of X G y_list
  have z_max := PySem.W.mg_none_of X G y_max
  have z_min := PySem.W.mg_none_of X G y_min
  have z_sorted := PySem.W.mg_none_of X G y_sorted
  have z_enumerate := PySem.W.mg_none_of X G y_enumerate
  have z_any := PySem.W.mg_none_of X G y_any
  have z_abs := PySem.W.mg_none_of X G y_abs
  have z_repr := PySem.W.mg_none_of X G y_repr
  have q_MOST_PLACES : CnI mg "MOST_PLACES" 6 := ci_mk X G x_MOST_PLACES
  have T_is_whole : At K mg "is_whole" s_is_whole ["thing"] := at_mk X G (fun _ _ _ _ _ _ us hl => match us, hl with | [_], _ => rfl) a0 l0 c0 k0
  have O_is_whole : ∀ base, Ok P w K mg base 1 "is_whole" 1 f_is_whole ["thing"] := fun base => ok_is_whole T_is_whole z_isinstance z_int z_bool
  have T_is_tuple_of : At K mg "is_tuple_of" s_is_tuple_of ["thing", "many"] := at_mk X G (fun _ _ _ _ _ _ us hl => match us, hl with | [_, _], _ => rfl) a1 l1 c1 k1
  have O_is_tuple_of : ∀ base, Ok P w K mg base 1 "is_tuple_of" 2 f_is_tuple_of ["thing", "many"] := fun base => ok_is_tuple_of T_is_tuple_of z_isinstance z_tuple z_len
  have T_rises : At K mg "rises" s_rises ["row"] := at_mk X G (fun _ _ _ _ _ _ us hl => match us, hl with | [_], _ => rfl) a2 l2 c2 k2
  have O_rises : ∀ base, Ok P w K mg base 1 "rises" 1 f_rises ["row"] := fun base => ok_rises T_rises z_all z_zip
  have T_times_less : At K mg "times_less" s_times_less ["numbers", "less"] := at_mk X G (fun _ _ _ _ _ _ us hl => match us, hl with | [_, _], _ => rfl) a3 l3 c3 k3
  have O_times_less : ∀ base, Ok P w K mg base 1 "times_less" 2 f_times_less ["numbers", "less"] := fun base => ok_times_less T_times_less z_zip
  have T_law_box : At K mg "_law_box" s_law_box ["_law_script", "_law_k"] := at_mk X G (fun _ _ _ _ _ _ us hl => match us, hl with | [_, _], _ => rfl) a4 l4 c4 k4
  have O_law_box : ∀ base, Ok P w K mg base 1 "_law_box" 2 f_law_box ["_law_script", "_law_k"] := fun base => ok_law_box T_law_box z_len z_range
  have T_law_take : At K mg "_law_take" s_law_take ["_law_box_here", "_law_many"] := at_mk X G (fun _ _ _ _ _ _ us hl => match us, hl with | [_, _], _ => rfl) a5 l5 c5 k5
  have O_law_take : ∀ base, Ok P w K mg base 1 "_law_take" 2 f_law_take ["_law_box_here", "_law_many"] := fun base => ok_law_take T_law_take z_divmod
  have T_law_goes_round : At K mg "_law_goes_round" s_law_goes_round ["_law_web_here", "_law_run"] := at_mk X G (fun _ _ _ _ _ _ us hl => match us, hl with | [_, _], _ => rfl) a6 l6 c6 k6
  have O_law_goes_round : ∀ base, Ok P w K mg base 1 "_law_goes_round" 2 f_law_goes_round ["_law_web_here", "_law_run"] := fun base => ok_law_goes_round T_law_goes_round z_list z_range z_zip
  have T_is_places : At K mg "is_places" s_is_places ["thing"] := at_mk X G (fun _ _ _ _ _ _ us hl => match us, hl with | [_], _ => rfl) a7 l7 c7 k7
  have O_is_places : ∀ base, Ok P w K mg base 2 "is_places" 1 f_is_places ["thing"] := fun base => ok_is_places T_is_places (O_is_whole base) q_MOST_PLACES
  have T_is_place : At K mg "is_place" s_is_place ["thing", "places"] := at_mk X G (fun _ _ _ _ _ _ us hl => match us, hl with | [_, _], _ => rfl) a8 l8 c8 k8
  have O_is_place : ∀ base, Ok P w K mg base 2 "is_place" 2 f_is_place ["thing", "places"] := fun base => ok_is_place T_is_place (O_is_whole base)
  have T_law_web : At K mg "_law_web" s_law_web ["_law_box_here", "_law_least", "_law_most"] := at_mk X G (fun _ _ _ _ _ _ us hl => match us, hl with | [_, _, _], _ => rfl) a9 l9 c9 k9
  have O_law_web : ∀ base, Ok P w K mg base 2 "_law_web" 3 f_law_web ["_law_box_here", "_law_least", "_law_most"] := fun base => ok_law_web T_law_web (O_law_take base) z_range z_list z_int z_max z_min z_tuple z_sorted
  have T_is_tie : At K mg "is_tie" s_is_tie ["thing", "places"] := at_mk X G (fun _ _ _ _ _ _ us hl => match us, hl with | [_, _], _ => rfl) a10 l10 c10 k10
  have O_is_tie : ∀ base, Ok P w K mg base 3 "is_tie" 2 f_is_tie ["thing", "places"] := fun base => ok_is_tie T_is_tie (O_is_tuple_of base) (O_is_place base)
  have T_are_ties : At K mg "are_ties" s_are_ties ["thing", "places"] := at_mk X G (fun _ _ _ _ _ _ us hl => match us, hl with | [_, _], _ => rfl) a11 l11 c11 k11
  have O_are_ties : ∀ base, Ok P w K mg base 4 "are_ties" 2 f_are_ties ["thing", "places"] := fun base => ok_are_ties T_are_ties (O_rises base) (O_is_tie base) z_isinstance z_tuple z_all
  have T_is_web : At K mg "is_web" s_is_web ["thing"] := at_mk X G (fun _ _ _ _ _ _ us hl => match us, hl with | [_], _ => rfl) a12 l12 c12 k12
  have O_is_web : ∀ base, Ok P w K mg base 5 "is_web" 1 f_is_web ["thing"] := fun base => ok_is_web T_is_web (O_is_tuple_of base) (O_is_places base) (O_are_ties base)
  have T_check_web : At K mg "check_web" s_check_web ["thing"] := at_mk X G (fun _ _ _ _ _ _ us hl => match us, hl with | [_], _ => rfl) a13 l13 c13 k13
  have O_check_web : ∀ base, Ok P w K mg base 6 "check_web" 1 f_check_web ["thing"] := fun base => ok_check_web T_check_web (O_is_web base)
  have T_near : At K mg "near" s_near ["web", "place"] := at_mk X G (fun _ _ _ _ _ _ us hl => match us, hl with | [_, _], _ => rfl) a14 l14 c14 k14
  have O_near : ∀ base, Ok P w K mg base 7 "near" 2 f_near ["web", "place"] := fun base => ok_near T_near (O_check_web base) (O_is_place base) z_tuple z_range
  have T_all_near : At K mg "all_near" s_all_near ["web"] := at_mk X G (fun _ _ _ _ _ _ us hl => match us, hl with | [_], _ => rfl) a15 l15 c15 k15
  have O_all_near : ∀ base, Ok P w K mg base 8 "all_near" 1 f_all_near ["web"] := fun base => ok_all_near T_all_near (O_near base) z_range
  have T_partings : At K mg "partings" s_partings ["web"] := at_mk X G (fun _ _ _ _ _ _ us hl => match us, hl with | [_], _ => rfl) a16 l16 c16 k16
  have O_partings : ∀ base, Ok P w K mg base 9 "partings" 1 f_partings ["web"] := fun base => ok_partings T_partings (O_all_near base) z_range z_enumerate z_any
  have T_powers_of : At K mg "powers_of" s_powers_of ["web"] := at_mk X G (fun _ _ _ _ _ _ us hl => match us, hl with | [_], _ => rfl) a17 l17 c17 k17
  have O_powers_of : ∀ base, Ok P w K mg base 10 "powers_of" 1 f_powers_of ["web"] := fun base => ok_powers_of T_powers_of (O_check_web base) (O_partings base) (O_times_less base) z_len z_range z_enumerate z_tuple
  have T_count_at : At K mg "count_at" s_count_at ["web", "q"] := at_mk X G (fun _ _ _ _ _ _ us hl => match us, hl with | [_, _], _ => rfl) a18 l18 c18 k18
  have O_count_at : ∀ base, Ok P w K mg base 11 "count_at" 2 f_count_at ["web", "q"] := fun base => ok_count_at T_count_at (O_powers_of base) (O_is_whole base)
  have T_no_rounds_many : At K mg "no_rounds_many" s_no_rounds_many ["web"] := at_mk X G (fun _ _ _ _ _ _ us hl => match us, hl with | [_], _ => rfl) a19 l19 c19 k19
  have O_no_rounds_many : ∀ base, Ok P w K mg base 12 "no_rounds_many" 1 f_no_rounds_many ["web"] := fun base => ok_no_rounds_many T_no_rounds_many (O_count_at base) z_abs
  exact ⟨_, ok_law (fun_mk (st := s_law) l20 c20 k20) (fun s u => .of_eq rfl) O_law_box O_law_web O_no_rounds_many O_law_goes_round z_range z_max z_min z_len z_repr good⟩
end Hue
-- E_k52
open PySem PySem.W PyProof.Rows
set_option maxHeartbeats 0 in
theorem PySem.Challenge.cw_huelists_k52_runs_that_go_nowhere_round_holds : PySem.Challenge.rw_huelists_k52_runs_that_go_nowhere_round.Holds := by
  w_on; o_law; k_head; (case hw => w_witness2)
  k_fill
  refine Hue.walk_law (l := PySem.Challenge.rw_huelists_k52_runs_that_go_nowhere_round) (n := 63) rfl (by decide) rfl (fun w h Y => PySem.W.kIn_of Y) ?F
  case F =>
    intro w mg fa h KX G hmg
    refine' Hue.all_law KX G hmg Hue.good ?a0 ?l0 ?c0 ?k0 ?a1 ?l1 ?c1 ?k1 ?a2 ?l2 ?c2 ?k2 ?a3 ?l3 ?c3 ?k3 ?a4 ?l4 ?c4 ?k4 ?a5 ?l5 ?c5 ?k5 ?a6 ?l6 ?c6 ?k6 ?a7 ?l7 ?c7 ?k7 ?a8 ?l8 ?c8 ?k8 ?a9 ?l9 ?c9 ?k9 ?a10 ?l10 ?c10 ?k10 ?a11 ?l11 ?c11 ?k11 ?a12 ?l12 ?c12 ?k12 ?a13 ?l13 ?c13 ?k13 ?a14 ?l14 ?c14 ?k14 ?a15 ?l15 ?c15 ?k15 ?a16 ?l16 ?c16 ?k16 ?a17 ?l17 ?c17 ?k17 ?a18 ?l18 ?c18 ?k18 ?a19 ?l19 ?c19 ?k19 ?a20 ?l20 ?c20 ?k20 ?y_isinstance ?y_int ?y_bool ?y_tuple ?y_len ?y_all ?y_zip ?y_range ?y_divmod ?y_list ?y_max ?y_min ?y_sorted ?y_enumerate ?y_any ?y_abs ?y_repr ?x_MOST_PLACES
    (case a0 => k_is)
    (case l0 => k_is)
    (case c0 => k_is)
    (case k0 => k_is)
    (case a1 => k_is)
    (case l1 => k_is)
    (case c1 => k_is)
    (case k1 => k_is)
    (case a2 => k_is)
    (case l2 => k_is)
    (case c2 => k_is)
    (case k2 => k_is)
    (case a3 => k_is)
    (case l3 => k_is)
    (case c3 => k_is)
    (case k3 => k_is)
    (case a4 => k_is)
    (case l4 => k_is)
    (case c4 => k_is)
    (case k4 => k_is)
    (case a5 => k_is)
    (case l5 => k_is)
    (case c5 => k_is)
    (case k5 => k_is)
    (case a6 => k_is)
    (case l6 => k_is)
    (case c6 => k_is)
    (case k6 => k_is)
    (case a7 => k_is)
    (case l7 => k_is)
    (case c7 => k_is)
    (case k7 => k_is)
    (case a8 => k_is)
    (case l8 => k_is)
    (case c8 => k_is)
    (case k8 => k_is)
    (case a9 => k_is)
    (case l9 => k_is)
    (case c9 => k_is)
    (case k9 => k_is)
    (case a10 => k_is)
    (case l10 => k_is)
    (case c10 => k_is)
    (case k10 => k_is)
    (case a11 => k_is)
    (case l11 => k_is)
    (case c11 => k_is)
    (case k11 => k_is)
    (case a12 => k_is)
    (case l12 => k_is)
    (case c12 => k_is)
    (case k12 => k_is)
    (case a13 => k_is)
    (case l13 => k_is)
    (case c13 => k_is)
    (case k13 => k_is)
    (case a14 => k_is)
    (case l14 => k_is)
    (case c14 => k_is)
    (case k14 => k_is)
    (case a15 => k_is)
    (case l15 => k_is)
    (case c15 => k_is)
    (case k15 => k_is)
    (case a16 => k_is)
    (case l16 => k_is)
    (case c16 => k_is)
    (case k16 => k_is)
    (case a17 => k_is)
    (case l17 => k_is)
    (case c17 => k_is)
    (case k17 => k_is)
    (case a18 => k_is)
    (case l18 => k_is)
    (case c18 => k_is)
    (case k18 => k_is)
    (case a19 => k_is)
    (case l19 => k_is)
    (case c19 => k_is)
    (case k19 => k_is)
    (case a20 => k_is)
    (case l20 => k_is)
    (case c20 => k_is)
    (case k20 => k_is)
    (case y_isinstance => k_is)
    (case y_int => k_is)
    (case y_bool => k_is)
    (case y_tuple => k_is)
    (case y_len => k_is)
    (case y_all => k_is)
    (case y_zip => k_is)
    (case y_range => k_is)
    (case y_divmod => k_is)
    (case y_list => k_is)
    (case y_max => k_is)
    (case y_min => k_is)
    (case y_sorted => k_is)
    (case y_enumerate => k_is)
    (case y_any => k_is)
    (case y_abs => k_is)
    (case y_repr => k_is)
    (case x_MOST_PLACES => k_is)
