import PyProof.Rows.All
import Wide.All
import OpenK.AllK
import Wide.FinOn
import HandS.ForMost
import HandS.Wide
import HandS.TupAny
import HandS.Style
import HandS.TupLe
import HandS.Codes
import HandS.Conv
import HandS.AnyAll
import HandS.Flow
import HandS.WideBits
import PyProof.P3In
import HandS.Deep
import HandS.IsInst
import PyProof.ReprRoads
import HandS.EndTab
import HandS.Replace
import HandS.GenList
import HandS.Iter
import HandS.Zip
import HandS.EndOwn
import PyProof.ReprLen
import PyProof.StrLawsRepr
import PySem.Challenge.RW_askfolds_k01_names_and_kinds_by_kind
set_option Elab.async false
set_option linter.all false
set_option maxRecDepth 100000
set_option maxHeartbeats 2000000
/-! Pd: a program's defs as plain functions over plain data (mirrors), tied to the hand layer's readings. -/
namespace Pd
open PySem L2

abbrev Frag := PySem.W.Frag

/-! ### data in the heap -/
def kD : Key → PyData
  | .inl i => .int i
  | .inr x => .str x
mutual
/-- the value v stands for the datum d -/
inductive Dr (K : Frag) (H : Hp) : V → PyData → Prop
  | non : Dr K H .non .none
  | bl (b : Bool) : Dr K H (.bl b) (.bool b)
  | int (i : Int) : Dr K H (.int i) (.int i)
  | str (x : Str) : Dr K H (.str x) (.str x)
  | lst {a : Addr} {xs : List V} {ds : List PyData} : H a = some (.lst xs) → Drs K H xs ds → Dr K H (.ref a) (.list ds)
  | tup {a : Addr} {xs : List V} {ds : List PyData} : SqT K H a xs → Drs K H xs ds → Dr K H (.ref a) (.tuple ds)
  | dic {a : Addr} {ks : List Key} {xs : List V} {ds : List PyData} : Rd H a (.dK (ks.zip xs)) → ks.length = xs.length → Drs K H xs ds → Dr K H (.ref a) (.dict ((ks.map kD).zip ds))
inductive Drs (K : Frag) (H : Hp) : List V → List PyData → Prop
  | nil : Drs K H [] []
  | cons {v : V} {vs : List V} {d : PyData} {ds : List PyData} : Dr K H v d → Drs K H vs ds → Drs K H (v :: vs) (d :: ds)
end

/-- what stood stands (a code object's table may have grown) -/
structure Xt (H H' : Hp) : Prop where
  keep : ∀ a o, H a = some o → (∀ q, o ≠ .tbl q) → H' a = some o
  tab : ∀ a q, H a = some (.tbl q) → ∃ q', H' a = some (.tbl q') ∧ (TriplesOk q.toList → TriplesOk q'.toList)
theorem Xt.refl (H : Hp) : Xt H H := ⟨fun _ _ e _ => e, fun _ q e => ⟨q, e, fun h => h⟩⟩
theorem Xt.trans {H H1 H2 : Hp} (a : Xt H H1) (b : Xt H1 H2) : Xt H H2 :=
  ⟨fun x o e n => b.keep x o (a.keep x o e n) n, fun x q e => by
    obtain ⟨q1, e1, t1⟩ := a.tab x q e
    obtain ⟨q2, e2, t2⟩ := b.tab x q1 e1
    exact ⟨q2, e2, fun h => t2 (t1 h)⟩⟩
theorem Xt.rd {H H' : Hp} (x : Xt H H') {a : Addr} {u : HO} (hu : ∀ q, u ≠ .tbl q) (h : Rd H a u) : Rd H' a u := by
  rcases h with h | ⟨o, h⟩
  · exact .inl (x.keep a u h hu)
  · exact .inr ⟨o, x.keep a _ h fun q z => by cases z⟩
theorem Xt.sqL {K : Frag} {H H' : Hp} (x : Xt H H') {a : Addr} {xs : List V} (h : SqL K H a xs) : SqL K H' a xs := by
  rcases h with h | h
  · exact .inl (x.rd (fun q z => by cases z) h)
  · exact .inr h
theorem Xt.sqT {K : Frag} {H H' : Hp} (x : Xt H H') {a : Addr} {xs : List V} (h : SqT K H a xs) : SqT K H' a xs := by
  rcases h with h | h
  · exact .inl (x.rd (fun q z => by cases z) h)
  · exact .inr h
theorem Dr.mono {K : Frag} {H H' : Hp} (x : Xt H H') {v : V} {d : PyData} (h : Dr K H v d) : Dr K H' v d :=
  Dr.rec (motive_1 := fun v d _ => Dr K H' v d) (motive_2 := fun vs ds _ => Drs K H' vs ds) .non .bl .int .str (fun s _ i => .lst (x.keep _ _ s fun q z => by cases z) i) (fun s _ i => .tup (x.sqT s) i)
    (fun r l _ i => .dic (x.rd (fun q z => by cases z) r) l i) .nil (fun _ _ i j => .cons i j) h
theorem Drs.mono {K : Frag} {H H' : Hp} (x : Xt H H') : ∀ {vs : List V} {ds : List PyData}, Drs K H vs ds → Drs K H' vs ds
  | _, _, .nil => .nil
  | _, _, .cons h t => .cons (h.mono x) (Drs.mono x t)

/-! ### what is registered: objects that the program changes -/
def hid (ρ : List Addr) (H : Hp) : Hp := fun a => if a ∈ ρ then none else H a
theorem hid_in {ρ : List Addr} {H : Hp} {a : Addr} (h : a ∈ ρ) : hid ρ H a = none := if_pos h
theorem hid_out {ρ : List Addr} {H : Hp} {a : Addr} (h : a ∉ ρ) : hid ρ H a = H a := if_neg h
theorem hid_some {ρ : List Addr} {H : Hp} {a : Addr} {o : HO} (h : hid ρ H a = some o) : a ∉ ρ ∧ H a = some o := by
  by_cases e : a ∈ ρ
  · rw [hid_in e] at h
    cases h
  · exact ⟨e, (hid_out e).symm.trans h⟩
theorem hid_le (ρ : List Addr) (H : Hp) : Xt (hid ρ H) H := ⟨fun a o e _ => (hid_some e).2, fun a q e => ⟨q, (hid_some e).2, fun h => h⟩⟩
theorem Dr.full {K : Frag} {ρ : List Addr} {H : Hp} {v : V} {d : PyData} (h : Dr K (hid ρ H) v d) : Dr K H v d := h.mono (hid_le ρ H)

/-- a registered object's content -/
inductive O where
  | lst (ds : List PyData)
  | dic (ks : List Key) (ds : List PyData)
abbrev Sto := List O
/-- a value of the mirror: a datum, or the n-th registered object -/
inductive D where
  | dat (d : PyData)
  | ref (n : Nat)
  | scr (ns : List Int)
abbrev Env := List (Option D)

def OR (K : Frag) (ρ : List Addr) (H : Hp) (a : Addr) : O → Prop
  | .lst ds => ∃ xs, H a = some (.lst xs) ∧ Drs K (hid ρ H) xs ds
  | .dic ks ds => ∃ xs, H a = some (.dK (ks.zip xs)) ∧ ks.length = xs.length ∧ Drs K (hid ρ H) xs ds
structure SR (K : Frag) (tb : List Addr) (ρ : List Addr) (H : Hp) (st : Sto) : Prop where
  len : ρ.length = st.length
  nd : ρ.Nodup
  obj : ∀ (n : Nat) a o, ρ[n]? = some a → st[n]? = some o → OR K ρ H a o
  tab : ∀ P ∈ tb, GxR.TabG H P
def RD (K : Frag) (ρ : List Addr) (H : Hp) (v : V) : D → Prop
  | .dat d => Dr K (hid ρ H) v d
  | .ref n => ∃ a, ρ[n]? = some a ∧ v = .ref a
  | .scr ns => ∃ a, v = .ref a ∧ SqL K (hid ρ H) a (ns.map V.int)
inductive RDs (K : Frag) (ρ : List Addr) (H : Hp) : List V → List D → Prop
  | nil : RDs K ρ H [] []
  | cons {v : V} {vs : List V} {d : D} {ds : List D} : RD K ρ H v d → RDs K ρ H vs ds → RDs K ρ H (v :: vs) (d :: ds)
structure ER (K : Frag) (ρ : List Addr) (H : Hp) (σ : St) (env : Env) : Prop where
  len : σ.length = env.length
  get : ∀ (i : Nat) d, env[i]? = some (some d) → ∃ v, σ[i]? = some (some v) ∧ RD K ρ H v d

/-- behind a piece of the program: what is not registered stands as it was -/
def Kp (ρ : List Addr) (H H' : Hp) : Prop := Xt (hid ρ H) (hid ρ H')
theorem Kp.refl (ρ : List Addr) (H : Hp) : Kp ρ H H := Xt.refl _
theorem Kp.trans {ρ : List Addr} {H H1 H2 : Hp} (a : Kp ρ H H1) (b : Kp ρ H1 H2) : Kp ρ H H2 := Xt.trans a b
theorem RD.mono {K : Frag} {ρ : List Addr} {H H' : Hp} (x : Kp ρ H H') {v : V} {d : D} (h : RD K ρ H v d) : RD K ρ H' v d := by
  cases d with
  | dat d => exact Dr.mono x h
  | ref n => exact h
  | scr ns =>
    obtain ⟨a, e, q⟩ := h
    exact ⟨a, e, Xt.sqL x q⟩
theorem RDs.mono {K : Frag} {ρ : List Addr} {H H' : Hp} (x : Kp ρ H H') : ∀ {vs : List V} {ds : List D}, RDs K ρ H vs ds → RDs K ρ H' vs ds
  | _, _, .nil => .nil
  | _, _, .cons h t => .cons (h.mono x) (RDs.mono x t)
theorem ER.mono {K : Frag} {ρ : List Addr} {H H' : Hp} (x : Kp ρ H H') {σ : St} {env : Env} (h : ER K ρ H σ env) : ER K ρ H' σ env :=
  ⟨h.len, fun i d e => by
    obtain ⟨v, e1, r⟩ := h.get i d e
    exact ⟨v, e1, r.mono x⟩⟩
theorem ER.set {K : Frag} {ρ : List Addr} {H : Hp} {σ : St} {env : Env} (h : ER K ρ H σ env) {v : V} {d : D} (r : RD K ρ H v d) (i : Nat) : ER K ρ H (σ.set i (some v)) (env.set i (some d)) := by
  refine ⟨by rw [List.length_set, List.length_set]; exact h.len, fun j d' e => ?_⟩
  by_cases hij : i = j
  · subst hij
    have hl : i < env.length := by
      have := List.getElem?_eq_some_iff.mp e
      obtain ⟨h1, _⟩ := this
      rw [List.length_set] at h1
      exact h1
    rw [List.getElem?_set_self hl] at e
    cases e
    exact ⟨v, List.getElem?_set_self (by rw [h.len]; exact hl), r⟩
  · rw [List.getElem?_set_ne hij] at e
    rw [List.getElem?_set_ne hij]
    exact h.get j d' e

/-- all that stood stands, registered things too -/
def Xn (H H' : Hp) : Prop := ∀ a o, H a = some o → H' a = some o
theorem Xn.refl (H : Hp) : Xn H H := fun _ _ e => e
theorem Xn.trans {H H1 H2 : Hp} (a : Xn H H1) (b : Xn H1 H2) : Xn H H2 := fun x o e => b x o (a x o e)
theorem Xn.new {H : Hp} {p : Addr} {o : HO} (h : H p = none) : Xn H (upd H p o) := fun a u e => by
  rw [upd_ne (ne_of_none e h)]
  exact e
theorem Xn.xt {H H' : Hp} (x : Xn H H') : Xt H H' := ⟨fun a o e _ => x a o e, fun a q e => ⟨q, x a _ e, fun h => h⟩⟩
theorem Xn.kp {H H' : Hp} (x : Xn H H') (ρ : List Addr) : Kp ρ H H' :=
  ⟨fun a o e _ => by
    obtain ⟨h1, h2⟩ := hid_some e
    rw [hid_out h1]
    exact x a o h2, fun a q e => by
    obtain ⟨h1, h2⟩ := hid_some e
    exact ⟨q, by rw [hid_out h1]; exact x a _ h2, fun h => h⟩⟩
theorem OR.xn {K : Frag} {ρ : List Addr} {H H' : Hp} (x : Xn H H') {a : Addr} : ∀ {o : O}, OR K ρ H a o → OR K ρ H' a o
  | .lst ds, ⟨xs, e, r⟩ => ⟨xs, x a _ e, r.mono (x.kp ρ)⟩
  | .dic ks ds, ⟨xs, e, l, r⟩ => ⟨xs, x a _ e, l, r.mono (x.kp ρ)⟩
theorem SR.xn {K : Frag} {tb ρ : List Addr} {H H' : Hp} {st : Sto} (x : Xn H H') (h : SR K tb ρ H st) : SR K tb ρ H' st :=
  ⟨h.len, h.nd, fun n a o e1 e2 => (h.obj n a o e1 e2).xn x, fun P hP => by
    obtain ⟨ps, e, t⟩ := h.tab P hP
    exact ⟨ps, x P _ e, t⟩⟩
theorem SR.tk {K : Frag} {tb ρ : List Addr} {H : Hp} {st : Sto} (h : SR K tb ρ H st) {a : Addr} (ha : a ∈ ρ) : ∃ o, H a = some o := by
  obtain ⟨n, hn, e⟩ := List.getElem_of_mem ha
  have hn2 : n < st.length := by rw [← h.len]; exact hn
  have q := h.obj n a st[n] (by rw [List.getElem?_eq_getElem hn, e]) (List.getElem?_eq_getElem hn2)
  cases o : st[n] with
  | lst ds => rw [o] at q; obtain ⟨xs, e, _⟩ := q; exact ⟨_, e⟩
  | dic ks ds => rw [o] at q; obtain ⟨xs, e, _⟩ := q; exact ⟨_, e⟩
/-- a new object is none of the registered -/
theorem SR.new {K : Frag} {tb ρ : List Addr} {H : Hp} {st : Sto} (h : SR K tb ρ H st) {p : Addr} (hp : H p = none) : p ∉ ρ := fun z => by
  obtain ⟨o, e⟩ := h.tk z
  rw [hp] at e
  cases e
theorem hid_upd {ρ : List Addr} {H : Hp} {p : Addr} {o : HO} (hp : p ∉ ρ) : hid ρ (upd H p o) = upd (hid ρ H) p o := by
  funext a
  by_cases e : a = p
  · subst e
    rw [hid_out hp, upd_same, upd_same]
  · by_cases e2 : a ∈ ρ
    · rw [hid_in e2, upd_ne e, hid_in e2]
    · rw [hid_out e2, upd_ne e, upd_ne e, hid_out e2]

/-! ### a thing that is read: a datum, or a registered list as it stands -/
def Tk (ρ : List Addr) (H : Hp) : Prop := ∀ a ∈ ρ, H a ≠ none
theorem SR.tks {K : Frag} {tb ρ : List Addr} {H : Hp} {st : Sto} (h : SR K tb ρ H st) : Tk ρ H := fun a ha z => by
  obtain ⟨o, e⟩ := h.tk ha
  rw [z] at e
  cases e
theorem Tk.new {ρ : List Addr} {H : Hp} (h : Tk ρ H) {p : Addr} (hp : H p = none) : p ∉ ρ := fun z => h p z hp
/-- v reads as d; below its first floor nothing is registered -/
inductive Dv (K : Frag) (ρ : List Addr) (H : Hp) : V → PyData → Prop
  | of {v : V} {d : PyData} : Dr K (hid ρ H) v d → Dv K ρ H v d
  | own {a : Addr} {xs : List V} {ds : List PyData} : H a = some (.lst xs) → Drs K (hid ρ H) xs ds → Dv K ρ H (.ref a) (.list ds)
  | ownD {a : Addr} {ks : List Key} {xs : List V} {ds : List PyData} : H a = some (.dK (ks.zip xs)) → ks.length = xs.length → Drs K (hid ρ H) xs ds → Dv K ρ H (.ref a) (.dict ((ks.map kD).zip ds))
def val (st : Sto) : D → Option PyData
  | .dat d => some d
  | .ref n => match st[n]? with
    | some (.lst ds) => some (.list ds)
    | some (.dic ks ds) => some (.dict ((ks.map kD).zip ds))
    | none => none
  | .scr _ => none
theorem RD.dv {K : Frag} {tb ρ : List Addr} {H : Hp} {st : Sto} (S : SR K tb ρ H st) {v : V} {d : D} {x : PyData} (r : RD K ρ H v d) (e : val st d = some x) : Dv K ρ H v x := by
  cases d with
  | dat d => cases e; exact .of r
  | ref n =>
    obtain ⟨a, ha, rfl⟩ := r
    cases hs : st[n]? with
    | none => simp only [val, hs] at e; cases e
    | some o =>
      have q := S.obj n a o ha hs
      simp only [val, hs] at e
      cases o with
      | lst ds => cases e; obtain ⟨xs, e1, r1⟩ := q; exact .own e1 r1
      | dic ks ds => cases e; obtain ⟨xs, e1, l1, r1⟩ := q; exact .ownD e1 l1 r1
  | scr ns => cases e
theorem Dv.xn {K : Frag} {ρ : List Addr} {H H' : Hp} (x : Xn H H') {v : V} {d : PyData} (h : Dv K ρ H v d) : Dv K ρ H' v d := by
  cases h with
  | of h => exact .of (h.mono (x.kp ρ))
  | own e r => exact .own (x _ _ e) (r.mono (x.kp ρ))
  | ownD e l r => exact .ownD (x _ _ e) l (r.mono (x.kp ρ))
theorem Dv.lst {K : Frag} {ρ : List Addr} {H : Hp} {v : V} {ds : List PyData} (h : Dv K ρ H v (.list ds)) : ∃ a xs, v = .ref a ∧ H a = some (.lst xs) ∧ Drs K (hid ρ H) xs ds := by
  cases h with
  | of h =>
    cases h with
    | lst s r => exact ⟨_, _, rfl, (hid_some s).2, r⟩
  | own e r => exact ⟨_, _, rfl, e, r⟩
theorem Dv.tup {K : Frag} {ρ : List Addr} {H : Hp} {v : V} {ds : List PyData} (h : Dv K ρ H v (.tuple ds)) : ∃ a xs, v = .ref a ∧ SqT K H a xs ∧ Drs K (hid ρ H) xs ds := by
  cases h with
  | of h =>
    cases h with
    | tup s r => exact ⟨_, _, rfl, (hid_le ρ H).sqT s, r⟩
theorem Dv.int {K : Frag} {ρ : List Addr} {H : Hp} {v : V} {i : Int} (h : Dv K ρ H v (.int i)) : v = .int i := by
  cases h with
  | of h => cases h; rfl
theorem Dv.bl {K : Frag} {ρ : List Addr} {H : Hp} {v : V} {b : Bool} (h : Dv K ρ H v (.bool b)) : v = .bl b := by
  cases h with
  | of h => cases h; rfl
theorem Dv.str {K : Frag} {ρ : List Addr} {H : Hp} {v : V} {x : Str} (h : Dv K ρ H v (.str x)) : v = .str x := by
  cases h with
  | of h => cases h; rfl
theorem Dv.non {K : Frag} {ρ : List Addr} {H : Hp} {v : V} (h : Dv K ρ H v .none) : v = .non := by
  cases h with
  | of h => cases h; rfl
theorem Drs.len {K : Frag} {H : Hp} : ∀ {vs : List V} {ds : List PyData}, Drs K H vs ds → vs.length = ds.length
  | _, _, .nil => rfl
  | _, _, .cons _ t => congrArg (· + 1) (Drs.len t)
theorem Drs.get {K : Frag} {H : Hp} : ∀ {vs : List V} {ds : List PyData} {i : Nat} {d : PyData}, Drs K H vs ds → ds[i]? = some d → ∃ v, vs[i]? = some v ∧ Dr K H v d
  | _, _, _, _, .nil, e => by simp at e
  | _, _, 0, _, .cons h _, e => by simp at e; subst e; exact ⟨_, rfl, h⟩
  | _, _, i + 1, _, .cons _ t, e => by
    obtain ⟨v, h1, h2⟩ := Drs.get (i := i) t (by simpa using e)
    exact ⟨v, by simpa using h1, h2⟩
theorem Drs.append {K : Frag} {H : Hp} : ∀ {vs ws : List V} {ds es : List PyData}, Drs K H vs ds → Drs K H ws es → Drs K H (vs ++ ws) (ds ++ es)
  | _, _, _, _, .nil, s => s
  | _, _, _, _, .cons h t, s => .cons h (Drs.append t s)
theorem Drs.take {K : Frag} {H : Hp} : ∀ {vs : List V} {ds : List PyData} (n : Nat), Drs K H vs ds → Drs K H (vs.take n) (ds.take n)
  | _, _, 0, _ => .nil
  | _, _, _ + 1, .nil => .nil
  | _, _, n + 1, .cons h t => .cons h (Drs.take n t)
theorem Drs.drop {K : Frag} {H : Hp} : ∀ {vs : List V} {ds : List PyData} (n : Nat), Drs K H vs ds → Drs K H (vs.drop n) (ds.drop n)
  | _, _, 0, h => h
  | _, _, _ + 1, .nil => .nil
  | _, _, n + 1, .cons _ t => Drs.drop n t
theorem Drs.set {K : Frag} {H : Hp} {v : V} {d : PyData} (r : Dr K H v d) : ∀ {vs : List V} {ds : List PyData} (n : Nat), Drs K H vs ds → Drs K H (vs.set n v) (ds.set n d)
  | _, _, _, .nil => .nil
  | _, _, 0, .cons _ t => .cons r t
  | _, _, n + 1, .cons h t => .cons h (Drs.set r n t)
theorem Drs.rev {K : Frag} {H : Hp} : ∀ {vs : List V} {ds : List PyData}, Drs K H vs ds → Drs K H vs.reverse ds.reverse
  | _, _, .nil => .nil
  | _, _, .cons h t => by
    rw [List.reverse_cons, List.reverse_cons]
    exact (Drs.rev t).append (.cons h .nil)
end Pd

set_option Elab.async false
set_option linter.all false
set_option maxRecDepth 100000
set_option maxHeartbeats 2000000
/-! Pd2: the judgements; expressions. -/
namespace Pd
open PySem L2

/-! ### outcomes -/
inductive R (α : Type) where
  | ok (a : α) (st : Sto)
  | exc (c : Str) (fs : List PyData) (st : Sto)
  | bad
def R.bind {α β : Type} (x : R α) (f : α → Sto → R β) : R β := match x with
  | .ok a st => f a st
  | .exc c fs st => .exc c fs st
  | .bad => .bad
theorem R.bind_ok {α β : Type} {x : R α} {f : α → Sto → R β} {b : β} {st : Sto} (h : x.bind f = .ok b st) : ∃ a st1, x = .ok a st1 ∧ f a st1 = .ok b st := by
  cases x with
  | ok a st1 => exact ⟨a, st1, rfl, h⟩
  | exc c fs st1 => cases h
  | bad => cases h
def R.opt {α : Type} (x : Option α) (st : Sto) : R α := match x with
  | some a => .ok a st
  | none => .bad
theorem R.opt_ok {α : Type} {x : Option α} {st st' : Sto} {a : α} (h : R.opt x st = .ok a st') : x = some a ∧ st' = st := by
  cases x with
  | none => cases h
  | some b => cases h; exact ⟨rfl, rfl⟩
abbrev ME := Env → Sto → R D
abbrev MT := Env → Sto → R Bool
abbrev MA := Env → Sto → R (List D)

/-! ### judgements: a piece of the text, its mirror -/
def Tells (K : Frag) (tb : List Addr) (t : TE) (m : ME) : Prop := ∀ (σ : St) (H : Hp) (ρ : List Addr) (st : Sto) (env : Env), ER K ρ H σ env → SR K tb ρ H st → ∀ d st', m env st = .ok d st' →
  ∀ Q : VK, (∀ v H', Kp ρ H H' → RD K ρ H' v d → SR K tb ρ H' st' → Q v H') → t σ H Q
def TellsT (K : Frag) (tb : List Addr) (t : TT) (m : MT) : Prop := ∀ (σ : St) (H : Hp) (ρ : List Addr) (st : Sto) (env : Env), ER K ρ H σ env → SR K tb ρ H st → ∀ b st', m env st = .ok b st' →
  ∀ Q : Bool → Hp → Prop, (∀ H', Kp ρ H H' → SR K tb ρ H' st' → Q b H') → t σ H Q
def TellsA (K : Frag) (tb : List Addr) (t : TA) (m : MA) : Prop := ∀ (σ : St) (H : Hp) (ρ : List Addr) (st : Sto) (env : Env), ER K ρ H σ env → SR K tb ρ H st → ∀ ds st', m env st = .ok ds st' →
  ∀ Q : List V → Hp → Prop, (∀ vs H', Kp ρ H H' → RDs K ρ H' vs ds → SR K tb ρ H' st' → Q vs H') → t σ H Q
def PD (X : Cx) (tb : List Addr) (e : Expr) (m : ME) : Prop := ∃ t, PE X e t ∧ Tells X.K tb t m
def PDT (X : Cx) (tb : List Addr) (e : Expr) (m : MT) : Prop := ∃ t, PT X e t ∧ TellsT X.K tb t m
def PDW (X : Cx) (tb : List Addr) (e : Expr) (m : MT) : Prop := ∃ t, PW X e t ∧ TellsT X.K tb t m
def PDA (X : Cx) (tb : List Addr) (es : List Expr) (m : MA) : Prop := ∃ t, PA X es t ∧ TellsA X.K tb t m

/-! ### names, constants -/
def mVar (i : Nat) : ME := fun env st => R.opt (env[i]?.bind fun x => x) st
def mC (d : PyData) : ME := fun _ st => .ok (.dat d) st
section
variable {X : Cx} {tb : List Addr} {pos : Pos} {a b c e : Expr} {ma mb mc : ME}
theorem tells_var {K : Frag} (i : Nat) : Tells K tb (tVar i) (mVar i) := by
  intro σ H ρ st env E S d st' h Q q
  replace h := R.opt_ok h
  obtain ⟨h, rfl⟩ := h
  cases he : env[i]? with
  | none => rw [he] at h; cases h
  | some o =>
    rw [he] at h
    have h' : o = some d := h
    subst h'
    obtain ⟨v, e1, r⟩ := E.get i d he
    exact ⟨v, e1, q v H (Kp.refl ρ H) r S⟩
theorem pd_var (i : Nat) {x : Str} (hN : X.N[i]? = some x := by rfl) (hv : Vis X.env.scope x := by first | exact Or.inl rfl | exact Or.inr (Or.inl rfl) | exact Or.inr (Or.inr rfl)) (hd : (x == ("__debug__" : Str)) = false := by decide)
    (hcd : (x == ("__classdict__" : Str)) = false := by decide) : PD X tb (.Name x pos) (mVar i) := ⟨_, pe_var hN hv hd hcd, tells_var i⟩
theorem tells_c {K : Frag} {v : V} {d : PyData} (h : ∀ H, Dr K H v d) : Tells K tb (tC v) (mC d) := by
  intro σ H ρ st env E S d st' h' Q q
  cases h'
  exact q v H (Kp.refl ρ H) (h _) S
theorem pd_int {i : Int} {j} : PD X tb (.Constant (.int i) j pos) (mC (.int i)) := ⟨_, pe_int, tells_c fun _ => .int i⟩
theorem pd_str {x : Str} {j} : PD X tb (.Constant (.str x) j pos) (mC (.str x)) := ⟨_, pe_str, tells_c fun _ => .str x⟩
theorem pd_bl {x : Bool} {j} : PD X tb (.Constant (.bool x) j pos) (mC (.bool x)) := ⟨_, pe_bl, tells_c fun _ => .bl x⟩
theorem pd_non {j} : PD X tb (.Constant .none j pos) (mC .none) := ⟨_, pe_non, tells_c fun _ => .non⟩
/-- a constant of the module -/
theorem pd_glob {x : Str} {v : V} {u : Value} {d : PyData} (hg : Gl X x) (hm : X.mg x = some u) (r : RelV v u) (h : ∀ H, Dr X.K H v d) (hd : (x == ("__debug__" : Str)) = false := by decide) : PD X tb (.Name x pos) (mC d) := ⟨_, pe_glob hg hm r hd, tells_c h⟩

/-! ### operators by data -/
/-- an operator's rule by data: f tells the answer of two read things -/
def OpD (X : Cx) (g : Value → Value → Sem Value) (f : PyData → PyData → Option PyData) : Prop :=
  ∃ r : R2, OpR X g r ∧ ∀ (ρ : List Addr) (H : Hp) (x y : V) (d1 d2 d : PyData), Tk ρ H → Dv X.K ρ H x d1 → Dv X.K ρ H y d2 → f d1 d2 = some d →
    ∀ Q : VK, (∀ v H', Xn H H' → Dr X.K (hid ρ H') v d → Q v H') → r x y H Q
def mBin (f : PyData → PyData → Option PyData) (ma mb : ME) : ME := fun env st => (ma env st).bind fun a st1 => (mb env st1).bind fun b st2 =>
  match val st2 a, val st2 b with
  | some x, some y => R.opt ((f x y).map D.dat) st2
  | _, _ => .bad
theorem tells_bin {K : Frag} {r : R2} {f : PyData → PyData → Option PyData} {ta tb' : TE} (h1 : Tells K tb ta ma) (h2 : Tells K tb tb' mb)
    (hr : ∀ (ρ : List Addr) (H : Hp) (x y : V) (d1 d2 d : PyData), Tk ρ H → Dv K ρ H x d1 → Dv K ρ H y d2 → f d1 d2 = some d → ∀ Q : VK, (∀ v H', Xn H H' → Dr K (hid ρ H') v d → Q v H') → r x y H Q) :
    Tells K tb (tOp r ta tb') (mBin f ma mb) := by
  intro σ H ρ st env E S d st' h Q q
  obtain ⟨da, st1, ha, h⟩ := R.bind_ok h
  obtain ⟨db, st2, hb, h⟩ := R.bind_ok h
  refine h1 σ H ρ st env E S da st1 ha _ fun va H1 k1 r1 S1 => ?_
  refine h2 σ H1 ρ st1 env (E.mono k1) S1 db st2 hb _ fun vb H2 k2 r2 S2 => ?_
  cases e1 : val st2 da with
  | none => rw [e1] at h; cases h
  | some x =>
    cases e2 : val st2 db with
    | none => rw [e1, e2] at h; cases h
    | some y =>
      rw [e1, e2] at h
      replace h := R.opt_ok h
      obtain ⟨h, rfl⟩ := h
      cases hf : f x y with
      | none => rw [hf] at h; cases h
      | some z =>
        rw [hf] at h
        cases h
        refine hr ρ H2 va vb x y z S2.tks (RD.dv S2 (r1.mono k2) e1) (RD.dv S2 r2 e2) hf Q fun v H3 x3 r3 => ?_
        exact q v H3 ((k1.trans k2).trans (x3.kp ρ)) r3 (S2.xn x3)
theorem pd_bin {op : Operator} {f : PyData → PyData → Option PyData} (ho : OpD X (binaryOp op) f) (ha : PD X tb a ma) (hb : PD X tb b mb) : PD X tb (.BinOp a op b pos) (mBin f ma mb) := by
  obtain ⟨r, hr, hd⟩ := ho
  obtain ⟨ta, pa, sa⟩ := ha
  obtain ⟨tb', pb, sb⟩ := hb
  exact ⟨_, pe_op hr pa pb, tells_bin sa sb hd⟩
theorem pd_cmp {op : CmpOp} {f : PyData → PyData → Option PyData} (ho : OpD X (compareOp op) f) (ha : PD X tb a ma) (hb : PD X tb b mb) (hm : behindInMarks op b = false) : PD X tb (.Compare a [op] [b] pos) (mBin f ma mb) := by
  obtain ⟨r, hr, hd⟩ := ho
  obtain ⟨ta, pa, sa⟩ := ha
  obtain ⟨tb', pb, sb⟩ := hb
  exact ⟨_, pe_cmpR hr pa pb hm, tells_bin sa sb hd⟩
/-- the truth of an answer that is True or False -/
def mTest (m : ME) : MT := fun env st => (m env st).bind fun d st1 => match d with
  | .dat (.bool b) => .ok b st1
  | _ => .bad
theorem tells_test {K : Frag} {t : TE} (h : Tells K tb t ma) : TellsT K tb (tTest t) (mTest ma) := by
  intro σ H ρ st env E S b st' hh Q q
  obtain ⟨d, st1, h1, h2⟩ := R.bind_ok hh
  refine h σ H ρ st env E S d st1 h1 _ fun v H1 k1 r1 S1 => ?_
  cases d with
  | ref n => cases h2
  | scr n => cases h2
  | dat x =>
    cases x with
    | bool c =>
      cases h2
      cases r1
      exact ⟨_, rfl, q H1 k1 S1⟩
    | _ => cases h2
theorem pdt_cmp {op : CmpOp} {f : PyData → PyData → Option PyData} (ho : OpD X (compareOp op) f) (ha : PD X tb a ma) (hb : PD X tb b mb) (hm : behindInMarks op b = false) : PDT X tb (.Compare a [op] [b] pos) (mTest (mBin f ma mb)) := by
  obtain ⟨r, hr, hd⟩ := ho
  obtain ⟨ta, pa, sa⟩ := ha
  obtain ⟨tb', pb, sb⟩ := hb
  exact ⟨_, pt_cmpR hr pa pb hm, tells_test (tells_bin sa sb hd)⟩
/-- a < b < c -/
def mChain (f g : PyData → PyData → Option PyData) (ma mb mc : ME) : ME := fun env st => (ma env st).bind fun a st1 => (mb env st1).bind fun b st2 =>
  match a, b with
  | .dat x, .dat y => match f x y with
    | some (.bool false) => .ok (.dat (.bool false)) st2
    | some (.bool true) => (mc env st2).bind fun c st3 => match c with
      | .dat z => R.opt ((g y z).map D.dat) st3
      | _ => .bad
    | _ => .bad
  | _, _ => .bad
theorem tells_chain {K : Frag} {r r' : R2} {f g : PyData → PyData → Option PyData} {ta tb' tc : TE} (h1 : Tells K tb ta ma) (h2 : Tells K tb tb' mb) (h3 : Tells K tb tc mc)
    (hr : ∀ (ρ : List Addr) (H : Hp) (x y : V) (d1 d2 d : PyData), Tk ρ H → Dv K ρ H x d1 → Dv K ρ H y d2 → f d1 d2 = some d → ∀ Q : VK, (∀ v H', Xn H H' → Dr K (hid ρ H') v d → Q v H') → r x y H Q)
    (hr' : ∀ (ρ : List Addr) (H : Hp) (x y : V) (d1 d2 d : PyData), Tk ρ H → Dv K ρ H x d1 → Dv K ρ H y d2 → g d1 d2 = some d → ∀ Q : VK, (∀ v H', Xn H H' → Dr K (hid ρ H') v d → Q v H') → r' x y H Q) :
    Tells K tb (tChain r r' ta tb' tc) (mChain f g ma mb mc) := by
  intro σ H ρ st env E S d st' h Q q
  obtain ⟨da, st1, ha, h⟩ := R.bind_ok h
  obtain ⟨db, st2, hb, h⟩ := R.bind_ok h
  refine h1 σ H ρ st env E S da st1 ha _ fun va H1 k1 r1 S1 => ?_
  refine h2 σ H1 ρ st1 env (E.mono k1) S1 db st2 hb _ fun vb H2 k2 r2 S2 => ?_
  cases da with
  | ref n => cases h
  | scr n => cases h
  | dat x =>
    cases db with
    | ref n => cases h
    | scr n => cases h
    | dat y =>
      cases hf : f x y with
      | none => simp only [hf] at h; cases h
      | some z =>
        refine hr ρ H2 va vb x y z S2.tks (.of (RD.mono (d := .dat x) k2 r1)) (.of r2) hf _ fun v H3 x3 r3 => ?_
        have S3 := S2.xn x3
        cases z with
        | bool k =>
          cases r3
          refine ⟨k, rfl, ?_⟩
          cases k with
          | false =>
            simp only [hf] at h
            cases h
            show if false = true then _ else _
            rw [if_neg Bool.false_ne_true]
            exact q _ H3 ((k1.trans k2).trans (x3.kp ρ)) (.bl false) S3
          | true =>
            simp only [hf] at h
            show if true = true then _ else _
            rw [if_pos rfl]
            obtain ⟨dc, st3, hc, h⟩ := R.bind_ok h
            have k3 := (k1.trans k2).trans (x3.kp ρ)
            refine h3 σ H3 ρ st2 env (E.mono k3) S3 dc st3 hc _ fun vc H4 k4 r4 S4 => ?_
            cases dc with
            | ref n => cases h
            | scr n => cases h
            | dat z =>
              replace h := R.opt_ok h
              obtain ⟨h, rfl⟩ := h
              cases hg : g y z with
              | none => rw [hg] at h; cases h
              | some u =>
                rw [hg] at h
                cases h
                refine hr' ρ H4 vb vc y z u S4.tks (.of (RD.mono (d := .dat y) ((x3.kp ρ).trans k4) r2)) (.of r4) hg Q fun v H5 x5 r5 => ?_
                exact q v H5 ((k3.trans k4).trans (x5.kp ρ)) r5 (S4.xn x5)
        | _ => simp only [hf] at h; cases h
theorem pd_chain {op op' : CmpOp} {f g : PyData → PyData → Option PyData} (ho : OpD X (compareOp op) f) (ho' : OpD X (compareOp op') g) (ha : PD X tb a ma) (hb : PD X tb b mb) (hc : PD X tb c mc)
    (hm : lastMarks [op, op'] [b, c] = false := by with_unfolding_all rfl) : PD X tb (.Compare a [op, op'] [b, c] pos) (mChain f g ma mb mc) := by
  obtain ⟨r, hr, hd⟩ := ho
  obtain ⟨r', hr', hd'⟩ := ho'
  obtain ⟨ta, pa, sa⟩ := ha
  obtain ⟨tb', pb, sb⟩ := hb
  obtain ⟨tc, pc, sc⟩ := hc
  exact ⟨_, pe_chain hr hr' pa pb pc hm, tells_chain sa sb sc hd hd'⟩
theorem pdt_chain {op op' : CmpOp} {f g : PyData → PyData → Option PyData} (ho : OpD X (compareOp op) f) (ho' : OpD X (compareOp op') g) (ha : PD X tb a ma) (hb : PD X tb b mb) (hc : PD X tb c mc)
    (hm : lastMarks [op, op'] [b, c] = false := by with_unfolding_all rfl) : PDT X tb (.Compare a [op, op'] [b, c] pos) (mTest (mChain f g ma mb mc)) := by
  obtain ⟨r, hr, hd⟩ := ho
  obtain ⟨r', hr', hd'⟩ := ho'
  obtain ⟨ta, pa, sa⟩ := ha
  obtain ⟨tb', pb, sb⟩ := hb
  obtain ⟨tc, pc, sc⟩ := hc
  exact ⟨_, pt_chain hr hr' pa pb pc hm, tells_test (tells_chain sa sb sc hd hd')⟩

/-! ### truth -/
def tru : PyData → Option Bool
  | .none => some false
  | .bool b => some b
  | .int i => some (i != 0)
  | .str y => if y.length ≤ sizeLine then some ((y.length : Int) != 0) else none
  | .list xs => some (!xs.isEmpty)
  | .tuple xs => some (!xs.isEmpty)
  | .dict _ => none
theorem empty_of {K : Frag} {H : Hp} {xs : List V} {ds : List PyData} (h : Drs K H xs ds) : (!xs.isEmpty) = !ds.isEmpty := by
  cases h <;> rfl
theorem tru_v {K : Frag} {ρ : List Addr} {H : Hp} {v : V} {d : PyData} {b : Bool} (h : Dv K ρ H v d) (e : tru d = some b) : TruV K v H b := by
  cases d with
  | none => rw [h.non]; cases e; rfl
  | bool c => rw [h.bl]; cases e; rfl
  | int i => rw [h.int]; cases e; rfl
  | str y =>
    rw [h.str]
    dsimp only [tru] at e
    by_cases hy : y.length ≤ sizeLine
    · rw [if_pos hy] at e
      cases e
      exact ⟨hy, rfl⟩
    · rw [if_neg hy] at e
      cases e
  | list ds =>
    obtain ⟨a, xs, rfl, s, r⟩ := h.lst
    cases e
    exact .inl ⟨xs, .inl (.inl s), (empty_of r).symm⟩
  | tuple ds =>
    obtain ⟨a, xs, rfl, s, r⟩ := h.tup
    cases e
    exact .inr (.inl ⟨xs, s, (empty_of r).symm⟩)
  | dict kvs => cases e
def truO (st : Sto) (d : D) : Option Bool := (val st d).bind tru
def mTru (m : ME) : MT := fun env st => (m env st).bind fun d st1 => R.opt (truO st1 d) st1
theorem truO_v {K : Frag} {ρ : List Addr} {H : Hp} {st : Sto} {v : V} {d : D} {b : Bool} (S : SR K tb ρ H st) (r : RD K ρ H v d) (e : truO st d = some b) : TruV K v H b := by
  unfold truO at e
  cases e1 : val st d with
  | none => rw [e1] at e; cases e
  | some x =>
    rw [e1] at e
    exact tru_v (RD.dv S r e1) e
theorem pdt_val (h : PD X tb a ma) (he : ∀ whole, isTrue a X.env whole = (do let v ← whole; standAt a.pos; holding [v] (truthy v)) := by intro _; rfl) : PDT X tb a (mTru ma) := by
  obtain ⟨t, pa, sa⟩ := h
  refine ⟨_, pt_truth pa he, ?_⟩
  intro σ H ρ st env E S b st' hh Q q
  obtain ⟨d, st1, h1, h2⟩ := R.bind_ok hh
  replace h2 := R.opt_ok h2
  obtain ⟨h2, rfl⟩ := h2
  exact sa σ H ρ st env E S d st' h1 _ fun v H1 k1 r1 S1 => ⟨b, truO_v S1 r1 h2, q H1 k1 S1⟩
def mNot (m : MT) : MT := fun env st => (m env st).bind fun b st1 => .ok (!b) st1
theorem pdt_not {m : MT} (h : PDT X tb a m) : PDT X tb (.UnaryOp .Not a pos) (mNot m) := by
  obtain ⟨t, pa, sa⟩ := h
  refine ⟨_, pt_not pa, ?_⟩
  intro σ H ρ st env E S b st' hh Q q
  obtain ⟨d, st1, h1, h2⟩ := R.bind_ok hh
  cases h2
  exact sa σ H ρ st env E S d _ h1 _ fun H1 k1 S1 => q H1 k1 S1
def mAnd (m n : MT) : MT := fun env st => (m env st).bind fun b st1 => if b = true then n env st1 else .ok false st1
def mOr (m n : MT) : MT := fun env st => (m env st).bind fun b st1 => if b = true then .ok true st1 else n env st1
theorem pdw_and1 {m : MT} (h : PDT X tb a m) : PDW X tb (.BoolOp .And [a] pos) m := by
  obtain ⟨t, pa, sa⟩ := h
  exact ⟨_, pw_and1 pa, sa⟩
theorem pdw_or1 {m : MT} (h : PDT X tb a m) : PDW X tb (.BoolOp .Or [a] pos) m := by
  obtain ⟨t, pa, sa⟩ := h
  exact ⟨_, pw_or1 pa, sa⟩
theorem pdw_and {m n : MT} {rest : List Expr} (h : PDT X tb a m) (h2 : PDW X tb (.BoolOp .And (b :: rest) pos) n) : PDW X tb (.BoolOp .And (a :: b :: rest) pos) (mAnd m n) := by
  obtain ⟨t, pa, sa⟩ := h
  obtain ⟨t2, pb, sb⟩ := h2
  refine ⟨_, pw_and pa pb, ?_⟩
  intro σ H ρ st env E S r st' hh Q q
  obtain ⟨d, st1, h1, h2⟩ := R.bind_ok hh
  refine sa σ H ρ st env E S d _ h1 _ fun H1 k1 S1 => ?_
  cases d with
  | true =>
    rw [if_pos rfl] at h2
    show if true = true then _ else _
    rw [if_pos rfl]
    exact sb σ H1 ρ st1 env (E.mono k1) S1 r st' h2 Q fun H2 k2 S2 => q H2 (k1.trans k2) S2
  | false =>
    rw [if_neg Bool.false_ne_true] at h2
    cases h2
    show if false = true then _ else _
    rw [if_neg Bool.false_ne_true]
    exact q H1 k1 S1
theorem pdw_or {m n : MT} {rest : List Expr} (h : PDT X tb a m) (h2 : PDW X tb (.BoolOp .Or (b :: rest) pos) n) : PDW X tb (.BoolOp .Or (a :: b :: rest) pos) (mOr m n) := by
  obtain ⟨t, pa, sa⟩ := h
  obtain ⟨t2, pb, sb⟩ := h2
  refine ⟨_, pw_or pa pb, ?_⟩
  intro σ H ρ st env E S r st' hh Q q
  obtain ⟨d, st1, h1, h2⟩ := R.bind_ok hh
  refine sa σ H ρ st env E S d _ h1 _ fun H1 k1 S1 => ?_
  cases d with
  | false =>
    rw [if_neg Bool.false_ne_true] at h2
    show if false = true then _ else _
    rw [if_neg Bool.false_ne_true]
    exact sb σ H1 ρ st1 env (E.mono k1) S1 r st' h2 Q fun H2 k2 S2 => q H2 (k1.trans k2) S2
  | true =>
    rw [if_pos rfl] at h2
    cases h2
    show if true = true then _ else _
    rw [if_pos rfl]
    exact q H1 k1 S1
theorem PDW.t {m : MT} (h : PDW X tb a m) : PDT X tb a m := by
  obtain ⟨t, pa, sa⟩ := h
  exact ⟨_, pa.pt, sa⟩

/-! ### and, or, not as values; a if c else b -/
def mAndV (m n : ME) : ME := fun env st => (m env st).bind fun d st1 => match truO st1 d with
  | some true => n env st1
  | some false => .ok d st1
  | none => .bad
def mOrV (m n : ME) : ME := fun env st => (m env st).bind fun d st1 => match truO st1 d with
  | some true => .ok d st1
  | some false => n env st1
  | none => .bad
theorem pd_or {rest : List Expr} (h : PD X tb a ma) (h2 : PD X tb (.BoolOp .Or (b :: rest) pos) mb) : PD X tb (.BoolOp .Or (a :: b :: rest) pos) (mOrV ma mb) := by
  obtain ⟨t, pa, sa⟩ := h
  obtain ⟨t2, pb, sb⟩ := h2
  refine ⟨_, pe_orT pa pb, ?_⟩
  intro σ H ρ st env E S r st' hh Q q
  obtain ⟨d, st1, h1, h2⟩ := R.bind_ok hh
  refine sa σ H ρ st env E S d _ h1 _ fun v H1 k1 r1 S1 => ?_
  cases e : truO st1 d with
  | none => rw [e] at h2; cases h2
  | some k =>
    refine ⟨k, truO_v S1 r1 e, ?_⟩
    cases k with
    | true =>
      rw [e] at h2
      cases h2
      rw [if_pos rfl]
      exact q v H1 k1 r1 S1
    | false =>
      rw [e] at h2
      rw [if_neg Bool.false_ne_true]
      exact sb σ H1 ρ st1 env (E.mono k1) S1 r st' h2 Q fun v H2 k2 r2 S2 => q v H2 (k1.trans k2) r2 S2
theorem pd_and {rest : List Expr} (h : PD X tb a ma) (h2 : PD X tb (.BoolOp .And (b :: rest) pos) mb) : PD X tb (.BoolOp .And (a :: b :: rest) pos) (mAndV ma mb) := by
  obtain ⟨t, pa, sa⟩ := h
  obtain ⟨t2, pb, sb⟩ := h2
  refine ⟨_, pe_andT pa pb, ?_⟩
  intro σ H ρ st env E S r st' hh Q q
  obtain ⟨d, st1, h1, h2⟩ := R.bind_ok hh
  refine sa σ H ρ st env E S d _ h1 _ fun v H1 k1 r1 S1 => ?_
  cases e : truO st1 d with
  | none => rw [e] at h2; cases h2
  | some k =>
    refine ⟨k, truO_v S1 r1 e, ?_⟩
    cases k with
    | false =>
      rw [e] at h2
      cases h2
      rw [if_neg Bool.false_ne_true]
      exact q v H1 k1 r1 S1
    | true =>
      rw [e] at h2
      rw [if_pos rfl]
      exact sb σ H1 ρ st1 env (E.mono k1) S1 r st' h2 Q fun v H2 k2 r2 S2 => q v H2 (k1.trans k2) r2 S2
def mNotV (m : ME) : ME := fun env st => (m env st).bind fun d st1 => R.opt ((truO st1 d).map fun k => D.dat (.bool (!k))) st1
theorem pd_not (h : PD X tb a ma) : PD X tb (.UnaryOp .Not a pos) (mNotV ma) := by
  obtain ⟨t, pa, sa⟩ := h
  refine ⟨_, pe_notT pa, ?_⟩
  intro σ H ρ st env E S r st' hh Q q
  obtain ⟨d, st1, h1, h2⟩ := R.bind_ok hh
  refine sa σ H ρ st env E S d _ h1 _ fun v H1 k1 r1 S1 => ?_
  cases e : truO st1 d with
  | none => rw [e] at h2; cases h2
  | some k =>
    rw [e] at h2
    cases h2
    exact ⟨k, truO_v S1 r1 e, q _ H1 k1 (.bl _) S1⟩
def mIf (c : MT) (m n : ME) : ME := fun env st => (c env st).bind fun b st1 => if b = true then m env st1 else n env st1
theorem pd_if {m : MT} (h : PDT X tb c m) (ha : PD X tb a ma) (hb : PD X tb b mb) : PD X tb (.IfExp c a b pos) (mIf m ma mb) := by
  obtain ⟨t, pc, sc⟩ := h
  obtain ⟨ta, pa, sa⟩ := ha
  obtain ⟨tb', pb, sb⟩ := hb
  refine ⟨_, pe_ifExp pc pa pb, ?_⟩
  intro σ H ρ st env E S r st' hh Q q
  obtain ⟨d, st1, h1, h2⟩ := R.bind_ok hh
  refine sc σ H ρ st env E S d _ h1 _ fun H1 k1 S1 => ?_
  cases d with
  | true =>
    rw [if_pos rfl] at h2 ⊢
    exact sa σ H1 ρ st1 env (E.mono k1) S1 r st' h2 Q fun v H2 k2 r2 S2 => q v H2 (k1.trans k2) r2 S2
  | false =>
    rw [if_neg Bool.false_ne_true] at h2 ⊢
    exact sb σ H1 ρ st1 env (E.mono k1) S1 r st' h2 Q fun v H2 k2 r2 S2 => q v H2 (k1.trans k2) r2 S2
theorem pd_one {op : BoolOp} (h : PD X tb a ma) : PD X tb (.BoolOp op [a] pos) ma := by
  obtain ⟨t, pa, sa⟩ := h
  exact ⟨_, pe_one pa, sa⟩
end
end Pd

set_option Elab.async false
set_option linter.all false
set_option maxRecDepth 100000
set_option maxHeartbeats 2000000
/-! Pd3: displays, subscripts, operators by data. -/
namespace Pd
open PySem L2

theorem Kp.fresh {ρ : List Addr} {H H' : Hp} (k : Kp ρ H H') {p : Addr} (hp : p ∉ ρ) (h : H' p = none) : H p = none := by
  cases e : H p with
  | none => rfl
  | some o =>
    have e1 : hid ρ H p = some o := by rw [hid_out hp]; exact e
    have z : hid ρ H' p = none := by rw [hid_out hp]; exact h
    by_cases ht : ∃ q, o = .tbl q
    · obtain ⟨q, rfl⟩ := ht
      obtain ⟨q', e2, _⟩ := k.tab p q e1
      rw [z] at e2
      cases e2
    · have e2 := k.keep p o e1 fun q hq => ht ⟨q, hq⟩
      rw [z] at e2
      cases e2
theorem Drs.none_of {K : Frag} {H : Hp} {vs : List V} {ds : List PyData} {i : Nat} (h : Drs K H vs ds) (e : ds[i]? = none) : vs[i]? = none := by
  have h1 := h.len
  have h2 : ds.length ≤ i := List.getElem?_eq_none_iff.mp e
  exact List.getElem?_eq_none_iff.mpr (by omega)

section
variable {X : Cx} {tb : List Addr} {pos p2 : Pos} {a b c e : Expr} {es : List Expr} {ma mb mc : ME} {m : MA}
/-! ### arguments, displays -/
def mNil : MA := fun _ st => .ok [] st
def mCons (ma : ME) (m : MA) : MA := fun env st => (ma env st).bind fun d st1 => (m env st1).bind fun ds st2 => .ok (d :: ds) st2
theorem pda_nil : PDA X tb [] mNil := ⟨_, pa_nil, fun σ H ρ st env E S ds st' h Q q => by
  cases h
  exact q [] H (Kp.refl ρ H) .nil S⟩
theorem pda_cons (ha : PD X tb a ma) (hr : PDA X tb es m) (hs : starEach (a :: es) X.env = (false, eval a X.env) :: starEach es X.env := by rfl) : PDA X tb (a :: es) (mCons ma m) := by
  obtain ⟨ta, pa, sa⟩ := ha
  obtain ⟨tr, pr, sr⟩ := hr
  refine ⟨_, pa_cons pa pr hs, ?_⟩
  intro σ H ρ st env E S ds st' h Q q
  obtain ⟨d, st1, h1, h⟩ := R.bind_ok h
  obtain ⟨ds', st2, h2, h⟩ := R.bind_ok h
  cases h
  refine sa σ H ρ st env E S d st1 h1 _ fun v H1 k1 r1 S1 => ?_
  refine sr σ H1 ρ st1 env (E.mono k1) S1 ds' _ h2 _ fun vs H2 k2 r2 S2 => ?_
  exact q (v :: vs) H2 (k1.trans k2) (.cons (r1.mono k2) r2) S2
/-- all of them data -/
def dats : List D → Option (List PyData)
  | [] => some []
  | .dat d :: r => (dats r).map (d :: ·)
  | _ :: _ => none
theorem dats_rel {K : Frag} {ρ : List Addr} {H : Hp} : ∀ {vs : List V} {ds : List D} {xs : List PyData}, RDs K ρ H vs ds → dats ds = some xs → Drs K (hid ρ H) vs xs
  | _, _, _, .nil, e => by cases e; exact .nil
  | _, _, _, .cons (d := .dat d) (ds := ds) h t, e => by
    cases e1 : dats ds with
    | none => simp only [dats, e1] at e; cases e
    | some ys =>
      simp only [dats, e1] at e
      cases e
      exact .cons h (dats_rel t e1)
  | _, _, _, .cons (d := .ref n) h t, e => by cases e
  | _, _, _, .cons (d := .scr n) h t, e => by cases e
def mTup (m : MA) : ME := fun env st => (m env st).bind fun ds st1 => match dats ds with
  | some xs => if xs.length ≤ sizeLine then .ok (.dat (.tuple xs)) st1 else .bad
  | none => .bad
theorem pd_tup {x1} (h : PDA X tb es m) : PD X tb (.Tuple es x1 pos) (mTup m) := by
  obtain ⟨t, pa, sa⟩ := h
  refine ⟨_, pe_tup pa, ?_⟩
  intro σ H ρ st env E S d st' h Q q
  obtain ⟨ds, st1, h1, h⟩ := R.bind_ok h
  refine sa σ H ρ st env E S ds st1 h1 _ fun vs H1 k1 r1 S1 => ?_
  cases e : dats ds with
  | none => simp only [e] at h; cases h
  | some xs =>
    have r := dats_rel r1 e
    simp only [e] at h
    by_cases hz : xs.length ≤ sizeLine
    · rw [if_pos hz] at h
      cases h
      refine ⟨by rw [r.len]; exact hz, fun p hp => ?_⟩
      have x := Xn.new (o := .tup vs) hp
      refine q _ _ (k1.trans (x.kp ρ)) (.tup (.inl (.inl ?_)) (r.mono (x.kp ρ))) (S1.xn x)
      rw [hid_out (S1.new hp)]
      exact upd_same
    · rw [if_neg hz] at h
      cases h
/-- H without what stands at a -/
def wo (a : Addr) (H : Hp) : Hp := fun b => if b = a then none else H b
theorem wo_same {a : Addr} {H : Hp} : wo a H a = none := if_pos rfl
theorem wo_ne {a b : Addr} {H : Hp} (h : b ≠ a) : wo a H b = H b := if_neg h
theorem wo_upd {a : Addr} {H : Hp} {o : HO} (h : H a = none) : wo a (upd H a o) = H := by
  funext b
  by_cases e : b = a
  · subst e
    rw [wo_same, h]
  · rw [wo_ne e, upd_ne e]
theorem wo_xn (a : Addr) (H : Hp) : Xn (wo a H) H := fun b o e => by
  by_cases z : b = a
  · subst z
    rw [wo_same] at e
    cases e
  · rw [wo_ne z] at e
    exact e
/-- an expression that makes a new list -/
abbrev MN := Env → Sto → R (List PyData)
def TellsN (K : Frag) (tb : List Addr) (t : TE) (m : MN) : Prop := ∀ (σ : St) (H : Hp) (ρ : List Addr) (st : Sto) (env : Env), ER K ρ H σ env → SR K tb ρ H st → ∀ ds st', m env st = .ok ds st' →
  ∀ Q : VK, (∀ a xs H', Kp ρ H (wo a H') → H a = none → a ∉ ρ → H' a = some (.lst xs) → Drs K (hid ρ (wo a H')) xs ds → SR K tb ρ (wo a H') st' → Q (.ref a) H') → t σ H Q
def PDN (X : Cx) (tb : List Addr) (e : Expr) (m : MN) : Prop := ∃ t, PE X e t ∧ TellsN X.K tb t m
def mNew (m : MN) : ME := fun env st => (m env st).bind fun ds st1 => .ok (.dat (.list ds)) st1
theorem pd_new {m : MN} (h : PDN X tb a m) : PD X tb a (mNew m) := by
  obtain ⟨t, pa, sa⟩ := h
  refine ⟨t, pa, ?_⟩
  intro σ H ρ st env E S d st' h Q q
  obtain ⟨ds, st1, h1, h⟩ := R.bind_ok h
  cases h
  refine sa σ H ρ st env E S ds _ h1 _ fun a xs H1 k1 n1 na h1 r1 S1 => ?_
  have x := wo_xn a H1
  exact q _ H1 (k1.trans (x.kp ρ)) (.lst (by rw [hid_out na]; exact h1) (r1.mono (x.kp ρ))) (S1.xn x)
def mLst (m : MA) : MN := fun env st => (m env st).bind fun ds st1 => match dats ds with
  | some xs => if xs.length ≤ sizeLine then .ok xs st1 else .bad
  | none => .bad
theorem pdn_lst (h : PDA X tb es m) : PDN X tb (.List es pos) (mLst m) := by
  obtain ⟨t, pa, sa⟩ := h
  refine ⟨_, pe_lst pa, ?_⟩
  intro σ H ρ st env E S ds' st' h Q q
  obtain ⟨ds, st1, h1, h⟩ := R.bind_ok h
  refine sa σ H ρ st env E S ds st1 h1 _ fun vs H1 k1 r1 S1 => ?_
  cases e : dats ds with
  | none => simp only [e] at h; cases h
  | some xs =>
    have r := dats_rel r1 e
    simp only [e] at h
    by_cases hz : xs.length ≤ sizeLine
    · rw [if_pos hz] at h
      cases h
      refine ⟨by rw [r.len]; exact hz, fun p hp => ?_⟩
      have np := S1.new hp
      have z : wo p (upd H1 p (.lst vs)) = H1 := wo_upd hp
      exact q p vs _ (by rw [z]; exact k1) (k1.fresh np hp) np upd_same (by rw [z]; exact r) (by rw [z]; exact S1)
    · rw [if_neg hz] at h
      cases h

/-! ### subscripts -/
def IxD (X : Cx) (f : PyData → PyData → Option PyData) : Prop :=
  ∃ r : R2, IxR X r ∧ ∀ (ρ : List Addr) (H : Hp) (x y : V) (d1 d2 d : PyData), Tk ρ H → Dv X.K ρ H x d1 → Dv X.K ρ H y d2 → f d1 d2 = some d →
    ∀ Q : VK, (∀ v H', Xn H H' → Dr X.K (hid ρ H') v d → Q v H') → r x y H Q
theorem pd_ix {f : PyData → PyData → Option PyData} (ho : IxD X f) (ha : PD X tb a ma) (hb : PD X tb b mb) (hs : PlainIx b) : PD X tb (.Subscript a b pos) (mBin f ma mb) := by
  obtain ⟨r, hr, hd⟩ := ho
  obtain ⟨ta, pa, sa⟩ := ha
  obtain ⟨tb', pb, sb⟩ := hb
  exact ⟨_, pe_ix hr pa pb hs, tells_bin sa sb hd⟩
/-- d[i] -/
def ixD : PyData → PyData → Option PyData
  | .list xs, .int i => atI xs i
  | .tuple xs, .int i => atI xs i
  | .str z, .int i => if z.length ≤ sizeLine then (atI z.cps.toList i).map fun c => .str ⟨#[c]⟩ else none
  | _, _ => none
theorem at_rel {K : Frag} {H : Hp} {vs : List V} {ds : List PyData} {i : Int} {d : PyData} (h : Drs K H vs ds) (e : atI ds i = some d) : ∃ v, atI vs i = some v ∧ Dr K H v d := by
  unfold atI at e ⊢
  rw [h.len]
  cases hx : ixN ds.length i with
  | none => rw [hx] at e; cases e
  | some j =>
    rw [hx] at e
    exact Drs.get h e
theorem ixd : IxD X ixD := by
  refine ⟨_, ix_seq, fun ρ H x y d1 d2 d T h1 h2 hf Q q => ?_⟩
  unfold ixD at hf
  split at hf
  · obtain ⟨a, xs, rfl, s, r⟩ := h1.lst
    obtain ⟨v, e, rv⟩ := at_rel r hf
    exact .inl ⟨a, xs, _, v, rfl, h2.int, .inl (.inl s), e, q v H (Xn.refl H) rv⟩
  · obtain ⟨a, xs, rfl, s, r⟩ := h1.tup
    obtain ⟨v, e, rv⟩ := at_rel r hf
    exact .inr (.inl ⟨a, xs, _, v, rfl, h2.int, s, e, q v H (Xn.refl H) rv⟩)
  · rename_i z i
    by_cases hz : z.length ≤ sizeLine
    · rw [if_pos hz] at hf
      cases hc : atI z.cps.toList i with
      | none => rw [hc] at hf; cases hf
      | some c =>
        rw [hc] at hf
        cases hf
        exact .inr (.inr ⟨z, i, c, h1.str, h2.int, hz, hc, q _ H (Xn.refl H) (.str _)⟩)
    · rw [if_neg hz] at hf
      cases hf
  · cases hf

/-! ### slices -/
abbrev MO := Env → Sto → R (Option Int)
def TellsO (K : Frag) (tb : List Addr) (t : TO) (m : MO) : Prop := ∀ (σ : St) (H : Hp) (ρ : List Addr) (st : Sto) (env : Env), ER K ρ H σ env → SR K tb ρ H st → ∀ o st', m env st = .ok o st' →
  ∀ Q : Option Int → Hp → Prop, (∀ H', Kp ρ H H' → SR K tb ρ H' st' → Q o H') → t σ H Q
def PDO (X : Cx) (tb : List Addr) (e : Option Expr) (m : MO) : Prop := ∃ t, PO X e t ∧ TellsO X.K tb t m
def mNoP : MO := fun _ st => .ok none st
def mPart (ma : ME) : MO := fun env st => (ma env st).bind fun d st1 => match d with
  | .dat (.int i) => .ok (some i) st1
  | _ => .bad
theorem pdo_none : PDO X tb none mNoP := ⟨_, po_none, fun σ H ρ st env E S o st' h Q q => by
  cases h
  exact q H (Kp.refl ρ H) S⟩
theorem pdo_some (h : PD X tb a ma) : PDO X tb (some a) (mPart ma) := by
  obtain ⟨t, pa, sa⟩ := h
  refine ⟨_, po_some pa, ?_⟩
  intro σ H ρ st env E S o st' h Q q
  obtain ⟨d, st1, h1, h⟩ := R.bind_ok h
  refine sa σ H ρ st env E S d st1 h1 _ fun v H1 k1 r1 S1 => ?_
  cases d with
  | ref n => cases h
  | scr n => cases h
  | dat x =>
    cases x with
    | int i =>
      cases h
      cases r1
      exact ⟨i, rfl, q H1 k1 S1⟩
    | _ => cases h
def cut {α : Type} (xs : List α) (lo hi : Option Int) : List α := (xs.drop (HT.sIx xs.length 0 lo)).take (HT.sIx xs.length xs.length hi - HT.sIx xs.length 0 lo)
theorem cut_rel {K : Frag} {H : Hp} {vs : List V} {ds : List PyData} (h : Drs K H vs ds) (lo hi : Option Int) : Drs K H (cutV vs lo hi) (cut ds lo hi) := by
  unfold cutV cut
  rw [h.len]
  exact (h.drop _).take _
/-- d[lo:hi] -/
def slD (d : PyData) (lo hi : Option Int) : Option PyData := match d with
  | .list xs => some (.list (cut xs lo hi))
  | .tuple xs => some (.tuple (cut xs lo hi))
  | .str z => if z.length ≤ sizeLine then some (.str (cutS z lo hi)) else none
  | _ => none
def rSlAll (K : Frag) : V → Option Int → Option Int → Hp → VK → Prop := fun x lo hi H Q => rSlL K x lo hi H Q ∨ (rSlA K x lo hi H Q ∨ rSlS x lo hi H Q)
theorem sl_all : SlR X (rSlAll X.K) := SlR.or sl_list (SlR.or sl_tupA sl_str)
def mSl (ma : ME) (ml mh : MO) : ME := fun env st => (ma env st).bind fun d st1 => (ml env st1).bind fun lo st2 => (mh env st2).bind fun hi st3 => match d with
  | .scr ns => R.opt (some (D.dat (.list (cut (ns.map PyData.int) lo hi)))) st3
  | d => match val st3 d with
    | some x => R.opt ((slD x lo hi).map D.dat) st3
    | none => .bad
theorem cut_whole {α : Type} (xs : List α) {lo hi : Option Int} (h : HT.sIx xs.length 0 lo = 0 ∧ HT.sIx xs.length xs.length hi = xs.length) : cut xs lo hi = xs := by
  unfold cut
  rw [h.1, h.2]
  show List.take (xs.length - 0) xs = xs
  rw [Nat.sub_zero]
  exact List.take_length
theorem cutV_whole (xs : List V) {lo hi : Option Int} (h : HT.sIx xs.length 0 lo = 0 ∧ HT.sIx xs.length xs.length hi = xs.length) : cutV xs lo hi = xs := cut_whole xs h
theorem sl_tells {K : Frag} {ρ : List Addr} {H : Hp} {v : V} {x y : PyData} {lo hi : Option Int} (T : Tk ρ H) (h : Dv K ρ H v x) (e : slD x lo hi = some y) (Q : VK) (q : ∀ v H', Xn H H' → Dr K (hid ρ H') v y → Q v H') : rSlAll K v lo hi H Q := by
  cases x with
  | list ds =>
    cases e
    obtain ⟨a, xs, rfl, s, r⟩ := h.lst
    refine .inl ⟨a, xs, rfl, .inl (.inl s), fun p hp => ?_⟩
    have x := Xn.new (o := .lst (cutV xs lo hi)) hp
    exact q _ _ x (.lst (by rw [hid_out (T.new hp)]; exact upd_same) ((cut_rel r lo hi).mono (x.kp ρ)))
  | tuple ds =>
    cases e
    obtain ⟨a, xs, rfl, s, r⟩ := h.tup
    refine .inr (.inl ⟨a, xs, rfl, s, fun w => ?_, fun w p hp => ?_⟩)
    · have hw : HT.sIx ds.length 0 lo = 0 ∧ HT.sIx ds.length ds.length hi = ds.length := by rw [← r.len]; exact w
      refine q _ H (Xn.refl H) ?_
      rw [cut_whole ds hw]
      cases h with
      | of h => exact h
    · have x := Xn.new (o := .tup (cutV xs lo hi)) hp
      exact q _ _ x (.tup (.inl (.inl (by rw [hid_out (T.new hp)]; exact upd_same))) ((cut_rel r lo hi).mono (x.kp ρ)))
  | str z =>
    have e1 := h.str
    subst e1
    dsimp only [slD] at e
    by_cases hz : z.length ≤ sizeLine
    · rw [if_pos hz] at e
      cases e
      exact .inr (.inr ⟨z, rfl, hz, q _ H (Xn.refl H) (.str _)⟩)
    · rw [if_neg hz] at e
      cases e
  | _ => cases e
theorem ints_rel {K : Frag} {H : Hp} : ∀ ns : List Int, Drs K H (ns.map V.int) (ns.map PyData.int)
  | [] => .nil
  | n :: ns => .cons (.int n) (ints_rel ns)
theorem pd_sl {lo hi : Option Expr} {ml mh : MO} (ha : PD X tb a ma) (hl : PDO X tb lo ml) (hh : PDO X tb hi mh) : PD X tb (.Subscript a (.Slice lo hi none p2) pos) (mSl ma ml mh) := by
  obtain ⟨t, pa, sa⟩ := ha
  obtain ⟨tl, pl, sl⟩ := hl
  obtain ⟨th, ph, sh⟩ := hh
  refine ⟨_, pe_slice sl_all pa pl ph, ?_⟩
  intro σ H ρ st env E S d st' h Q q
  obtain ⟨dx, st1, h1, h⟩ := R.bind_ok h
  obtain ⟨lo', st2, h2, h⟩ := R.bind_ok h
  obtain ⟨hi', st3, h3, h⟩ := R.bind_ok h
  refine sa σ H ρ st env E S dx st1 h1 _ fun v H1 k1 r1 S1 => ?_
  refine sl σ H1 ρ st1 env (E.mono k1) S1 lo' st2 h2 _ fun H2 k2 S2 => ?_
  have k12 := k1.trans k2
  refine sh σ H2 ρ st2 env (E.mono k12) S2 hi' st3 h3 _ fun H3 k3 S3 => ?_
  have r3 := r1.mono (k2.trans k3)
  have k := k12.trans k3
  have plain : ∀ {z : D}, RD X.K ρ H3 v z → (match val st3 z with
      | some x => R.opt ((slD x lo' hi').map D.dat) st3
      | none => R.bad) = .ok d st' → rSlAll X.K v lo' hi' H3 Q := fun {z} rz hz => by
    cases e1 : val st3 z with
    | none => rw [e1] at hz; cases hz
    | some x =>
      rw [e1] at hz
      replace hz := R.opt_ok hz
      obtain ⟨hz, rfl⟩ := hz
      cases e2 : slD x lo' hi' with
      | none => rw [e2] at hz; cases hz
      | some y =>
        rw [e2] at hz
        cases hz
        exact sl_tells S3.tks (RD.dv S3 rz e1) e2 Q fun v H4 x4 r4 => q v H4 (k.trans (x4.kp ρ)) r4 (S3.xn x4)
  cases dx with
  | dat x => exact plain r3 h
  | ref n => exact plain r3 h
  | scr ns =>
    obtain ⟨a, rfl, hs⟩ := r3
    cases h
    refine .inl ⟨a, ns.map V.int, rfl, (hid_le ρ H3).sqL hs, fun p hp => ?_⟩
    have x := Xn.new (o := .lst (cutV (ns.map V.int) lo' hi')) hp
    exact q _ _ (k.trans (x.kp ρ)) (.lst (by rw [hid_out (S3.new hp)]; exact upd_same) (cut_rel (ints_rel ns) lo' hi')) (S3.xn x)
end
end Pd

set_option Elab.async false
set_option linter.all false
set_option maxRecDepth 100000
set_option maxHeartbeats 2000000
/-! Pd4: operators and comparisons by data. -/
namespace Pd
open PySem L2

section
variable {X : Cx}
/-- an operator upon two ints -/
def intD (C : Int → Int → Prop) [∀ i j, Decidable (C i j)] (g : Int → Int → PyData) : PyData → PyData → Option PyData
  | .int i, .int j => if C i j then some (g i j) else none
  | _, _ => none
theorem opd_int {g : Value → Value → Sem Value} {C : Int → Int → Prop} [∀ i j, Decidable (C i j)] {f : Int → Int → V} {fd : Int → Int → PyData} (h : OpR X g (rI C f)) (hd : ∀ i j H, Dr X.K H (f i j) (fd i j)) : OpD X g (intD C fd) := by
  refine ⟨_, h, fun ρ H x y d1 d2 d T h1 h2 hf Q q => ?_⟩
  unfold intD at hf
  split at hf
  · rename_i i j
    by_cases hc : C i j
    · rw [if_pos hc] at hf
      cases hf
      exact ⟨i, j, h1.int, h2.int, hc, q _ H (Xn.refl H) (hd i j _)⟩
    · rw [if_neg hc] at hf
      cases hf
  · cases hf
theorem opd_int0 {g : Value → Value → Sem Value} {f : Int → Int → V} {fd : Int → Int → PyData} (h : OpR X g (rI0 f)) (hd : ∀ i j H, Dr X.K H (f i j) (fd i j)) : OpD X g (intD (fun _ _ => True) fd) := by
  refine ⟨_, h, fun ρ H x y d1 d2 d T h1 h2 hf Q q => ?_⟩
  unfold intD at hf
  split at hf
  · rename_i i j
    rw [if_pos trivial] at hf
    cases hf
    exact ⟨i, j, h1.int, h2.int, q _ H (Xn.refl H) (hd i j _)⟩
  · cases hf
/-- True and False as numbers -/
def bI (b : Bool) : Int := if b = true then 1 else 0
theorem op_add_bi : OpR X (binaryOp .Add) (fun x y H Q => ∃ k j, x = .bl k ∧ y = .int j ∧ Q (.int (bI k + j)) H) := by
  intro pins s σ H x y v u Q I rx ry h
  obtain ⟨k, j, rfl, rfl, q⟩ := h
  cases rx
  obtain ⟨t, rfl⟩ := ry
  exact PySem.IntBool.add_bool_int ⟨.int (bI k + j), H, I.tok _, ⟨_, rfl⟩, q⟩
theorem op_sub_bi : OpR X (binaryOp .Sub) (fun x y H Q => ∃ k j, x = .bl k ∧ y = .int j ∧ Q (.int (bI k - j)) H) := by
  intro pins s σ H x y v u Q I rx ry h
  obtain ⟨k, j, rfl, rfl, q⟩ := h
  cases rx
  obtain ⟨t, rfl⟩ := ry
  exact PySem.IntBool.sub_bool_int ⟨.int (bI k - j), H, I.tok _, ⟨_, rfl⟩, q⟩
def subD : PyData → PyData → Option PyData
  | .int i, .int j => some (.int (i - j))
  | .bool k, .int j => some (.int (bI k - j))
  | _, _ => none
theorem opd_sub : OpD X (binaryOp .Sub) subD := by
  refine ⟨_, OpR.or op_sub op_sub_bi, fun ρ H x y d1 d2 d T h1 h2 hf Q q => ?_⟩
  unfold subD at hf
  split at hf
  · cases hf
    exact .inl ⟨_, _, h1.int, h2.int, q _ H (Xn.refl H) (.int _)⟩
  · cases hf
    exact .inr ⟨_, _, h1.bl, h2.int, q _ H (Xn.refl H) (.int _)⟩
  · cases hf
instance (i j : Int) : Decidable (CMulW i j) := by unfold CMulW; infer_instance
instance (i j : Int) : Decidable (CDivW i j) := by unfold CDivW; infer_instance
instance (i j : Int) : Decidable (CPow i j) := by unfold CPow; infer_instance
abbrev mulD := intD CMulW fun i j => .int (i * j)
theorem opd_mul : OpD X (binaryOp .Mult) mulD := opd_int op_mulW fun _ _ _ => .int _
abbrev modD := intD (fun _ j => 0 < j) fun i j => .int (i % j)
theorem opd_mod : OpD X (binaryOp .Mod) modD := opd_int op_mod fun _ _ _ => .int _
abbrev fdivD := intD CDivW fun i j => .int (i / j)
theorem opd_fdiv : OpD X (binaryOp .FloorDiv) fdivD := opd_int op_fdivW fun _ _ _ => .int _
abbrev powD := intD CPow fun i j => .int (i ^ j.toNat)
theorem opd_pow : OpD X (binaryOp .Pow) powD := opd_int op_pow fun _ _ _ => .int _
abbrev shlD := intD CPow fun i j => .int (i * 2 ^ j.toNat)
theorem opd_shl : OpD X (binaryOp .LShift) shlD := opd_int op_shl fun _ _ _ => .int _

/-- a + b -/
def addD : PyData → PyData → Option PyData
  | .int i, .int j => some (.int (i + j))
  | .str x, .str y => if x.length + y.length ≤ sizeLine then some (.str (x ++ y)) else none
  | .tuple xs, .tuple ys => if xs.length + ys.length ≤ sizeLine then some (.tuple (xs ++ ys)) else none
  | .list xs, .list ys => if xs.length + ys.length ≤ sizeLine then some (.list (xs ++ ys)) else none
  | .bool k, .int j => some (.int (bI k + j))
  | _, _ => none
theorem opd_add : OpD X (binaryOp .Add) addD := by
  refine ⟨_, OpR.or op_add (OpR.or op_add_str (OpR.or op_catA (OpR.or op_cat op_add_bi))), fun ρ H x y d1 d2 d T h1 h2 hf Q q => ?_⟩
  unfold addD at hf
  split at hf
  · cases hf
    exact .inl ⟨_, _, h1.int, h2.int, q _ H (Xn.refl H) (.int _)⟩
  · rename_i u w
    by_cases hz : u.length + w.length ≤ sizeLine
    · rw [if_pos hz] at hf
      cases hf
      exact .inr (.inl ⟨u, w, h1.str, h2.str, hz, q _ H (Xn.refl H) (.str _)⟩)
    · rw [if_neg hz] at hf
      cases hf
  · rename_i us ws
    by_cases hz : us.length + ws.length ≤ sizeLine
    · rw [if_pos hz] at hf
      cases hf
      obtain ⟨a, xs, rfl, s, r⟩ := h1.tup
      obtain ⟨b, ys, rfl, s2, r2⟩ := h2.tup
      refine .inr (.inr (.inl ⟨a, b, xs, ys, rfl, rfl, s, s2, by rw [r.len, r2.len]; exact hz, fun e => ?_, fun _ e => ?_, fun _ _ p hp => ?_⟩))
      · subst e
        cases r
        cases h2 with
        | of h => exact q _ H (Xn.refl H) h
      · subst e
        cases r2
        rw [List.append_nil] at q
        cases h1 with
        | of h => exact q _ H (Xn.refl H) h
      · have x := Xn.new (o := .tup (xs ++ ys)) hp
        exact q _ _ x (.tup (.inl (.inl (by rw [hid_out (T.new hp)]; exact upd_same))) ((r.append r2).mono (x.kp ρ)))
    · rw [if_neg hz] at hf
      cases hf
  · rename_i us ws
    by_cases hz : us.length + ws.length ≤ sizeLine
    · rw [if_pos hz] at hf
      cases hf
      obtain ⟨a, xs, rfl, s, r⟩ := h1.lst
      obtain ⟨b, ys, rfl, s2, r2⟩ := h2.lst
      refine .inr (.inr (.inr (.inl ⟨a, b, xs, ys, rfl, rfl, s, s2, by rw [r.len, r2.len]; exact hz, fun p hp => ?_⟩)))
      have x := Xn.new (o := .lst (xs ++ ys)) hp
      exact q _ _ x (.lst (by rw [hid_out (T.new hp)]; exact upd_same) ((r.append r2).mono (x.kp ρ)))
    · rw [if_neg hz] at hf
      cases hf
  · cases hf
    exact .inr (.inr (.inr (.inr ⟨_, _, h1.bl, h2.int, q _ H (Xn.refl H) (.int _)⟩)))
  · cases hf

/-! ### data without dicts are the library's -/
mutual
theorem Dr.dp {K : Frag} {H : Hp} : ∀ (d : PyData) {v : V}, Dr K H v d → d.canLay0 = true → Dp K H v d
  | .none, _, .non, _ => .non
  | .bool b, _, .bl _, _ => .bl b
  | .int i, _, .int _, _ => .int i
  | .str x, _, .str _, _ => .str x
  | .list ds, _, .lst s r, e => .lst (.inl (.inl s)) (Drs.dp ds r (by simpa only [PyData.canLay0] using e))
  | .tuple ds, _, .tup s r, e => .tup s (Drs.dp ds r (by simpa only [PyData.canLay0] using e))
  | .dict _, _, _, e => by simp [PyData.canLay0] at e
theorem Drs.dp {K : Frag} {H : Hp} : ∀ (ds : List PyData) {vs : List V}, Drs K H vs ds → PyData.canLayAll0 ds = true → DpAll K H vs ds
  | [], _, .nil, _ => .nil
  | d :: ds, _, .cons h t, e => by
    have e' : d.canLay0 = true ∧ PyData.canLayAll0 ds = true := by simpa [PyData.canLayAll0] using e
    exact .cons (Dr.dp d h e'.1) (Drs.dp ds t e'.2)
end
theorem Dv.dp {K : Frag} {ρ : List Addr} {H : Hp} {v : V} {d : PyData} (h : Dv K ρ H v d) (e : d.canLay0 = true) : Dp K H v d := by
  cases h with
  | of h => exact Dr.dp d h.full e
  | own s r => exact .lst (.inl (.inl s)) (Drs.dp _ (r.mono (hid_le ρ H)) (by simpa only [PyData.canLay0] using e))
  | ownD s l r => simp [PyData.canLay0] at e
/-- a == b, a != b -/
def eqD (d e : PyData) : Option PyData := if (SeqAt.shaped d && SeqAt.shaped e) = true then some (.bool (PyData.eqv d e)) else none
def neD (d e : PyData) : Option PyData := if (SeqAt.shaped d && SeqAt.shaped e) = true then some (.bool (!PyData.eqv d e)) else none
theorem opd_eq (hu : X.A.units + 64 < cLine) : OpD X (compareOp .Eq) eqD := by
  refine ⟨_, op_eqD hu, fun ρ H x y d1 d2 d T h1 h2 hf Q q => ?_⟩
  unfold eqD at hf
  by_cases hz : (SeqAt.shaped d1 && SeqAt.shaped d2) = true
  · rw [if_pos hz] at hf
    cases hf
    have z := Bool.and_eq_true_iff.mp hz
    exact ⟨d1, d2, h1.dp (SeqAt.canLay_of_shaped z.1), h2.dp (SeqAt.canLay_of_shaped z.2), z.1, z.2, q _ H (Xn.refl H) (.bl _)⟩
  · rw [if_neg hz] at hf
    cases hf
theorem opd_ne (hu : X.A.units + 64 < cLine) : OpD X (compareOp .NotEq) neD := by
  refine ⟨_, op_neD hu, fun ρ H x y d1 d2 d T h1 h2 hf Q q => ?_⟩
  unfold neD at hf
  by_cases hz : (SeqAt.shaped d1 && SeqAt.shaped d2) = true
  · rw [if_pos hz] at hf
    cases hf
    have z := Bool.and_eq_true_iff.mp hz
    exact ⟨d1, d2, h1.dp (SeqAt.canLay_of_shaped z.1), h2.dp (SeqAt.canLay_of_shaped z.2), z.1, z.2, q _ H (Xn.refl H) (.bl _)⟩
  · rw [if_neg hz] at hf
    cases hf

/-! ### order: ints, texts -/
def ltD : PyData → PyData → Option PyData
  | .int i, .int j => some (.bool (decide (i < j)))
  | .str x, .str y => some (.bool (decide (x.cps.toList < y.cps.toList)))
  | _, _ => none
def leD : PyData → PyData → Option PyData
  | .int i, .int j => some (.bool (decide (i ≤ j)))
  | .str x, .str y => some (.bool (!decide (y.cps.toList < x.cps.toList)))
  | _, _ => none
def gtD : PyData → PyData → Option PyData
  | .int i, .int j => some (.bool (decide (j < i)))
  | .str x, .str y => some (.bool (decide (y.cps.toList < x.cps.toList)))
  | _, _ => none
def geD : PyData → PyData → Option PyData
  | .int i, .int j => some (.bool (decide (j ≤ i)))
  | .str x, .str y => some (.bool (!decide (x.cps.toList < y.cps.toList)))
  | _, _ => none
theorem opd_lt : OpD X (compareOp .Lt) ltD := by
  refine ⟨_, OpR.or op_lt op_lt_str, fun ρ H x y d1 d2 d T h1 h2 hf Q q => ?_⟩
  unfold ltD at hf
  split at hf
  · cases hf; exact .inl ⟨_, _, h1.int, h2.int, q _ H (Xn.refl H) (.bl _)⟩
  · cases hf; exact .inr ⟨_, _, h1.str, h2.str, q _ H (Xn.refl H) (.bl _)⟩
  · cases hf
theorem opd_le : OpD X (compareOp .LtE) leD := by
  refine ⟨_, OpR.or op_le op_le_str, fun ρ H x y d1 d2 d T h1 h2 hf Q q => ?_⟩
  unfold leD at hf
  split at hf
  · cases hf; exact .inl ⟨_, _, h1.int, h2.int, q _ H (Xn.refl H) (.bl _)⟩
  · cases hf; exact .inr ⟨_, _, h1.str, h2.str, q _ H (Xn.refl H) (.bl _)⟩
  · cases hf
theorem opd_gt : OpD X (compareOp .Gt) gtD := by
  refine ⟨_, OpR.or op_gt op_gt_str, fun ρ H x y d1 d2 d T h1 h2 hf Q q => ?_⟩
  unfold gtD at hf
  split at hf
  · cases hf; exact .inl ⟨_, _, h1.int, h2.int, q _ H (Xn.refl H) (.bl _)⟩
  · cases hf; exact .inr ⟨_, _, h1.str, h2.str, q _ H (Xn.refl H) (.bl _)⟩
  · cases hf
theorem opd_ge : OpD X (compareOp .GtE) geD := by
  refine ⟨_, OpR.or op_ge op_ge_str, fun ρ H x y d1 d2 d T h1 h2 hf Q q => ?_⟩
  unfold geD at hf
  split at hf
  · cases hf; exact .inl ⟨_, _, h1.int, h2.int, q _ H (Xn.refl H) (.bl _)⟩
  · cases hf; exact .inr ⟨_, _, h1.str, h2.str, q _ H (Xn.refl H) (.bl _)⟩
  · cases hf

/-! ### is True, is False, is None -/
def isB (b : Bool) : PyData → Bool
  | .bool c => decide (c = b)
  | _ => false
def isN : PyData → Bool
  | .none => true
  | _ => false
/-- the second is a truth or None -/
def isD (d : PyData) : PyData → Option PyData
  | .bool b => some (.bool (isB b d))
  | .none => some (.bool (isN d))
  | _ => none
def isntD (d : PyData) : PyData → Option PyData
  | .bool b => some (.bool (!isB b d))
  | .none => some (.bool (!isN d))
  | _ => none
theorem plain_of {x : V} {v : Value} (b : Bool) (r : RelV x v) : plainIs v (.bool b) = true := by
  cases x with
  | bl c => cases r; rfl
  | non => cases r; rfl
  | int i => obtain ⟨t, rfl⟩ := r; rfl
  | str i => obtain ⟨t, rfl⟩ := r; rfl
  | byt i => obtain ⟨t, rfl⟩ := r; rfl
  | flt i => obtain ⟨t, rfl⟩ := r; rfl
  | ref i => cases r; rfl
  | ty i => cases r; rfl
/-- what x is, beside the value y -/
def sameV (x y : V) : Bool := match y with
  | .bl b => match x with | .bl c => decide (c = b) | _ => false
  | _ => match x with | .non => true | _ => false
def rIsV : R2 := fun x y H Q => ((∃ b, y = .bl b) ∨ y = .non) ∧ Q (.bl (sameV x y)) H
def rIsntV : R2 := fun x y H Q => ((∃ b, y = .bl b) ∨ y = .non) ∧ Q (.bl (!sameV x y)) H
theorem relV_bool {x : V} {v : Value} {b : Bool} (r : RelV x v) : (v == Value.bool b) = sameV x (.bl b) := by
  cases x with
  | bl c =>
    cases r
    show (Value.bool c == Value.bool b) = decide (c = b)
    by_cases e : c = b
    · subst e; simp
    · have n : ¬ Value.bool c = Value.bool b := fun z => e (Value.bool.inj z)
      rw [decide_eq_false e]
      exact beq_eq_false_iff_ne.mpr n
  | non => cases r; rfl
  | int i => obtain ⟨t, rfl⟩ := r; rfl
  | str i => obtain ⟨t, rfl⟩ := r; rfl
  | byt i => obtain ⟨t, rfl⟩ := r; rfl
  | flt i => obtain ⟨t, rfl⟩ := r; rfl
  | ref i => cases r; rfl
  | ty i => cases r; rfl
theorem op_isV : OpR X (compareOp .Is) rIsV := by
  intro pins s σ H x y v u Q I rx ry h
  obtain ⟨hy, q⟩ := h
  rcases hy with ⟨b, rfl⟩ | rfl
  · cases (show u = Value.bool b from ry)
    refine wpAny_is_plain (plain_of b rx) ?_
    rw [relV_bool rx]
    exact ⟨.bl _, H, I, rfl, q⟩
  · have h2 : (x = .non ∧ sameV x .non = true) ∨ (x ≠ .non ∧ sameV x .non = false) := by cases x <;> simp [sameV]
    refine op_isN pins s σ H x .non v u Q I rx ry ⟨rfl, ?_⟩
    rcases h2 with ⟨e1, e2⟩ | ⟨e1, e2⟩
    · rw [e2] at q; rw [decide_eq_true e1]; exact q
    · rw [e2] at q; rw [decide_eq_false e1]; exact q
theorem op_isntV : OpR X (compareOp .IsNot) rIsntV := by
  intro pins s σ H x y v u Q I rx ry h
  obtain ⟨hy, q⟩ := h
  rcases hy with ⟨b, rfl⟩ | rfl
  · cases (show u = Value.bool b from ry)
    refine wpAny_isNot_plain (plain_of b rx) ?_
    rw [relV_bool rx]
    exact ⟨.bl _, H, I, rfl, q⟩
  · have h2 : (x = .non ∧ sameV x .non = true) ∨ (x ≠ .non ∧ sameV x .non = false) := by cases x <;> simp [sameV]
    refine op_notN pins s σ H x .non v u Q I rx ry ⟨rfl, ?_⟩
    rcases h2 with ⟨e1, e2⟩ | ⟨e1, e2⟩
    · rw [e2] at q; rw [decide_eq_true e1]; exact q
    · rw [e2] at q; rw [decide_eq_false e1]; exact q
theorem same_d {K : Frag} {ρ : List Addr} {H : Hp} {x : V} {d : PyData} (h : Dv K ρ H x d) (b : Bool) : sameV x (.bl b) = isB b d := by
  cases d with
  | none => rw [h.non]; rfl
  | bool c => rw [h.bl]; rfl
  | int i => rw [h.int]; rfl
  | str i => rw [h.str]; rfl
  | list ds => obtain ⟨a, xs, rfl, _⟩ := h.lst; rfl
  | tuple ds => obtain ⟨a, xs, rfl, _⟩ := h.tup; rfl
  | dict ds =>
    cases h with
    | of h => cases h; rfl
    | ownD => rfl
theorem same_n {K : Frag} {ρ : List Addr} {H : Hp} {x : V} {d : PyData} (h : Dv K ρ H x d) : sameV x .non = isN d := by
  cases d with
  | none => rw [h.non]; rfl
  | bool c => rw [h.bl]; rfl
  | int i => rw [h.int]; rfl
  | str i => rw [h.str]; rfl
  | list ds => obtain ⟨a, xs, rfl, _⟩ := h.lst; rfl
  | tuple ds => obtain ⟨a, xs, rfl, _⟩ := h.tup; rfl
  | dict ds =>
    cases h with
    | of h => cases h; rfl
    | ownD => rfl
theorem opd_is : OpD X (compareOp .Is) isD := by
  refine ⟨_, op_isV, fun ρ H x y d1 d2 d T h1 h2 hf Q q => ?_⟩
  unfold isD at hf
  split at hf
  · rename_i b
    cases hf
    have e := h2.bl
    subst e
    exact ⟨.inl ⟨b, rfl⟩, by rw [same_d h1 b]; exact q _ H (Xn.refl H) (.bl _)⟩
  · cases hf
    have e := h2.non
    subst e
    exact ⟨.inr rfl, by rw [same_n h1]; exact q _ H (Xn.refl H) (.bl _)⟩
  · cases hf
theorem opd_isnt : OpD X (compareOp .IsNot) isntD := by
  refine ⟨_, op_isntV, fun ρ H x y d1 d2 d T h1 h2 hf Q q => ?_⟩
  unfold isntD at hf
  split at hf
  · rename_i b
    cases hf
    have e := h2.bl
    subst e
    refine ⟨.inl ⟨b, rfl⟩, ?_⟩
    rw [same_d h1 b]
    exact q _ H (Xn.refl H) (.bl _)
  · cases hf
    have e := h2.non
    subst e
    refine ⟨.inr rfl, ?_⟩
    rw [same_n h1]
    exact q _ H (Xn.refl H) (.bl _)
  · cases hf

/-! ### in, not in: a sequence of data, a text -/
def inB : PyData → PyData → Option Bool
  | d, .list ds => if (SeqAt.shaped d && SeqAt.shaped (.list ds)) = true then some (ds.any fun z => PyData.eqv z d) else none
  | d, .tuple ds => if (SeqAt.shaped d && SeqAt.shaped (.tuple ds)) = true then some (ds.any fun z => PyData.eqv z d) else none
  | .str x, .str y => match x.cps.toList with
    | [c] => some (decide (c ∈ y.cps.toList))
    | _ => none
  | _, _ => none
def inD (d e : PyData) : Option PyData := (inB d e).map .bool
def ninD (d e : PyData) : Option PyData := (inB d e).map fun b => .bool (!b)
def rInT (K : Frag) (n : Bool) : R2 := fun x y H Q => ∃ d ds, Dp K H x d ∧ Dp K H y (.tuple ds) ∧ SeqAt.shaped d = true ∧ SeqAt.shaped (.tuple ds) = true ∧ Q (.bl (if n then !(ds.any fun z => PyData.eqv z d) else ds.any fun z => PyData.eqv z d)) H
theorem op_inT (hu : X.A.units + 65 < cLine) : OpR X (compareOp .In) (rInT X.K false) := by
  intro pins s σ H x y v u Q I rx ry h
  obtain ⟨d, ds, hd, he, sd, se, q⟩ := h
  obtain ⟨as, r1⟩ := Dp.reads I d x v hd rx
  obtain ⟨bs, r2⟩ := Dp.reads I (.tuple ds) y u he ry
  refine SeqAt.in_tuple_reads r2 r1 (SeqAt.canLay_of_shaped se) (SeqAt.canLay_of_shaped sd) ?_ ⟨.bl _, H, I, rfl, q⟩
  have := SeqAt.depth_of_shaped sd
  omega
theorem op_ninT (hu : X.A.units + 65 < cLine) : OpR X (compareOp .NotIn) (rInT X.K true) := by
  intro pins s σ H x y v u Q I rx ry h
  obtain ⟨d, ds, hd, he, sd, se, q⟩ := h
  obtain ⟨as, r1⟩ := Dp.reads I d x v hd rx
  obtain ⟨bs, r2⟩ := Dp.reads I (.tuple ds) y u he ry
  refine SeqAt.notIn_tuple_reads r2 r1 (SeqAt.canLay_of_shaped se) (SeqAt.canLay_of_shaped sd) ?_ ⟨.bl _, H, I, rfl, q⟩
  have := SeqAt.depth_of_shaped sd
  omega
theorem opd_in (hu : X.A.units + 65 < cLine) : OpD X (compareOp .In) inD := by
  refine ⟨_, OpR.or (op_inD hu) (OpR.or (op_inT hu) op_in_sign), fun ρ H x y d1 d2 d T h1 h2 hf Q q => ?_⟩
  unfold inD at hf
  cases hb : inB d1 d2 with
  | none => rw [hb] at hf; cases hf
  | some b =>
    rw [hb] at hf
    cases hf
    unfold inB at hb
    split at hb
    · rename_i ds
      by_cases hz : (SeqAt.shaped d1 && SeqAt.shaped (.list ds)) = true
      · rw [if_pos hz] at hb
        cases hb
        have z := Bool.and_eq_true_iff.mp hz
        exact .inl ⟨d1, ds, h1.dp (SeqAt.canLay_of_shaped z.1), h2.dp (SeqAt.canLay_of_shaped z.2), z.1, z.2, q _ H (Xn.refl H) (.bl _)⟩
      · rw [if_neg hz] at hb; cases hb
    · rename_i ds
      by_cases hz : (SeqAt.shaped d1 && SeqAt.shaped (.tuple ds)) = true
      · rw [if_pos hz] at hb
        cases hb
        have z := Bool.and_eq_true_iff.mp hz
        exact .inr (.inl ⟨d1, ds, h1.dp (SeqAt.canLay_of_shaped z.1), h2.dp (SeqAt.canLay_of_shaped z.2), z.1, z.2, q _ H (Xn.refl H) (.bl _)⟩)
      · rw [if_neg hz] at hb; cases hb
    · rename_i u w
      split at hb
      · rename_i c hc
        cases hb
        have e : u = ⟨#[c]⟩ := by
          obtain ⟨cps⟩ := u
          have : cps = #[c] := by
            apply Array.ext'
            simpa using hc
          rw [this]
        subst e
        exact .inr (.inr ⟨c, w, h1.str, h2.str, q _ H (Xn.refl H) (.bl _)⟩)
      · cases hb
    · cases hb
theorem opd_nin (hu : X.A.units + 65 < cLine) : OpD X (compareOp .NotIn) ninD := by
  refine ⟨_, OpR.or (op_notInD hu) (OpR.or (op_ninT hu) op_notIn_sign), fun ρ H x y d1 d2 d T h1 h2 hf Q q => ?_⟩
  unfold ninD at hf
  cases hb : inB d1 d2 with
  | none => rw [hb] at hf; cases hf
  | some b =>
    rw [hb] at hf
    cases hf
    unfold inB at hb
    split at hb
    · rename_i ds
      by_cases hz : (SeqAt.shaped d1 && SeqAt.shaped (.list ds)) = true
      · rw [if_pos hz] at hb
        cases hb
        have z := Bool.and_eq_true_iff.mp hz
        exact .inl ⟨d1, ds, h1.dp (SeqAt.canLay_of_shaped z.1), h2.dp (SeqAt.canLay_of_shaped z.2), z.1, z.2, q _ H (Xn.refl H) (.bl _)⟩
      · rw [if_neg hz] at hb; cases hb
    · rename_i ds
      by_cases hz : (SeqAt.shaped d1 && SeqAt.shaped (.tuple ds)) = true
      · rw [if_pos hz] at hb
        cases hb
        have z := Bool.and_eq_true_iff.mp hz
        exact .inr (.inl ⟨d1, ds, h1.dp (SeqAt.canLay_of_shaped z.1), h2.dp (SeqAt.canLay_of_shaped z.2), z.1, z.2, q _ H (Xn.refl H) (.bl _)⟩)
      · rw [if_neg hz] at hb; cases hb
    · rename_i u w
      split at hb
      · rename_i c hc
        cases hb
        have e : u = ⟨#[c]⟩ := by
          obtain ⟨cps⟩ := u
          have : cps = #[c] := by
            apply Array.ext'
            simpa using hc
          rw [this]
        subst e
        exact .inr (.inr ⟨c, w, h1.str, h2.str, q _ H (Xn.refl H) (.bl _)⟩)
      · cases hb
    · cases hb

/-! ### unary minus -/
def UnD (X : Cx) (g : Value → Sem Value) (f : PyData → Option PyData) : Prop :=
  ∃ r : V → Hp → VK → Prop, UnR X g r ∧ ∀ (ρ : List Addr) (H : Hp) (x : V) (d1 d : PyData), Tk ρ H → Dv X.K ρ H x d1 → f d1 = some d → ∀ Q : VK, (∀ v H', Xn H H' → Dr X.K (hid ρ H') v d → Q v H') → r x H Q
def mUn (f : PyData → Option PyData) (ma : ME) : ME := fun env st => (ma env st).bind fun a st1 => match val st1 a with
  | some x => R.opt ((f x).map D.dat) st1
  | none => .bad
theorem pd_un {tb : List Addr} {pos : Pos} {a : Expr} {ma : ME} {op : UnaryOp} {f : PyData → Option PyData} (ho : UnD X (unaryOp op) f) (ha : PD X tb a ma) : PD X tb (.UnaryOp op a pos) (mUn f ma) := by
  obtain ⟨r, hr, hd⟩ := ho
  obtain ⟨ta, pa, sa⟩ := ha
  refine ⟨_, pe_un hr pa, ?_⟩
  intro σ H ρ st env E S d st' h Q q
  obtain ⟨da, st1, ha, h⟩ := R.bind_ok h
  refine sa σ H ρ st env E S da st1 ha _ fun va H1 k1 r1 S1 => ?_
  cases e1 : val st1 da with
  | none => rw [e1] at h; cases h
  | some x =>
    rw [e1] at h
    replace h := R.opt_ok h
    obtain ⟨h, rfl⟩ := h
    cases hf : f x with
    | none => rw [hf] at h; cases h
    | some z =>
      rw [hf] at h
      cases h
      exact hd ρ H1 va x z S1.tks (RD.dv S1 r1 e1) hf Q fun v H3 x3 r3 => q v H3 (k1.trans (x3.kp ρ)) r3 (S1.xn x3)
theorem un_neg_b : UnR X (unaryOp .USub) (fun x H Q => ∃ k, x = .bl k ∧ Q (.int (-bI k)) H) := by
  intro pins s σ H x v Q I rx h
  obtain ⟨k, rfl, q⟩ := h
  cases rx
  have g : PySem.Gives (Builtin.«int.__neg__» ⟨[.bool k], []⟩) (.int (-bI k)) := by cases k <;> exact .of_eq rfl
  exact PySem.unaryOp_gives (op := .USub) (T := "bool") rfl rfl F.slot_bool_neg F.entry_int_neg (F.args_int_neg_1 _) g ⟨.int (-bI k), H, I.tok _, ⟨_, rfl⟩, q⟩
theorem UnR.or {f : Value → Sem Value} {r1 r2 : V → Hp → VK → Prop} (h1 : UnR X f r1) (h2 : UnR X f r2) : UnR X f fun x H Q => r1 x H Q ∨ r2 x H Q := fun pins s σ H x v Q I rx h =>
  h.elim (fun z => h1 pins s σ H x v Q I rx z) fun z => h2 pins s σ H x v Q I rx z
def negD : PyData → Option PyData
  | .int i => some (.int (-i))
  | .bool k => some (.int (-bI k))
  | _ => none
theorem und_neg : UnD X (unaryOp .USub) negD := by
  refine ⟨_, UnR.or un_neg un_neg_b, fun ρ H x d1 d T h1 hf Q q => ?_⟩
  unfold negD at hf
  split at hf
  · cases hf; exact .inl ⟨_, h1.int, q _ H (Xn.refl H) (.int _)⟩
  · cases hf; exact .inr ⟨_, h1.bl, q _ H (Xn.refl H) (.int _)⟩
  · cases hf
end
end Pd

set_option Elab.async false
set_option linter.all false
set_option maxRecDepth 100000
set_option maxHeartbeats 2000000
/-! Pd5: statements, loops. -/
namespace Pd
open PySem L2

/-- behind statements: new things may be registered -/
structure Kx (ρ ρ' : List Addr) (H H' : Hp) : Prop where
  pre : ∃ ν, ρ' = ρ ++ ν ∧ ∀ a ∈ ν, H a = none
  kp : Kp ρ H H'
theorem Kx.refl (ρ : List Addr) (H : Hp) : Kx ρ ρ H H := ⟨⟨[], by simp, fun a h => by cases h⟩, Kp.refl ρ H⟩
theorem Kx.of {ρ : List Addr} {H H' : Hp} (k : Kp ρ H H') : Kx ρ ρ H H' := ⟨⟨[], by simp, fun a h => by cases h⟩, k⟩
theorem Kx.xt {ρ ρ' : List Addr} {H H' : Hp} (k : Kx ρ ρ' H H') : Xt (hid ρ H) (hid ρ' H') := by
  obtain ⟨ν, rfl, hn⟩ := k.pre
  have out : ∀ {a : Addr} {o : HO}, hid ρ H a = some o → a ∉ ρ ++ ν := fun {a o} e z => by
    obtain ⟨h1, h2⟩ := hid_some e
    rcases List.mem_append.mp z with z | z
    · exact h1 z
    · rw [hn a z] at h2
      cases h2
  refine ⟨fun a o e n => ?_, fun a q e => ?_⟩
  · have h3 := k.kp.keep a o e n
    rw [hid_out (out e)]
    exact (hid_some h3).2
  · obtain ⟨q', h3, t⟩ := k.kp.tab a q e
    exact ⟨q', by rw [hid_out (out e)]; exact (hid_some h3).2, t⟩
theorem Kx.trans {ρ ρ1 ρ2 : List Addr} {H H1 H2 : Hp} (a : Kx ρ ρ1 H H1) (b : Kx ρ1 ρ2 H1 H2) (t : Tk ρ1 H1) : Kx ρ ρ2 H H2 := by
  obtain ⟨ν1, e1, n1⟩ := a.pre
  obtain ⟨ν2, e2, n2⟩ := b.pre
  have x1 := a.xt
  have x2 := b.xt
  subst e1
  subst e2
  refine ⟨⟨ν1 ++ ν2, by rw [List.append_assoc], fun c hc => ?_⟩, ?_⟩
  · rcases List.mem_append.mp hc with z | z
    · exact n1 c z
    · have h1 := n2 c z
      have h2 : c ∉ ρ := fun y => t c (List.mem_append_left _ y) h1
      exact a.kp.fresh h2 h1
  · refine ⟨fun c o e n => ?_, fun c q e => ?_⟩
    · have h3 := (x1.trans x2).keep c o e n
      obtain ⟨h4, h5⟩ := hid_some h3
      rw [hid_out (hid_some e).1]
      exact h5
    · obtain ⟨q', h3, tq⟩ := (x1.trans x2).tab c q e
      exact ⟨q', by rw [hid_out (hid_some e).1]; exact (hid_some h3).2, tq⟩
theorem RD.kx {K : Frag} {ρ ρ' : List Addr} {H H' : Hp} (k : Kx ρ ρ' H H') {v : V} {d : D} (h : RD K ρ H v d) : RD K ρ' H' v d := by
  cases d with
  | dat d => exact Dr.mono k.xt h
  | ref n =>
    obtain ⟨ν, rfl, _⟩ := k.pre
    obtain ⟨a, e, q⟩ := h
    obtain ⟨hl, _⟩ := List.getElem?_eq_some_iff.mp e
    exact ⟨a, by rw [List.getElem?_append_left hl]; exact e, q⟩
  | scr ns =>
    obtain ⟨a, e, q⟩ := h
    exact ⟨a, e, k.xt.sqL q⟩
theorem ER.kx {K : Frag} {ρ ρ' : List Addr} {H H' : Hp} (k : Kx ρ ρ' H H') {σ : St} {env : Env} (h : ER K ρ H σ env) : ER K ρ' H' σ env :=
  ⟨h.len, fun i d e => by
    obtain ⟨v, e1, r⟩ := h.get i d e
    exact ⟨v, e1, r.kx k⟩⟩

/-! ### statements' outcomes -/
inductive RS where
  | next (env : Env) (st : Sto)
  | ret (d : D) (st : Sto)
  | retN (ds : List PyData) (st : Sto)
  | brk (env : Env) (st : Sto)
  | cnt (env : Env) (st : Sto)
  | exc (c : Str) (fs : List PyData) (st : Sto)
  | bad
abbrev MS := Env → Sto → RS
def Fin (K : Frag) (tb ρ : List Addr) (H : Hp) (D : Ends) : RS → Prop
  | .next env st => ∀ σ' H' ρ', Kx ρ ρ' H H' → ER K ρ' H' σ' env → SR K tb ρ' H' st → D.nx σ' H'
  | .ret d st => ∀ v H' ρ', Kx ρ ρ' H H' → RD K ρ' H' v d → SR K tb ρ' H' st → D.rt v H'
  | .retN ds st => ∀ a xs H' ρ', Kx ρ ρ' H (wo a H') → H a = none → a ∉ ρ' → H' a = some (.lst xs) → Drs K (hid ρ' (wo a H')) xs ds → SR K tb ρ' (wo a H') st → D.rt (.ref a) H'
  | .brk env st => ∀ σ' H' ρ', Kx ρ ρ' H H' → ER K ρ' H' σ' env → SR K tb ρ' H' st → D.bk σ' H'
  | .cnt env st => ∀ σ' H' ρ', Kx ρ ρ' H H' → ER K ρ' H' σ' env → SR K tb ρ' H' st → D.ct σ' H'
  | .exc _ _ _ => False
  | .bad => False
theorem Fin.kx {K : Frag} {tb ρ ρ1 : List Addr} {H H1 : Hp} {D : Ends} {r : RS} (k : Kx ρ ρ1 H H1) (t : Tk ρ1 H1) (h : Fin K tb ρ H D r) : Fin K tb ρ1 H1 D r := by
  cases r with
  | next env st => exact fun σ' H' ρ' k' E S => h σ' H' ρ' (k.trans k' t) E S
  | ret d st => exact fun v H' ρ' k' r S => h v H' ρ' (k.trans k' t) r S
  | retN ds st =>
    intro a xs H' ρ' k' n na e r S
    have na1 : a ∉ ρ1 := fun z => t a z n
    refine h a xs H' ρ' (k.trans k' t) (k.kp.fresh ?_ n) na e r S
    obtain ⟨ν, rfl, _⟩ := k.pre
    exact fun z => na1 (List.mem_append_left _ z)
  | brk env st => exact fun σ' H' ρ' k' E S => h σ' H' ρ' (k.trans k' t) E S
  | cnt env st => exact fun σ' H' ρ' k' E S => h σ' H' ρ' (k.trans k' t) E S
  | exc c fs st => exact h
  | bad => exact h
theorem Fin.kp {K : Frag} {tb ρ : List Addr} {H H1 : Hp} {D : Ends} {r : RS} (k : Kp ρ H H1) (t : Tk ρ H1) (h : Fin K tb ρ H D r) : Fin K tb ρ H1 D r := h.kx (.of k) t
def TellsS (K : Frag) (tb : List Addr) (t : TS) (m : MS) : Prop := ∀ (σ : St) (H : Hp) (ρ : List Addr) (st : Sto) (env : Env), ER K ρ H σ env → SR K tb ρ H st → ∀ D : Ends, Fin K tb ρ H D (m env st) → t D σ H
def PDS (X : Cx) (tb : List Addr) (s : Stmt) (m : MS) : Prop := ∃ t, PS X s t ∧ TellsS X.K tb t m
def PDB (X : Cx) (tb : List Addr) (s : List Stmt) (m : MS) : Prop := ∃ t, PSs X s t ∧ TellsS X.K tb t m
def RS.of {α : Type} (r : R α) (f : α → Sto → RS) : RS := match r with
  | .ok a st => f a st
  | .exc c fs st => .exc c fs st
  | .bad => .bad
theorem Fin.of_ok {α : Type} {K : Frag} {tb ρ : List Addr} {H : Hp} {D : Ends} {r : R α} {f : α → Sto → RS} (h : Fin K tb ρ H D (RS.of r f)) : ∃ a st, r = .ok a st ∧ Fin K tb ρ H D (f a st) := by
  cases r with
  | ok a st => exact ⟨a, st, rfl, h⟩
  | exc c fs st => exact False.elim h
  | bad => exact False.elim h

section
variable {X : Cx} {tb : List Addr} {pos : Pos} {a b c e : Expr} {s : Stmt} {rest : List Stmt} {ma mb : ME} {m n : MS}
def mSkip : MS := fun env st => .next env st
def mSeq (m n : MS) : MS := fun env st => match m env st with
  | .next env' st' => n env' st'
  | r => r
theorem pdb_nil : PDB X tb [] mSkip := ⟨_, pss_nil, fun σ H ρ st env E S D h => h σ H ρ (Kx.refl ρ H) E S⟩
theorem pdb_one (h : PDS X tb s m) : PDB X tb [s] m := by
  obtain ⟨t, p, q⟩ := h
  exact ⟨_, pss_one p, q⟩
theorem pdb_cons (h : PDS X tb s m) (h2 : PDB X tb rest n) : PDB X tb (s :: rest) (mSeq m n) := by
  obtain ⟨t, p, q⟩ := h
  obtain ⟨u, p2, q2⟩ := h2
  refine ⟨_, pss_cons p p2, fun σ H ρ st env E S D hF => ?_⟩
  refine q σ H ρ st env E S _ ?_
  cases hm : m env st with
  | next env' st' =>
    intro σ' H' ρ' k E' S'
    simp only [mSeq, hm] at hF
    exact q2 σ' H' ρ' st' env' E' S' D (hF.kx k S'.tks)
  | ret d st' => simp only [mSeq, hm] at hF; exact hF
  | retN d st' => simp only [mSeq, hm] at hF; exact hF
  | brk d st' => simp only [mSeq, hm] at hF; exact hF
  | cnt d st' => simp only [mSeq, hm] at hF; exact hF
  | exc c fs st' => simp only [mSeq, hm] at hF; exact hF
  | bad => simp only [mSeq, hm] at hF; exact hF
/-- name = value -/
def mSet (i : Nat) (ma : ME) : MS := fun env st => RS.of (ma env st) fun d st1 => .next (env.set i (some d)) st1
theorem pds_set {i : Nat} {x : Str} {pos' : Pos} (hN : X.N.Nodup) (hi : X.N[i]? = some x) (hx : Loc X.env.scope x) (he : PD X tb e ma) (hs : swapsWith e (some (.Name x pos')) pos.line X.env = pure false := by rfl) (hf : X.fn x = true ∨ X.env.scope.names.lookup x = some .local := by first | exact .inl rfl | exact .inr rfl | assumption) :
    PDS X tb (.Assign [.Name x pos'] e pos) (mSet i ma) := by
  obtain ⟨t, p, q⟩ := he
  refine ⟨_, ps_set hN hi hx p hs hf, fun σ H ρ st env E S D hF => ?_⟩
  obtain ⟨d, st1, h1, hF⟩ := hF.of_ok
  exact q σ H ρ st env E S d st1 h1 _ fun v H1 k1 r1 S1 => hF _ H1 ρ (.of k1) ((E.mono k1).set r1 i) S1
/-- name = a new list, registered -/
def mReg (i : Nat) (m : MN) : MS := fun env st => RS.of (m env st) fun ds st1 => .next (env.set i (some (.ref st1.length))) (st1 ++ [.lst ds])
theorem hid_reg {ρ : List Addr} {a : Addr} {H : Hp} : hid (ρ ++ [a]) H = hid ρ (wo a H) := by
  funext b
  by_cases e : b = a
  · subst e
    rw [hid_in (List.mem_append_right _ (List.mem_singleton.mpr rfl))]
    by_cases e2 : b ∈ ρ
    · rw [hid_in e2]
    · rw [hid_out e2, wo_same]
  · by_cases e2 : b ∈ ρ
    · rw [hid_in (List.mem_append_left _ e2), hid_in e2]
    · have n : b ∉ ρ ++ [a] := fun z => by
        rcases List.mem_append.mp z with z | z
        · exact e2 z
        · exact e (List.mem_singleton.mp z)
      rw [hid_out n, hid_out e2, wo_ne e]
theorem SR.reg {K : Frag} {ρ : List Addr} {H : Hp} {st : Sto} {a : Addr} {xs : List V} {ds : List PyData} (S : SR K tb ρ (wo a H) st) (na : a ∉ ρ) (h : H a = some (.lst xs)) (r : Drs K (hid ρ (wo a H)) xs ds) : SR K tb (ρ ++ [a]) H (st ++ [.lst ds]) := by
  have x := wo_xn a H
  refine ⟨by rw [List.length_append, List.length_append, S.len] <;> rfl, ?_, fun n b o h1 h2 => ?_, fun P hP => ?_⟩
  · rw [List.nodup_append]
    refine ⟨S.nd, by simp, fun b hb c hc => ?_⟩
    rw [List.mem_singleton.mp hc]
    exact fun z => na (z ▸ hb)
  · by_cases hn : n < ρ.length
    · rw [List.getElem?_append_left hn] at h1
      rw [List.getElem?_append_left (by rw [← S.len]; exact hn)] at h2
      have q := S.obj n b o h1 h2
      cases o with
      | lst es =>
        obtain ⟨ys, e1, e2⟩ := q
        exact ⟨ys, x b _ e1, by rw [hid_reg]; exact e2⟩
      | dic ks es =>
        obtain ⟨ys, e1, l, e2⟩ := q
        exact ⟨ys, x b _ e1, l, by rw [hid_reg]; exact e2⟩
    · have hn2 : n = ρ.length := by
        obtain ⟨hl, _⟩ := List.getElem?_eq_some_iff.mp h1
        rw [List.length_append, List.length_singleton] at hl
        omega
      subst hn2
      rw [List.getElem?_append_right (Nat.le_refl _), Nat.sub_self] at h1
      rw [S.len, List.getElem?_append_right (Nat.le_refl _), Nat.sub_self] at h2
      cases h1
      cases h2
      exact ⟨xs, h, by rw [hid_reg]; exact r⟩
  · obtain ⟨ps, e, t⟩ := S.tab P hP
    exact ⟨ps, x P _ e, t⟩
theorem ER.reg {K : Frag} {ρ : List Addr} {H : Hp} {σ : St} {env : Env} {a : Addr} (E : ER K ρ (wo a H) σ env) : ER K (ρ ++ [a]) H σ env :=
  ⟨E.len, fun i d e => by
    obtain ⟨v, e1, r⟩ := E.get i d e
    refine ⟨v, e1, ?_⟩
    cases d with
    | dat d => show Dr K (hid (ρ ++ [a]) H) v d; rw [hid_reg]; exact r
    | ref n =>
      obtain ⟨b, h1, h2⟩ := r
      obtain ⟨hl, _⟩ := List.getElem?_eq_some_iff.mp h1
      exact ⟨b, by rw [List.getElem?_append_left hl]; exact h1, h2⟩
    | scr ns =>
      obtain ⟨b, h1, h2⟩ := r
      exact ⟨b, h1, by rw [hid_reg]; exact h2⟩⟩
theorem Kx.reg {ρ : List Addr} {H H' : Hp} {a : Addr} (k : Kp ρ H (wo a H')) (n : H a = none) : Kx ρ (ρ ++ [a]) H H' :=
  ⟨⟨[a], rfl, fun b hb => by rw [List.mem_singleton.mp hb]; exact n⟩, Xt.trans k ((wo_xn a H').kp ρ)⟩
theorem pds_reg {i : Nat} {x : Str} {pos' : Pos} {m : MN} (hN : X.N.Nodup) (hi : X.N[i]? = some x) (hx : Loc X.env.scope x) (he : PDN X tb e m) (hs : swapsWith e (some (.Name x pos')) pos.line X.env = pure false := by rfl) (hf : X.fn x = true ∨ X.env.scope.names.lookup x = some .local := by first | exact .inl rfl | exact .inr rfl | assumption) :
    PDS X tb (.Assign [.Name x pos'] e pos) (mReg i m) := by
  obtain ⟨t, p, q⟩ := he
  refine ⟨_, ps_set hN hi hx p hs hf, fun σ H ρ st env E S D hF => ?_⟩
  obtain ⟨ds, st1, h1, hF⟩ := hF.of_ok
  refine q σ H ρ st env E S ds st1 h1 _ fun a xs H1 k1 n1 na h1 r1 S1 => ?_
  refine hF _ H1 (ρ ++ [a]) (Kx.reg k1 n1) (ER.set (ER.reg (E.mono k1)) ?_ i) (S1.reg na h1 r1)
  exact ⟨a, by rw [← S1.len, List.getElem?_append_right (Nat.le_refl _), Nat.sub_self] <;> rfl, rfl⟩
def mDrop (ma : ME) : MS := fun env st => RS.of (ma env st) fun _ st1 => .next env st1
theorem pds_expr (he : PD X tb e ma) (hs : swapsWith e none pos.line X.env = pure false := by rfl) : PDS X tb (.Expr e pos) (mDrop ma) := by
  obtain ⟨t, p, q⟩ := he
  refine ⟨_, ps_expr p hs, fun σ H ρ st env E S D hF => ?_⟩
  obtain ⟨d, st1, h1, hF⟩ := hF.of_ok
  exact q σ H ρ st env E S d st1 h1 _ fun v H1 k1 r1 S1 => hF _ H1 ρ (.of k1) (E.mono k1) S1
def mRet (ma : ME) : MS := fun env st => RS.of (ma env st) fun d st1 => .ret d st1
theorem pds_ret (he : PD X tb e ma) : PDS X tb (.Return (some e) pos) (mRet ma) := by
  obtain ⟨t, p, q⟩ := he
  refine ⟨_, ps_ret p, fun σ H ρ st env E S D hF => ?_⟩
  obtain ⟨d, st1, h1, hF⟩ := hF.of_ok
  exact q σ H ρ st env E S d st1 h1 _ fun v H1 k1 r1 S1 => hF v H1 ρ (.of k1) r1 S1
def mRetN (m : MN) : MS := fun env st => RS.of (m env st) fun ds st1 => .retN ds st1
theorem pds_retN {m : MN} (he : PDN X tb e m) : PDS X tb (.Return (some e) pos) (mRetN m) := by
  obtain ⟨t, p, q⟩ := he
  refine ⟨_, ps_ret p, fun σ H ρ st env E S D hF => ?_⟩
  obtain ⟨ds, st1, h1, hF⟩ := hF.of_ok
  exact q σ H ρ st env E S ds st1 h1 _ fun a xs H1 k1 n1 na h1 r1 S1 => hF a xs H1 ρ (.of k1) n1 na h1 r1 S1
def mIfS (c : MT) (m n : MS) : MS := fun env st => RS.of (c env st) fun b st1 => if b = true then m env st1 else n env st1
theorem pds_if {p q : List Stmt} {mc : MT} (hc : PDT X tb c mc) (hp : PDB X tb p m) (hq : PDB X tb q n) : PDS X tb (.If c p q pos) (mIfS mc m n) := by
  obtain ⟨tc, pc, sc⟩ := hc
  obtain ⟨tp, pp, sp⟩ := hp
  obtain ⟨tq, pq, sq⟩ := hq
  refine ⟨_, ps_if pc pp pq, fun σ H ρ st env E S D hF => ?_⟩
  obtain ⟨b, st1, h1, hF⟩ := hF.of_ok
  refine sc σ H ρ st env E S b st1 h1 _ fun H1 k1 S1 => ?_
  cases b with
  | true =>
    rw [if_pos rfl] at hF ⊢
    exact sp σ H1 ρ st1 env (E.mono k1) S1 D (hF.kp k1 S1.tks)
  | false =>
    rw [if_neg Bool.false_ne_true] at hF ⊢
    exact sq σ H1 ρ st1 env (E.mono k1) S1 D (hF.kp k1 S1.tks)
theorem pds_break : PDS X tb (.Break pos) (fun env st => .brk env st) := ⟨_, ps_break, fun σ H ρ st env E S D h => h σ H ρ (Kx.refl ρ H) E S⟩
theorem pds_continue : PDS X tb (.Continue pos) (fun env st => .cnt env st) := ⟨_, ps_continue, fun σ H ρ st env E S D h => h σ H ρ (Kx.refl ρ H) E S⟩

/-! ### targets -/
def PDG (X : Cx) (tg : Expr) (g : PyData → Env → Option Env) : Prop := ∃ t, PG X tg t ∧ ∀ (σ : St) (H : Hp) (ρ : List Addr) (env env' : Env) (v : V) (d : PyData), ER X.K ρ H σ env → Dr X.K (hid ρ H) v d → g d env = some env' →
  ∀ Q : St → Hp → Prop, (∀ σ', ER X.K ρ H σ' env' → Q σ' H) → t v σ H Q
def gSet (i : Nat) : PyData → Env → Option Env := fun d env => some (env.set i (some (.dat d)))
theorem pdg_name {i : Nat} {x : Str} (hN : X.N.Nodup) (hi : X.N[i]? = some x) (hx : Loc X.env.scope x) (hf : X.fn x = true ∨ X.env.scope.names.lookup x = some .local := by first | exact .inl rfl | exact .inr rfl | assumption) : PDG X (.Name x pos) (gSet i) :=
  ⟨_, pg_name hN hi hx hf, fun σ H ρ env env' v d E r h Q q => by
    cases h
    exact q _ (E.set (d := .dat d) r i)⟩
def PDGs (X : Cx) (ts : List Expr) (g : List PyData → Env → Option Env) : Prop := ∃ t, PGs X ts t ∧ ∀ (σ : St) (H : Hp) (ρ : List Addr) (env env' : Env) (vs : List V) (ds : List PyData), ER X.K ρ H σ env → Drs X.K (hid ρ H) vs ds → g ds env = some env' →
  ∀ Q : St → Hp → Prop, (∀ σ', ER X.K ρ H σ' env' → Q σ' H) → t vs σ H Q
def gNo : List PyData → Env → Option Env
  | [], env => some env
  | _ :: _, _ => none
def gAnd (g : PyData → Env → Option Env) (gs : List PyData → Env → Option Env) : List PyData → Env → Option Env
  | [], _ => none
  | d :: ds, env => (g d env).bind fun env1 => gs ds env1
theorem pdgs_nil : PDGs X [] gNo := ⟨_, pgs_nil, fun σ H ρ env env' vs ds E r h Q q => by
  cases r with
  | nil => cases h; exact ⟨rfl, q σ E⟩
  | cons _ _ => cases h⟩
theorem pdgs_cons {es : List Expr} {g : PyData → Env → Option Env} {gs : List PyData → Env → Option Env} (h1 : PDG X a g) (h2 : PDGs X es gs)
    (hs : (assignEach (a :: es) X.env).map (·.2) = assign a X.env :: (assignEach es X.env).map (·.2) := by rfl) : PDGs X (a :: es) (gAnd g gs) := by
  obtain ⟨t, p, q⟩ := h1
  obtain ⟨u, p2, q2⟩ := h2
  refine ⟨_, pgs_cons p p2 hs, fun σ H ρ env env' vs ds E r h Q qq => ?_⟩
  cases r with
  | nil => cases h
  | cons hd tl =>
    rename_i v vs d ds
    cases e1 : g d env with
    | none => simp only [gAnd, e1] at h; cases h
    | some env1 =>
      simp only [gAnd, e1] at h
      exact ⟨v, vs, rfl, q σ H ρ env env1 v d E hd e1 _ fun σ1 E1 => q2 σ1 H ρ env1 env' vs ds E1 tl h Q qq⟩
def gTupD (gs : List PyData → Env → Option Env) (n : Nat) : PyData → Env → Option Env
  | .tuple ds, env => if ds.length = n then gs ds env else none
  | _, _ => none
theorem pdg_tup {es : List Expr} {k n : Nat} {gs : List PyData → Env → Option Env} (hc : X.calm = true) (h : PDGs X es gs) (hn : (assignEach es X.env).length = n := by rfl) (hst : (assignEach es X.env).findIdx? (·.1) = none := by rfl) : PDG X (.Tuple es k pos) (gTupD gs n) := by
  obtain ⟨t, p, q⟩ := h
  refine ⟨_, pg_tup hc p hn hst, fun σ H ρ env env' v d E r h Q qq => ?_⟩
  cases d with
  | tuple ds =>
    cases r with
    | tup s rs =>
      simp only [gTupD] at h
      by_cases hl : ds.length = n
      · rw [if_pos hl] at h
        exact ⟨_, _, rfl, (hid_le ρ H).sqT s, by rw [rs.len]; exact hl, q σ H ρ env env' _ ds E rs h Q qq⟩
      · rw [if_neg hl] at h; cases h
  | _ => cases h
/-- target = value -/
def mAsg (g : PyData → Env → Option Env) (ma : ME) : MS := fun env st => RS.of (ma env st) fun d st1 => match d with
  | .dat x => match g x env with
    | some env1 => .next env1 st1
    | none => .bad
  | _ => .bad
theorem pds_asg {tg : Expr} {g : PyData → Env → Option Env} (he : PD X tb e ma) (hg : PDG X tg g) (hs : swapsWithSole [tg] e pos.line X.env = pure false := by rfl) (hw : swappedStores [tg] e X.env = pure none := by rfl)
    (h1 : (assignEach [tg] X.env).map (·.2) = [assign tg X.env] := by rfl) : PDS X tb (.Assign [tg] e pos) (mAsg g ma) := by
  obtain ⟨t, p, q⟩ := he
  obtain ⟨tg', pg, qg⟩ := hg
  refine ⟨_, ps_asg p pg hs hw h1, fun σ H ρ st env E S D hF => ?_⟩
  obtain ⟨d, st1, h1, hF⟩ := hF.of_ok
  refine q σ H ρ st env E S d st1 h1 _ fun v H1 k1 r1 S1 => ?_
  cases d with
  | ref n => exact False.elim hF
  | scr n => exact False.elim hF
  | dat x =>
    cases e1 : g x env with
    | none => simp only [e1] at hF; exact False.elim hF
    | some env1 =>
      simp only [e1] at hF
      exact qg σ H1 ρ env env1 v x (E.mono k1) r1 e1 _ fun σ' E' => hF σ' H1 ρ (.of k1) E' S1

/-! ### for -/
/-- the walk gives just these data, whatever goes on beside it -/
def Goes (K : Frag) (tb ρ : List Addr) (H : Hp) (J : It) (ds : List PyData) : Prop :=
  ∀ (ρ' : List Addr) (H' : Hp) (st' : Sto), Kx ρ ρ' H H' → SR K tb ρ' H' st' → (J.stop ds.length H') ∧ ∀ (i : Nat) (d : PyData), ds[i]? = some d → J.go i H' ∧ ∀ x H2, J.yld i H' x H2 → Xn H' H2 ∧ Dr K (hid ρ' H2) x d
def PDI (X : Cx) (tb : List Addr) (tg iter : Expr) (m : MN) : Prop := ∃ wi, PI X tg iter wi ∧ ∀ (σ : St) (H : Hp) (ρ : List Addr) (st : Sto) (env : Env), ER X.K ρ H σ env → SR X.K tb ρ H st → ∀ ds st', m env st = .ok ds st' →
  ∀ R : It → Hp → Prop, (∀ J H', Kp ρ H H' → SR X.K tb ρ H' st' → Goes X.K tb ρ H' J ds → R J H') → wi σ H R
def loopM (g : PyData → Env → Option Env) (m : MS) : List PyData → Env → Sto → RS
  | [], env, st => .next env st
  | d :: ds, env, st => match g d env with
    | none => .bad
    | some env1 => match m env1 st with
      | .next env2 st2 => loopM g m ds env2 st2
      | .cnt env2 st2 => loopM g m ds env2 st2
      | .brk env2 st2 => .next env2 st2
      | r => r
def mFor (mi : MN) (g : PyData → Env → Option Env) (m : MS) : MS := fun env st => RS.of (mi env st) fun ds st1 => loopM g m ds env st1
theorem pds_for {tg iter : Expr} {body : List Stmt} {mi : MN} {g : PyData → Env → Option Env} (hp : PassesOwn (model X.prog X.w) X.A X.env X.xe) (hc : X.calm = true) (hi : PDI X tb tg iter mi) (hg : PDG X tg g) (hb : PDB X tb body m)
    (hs : ∀ x, foldedSetIterable iter X.env x = pure x := by intro _; rfl) : PDS X tb (.For tg iter body [] pos) (mFor mi g m) := by
  obtain ⟨wi, p1, q1⟩ := hi
  obtain ⟨tg', p2, q2⟩ := hg
  obtain ⟨tb', p3, q3⟩ := hb
  refine ⟨_, ps_for hp hc p1 p2 p3 hs, fun σ H ρ st env E S D hF => ?_⟩
  obtain ⟨ds, st1, h1, hF⟩ := hF.of_ok
  refine q1 σ H ρ st env E S ds st1 h1 _ fun J H1 k1 S1 G => ?_
  refine ⟨fun i m' σ' H' => m' + i = ds.length ∧ ∃ ρ' st' env', Kx ρ ρ' H1 H' ∧ ER X.K ρ' H' σ' env' ∧ SR X.K tb ρ' H' st' ∧ Fin X.K tb ρ' H' D (loopM g m (ds.drop i) env' st'), ⟨ds.length, by simp, ρ, st1, env, Kx.refl ρ H1, E.mono k1, S1, hF.kp k1 S1.tks⟩, ?_⟩
  rintro i m' σ' H' ⟨hm, ρ', st', env', k', E', S', F'⟩
  obtain ⟨gs, gi⟩ := G ρ' H' st' k' S'
  by_cases hlt : i < ds.length
  · have hd : ds[i]? = some ds[i] := List.getElem?_eq_getElem hlt
    obtain ⟨go, yl⟩ := gi i ds[i] hd
    have hdr : ds.drop i = ds[i] :: ds.drop (i + 1) := List.drop_eq_getElem_cons hlt
    rw [hdr] at F'
    refine .inr ⟨go, fun σ2 H2 => ∃ ρ2 st2 env2, Kx ρ ρ2 H1 H2 ∧ ER X.K ρ2 H2 σ2 env2 ∧ SR X.K tb ρ2 H2 st2 ∧ Fin X.K tb ρ2 H2 D (loopM g m (ds.drop (i + 1)) env2 st2), fun σ2 H2 hN => ⟨m' - 1, by omega, by omega, hN⟩, fun x H2 hy => ?_⟩
    obtain ⟨x2, r2⟩ := yl x H2 hy
    have S2 := S'.xn x2
    have E2 : ER X.K ρ' H2 σ' env' := E'.mono (x2.kp ρ')
    have k2 : Kx ρ ρ' H1 H2 := k'.trans (.of (x2.kp ρ')) S'.tks
    have F2 := F'.kp (x2.kp ρ') S2.tks
    cases hg1 : g ds[i] env' with
    | none => simp only [loopM, hg1] at F2; exact False.elim F2
    | some env1 =>
      simp only [loopM, hg1] at F2
      refine q2 σ' H2 ρ' env' env1 x ds[i] E2 r2 hg1 _ fun σ3 E3 => ?_
      refine q3 σ3 H2 ρ' st' env1 E3 S2 _ ?_
      cases hb1 : m env1 st' with
      | next e4 s4 =>
        simp only [hb1] at F2
        exact fun σ4 H4 ρ4 k4 E4 S4 => ⟨ρ4, s4, e4, k2.trans k4 S2.tks, E4, S4, F2.kx k4 S4.tks⟩
      | cnt e4 s4 =>
        simp only [hb1] at F2
        exact fun σ4 H4 ρ4 k4 E4 S4 => ⟨ρ4, s4, e4, k2.trans k4 S2.tks, E4, S4, F2.kx k4 S4.tks⟩
      | brk e4 s4 =>
        simp only [hb1] at F2
        exact fun σ4 H4 ρ4 k4 E4 S4 => F2 σ4 H4 ρ4 k4 E4 S4
      | ret d s4 => simp only [hb1] at F2; exact F2
      | retN d s4 => simp only [hb1] at F2; exact F2
      | exc c fs s4 => simp only [hb1] at F2; exact F2
      | bad => simp only [hb1] at F2; exact F2
  · have hi' : i = ds.length := by omega
    subst hi'
    rw [List.drop_length] at F'
    exact .inl ⟨gs, F' σ' H' ρ' (Kx.refl ρ' H') E' S'⟩
/-- over a list or a tuple of data -/
def seqD : PyData → Option (List PyData)
  | .list ds => some ds
  | .tuple ds => some ds
  | _ => none
def mIter (ma : ME) : MN := fun env st => (ma env st).bind fun d st1 => match d with
  | .dat x => R.opt (seqD x) st1
  | _ => .bad
/-- what a for walks where it may be a list or a tuple -/
def iSeq (K : Frag) (tl : TE) : TI := fun σ H J => tl σ H fun x H1 => (∃ p, x = .ref p ∧ (∃ xs, SqL K H1 p xs) ∧ J (Itl K p) H1) ∨ (∃ p, x = .ref p ∧ (∃ xs, SqT K H1 p xs) ∧ J (Itt K p) H1)
theorem pi_seq {l tg : Expr} {tl : TE} (hl : PE X l tl) : PI X tg l (iSeq X.K tl) := by
  refine ⟨fun pins s σ H J I h => thn (hl.run pins s σ H _ I h) fun w s1 hw => ?_⟩
  obtain ⟨x, H1, I1, r1, q1⟩ := hw
  have fresh : ∀ b ∈ [s1.heap.objs.size], FpOk X pins H1 b := fun b hb => by
    cases List.mem_singleton.mp hb
    exact I1.fpOk (Nat.le_refl _) (I1.hok.fresh (Nat.le_refl _))
  rcases q1 with ⟨p, rfl, ⟨xs, hq⟩, q⟩ | ⟨p, rfl, ⟨xs, hq⟩, q⟩
  · cases r1
    have L := I1.list hq
    obtain ⟨its, rv, pl, hz⟩ := L
    exact wpAny_pyIter_list pl.isList ⟨_, [s1.heap.objs.size], _, _, H1, rfl, I1.kept (t' := s1.toks) (fun b o e => Heap.get?_push_of_some _ e), turn_list p _, ⟨_, Heap.get?_push_size _ rfl, rfl, rfl⟩, fresh, q⟩
  · cases r1
    have L := I1.tuple hq
    obtain ⟨its, rv, pt, hz⟩ := L
    exact wpAny_pyIter_tuple (show s1.heap.IsTuple p its.toArray from pt) ⟨_, [s1.heap.objs.size], _, _, H1, rfl, I1.kept (t' := s1.toks) (fun b o e => Heap.get?_push_of_some _ e), turn_tuple p _, ⟨_, Heap.get?_push_size _ rfl, rfl, rfl⟩, fresh, q⟩
theorem goes_lst {K : Frag} {ρ : List Addr} {H : Hp} {p : Addr} {xs : List V} {ds : List PyData} (s : hid ρ H p = some (.lst xs)) (r : Drs K (hid ρ H) xs ds) : Goes K tb ρ H (Itl K p) ds := fun ρ' H' st2 kx S' => by
  have s2 := kx.xt.keep p _ s fun q z => by cases z
  have sq : SqL K H' p xs := .inl (.inl (hid_some s2).2)
  refine ⟨⟨xs, sq, by rw [r.len]; exact Nat.le_refl _⟩, fun i d hd => ?_⟩
  obtain ⟨v, hv, rv⟩ := r.get hd
  refine ⟨⟨xs, v, sq, hv⟩, fun x H2 hy => ?_⟩
  obtain ⟨e, y⟩ := hy
  subst e
  have := y xs sq
  rw [hv] at this
  cases this
  exact ⟨Xn.refl _, rv.mono kx.xt⟩
theorem goes_tup {K : Frag} {ρ : List Addr} {H : Hp} {p : Addr} {xs : List V} {ds : List PyData} (s : SqT K (hid ρ H) p xs) (r : Drs K (hid ρ H) xs ds) : Goes K tb ρ H (Itt K p) ds := fun ρ' H' st2 kx S' => by
  have sq : SqT K H' p xs := (hid_le ρ' H').sqT (kx.xt.sqT s)
  refine ⟨⟨xs, sq, by rw [r.len]; exact Nat.le_refl _⟩, fun i d hd => ?_⟩
  obtain ⟨v, hv, rv⟩ := r.get hd
  refine ⟨⟨xs, v, sq, hv⟩, fun x H2 hy => ?_⟩
  obtain ⟨e, y⟩ := hy
  subst e
  have := y xs sq
  rw [hv] at this
  cases this
  exact ⟨Xn.refl _, rv.mono kx.xt⟩
theorem pdi_seq {tg : Expr} (h : PD X tb a ma) : PDI X tb tg a (mIter ma) := by
  obtain ⟨t, p, q⟩ := h
  refine ⟨_, pi_seq p, fun σ H ρ st env E S ds st' h RJ hR => ?_⟩
  obtain ⟨d, st1, h1, h⟩ := R.bind_ok h
  refine q σ H ρ st env E S _ _ h1 _ fun v H1 k1 r1 S1 => ?_
  cases d with
  | ref n => cases h
  | scr n => cases h
  | dat x =>
    replace h := R.opt_ok h
    obtain ⟨h, rfl⟩ := h
    cases x with
    | list es =>
      cases h
      cases r1 with
      | lst s r => exact .inl ⟨_, rfl, ⟨_, .inl (.inl (hid_some s).2)⟩, hR _ H1 k1 S1 (goes_lst s r)⟩
    | tuple es =>
      cases h
      cases r1 with
      | tup s r => exact .inr ⟨_, rfl, ⟨_, (hid_le ρ H1).sqT s⟩, hR _ H1 k1 S1 (goes_tup s r)⟩
    | _ => cases h
/-- for k in range(n) -/
def rangeL (lo : Int) (n : Nat) : List PyData := (List.range n).map fun (k : Nat) => PyData.int (lo + (k : Int))
theorem goes_rng {K : Frag} {ρ : List Addr} {H : Hp} (lo : Int) (n : Nat) : Goes K tb ρ H (Itr lo n) (rangeL lo n) := fun ρ' H' st2 kx S' => by
  have hl : (rangeL lo n).length = n := by simp [rangeL]
  refine ⟨by rw [hl]; exact Nat.le_refl _, fun i d hd => ?_⟩
  obtain ⟨h1, h2⟩ := List.getElem?_eq_some_iff.mp hd
  rw [hl] at h1
  have e : d = .int (lo + (i : Int)) := by
    rw [← h2]
    simp [rangeL]
  subst e
  refine ⟨h1, fun x H2 hy => ?_⟩
  obtain ⟨e1, e2⟩ := hy
  subst e1
  subst e2
  exact ⟨Xn.refl _, .int _⟩
def mRng1 (ma : ME) : MN := fun env st => (ma env st).bind fun d st1 => match d with
  | .dat (.int j) => if -(2 ^ 62) ≤ j ∧ j < 2 ^ 62 then .ok (rangeL 0 j.toNat) st1 else .bad
  | _ => .bad
theorem pdi_rng1 {tg : Expr} {p : Pos} (hg : Gl X "range") (hm : X.mg "range" = none) (h : PD X tb a ma) (hs : starEach [a] X.env = [(false, eval a X.env)] := by rfl) : PDI X tb tg (.Call (.Name "range" p) [a] [] pos) (mRng1 ma) := by
  obtain ⟨t, pa, q⟩ := h
  refine ⟨_, pi_range1 hg hm (pa_cons pa pa_nil hs) hs, fun σ H ρ st env E S ds st' h RJ hR => ?_⟩
  obtain ⟨d, st1, h1, h⟩ := R.bind_ok h
  refine q σ H ρ st env E S _ _ h1 _ fun v H1 k1 r1 S1 => ?_
  cases d with
  | ref n => cases h
  | scr n => cases h
  | dat x =>
    cases x with
    | int j =>
      cases r1
      simp only at h
      by_cases hj : -(2 ^ 62) ≤ j ∧ j < 2 ^ 62
      · rw [if_pos hj] at h
        cases h
        exact ⟨j, rfl, hj.1, hj.2, hR _ H1 k1 S1 (goes_rng 0 j.toNat)⟩
      · rw [if_neg hj] at h
        cases h
    | _ => cases h
end
end Pd

set_option Elab.async false
set_option linter.all false
set_option maxRecDepth 100000
set_option maxHeartbeats 2000000
/-! Pd6: registered lists changed; defs and their calls. -/
namespace Pd
open PySem L2

theorem hid_updI {ρ : List Addr} {H : Hp} {p : Addr} {o : HO} (hp : p ∈ ρ) : hid ρ (upd H p o) = hid ρ H := by
  funext b
  by_cases e : b ∈ ρ
  · rw [hid_in e, hid_in e]
  · rw [hid_out e, hid_out e, upd_ne (fun z => e (by rw [z]; exact hp))]
theorem Kp.put {ρ : List Addr} {H : Hp} {p : Addr} {o : HO} (hp : p ∈ ρ) : Kp ρ H (upd H p o) := by
  unfold Kp
  rw [hid_updI hp]
  exact Xt.refl _
theorem nodup_at {α : Type} : ∀ {l : List α} {i j : Nat}, l.Nodup → (hi : i < l.length) → (hj : j < l.length) → l[i] = l[j] → i = j
  | x :: l, 0, 0, _, _, _, _ => rfl
  | x :: l, 0, j + 1, n, hi, hj, e => by
    have h := (List.nodup_cons.mp n).1
    have e' : x = l[j]'(by simpa using hj) := e
    exact absurd (e' ▸ List.getElem_mem _) h
  | x :: l, i + 1, 0, n, hi, hj, e => by
    have h := (List.nodup_cons.mp n).1
    have e' : l[i]'(by simpa using hi) = x := e
    exact absurd (e' ▸ List.getElem_mem _) h
  | x :: l, i + 1, j + 1, n, hi, hj, e => by
    have hi' : i < l.length := by simpa using hi
    have hj' : j < l.length := by simpa using hj
    have h := nodup_at (List.nodup_cons.mp n).2 hi' hj' (show l[i] = l[j] from e)
    rw [h]
theorem SR.put {K : Frag} {tb ρ : List Addr} {H : Hp} {st : Sto} {n : Nat} {l : Addr} {ys : List V} {es : List PyData} (S : SR K tb ρ H st) (hl : ρ[n]? = some l) (r : Drs K (hid ρ H) ys es) : SR K tb ρ (upd H l (.lst ys)) (st.set n (.lst es)) := by
  have hm : l ∈ ρ := List.mem_of_getElem? hl
  obtain ⟨hn, hle⟩ := List.getElem?_eq_some_iff.mp hl
  refine ⟨by rw [List.length_set]; exact S.len, S.nd, fun j b o h1 h2 => ?_, fun P hP => ?_⟩
  · by_cases e : n = j
    · subst e
      rw [hl] at h1
      cases h1
      rw [List.getElem?_set_self (by rw [← S.len]; exact hn)] at h2
      cases h2
      exact ⟨ys, upd_same, by rw [hid_updI hm]; exact r⟩
    · rw [List.getElem?_set_ne e] at h2
      have hbl : b ≠ l := fun z => by
        subst z
        obtain ⟨hj, he⟩ := List.getElem?_eq_some_iff.mp h1
        exact e (nodup_at S.nd hn hj (hle.trans he.symm))
      have q := S.obj j b o h1 h2
      cases o with
      | lst ds =>
        obtain ⟨xs, e1, e2⟩ := q
        exact ⟨xs, by rw [upd_ne hbl]; exact e1, by rw [hid_updI hm]; exact e2⟩
      | dic ks ds =>
        obtain ⟨xs, e1, l1, e2⟩ := q
        exact ⟨xs, by rw [upd_ne hbl]; exact e1, l1, by rw [hid_updI hm]; exact e2⟩
  · obtain ⟨ps, e, t⟩ := S.tab P hP
    have hPl : P ≠ l := fun z => by
      subst z
      have hl2 : n < st.length := by rw [← S.len]; exact hn
      have q := S.obj n P st[n] hl (List.getElem?_eq_getElem hl2)
      cases ho : st[n] with
      | lst ds => rw [ho] at q; obtain ⟨xs, e1, _⟩ := q; rw [e] at e1; cases e1
      | dic ks ds => rw [ho] at q; obtain ⟨xs, e1, _⟩ := q; rw [e] at e1; cases e1
    exact ⟨ps, by rw [upd_ne hPl]; exact e, t⟩
theorem SR.lst {K : Frag} {tb ρ : List Addr} {H : Hp} {st : Sto} {n : Nat} {v : V} {ds : List PyData} (S : SR K tb ρ H st) (r : RD K ρ H v (.ref n)) (h : st[n]? = some (.lst ds)) : ∃ l xs, v = .ref l ∧ ρ[n]? = some l ∧ H l = some (.lst xs) ∧ Drs K (hid ρ H) xs ds := by
  obtain ⟨l, e, rfl⟩ := r
  obtain ⟨xs, e1, r1⟩ := S.obj n l _ e h
  exact ⟨l, xs, rfl, e, e1, r1⟩

section
variable {X : Cx} {tb : List Addr} {pos apos cpos : Pos} {a b c e o i : Expr} {ma mb mo mi me : ME}
/-- xs.append(e) -/
def mApp (mo me : ME) : ME := fun env st => (mo env st).bind fun d st1 => (me env st1).bind fun x st2 => match d, x with
  | .ref n, .dat x => match st1[n]?, st2[n]? with
    | some (.lst _), some (.lst ds) => if ds.length < sizeLine then .ok (.dat .none) (st2.set n (.lst (ds ++ [x]))) else .bad
    | _, _ => .bad
  | _, _ => .bad
theorem refTy {K : Frag} {ρ : List Addr} {H : Hp} {st : Sto} {v : V} {n : Nat} (S : SR K tb ρ H st) (r : RD K ρ H v (.ref n)) {ds : List PyData} (h : st[n]? = some (.lst ds)) : tyV K "list" v H := by
  obtain ⟨l, xs, rfl, _, e1, _⟩ := S.lst r h
  exact .inl ⟨rfl, xs, .inl (.inl e1)⟩
theorem pd_append {X : Cx} (ho : PD X tb o mo) (he : PD X tb e me)
    (hbase : attributeBase o "append" X.env (eval o X.env) = eval o X.env := by rfl)
    (hfew : ((backTo cpos (starEach (e :: []) X.env)).all (fun x => !x.1) && (backToKw cpos (keywordEach [] X.env)).all (fun x => x.1.isSome)
      && decide ((e :: []).length + ([] : List Keyword).length + (if ([] : List Keyword).isEmpty then 0 else 1) < 30)) = true := by rfl)
    (hline : (apos.endLine == cpos.line) = true := by rfl) (hs : starEach (e :: []) X.env = (false, eval e X.env) :: starEach [] X.env := by rfl) (hplain : (backTo cpos (starEach [] X.env)).any (·.1) = false := by rfl) :
    PD X tb (.Call (.Attribute o "append" apos) [e] [] cpos) (mApp mo me) := by
  obtain ⟨t1, p1, q1⟩ := ho
  obtain ⟨t2, p2, q2⟩ := he
  refine ⟨_, pe_bm PySem.F.plainAttrs_list PySem.F.slot_list_append PySem.F.type_list_append mt_append p1 (pa_cons p2 pa_nil hs) hbase hfew hline hs hplain, ?_⟩
  intro σ H ρ st env E S d st' h Q q
  obtain ⟨d1, st1, h1, h⟩ := R.bind_ok h
  obtain ⟨d2, st2, h2, h⟩ := R.bind_ok h
  refine q1 σ H ρ st env E S d1 st1 h1 _ fun v H1 k1 r1 S1 => ?_
  cases d1 with
  | dat x => cases d2 <;> cases h
  | scr x => cases d2 <;> cases h
  | ref n =>
    cases d2 with
    | ref x => cases h
    | scr x => cases h
    | dat x =>
      cases e0 : st1[n]? with
      | none => simp only [e0] at h; cases h
      | some ob0 =>
        cases ob0 with
        | dic ks es => simp only [e0] at h; cases h
        | lst es =>
          cases e1 : st2[n]? with
          | none => simp only [e0, e1] at h; cases h
          | some ob =>
            cases ob with
            | dic ks ds => simp only [e0, e1] at h; cases h
            | lst ds =>
              simp only [e0, e1] at h
              by_cases hz : ds.length < sizeLine
              · rw [if_pos hz] at h
                cases h
                refine ⟨refTy S1 r1 e0, ?_⟩
                refine q2 σ H1 ρ st1 env (E.mono k1) S1 _ st2 h2 _ fun w H2 k2 r2 S2 => ?_
                obtain ⟨l, xs, rfl, el, e3, r3⟩ := S2.lst (r1.mono k2) e1
                have hm : l ∈ ρ := List.mem_of_getElem? el
                refine ⟨l, xs, w, rfl, rfl, e3, by rw [r3.len]; exact hz, ?_⟩
                exact q _ _ ((k1.trans k2).trans (Kp.put hm)) .non (S2.put el (r3.append (.cons r2 .nil)))
              · rw [if_neg hz] at h
                cases h
/-- xs.extend(ys) -/
def mExt (mo me : ME) : ME := fun env st => (mo env st).bind fun d st1 => (me env st1).bind fun x st2 => match d, x with
  | .ref n, .dat (.list ys) => match st1[n]?, st2[n]? with
    | some (.lst _), some (.lst ds) => if ds.length + ys.length ≤ sizeLine then .ok (.dat .none) (st2.set n (.lst (ds ++ ys))) else .bad
    | _, _ => .bad
  | _, _ => .bad
theorem pd_extend {X : Cx} (ho : PD X tb o mo) (he : PD X tb e me)
    (hbase : attributeBase o "extend" X.env (eval o X.env) = eval o X.env := by rfl)
    (hfew : ((backTo cpos (starEach (e :: []) X.env)).all (fun x => !x.1) && (backToKw cpos (keywordEach [] X.env)).all (fun x => x.1.isSome)
      && decide ((e :: []).length + ([] : List Keyword).length + (if ([] : List Keyword).isEmpty then 0 else 1) < 30)) = true := by rfl)
    (hline : (apos.endLine == cpos.line) = true := by rfl) (hs : starEach (e :: []) X.env = (false, eval e X.env) :: starEach [] X.env := by rfl) (hplain : (backTo cpos (starEach [] X.env)).any (·.1) = false := by rfl) :
    PD X tb (.Call (.Attribute o "extend" apos) [e] [] cpos) (mExt mo me) := by
  obtain ⟨t1, p1, q1⟩ := ho
  obtain ⟨t2, p2, q2⟩ := he
  refine ⟨_, pe_bm PySem.F.plainAttrs_list PySem.F.slot_list_extend PySem.F.type_list_extend mt_extend p1 (pa_cons p2 pa_nil hs) hbase hfew hline hs hplain, ?_⟩
  intro σ H ρ st env E S d st' h Q q
  obtain ⟨d1, st1, h1, h⟩ := R.bind_ok h
  obtain ⟨d2, st2, h2, h⟩ := R.bind_ok h
  refine q1 σ H ρ st env E S d1 st1 h1 _ fun v H1 k1 r1 S1 => ?_
  cases d1 with
  | dat x => cases d2 <;> cases h
  | scr x => cases d2 <;> cases h
  | ref n =>
    cases d2 with
    | ref x => cases h
    | scr x => cases h
    | dat x =>
      cases x with
      | list ys =>
        cases e0 : st1[n]? with
        | none => simp only [e0] at h; cases h
        | some ob0 =>
          cases ob0 with
          | dic ks es => simp only [e0] at h; cases h
          | lst es =>
            cases e1 : st2[n]? with
            | none => simp only [e0, e1] at h; cases h
            | some ob =>
              cases ob with
              | dic ks ds => simp only [e0, e1] at h; cases h
              | lst ds =>
                simp only [e0, e1] at h
                by_cases hz : ds.length + ys.length ≤ sizeLine
                · rw [if_pos hz] at h
                  cases h
                  refine ⟨refTy S1 r1 e0, ?_⟩
                  refine q2 σ H1 ρ st1 env (E.mono k1) S1 _ st2 h2 _ fun w H2 k2 r2 S2 => ?_
                  obtain ⟨l, xs, rfl, el, e3, r3⟩ := S2.lst (r1.mono k2) e1
                  have hm : l ∈ ρ := List.mem_of_getElem? el
                  cases r2 with
                  | lst s4 r4 =>
                    refine ⟨l, _, xs, _, rfl, rfl, e3, (hid_some s4).2, by rw [r3.len, r4.len]; exact hz, ?_⟩
                    exact q _ _ ((k1.trans k2).trans (Kp.put hm)) .non (S2.put el (r3.append r4))
                · rw [if_neg hz] at h
                  cases h
      | _ => cases h
/-- xs[i] = e -/
def mPut (me mo mi : ME) : MS := fun env st => RS.of (me env st) fun x st1 => RS.of (mo env st1) fun d st2 => RS.of (mi env st2) fun k st3 => match d, k, x with
  | .ref n, .dat (.int k), .dat x => match st3[n]? with
    | some (.lst ds) => match ixN ds.length k with
      | some j => .next env (st3.set n (.lst (ds.set j x)))
      | none => .bad
    | _ => .bad
  | _, _, _ => .bad
theorem pds_put {X : Cx} {pos' : Pos} (he : PD X tb e me) (ho : PD X tb o mo) (hi : PD X tb i mi) (hs : swapsWithSole [.Subscript o i pos'] e pos.line X.env = pure false := by rfl) (hw : swappedStores [.Subscript o i pos'] e X.env = pure none := by rfl)
    (h1 : (assignEach [.Subscript o i pos'] X.env).map (·.2) = [assign (.Subscript o i pos') X.env] := by rfl)
    (ha : ∀ v, assign (.Subscript o i pos') X.env v = (do
      let ov ← holding [v] (eval o X.env)
      let iv ← holding [v, ov] (eval i X.env)
      standAt pos'
      holding [v, ov, iv] (setItem ov iv v)
      release [v, ov, iv] []) := by intro _; rfl) : PDS X tb (.Assign [.Subscript o i pos'] e pos) (mPut me mo mi) := by
  obtain ⟨t1, p1, q1⟩ := he
  obtain ⟨t2, p2, q2⟩ := ho
  obtain ⟨t3, p3, q3⟩ := hi
  refine ⟨_, ps_asg p1 (pg_sub p2 p3 set_list ha) hs hw h1, fun σ H ρ st env E S D hF => ?_⟩
  obtain ⟨x, st1, e1, hF⟩ := hF.of_ok
  obtain ⟨d, st2, e2, hF⟩ := hF.of_ok
  obtain ⟨k, st3, e3, hF⟩ := hF.of_ok
  refine q1 σ H ρ st env E S x st1 e1 _ fun v H1 k1 r1 S1 => ?_
  refine q2 σ H1 ρ st1 env (E.mono k1) S1 d st2 e2 _ fun w H2 k2 r2 S2 => ?_
  have k12 := k1.trans k2
  refine q3 σ H2 ρ st2 env (E.mono k12) S2 k st3 e3 _ fun u H3 k3 r3 S3 => ?_
  cases d with
  | dat x => exact False.elim hF
  | scr x => exact False.elim hF
  | ref n =>
    cases k with
    | ref x => exact False.elim hF
    | scr x => exact False.elim hF
    | dat k =>
      cases k with
      | int k =>
        cases x with
        | ref x => exact False.elim hF
        | scr x => exact False.elim hF
        | dat x =>
          cases e4 : st3[n]? with
          | none => simp only [e4] at hF; exact False.elim hF
          | some ob =>
            cases ob with
            | dic ks ds => simp only [e4] at hF; exact False.elim hF
            | lst ds =>
              cases e5 : ixN ds.length k with
              | none => simp only [e4, e5] at hF; exact False.elim hF
              | some j =>
                simp only [e4, e5] at hF
                obtain ⟨l, xs, rfl, el, e6, r6⟩ := S3.lst (r2.mono k3) e4
                have hm : l ∈ ρ := List.mem_of_getElem? el
                cases r3
                have rx : Dr X.K (hid ρ H3) v x := RD.mono (d := .dat x) (k2.trans k3) r1
                refine ⟨l, xs, k, j, rfl, rfl, e6, by rw [r6.len]; exact e5, ?_⟩
                have kk := (k12.trans k3).trans (Kp.put (H := H3) (o := .lst (xs.set j v)) hm)
                exact hF σ _ ρ (.of kk) (E.mono kk) (S3.put el (Drs.set rx j r6))
      | _ => exact False.elim hF
/-- xs[j] += e, j a written place, xs a registered list of ints there -/
def rGetN (K : Frag) : R2 := fun x y H Q => ∃ p xs v, ∃ j : Nat, x = .ref p ∧ y = .int (j : Int) ∧ SqL K H p xs ∧ xs[j]? = some v ∧ Q v H
theorem pget_list : PGet X (rGetN X.K) := by
  intro pins s σ H o i ov iv Q I r1 r2 h
  obtain ⟨p, xs, v, j, rfl, rfl, sq, e, q⟩ := h
  cases r1
  obtain ⟨t, rfl⟩ := r2
  obtain ⟨its, r, pl, hz⟩ := I.list sq
  obtain ⟨u, eu, ru⟩ := r.get e
  have hj : j < its.length := (List.getElem?_eq_some_iff.mp eu).1
  have h63 := line63
  have hl := r.length
  refine wpAny_getItem_list pl.isList (by omega) (by omega) (by simpa using eu) ⟨v, H, I, ru, q⟩
def mAugI (f : Int → Int → Int) (mo mi me : ME) : MS := fun env st => RS.of (mo env st) fun d st1 => RS.of (mi env st1) fun k st2 => match d, k with
  | .ref n, .dat (.int k) => match st2[n]? with
    | some (.lst ds) => match (if 0 ≤ k then ds[k.toNat]? else none) with
      | some (.int old) => RS.of (me env st2) fun x st3 => match x, st3[n]? with
        | .dat (.int y), some (.lst es) => if es.length = ds.length then .next env (st3.set n (.lst (es.set k.toNat (.int (f old y))))) else .bad
        | _, _ => .bad
      | _ => .bad
    | _ => .bad
  | _, _ => .bad
theorem pds_augI {X : Cx} {tpos : Pos} {op : Operator} {f : Int → Int → Int} (hp : PIp X op (ipI f)) (ho : PD X tb o mo) (hi : PD X tb i mi) (he : PD X tb e me)
    (ha : ∀ ov iv new, augStore i ov iv new = (do holding [new, ov, iv] (setItem ov iv new); release [new, ov, iv] []; pure .next) := by intros; rfl) : PDS X tb (.AugAssign (.Subscript o i tpos) op e pos) (mAugI f mo mi me) := by
  obtain ⟨t1, p1, q1⟩ := ho
  obtain ⟨t2, p2, q2⟩ := hi
  obtain ⟨t3, p3, q3⟩ := he
  refine ⟨_, ps_augS p1 p2 pget_list p3 hp set_list ha, fun σ H ρ st env E S D hF => ?_⟩
  obtain ⟨d, st1, e1, hF⟩ := hF.of_ok
  obtain ⟨k, st2, e2, hF⟩ := hF.of_ok
  refine q1 σ H ρ st env E S d st1 e1 _ fun v H1 k1 r1 S1 => ?_
  refine q2 σ H1 ρ st1 env (E.mono k1) S1 k st2 e2 _ fun w H2 k2 r2 S2 => ?_
  have k12 := k1.trans k2
  cases d with
  | dat x => exact False.elim hF
  | scr x => exact False.elim hF
  | ref n =>
    cases k with
    | ref x => exact False.elim hF
    | scr x => exact False.elim hF
    | dat k =>
      cases k with
      | int k =>
        cases e4 : st2[n]? with
        | none => simp only [e4] at hF; exact False.elim hF
        | some ob =>
          cases ob with
          | dic ks ds => simp only [e4] at hF; exact False.elim hF
          | lst ds =>
            cases e5 : (if 0 ≤ k then ds[k.toNat]? else none) with
            | none => simp only [e4, e5] at hF; exact False.elim hF
            | some z =>
              cases z with
              | int old =>
                simp only [e4, e5] at hF
                obtain ⟨y, st3, e6, hF⟩ := hF.of_ok
                have hk : 0 ≤ k := by
                  by_cases h0 : 0 ≤ k
                  · exact h0
                  · rw [if_neg h0] at e5; cases e5
                rw [if_pos hk] at e5
                obtain ⟨l, xs, rfl, el, e7, r7⟩ := S2.lst (r1.mono k2) e4
                cases r2
                obtain ⟨vo, ev, rv⟩ := r7.get e5
                cases rv
                have ek : k = ((k.toNat : Nat) : Int) := by omega
                refine ⟨l, xs, .int old, k.toNat, rfl, by rw [← ek], .inl (.inl e7), ev, ?_⟩
                refine q3 σ H2 ρ st2 env (E.mono k12) S2 y st3 e6 _ fun u H3 k3 r3 S3 => ?_
                cases y with
                | ref x => exact False.elim hF
                | scr x => exact False.elim hF
                | dat y =>
                  cases y with
                  | int y =>
                    cases e8 : st3[n]? with
                    | none => simp only [e8] at hF; exact False.elim hF
                    | some ob =>
                      cases ob with
                      | dic ks ds => simp only [e8] at hF; exact False.elim hF
                      | lst es =>
                        simp only [e8] at hF
                        by_cases hl : es.length = ds.length
                        · rw [if_pos hl] at hF
                          cases r3
                          obtain ⟨l', ys, h9, el', e9, r9⟩ := S3.lst (r1.mono (k2.trans k3)) e8
                          cases h9
                          have hm : l ∈ ρ := List.mem_of_getElem? el
                          have hlt : k.toNat < ys.length := by
                            rw [r9.len, hl, ← r7.len]
                            exact (List.getElem?_eq_some_iff.mp ev).1
                          refine ⟨old, y, rfl, rfl, l, ys, k, k.toNat, rfl, rfl, e9, ?_, ?_⟩
                          · rw [ek]
                            unfold ixN
                            rw [if_pos (by omega), if_pos (by omega)]
                          · have kk := (k12.trans k3).trans (Kp.put (H := H3) (o := .lst (ys.set k.toNat (.int (f old y)))) hm)
                            exact hF σ _ ρ (.of kk) (E.mono kk) (S3.put el (Drs.set (.int _) k.toNat r9))
                        · rw [if_neg hl] at hF; exact False.elim hF
                  | _ => exact False.elim hF
              | _ => simp only [e4, e5] at hF; exact False.elim hF
      | _ => exact False.elim hF
end
end Pd

set_option Elab.async false
set_option linter.all false
set_option maxRecDepth 100000
set_option maxHeartbeats 2000000
/-! Pd7: defs and calls; nothing is being shown (repr) where they run. -/
namespace Pd
open PySem PySem.Spec PyProof.Rows L2

/-- the def at f keeps sp wherever no repr is under way -/
structure FnG (P : Program) (w : World) (K : Frag) (mg : Str → Option Value) (base : Heap) (CX : CXT) (k : Nat) (f : Addr) (fd : FuncData) (ps : List Str) (sp : Sp) : Prop where
  len : ∀ vs H Q E, sp vs H Q E → vs.length = ps.length
  go : ∀ (A : Around) (out : List PySem.Env) (s : Shared) (H : Hp) (ar : Args) (us : List Value) (vs : List V) (Q : VK) (E : XK), Room k A → A.guards = some [] →
    Env0 P w K mg base A out s H → BindsTo s fd ar (ps.zip us) → Vals vs us → sp vs H Q E → codeAny (model P w) A (.call (.ref f) ar) (CR CX out P w H s Q E) s
theorem FnG.mono {P : Program} {w : World} {K : Frag} {mg : Str → Option Value} {base : Heap} {CX : CXT} {j k : Nat} {f : Addr} {fd : FuncData} {ps : List Str} {sp : Sp} (F : FnG P w K mg base CX j f fd ps sp) (h : j ≤ k) : FnG P w K mg base CX k f fd ps sp :=
  ⟨F.len, fun A out s H ar us vs Q E hr => F.go A out s H ar us vs Q E (hr.mono h)⟩
section
variable {P : Program} {w : World} {K : Frag} {mg : Str → Option Value} {base : Heap} {CX : CXT}
/-- a def of the text by its body's derivation -/
theorem fnG_of {x q : Str} {st : Stmt} {f : Addr} {fd : FuncData} {N ps : List Str} {k : Nat} {sp : Sp} (F : Fun K x q st f fd) (S : FnScope N ps (defScope st)) (len : ∀ vs H Q E, sp vs H Q E → vs.length = ps.length)
    (hb : ∀ (cdv : Value) (A : Around) (out : List PySem.Env) (s : Shared) (H : Hp) (vs : List V) (Q : VK) (E : XK), Room k (A.deeper (envOfC q (defScope st) s.heap.objs.size f cdv)) → A.guards = some [] → sp vs H Q E →
      ∃ t, PSs (cxOf CX P w K mg base N q (defScope st) f cdv A out s H E) (defBody st) t ∧ t { nx := fun _ H' => Q .non H', rt := Q } (start N vs) H) : FnG P w K mg base CX (k + 1) f fd ps sp := by
  obtain ⟨oc, od, kV, doc, pm, an, cdv, ct, osl, rfl, lk, hcd⟩ := F.ex
  refine ⟨len, fun A out s H ar us vs Q E hr hg e0 hbi hv hsp => ?_⟩
  have kIn : K.In s.heap := e0.mod.kin.keeps fun b o e => (e0.bs b o e).1
  have noL : s.heap.NoLimit := e0.mod.nolimit.keeps fun b o e => (e0.bs b o e).1
  refine codeAny_call_function hr.depth (kIn _ _ lk) rfl S.co S.gen rfl (PySem.W.codeRec_of kIn hcd) (hbi _ _ _ _ ?_)
  refine wpAny_newFunctionEnv_cells S.kind (fun y hy => ?_) fun en hen s1 inn => ?_
  · rcases S.par y.1 (List.of_mem_zip (show (y.1, y.2) ∈ ps.zip us from hy)).1 with z | z
    · exact .inl z
    · exact .inr ⟨z, PySem.W.cellsFrom_some _ _ _ (.inl z)⟩
  · subst hen
    refine ⟨noL.keeps inn.toInCall.keep, codeAny_func ?_⟩
    obtain ⟨t, ht, hq⟩ := hb cdv A out s H vs Q E (hr.deeper _) hg hsp
    have I0 := inv_start (CX := CX) (E := E) (f := f) (cd := cdv) (qual := q) S hr.hd e0 (len _ _ _ _ hsp) hv inn
    refine wpAny_mono (ht.run [] s1 _ H _ I0 hq) (fun fl s' hs => ?_) fun _ _ z => z
    cases fl with
    | ret u =>
      obtain ⟨v, σ', H', J, rv, qv⟩ := hs
      exact ⟨v, H', J.os, J.bare, J.base, J.hok, rv, qv⟩
    | next =>
      obtain ⟨σ', H', J, qv⟩ := hs
      exact ⟨V.non, H', J.os, J.bare, J.base, J.hok, rfl, qv⟩
    | brk =>
      obtain ⟨σ', H', J, qv⟩ := hs
      exact False.elim qv
    | cont =>
      obtain ⟨σ', H', J, qv⟩ := hs
      exact False.elim qv
end
section
variable {X : Cx} {CX : CXT} {k : Nat} {f : Addr} {fd : FuncData} {ps : List Str} {sp : Sp} {E : XK} {x : Str} {p pos : Pos} {e : Expr} {es : List Expr} {t : TA}
theorem call_fnG {pins : List (Addr × Obj)} {σ : L2.St} {H : Hp} {s : Shared} {Q : VK} {us : List Value} {vs : List V} (F : FnG X.prog X.w X.K X.mg X.base CX k f fd ps sp) (hr : Room k X.A) (hG : X.A.guards = some []) (hb : Binds X.K fd ps []) (hx : Passes CX X E)
    (I : L2.Inv X pins σ H s) (rv : Vals vs us) (h : sp vs H Q E) : wpAny (model X.prog X.w) X.A (call (.ref f) us) (EP X pins σ Q) X.xe s := by
  have hl : (us ++ []).length = ps.length := by
    rw [List.append_nil, ← rv.length]
    exact F.len _ _ _ _ h
  have hb' := hb s us I.kIn hl
  rw [List.append_nil] at hb'
  refine wpAny_call (codeAny_mono (F.go X.A X.stack s H ⟨us, []⟩ us vs Q E hr hG I.env0 hb' rv h) fun r s' hq => ?_)
  cases r with
  | error er => exact hx pins σ H s er s' I hq
  | ok fl =>
    cases fl with
    | ret u => exact I.after hq
    | _ => exact False.elim hq
/-- f(e, ..) -/
theorem pe_callG (F : FnG X.prog X.w X.K X.mg X.base CX k f fd ps sp) (hr : Room k X.A) (hG : X.A.guards = some []) (hg : Gl X x) (hm : X.mg x = some (.ref f)) (hk : PySem.W.keepIn X.K (.ref f) = true) (hb : Binds X.K fd ps []) (hx : Passes CX X E)
    (ha : PA X (e :: es) t) (hdb : (x == ("__debug__" : Str)) = false := by decide) (he : starEach (e :: es) X.env = (false, eval e X.env) :: starEach es X.env := by rfl) (hpl : (backTo pos (starEach es X.env)).any (·.1) = false := by rfl) :
    PE X (.Call (.Name x p) (e :: es) [] pos) (tCall sp [] E t) := by
  refine ⟨fun pins s σ H Q I h => wpAny_Call_Name_kw (ld_glob I hg hm (PySem.W.callWith_K (h₀ := X.base) I.ok.mod.kin hk (thn (ha.run pos pins s σ H _ I h) fun us s1 z => ?_) he hpl) hdb)⟩
  obtain ⟨vs, H1, I1, rv, q⟩ := z
  refine ⟨I1.kIn, call_fnG F hr hG hb hx I1 rv ?_⟩
  rw [List.append_nil] at q
  exact q
/-- f() -/
theorem pe_callG0 (F : FnG X.prog X.w X.K X.mg X.base CX k f fd ps sp) (hr : Room k X.A) (hG : X.A.guards = some []) (hg : Gl X x) (hm : X.mg x = some (.ref f)) (hk : PySem.W.keepIn X.K (.ref f) = true) (hb : Binds X.K fd ps []) (hx : Passes CX X E) (hdb : (x == ("__debug__" : Str)) = false := by decide) :
    PE X (.Call (.Name x p) [] [] pos) (tCall sp [] E tNil) := by
  refine ⟨fun pins s σ H Q I h => wpAny_Call_Name_kw (ld_glob I hg hm ?_ hdb)⟩
  exact PySem.W.callWith_K0 I.kIn hk (call_fnG (us := []) (vs := []) F hr hG hb hx I .nil h)
end

/-! ### a def's mirror -/
/-- what a def hands back: a datum, or a list of its own making -/
inductive FR where
  | dat (d : PyData)
  | new (ds : List PyData)
abbrev MF := List D → Sto → R FR
def FinF (K : Frag) (tb ρ : List Addr) (H : Hp) (Q : VK) : R FR → Prop
  | .ok (.dat d) st => ∀ v H', Kp ρ H H' → Dr K (hid ρ H') v d → SR K tb ρ H' st → Q v H'
  | .ok (.new ds) st => ∀ a xs H', Kp ρ H (wo a H') → H a = none → a ∉ ρ → H' a = some (.lst xs) → Drs K (hid ρ (wo a H')) xs ds → SR K tb ρ (wo a H') st → Q (.ref a) H'
  | _ => False
/-- the promise of a def of n parameters: it does as m says -/
def spM (K : Frag) (tb : List Addr) (n : Nat) (m : MF) : Sp := fun vs H Q _ => vs.length = n ∧ ∃ ρ st ds, RDs K ρ H vs ds ∧ SR K tb ρ H st ∧ FinF K tb ρ H Q (m ds st)
def bodyM (slots : Nat) (m : MS) : MF := fun ds st => match m (ds.map some ++ List.replicate (slots - ds.length) none) st with
  | .ret (.dat d) st' => .ok (.dat d) (st'.take st.length)
  | .ret (.ref n) st' => if st.length ≤ n then match st'[n]? with
      | some (.lst es) => .ok (.new es) (st'.take st.length)
      | _ => .bad
    else .bad
  | .retN es st' => .ok (.new es) (st'.take st.length)
  | .next _ st' => .ok (.dat .none) (st'.take st.length)
  | .exc c fs st' => .exc c fs (st'.take st.length)
  | _ => .bad
theorem RDs.len {K : Frag} {ρ : List Addr} {H : Hp} : ∀ {vs : List V} {ds : List D}, RDs K ρ H vs ds → vs.length = ds.length
  | _, _, .nil => rfl
  | _, _, .cons _ t => congrArg (· + 1) (RDs.len t)
theorem RDs.get {K : Frag} {ρ : List Addr} {H : Hp} : ∀ {vs : List V} {ds : List D} {i : Nat} {d : D}, RDs K ρ H vs ds → ds[i]? = some d → ∃ v, vs[i]? = some v ∧ RD K ρ H v d
  | _, _, _, _, .nil, e => by simp at e
  | _, _, 0, _, .cons h _, e => by simp at e; subst e; exact ⟨_, rfl, h⟩
  | _, _, i + 1, _, .cons _ t, e => by
    obtain ⟨v, h1, h2⟩ := RDs.get (i := i) t (by simpa using e)
    exact ⟨v, by simpa using h1, h2⟩
theorem ER.begin {K : Frag} {ρ : List Addr} {H : Hp} {vs : List V} {ds : List D} (N : List Str) (r : RDs K ρ H vs ds) : ER K ρ H (start N vs) (ds.map some ++ List.replicate (N.length - ds.length) none) := by
  have hl := r.len
  refine ⟨by simp [L2.start, hl], fun i d e => ?_⟩
  by_cases hi : i < ds.length
  · rw [List.getElem?_append_left (by simpa using hi), List.getElem?_map] at e
    cases e1 : ds[i]? with
    | none => rw [e1] at e; cases e
    | some d' =>
      rw [e1] at e
      cases e
      obtain ⟨v, h1, h2⟩ := r.get e1
      refine ⟨v, ?_, h2⟩
      unfold L2.start
      rw [List.getElem?_append_left (by rw [List.length_map, hl]; exact hi), List.getElem?_map, h1]
      rfl
  · rw [List.getElem?_append_right (by simpa using hi)] at e
    rw [List.getElem?_replicate] at e
    by_cases hj : i - (ds.map some).length < N.length - ds.length
    · rw [if_pos hj] at e; cases e
    · rw [if_neg hj] at e; cases e
theorem hid_more {ρ ν : List Addr} {H : Hp} : Xt (hid (ρ ++ ν) H) (hid ρ H) := by
  have out : ∀ {a : Addr} {o : HO}, hid (ρ ++ ν) H a = some o → hid ρ H a = some o := fun {a o} e => by
    obtain ⟨h1, h2⟩ := hid_some e
    rw [hid_out fun z => h1 (List.mem_append_left _ z)]
    exact h2
  exact ⟨fun a o e _ => out e, fun a q e => ⟨q, out e, fun h => h⟩⟩
theorem SR.cut {K : Frag} {tb ρ ν : List Addr} {H : Hp} {st : Sto} (S : SR K tb (ρ ++ ν) H st) : SR K tb ρ H (st.take ρ.length) := by
  have hl := S.len
  rw [List.length_append] at hl
  refine ⟨by rw [List.length_take]; omega, (List.nodup_append.mp S.nd).1, fun n a o h1 h2 => ?_, S.tab⟩
  obtain ⟨hn, _⟩ := List.getElem?_eq_some_iff.mp h1
  rw [List.getElem?_take_of_lt hn] at h2
  have q := S.obj n a o (by rw [List.getElem?_append_left hn]; exact h1) h2
  cases o with
  | lst ds =>
    obtain ⟨xs, e1, e2⟩ := q
    exact ⟨xs, e1, e2.mono hid_more⟩
  | dic ks ds =>
    obtain ⟨xs, e1, l, e2⟩ := q
    exact ⟨xs, e1, l, e2.mono hid_more⟩
/-- without a registered object that is not the callers' -/
theorem hid_wo {ρ ν : List Addr} {H : Hp} {a : Addr} (ha : a ∈ ρ ++ ν) : Xt (hid (ρ ++ ν) H) (hid ρ (wo a H)) := by
  have out : ∀ {b : Addr} {o : HO}, hid (ρ ++ ν) H b = some o → hid ρ (wo a H) b = some o := fun {b o} e => by
    obtain ⟨h1, h2⟩ := hid_some e
    rw [hid_out fun z => h1 (List.mem_append_left _ z), wo_ne fun z => h1 (by rw [z]; exact ha)]
    exact h2
  exact ⟨fun b o e _ => out e, fun b q e => ⟨q, out e, fun h => h⟩⟩
theorem SR.cutWo {K : Frag} {tb ρ ν : List Addr} {H : Hp} {st : Sto} {a : Addr} (S : SR K tb (ρ ++ ν) H st) (ha : a ∈ ν) : SR K tb ρ (wo a H) (st.take ρ.length) := by
  have hl := S.len
  rw [List.length_append] at hl
  have nd := List.nodup_append.mp S.nd
  have hm : a ∈ ρ ++ ν := List.mem_append_right _ ha
  refine ⟨by rw [List.length_take]; omega, nd.1, fun n b o h1 h2 => ?_, fun P hP => ?_⟩
  · obtain ⟨hn, _⟩ := List.getElem?_eq_some_iff.mp h1
    rw [List.getElem?_take_of_lt hn] at h2
    have hb : b ≠ a := nd.2.2 b (List.mem_of_getElem? h1) a ha
    have q := S.obj n b o (by rw [List.getElem?_append_left hn]; exact h1) h2
    cases o with
    | lst ds =>
      obtain ⟨xs, e1, e2⟩ := q
      exact ⟨xs, by rw [wo_ne hb]; exact e1, e2.mono (hid_wo hm)⟩
    | dic ks ds =>
      obtain ⟨xs, e1, l, e2⟩ := q
      exact ⟨xs, by rw [wo_ne hb]; exact e1, l, e2.mono (hid_wo hm)⟩
  · obtain ⟨ps, e, t⟩ := S.tab P hP
    obtain ⟨o, eo⟩ := S.tk hm
    have hPa : P ≠ a := fun z => by
      subst z
      obtain ⟨n, hn, en⟩ := List.getElem_of_mem hm
      have hn2 : n < st.length := by rw [← S.len]; exact hn
      have q := S.obj n P st[n] (by rw [List.getElem?_eq_getElem hn, en]) (List.getElem?_eq_getElem hn2)
      cases ho : st[n] with
      | lst ds => rw [ho] at q; obtain ⟨xs, e1, _⟩ := q; rw [e] at e1; cases e1
      | dic ks ds => rw [ho] at q; obtain ⟨xs, e1, _⟩ := q; rw [e] at e1; cases e1
    exact ⟨ps, by rw [wo_ne hPa]; exact e, t⟩
theorem Kp.wo {ρ : List Addr} {H H' : Hp} {a : Addr} (k : Kp ρ H H') (h : H a = none) : Kp ρ H (wo a H') := by
  have out : ∀ {b : Addr} {o o' : HO}, hid ρ H b = some o → hid ρ H' b = some o' → hid ρ (Pd.wo a H') b = some o' := fun {b o o'} e e' => by
    obtain ⟨h1, h2⟩ := hid_some e
    rw [hid_out h1, wo_ne fun z => by rw [z, h] at h2; cases h2]
    exact (hid_some e').2
  exact ⟨fun b o e n => out e (k.keep b o e n), fun b q e => by
    obtain ⟨q', e', t⟩ := k.tab b q e
    exact ⟨q', out e e', t⟩⟩
/-- the body's reading from its mirror -/
theorem body_tells {K : Frag} {tb : List Addr} {N : List Str} {t : TS} {m : MS} (ht : TellsS K tb t m) {n : Nat} {vs : List V} {H : Hp} {Q : VK} {E : XK} (h : spM K tb n (bodyM N.length m) vs H Q E) : t { nx := fun _ H' => Q .non H', rt := Q } (start N vs) H := by
  obtain ⟨_, ρ, st, ds, r, S, hF⟩ := h
  refine ht (start N vs) H ρ st _ (ER.begin N r) S _ ?_
  unfold bodyM at hF
  have hS := S.len
  cases hm : m (ds.map some ++ List.replicate (N.length - ds.length) none) st with
  | next env st' =>
    simp only [hm] at hF
    intro σ' H' ρ' k E' S'
    obtain ⟨ν, rfl, hn⟩ := k.pre
    have S2 := S'.cut
    rw [hS] at S2
    exact hF .non H' k.kp .non S2
  | ret d st' =>
    simp only [hm] at hF
    intro v H' ρ' k r' S'
    obtain ⟨ν, rfl, hn⟩ := k.pre
    cases d with
    | dat d =>
      have S2 := S'.cut
      rw [hS] at S2
      exact hF v H' k.kp (Dr.mono hid_more r') S2
    | scr d => exact False.elim hF
    | ref n =>
      simp only at hF
      by_cases hln : st.length ≤ n
      · rw [if_pos hln] at hF
        cases e1 : st'[n]? with
        | none => simp only [e1] at hF; exact False.elim hF
        | some ob =>
          cases ob with
          | dic ks es => simp only [e1] at hF; exact False.elim hF
          | lst es =>
            simp only [e1] at hF
            obtain ⟨a, ha, rfl⟩ := r'
            obtain ⟨xs, e2, r2⟩ := S'.obj n a _ ha e1
            have hln2 : ρ.length ≤ n := by rw [hS]; exact hln
            rw [List.getElem?_append_right hln2] at ha
            have hm' : a ∈ ν := List.mem_of_getElem? ha
            have S2 := S'.cutWo hm'
            rw [hS] at S2
            have nd := List.nodup_append.mp S'.nd
            have na : a ∉ ρ := fun z => nd.2.2 a z a hm' rfl
            exact hF a xs H' (k.kp.wo (hn a hm')) (hn a hm') na e2 (r2.mono (hid_wo (List.mem_append_right _ hm'))) S2
      · rw [if_neg hln] at hF; exact False.elim hF
  | retN es st' =>
    simp only [hm] at hF
    intro a xs H' ρ' k n1 na e r' S'
    obtain ⟨ν, rfl, hn⟩ := k.pre
    have S2 := S'.cut
    rw [hS] at S2
    exact hF a xs H' k.kp n1 (fun z => na (List.mem_append_left _ z)) e (r'.mono hid_more) S2
  | brk env st' => simp only [hm] at hF; exact False.elim hF
  | cnt env st' => simp only [hm] at hF; exact False.elim hF
  | exc c fs st' => simp only [hm] at hF; exact False.elim hF
  | bad => simp only [hm] at hF; exact False.elim hF
section
variable {P : Program} {w : World} {K : Frag} {mg : Str → Option Value} {base : Heap}
/-- THE RULE for a def: its body's derivation gives its promise -/
theorem fnM {x q : Str} {st : Stmt} {f : Addr} {fd : FuncData} {N ps : List Str} {k : Nat} {tb : List Addr} {m : MS} (F : Fun K x q st f fd) (S : FnScope N ps (defScope st))
    (hb : ∀ (cdv : Value) (A : Around) (out : List PySem.Env) (s : Shared) (H : Hp) (E : XK), Room k (A.deeper (envOfC q (defScope st) s.heap.objs.size f cdv)) → (A.deeper (envOfC q (defScope st) s.heap.objs.size f cdv)).guards = some [] →
      PDB (cxOf CX0 P w K mg base N q (defScope st) f cdv A out s H E).nox tb (defBody st) m) : FnG P w K mg base CX0 (k + 1) f fd ps (spM K tb ps.length (bodyM N.length m)) := by
  refine fnG_of F S (fun vs H Q E h => h.1) fun cdv A out s H vs Q E hr hg h => ?_
  obtain ⟨t, pt, ht⟩ := hb cdv A out s H E hr hg
  exact ⟨t, pt.nox, body_tells ht h⟩
end
section
variable {X : Cx} {k : Nat} {f : Addr} {fd : FuncData} {ps : List Str} {x : Str} {p pos : Pos} {e : Expr} {es : List Expr} {tb : List Addr} {ma : MA} {n : Nat} {fm : MF}
def mCall (fm : MF) (ma : MA) : ME := fun env st => (ma env st).bind fun ds st1 => (fm ds st1).bind fun r st2 => match r with
  | .dat d => .ok (.dat d) st2
  | .new ds => .ok (.dat (.list ds)) st2
def mCallN (fm : MF) (ma : MA) : MN := fun env st => (ma env st).bind fun ds st1 => (fm ds st1).bind fun r st2 => match r with
  | .dat d => .bad
  | .new ds => .ok ds st2
theorem pass00 {X : Cx} {E : XK} : Passes CX0 X E := fun _ _ _ _ _ _ _ h => h.elim
theorem tells_call {K : Frag} {t : TA} (ht : TellsA K tb t ma) (hn : ∀ env st ds st1, ma env st = .ok ds st1 → ds.length = n) {E : XK} : Tells K tb (tCall (spM K tb n fm) [] E t) (mCall fm ma) := by
  intro σ H ρ st env E1 S d st' h Q q
  obtain ⟨ds, st1, h1, h⟩ := R.bind_ok h
  obtain ⟨r, st2, h2, h⟩ := R.bind_ok h
  refine ht σ H ρ st env E1 S ds st1 h1 _ fun vs H1 k1 r1 S1 => ?_
  rw [List.append_nil]
  refine ⟨by rw [r1.len]; exact hn env st ds st1 h1, ρ, st1, ds, r1, S1, ?_⟩
  rw [h2]
  cases r with
  | dat d =>
    cases h
    exact fun v H2 k2 r2 S2 => q v H2 (k1.trans k2) r2 S2
  | new es =>
    cases h
    intro a xs H2 k2 n2 na e2 r2 S2
    have x := wo_xn a H2
    exact q _ H2 ((k1.trans k2).trans (x.kp ρ)) (.lst (by rw [hid_out na]; exact e2) (r2.mono (x.kp ρ))) (S2.xn x)
theorem tells_callN {K : Frag} {t : TA} (ht : TellsA K tb t ma) (hn : ∀ env st ds st1, ma env st = .ok ds st1 → ds.length = n) {E : XK} : TellsN K tb (tCall (spM K tb n fm) [] E t) (mCallN fm ma) := by
  intro σ H ρ st env E1 S d st' h Q q
  obtain ⟨ds, st1, h1, h⟩ := R.bind_ok h
  obtain ⟨r, st2, h2, h⟩ := R.bind_ok h
  refine ht σ H ρ st env E1 S ds st1 h1 _ fun vs H1 k1 r1 S1 => ?_
  rw [List.append_nil]
  refine ⟨by rw [r1.len]; exact hn env st ds st1 h1, ρ, st1, ds, r1, S1, ?_⟩
  rw [h2]
  cases r with
  | dat d => cases h
  | new es =>
    cases h
    exact fun a xs H2 k2 n2 na e2 r2 S2 => q a xs H2 (k1.trans k2) (k1.fresh na n2) na e2 r2 S2
end
end Pd

set_option Elab.async false
set_option linter.all false
set_option maxRecDepth 100000
set_option maxHeartbeats 2000000
/-! Pd8: calls of own defs; built-ins. -/
namespace Pd
open PySem PySem.Spec PyProof.Rows L2

/-- so many arguments -/
def Ar (n : Nat) (m : MA) : Prop := ∀ env st ds st1, m env st = .ok ds st1 → ds.length = n
theorem ar_nil : Ar 0 mNil := fun _ _ _ _ h => by cases h; rfl
theorem ar_cons {n : Nat} {ma : ME} {m : MA} (h : Ar n m) : Ar (n + 1) (mCons ma m) := fun env st ds st1 e => by
  obtain ⟨d, s1, h1, e⟩ := R.bind_ok e
  obtain ⟨ds', s2, h2, e⟩ := R.bind_ok e
  cases e
  show ds'.length + 1 = n + 1
  rw [h env s1 ds' _ h2]
section
variable {X : Cx} {k : Nat} {f : Addr} {fd : FuncData} {ps : List Str} {x : Str} {p pos : Pos} {a e : Expr} {es : List Expr} {tb : List Addr} {m : MA} {ma : ME} {n : Nat} {fm : MF}
theorem pd_call (F : FnG X.prog X.w X.K X.mg X.base CX0 k f fd ps (spM X.K tb n fm)) (hr : Room k X.A) (hG : X.A.guards = some []) (hg : Gl X x) (hm : X.mg x = some (.ref f)) (hk : PySem.W.keepIn X.K (.ref f) = true) (hb : Binds X.K fd ps [])
    (ha : PDA X tb (e :: es) m) (har : Ar n m) (hdb : (x == ("__debug__" : Str)) = false := by decide) (he : starEach (e :: es) X.env = (false, eval e X.env) :: starEach es X.env := by rfl) (hpl : (backTo pos (starEach es X.env)).any (·.1) = false := by rfl) :
    PD X tb (.Call (.Name x p) (e :: es) [] pos) (mCall fm m) := by
  obtain ⟨t, pt, ht⟩ := ha
  exact ⟨_, pe_callG (E := E0) F hr hG hg hm hk hb pass00 pt hdb he hpl, tells_call ht har⟩
theorem pdn_call (F : FnG X.prog X.w X.K X.mg X.base CX0 k f fd ps (spM X.K tb n fm)) (hr : Room k X.A) (hG : X.A.guards = some []) (hg : Gl X x) (hm : X.mg x = some (.ref f)) (hk : PySem.W.keepIn X.K (.ref f) = true) (hb : Binds X.K fd ps [])
    (ha : PDA X tb (e :: es) m) (har : Ar n m) (hdb : (x == ("__debug__" : Str)) = false := by decide) (he : starEach (e :: es) X.env = (false, eval e X.env) :: starEach es X.env := by rfl) (hpl : (backTo pos (starEach es X.env)).any (·.1) = false := by rfl) :
    PDN X tb (.Call (.Name x p) (e :: es) [] pos) (mCallN fm m) := by
  obtain ⟨t, pt, ht⟩ := ha
  exact ⟨_, pe_callG (E := E0) F hr hG hg hm hk hb pass00 pt hdb he hpl, tells_callN ht har⟩
theorem tellsA_nil {K : Frag} : TellsA K tb tNil mNil := fun σ H ρ st env E S ds st' h Q q => by
  cases h
  exact q [] H (Kp.refl ρ H) .nil S
theorem pd_call0 (F : FnG X.prog X.w X.K X.mg X.base CX0 k f fd ps (spM X.K tb 0 fm)) (hr : Room k X.A) (hG : X.A.guards = some []) (hg : Gl X x) (hm : X.mg x = some (.ref f)) (hk : PySem.W.keepIn X.K (.ref f) = true) (hb : Binds X.K fd ps [])
    (hdb : (x == ("__debug__" : Str)) = false := by decide) : PD X tb (.Call (.Name x p) [] [] pos) (mCall fm mNil) :=
  ⟨_, pe_callG0 (E := E0) F hr hG hg hm hk hb pass00 hdb, tells_call tellsA_nil ar_nil⟩
theorem pdn_call0 (F : FnG X.prog X.w X.K X.mg X.base CX0 k f fd ps (spM X.K tb 0 fm)) (hr : Room k X.A) (hG : X.A.guards = some []) (hg : Gl X x) (hm : X.mg x = some (.ref f)) (hk : PySem.W.keepIn X.K (.ref f) = true) (hb : Binds X.K fd ps [])
    (hdb : (x == ("__debug__" : Str)) = false := by decide) : PDN X tb (.Call (.Name x p) [] [] pos) (mCallN fm mNil) :=
  ⟨_, pe_callG0 (E := E0) F hr hG hg hm hk hb pass00 hdb, tells_callN tellsA_nil ar_nil⟩

/-! ### built-ins by data -/
/-- the arguments as they are read -/
def vals (st : Sto) : List D → Option (List PyData)
  | [] => some []
  | d :: r => (val st d).bind fun x => (vals st r).map (x :: ·)
inductive Dvs (K : Frag) (ρ : List Addr) (H : Hp) : List V → List PyData → Prop
  | nil : Dvs K ρ H [] []
  | cons {v : V} {vs : List V} {d : PyData} {ds : List PyData} : Dv K ρ H v d → Dvs K ρ H vs ds → Dvs K ρ H (v :: vs) (d :: ds)
theorem RDs.dv {K : Frag} {ρ : List Addr} {H : Hp} {st : Sto} (S : SR K tb ρ H st) : ∀ {vs : List V} {ds : List D} {xs : List PyData}, RDs K ρ H vs ds → vals st ds = some xs → Dvs K ρ H vs xs
  | _, _, _, .nil, e => by cases e; exact .nil
  | _, _, _, .cons (d := d) (ds := ds) h t, e => by
    cases e1 : val st d with
    | none => simp only [vals, e1] at e; cases e
    | some y =>
      cases e2 : vals st ds with
      | none => simp only [vals, e1, e2] at e; cases e
      | some ys =>
        simp only [vals, e1, e2] at e
        cases e
        exact .cons (RD.dv S h e1) (RDs.dv S t e2)
def CallD (X : Cx) (g : Value) (f : List PyData → Option PyData) : Prop :=
  ∃ r : List V → Hp → VK → Prop, CallR X g r ∧ ∀ (ρ : List Addr) (H : Hp) (vs : List V) (ds : List PyData) (d : PyData), Tk ρ H → Dvs X.K ρ H vs ds → f ds = some d → ∀ Q : VK, (∀ v H', Xn H H' → Dr X.K (hid ρ H') v d → Q v H') → r vs H Q
def mBlt (f : List PyData → Option PyData) (m : MA) : ME := fun env st => (m env st).bind fun ds st1 => match vals st1 ds with
  | some xs => R.opt ((f xs).map D.dat) st1
  | none => .bad
theorem tells_blt {K : Frag} {t : TA} {r : List V → Hp → VK → Prop} {f : List PyData → Option PyData} (ht : TellsA K tb t m)
    (hr : ∀ (ρ : List Addr) (H : Hp) (vs : List V) (ds : List PyData) (d : PyData), Tk ρ H → Dvs K ρ H vs ds → f ds = some d → ∀ Q : VK, (∀ v H', Xn H H' → Dr K (hid ρ H') v d → Q v H') → r vs H Q) : Tells K tb (tCB r t) (mBlt f m) := by
  intro σ H ρ st env E S d st' h Q q
  obtain ⟨ds, st1, h1, h⟩ := R.bind_ok h
  refine ht σ H ρ st env E S ds st1 h1 _ fun vs H1 k1 r1 S1 => ?_
  cases e1 : vals st1 ds with
  | none => rw [e1] at h; cases h
  | some xs =>
    rw [e1] at h
    replace h := R.opt_ok h
    obtain ⟨h, rfl⟩ := h
    cases hf : f xs with
    | none => rw [hf] at h; cases h
    | some z =>
      rw [hf] at h
      cases h
      exact hr ρ H1 vs xs z S1.tks (RDs.dv S1 r1 e1) hf Q fun v H2 x2 r2 => q v H2 (k1.trans (x2.kp ρ)) r2 (S1.xn x2)
theorem pd_blt {id : String} {f : List PyData → Option PyData} (hc : CallD X (.builtin id) f) (hg : Gl X x) (hm : X.mg x = none) (hv : bootBuiltins x = some (.builtin id)) (ha : PDA X tb (e :: es) m) (hn : x ≠ "__name__" := by decide) (hdb : (x == ("__debug__" : Str)) = false := by decide)
    (he : starEach (e :: es) X.env = (false, eval e X.env) :: starEach es X.env := by rfl) (hpl : (backTo pos (starEach es X.env)).any (·.1) = false := by rfl) : PD X tb (.Call (.Name x p) (e :: es) [] pos) (mBlt f m) := by
  obtain ⟨r, hr, hd⟩ := hc
  obtain ⟨t, pt, ht⟩ := ha
  exact ⟨_, pe_callB hr hg hm hv pt hn hdb he hpl, tells_blt ht hd⟩
theorem pd_bty {T : String} {f : List PyData → Option PyData} (hc : CallD X (.type T) f) (hg : Gl X x) (hm : X.mg x = none) (hv : bootBuiltins x = some (.type T)) (ha : PDA X tb (e :: es) m) (hn : x ≠ "__name__" := by decide) (hdb : (x == ("__debug__" : Str)) = false := by decide)
    (he : starEach (e :: es) X.env = (false, eval e X.env) :: starEach es X.env := by rfl) (hpl : (backTo pos (starEach es X.env)).any (·.1) = false := by rfl) : PD X tb (.Call (.Name x p) (e :: es) [] pos) (mBlt f m) := by
  obtain ⟨r, hr, hd⟩ := hc
  obtain ⟨t, pt, ht⟩ := ha
  exact ⟨_, pe_callTy hr hg hm hv pt hn hdb he hpl, tells_blt ht hd⟩
/-- len -/
def lenD : List PyData → Option PyData
  | [.list xs] => some (.int xs.length)
  | [.tuple xs] => some (.int xs.length)
  | [.str z] => if z.length ≤ sizeLine then some (.int z.length) else none
  | _ => none
theorem callR_or {g : Value} {r r' : List V → Hp → VK → Prop} (h : CallR X g r) (h' : CallR X g r') : CallR X g (fun vs H Q => r vs H Q ∨ r' vs H Q) := by
  intro pins s σ H xs us Q I rx q
  rcases q with q | q
  · exact h pins s σ H xs us Q I rx q
  · exact h' pins s σ H xs us Q I rx q
theorem cd_len : CallD X (.builtin "len") lenD := by
  refine ⟨_, callR_or call_len_seq call_len_str, fun ρ H vs ds d T h hf Q q => ?_⟩
  unfold lenD at hf
  split at hf
  · cases hf
    cases h with
    | cons h1 h2 =>
      cases h2
      obtain ⟨a, xs, rfl, s, r⟩ := h1.lst
      refine .inl ⟨a, xs, rfl, .inl (.inl (.inl s)), ?_⟩
      rw [r.len]
      exact q _ H (Xn.refl H) (.int _)
  · cases hf
    cases h with
    | cons h1 h2 =>
      cases h2
      obtain ⟨a, xs, rfl, s, r⟩ := h1.tup
      refine .inl ⟨a, xs, rfl, .inr s, ?_⟩
      rw [r.len]
      exact q _ H (Xn.refl H) (.int _)
  · rename_i z
    by_cases hz : z.length ≤ sizeLine
    · rw [if_pos hz] at hf
      cases hf
      cases h with
      | cons h1 h2 =>
        cases h2
        rw [h1.str]
        exact .inr ⟨z, rfl, hz, q _ H (Xn.refl H) (.int _)⟩
    · rw [if_neg hz] at hf; cases hf
  · cases hf
def absD : List PyData → Option PyData
  | [.int i] => some (.int (if i < 0 then -i else i))
  | _ => none
theorem cd_abs : CallD X (.builtin "abs") absD := by
  refine ⟨_, call_abs, fun ρ H vs ds d T h hf Q q => ?_⟩
  unfold absD at hf
  split at hf
  · cases hf
    cases h with
    | cons h1 h2 =>
      cases h2
      rw [h1.int]
      exact ⟨_, rfl, q _ H (Xn.refl H) (.int _)⟩
  · cases hf
def minD : List PyData → Option PyData
  | [.int i, .int j] => some (.int (if j < i then j else i))
  | _ => none
def maxD : List PyData → Option PyData
  | [.int i, .int j] => some (.int (if j > i then j else i))
  | _ => none
theorem cd_min (hc : X.calm = true) : CallD X (.builtin "min") minD := by
  refine ⟨_, call_min2 hc, fun ρ H vs ds d T h hf Q q => ?_⟩
  unfold minD at hf
  split at hf
  · cases hf
    cases h with
    | cons h1 h2 =>
      cases h2 with
      | cons h3 h4 =>
        cases h4
        rw [h1.int, h3.int]
        exact ⟨_, _, rfl, q _ H (Xn.refl H) (.int _)⟩
  · cases hf
theorem cd_max (hc : X.calm = true) : CallD X (.builtin "max") maxD := by
  refine ⟨_, call_max2 hc, fun ρ H vs ds d T h hf Q q => ?_⟩
  unfold maxD at hf
  split at hf
  · cases hf
    cases h with
    | cons h1 h2 =>
      cases h2 with
      | cons h3 h4 =>
        cases h4
        rw [h1.int, h3.int]
        exact ⟨_, _, rfl, q _ H (Xn.refl H) (.int _)⟩
  · cases hf
/-- all, any of a list of truths -/
def bools : List PyData → Option (List Bool)
  | [] => some []
  | .bool b :: r => (bools r).map (b :: ·)
  | _ :: _ => none
theorem bools_rel {K : Frag} {H : Hp} : ∀ {vs : List V} {ds : List PyData} {bs : List Bool}, Drs K H vs ds → bools ds = some bs → vs = bs.map V.bl
  | _, _, _, .nil, e => by cases e; rfl
  | _, _, _, .cons (d := .bool b) (ds := ds) h t, e => by
    cases e1 : bools ds with
    | none => simp only [bools, e1] at e; cases e
    | some ys =>
      simp only [bools, e1] at e
      cases e
      cases h
      rw [bools_rel t e1]
      rfl
  | _, _, _, .cons (d := .none) h t, e => by cases e
  | _, _, _, .cons (d := .int _) h t, e => by cases e
  | _, _, _, .cons (d := .str _) h t, e => by cases e
  | _, _, _, .cons (d := .list _) h t, e => by cases e
  | _, _, _, .cons (d := .tuple _) h t, e => by cases e
  | _, _, _, .cons (d := .dict _) h t, e => by cases e
def allD : List PyData → Option PyData
  | [.list xs] => (bools xs).map fun bs => .bool (bs.all id)
  | _ => none
def anyD : List PyData → Option PyData
  | [.list xs] => (bools xs).map fun bs => .bool (bs.any id)
  | _ => none
theorem cd_all (hc : X.calm = true) : CallD X (.builtin "all") allD := by
  refine ⟨_, cr_all hc, fun ρ H vs ds d T h hf Q q => ?_⟩
  unfold allD at hf
  split at hf
  · rename_i xs
    cases e : bools xs with
    | none => rw [e] at hf; cases hf
    | some bs =>
      rw [e] at hf
      cases hf
      cases h with
      | cons h1 h2 =>
        cases h2
        obtain ⟨a, ys, rfl, s, r⟩ := h1.lst
        exact ⟨a, bs, rfl, .inl (.inl (by rw [← bools_rel r e]; exact s)), q _ H (Xn.refl H) (.bl _)⟩
  · cases hf
theorem cd_any (hc : X.calm = true) : CallD X (.builtin "any") anyD := by
  refine ⟨_, cr_any hc, fun ρ H vs ds d T h hf Q q => ?_⟩
  unfold anyD at hf
  split at hf
  · rename_i xs
    cases e : bools xs with
    | none => rw [e] at hf; cases hf
    | some bs =>
      rw [e] at hf
      cases hf
      cases h with
      | cons h1 h2 =>
        cases h2
        obtain ⟨a, ys, rfl, s, r⟩ := h1.lst
        exact ⟨a, bs, rfl, .inl (.inl (by rw [← bools_rel r e]; exact s)), q _ H (Xn.refl H) (.bl _)⟩
  · cases hf
/-- tuple(x), x a list or a tuple -/
def tupD : PyData → Option PyData
  | .list xs => some (.tuple xs)
  | .tuple xs => some (.tuple xs)
  | _ => none
theorem pd_tuple (hg : Gl X "tuple") (hm : X.mg "tuple" = none) (ha : PD X tb a ma) (he : starEach [a] X.env = [(false, eval a X.env)] := by rfl) : PD X tb (.Call (.Name "tuple" p) [a] [] pos) (mUn tupD ma) := by
  obtain ⟨t, pt, ht⟩ := ha
  refine ⟨_, pe_tupleOf hg hm pt he, ?_⟩
  intro σ H ρ st env E S d st' h Q q
  obtain ⟨da, st1, ha, h⟩ := R.bind_ok h
  refine ht σ H ρ st env E S da st1 ha _ fun va H1 k1 r1 S1 => ?_
  cases e1 : val st1 da with
  | none => rw [e1] at h; cases h
  | some x =>
    rw [e1] at h
    replace h := R.opt_ok h
    obtain ⟨h, rfl⟩ := h
    have dv := RD.dv S1 r1 e1
    cases x with
    | list xs =>
      cases h
      obtain ⟨b, ys, rfl, s, r⟩ := dv.lst
      refine .inl ⟨b, ys, rfl, .inl (.inl s), fun u hu => ?_⟩
      have x := Xn.new (o := .tup ys) hu
      exact q _ _ (k1.trans (x.kp ρ)) (.tup (.inl (.inl (by rw [hid_out (S1.new hu)]; exact upd_same))) (r.mono (x.kp ρ))) (S1.xn x)
    | tuple xs =>
      cases h
      obtain ⟨b, ys, rfl, s, r⟩ := dv.tup
      cases dv with
      | of dv => exact .inr ⟨b, ys, rfl, s, q _ H1 k1 dv S1⟩
    | _ => cases h
end
end Pd

set_option Elab.async false
set_option linter.all false
set_option maxRecDepth 100000
set_option maxHeartbeats 2000000
/-! Pd9: list comprehensions. -/
namespace Pd
open PySem PySem.Spec PyProof.Rows L2

/-! ### one reading for each mirror -/
def cE (K : Frag) (tb : List Addr) (m : ME) : TE := fun σ H Q => ∃ ρ st env d st', ER K ρ H σ env ∧ SR K tb ρ H st ∧ m env st = .ok d st' ∧ ∀ v H', Kp ρ H H' → RD K ρ H' v d → SR K tb ρ H' st' → Q v H'
def cT (K : Frag) (tb : List Addr) (m : MT) : TT := fun σ H Q => ∃ ρ st env b st', ER K ρ H σ env ∧ SR K tb ρ H st ∧ m env st = .ok b st' ∧ ∀ H', Kp ρ H H' → SR K tb ρ H' st' → Q b H'
theorem PD.c {X : Cx} {tb : List Addr} {e : Expr} {m : ME} (h : PD X tb e m) : PE X e (cE X.K tb m) := by
  obtain ⟨t, p, q⟩ := h
  refine ⟨fun pins s σ H Q I hc => ?_⟩
  obtain ⟨ρ, st, env, d, st', E, S, hm, k⟩ := hc
  exact p.run pins s σ H Q I (q σ H ρ st env E S d st' hm Q k)
theorem PDT.c {X : Cx} {tb : List Addr} {e : Expr} {m : MT} (h : PDT X tb e m) : PT X e (cT X.K tb m) := by
  obtain ⟨t, p, q⟩ := h
  refine ⟨fun pins s σ H Q I hc => ?_⟩
  obtain ⟨ρ, st, env, d, st', E, S, hm, k⟩ := hc
  exact p.run pins s σ H Q I (q σ H ρ st env E S d st' hm Q k)
/-- the ifs of a comprehension -/
def PDTs (X : Cx) (tb : List Addr) (es : List Expr) (m : MT) : Prop := PTs X es (cT X.K tb m)
def mYes : MT := fun _ st => .ok true st
theorem pdts_nil {X : Cx} {tb : List Addr} : PDTs X tb [] mYes := by
  refine ⟨fun pins s σ H Q I hc => ?_⟩
  obtain ⟨ρ, st, env, d, st', E, S, hm, k⟩ := hc
  cases hm
  exact pts_nil.run pins s σ H Q I (k H (Kp.refl ρ H) S)
theorem pdts_one {X : Cx} {tb : List Addr} {e : Expr} {m : MT} (h : PDT X tb e m) : PDTs X tb [e] m := pts_one h.c

/-! ### targets of a comprehension: its own names alone -/
def wipeE (env : Env) : List Nat → Env
  | [] => env
  | v :: vs => (wipeE env vs).set v none
theorem ER.wipe {K : Frag} {ρ : List Addr} {H : Hp} {σ : L2.St} {env : Env} (h : ER K ρ H σ env) : ∀ vs : List Nat, ER K ρ H (L2.wipe σ vs) (wipeE env vs)
  | [] => h
  | v :: vs => by
    have h2 := ER.wipe h vs
    refine ⟨by show ((L2.wipe σ vs).set v none).length = ((wipeE env vs).set v none).length; rw [List.length_set, List.length_set]; exact h2.len, fun i d e => ?_⟩
    have e' : ((wipeE env vs).set v none)[i]? = some (some d) := e
    by_cases hv : v = i
    · subst hv
      by_cases hl : v < (wipeE env vs).length
      · rw [List.getElem?_set_self hl] at e'; cases e'
      · rw [List.getElem?_eq_none (by rw [List.length_set]; omega)] at e'; cases e'
    · rw [List.getElem?_set_ne hv] at e'
      obtain ⟨w, h3, h4⟩ := h2.get i d e'
      exact ⟨w, by show ((L2.wipe σ vs).set v none)[i]? = _; rw [List.getElem?_set_ne hv]; exact h3, h4⟩
/-- a target that stores nothing but slots of vs -/
def cG (K : Frag) (g : PyData → Env → Option Env) (vs : List Nat) : TG := fun v σ H Q => ∃ ρ env env' d, ER K ρ H σ env ∧ Dr K (hid ρ H) v d ∧ g d env = some env' ∧ ∀ σ', ER K ρ H σ' env' → L2.wipe σ' vs = L2.wipe σ vs → Q σ' H
def PDGw (X : Cx) (tg : Expr) (g : PyData → Env → Option Env) (vs : List Nat) : Prop := PG X tg (cG X.K g vs)
theorem wipe_set {σ : L2.St} {i : Nat} {x : Option V} : ∀ {vs : List Nat}, i ∈ vs → L2.wipe (σ.set i x) vs = L2.wipe σ vs
  | v :: vs, h => by
    show ((L2.wipe (σ.set i x) vs).set v none) = ((L2.wipe σ vs).set v none)
    by_cases hi : i ∈ vs
    · rw [wipe_set hi]
    · have e : v = i := by
        rcases List.mem_cons.mp h with z | z
        · exact z.symm
        · exact absurd z hi
      subst e
      have aux : ∀ (ws : List Nat), v ∉ ws → L2.wipe (σ.set v x) ws = (L2.wipe σ ws).set v x := by
        intro ws
        induction ws with
        | nil => intro _; rfl
        | cons w ws ih =>
          intro hw
          have h1 : v ≠ w := fun z => hw (by rw [z]; exact List.mem_cons_self ..)
          have h2 : v ∉ ws := fun z => hw (List.mem_cons_of_mem _ z)
          show ((L2.wipe (σ.set v x) ws).set w none) = ((L2.wipe σ ws).set w none).set v x
          rw [ih h2, List.set_comm _ _ h1]
      rw [aux vs hi, List.set_set]
theorem pdgw_name {X : Cx} {i : Nat} {x : Str} {pos : Pos} {vs : List Nat} (hv : i ∈ vs) (hN : X.N.Nodup) (hi : X.N[i]? = some x) (hx : Loc X.env.scope x) (hf : X.fn x = true ∨ X.env.scope.names.lookup x = some .local := by first | exact .inl rfl | exact .inr rfl | assumption) : PDGw X (.Name x pos) (gSet i) vs := by
  refine ⟨fun pins s σ H v u Q I r h => ?_⟩
  obtain ⟨ρ, env, env', d, E, rd, hg, k⟩ := h
  cases hg
  exact (pg_name (pos := pos) hN hi hx hf).run pins s σ H v u Q I r (k _ (E.set (d := .dat d) rd i) (wipe_set hv))

theorem wipe_sub {σ : L2.St} {vs : List Nat} : ∀ ws : List Nat, (∀ v ∈ ws, v ∈ vs) → L2.wipe (L2.wipe σ ws) vs = L2.wipe σ vs
  | [], _ => rfl
  | w :: ws, h => by
    show L2.wipe ((L2.wipe σ ws).set w none) vs = _
    rw [wipe_set (h w (List.mem_cons_self ..)), wipe_sub ws fun v hv => h v (List.mem_cons_of_mem _ hv)]
theorem pdgw_tup2 {X : Cx} {i j : Nat} {x y : Str} {pos px py : Pos} {vs : List Nat} {k : Nat} (hc : X.calm = true) (hv : i ∈ vs) (hw : j ∈ vs) (hN : X.N.Nodup) (hi : X.N[i]? = some x) (hj : X.N[j]? = some y) (hx : Loc X.env.scope x) (hy : Loc X.env.scope y)
    (hf : X.fn x = true ∨ X.env.scope.names.lookup x = some .local := by first | exact .inl rfl | exact .inr rfl | assumption) (hf2 : X.fn y = true ∨ X.env.scope.names.lookup y = some .local := by first | exact .inl rfl | exact .inr rfl | assumption)
    (hs : (assignEach [Expr.Name x px, Expr.Name y py] X.env).map (·.2) = assign (.Name x px) X.env :: (assignEach [Expr.Name y py] X.env).map (·.2) := by rfl)
    (hs2 : (assignEach [Expr.Name y py] X.env).map (·.2) = assign (.Name y py) X.env :: (assignEach [] X.env).map (·.2) := by rfl)
    (hn : (assignEach [Expr.Name x px, Expr.Name y py] X.env).length = 2 := by rfl) (hst : (assignEach [Expr.Name x px, Expr.Name y py] X.env).findIdx? (·.1) = none := by rfl) :
    PDGw X (.Tuple [.Name x px, .Name y py] k pos) (gTupD (gAnd (gSet i) (gAnd (gSet j) gNo)) 2) vs := by
  refine ⟨fun pins s σ H v u Q I r h => ?_⟩
  obtain ⟨ρ, env, env', d, E, rd, hg, kk⟩ := h
  have P := pg_tup (pos := pos) (k := k) hc (pgs_cons (pg_name (pos := px) hN hi hx hf) (pgs_cons (pg_name (pos := py) hN hj hy hf2) pgs_nil hs2) hs) hn hst
  refine P.run pins s σ H v u Q I r ?_
  cases d with
  | tuple ds =>
    cases rd with
    | tup s1 rs =>
      simp only [gTupD] at hg
      by_cases hl : ds.length = 2
      · rw [if_pos hl] at hg
        cases rs with
        | nil => cases hl
        | cons r1 t1 =>
          cases t1 with
          | nil => cases hl
          | cons r2 t2 =>
            cases t2 with
            | cons r3 t3 => simp at hl
            | nil =>
              rename_i v1 d1 v2 d2
              have E2 := (E.set (d := .dat d1) r1 i).set (d := .dat d2) r2 j
              have hg' : (env.set i (some (.dat d1))).set j (some (.dat d2)) = env' := Option.some.inj hg
              rw [hg'] at E2
              exact ⟨_, _, rfl, (hid_le ρ H).sqT s1, rfl, v1, [v2], rfl, v2, [], rfl, rfl, kk _ E2 (by rw [wipe_set hw, wipe_set hv])⟩
      · rw [if_neg hl] at hg; cases hg
  | _ => cases hg

/-! ### [e for x in xs if t] -/
def lcM (g : PyData → Env → Option Env) (tt : MT) (te : ME) (n : Nat) (env : Env) : List PyData → Sto → R Unit
  | [], st => .ok () st
  | d :: ds, st => match g d env with
    | none => .bad
    | some env1 => (tt env1 st).bind fun b st1 => if b = true then (te env1 st1).bind fun x st2 => match x, st2[n]? with
        | .dat x, some (.lst acc) => if acc.length < sizeLine then lcM g tt te n env ds (st2.set n (.lst (acc ++ [x]))) else .bad
        | _, _ => .bad
      else lcM g tt te n env ds st1
def mLc (mi : MN) (g : PyData → Env → Option Env) (tt : MT) (te : ME) (vs : List Nat) : MN := fun env st => (mi env st).bind fun ds st1 => (lcM g tt te st1.length (wipeE env vs) ds (st1 ++ [.lst []])).bind fun _ st2 => match st2[st1.length]? with
  | some (.lst acc) => .ok acc (st2.take st1.length)
  | _ => .bad
theorem tells_lc {K : Frag} {tb : List Addr} {wi : TI} {mi : MN} {g : PyData → Env → Option Env} {tt : MT} {te : ME} {vs : List Nat}
    (hi : ∀ (σ : L2.St) (H : Hp) (ρ : List Addr) (st : Sto) (env : Env), ER K ρ H σ env → SR K tb ρ H st → ∀ ds st', mi env st = .ok ds st' → ∀ RJ : It → Hp → Prop, (∀ J H', Kp ρ H H' → SR K tb ρ H' st' → Goes K tb ρ H' J ds → RJ J H') → wi σ H RJ) :
    TellsN K tb (tLc wi (cG K g vs) (cT K tb tt) (cE K tb te) vs) (mLc mi g tt te vs) := by
  intro σ H ρ st env E S es st' h Q q
  obtain ⟨ds, st1, h1, h⟩ := R.bind_ok h
  obtain ⟨_, st2, h2, h⟩ := R.bind_ok h
  refine hi σ H ρ st env E S ds st1 h1 _ fun J H1 k1 S1 G D hD => ?_
  have nD : D ∉ ρ := S1.new hD
  have zw : wo D (upd H1 D (.lst [])) = H1 := wo_upd hD
  have SX : SR K tb (ρ ++ [D]) (upd H1 D (.lst [])) (st1 ++ [.lst []]) := by
    refine SR.reg (ds := []) (xs := []) ?_ nD upd_same .nil
    rw [zw]
    exact S1
  have hDρ : (ρ ++ [D])[st1.length]? = some D := by
    rw [← S1.len, List.getElem?_append_right (Nat.le_refl _), Nat.sub_self]
    rfl
  have hDm : D ∈ ρ ++ [D] := List.mem_append_right _ (List.mem_singleton.mpr rfl)
  -- what stood ahead of the list stands
  have kx : ∀ {H' : Hp}, Kp (ρ ++ [D]) (upd H1 D (.lst [])) H' → Kx ρ (ρ ++ [D]) H1 H' := fun {H'} k => by
    have k' : Xt (hid ρ H1) (hid (ρ ++ [D]) H') := by
      have z := k
      unfold Kp at z
      rw [hid_reg, zw] at z
      exact z
    refine ⟨⟨[D], rfl, fun b hb => by rw [List.mem_singleton.mp hb]; exact hD⟩, Xt.trans k' hid_more⟩
  refine ⟨fun i m H' => m + i = ds.length ∧ ∃ stX, Kp (ρ ++ [D]) (upd H1 D (.lst [])) H' ∧ SR K tb (ρ ++ [D]) H' stX ∧ lcM g tt te st1.length (wipeE env vs) (ds.drop i) stX = .ok () st2,
    ⟨ds.length, by simp, _, Kp.refl _ _, SX, h2⟩, ?_⟩
  rintro i m H' ⟨hm, stX, k, SX', hl⟩
  have kk := kx k
  obtain ⟨gs, gi⟩ := G (ρ ++ [D]) H' stX kk SX'
  by_cases hlt : i < ds.length
  · have hd : ds[i]? = some ds[i] := List.getElem?_eq_getElem hlt
    obtain ⟨go, yl⟩ := gi i ds[i] hd
    have hdr : ds.drop i = ds[i] :: ds.drop (i + 1) := List.drop_eq_getElem_cons hlt
    rw [hdr] at hl
    refine .inr ⟨go, fun H2 => ∃ stY, Kp (ρ ++ [D]) (upd H1 D (.lst [])) H2 ∧ SR K tb (ρ ++ [D]) H2 stY ∧ lcM g tt te st1.length (wipeE env vs) (ds.drop (i + 1)) stY = .ok () st2, fun H2 hN => ⟨m - 1, by omega, by omega, hN⟩, fun x H2 hy => ?_⟩
    obtain ⟨x2, r2⟩ := yl x H2 hy
    have S2 := SX'.xn x2
    have k2 := k.trans (x2.kp (ρ ++ [D]))
    have E2 : ER K (ρ ++ [D]) H2 (L2.wipe σ vs) (wipeE env vs) := ((E.mono k1).kx ((kx k2))).wipe vs
    cases hg1 : g ds[i] (wipeE env vs) with
    | none => simp only [lcM, hg1] at hl; cases hl
    | some env1 =>
      simp only [lcM, hg1] at hl
      obtain ⟨b, st3, h3, hl⟩ := R.bind_ok hl
      refine ⟨ρ ++ [D], _, env1, ds[i], E2, r2, hg1, fun σ3 E3 hw => ⟨by rw [hw]; exact wipe_sub vs fun v hv => hv, ?_⟩⟩
      refine ⟨ρ ++ [D], stX, env1, b, st3, E3, S2, h3, fun H3 k3 S3 => ?_⟩
      have k13 := k2.trans k3
      cases b with
      | false =>
        rw [if_neg Bool.false_ne_true] at hl
        exact iteF ⟨st3, k13, S3, hl⟩
      | true =>
        rw [if_pos rfl] at hl
        refine iteT ?_
        obtain ⟨y, st4, h4, hl⟩ := R.bind_ok hl
        refine ⟨ρ ++ [D], st3, env1, y, st4, E3.mono k3, S3, h4, fun v H4 k4 r4 S4 => ?_⟩
        cases y with
        | ref n => cases hl
        | scr n => cases hl
        | dat y =>
          cases e5 : st4[st1.length]? with
          | none => simp only [e5] at hl; cases hl
          | some ob =>
            cases ob with
            | dic ks ds => simp only [e5] at hl; cases hl
            | lst acc =>
              simp only [e5] at hl
              by_cases hz : acc.length < sizeLine
              · rw [if_pos hz] at hl
                obtain ⟨xs, e6, r6⟩ := S4.obj st1.length D _ hDρ e5
                refine ⟨xs, e6, by rw [r6.len]; exact hz, _, (k13.trans k4).trans (Kp.put hDm), S4.put hDρ (r6.append (.cons r4 .nil)), hl⟩
              · rw [if_neg hz] at hl; cases hl
  · have hi' : i = ds.length := by omega
    subst hi'
    rw [List.drop_length] at hl
    cases hl
    refine .inl ⟨gs, ?_⟩
    cases e5 : st2[st1.length]? with
    | none => simp only [e5] at h; cases h
    | some ob =>
      cases ob with
      | dic ks ds => simp only [e5] at h; cases h
      | lst acc =>
        simp only [e5] at h
        cases h
        obtain ⟨xs, e6, r6⟩ := SX'.obj st1.length D _ hDρ e5
        have S3 := SX'.cutWo (a := D) (List.mem_singleton.mpr rfl)
        rw [S1.len] at S3
        have kw : Kp ρ H (wo D H') := (k1.trans kk.kp).wo (k1.fresh nD hD)
        exact q D xs H' kw (k1.fresh nD hD) nD e6 (r6.mono (hid_wo hDm)) S3
theorem pdn_lc {X : Cx} {tb : List Addr} {elt tg iter : Expr} {ifs : List Expr} {scope : Scope} {own : List (Str × Nat)} {pos : Pos} {mi : MN} {g : PyData → Env → Option Env} {tt : MT} {te : ME} (hc : X.calm = true) (hN : X.N.Nodup) (hi : PDI X tb tg iter mi) (ok : BlkOk X.N X.env.scope scope own)
    (hg : ∀ (s : Shared) (H : Hp) (C : Addr) (cl : List (Str × Addr)) (fp : List Addr), PDGw (X.blk s H scope (compEnvC scope cl C X.env) fp) tg g (own.map (·.2))) (ht : ∀ (s : Shared) (H : Hp) (C : Addr) (cl : List (Str × Addr)) (fp : List Addr), PDTs (X.blk s H scope (compEnvC scope cl C X.env) fp) tb ifs tt)
    (he : ∀ (s : Shared) (H : Hp) (C : Addr) (cl : List (Str × Addr)) (fp : List Addr), PD (X.blk s H scope (compEnvC scope cl C X.env) fp) tb elt te) (hs : ∀ x, foldedSetIterable iter X.env x = pure x := by intro _; rfl) :
    PDN X tb (.ListComp elt [⟨tg, iter, ifs, 0⟩] scope pos) (mLc mi g tt te (own.map (·.2))) := by
  obtain ⟨wi, pi, qi⟩ := hi
  exact ⟨_, pe_lc (g := cG X.K g (own.map (fun (z : Str × Nat) => z.2))) (tt := cT X.K tb tt) (te := cE X.K tb te) hc hN pi ok (fun s H C cl fp => hg s H C cl fp) (fun s H C cl fp => ht s H C cl fp) (fun s H C cl fp => (he s H C cl fp).c) hs, tells_lc qi⟩
end Pd

set_option Elab.async false
set_option linter.all false
set_option maxRecDepth 100000
set_option maxHeartbeats 2000000
/-! Pd10: isinstance, list(), repr, and other built-ins. -/
namespace Pd
open PySem PySem.Spec PyProof.Rows L2

section
variable {X : Cx} {x : Str} {p pos pos' px py pt : Pos} {a b e : Expr} {es : List Expr} {tb : List Addr} {m : MA} {ma mb : ME} {n : Nat}
/-! ### isinstance(e, T) -/
def tyName : PyData → String
  | .none => "NoneType"
  | .bool _ => "bool"
  | .int _ => "int"
  | .str _ => "str"
  | .list _ => "list"
  | .tuple _ => "tuple"
  | .dict _ => "dict"
/-- what isinstance(x, T) tells of x's own class -/
def isiB (T t : String) : Option Bool := kitB t T
theorem Dv.ty {K : Frag} {ρ : List Addr} {H : Hp} {v : V} {d : PyData} (h : Dv K ρ H v d) : TyX K H v (.type (tyName d)) := by
  cases d with
  | none => rw [h.non]; exact .base .non
  | bool c => rw [h.bl]; exact .base (.bl c)
  | int i => rw [h.int]; exact .base (.int i)
  | str i => rw [h.str]; exact .base (.str i)
  | list ds => obtain ⟨a, xs, rfl, s, _⟩ := h.lst; exact .base (.lst s)
  | tuple ds =>
    obtain ⟨a, xs, rfl, s, _⟩ := h.tup
    rcases s with (s | ⟨o, s⟩) | ⟨o, its, n, h1, h2, _⟩
    · exact .base (.tup s)
    · exact .fTuple s
    · exact .kTuple h1 h2
  | dict ds =>
    cases h with
    | of h =>
      cases h with
      | dic s l r =>
        rcases s with s | ⟨o, s⟩
        · exact .base (.dK (hid_some s).2)
        · exact .fDict (hid_some s).2
    | ownD s l r => exact .base (.dK s)
def mIsi (T : String) (ma : ME) : ME := fun env st => (ma env st).bind fun d st1 => match val st1 d with
  | some x => match isiB T (tyName x) with
    | some b => .ok (.dat (.bool b)) st1
    | none => .bad
  | none => .bad
theorem pd_isi {T : String} {y : Str} {p2 : Pos} (hg : Gl X "isinstance") (hm : X.mg "isinstance" = none) (ha : PD X tb a ma) (hg2 : Gl X y) (hm2 : X.mg y = none) (hv2 : bootBuiltins y = some (.type T)) (hn2 : y ≠ "__name__" := by decide) (hd2 : (y == ("__debug__" : Str)) = false := by decide)
    (he : starEach [a, .Name y p2] X.env = (false, eval a X.env) :: starEach [.Name y p2] X.env := by rfl) (he2 : starEach [.Name y p2] X.env = (false, eval (.Name y p2) X.env) :: starEach [] X.env := by rfl) (hpl : (backTo pos (starEach [.Name y p2] X.env)).any (·.1) = false := by rfl) :
    PD X tb (.Call (.Name "isinstance" p) [a, .Name y p2] [] pos) (mIsi T ma) := by
  obtain ⟨t, pt, ht⟩ := ha
  have pc : PE X (.Name y p2) (tC (.ty T)) := pe_bltn hg2 hm2 hv2 rfl hn2 hd2
  refine ⟨_, pe_callB call_isi hg hm (by decide +kernel) (pa_cons pt (pa_cons pc pa_nil he2) he) (by decide) (by decide) he hpl, ?_⟩
  intro σ H ρ st env E S d st' h Q q
  obtain ⟨da, st1, h1, h⟩ := R.bind_ok h
  refine ht σ H ρ st env E S da st1 h1 _ fun v H1 k1 r1 S1 => ?_
  cases e1 : val st1 da with
  | none => rw [e1] at h; cases h
  | some z =>
    cases e2 : isiB T (tyName z) with
    | none => simp only [e1, e2] at h; cases h
    | some c =>
      simp only [e1, e2] at h
      cases h
      exact ⟨v, .ty T, _, _, c, rfl, .ty T, (RD.dv S1 r1 e1).ty, kit_ty e2, q _ H1 k1 (.bl c) S1⟩

/-! ### list(x), xs[::-1] -/
def lstD : PyData → Option (List PyData)
  | .list xs => some xs
  | .tuple xs => some xs
  | _ => none
def mUnN (f : PyData → Option (List PyData)) (ma : ME) : MN := fun env st => (ma env st).bind fun a st1 => match val st1 a with
  | some x => R.opt (f x) st1
  | none => .bad
theorem pdn_list (hg : Gl X "list") (hm : X.mg "list" = none) (ha : PD X tb a ma) (he : starEach [a] X.env = (false, eval a X.env) :: starEach [] X.env := by rfl) (hpl : (backTo pos (starEach [] X.env)).any (·.1) = false := by rfl) : PDN X tb (.Call (.Name "list" p) [a] [] pos) (mUnN lstD ma) := by
  obtain ⟨t, pt, ht⟩ := ha
  refine ⟨_, pe_callTy call_list_of hg hm (by decide +kernel) (pa_cons pt pa_nil he) (by decide) (by decide) he hpl, ?_⟩
  intro σ H ρ st env E S ds st' h Q q
  obtain ⟨da, st1, h1, h⟩ := R.bind_ok h
  refine ht σ H ρ st env E S da st1 h1 _ fun v H1 k1 r1 S1 => ?_
  cases e1 : val st1 da with
  | none => rw [e1] at h; cases h
  | some z =>
    rw [e1] at h
    replace h := R.opt_ok h
    obtain ⟨h, rfl⟩ := h
    have dv := RD.dv S1 r1 e1
    have fin : ∀ {c : Addr} {ys : List V}, Drs X.K (hid ρ H1) ys ds → ∀ l, H1 l = none → Q (.ref l) (upd H1 l (.lst ys)) := fun {c ys} r l hl => by
      have z : wo l (upd H1 l (.lst ys)) = H1 := wo_upd hl
      have nl := S1.new hl
      exact q l ys _ (by rw [z]; exact k1) (k1.fresh nl hl) nl upd_same (by rw [z]; exact r) (by rw [z]; exact S1)
    cases z with
    | list xs =>
      cases h
      obtain ⟨c, ys, rfl, s, r⟩ := dv.lst
      exact ⟨c, ys, rfl, .inl (.inl (.inl s)), fin (c := c) r⟩
    | tuple xs =>
      cases h
      obtain ⟨c, ys, rfl, s, r⟩ := dv.tup
      exact ⟨c, ys, rfl, .inr s, fin (c := c) r⟩
    | _ => cases h

/-! ### a, b = x, y -/
def mPar (i j : Nat) (m : MA) : MS := fun env st => RS.of (m env st) fun ds st1 => match ds with
  | [c, d] => .next ((env.set i (some c)).set j (some d)) st1
  | _ => .bad
theorem pds_par {i j : Nat} {x y : Str} {kt k2 pt2} (hc : X.calm = true) (hN : X.N.Nodup) (hi : X.N[i]? = some x) (hj : X.N[j]? = some y) (hij : i ≠ j)
    (hx : X.env.scope.names.lookup x = some .local) (hy : X.env.scope.names.lookup y = some .local) (ha : PDA X tb [a, b] m)
    (hw : swappedStores [.Tuple [.Name x px, .Name y py] kt pt] (.Tuple [a, b] k2 pt2) X.env = pure (some [x, y]))
    (hs : swapsWithSole [.Tuple [.Name x px, .Name y py] kt pt] (.Tuple [a, b] k2 pt2) pos.line X.env = pure false := by rfl) :
    PDS X tb (.Assign [.Tuple [.Name x px, .Name y py] kt pt] (.Tuple [a, b] k2 pt2) pos) (mPar i j m) := by
  obtain ⟨t, pa, qa⟩ := ha
  refine ⟨_, ps_par hc hN hi hj hij hx hy pa hw hs, fun σ H ρ st env E S D hF => ?_⟩
  obtain ⟨ds, st1, h1, hF⟩ := hF.of_ok
  refine qa σ H ρ st env E S ds st1 h1 _ fun vs H1 k1 r1 S1 => ?_
  cases r1 with
  | nil => exact False.elim hF
  | cons r2 t2 =>
    cases t2 with
    | nil => exact False.elim hF
    | cons r3 t3 =>
      cases t3 with
      | cons r4 t4 => exact False.elim hF
      | nil => exact ⟨_, _, rfl, hF _ H1 ρ (.of k1) (((E.mono k1).set r2 i).set r3 j) S1⟩

/-! ### repr -/
/-- what repr writes -/
def reprD : List PyData → Option PyData
  | [d] => if (d.canLay0 && d.showable && decide (d.shown.length ≤ sizeLine) && decide (d.depth ≤ 60)) = true then match d with
      | .list _ => some (.str d.shown)
      | .tuple _ => some (.str d.shown)
      | _ => none
    else none
  | _ => none
theorem cd_repr {k : Nat} (hr : Room k X.A) (hG : X.A.guards = some []) : CallD X (.builtin "repr") reprD := by
  refine ⟨fun vs H Q => ∃ v d, vs = [v] ∧ Dp X.K H v d ∧ d.showable = true ∧ d.hasDict = false ∧ d.shown.length ≤ sizeLine ∧ d.depth ≤ 60 ∧ (∃ c, v = .ref c) ∧ Q (.str d.shown) H, ?_, fun ρ H vs ds d T h hf Q q => ?_⟩
  · intro pins s σ H vs us Q I rv h
    obtain ⟨v, d, rfl, hd, hs, hh, hz, hdp, ⟨c, rfl⟩, q⟩ := h
    cases rv with
    | cons r1 r2 =>
      cases r2
      cases r1
      obtain ⟨as, rd⟩ := Dp.reads I d _ _ hd rfl
      refine repr_of_reads' rd hs (fun z => by rw [hh] at z; cases z) hG (by have := hr.un; omega) (fun _ _ z => z) (fun h' u tk kk => ?_) hz
      exact ⟨.str d.shown, H, I.kept (t' := tk) fun b o e => kk b o e, ⟨u, rfl⟩, q⟩
  · unfold reprD at hf
    split at hf
    · rename_i e
      by_cases hz : (e.canLay0 && e.showable && decide (e.shown.length ≤ sizeLine) && decide (e.depth ≤ 60)) = true
      · rw [if_pos hz] at hf
        have z := Bool.and_eq_true_iff.mp hz
        have z2 := Bool.and_eq_true_iff.mp z.1
        have z3 := Bool.and_eq_true_iff.mp z2.1
        have hnd : e.hasDict = false := PyData.hasDict_of_canLay e z3.1
        cases h with
        | cons h1 h2 =>
          cases h2
          have dp := h1.dp z3.1
          split at hf
          · cases hf
            obtain ⟨c, xs, rfl, _⟩ := h1.lst
            exact ⟨_, _, rfl, dp, z3.2, hnd, of_decide_eq_true z2.2, of_decide_eq_true z.2, ⟨c, rfl⟩, q _ H (Xn.refl H) (.str _)⟩
          · cases hf
            obtain ⟨c, xs, rfl, _⟩ := h1.tup
            exact ⟨_, _, rfl, dp, z3.2, hnd, of_decide_eq_true z2.2, of_decide_eq_true z.2, ⟨c, rfl⟩, q _ H (Xn.refl H) (.str _)⟩
          · cases hf
      · rw [if_neg hz] at hf; cases hf
    · cases hf
end
end Pd

set_option Elab.async false
set_option linter.all false
set_option maxRecDepth 100000
set_option maxHeartbeats 2000000
/-! Pd11: more of the same: a for over a registered list, xs[::-1], text methods. -/
namespace Pd
open PySem PySem.Spec PyProof.Rows L2
section
variable {X : Cx} {x : Str} {p pos pos' : Pos} {a b e : Expr} {es : List Expr} {tb : List Addr} {m : MS} {ma mb : ME} {n : Nat}
open Classical in
/-- the turns of a for over the n-th registered list, which stays as it is -/
noncomputable def loopO (g : PyData → Env → Option Env) (m : MS) (n : Nat) (all : List PyData) : List PyData → Env → Sto → RS
  | [], env, st => if st[n]? = some (.lst all) then .next env st else .bad
  | d :: ds, env, st => if st[n]? = some (.lst all) then match g d env with
      | none => .bad
      | some env1 => match m env1 st with
        | .next env2 st2 => loopO g m n all ds env2 st2
        | .cnt env2 st2 => loopO g m n all ds env2 st2
        | .brk env2 st2 => .next env2 st2
        | r => r
    else .bad
noncomputable def mForO (ma : ME) (g : PyData → Env → Option Env) (m : MS) : MS := fun env st => RS.of (ma env st) fun d st1 => match d with
  | .ref n => match st1[n]? with
    | some (.lst ds) => loopO g m n ds ds env st1
    | _ => .bad
  | _ => .bad
theorem pds_forO {tg : Expr} {body : List Stmt} {g : PyData → Env → Option Env} (hp : PassesOwn (model X.prog X.w) X.A X.env X.xe) (hc : X.calm = true) (hi : PD X tb a ma) (hg : PDG X tg g) (hb : PDB X tb body m)
    (hs : ∀ x, foldedSetIterable a X.env x = pure x := by intro _; rfl) : PDS X tb (.For tg a body [] pos) (mForO ma g m) := by
  obtain ⟨wi, p1, q1⟩ := hi
  obtain ⟨tg', p2, q2⟩ := hg
  obtain ⟨tb', p3, q3⟩ := hb
  refine ⟨_, ps_for hp hc (pi_list p1) p2 p3 hs, fun σ H ρ st env E S D hF => ?_⟩
  obtain ⟨d0, st1, h1, hF⟩ := hF.of_ok
  refine q1 σ H ρ st env E S d0 st1 h1 _ fun v H1 k1 r1 S1 => ?_
  cases d0 with
  | dat x => exact False.elim hF
  | scr x => exact False.elim hF
  | ref n =>
    cases e0 : st1[n]? with
    | none => simp only [e0] at hF; exact False.elim hF
    | some ob =>
      cases ob with
      | dic ks ds => simp only [e0] at hF; exact False.elim hF
      | lst ds =>
        simp only [e0] at hF
        obtain ⟨l, xs0, rfl, el, e3, r3⟩ := S1.lst r1 e0
        refine ⟨l, rfl, ⟨xs0, .inl (.inl e3)⟩, ?_⟩
        have at_ : ∀ {ρ' : List Addr} {H' : Hp} {st' : Sto}, Kx ρ ρ' H1 H' → SR X.K tb ρ' H' st' → st'[n]? = some (.lst ds) → ∃ xs, H' l = some (.lst xs) ∧ Drs X.K (hid ρ' H') xs ds := fun {ρ' H' st'} k S' e => by
          obtain ⟨ν, rfl, _⟩ := k.pre
          obtain ⟨hl, _⟩ := List.getElem?_eq_some_iff.mp el
          exact S'.obj n l _ (by rw [List.getElem?_append_left hl]; exact el) e
        refine ⟨fun i m' σ' H' => m' + i = ds.length ∧ ∃ ρ' st' env', Kx ρ ρ' H1 H' ∧ ER X.K ρ' H' σ' env' ∧ SR X.K tb ρ' H' st' ∧ Fin X.K tb ρ' H' D (loopO g m n ds (ds.drop i) env' st'), ⟨ds.length, by simp, ρ, st1, env, Kx.refl ρ H1, E.mono k1, S1, hF.kp k1 S1.tks⟩, ?_⟩
        rintro i m' σ' H' ⟨hm, ρ', st', env', k', E', S', F'⟩
        have same : st'[n]? = some (.lst ds) := by
          cases hdd : ds.drop i with
          | nil =>
            rw [hdd] at F'
            by_cases z : st'[n]? = some (.lst ds)
            · exact z
            · simp only [loopO, if_neg z] at F'; exact False.elim F'
          | cons d rest =>
            rw [hdd] at F'
            by_cases z : st'[n]? = some (.lst ds)
            · exact z
            · simp only [loopO, if_neg z] at F'; exact False.elim F'
        obtain ⟨xs, hx, rx⟩ := at_ k' S' same
        have sq : SqL X.K H' l xs := .inl (.inl hx)
        by_cases hlt : i < ds.length
        · have hd : ds[i]? = some ds[i] := List.getElem?_eq_getElem hlt
          obtain ⟨v, hv, rv⟩ := rx.get hd
          have hdr : ds.drop i = ds[i] :: ds.drop (i + 1) := List.drop_eq_getElem_cons hlt
          rw [hdr] at F'
          refine .inr ⟨⟨xs, v, sq, hv⟩, fun σ2 H2 => ∃ ρ2 st2 env2, Kx ρ ρ2 H1 H2 ∧ ER X.K ρ2 H2 σ2 env2 ∧ SR X.K tb ρ2 H2 st2 ∧ Fin X.K tb ρ2 H2 D (loopO g m n ds (ds.drop (i + 1)) env2 st2), fun σ2 H2 hN => ⟨m' - 1, by omega, by omega, hN⟩, fun y H2 hy => ?_⟩
          obtain ⟨e1, hy2⟩ := hy
          subst e1
          have e2 := hy2 xs sq
          rw [hv] at e2
          cases e2
          simp only [loopO, if_pos same] at F'
          cases hg1 : g ds[i] env' with
          | none => simp only [hg1] at F'; exact False.elim F'
          | some env1 =>
            simp only [hg1] at F'
            refine q2 σ' _ ρ' env' env1 v ds[i] E' rv hg1 _ fun σ3 E3 => ?_
            refine q3 σ3 _ ρ' st' env1 E3 S' _ ?_
            cases hb1 : m env1 st' with
            | next e4 s4 =>
              simp only [hb1] at F'
              exact fun σ4 H4 ρ4 k4 E4 S4 => ⟨ρ4, s4, e4, k'.trans k4 S'.tks, E4, S4, F'.kx k4 S4.tks⟩
            | cnt e4 s4 =>
              simp only [hb1] at F'
              exact fun σ4 H4 ρ4 k4 E4 S4 => ⟨ρ4, s4, e4, k'.trans k4 S'.tks, E4, S4, F'.kx k4 S4.tks⟩
            | brk e4 s4 =>
              simp only [hb1] at F'
              exact fun σ4 H4 ρ4 k4 E4 S4 => F' σ4 H4 ρ4 k4 E4 S4
            | ret d s4 => simp only [hb1] at F'; exact F'
            | retN d s4 => simp only [hb1] at F'; exact F'
            | exc c fs s4 => simp only [hb1] at F'; exact F'
            | bad => simp only [hb1] at F'; exact F'
        · have hi' : i = ds.length := by omega
          subst hi'
          rw [List.drop_length] at F'
          simp only [loopO, if_pos same] at F'
          exact .inl ⟨⟨xs, sq, by rw [rx.len]; exact Nat.le_refl _⟩, F' σ' H' ρ' (Kx.refl ρ' H') E' S'⟩
/-- xs[::-1] -/
def revD : PyData → Option (List PyData)
  | .list xs => some xs.reverse
  | _ => none
theorem pdn_rev {k : Nat} {p1 p2 p3 : Pos} (ha : PD X tb a ma) : PDN X tb (.Subscript a (.Slice none none (some (.UnaryOp .USub (.Constant (.int 1) k p1) p2)) p3) pos) (mUnN revD ma) := by
  obtain ⟨t, pt, ht⟩ := ha
  refine ⟨_, pe_revL pt, ?_⟩
  intro σ H ρ st env E S ds st' h Q q
  obtain ⟨da, st1, h1, h⟩ := R.bind_ok h
  refine ht σ H ρ st env E S da st1 h1 _ fun v H1 k1 r1 S1 => ?_
  cases e1 : val st1 da with
  | none => rw [e1] at h; cases h
  | some z =>
    rw [e1] at h
    replace h := R.opt_ok h
    obtain ⟨h, rfl⟩ := h
    have dv := RD.dv S1 r1 e1
    cases z with
    | list xs =>
      cases h
      obtain ⟨c, ys, rfl, s, r⟩ := dv.lst
      refine ⟨c, ys, rfl, .inl (.inl s), fun l hl => ?_⟩
      have z : wo l (upd H1 l (.lst ys.reverse)) = H1 := wo_upd hl
      have nl := S1.new hl
      exact q l _ _ (by rw [z]; exact k1) (k1.fresh nl hl) nl upd_same (by rw [z]; exact r.rev) (by rw [z]; exact S1)
    | _ => cases h
end
end Pd

set_option Elab.async false
set_option linter.all false
set_option maxRecDepth 100000
set_option maxHeartbeats 2000000
/-! Pd12: the law's own call, at the ground where no repr is under way. -/
namespace Pd
open PySem PySem.Spec PyProof.Rows L2 GxR

/-- the abstract heap at the law's entry: the script as it lies, the tables of code objects -/
def entry (a : Addr) (sc : Option HO) (ts : List Addr) : Hp := fun b => if b ∈ ts then some (.tbl #[]) else if b = a then sc else none
section
variable {P : Program} {w : World} {K : Frag} {mg mb : Str → Option Value} {k : Nat} {fa a : Addr} {cs : List (Addr × Addr)} {fd : FuncData} {x : Str} {sp : Sp} {s : Shared} {vs : List Value} {ns : List Int}
theorem law_goG (kIn : K.In s.heap) (gl : s.heap.Ns mainGlobals mg) (bl : s.heap.Ns builtinsNs mb) (bb : ∀ y : Str, y ≠ "__name__" → mb y = bootBuiltins y) (lim : s.heap.NoLimit) (gens : s.gens = #[])
    (tabs : ∀ p ∈ cs, s.heap.get? p.2 = some { cls := .none, data := .fields #[] }) (tabsK : ∀ p ∈ cs, K.lookup p.2 = none) (codes : ∀ p ∈ cs, PySem.W.CodeHd s.heap p.1 p.2)
    (main : ∃ (bm : Addr) (ob : Obj), mg "__builtins__" = some (.ref bm) ∧ bm ≠ builtinsNs ∧ s.heap.get? bm = some ob ∧ ob.cls = .type "module" ∧ ob.dict = some builtinsNs ∧ ob.data = .plain)
    (scr : s.heap.get? a = some { cls := .type "list", data := .seq vs.toArray }) (isI : IntsAre vs ns) (few : ns.length ≤ sizeLine) (room : Room k callerA)
    (F : ∀ base : Heap, K.In base → base.Ns mainGlobals mg → (∀ p ∈ cs, TabB base mg p.1 p.2) → FnG P w K mg base CX0 k fa fd [x] sp) (bind : ∀ (s' : Shared) (u : Value), BindsTo s' fd ⟨[u], []⟩ [(x, u)])
    (want : ∀ H : Hp, (∀ p ∈ cs, H p.2 = some (.tbl #[])) → SqL K H a (ns.map V.int) → sp [.ref a] H (fun v _ => v = .bl true) E0) :
    codeAny (model P w) callerA (.call (.ref fa) ⟨[.ref a], []⟩) (fun r s' => r = .ok (.ret (.bool true)) ∧ OldK s.heap s'.heap ∧ s'.os = s.os ∧ AllBare s'.gens) s := by
  let ts := cs.map (·.2)
  have inT : ∀ {b : Addr}, b ∈ ts → ∃ p ∈ cs, p.2 = b := fun {b} hb => by
    obtain ⟨p, hp, e⟩ := List.mem_map.mp hb
    exact ⟨p, hp, e⟩
  have atT : ∀ {b : Addr}, b ∈ ts → s.heap.get? b = some { cls := .none, data := .fields #[] } := fun {b} hb => by
    obtain ⟨p, hp, e⟩ := inT hb
    rw [← e]
    exact tabs p hp
  have aT : a ∉ ts := fun z => by
    have h1 := atT z
    rw [scr] at h1
    injection h1 with h2
    injection h2 with _ _ h3
    cases h3
  -- the script: an object of the module, or an object that is locked
  obtain ⟨sc, hscL, hscO, hscF⟩ : ∃ sc : Option HO, (SqL K (entry a sc ts) a (ns.map V.int)) ∧ (∀ u, sc = some u → K.lookup a = none ∧ ObjOk P w (entry a sc ts) s.heap a u) ∧ (∀ u, sc = some u → ∃ o ys, u = .frz o (.lst ys) ∧ s.heap.get? a = some o) := by
    have hv := vals_ints isI
    cases hk : K.lookup a with
    | some o =>
      have e1 := kIn a o hk
      rw [scr] at e1
      cases e1
      exact ⟨none, .inr ⟨_, _, _, hk, rfl, rfl, rfl, by rw [List.size_toArray, isI.length]; exact few, hv⟩, fun u z => (nomatch z), fun u z => (nomatch z)⟩
    | none =>
      let o : Obj := { cls := .type "list", data := .seq vs.toArray }
      refine ⟨some (.frz o (.lst (ns.map V.int))), .inl (.inr ⟨o, ?_⟩), fun u z => ?_, fun u z => ?_⟩
      · show (if a ∈ ts then _ else if a = a then _ else _) = _
        rw [if_neg aT, if_pos rfl]
      · cases z
        exact ⟨rfl, scr, by rw [List.length_map]; exact few, vs, _, hv, scr⟩
      · cases z
        exact ⟨o, _, rfl, scr⟩
  -- what the entry's heap tells at each place
  let H0 : Hp := entry a sc ts
  have H0t : ∀ {b : Addr}, b ∈ ts → H0 b = some (.tbl #[]) := fun hb => if_pos hb
  have H0a : ∀ {b : Addr} {u : HO}, b ∉ ts → H0 b = some u → b = a ∧ sc = some u := fun {b u} nb e => by
    have e1 : (if b = a then sc else none) = some u := (if_neg nb).symm.trans e
    by_cases hb : b = a
    · rw [if_pos hb] at e1
      exact ⟨hb, e1⟩
    · rw [if_neg hb] at e1
      cases e1
  have hok : HOk P w H0 s.heap := fun b u e => by
    by_cases hb : b ∈ ts
    · rw [H0t hb] at e
      cases e
      exact atT hb
    · obtain ⟨rfl, e2⟩ := H0a hb e
      exact (hscO u e2).2
  -- an object that is neither a sequence nor an empty record is not tracked there
  have off : ∀ {b : Addr} {o : Obj}, s.heap.get? b = some o → (∀ us n, o.data ≠ .seq us n) → o.data ≠ .fields #[] → H0 b = none := fun {b o} e n1 n2 => by
    cases q : H0 b with
    | none => rfl
    | some u =>
      by_cases hb : b ∈ ts
      · rw [atT hb] at e
        cases e
        exact absurd rfl n2
      · obtain ⟨rfl, _⟩ := H0a hb q
        rw [scr] at e
        cases e
        exact absurd rfl (n1 _ _)
  have low : ∀ {b : Addr} {o : Obj}, s.heap.get? b = some o → H0 b = none → (hidT s.heap H0).get? b = some o := fun e n => hidT_get e n
  have nsLow : ∀ {b : Addr} {m : Str → Option Value}, s.heap.Ns b m → (hidT s.heap H0).Ns b m := fun {b m} ⟨o, es, ep, e, d, r⟩ =>
    ⟨o, es, ep, low e (off e (fun us n z => by rw [d] at z; cases z) fun z => by rw [d] at z; cases z), d, r⟩
  have kLow : K.In (hidT s.heap H0) := fun b o e => low (kIn b o e) (by
    cases q : H0 b with
    | none => rfl
    | some u =>
      by_cases hb : b ∈ ts
      · obtain ⟨p, hp, ep⟩ := inT hb
        rw [← ep, tabsK p hp] at e
        cases e
      · obtain ⟨rfl, e2⟩ := H0a hb q
        rw [(hscO u e2).1] at e
        cases e)
  have modL : L2.Mod K mg (hidT s.heap H0) := ⟨kLow, nsLow gl, ⟨mb, nsLow bl, bb⟩, by
    obtain ⟨mc, h1, h2⟩ := lim
    exact ⟨mc, nsLow h1, h2⟩⟩
  have tabL : ∀ p ∈ cs, TabB (hidT s.heap H0) mg p.1 p.2 := fun p hp => by
    have at2 := tabs p hp
    refine ⟨?_, ?_, fun z => ?_⟩
    · obtain ⟨o, us, fl, tf, fg, tg, inF, tx, tt, e1, c1, c2, c3, rest⟩ := codes p hp
      refine ⟨o, us, fl, tf, fg, tg, inF, tx, tt, low e1 (off e1 (fun ws n z => by rw [c2] at z; cases z) fun z => ?_), c1, c2, c3, rest⟩
      rw [c2] at z
      cases z
      simp at c3
    · obtain ⟨bm, ob, b1, b2, b3, b4, b5, b6⟩ := main
      refine ⟨bm, ob, b1, b2, fun z => ?_, fun z => ?_, low b3 (off b3 (fun ws n z => by rw [b6] at z; cases z) fun z => by rw [b6] at z; cases z), b4, b5, b6⟩
      · obtain ⟨o, es, ep, e, hd, _⟩ := gl
        rw [z, e] at b3
        cases b3
        rw [hd] at b6
        cases b6
      · rw [z, at2] at b3
        cases b3
        cases b6
    · obtain ⟨o, es, ep, e, hd, _⟩ := gl
      rw [z, at2] at e
      cases e
      cases hd
  have env0 : Env0 P w K mg (hidT s.heap H0) callerA [] s H0 := ⟨rfl, modL, fun b o e => of_hidT e, Nat.le_of_eq (hidT_size _ _), trivial, fun b hb => (nomatch hb), hok, .of_eq gens⟩
  refine codeAny_mono ((F _ kLow (nsLow gl) tabL).go callerA [] s H0 ⟨[.ref a], []⟩ [.ref a] [.ref a] _ _ room rfl env0 (bind s (.ref a)) (.cons rfl .nil) (want H0 (fun p hp => H0t (List.mem_map.mpr ⟨p, hp, rfl⟩)) hscL)) fun r s' h => ?_
  match r, h with
  | .error e, h => exact h.elim
  | .ok .next, h => exact h.elim
  | .ok .brk, h => exact h.elim
  | .ok .cont, h => exact h.elim
  | .ok (.ret u), h =>
    obtain ⟨v, H', os, bare, un, hok', rv, qv⟩ := h
    cases (show v = .bl true from qv)
    cases (show u = Value.bool true from rv)
    have stays : ∀ b o, b ∉ ts → s.heap.get? b = some o → s'.heap.get? b = some o := fun b o nb e => by
      cases q : H0 b with
      | none => exact un.keep b o e q (fun z => (nomatch z)) (fun z => (nomatch z))
      | some y =>
        obtain ⟨rfl, e2⟩ := H0a nb q
        obtain ⟨o2, ys, rfl, e3⟩ := hscF y e2
        have e4 := hok' _ _ (un.frzs _ o2 _ q)
        rw [e] at e3
        cases e3
        exact e4.1
    have grew : ∀ p ∈ cs, ∃ more : Array Value, s'.heap.get? p.2 = some { cls := .none, data := .fields more } := fun p hp => by
      obtain ⟨more, z⟩ := un.tbls p.2 #[] (H0t (List.mem_map.mpr ⟨p, hp, rfl⟩))
      exact ⟨_, hok' p.2 _ z⟩
    refine ⟨rfl, ⟨fun b o e => ?_, fun b o e => ?_⟩, os, bare⟩
    · by_cases hb : b ∈ ts
      · obtain ⟨p, hp, rfl⟩ := inT hb
        obtain ⟨more, hm⟩ := grew p hp
        rw [tabs p hp] at e
        cases e
        exact .inr (.inl ⟨((codes p hp).tab (tabs p hp)).isCodeTable, rfl, #[], more, rfl, by rw [Array.empty_append]; exact hm⟩)
      · exact .inl (stays b o hb e)
    · by_cases hb : b ∈ ts
      · obtain ⟨p, hp, rfl⟩ := inT hb
        obtain ⟨more, hm⟩ := grew p hp
        exact ⟨_, hm⟩
      · exact ⟨o, stays b o hb e⟩
end
/-- what is known of the law where the head has run -/
def LawG (l : PySem.W.OpenLaw) (w : World) (K : Frag) (k n : Nat) (x : Str) (mg : Str → Option Value) (fa : Addr) (h : Heap) : Prop :=
  ∃ (fd : FuncData) (cs : List (Addr × Addr)) (m : MF), (∀ p ∈ cs, h.get? p.2 = some { cls := .none, data := .fields #[] }) ∧ (∀ p ∈ cs, K.lookup p.2 = none) ∧ (∀ p ∈ cs, PySem.W.CodeHd h p.1 p.2) ∧ (∀ (s : Shared) (u : Value), BindsTo s fd ⟨[u], []⟩ [(x, u)]) ∧
    (∀ ns : List Int, ns.length ≤ n → (∀ z ∈ ns, Builtin.Int.intBits z ≤ 1048576) → ∃ st, m [.scr ns] [] = .ok (.dat (.bool true)) st) ∧
    ∀ base : Heap, K.In base → base.Ns mainGlobals mg → (∀ p ∈ cs, TabB base mg p.1 p.2) → FnG l.prog w K mg base CX0 k fa fd [x] (spM K (cs.map (·.2)) 1 m)
theorem walkG {l : PySem.W.OpenLaw} {n k : Nat} {q : Program} {loose : List Str} {XP : (Str → Option Value) → Heap → Prop} {YP : World → Heap → Prop} {d : DefRec} {K : Params → Frag} {x : Str}
    (hn : l.most = some n) (hn2 : n ≤ sizeLine) (hdf : d.params.defaults = []) (hr : Room k callerA) (hY : ∀ (w : World) (h : Heap), YP w h → (K w.params).In h)
    (F : ∀ (w : World) (mg : Str → Option Value) (fa : Addr) (h : Heap), YP w h → (K w.params).In h → h.Ns mainGlobals mg → mg d.name = some (.ref fa) → LawG l w (K w.params) k n x mg fa h) :
    PySem.W.WalkO q loose XP YP l.row.toRowW d [] (fun f vs => PySem.call f vs) := by
  refine Att.attach_callB hn hdf fun w s₀ s₁ mg mb fa o pm cd doc a vs ns G Y ho hd hcd hmg hobj hints hlen hbits hg => ?_
  obtain ⟨fd, cs, m, hT, nT, hC, hb, hm, hF⟩ := F w mg fa _ Y (hY w _ Y) G.T.g hmg
  refine law_goG (hY w _ Y) G.T.g G.T.b G.T.builtins G.T.nolimit hg hT nT hC G.T.bmain hobj hints (Nat.le_trans hlen hn2) hr hF hb fun H hH hS => ?_
  obtain ⟨st, e⟩ := hm ns hlen hbits
  have hh : hid [] H = H := by
    funext b
    exact hid_out (fun z => (nomatch z))
  refine ⟨rfl, [], [], [.scr ns], .cons ⟨a, rfl, by rw [hh]; exact hS⟩ .nil, ⟨rfl, List.nodup_nil, fun i b u z => by simp at z, fun P hP => ?_⟩, ?_⟩
  · obtain ⟨p, hp, rfl⟩ := List.mem_map.mp hP
    exact ⟨#[], hH p hp, trivial⟩
  · rw [e]
    intro v H' _ r _
    cases r
    rfl
end Pd

set_option Elab.async false
set_option linter.all false
set_option maxRecDepth 100000
set_option maxHeartbeats 2000000
/-! Pd13: name += e, name = [comprehension], while, pop, index. -/
namespace Pd
open PySem PySem.Spec PyProof.Rows L2
section
variable {X : Cx} {x : Str} {p pos pos' apos cpos : Pos} {a b c e o : Expr} {es : List Expr} {tb : List Addr} {m : MS} {ma mb me mo : ME} {n i : Nat}
/-- name op= e, ints -/
def mAugN (f : Int → Int → Int) (i : Nat) (me : ME) : MS := fun env st => match env[i]? with
  | some (some (.dat (.int k))) => RS.of (me env st) fun d st1 => match d with
    | .dat (.int j) => .next (env.set i (some (.dat (.int (f k j))))) st1
    | _ => .bad
  | _ => .bad
theorem pds_augN {op : Operator} {f : Int → Int → Int} (hp : PIp X op (ipI f)) (hN : X.N.Nodup) (hi : X.N[i]? = some x) (hx : Loc X.env.scope x) (he : PD X tb e me) (hf : X.fn x = true ∨ X.env.scope.names.lookup x = some .local := by first | exact .inl rfl | exact .inr rfl | assumption) :
    PDS X tb (.AugAssign (.Name x pos') op e pos) (mAugN f i me) := by
  obtain ⟨t, p, q⟩ := he
  refine ⟨_, ps_aug hN hi hx p hp hf, fun σ H ρ st env E S D hF => ?_⟩
  cases e1 : env[i]? with
  | none => simp only [mAugN, e1] at hF; exact False.elim hF
  | some o1 =>
    cases o1 with
    | none => simp only [mAugN, e1] at hF; exact False.elim hF
    | some d1 =>
      obtain ⟨v, hv, rv⟩ := E.get i d1 e1
      cases d1 with
      | ref k => simp only [mAugN, e1] at hF; exact False.elim hF
      | scr k => simp only [mAugN, e1] at hF; exact False.elim hF
      | dat y =>
        cases y with
        | int k =>
          simp only [mAugN, e1] at hF
          obtain ⟨d, st1, h1, hF⟩ := hF.of_ok
          refine ⟨v, hv, q σ H ρ st env E S d st1 h1 _ fun w H1 k1 r1 S1 => ?_⟩
          cases rv
          cases d with
          | ref k => exact False.elim hF
          | scr k => exact False.elim hF
          | dat y =>
            cases y with
            | int j =>
              cases r1
              exact ⟨k, j, rfl, rfl, hF _ H1 ρ (.of k1) ((E.mono k1).set (d := .dat (.int (f k j))) (.int _) i) S1⟩
            | _ => exact False.elim hF
        | _ => simp only [mAugN, e1] at hF; exact False.elim hF
/-- name = [e for ..] -/
theorem pds_setLc {y : Str} {py : Pos} {elt tg iter : Expr} {ifs : List Expr} {scope : Scope} {own : List (Str × Nat)} {spos : Pos} {mi : MN} {g : PyData → Env → Option Env} {tt : MT} {te : ME} (hc : X.calm = true) (hN : X.N.Nodup) (hy : X.N[i]? = some y) (hyl : X.env.scope.names.lookup y = some .local)
    (hsw : swapsWith (.ListComp elt [⟨tg, iter, ifs, 0⟩] scope pos) (some (.Name y py)) spos.line X.env = pure true) (hi : PDI X tb tg iter mi) (ok : BlkOk X.N X.env.scope scope own)
    (hg : ∀ (s : Shared) (H : Hp) (C : Addr) (cl : List (Str × Addr)) (fp : List Addr), PDGw (X.blk s H scope (compEnvC scope cl C X.env) fp) tg g (own.map (·.2))) (ht : ∀ (s : Shared) (H : Hp) (C : Addr) (cl : List (Str × Addr)) (fp : List Addr), PDTs (X.blk s H scope (compEnvC scope cl C X.env) fp) tb ifs tt)
    (he : ∀ (s : Shared) (H : Hp) (C : Addr) (cl : List (Str × Addr)) (fp : List Addr), PD (X.blk s H scope (compEnvC scope cl C X.env) fp) tb elt te) (hs : ∀ x, foldedSetIterable iter X.env x = pure x := by intro _; rfl) :
    PDS X tb (.Assign [.Name y py] (.ListComp elt [⟨tg, iter, ifs, 0⟩] scope pos) spos) (mSet i (mNew (mLc mi g tt te (own.map (·.2))))) := by
  obtain ⟨wi, pi, qi⟩ := hi
  refine ⟨_, ps_setLc (g := cG X.K g (own.map (fun (z : Str × Nat) => z.2))) (tt := cT X.K tb tt) (te := cE X.K tb te) hc hN hy hyl hsw pi ok (fun s H C cl fp => hg s H C cl fp) (fun s H C cl fp => ht s H C cl fp) (fun s H C cl fp => (he s H C cl fp).c) hs, fun σ H ρ st env E S D hF => ?_⟩
  obtain ⟨d, st1, h1, hF⟩ := hF.of_ok
  obtain ⟨ds, st2, h2, h1⟩ := R.bind_ok h1
  cases h1
  refine tells_lc qi σ H ρ st env E S ds _ h2 _ fun a xs H1 k1 n1 na e1 r1 S1 => ?_
  have x1 := wo_xn a H1
  have kk := k1.trans (x1.kp ρ)
  exact hF _ H1 ρ (.of kk) ((E.mono kk).set (d := .dat (.list ds)) (.lst (by rw [hid_out na]; exact e1) (r1.mono (x1.kp ρ))) i) (S1.xn x1)
theorem pds_regLc {y : Str} {py : Pos} {elt tg iter : Expr} {ifs : List Expr} {scope : Scope} {own : List (Str × Nat)} {spos : Pos} {mi : MN} {g : PyData → Env → Option Env} {tt : MT} {te : ME} (hc : X.calm = true) (hN : X.N.Nodup) (hy : X.N[i]? = some y) (hyl : X.env.scope.names.lookup y = some .local)
    (hsw : swapsWith (.ListComp elt [⟨tg, iter, ifs, 0⟩] scope pos) (some (.Name y py)) spos.line X.env = pure true) (hi : PDI X tb tg iter mi) (ok : BlkOk X.N X.env.scope scope own)
    (hg : ∀ (s : Shared) (H : Hp) (C : Addr) (cl : List (Str × Addr)) (fp : List Addr), PDGw (X.blk s H scope (compEnvC scope cl C X.env) fp) tg g (own.map (·.2))) (ht : ∀ (s : Shared) (H : Hp) (C : Addr) (cl : List (Str × Addr)) (fp : List Addr), PDTs (X.blk s H scope (compEnvC scope cl C X.env) fp) tb ifs tt)
    (he : ∀ (s : Shared) (H : Hp) (C : Addr) (cl : List (Str × Addr)) (fp : List Addr), PD (X.blk s H scope (compEnvC scope cl C X.env) fp) tb elt te) (hs : ∀ x, foldedSetIterable iter X.env x = pure x := by intro _; rfl) :
    PDS X tb (.Assign [.Name y py] (.ListComp elt [⟨tg, iter, ifs, 0⟩] scope pos) spos) (mReg i (mLc mi g tt te (own.map (·.2)))) := by
  obtain ⟨wi, pi, qi⟩ := hi
  refine ⟨_, ps_setLc (g := cG X.K g (own.map (fun (z : Str × Nat) => z.2))) (tt := cT X.K tb tt) (te := cE X.K tb te) hc hN hy hyl hsw pi ok (fun s H C cl fp => hg s H C cl fp) (fun s H C cl fp => ht s H C cl fp) (fun s H C cl fp => (he s H C cl fp).c) hs, fun σ H ρ st env E S D hF => ?_⟩
  obtain ⟨ds, st1, h1, hF⟩ := hF.of_ok
  refine tells_lc qi σ H ρ st env E S ds _ h1 _ fun a xs H1 k1 n1 na e1 r1 S1 => ?_
  refine hF _ H1 (ρ ++ [a]) (Kx.reg k1 n1) (ER.set (ER.reg (E.mono k1)) ?_ i) (S1.reg na e1 r1)
  exact ⟨a, by rw [← S1.len, List.getElem?_append_right (Nat.le_refl _), Nat.sub_self] <;> rfl, rfl⟩
/-- while, at most so many turns -/
def loopW (c : MT) (m : MS) : Nat → Env → Sto → RS
  | 0, _, _ => .bad
  | k + 1, env, st => RS.of (c env st) fun b st1 => if b = true then match m env st1 with
      | .next e s => loopW c m k e s
      | .cnt e s => loopW c m k e s
      | .brk e s => .next e s
      | r => r
    else .next env st1
def mWhile (k : Nat) (c : MT) (m : MS) : MS := fun env st => loopW c m k env st
theorem pds_while {k : Nat} {test : Expr} {body : List Stmt} {mc : MT} (hp : PassesOwn (model X.prog X.w) X.A X.env X.xe) (hc : PDT X tb test mc) (hb : PDB X tb body m) : PDS X tb (.While test body [] pos) (mWhile k mc m) := by
  obtain ⟨tc, p1, q1⟩ := hc
  obtain ⟨t2, p2, q2⟩ := hb
  refine ⟨_, ps_while hp p1 p2, fun σ H ρ st env E S D hF => ?_⟩
  refine ⟨fun j σ' H' => ∃ ρ' st' env', Kx ρ ρ' H H' ∧ ER X.K ρ' H' σ' env' ∧ SR X.K tb ρ' H' st' ∧ Fin X.K tb ρ' H' D (loopW mc m j env' st'), ⟨k, ρ, st, env, Kx.refl ρ H, E, S, hF⟩, ?_⟩
  rintro j σ' H' ⟨ρ', st', env', k', E', S', F'⟩
  cases j with
  | zero => exact False.elim F'
  | succ j =>
    simp only [loopW] at F'
    obtain ⟨b, st1, h1, F'⟩ := F'.of_ok
    refine q1 σ' H' ρ' st' env' E' S' b st1 h1 _ fun H1 k1 S1 => ?_
    have F1 := F'.kp k1 S1.tks
    have kk := k'.trans (.of k1) S'.tks
    cases b with
    | false =>
      rw [if_neg Bool.false_ne_true] at F1 ⊢
      exact F1 σ' H1 ρ' (Kx.refl ρ' H1) (E'.mono k1) S1
    | true =>
      rw [if_pos rfl] at F1 ⊢
      refine ⟨fun σ2 H2 => ∃ ρ2 st2 env2, Kx ρ ρ2 H H2 ∧ ER X.K ρ2 H2 σ2 env2 ∧ SR X.K tb ρ2 H2 st2 ∧ Fin X.K tb ρ2 H2 D (loopW mc m j env2 st2), fun σ2 H2 hN => ⟨j, Nat.lt_succ_self j, hN⟩, ?_⟩
      refine q2 σ' H1 ρ' st1 env' (E'.mono k1) S1 _ ?_
      cases hb1 : m env' st1 with
      | next e4 s4 =>
        simp only [hb1] at F1
        exact fun σ4 H4 ρ4 k4 E4 S4 => ⟨ρ4, s4, e4, kk.trans k4 S1.tks, E4, S4, F1.kx k4 S4.tks⟩
      | cnt e4 s4 =>
        simp only [hb1] at F1
        exact fun σ4 H4 ρ4 k4 E4 S4 => ⟨ρ4, s4, e4, kk.trans k4 S1.tks, E4, S4, F1.kx k4 S4.tks⟩
      | brk e4 s4 =>
        simp only [hb1] at F1
        exact fun σ4 H4 ρ4 k4 E4 S4 => F1 σ4 H4 ρ4 k4 E4 S4
      | ret d s4 => simp only [hb1] at F1; exact F1
      | retN d s4 => simp only [hb1] at F1; exact F1
      | exc c fs s4 => simp only [hb1] at F1; exact F1
      | bad => simp only [hb1] at F1; exact F1
/-- xs.pop() -/
def mPop (mo : ME) : ME := fun env st => (mo env st).bind fun d st1 => match d with
  | .ref n => match st1[n]? with
    | some (.lst ds) => match ds[ds.length - 1]? with
      | some y => .ok (.dat y) (st1.set n (.lst ds.dropLast))
      | none => .bad
    | _ => .bad
  | _ => .bad
theorem Drs.dropLast {K : Frag} {H : Hp} {vs : List V} {ds : List PyData} (h : Drs K H vs ds) : Drs K H vs.dropLast ds.dropLast := by
  rw [List.dropLast_eq_take, List.dropLast_eq_take, h.len]
  exact h.take _
theorem pd_pop (ho : PD X tb o mo) (hbase : attributeBase o "pop" X.env (eval o X.env) = eval o X.env := by rfl) (hline : (apos.endLine == cpos.line) = true := by rfl) : PD X tb (.Call (.Attribute o "pop" apos) [] [] cpos) (mPop mo) := by
  obtain ⟨t1, p1, q1⟩ := ho
  refine ⟨_, pe_bm0 PySem.F.plainAttrs_list PySem.F.slot_list_pop PySem.F.type_list_pop mt_pop p1 hbase hline, ?_⟩
  intro σ H ρ st env E S d st' h Q q
  obtain ⟨d1, st1, h1, h⟩ := R.bind_ok h
  refine q1 σ H ρ st env E S d1 st1 h1 _ fun v H1 k1 r1 S1 => ?_
  cases d1 with
  | dat x => cases h
  | scr x => cases h
  | ref n =>
    cases e0 : st1[n]? with
    | none => simp only [e0] at h; cases h
    | some ob =>
      cases ob with
      | dic ks es => simp only [e0] at h; cases h
      | lst ds =>
        cases e1 : ds[ds.length - 1]? with
        | none => simp only [e0, e1] at h; cases h
        | some y =>
          simp only [e0, e1] at h
          cases h
          refine ⟨refTy S1 r1 e0, ?_⟩
          obtain ⟨l, xs, rfl, el, e3, r3⟩ := S1.lst r1 e0
          have hm : l ∈ ρ := List.mem_of_getElem? el
          obtain ⟨w, hw, rw'⟩ := r3.get e1
          refine ⟨l, xs, w, rfl, rfl, e3, by rw [r3.len]; exact hw, ?_⟩
          refine q _ _ (k1.trans (Kp.put hm)) ?_ (S1.put el r3.dropLast)
          show Dr X.K (hid ρ (upd H1 l _)) w y
          rw [hid_updI hm]
          exact rw'
/-! ### methods of texts -/
def MtD (X : Cx) (id : String) (f : PyData → List PyData → Option PyData) : Prop :=
  ∃ r : V → List V → Hp → VK → Prop, MtR X id r ∧ ∀ (ρ : List Addr) (H : Hp) (z : Str) (vs : List V) (ds : List PyData) (d : PyData), Tk ρ H → Dvs X.K ρ H vs ds → f (.str z) ds = some d → ∀ Q : VK, (∀ v H', Xn H H' → Dr X.K (hid ρ H') v d → Q v H') → r (.str z) vs H Q
def mMt (f : PyData → List PyData → Option PyData) (mo : ME) (m : MA) : ME := fun env st => (mo env st).bind fun d st1 => match d with
  | .dat (.str z) => (m env st1).bind fun ds st2 => match vals st2 ds with
    | some xs => R.opt ((f (.str z) xs).map D.dat) st2
    | none => .bad
  | _ => .bad
theorem pd_mt {m : MA} {id : String} {name : Str} {f : PyData → List PyData → Option PyData} (slot : Slot "str" name id) (hty : typeOf (.builtin id) = pure (.type "method_descriptor")) (hm : MtD X id f) (ho : PD X tb o mo) (ha : PDA X tb (e :: es) m)
    (hbase : attributeBase o name X.env (eval o X.env) = eval o X.env := by rfl)
    (hfew : ((backTo cpos (starEach (e :: es) X.env)).all (fun x => !x.1) && (backToKw cpos (keywordEach [] X.env)).all (fun x => x.1.isSome)
      && decide ((e :: es).length + ([] : List Keyword).length + (if ([] : List Keyword).isEmpty then 0 else 1) < 30)) = true := by rfl)
    (hline : (apos.endLine == cpos.line) = true := by rfl) (hs : starEach (e :: es) X.env = (false, eval e X.env) :: starEach es X.env := by rfl) (hplain : (backTo cpos (starEach es X.env)).any (·.1) = false := by rfl) :
    PD X tb (.Call (.Attribute o name apos) (e :: es) [] cpos) (mMt f mo m) := by
  obtain ⟨t1, p1, q1⟩ := ho
  obtain ⟨t2, p2, q2⟩ := ha
  obtain ⟨r, hr, hd⟩ := hm
  refine ⟨_, pe_bm PySem.F.plainAttrs_str slot hty hr p1 p2 hbase hfew hline hs hplain, ?_⟩
  intro σ H ρ st env E S d st' h Q q
  obtain ⟨d1, st1, h1, h⟩ := R.bind_ok h
  refine q1 σ H ρ st env E S d1 st1 h1 _ fun v H1 k1 r1 S1 => ?_
  cases d1 with
  | ref n => cases h
  | scr n => cases h
  | dat y =>
    cases y with
    | str z =>
      obtain ⟨ds, st2, h2, h⟩ := R.bind_ok h
      cases r1
      refine ⟨rfl, q2 σ H1 ρ st1 env (E.mono k1) S1 ds st2 h2 _ fun vs H2 k2 r2 S2 => ?_⟩
      cases e1 : vals st2 ds with
      | none => simp only [e1] at h; cases h
      | some xs =>
        simp only [e1] at h
        replace h := R.opt_ok h
        obtain ⟨h, rfl⟩ := h
        cases hf : f (.str z) xs with
        | none => rw [hf] at h; cases h
        | some u =>
          rw [hf] at h
          cases h
          exact hd ρ H2 z vs xs u S2.tks (RDs.dv S2 r2 e1) hf Q fun v H3 x3 r3 => q v H3 ((k1.trans k2).trans (x3.kp ρ)) r3 (S2.xn x3)
    | _ => cases h
/-- z.index(y), found -/
def sindexD : PyData → List PyData → Option PyData
  | .str z, [.str y] => match Builtin.Str.occurrences z y 0 z.length 1 with
    | i :: _ => some (.int (i : Nat))
    | [] => none
  | _, _ => none
theorem md_sindex : MtD X "str.index" sindexD := by
  refine ⟨_, mt_sindex, fun ρ H z vs ds d T h hf Q q => ?_⟩
  unfold sindexD at hf
  split at hf
  · rename_i z' y hz
    cases hz
    cases h with
    | cons h1 h2 =>
      cases h2
      split at hf
      · rename_i j rest ho
        cases hf
        rw [h1.str]
        exact ⟨z, y, j, rest, rfl, rfl, ho, q _ H (Xn.refl H) (.int _)⟩
      · cases hf
  · cases hf
end
end Pd

set_option Elab.async false
set_option linter.all false
set_option maxRecDepth 100000
set_option maxHeartbeats 2000000
/-! Pd14: generator expressions whose parts call defs. -/
namespace Pd
open PySem PySem.Spec PyProof.Rows L2 GxR GenW

/-- the context of a generator expression's own frame -/
abbrev gx (X : Cx) (s : Shared) (H : Hp) (ge : PySem.Env) (A' : Around) (fp : List Addr) (pn : List (Addr × Obj)) : Cx :=
  { X with A := A', s_0 := s, H_0 := H, env := ge, outer := X.stack, stack := ge :: X.stack, ex := fp, fn := fun _ => false, pn := pn, xe := fun _ _ => False }

theorem gx_start {X : Cx} {pins pn : List (Addr × Obj)} {σ : L2.St} {H : Hp} {s s5 : Shared} {sc : Scope} {own : List (Str × Nat)} {fp : List Addr} {ge : PySem.Env} {A' : Around} {m : Str → Option Value}
    (I : Inv X pins σ H s) (ok : BlkOk X.N X.env.scope sc own) (nc : ∀ y ∈ sc.names, y.2 ≠ .cell) (hN : X.N.Nodup) (hf : ∀ b ∈ fp, FpOk X pins H b ∧ b < s.heap.objs.size)
    (g1 : ge.scope = sc) (g2 : ge.locals = s.heap.objs.size) (g3 : ge.globals = X.env.globals) (g4 : ge.cells = cloFrom X.env.cells sc.names []) (g5 : ge.frame = some s.heap.objs.size) (g6 : ge.builtins = builtinsNs)
    (a1 : A'.frames = some (ge :: X.stack)) (a2 : A'.handled = none) (kp : ∀ b o, s.heap.get? b = some o → s5.heap.get? b = some o) (hn : s5.heap.Ns s.heap.objs.size m) (hb : AllBare s5.gens) (ho : s5.os = s.os)
    (hp : ∀ p ∈ pn, s5.heap.get? p.1 = some p.2 ∧ s.heap.objs.size < p.1 ∧ ∀ v, p.2.data ≠ .cell v) :
    Inv (gx X s H ge A' fp pn) [] (L2.wipe σ (own.map (·.2))) H s5 := by
  have fr : ∀ y, (y, NameKind.free) ∈ sc.names → ∃ c, X.env.cells.lookup y = some c := fun y hy => by
    rcases ok.free (y, .free) hy rfl with k | k
    · exact I.ok.has y (.inl k)
    · exact I.ok.has y (.inr k)
  have cm : ∀ {y : Str} {c : Addr}, ge.cells.lookup y = some c → X.env.cells.lookup y = some c ∧ c < s.heap.objs.size := fun {y c} e => by
    rw [g4] at e
    rcases cloFrom_mem (PySem.mem_of_lookup e) with z | ⟨z, rfl⟩
    · cases z
    · obtain ⟨c, hc⟩ := fr y z
      rw [hc]
      obtain ⟨u, q⟩ := I.cell y c hc
      exact ⟨rfl, q.lt⟩
  have ck : ∀ {y : Str}, sc.names.lookup y = some .free → ∃ c, ge.cells.lookup y = some c ∧ X.env.cells.lookup y = some c := fun {y} e => by
    obtain ⟨c, hc⟩ := mem_lookup (cloFrom_has (cells := X.env.cells) (acc := []) (PySem.mem_of_lookup e))
    rw [← g4] at hc
    exact ⟨c, hc, (cm hc).1⟩
  have okG : (gx X s H ge A' fp pn).Ok := by
    refine ⟨I.ok.mod, by show ge.scope.kind = _; rw [g1]; exact ok.kind, by show ge.globals = _; rw [g3]; exact I.ok.glob, g6, by show s.heap.objs.size ≤ ge.locals; rw [g2]; exact Nat.le_refl _,
      fun y z c e1 e2 => I.ok.inj y z c (cm e1).1 (cm e2).1, (fun y hy => ?_), (fun y c z => Bool.noConfusion z), (fun _ => a2), a1, .inr ⟨rfl, by show ge.frame = some ge.locals; rw [g5, g2]⟩, fun b hb => ⟨?_, fun y c e z => ?_⟩, I.bs, Nat.le_trans I.ok.bsz I.sz, fun b o e hb => ?_, fun b hb z => ?_, I.stack, I.stkFree⟩
    · have key : ∀ k : NameKind, ge.kindOf y = some k → k = .cell ∨ k = .free → ∃ c, ge.cells.lookup y = some c := fun k hk z => by
        unfold Env.kindOf at hk
        rw [g1] at hk
        rcases z with rfl | rfl
        · exact absurd rfl (nc _ (PySem.mem_of_lookup hk))
        · obtain ⟨c, h1, _⟩ := ck hk
          exact ⟨c, h1⟩
      exact hy.elim (fun z => key _ z (.inl rfl)) fun z => key _ z (.inr rfl)
    · show b ≠ ge.locals
      rw [g2]
      exact Nat.ne_of_lt (hf b hb).2
    · exact (hf b hb).1.2.2.2.2.1 y c (cm e).1 z
    · rcases (hf b hb).1.2.2.2.1 with z | z
      · exact I.ok.noex b o e z
      · exact absurd (Nat.lt_of_lt_of_le (Heap.lt_size e) (Nat.le_trans I.ok.bsz z)) (Nat.lt_irrefl _)
    · exact (List.mem_cons.mp (I.stkSub b z)).elim (fun q => (hf b hb).1.2.1 q) fun q => (hf b hb).1.2.2.1 q
  refine ⟨okG, ho, hb, Un.kept kp, ⟨m, by show s5.heap.Ns ge.locals m; rw [g2]; exact hn, fun i y av e1 e2 e3 => ?_⟩, fun y c e => ?_, ?_, fun y c e => I.freeC y c (cm e).1, fun p hq => ?_, I.hok.kept kp, by rw [wipe_length]; exact I.len⟩
  · obtain ⟨e2, hne⟩ := wipe_some e2
    have e3 : Vis ge.scope y := e3
    rw [g1] at e3
    have no : ∀ k : NameKind, sc.names.lookup y = some k → k = .local ∨ k = .cell → False := fun k hk z => by
      rcases ok.own _ (PySem.mem_of_lookup hk) z with q | q
      · obtain ⟨p, hp1, hp2⟩ := List.mem_map.mp q
        have e4 := ok.ix p hp1
        rw [show p.1 = y from hp2] at e4
        exact hne (List.mem_map.mpr ⟨p, hp1, nodup_ix hN e4 e1⟩)
      · exact q (List.mem_of_getElem? e1)
    have hfree : sc.names.lookup y = some .free := by
      rcases e3 with z | z | z
      · exact (no _ z (.inl rfl)).elim
      · exact (no _ z (.inr rfl)).elim
      · exact z
    obtain ⟨c, h1, h2⟩ := ck hfree
    have hout := ok.free _ (PySem.mem_of_lookup hfree) rfl
    obtain ⟨mm, _, hl⟩ := I.loc
    obtain ⟨u, r, q⟩ := hl i y av e1 e2 (hout.elim (fun k => .inr (.inl k)) fun k => .inr (.inr k))
    refine ⟨u, r, .inr ⟨.inr (by show ge.scope.names.lookup y = _; rw [g1]; exact hfree), c, h1, ?_⟩⟩
    rcases q with ⟨k, _⟩ | ⟨_, c', e', z⟩
    · have k : X.env.scope.names.lookup y = some .local := k
      rcases hout with k' | k' <;> rw [show X.env.scope.names.lookup y = _ from k'] at k <;> cases k
    · rw [h2] at e'
      cases e'
      exact z.keeps kp
  · obtain ⟨u, z⟩ := I.cell y c (cm e).1
    exact ⟨u, z.keeps kp⟩
  · show H ge.locals = none
    rw [g2]
    exact I.hok.fresh (Nat.le_refl _)
  · have hq : p ∈ pn := by
      rcases List.mem_append.mp hq with z | z
      · exact z
      · cases z
    obtain ⟨h1, h2, h3⟩ := hp p hq
    refine ⟨h1, I.hok.fresh (Nat.le_of_lt h2), by show p.1 ≠ ge.locals; rw [g2]; exact Nat.ne_of_gt h2, fun z => ?_, h3⟩
    rcases List.mem_cons.mp (I.stkSub p.1 z) with q | q
    · exact absurd (Nat.lt_trans I.lt h2) (by rw [q]; exact Nat.lt_irrefl _)
    · exact I.nofs (Nat.le_of_lt h2) q
end Pd

set_option Elab.async false
set_option linter.all false
set_option maxRecDepth 100000
set_option maxHeartbeats 2000000
/-! Pd15: a generator expression's turns, whoever walks it. -/
namespace Pd
open PySem PySem.Spec PyProof.Rows L2 GxR GenW

/-- what the walker does between two items: every frame's picture of the heap goes from H to H' -/
def Pres (P : Program) (w : World) (H : Hp) (s : Shared) (H' : Hp) (s' : Shared) : Prop := ∀ (Z : Cx) (zp : List (Addr × Obj)) (zs : L2.St), Z.prog = P → Z.w = w → Inv Z zp zs H s → Inv Z zp zs H' s'
theorem inv_same {X : Cx} {pins : List (Addr × Obj)} {σ : L2.St} {H : Hp} {s s' : Shared} (I : Inv X pins σ H s) (h : s'.heap = s.heap) (o : s'.os = s.os) (b : AllBare s'.gens) : Inv X pins σ H s' := by
  obtain ⟨h', g', d', t', o'⟩ := s'
  cases h
  exact ⟨I.ok, o.trans I.os, b, I.base, I.loc, I.cell, I.free, I.freeC, I.pin, I.hok, I.len⟩
theorem Pres.same {P : Program} {w : World} {H : Hp} {s s' : Shared} (h : s'.heap = s.heap) (o : s'.os = s.os) (b : AllBare s'.gens) : Pres P w H s H s' := fun _ _ _ _ _ I => inv_same I h o b

abbrev TYl := V → Hp → (Hp → Prop) → Prop
/-- at an item: the walker's frame stands; what it wants is Yl -/
def GxY (X : Cx) (pins : List (Addr × Obj)) (σ : L2.St) (a : Addr) (g : Nat) (Yl : TYl) : Protocol := fun _ _ v s1 kap =>
  ∃ y H', RelV y v ∧ Inv X pins σ H' s1 ∧ s1.heap.IsGen a g ∧ Yl y H' fun H'' => ∀ s', Pres X.prog X.w H' s1 H'' s' → kap (.send .none) s'
def GxP (X : Cx) (pins : List (Addr × Obj)) (σ : L2.St) (Qe : Hp → Prop) : Nat → Shared → Shared → Prop := fun _ _ s1 => ∃ H', Inv X pins σ H' s1 ∧ Qe H'
/-- the turns of [e for .. if ..], as a generator makes them -/
def tGx (J : It) (g : TG) (tt : TT) (te : TE) (vs : List Nat) (σ : L2.St) (Yl : TYl) (Qe : Hp → Prop) (W : Nat → Nat → Hp → Prop) : Prop := ∀ i m H, W i m H →
  (J.stop i H ∧ Qe H) ∨ (J.go i H ∧ ∃ Nx : Hp → Prop, (∀ H', Nx H' → ∃ m', m' < m ∧ W (i + 1) m' H') ∧ ∀ x H', J.yld i H x H' → g x (L2.wipe σ vs) H' fun σ2 H2 => L2.wipe σ2 vs = L2.wipe σ vs ∧ tt σ2 H2 fun b H3 =>
    if b = true then te σ2 H3 fun y H4 => Yl y H4 Nx else Nx H3)

theorem over_gx {A : Around} {elt tg iter : Expr} {ifs : List Expr} {sc : Scope} {pos : Pos} {it acc : Value} {ge : PySem.Env} : A.over (.compLoop (.GeneratorExp elt [⟨tg, iter, ifs, 0⟩] sc pos) 0 it acc ge) [] = A.deeper ge := by
  first
    | rfl
    | (obtain ⟨hd, d, fr, gs, u⟩ := A
       simp [Around.over, Around.deeper, marksOver, frameCount, unitsOf, envsOf, guardsOf, pushEnvs, pushGuards, Code.envs, Code.env?, Code.isFrame, Code.guards, Code.isGuard, Code.weight, Code.frames, Code.isCreation, Code.isCaller, Code.cUnits])
theorem over_gx0 {A : Around} {elt tg iter : Expr} {ifs : List Expr} {sc : Scope} {pos : Pos} {it acc : Value} {ge : PySem.Env} : A.over (.compStart (.GeneratorExp elt [⟨tg, iter, ifs, 0⟩] sc pos) 0 it acc ge) [] = A.deeper ge := by
  first
    | rfl
    | (obtain ⟨hd, d, fr, gs, u⟩ := A
       simp [Around.over, Around.deeper, marksOver, frameCount, unitsOf, envsOf, guardsOf, pushEnvs, pushGuards, Code.envs, Code.env?, Code.isFrame, Code.guards, Code.isGuard, Code.weight, Code.frames, Code.isCreation, Code.isCaller, Code.cUnits])

theorem seg_go {M : Model} {A A' : Around} {R : GenEnd} {Y : Protocol} {n : Nat} {s₀ s : Shared} {c : Code} {α β : Type} {m : Sem α} {K : α → Sem β} {K' : β → Sem PySem.Fin} {J' : Value → Sem PySem.Fin} {gd lv} {Q : α → Shared → Prop} (ov : A.over c [] = A')
    (h : wpAny M A' m Q (fun _ _ => False) s) (hQ : ∀ a s', Q a s' → Seg M A R Y n s₀ c ((K a).wrap K' J' gd lv) [] s') : Seg M A R Y n s₀ c ((m >>= K).wrap K' J' gd lv) [] s := by
  refine seg_bind_wrap ?_
  rw [ov]
  exact thnF h hQ
section
variable {X : Cx} {pins pn : List (Addr × Obj)} {σ : L2.St} {H4 : Hp} {s4 : Shared} {sc : Scope} {fp : List Addr} {ge : PySem.Env} {A : Around} {elt tg iter : Expr} {ifs : List Expr} {pos : Pos} {it a : Addr} {g : Nat} {J : It} {tn : Nat → Heap → Prop}
  {gt : TG} {tt : TT} {te : TE} {vs : List Nat} {Yl : TYl} {Qe : Hp → Prop} {W : Nat → Nat → Hp → Prop}
theorem seg_turns (hc : X.calm = true) (T : Turn X.prog X.w X.K tg J fp it tn) (I4 : Inv X pins σ H4 s4) (f4 : ∀ b ∈ fp, FpOk X pins H4 b) (pf : ∀ b ∈ fp, ∀ p ∈ pn, p.1 ≠ b) (hsc : ge.scope = sc) (hco : sc.isCoroutine = false)
    (pg : PG (gx X s4 H4 ge (A.deeper ge) fp pn) tg gt) (pt : PTs (gx X s4 H4 ge (A.deeper ge) fp pn) ifs tt) (pe : PE (gx X s4 H4 ge (A.deeper ge) fp pn) elt te)
    (hg : ∀ h : Heap, (∀ p ∈ pn, h.get? p.1 = some p.2) → h.IsGen a g) (mono : ∀ y H N1 N2, (∀ H', N1 H' → N2 H') → Yl y H N1 → Yl y H N2) (turn : tGx J gt tt te vs σ Yl Qe W) :
    ∀ (m n i : Nat) (s₀ s : Shared) (H' : Hp), m < n → Inv (gx X s4 H4 ge (A.deeper ge) fp pn) [] (L2.wipe σ vs) H' s → tn i s.heap → (∀ b ∈ fp, H' b = none) → W i m H' →
      Seg (model X.prog X.w) A (fun n s₀ r s₁ => r = .ok .next ∧ GxP X pins σ Qe n s₀ s₁) (GxY X pins σ a g Yl) n s₀ (.compLoop (.GeneratorExp elt [⟨tg, iter, ifs, 0⟩] sc pos) 0 (.ref it) .none ge)
        ((model X.prog X.w).den (.compLoop (.GeneratorExp elt [⟨tg, iter, ifs, 0⟩] sc pos) 0 (.ref it) .none ge)) [] s := by
  have stat : ∀ {σ' : L2.St} {H' : Hp} {s' : Shared}, Inv (gx X s4 H4 ge (A.deeper ge) fp pn) [] σ' H' s' → (∀ b ∈ fp, H' b = none) → ∀ b ∈ fp, FpOk (gx X s4 H4 ge (A.deeper ge) fp pn) [] H' b := fun {σ' H' s'} I' hn b hb => by
    refine ⟨hn b hb, (I'.ok.exf b hb).1, I'.ok.exfs b hb, .inl hb, fun x c e => (I'.ok.exf b hb).2 x c e, fun p hp => ?_⟩
    rcases List.mem_append.mp hp with z | z
    · exact pf b hb p z
    · cases z
  have back : ∀ {ip : List (Addr × Obj)} {σ' : L2.St} {H' : Hp} {s' : Shared}, Inv (gx X s4 H4 ge (A.deeper ge) fp pn) ip σ' H' s' → Inv X pins σ H' s' := fun {ip σ' H' s'} I' =>
    I4.call' (ch := fp) I'.os I'.base I'.hok I'.bare fun b hb => ⟨(f4 b hb).2.2.2.1, (f4 b hb).2.1, (f4 b hb).2.2.2.2.1, (f4 b hb).2.2.2.2.2⟩
  intro m
  induction m using Nat.strongRecOn with
  | ind m ih =>
    intro n i s₀ s H' hmn I st nf w0
    show Seg _ A _ _ _ s₀ _ ((compTurn (.GeneratorExp elt [⟨tg, iter, ifs, 0⟩] sc pos) 0 (.ref it) .none ge).onRaise (leaving ge)) [] s
    rw [compTurn_gen, Sem.onRaise_eq_wrap]
    refine seg_bind_wrap (wpAny_standAt ?_)
    rcases turn i m H' w0 with ⟨stop, qe⟩ | ⟨go, Nx, hNx, step⟩
    · refine seg_go over_gx (T.done (gx X s4 H4 ge (A.deeper ge) fp pn) rfl rfl rfl hc i [] s _ H' (fun _ _ => False) I (stat I nf) st stop) fun r s6 ⟨hr, I6⟩ => ?_
      subst hr
      exact seg_end (.ok .next) ⟨rfl, H', back I6, qe⟩
    · refine seg_go over_gx (T.item (gx X s4 H4 ge (A.deeper ge) fp pn) rfl rfl rfl hc i [] s _ H' (fun _ _ => False) I (stat I nf) st go) fun r s6 ⟨u, hr, h6⟩ => ?_
      subst hr
      refine seg_go over_gx h6 fun _ s7 ⟨x, H7, I7, r7, y7, st7, n7⟩ => ?_
      have I7' := I7.pinned (stat I7 n7) (T.obj _ _ st7)
      refine seg_go over_gx (pg.run _ s7 _ H7 x u _ I7' r7 (step x H7 y7)) fun _ s8 ⟨σ8, H8, I8, hw8, q8⟩ => ?_
      refine seg_go over_gx (pt.run _ s8 σ8 H8 _ I8 q8) fun b s9 ⟨H9, I9, q9⟩ => ?_
      have fin : ∀ {n' : Nat} {s' : Shared} {H' : Hp} (s₀' : Shared), m ≤ n' → Inv (gx X s4 H4 ge (A.deeper ge) fp pn) ([] ++ pinsAt fp s7.heap) σ8 H' s' → Nx H' →
          Seg (model X.prog X.w) A (fun n s₀ r s₁ => r = .ok .next ∧ GxP X pins σ Qe n s₀ s₁) (GxY X pins σ a g Yl) n' s₀' (.compLoop (.GeneratorExp elt [⟨tg, iter, ifs, 0⟩] sc pos) 0 (.ref it) .none ge)
            ((model X.prog X.w).den (.compLoop (.GeneratorExp elt [⟨tg, iter, ifs, 0⟩] sc pos) 0 (.ref it) .none ge)) [] s' := fun {n' s' H'} s₀' hm I' nx => by
        obtain ⟨m', hm', w'⟩ := hNx H' nx
        have pin' : ∀ b ∈ fp, ∀ o, s7.heap.get? b = some o → s'.heap.get? b = some o ∧ H' b = none := fun b hb o e =>
          let z := I'.pin (b, o) (List.mem_append_right _ (List.mem_append_right _ (mem_pinsAt hb e)))
          ⟨z.1, z.2.1⟩
        have hl : (L2.wipe σ vs).length = σ8.length := by rw [← hw8, wipe_length]
        refine ih m' hm' n' (i + 1) s₀' s' H' (Nat.lt_of_lt_of_le hm' hm) ((I'.unpinned (pins := [])).weak hl fun j v e => ?_) (T.keep _ _ _ st7 fun b hb o e => (pin' b hb o e).1) (fun b hb => ?_) w'
        · rw [← hw8] at e
          exact (wipe_some e).1
        · obtain ⟨o, e, _⟩ := T.obj _ _ st7 b hb
          exact (pin' b hb o e).2
      cases b with
      | false =>
        simp only [Bool.false_eq_true, if_false] at q9 ⊢
        exact seg_again rfl (fin s₀ (Nat.le_of_lt hmn) I9 q9)
      | true =>
        simp only [if_true] at q9 ⊢
        have hy : ∀ v, yieldOut ge v = yieldValue v := fun v => by simp only [yieldOut, hsc, hco, Bool.false_eq_true, if_false]
        simp only [hy]
        rw [Sem.bind_eq_wrap', Sem.bind_eq_wrap', Sem.wrap_wrap, Sem.wrap_wrap]
        refine seg_wrap ?_
        rw [over_gx]
        refine thnF (pe.run _ s9 σ8 H9 _ I9 q9) fun z s10 ⟨yv, H10, I10, r10, yl⟩ => ?_
        obtain ⟨n', rfl⟩ : ∃ n', n = n' + 1 := ⟨n - 1, by omega⟩
        refine seg_at (seg_yield rfl rfl rfl ⟨yv, H10, r10, back I10, hg _ fun p hp => (I10.pin p (List.mem_append_left _ hp)).1, mono _ _ _ _ (fun H'' nx s' pr => ?_) yl⟩)
        exact seg_again rfl (fin s' (Nat.le_of_lt_succ hmn) (pr _ _ _ rfl rfl I10) nx)
end
end Pd

set_option Elab.async false
set_option linter.all false
set_option maxRecDepth 100000
set_option maxHeartbeats 2000000
/-! Pd16: a generator expression is made. -/
namespace Pd
open PySem PySem.Spec PyProof.Rows L2 GxR GenW

section
variable {prog : Program} {w : World} {A : Around} {R : GenEnd} {Y : Protocol} {n : Nat} {s₀ s : Shared} {sc : Scope} {ge : PySem.Env} {elt tg iter : Expr} {ifs : List Expr} {pos : Pos} {it : Addr}
theorem seg_first (loop : Seg (model prog w) A R Y n s₀ (.compLoop (.GeneratorExp elt [⟨tg, iter, ifs, 0⟩] sc pos) 0 (.ref it) .none ge) ((model prog w).den (.compLoop (.GeneratorExp elt [⟨tg, iter, ifs, 0⟩] sc pos) 0 (.ref it) .none ge)) [] s)
    (self : ∀ (A' : Around) (Q : Value → Shared → Prop) (E : Value → Shared → Prop), Q (.ref it) s → wpAny (model prog w) A' (pyIter (.ref it)) Q E s) :
    Seg (model prog w) A R Y n s₀ (.compStart (.GeneratorExp elt [⟨tg, iter, ifs, 0⟩] sc pos) 0 (.ref it) .none ge) ((model prog w).den (.compStart (.GeneratorExp elt [⟨tg, iter, ifs, 0⟩] sc pos) 0 (.ref it) .none ge)) [] s := by
  show Seg _ A _ _ _ s₀ _ ((compStart (.GeneratorExp elt [⟨tg, iter, ifs, 0⟩] sc pos) 0 (.ref it) .none ge).onRaise (leaving ge)) [] s
  unfold compStart
  rw [Sem.onRaise_eq_wrap]
  show Seg _ A _ _ _ s₀ _ ((ask >>= _).wrap _ _ _ _) [] s
  refine seg_bind_wrap (wpAny_askSetting ?_)
  split
  · exact seg_again rfl loop
  · first
      | exact seg_bind_wrap (wpAny_rule (seg_bind_wrap (wpAny_standAt (seg_bind_wrap (self _ _ _ (seg_again rfl loop))))))
      | (refine seg_bind_wrap (wpAny_rule ?_); show Seg _ A _ _ _ s₀ _ ((standAt iter.pos >>= _).wrap _ _ _ _) [] s; exact seg_bind_wrap (wpAny_standAt (seg_bind_wrap (self _ _ _ (seg_again rfl loop)))))
end

/-- the generator at a, made and not yet woken: whoever wakes it first, with turns that W tells -/
def GxMade (X : Cx) (pins : List (Addr × Obj)) (σ : L2.St) (k : Nat) (J : It) (gt : TG) (tt : TT) (te : TE) (vs : List Nat) (H4 : Hp) (u : Value) (s5 : Shared) : Prop :=
  ∃ (a : Addr) (g : Nat) (c : Code), u = .ref a ∧ a < s5.heap.objs.size ∧ s5.heap.IsGen a g ∧ s5.gens[g]? = some (.fresh c) ∧ Inv X pins σ H4 s5 ∧
    ∀ (A : Around) (Yl : TYl) (Qe : Hp → Prop) (W : Nat → Nat → Hp → Prop) (m n : Nat) (H6 : Hp) (s6 : Shared), (∀ e, Room k (A.deeper e)) → A.frames = some X.stack → A.guards = some [] → (∀ y H N1 N2, (∀ H', N1 H' → N2 H') → Yl y H N1 → Yl y H N2) → tGx J gt tt te vs σ Yl Qe W →
      Pres X.prog X.w H4 s5 H6 s6 → W 0 m H6 → m < n → Seg (model X.prog X.w) A (fun n s₀ r s₁ => r = .ok .next ∧ GxP X pins σ Qe n s₀ s₁) (GxY X pins σ a g Yl) n s6 c ((model X.prog X.w).den c) [] s6

section
variable {X : Cx} {pins : List (Addr × Obj)} {σ : L2.St} {H : Hp} {s : Shared}
theorem gx_make {c P : Addr} {elt tg iter : Expr} {ifs : List Expr} {gpos : Pos} {sc : Scope} {own : List (Str × Nat)} {k : Nat} {wi : TI} {gt : TG} {tt : TT} {te : TE} {Q' : Value → Shared → Prop} {Rj : It → Hp → Prop}
    (hc : X.calm = true) (hN : X.N.Nodup) (hr : Room k X.A) (TB : TabB X.base X.mg c P) (hcode : X.env.code = .ref c) (ok : BlkOk X.N X.env.scope sc own) (nc : ∀ y ∈ sc.names, y.2 ≠ .cell) (dot : sc.names.lookup (".0" : Str) = some NameKind.local) (co : sc.isCoroutine = false)
    (hi : PI X tg iter wi)
    (hg : ∀ (s : Shared) (H : Hp) (C : Addr) (cl : List (Str × Addr)) (cd : Value) (A : Around) (fp : List Addr) (pn : List (Addr × Obj)), Room k A → A.guards = some [] → PG (gx X s H (genEnv sc cl C cd builtinsNs X.env) A fp pn) tg gt)
    (ht : ∀ (s : Shared) (H : Hp) (C : Addr) (cl : List (Str × Addr)) (cd : Value) (A : Around) (fp : List Addr) (pn : List (Addr × Obj)), Room k A → A.guards = some [] → PTs (gx X s H (genEnv sc cl C cd builtinsNs X.env) A fp pn) ifs tt)
    (he : ∀ (s : Shared) (H : Hp) (C : Addr) (cl : List (Str × Addr)) (cd : Value) (A : Around) (fp : List Addr) (pn : List (Addr × Obj)), Room k A → A.guards = some [] → PE (gx X s H (genEnv sc cl C cd builtinsNs X.env) A fp pn) elt te)
    (hs : ∀ v, genFold iter X.env v = pure v) (I : Inv X pins σ H s) (h : wi σ H fun J H1 => TabG H1 P ∧ Rj J H1)
    (hQ : ∀ J H1 H4 u s5, Rj J H1 → Tabbed P H1 H4 → GxMade X pins σ k J gt tt te (own.map (·.2)) H4 u s5 → Q' u s5) :
    wpAny (model X.prog X.w) X.A (eval (.GeneratorExp elt [⟨tg, iter, ifs, 0⟩] sc gpos) X.env) Q' X.xe s := by
  have fr : ∀ y ∈ sc.names, y.2 = .free → ∃ c, X.env.cells.lookup y.1 = some c := fun y hy e => by
    rcases ok.free y hy e with z | z
    · exact I.ok.has _ (.inl z)
    · exact I.ok.has _ (.inr z)
  refine wpAny_GeneratorExp_make co (closure_ok fr) nc dot ok.kind (by have := hr.dp; omega) ?_ hs
  refine thn (hi.run pins s σ H _ I h) fun xv s1 hx => thn hx fun itv s2 h2 => ?_
  obtain ⟨it, fp, tn, J, H2, rfl, I2, T, st2, f2, ⟨ps, hP, htr⟩, rj⟩ := h2
  have hPs : s2.heap.get? P = some { cls := .none, data := .fields ps } := I2.hok P _ hP
  have cd2 : PySem.W.CodeHd s2.heap c P := TB.code.keeps fun b u e => I2.bk b u e
  have nP : ∀ b, H2 b = none → b ≠ P := fun b e z => by
    rw [z, hP] at e
    cases e
  have main : ∀ (code : Value) (h3 : Heap) (tk : Nat) (more : Array Value), Heap.ExtBut P s2.heap h3 → h3.get? P = some { cls := .none, data := .fields (ps ++ more) } → TriplesOk (ps ++ more).toList →
      wpAny (model X.prog X.w) X.A (builtinsFor X.env.globals X.env.builtins) (fun bi s₄ =>
        ∀ h', h'.Ns s₄.heap.objs.size (fun y => if y = ".0" then some (.ref it) else none) → Heap.SameBut s₄.heap.objs.size (s₄.heap.push { cls := .type "frame", data := .dict #[] }) h' →
          Q' (.ref h'.objs.size) { s₄ with
            gens := s₄.gens.push (.fresh (.compStart (.GeneratorExp elt [⟨tg, iter, ifs, 0⟩] sc gpos) 0 (.ref it) .none (genEnv sc (cloFrom X.env.cells sc.names []) s₄.heap.objs.size code bi X.env))),
            toks := s₄.toks + 1 + 1 + 1,
            heap := h'.push { cls := .type "generator", data := .fields #[.int s₄.gens.size 0, .str "<genexpr>" (s₄.toks + 1), .str (X.env.qual ++ "<genexpr>") (s₄.toks + 1 + 1)] } }) X.xe { s2 with heap := h3, toks := tk } := by
    intro code h3 tk more hx hP3 ht3
    obtain ⟨bm, ob, e1, e2, e3, e4, e5, e6, e7, e8⟩ := TB.bm
    have I4 : Inv X pins σ (upd H2 P (.tbl (ps ++ more))) { s2 with heap := h3, toks := tk } := inv_tab (g' := s2.gens) (d' := s2.drawn) I2 hP (fun b o hb e => hx b o hb e) hP3 I2.bare
    have hT : Tabbed P H2 (upd H2 P (.tbl (ps ++ more))) := ⟨⟨ps ++ more, upd_same, ht3⟩, fun b hb => upd_ne hb⟩
    have g3 : h3.Ns mainGlobals X.mg := (I2.mod.glob.keeps I2.bk).extBut hx TB.gP
    have g4 : h3.get? bm = some ob := hx bm ob e4 (I2.bk bm ob e5)
    have f4 : ∀ b ∈ fp, FpOk X pins (upd H2 P (.tbl (ps ++ more))) b ∧ b < h3.objs.size := fun b hb => by
      obtain ⟨q1, q2⟩ := f2 b hb
      have nb := nP b q1
      obtain ⟨o, eo, _⟩ := T.obj _ _ st2 b hb
      exact ⟨⟨by rw [upd_ne nb]; exact q1, q2⟩, Heap.lt_size (hx b o nb eo)⟩
    have st4 : tn 0 h3 := T.keep _ _ _ st2 fun b hb o e => hx b o (nP b (f2 b hb).1) e
    refine wpAny_builtinsFor (m := X.mg) (by rw [I.ok.glob]; exact g3) e1 e2 g4 e6 e7 e8 ?_
    intro h' hn' hs'
    generalize hH4 : upd H2 P (.tbl (ps ++ more)) = H4 at I4 f4 hT
    generalize hs4 : ({ s2 with heap := h3, toks := tk } : Shared) = s4 at I4 hn' hs' ⊢
    have e34 : s4.heap = h3 := by rw [← hs4]
    rw [← e34] at st4 f4
    have lt4 : ∀ b ∈ fp, b < s4.heap.objs.size := fun b hb => (f4 b hb).2
    have sz' : h'.objs.size = s4.heap.objs.size + 1 := by rw [hs'.1, Heap.size_push]
    have kp' : ∀ b o, s4.heap.get? b = some o → h'.get? b = some o := fun b o e => hs'.extBut b o (Nat.ne_of_lt (Heap.lt_size e)) (Heap.get?_push_of_some _ e)
    generalize hgo : ({ cls := .type "generator", data := .fields #[.int s4.gens.size 0, .str "<genexpr>" (s4.toks + 1), .str (X.env.qual ++ "<genexpr>") (s4.toks + 1 + 1)] } : Obj) = go
    have kp5 : ∀ b o, s4.heap.get? b = some o → (h'.push go).get? b = some o := fun b o e => Heap.get?_push_of_some _ (kp' b o e)
    generalize hge : genEnv sc (cloFrom X.env.cells sc.names []) s4.heap.objs.size code builtinsNs X.env = ge
    generalize hcs : (Code.compStart (.GeneratorExp elt [⟨tg, iter, ifs, 0⟩] sc gpos) 0 (.ref it) .none ge) = cs
    have bare5 : AllBare (s4.gens.push (.fresh cs)) := I4.bare.push rfl
    have hgot : (h'.push go).get? h'.objs.size = some go := Heap.get?_push_size _ (by rw [← hgo]; rfl)
    have isg : ∀ h : Heap, h.get? h'.objs.size = some go → h.IsGen h'.objs.size s4.gens.size := fun h e => ⟨go, _, _, e, by rw [← hgo], by rw [← hgo], by rw [← hgo]⟩
    generalize hs5 : ({ s4 with gens := s4.gens.push (.fresh cs), toks := s4.toks + 1 + 1 + 1, heap := h'.push go } : Shared) = s5
    have e5h : s5.heap = h'.push go := by rw [← hs5]
    have e5g : s5.gens = s4.gens.push (.fresh cs) := by rw [← hs5]
    have e5o : s5.os = s4.os := by rw [← hs5]
    have I5 : Inv X pins σ H4 s5 := I4.call' (ch := []) e5o (by rw [e5h]; exact Un.kept kp5) (by rw [e5h]; exact I4.hok.kept kp5) (by rw [e5g]; exact bare5) fun b hb => by cases hb
    refine hQ J H2 H4 _ s5 rj hT ⟨h'.objs.size, s4.gens.size, cs, rfl, by rw [e5h, Heap.size_push]; exact Nat.lt_succ_self _, by rw [e5h]; exact isg _ hgot, by rw [e5g]; exact Array.getElem?_push_size .., I5, ?_⟩
    intro A Yl Qe W m n H6 s6 hrA hfA hgA mono turn pr w0 hmn
    have hfp5 : ∀ b ∈ fp, FpOk X pins H4 b ∧ b < s4.heap.objs.size := f4
    have IG : Inv (gx X s4 H4 ge (A.deeper ge) fp [(h'.objs.size, go)]) [] (L2.wipe σ (own.map (·.2))) H4 s5 := by
      refine gx_start (m := fun y => if y = ".0" then some (.ref it) else none) I4 ok nc hN hfp5 (by rw [← hge]; rfl) (by rw [← hge]; rfl) (by rw [← hge]; rfl) (by rw [← hge]; rfl) (by rw [← hge]; rfl) (by rw [← hge]; rfl)
        (by show A.frames.map _ = _; rw [hfA]; rfl) (hrA ge).hd (by rw [e5h]; exact kp5) (by rw [e5h]; exact hn'.push _) (by rw [e5g]; exact bare5) e5o fun p hp => ?_
      rw [List.mem_singleton.mp hp]
      exact ⟨by rw [e5h]; exact hgot, by show s4.heap.objs.size < h'.objs.size; rw [sz']; exact Nat.lt_succ_self _, fun v z => by rw [← hgo] at z; cases z⟩
    have pf : ∀ b ∈ fp, ∀ p ∈ [(h'.objs.size, go)], p.1 ≠ b := fun b hb p hp => by
      rw [List.mem_singleton.mp hp]
      have := lt4 b hb
      rw [sz']
      exact Nat.ne_of_gt (Nat.lt_succ_of_lt this)
    have st5 : tn 0 s5.heap := T.keep _ _ _ st4 fun b _ o e => by rw [e5h]; exact kp5 b o e
    have stat : ∀ b ∈ fp, FpOk (gx X s4 H4 ge (A.deeper ge) fp [(h'.objs.size, go)]) [] H4 b := fun b hb => by
      refine ⟨(f4 b hb).1.1, (IG.ok.exf b hb).1, IG.ok.exfs b hb, .inl hb, fun x c e => (IG.ok.exf b hb).2 x c e, fun p hp => ?_⟩
      rcases List.mem_append.mp hp with z | z
      · exact pf b hb p z
      · cases z
    have IG6 := pr (gx X s4 H4 ge (A.deeper ge) fp [(h'.objs.size, go)]) _ _ rfl rfl (IG.pinned stat (T.obj _ _ st5))
    have pin6 : ∀ b ∈ fp, ∀ o, s5.heap.get? b = some o → s6.heap.get? b = some o ∧ H6 b = none := fun b hb o e =>
      let z := IG6.pin (b, o) (List.mem_append_right _ (List.mem_append_right _ (mem_pinsAt hb e)))
      ⟨z.1, z.2.1⟩
    have st6 : tn 0 s6.heap := T.keep _ _ _ st5 fun b hb o e => (pin6 b hb o e).1
    have hrD : Room k (A.deeper ge) := hrA ge
    rw [← hcs]
    refine seg_first ?_ fun A' Q E q => T.self A' 0 s6 Q E st6 q
    refine seg_turns (A := A) (vs := own.map (fun (z : Str × Nat) => z.2)) hc T I4 (fun b hb => (f4 b hb).1) pf (by rw [← hge]; rfl) co ?_ ?_ ?_ (fun hh hp => isg hh (hp _ (List.mem_singleton.mpr rfl))) mono turn m n 0 s6 s6 H6 hmn (IG6.unpinned (pins := [])) st6 (fun b hb => ?_) w0
    · rw [← hge]
      exact hg _ _ _ _ _ _ _ _ (by rw [hge]; exact hrD) hgA
    · rw [← hge]
      exact ht _ _ _ _ _ _ _ _ (by rw [hge]; exact hrD) hgA
    · rw [← hge]
      exact he _ _ _ _ _ _ _ _ (by rw [hge]; exact hrD) hgA
    · obtain ⟨o, e, _⟩ := T.obj _ _ st5 b hb
      exact (pin6 b hb o e).2
  refine ⟨I2.nolimit, ?_⟩
  cases hf : codeAmong gpos ps.toList with
  | none =>
    refine wpAny_genexprCodeX hcode (cd2.code hPs htr) (cd2.tab hPs) hf fun c' h' tk hx hge hlt hco' _ htab' _ => ?_
    obtain ⟨o1, vs, f1, tf, fl, tg', inF, tx, tt', op, _, _, _, _, _, _, _, _, _, ht3, _⟩ := hco'
    exact main _ h' tk _ hx htab'.2 ht3
  | some cv =>
    refine wpAny_genexprCode_hit hcode (cd2.code hPs htr) hf ?_
    exact main cv s2.heap s2.toks #[] (Heap.ExtBut.refl _ _) (by simpa using hPs) (by simpa using htr)
end
end Pd

set_option Elab.async false
set_option linter.all false
set_option maxRecDepth 100000
set_option maxHeartbeats 2000000
/-! Pd17: all, any of a generator expression. -/
namespace Pd
open PySem PySem.Spec PyProof.Rows L2 GxR GenW

/-- all stops at False, any at True -/
def yBool (stop : Bool) (Q : VK) : TYl := fun y H N => ∃ b, y = .bl b ∧ (if b = stop then Q (.bl stop) H else N H)
theorem yBool_mono {stop : Bool} {Q : VK} : ∀ y H (N1 N2 : Hp → Prop), (∀ H', N1 H' → N2 H') → yBool stop Q y H N1 → yBool stop Q y H N2 := fun y H N1 N2 h ⟨b, e, q⟩ => by
  refine ⟨b, e, ?_⟩
  by_cases hb : b = stop
  · rw [if_pos hb] at q ⊢; exact q
  · rw [if_neg hb] at q ⊢; exact h H q
theorem setGen_heap (s : Shared) (g : Nat) (x : GenState) : (s.setGen g x).heap = s.heap := rfl
theorem setGen_os (s : Shared) (g : Nat) (x : GenState) : (s.setGen g x).os = s.os := rfl
section
variable {X : Cx} {pins : List (Addr × Obj)} {σ : L2.St} {a : Addr} {g : Nat} {Q : VK}
def BoolEnd (X : Cx) (pins : List (Addr × Obj)) (σ : L2.St) (Q : VK) (r : Result) (s' : Shared) : Prop := ∃ b H', r = .ok (.ret (.bool b)) ∧ Inv X pins σ H' s' ∧ Q (.bl b) H'
theorem gx_end {H' : Hp} {s1 : Shared} {h' : Heap} (I : Inv X pins σ H' s1) (hk : ∀ b o, s1.heap.get? b = some o → h'.get? b = some o) : Inv X pins σ H' { s1.setGen g .finished with heap := h' } :=
  I.call' (ch := []) (s' := { s1.setGen g .finished with heap := h' }) rfl (Un.kept hk) (I.hok.kept hk) (allBare_setGen I.bare rfl) fun b hb => by cases hb
theorem all_goes {A : Around} (hh : A.handled = none) (hd : A.depth < recursionLimit) : ∀ (n : Nat) (s : Shared), s.heap.IsGen a g → s.heap.NoLimit →
    (∃ gs, s.gens[g]? = some gs ∧ gs.Goes (model X.prog X.w) A.in1.in1 (fun n s₀ r s₁ => r = .ok .next ∧ GxP X pins σ (fun H => Q (.bl true) H) n s₀ s₁) (GxY X pins σ a g (yBool false Q)) n (.send .none) (s.setGen g .running)) →
    codeAny (model X.prog X.w) A (.builtin "all.loop" ⟨[.ref a], []⟩) (BoolEnd X pins σ Q) s := by
  intro n
  induction n with
  | zero =>
    intro s hg hl ⟨gs, hgs, hgo⟩
    refine codeAny_builtin F.entry_all_loop ?_
    rw [Around.under_plainId F.plain_all_loop _]
    show wpAny _ A.in1 (pyNext (.ref a) >>= _) _ _ s
    refine wpAny_bind (wpAny_pyNext_genexpQ (A := A.in1) hh hl hd hg hgs hgo (fun v s₁ gs' hbare hv => ?_) fun s₁ hp h' hk => ?_)
    · obtain ⟨y, H', r1, I1, hg1, b, rfl, q1⟩ := hv
      cases r1
      refine wpAny_bind (wpAny_holding (wpAny_truthy_bool ?_))
      refine wpAny_bind (wpAny_letGo ?_)
      cases b with
      | true =>
        rw [if_neg (by decide)] at q1
        exact (q1 s₁ (Pres.same rfl rfl I1.bare)).elim
      | false =>
        simp only [Bool.false_eq_true, if_false]
        refine wpAny_bind (wpAny_rule (wpAny_pure ?_))
        exact ⟨false, H', rfl, inv_same I1 rfl rfl (allBare_setGen I1.bare hbare), q1⟩
    · obtain ⟨H', I1, q1⟩ := hp
      refine wpAny_bind (wpAny_rule (wpAny_pure ?_))
      exact ⟨true, H', rfl, gx_end I1 hk, q1⟩
  | succ n ih =>
    intro s hg hl ⟨gs, hgs, hgo⟩
    have hgl : g < s.gens.size := (Array.getElem?_eq_some_iff.mp hgs).1
    refine codeAny_builtin F.entry_all_loop ?_
    rw [Around.under_plainId F.plain_all_loop _]
    show wpAny _ A.in1 (pyNext (.ref a) >>= _) _ _ s
    refine wpAny_bind (wpAny_gsz (n := g + 1) hgl (wpAny_pyNext_genexpQ (A := A.in1) hh hl hd hg hgs hgo (fun v s₁ gs' hbare hv => ?_) fun s₁ hp h' hk => ?_))
    · intro hsz
      obtain ⟨y, H', r1, I1, hg1, b, rfl, q1⟩ := hv
      cases r1
      refine wpAny_bind (wpAny_holding (wpAny_truthy_bool ?_))
      refine wpAny_bind (wpAny_letGo ?_)
      cases b with
      | true =>
        rw [if_neg (by decide)] at q1
        simp only [if_true]
        have hsz1 : g < s₁.gens.size := by
          have q : (s₁.setGen g gs').gens.size = s₁.gens.size := setGen_size _ _ _
          have hsz' : g + 1 ≤ (s₁.setGen g gs').gens.size := hsz
          omega
        refine wpAny_pure ⟨plainId_quiet F.plain_all_loop _, ih (s₁.setGen g gs') hg1 I1.nolimit ⟨gs', setGen_at hsz1, ?_⟩⟩
        exact q1 _ (Pres.same rfl rfl (allBare_setGen (allBare_setGen I1.bare hbare) rfl))
      | false =>
        simp only [Bool.false_eq_true, if_false]
        refine wpAny_bind (wpAny_rule (wpAny_pure ?_))
        exact ⟨false, H', rfl, inv_same I1 rfl rfl (allBare_setGen I1.bare hbare), q1⟩
    · intro _
      obtain ⟨H', I1, q1⟩ := hp
      refine wpAny_bind (wpAny_rule (wpAny_pure ?_))
      exact ⟨true, H', rfl, gx_end I1 hk, q1⟩
theorem any_goes {A : Around} (hh : A.handled = none) (hd : A.depth < recursionLimit) : ∀ (n : Nat) (s : Shared), s.heap.IsGen a g → s.heap.NoLimit →
    (∃ gs, s.gens[g]? = some gs ∧ gs.Goes (model X.prog X.w) A.in1.in1 (fun n s₀ r s₁ => r = .ok .next ∧ GxP X pins σ (fun H => Q (.bl false) H) n s₀ s₁) (GxY X pins σ a g (yBool true Q)) n (.send .none) (s.setGen g .running)) →
    codeAny (model X.prog X.w) A (.builtin "any.loop" ⟨[.ref a], []⟩) (BoolEnd X pins σ Q) s := by
  intro n
  induction n with
  | zero =>
    intro s hg hl ⟨gs, hgs, hgo⟩
    refine codeAny_builtin F.entry_any_loop ?_
    rw [Around.under_plainId F.plain_any_loop _]
    show wpAny _ A.in1 (pyNext (.ref a) >>= _) _ _ s
    refine wpAny_bind (wpAny_pyNext_genexpQ (A := A.in1) hh hl hd hg hgs hgo (fun v s₁ gs' hbare hv => ?_) fun s₁ hp h' hk => ?_)
    · obtain ⟨y, H', r1, I1, hg1, b, rfl, q1⟩ := hv
      cases r1
      refine wpAny_bind (wpAny_holding (wpAny_truthy_bool ?_))
      refine wpAny_bind (wpAny_letGo ?_)
      cases b with
      | false =>
        rw [if_neg (by decide)] at q1
        exact (q1 s₁ (Pres.same rfl rfl I1.bare)).elim
      | true =>
        simp only [if_true]
        refine wpAny_bind (wpAny_rule (wpAny_pure ?_))
        exact ⟨true, H', rfl, inv_same I1 rfl rfl (allBare_setGen I1.bare hbare), q1⟩
    · obtain ⟨H', I1, q1⟩ := hp
      refine wpAny_bind (wpAny_rule (wpAny_pure ?_))
      exact ⟨false, H', rfl, gx_end I1 hk, q1⟩
  | succ n ih =>
    intro s hg hl ⟨gs, hgs, hgo⟩
    have hgl : g < s.gens.size := (Array.getElem?_eq_some_iff.mp hgs).1
    refine codeAny_builtin F.entry_any_loop ?_
    rw [Around.under_plainId F.plain_any_loop _]
    show wpAny _ A.in1 (pyNext (.ref a) >>= _) _ _ s
    refine wpAny_bind (wpAny_gsz (n := g + 1) hgl (wpAny_pyNext_genexpQ (A := A.in1) hh hl hd hg hgs hgo (fun v s₁ gs' hbare hv => ?_) fun s₁ hp h' hk => ?_))
    · intro hsz
      obtain ⟨y, H', r1, I1, hg1, b, rfl, q1⟩ := hv
      cases r1
      refine wpAny_bind (wpAny_holding (wpAny_truthy_bool ?_))
      refine wpAny_bind (wpAny_letGo ?_)
      cases b with
      | false =>
        rw [if_neg (by decide)] at q1
        simp only [Bool.false_eq_true, if_false]
        have hsz1 : g < s₁.gens.size := by
          have q : (s₁.setGen g gs').gens.size = s₁.gens.size := setGen_size _ _ _
          have hsz' : g + 1 ≤ (s₁.setGen g gs').gens.size := hsz
          omega
        refine wpAny_pure ⟨plainId_quiet F.plain_any_loop _, ih (s₁.setGen g gs') hg1 I1.nolimit ⟨gs', setGen_at hsz1, ?_⟩⟩
        exact q1 _ (Pres.same rfl rfl (allBare_setGen (allBare_setGen I1.bare hbare) rfl))
      | true =>
        simp only [if_true]
        refine wpAny_bind (wpAny_rule (wpAny_pure ?_))
        exact ⟨true, H', rfl, inv_same I1 rfl rfl (allBare_setGen I1.bare hbare), q1⟩
    · intro _
      obtain ⟨H', I1, q1⟩ := hp
      refine wpAny_bind (wpAny_rule (wpAny_pure ?_))
      exact ⟨false, H', rfl, gx_end I1 hk, q1⟩
end

/-! ### all(..), any(..) -/
def tBoolG (stop : Bool) (P : Addr) (wi : TI) (gt : TG) (tt : TT) (te : TE) (vs : List Nat) : TE := fun σ H Q => wi σ H fun J H1 => TabG H1 P ∧ ∀ H4, Tabbed P H1 H4 → ∃ (W : Nat → Nat → Hp → Prop) (m : Nat), W 0 m H4 ∧ tGx J gt tt te vs σ (yBool stop Q) (fun H => Q (.bl !stop) H) W
theorem room_in2 {k : Nat} {A : Around} (hr : Room (k + 1) A) (e : PySem.Env) : Room k (A.in1.in1.deeper e) :=
  ⟨hr.hd, by have := hr.dp; show A.depth + 1 + 3 * k + 5 < _; omega, by have := hr.un; show A.units + 1 + 1 + 3 + 16 * k + 200 < _; omega⟩
section
variable {X : Cx} {c P : Addr} {elt tg iter : Expr} {ifs : List Expr} {p pos gpos : Pos} {sc : Scope} {own : List (Str × Nat)} {k : Nat} {wi : TI} {gt : TG} {tt : TT} {te : TE}
theorem pe_allG (hc : X.calm = true) (hN : X.N.Nodup) (hr : Room (k + 1) X.A) (hG : X.A.guards = some []) (hgl : Gl X "all") (hm : X.mg "all" = none) (hb : bootBuiltins "all" = some (.builtin "all")) (TB : TabB X.base X.mg c P) (hcode : X.env.code = .ref c) (ok : BlkOk X.N X.env.scope sc own) (nc : ∀ y ∈ sc.names, y.2 ≠ .cell)
    (dot : sc.names.lookup (".0" : Str) = some NameKind.local) (co : sc.isCoroutine = false) (hi : PI X tg iter wi)
    (hg : ∀ (s : Shared) (H : Hp) (C : Addr) (cl : List (Str × Addr)) (cd : Value) (A : Around) (fp : List Addr) (pn : List (Addr × Obj)), Room k A → A.guards = some [] → PG (gx X s H (genEnv sc cl C cd builtinsNs X.env) A fp pn) tg gt)
    (ht : ∀ (s : Shared) (H : Hp) (C : Addr) (cl : List (Str × Addr)) (cd : Value) (A : Around) (fp : List Addr) (pn : List (Addr × Obj)), Room k A → A.guards = some [] → PTs (gx X s H (genEnv sc cl C cd builtinsNs X.env) A fp pn) ifs tt)
    (he : ∀ (s : Shared) (H : Hp) (C : Addr) (cl : List (Str × Addr)) (cd : Value) (A : Around) (fp : List Addr) (pn : List (Addr × Obj)), Room k A → A.guards = some [] → PE (gx X s H (genEnv sc cl C cd builtinsNs X.env) A fp pn) elt te)
    (hs : ∀ v, genFold iter X.env v = pure v) (hst : starEach [.GeneratorExp elt [⟨tg, iter, ifs, 0⟩] sc gpos] X.env = (false, eval (.GeneratorExp elt [⟨tg, iter, ifs, 0⟩] sc gpos) X.env) :: starEach [] X.env := by rfl) :
    PE X (.Call (.Name "all" p) [.GeneratorExp elt [⟨tg, iter, ifs, 0⟩] sc gpos] [] pos) (tBoolG false P wi gt tt te (own.map (·.2))) := by
  refine ⟨fun pins s σ H Q I h => ?_⟩
  refine wpAny_Call_Name_kw (ld_blt I hgl hm hb ?_)
  refine PyProof.Rows.callWith_builtin1 ?_ hst (by rfl)
  rw [hst]
  show wpAny _ _ (spliced ((false, eval (.GeneratorExp elt [⟨tg, iter, ifs, 0⟩] sc gpos) X.env) :: backTo pos (starEach [] X.env))) _ _ s
  refine Calls.spliced_cons (gx_make (Rj := fun J H1 => ∀ H4, Tabbed P H1 H4 → ∃ (W : Nat → Nat → Hp → Prop) (m : Nat), W 0 m H4 ∧ tGx J gt tt te (own.map (fun (z : Str × Nat) => z.2)) σ (yBool false Q) (fun H => Q (.bl !false) H) W)
    hc hN (hr.mono (Nat.le_succ k)) TB hcode ok nc dot co hi hg ht he hs I h fun J H1 H4 u s5 rj hT hM => ?_)
  obtain ⟨W, m, w0, turn⟩ := rj H4 hT
  obtain ⟨a, g, cc, rfl, hlt, hgen, hgs, I5, wake⟩ := hM
  refine Calls.spliced_nil ?_
  refine call_function_tree F.kind_all F.plain_all F.entry_all (F.args_all1 _) ?_
  unfold Builtin.«all»
  refine wpAny_bind (m := oneArg "all" _) (wpAny_pure ?_)
  refine wpAny_bind (wpAny_pyIter_gen hgen ?_)
  refine wpAny_pure ⟨plainId_quiet F.plain_all_loop _, codeAny_mono (all_goes (X := X) (pins := pins) (σ := σ) (Q := Q) (g := g) hr.hd (by have := hr.dp; omega) (m + 1) s5 hgen I5.nolimit ⟨_, hgs, rfl, ?_⟩) fun r s' hq => ?_⟩
  · exact wake _ _ _ W m (m + 1) H4 _ (room_in2 hr) I5.ok.frames hG yBool_mono turn (Pres.same rfl rfl (allBare_setGen I5.bare rfl)) w0 (Nat.lt_succ_self m)
  · obtain ⟨b, H', rfl, I', q'⟩ := hq
    exact ⟨.bl b, H', I', rfl, q'⟩
theorem pe_anyG (hc : X.calm = true) (hN : X.N.Nodup) (hr : Room (k + 1) X.A) (hG : X.A.guards = some []) (hgl : Gl X "any") (hm : X.mg "any" = none) (hb : bootBuiltins "any" = some (.builtin "any")) (TB : TabB X.base X.mg c P) (hcode : X.env.code = .ref c) (ok : BlkOk X.N X.env.scope sc own) (nc : ∀ y ∈ sc.names, y.2 ≠ .cell)
    (dot : sc.names.lookup (".0" : Str) = some NameKind.local) (co : sc.isCoroutine = false) (hi : PI X tg iter wi)
    (hg : ∀ (s : Shared) (H : Hp) (C : Addr) (cl : List (Str × Addr)) (cd : Value) (A : Around) (fp : List Addr) (pn : List (Addr × Obj)), Room k A → A.guards = some [] → PG (gx X s H (genEnv sc cl C cd builtinsNs X.env) A fp pn) tg gt)
    (ht : ∀ (s : Shared) (H : Hp) (C : Addr) (cl : List (Str × Addr)) (cd : Value) (A : Around) (fp : List Addr) (pn : List (Addr × Obj)), Room k A → A.guards = some [] → PTs (gx X s H (genEnv sc cl C cd builtinsNs X.env) A fp pn) ifs tt)
    (he : ∀ (s : Shared) (H : Hp) (C : Addr) (cl : List (Str × Addr)) (cd : Value) (A : Around) (fp : List Addr) (pn : List (Addr × Obj)), Room k A → A.guards = some [] → PE (gx X s H (genEnv sc cl C cd builtinsNs X.env) A fp pn) elt te)
    (hs : ∀ v, genFold iter X.env v = pure v) (hst : starEach [.GeneratorExp elt [⟨tg, iter, ifs, 0⟩] sc gpos] X.env = (false, eval (.GeneratorExp elt [⟨tg, iter, ifs, 0⟩] sc gpos) X.env) :: starEach [] X.env := by rfl) :
    PE X (.Call (.Name "any" p) [.GeneratorExp elt [⟨tg, iter, ifs, 0⟩] sc gpos] [] pos) (tBoolG true P wi gt tt te (own.map (·.2))) := by
  refine ⟨fun pins s σ H Q I h => ?_⟩
  refine wpAny_Call_Name_kw (ld_blt I hgl hm hb ?_)
  refine PyProof.Rows.callWith_builtin1 ?_ hst (by rfl)
  rw [hst]
  show wpAny _ _ (spliced ((false, eval (.GeneratorExp elt [⟨tg, iter, ifs, 0⟩] sc gpos) X.env) :: backTo pos (starEach [] X.env))) _ _ s
  refine Calls.spliced_cons (gx_make (Rj := fun J H1 => ∀ H4, Tabbed P H1 H4 → ∃ (W : Nat → Nat → Hp → Prop) (m : Nat), W 0 m H4 ∧ tGx J gt tt te (own.map (fun (z : Str × Nat) => z.2)) σ (yBool true Q) (fun H => Q (.bl !true) H) W)
    hc hN (hr.mono (Nat.le_succ k)) TB hcode ok nc dot co hi hg ht he hs I h fun J H1 H4 u s5 rj hT hM => ?_)
  obtain ⟨W, m, w0, turn⟩ := rj H4 hT
  obtain ⟨a, g, cc, rfl, hlt, hgen, hgs, I5, wake⟩ := hM
  refine Calls.spliced_nil ?_
  refine call_function_tree F.kind_any F.plain_any F.entry_any (F.args_any1 _) ?_
  unfold Builtin.«any»
  refine wpAny_bind (m := oneArg "any" _) (wpAny_pure ?_)
  refine wpAny_bind (wpAny_pyIter_gen hgen ?_)
  refine wpAny_pure ⟨plainId_quiet F.plain_any_loop _, codeAny_mono (any_goes (X := X) (pins := pins) (σ := σ) (Q := Q) (g := g) hr.hd (by have := hr.dp; omega) (m + 1) s5 hgen I5.nolimit ⟨_, hgs, rfl, ?_⟩) fun r s' hq => ?_⟩
  · exact wake _ _ _ W m (m + 1) H4 _ (room_in2 hr) I5.ok.frames hG yBool_mono turn (Pres.same rfl rfl (allBare_setGen I5.bare rfl)) w0 (Nat.lt_succ_self m)
  · obtain ⟨b, H', rfl, I', q'⟩ := hq
    exact ⟨.bl b, H', I', rfl, q'⟩
end
end Pd

set_option Elab.async false
set_option linter.all false
set_option maxRecDepth 100000
set_option maxHeartbeats 2000000
/-! Pd18: all, any of a generator expression, by data. -/
namespace Pd
open PySem PySem.Spec PyProof.Rows L2 GxR GenW

/-! ### a table of code objects grows -/
theorem tabbed_kp {P : Addr} {H H' : Hp} (h0 : TabG H P) (h : Tabbed P H H') (ρ : List Addr) : Kp ρ H H' := by
  obtain ⟨⟨q', e', t'⟩, k⟩ := h
  obtain ⟨q, e, _⟩ := h0
  refine ⟨fun a o ea no => ?_, fun a q2 ea => ?_⟩
  · obtain ⟨h1, h2⟩ := hid_some ea
    have ne : a ≠ P := fun z => by
      rw [z, e] at h2
      cases h2
      exact no q rfl
    rw [hid_out h1, k a ne]
    exact h2
  · obtain ⟨h1, h2⟩ := hid_some ea
    by_cases z : a = P
    · subst z
      exact ⟨q', by rw [hid_out h1]; exact e', fun _ => t'⟩
    · exact ⟨q2, by rw [hid_out h1, k a z]; exact h2, fun h => h⟩
theorem tabbed_sr {K : Frag} {tb ρ : List Addr} {P : Addr} {H H' : Hp} {st : Sto} (h0 : TabG H P) (h : Tabbed P H H') (S : SR K tb ρ H st) : SR K tb ρ H' st := by
  have kp := tabbed_kp h0 h ρ
  obtain ⟨tg, k⟩ := h
  obtain ⟨q, e, _⟩ := h0
  refine ⟨S.len, S.nd, fun n a o e1 e2 => ?_, fun P' hP' => ?_⟩
  · have r := S.obj n a o e1 e2
    cases o with
    | lst ds =>
      obtain ⟨xs, h1, h2⟩ := r
      exact ⟨xs, by rw [k a fun z => by rw [z, e] at h1; cases h1]; exact h1, h2.mono kp⟩
    | dic ks ds =>
      obtain ⟨xs, h1, h2, h3⟩ := r
      exact ⟨xs, by rw [k a fun z => by rw [z, e] at h1; cases h1]; exact h1, h2, h3.mono kp⟩
  · by_cases z : P' = P
    · subst z; exact tg
    · obtain ⟨q2, e2, t2⟩ := S.tab P' hP'
      exact ⟨q2, by rw [k P' z]; exact e2, t2⟩

/-! ### the mirror -/
def boolM (stop : Bool) (g : PyData → Env → Option Env) (tt : MT) (te : ME) (env : Env) : List PyData → Sto → R Bool
  | [], st => .ok (!stop) st
  | d :: ds, st => match g d env with
    | none => .bad
    | some env1 => (tt env1 st).bind fun b st1 => if b = true then (te env1 st1).bind fun x st2 => match x with
        | .dat (.bool c) => if c = stop then .ok stop st2 else boolM stop g tt te env ds st2
        | _ => .bad
      else boolM stop g tt te env ds st1
def mBoolG (stop : Bool) (mi : MN) (g : PyData → Env → Option Env) (tt : MT) (te : ME) (vs : List Nat) : ME := fun env st => (mi env st).bind fun ds st1 => (boolM stop g tt te (wipeE env vs) ds st1).bind fun b st2 => .ok (.dat (.bool b)) st2
theorem tells_boolG {K : Frag} {tb : List Addr} {P : Addr} {stop : Bool} {wi : TI} {mi : MN} {g : PyData → Env → Option Env} {tt : MT} {te : ME} {vs : List Nat} (hP : P ∈ tb)
    (hi : ∀ (σ : L2.St) (H : Hp) (ρ : List Addr) (st : Sto) (env : Env), ER K ρ H σ env → SR K tb ρ H st → ∀ ds st', mi env st = .ok ds st' → ∀ RJ : It → Hp → Prop, (∀ J H', Kp ρ H H' → SR K tb ρ H' st' → Goes K tb ρ H' J ds → RJ J H') → wi σ H RJ) :
    Tells K tb (tBoolG stop P wi (cG K g vs) (cT K tb tt) (cE K tb te) vs) (mBoolG stop mi g tt te vs) := by
  intro σ H ρ st env E S d st' h Q q
  obtain ⟨ds, st1, h1, h⟩ := R.bind_ok h
  obtain ⟨bb, st2, h2, h⟩ := R.bind_ok h
  cases h
  refine hi σ H ρ st env E S ds st1 h1 _ fun J H1 k1 S1 G => ⟨S1.tab P hP, fun H4 hT => ?_⟩
  have k4 := tabbed_kp (S1.tab P hP) hT ρ
  have S4 := tabbed_sr (S1.tab P hP) hT S1
  refine ⟨fun i m H' => m + i = ds.length ∧ ∃ stX, Kp ρ H4 H' ∧ SR K tb ρ H' stX ∧ boolM stop g tt te (wipeE env vs) (ds.drop i) stX = .ok bb st', ds.length, ⟨by simp, _, Kp.refl _ _, S4, h2⟩, ?_⟩
  rintro i m H' ⟨hm, stX, k, SX', hl⟩
  obtain ⟨gs, gi⟩ := G ρ H' stX (Kx.of (k4.trans k)) SX'
  by_cases hlt : i < ds.length
  · have hd : ds[i]? = some ds[i] := List.getElem?_eq_getElem hlt
    obtain ⟨go, yl⟩ := gi i ds[i] hd
    have hdr : ds.drop i = ds[i] :: ds.drop (i + 1) := List.drop_eq_getElem_cons hlt
    rw [hdr] at hl
    refine .inr ⟨go, fun H2 => ∃ stY, Kp ρ H4 H2 ∧ SR K tb ρ H2 stY ∧ boolM stop g tt te (wipeE env vs) (ds.drop (i + 1)) stY = .ok bb st', fun H2 hN => ⟨m - 1, by omega, by omega, hN⟩, fun x H2 hy => ?_⟩
    obtain ⟨x2, r2⟩ := yl x H2 hy
    have S2 := SX'.xn x2
    have k2 := k.trans (x2.kp ρ)
    have E2 : ER K ρ H2 (L2.wipe σ vs) (wipeE env vs) := (E.mono (k1.trans (k4.trans k2))).wipe vs
    cases hg1 : g ds[i] (wipeE env vs) with
    | none => simp only [boolM, hg1] at hl; cases hl
    | some env1 =>
      simp only [boolM, hg1] at hl
      obtain ⟨b, st3, h3, hl⟩ := R.bind_ok hl
      refine ⟨ρ, _, env1, ds[i], E2, r2, hg1, fun σ3 E3 hw => ⟨by rw [hw]; exact wipe_sub vs fun v hv => hv, ?_⟩⟩
      refine ⟨ρ, stX, env1, b, st3, E3, S2, h3, fun H3 k3 S3 => ?_⟩
      have k13 := k2.trans k3
      cases b with
      | false =>
        rw [if_neg Bool.false_ne_true] at hl
        exact iteF ⟨st3, k13, S3, hl⟩
      | true =>
        rw [if_pos rfl] at hl
        refine iteT ?_
        obtain ⟨y, st5, h5, hl⟩ := R.bind_ok hl
        refine ⟨ρ, st3, env1, y, st5, E3.mono k3, S3, h5, fun v H5 k5 r5 S5 => ?_⟩
        cases y with
        | ref n => cases hl
        | scr n => cases hl
        | dat y =>
          cases y with
          | bool cc =>
            cases r5
            have hl : (if cc = stop then R.ok stop st5 else boolM stop g tt te (wipeE env vs) (ds.drop (i + 1)) st5) = .ok bb st' := hl
            refine ⟨cc, rfl, ?_⟩
            by_cases hcs : cc = stop
            · rw [if_pos hcs] at hl ⊢
              cases hl
              exact q _ H5 (k1.trans (k4.trans (k13.trans k5))) (.bl _) S5
            · rw [if_neg hcs] at hl ⊢
              exact ⟨st5, k13.trans k5, S5, hl⟩
          | _ => cases hl
  · have hi' : i = ds.length := by omega
    subst hi'
    rw [List.drop_length] at hl
    cases hl
    exact .inl ⟨gs, q _ H' (k1.trans (k4.trans k)) (.bl _) SX'⟩

section
variable {X : Cx} {tb : List Addr} {c P : Addr} {elt tg iter : Expr} {ifs : List Expr} {p pos gpos : Pos} {sc : Scope} {own : List (Str × Nat)} {k : Nat} {mi : MN} {g : PyData → Env → Option Env} {tt : MT} {te : ME}
theorem pd_allG (hc : X.calm = true) (hN : X.N.Nodup) (hr : Room (k + 1) X.A) (hG : X.A.guards = some []) (hgl : Gl X "all") (hm : X.mg "all" = none) (TB : TabB X.base X.mg c P) (hP : P ∈ tb) (hcode : X.env.code = .ref c) (ok : BlkOk X.N X.env.scope sc own) (nc : ∀ y ∈ sc.names, y.2 ≠ .cell)
    (dot : sc.names.lookup (".0" : Str) = some NameKind.local) (co : sc.isCoroutine = false) (hi : PDI X tb tg iter mi)
    (hg : ∀ (s : Shared) (H : Hp) (C : Addr) (cl : List (Str × Addr)) (cd : Value) (A : Around) (fp : List Addr) (pn : List (Addr × Obj)), Room k A → A.guards = some [] → PDGw (gx X s H (genEnv sc cl C cd builtinsNs X.env) A fp pn) tg g (own.map (·.2)))
    (ht : ∀ (s : Shared) (H : Hp) (C : Addr) (cl : List (Str × Addr)) (cd : Value) (A : Around) (fp : List Addr) (pn : List (Addr × Obj)), Room k A → A.guards = some [] → PDTs (gx X s H (genEnv sc cl C cd builtinsNs X.env) A fp pn) tb ifs tt)
    (he : ∀ (s : Shared) (H : Hp) (C : Addr) (cl : List (Str × Addr)) (cd : Value) (A : Around) (fp : List Addr) (pn : List (Addr × Obj)), Room k A → A.guards = some [] → PD (gx X s H (genEnv sc cl C cd builtinsNs X.env) A fp pn) tb elt te)
    (hs : ∀ v, genFold iter X.env v = pure v := by intro _; rfl) (hst : starEach [.GeneratorExp elt [⟨tg, iter, ifs, 0⟩] sc gpos] X.env = (false, eval (.GeneratorExp elt [⟨tg, iter, ifs, 0⟩] sc gpos) X.env) :: starEach [] X.env := by rfl) :
    PD X tb (.Call (.Name "all" p) [.GeneratorExp elt [⟨tg, iter, ifs, 0⟩] sc gpos] [] pos) (mBoolG false mi g tt te (own.map (·.2))) := by
  obtain ⟨wi, pi, qi⟩ := hi
  exact ⟨_, pe_allG (gt := cG X.K g (own.map (fun (z : Str × Nat) => z.2))) (tt := cT X.K tb tt) (te := cE X.K tb te) hc hN hr hG hgl hm rfl TB hcode ok nc dot co pi hg ht (fun s H C cl cd A fp pn r1 r2 => (he s H C cl cd A fp pn r1 r2).c) hs hst, tells_boolG hP qi⟩
theorem pd_anyG (hc : X.calm = true) (hN : X.N.Nodup) (hr : Room (k + 1) X.A) (hG : X.A.guards = some []) (hgl : Gl X "any") (hm : X.mg "any" = none) (TB : TabB X.base X.mg c P) (hP : P ∈ tb) (hcode : X.env.code = .ref c) (ok : BlkOk X.N X.env.scope sc own) (nc : ∀ y ∈ sc.names, y.2 ≠ .cell)
    (dot : sc.names.lookup (".0" : Str) = some NameKind.local) (co : sc.isCoroutine = false) (hi : PDI X tb tg iter mi)
    (hg : ∀ (s : Shared) (H : Hp) (C : Addr) (cl : List (Str × Addr)) (cd : Value) (A : Around) (fp : List Addr) (pn : List (Addr × Obj)), Room k A → A.guards = some [] → PDGw (gx X s H (genEnv sc cl C cd builtinsNs X.env) A fp pn) tg g (own.map (·.2)))
    (ht : ∀ (s : Shared) (H : Hp) (C : Addr) (cl : List (Str × Addr)) (cd : Value) (A : Around) (fp : List Addr) (pn : List (Addr × Obj)), Room k A → A.guards = some [] → PDTs (gx X s H (genEnv sc cl C cd builtinsNs X.env) A fp pn) tb ifs tt)
    (he : ∀ (s : Shared) (H : Hp) (C : Addr) (cl : List (Str × Addr)) (cd : Value) (A : Around) (fp : List Addr) (pn : List (Addr × Obj)), Room k A → A.guards = some [] → PD (gx X s H (genEnv sc cl C cd builtinsNs X.env) A fp pn) tb elt te)
    (hs : ∀ v, genFold iter X.env v = pure v := by intro _; rfl) (hst : starEach [.GeneratorExp elt [⟨tg, iter, ifs, 0⟩] sc gpos] X.env = (false, eval (.GeneratorExp elt [⟨tg, iter, ifs, 0⟩] sc gpos) X.env) :: starEach [] X.env := by rfl) :
    PD X tb (.Call (.Name "any" p) [.GeneratorExp elt [⟨tg, iter, ifs, 0⟩] sc gpos] [] pos) (mBoolG true mi g tt te (own.map (·.2))) := by
  obtain ⟨wi, pi, qi⟩ := hi
  exact ⟨_, pe_anyG (gt := cG X.K g (own.map (fun (z : Str × Nat) => z.2))) (tt := cT X.K tb tt) (te := cE X.K tb te) hc hN hr hG hgl hm rfl TB hcode ok nc dot co pi hg ht (fun s H C cl cd A fp pn r1 r2 => (he s H C cl cd A fp pn r1 r2).c) hs hst, tells_boolG hP qi⟩
end
end Pd

set_option Elab.async false
set_option linter.all false
set_option maxRecDepth 100000
set_option maxHeartbeats 2000000
/-! Pd19: walking texts, zip, str(int); defs whose code object is known. -/
namespace Pd
open PySem PySem.Spec PyProof.Rows L2 GxR RZ

section
variable {X : Cx} {tb : List Addr} {pos : Pos} {a e e2 : Expr} {es : List Expr} {ma : ME} {m : MA}
/-! ### a list, a tuple, or a text -/
def iAny (K : Frag) (tl : TE) : TI := fun σ H J => tl σ H fun x H1 => (∃ p, x = .ref p ∧ (∃ xs, SqL K H1 p xs) ∧ J (Itl K p) H1) ∨ (∃ p, x = .ref p ∧ (∃ xs, SqT K H1 p xs) ∧ J (Itt K p) H1) ∨ ∃ y, x = .str y ∧ J (Its y) H1
theorem pi_any {l tg : Expr} {tl : TE} (hl : PE X l tl) : PI X tg l (iAny X.K tl) := by
  refine ⟨fun pins s σ H J I h => thn (hl.run pins s σ H _ I h) fun w s1 hw => ?_⟩
  obtain ⟨x, H1, I1, r1, q1⟩ := hw
  have fresh : ∀ b ∈ [s1.heap.objs.size], FpOk X pins H1 b := fun b hb => by
    cases List.mem_singleton.mp hb
    exact I1.fpOk (Nat.le_refl _) (I1.hok.fresh (Nat.le_refl _))
  rcases q1 with ⟨p, rfl, ⟨xs, hq⟩, q⟩ | ⟨p, rfl, ⟨xs, hq⟩, q⟩ | ⟨y, rfl, q⟩
  · cases r1
    obtain ⟨its, rv, pl, hz⟩ := I1.list hq
    exact wpAny_pyIter_list pl.isList ⟨_, [s1.heap.objs.size], _, _, H1, rfl, I1.kept (t' := s1.toks) (fun b o e => Heap.get?_push_of_some _ e), turn_list p _, ⟨_, Heap.get?_push_size _ rfl, rfl, rfl⟩, fresh, q⟩
  · cases r1
    obtain ⟨its, rv, pt, hz⟩ := I1.tuple hq
    exact wpAny_pyIter_tuple (show s1.heap.IsTuple p its.toArray from pt) ⟨_, [s1.heap.objs.size], _, _, H1, rfl, I1.kept (t' := s1.toks) (fun b o e => Heap.get?_push_of_some _ e), turn_tuple p _, ⟨_, Heap.get?_push_size _ rfl, rfl, rfl⟩, fresh, q⟩
  · obtain ⟨t, rfl⟩ := r1
    cases ha : y.cps.all (· < 128) with
    | false => exact wpAny_pyIter_wide ha (pi_one (tk := s1.toks) I1 _ (turn_str _ y t "str_iterator" (.inr rfl)) ⟨_, Heap.get?_push_size _ rfl, rfl, rfl⟩ q)
    | true => exact wpAny_pyIter_ascii ha (pi_one (tk := s1.toks) I1 _ (turn_str _ y t "str_ascii_iterator" (.inl rfl)) ⟨_, Heap.get?_push_size _ rfl, rfl, rfl⟩ q)
def signsD (x : Str) : List PyData := x.cps.toList.map fun c => .str ⟨#[c]⟩
def itemsD : PyData → Option (List PyData)
  | .str x => some (signsD x)
  | d => seqD d
def mIterS (ma : ME) : MN := fun env st => (ma env st).bind fun d st1 => match d with
  | .dat x => R.opt (itemsD x) st1
  | _ => .bad
theorem goes_str {K : Frag} {ρ : List Addr} {H : Hp} (x : Str) : Goes K tb ρ H (Its x) (signsD x) := fun ρ' H' st2 kx S' => by
  have hl : (signsD x).length = x.cps.size := by simp [signsD]
  refine ⟨by rw [hl]; exact Nat.le_refl _, fun i d hd => ?_⟩
  obtain ⟨h1, h2⟩ := List.getElem?_eq_some_iff.mp hd
  rw [hl] at h1
  refine ⟨h1, fun v H2 hy => ?_⟩
  obtain ⟨rfl, c, hc, rfl⟩ := hy
  have e : d = .str ⟨#[c]⟩ := by
    have z : (signsD x)[i]? = some (.str ⟨#[c]⟩) := by
      simp only [signsD, List.getElem?_map, Array.getElem?_toList, hc, Option.map_some]
    rw [z] at hd
    exact (Option.some.inj hd).symm
  subst e
  exact ⟨Xn.refl _, .str _⟩
theorem pdi_any {tg : Expr} (h : PD X tb a ma) : PDI X tb tg a (mIterS ma) := by
  obtain ⟨t, p, q⟩ := h
  refine ⟨_, pi_any p, fun σ H ρ st env E S ds st' h RJ hR => ?_⟩
  obtain ⟨d, st1, h1, h⟩ := R.bind_ok h
  refine q σ H ρ st env E S _ _ h1 _ fun v H1 k1 r1 S1 => ?_
  cases d with
  | ref n => cases h
  | scr n => cases h
  | dat x =>
    replace h := R.opt_ok h
    obtain ⟨h, rfl⟩ := h
    cases x with
    | list es =>
      cases h
      cases r1 with
      | lst s r => exact .inl ⟨_, rfl, ⟨_, .inl (.inl (hid_some s).2)⟩, hR _ H1 k1 S1 (goes_lst s r)⟩
    | tuple es =>
      cases h
      cases r1 with
      | tup s r => exact .inr (.inl ⟨_, rfl, ⟨_, (hid_le ρ H1).sqT s⟩, hR _ H1 k1 S1 (goes_tup s r)⟩)
    | str y =>
      cases h
      cases r1
      exact .inr (.inr ⟨_, rfl, hR _ H1 k1 S1 (goes_str y)⟩)
    | _ => cases h

/-! ### zip of two lists or two tuples -/
def pairsD (xs ys : List PyData) : List PyData := List.zipWith (fun x y => .tuple [x, y]) xs ys
theorem pairs_get {xs ys : List PyData} {i : Nat} {d : PyData} (h : (pairsD xs ys)[i]? = some d) : ∃ x y, xs[i]? = some x ∧ ys[i]? = some y ∧ d = .tuple [x, y] := by
  unfold pairsD at h
  rw [List.getElem?_zipWith] at h
  cases h1 : xs[i]? with
  | none => rw [h1] at h; cases h
  | some x =>
    cases h2 : ys[i]? with
    | none => rw [h1, h2] at h; cases h
    | some y =>
      rw [h1, h2] at h
      cases h
      exact ⟨x, y, rfl, rfl, rfl⟩
def mZip (m : MA) : MN := fun env st => (m env st).bind fun ds st1 => match ds with
  | [.dat (.list xs), .dat (.list ys)] => .ok (pairsD xs ys) st1
  | [.dat (.tuple xs), .dat (.tuple ys)] => .ok (pairsD xs ys) st1
  | _ => .bad
theorem goes_zipL {K : Frag} {ρ : List Addr} {H : Hp} {p1 p2 : Addr} {xs ys : List V} {ds es : List PyData} (s1 : hid ρ H p1 = some (.lst xs)) (r1 : Drs K (hid ρ H) xs ds) (s2 : hid ρ H p2 = some (.lst ys)) (r2 : Drs K (hid ρ H) ys es) :
    Goes K tb ρ H (Itz K p1 p2) (pairsD ds es) := fun ρ' H' st2 kx S' => by
  have t1 := kx.xt.keep p1 _ s1 fun q z => by cases z
  have t2 := kx.xt.keep p2 _ s2 fun q z => by cases z
  have q1 : SqL K H' p1 xs := .inl (.inl (hid_some t1).2)
  have q2 : SqL K H' p2 ys := .inl (.inl (hid_some t2).2)
  refine ⟨⟨xs, ys, q1, q2, ?_⟩, fun i d hd => ?_⟩
  · rw [r1.len, r2.len]
    simp only [pairsD, List.length_zipWith]
    omega
  · obtain ⟨x, y, hx, hy, rfl⟩ := pairs_get hd
    obtain ⟨v, hv, rv⟩ := r1.get hx
    obtain ⟨u, hu, ru⟩ := r2.get hy
    refine ⟨⟨xs, ys, v, u, q1, q2, hv, hu⟩, fun z H2 hz => ?_⟩
    obtain ⟨T, v', u', rfl, hT, rfl, z1, z2⟩ := hz
    have e1 := z1 xs q1
    rw [hv] at e1
    cases e1
    have e2 := z2 ys q2
    rw [hu] at e2
    cases e2
    have x2 := Xn.new (o := .tup [v, u]) hT
    refine ⟨x2, .tup (.inl (.inl ?_)) ((Drs.cons (rv.mono kx.xt) (.cons (ru.mono kx.xt) .nil)).mono (x2.kp ρ'))⟩
    rw [hid_out (S'.new hT)]
    exact upd_same
theorem goes_zipT {K : Frag} {ρ : List Addr} {H : Hp} {p1 p2 : Addr} {xs ys : List V} {ds es : List PyData} (s1 : SqT K (hid ρ H) p1 xs) (r1 : Drs K (hid ρ H) xs ds) (s2 : SqT K (hid ρ H) p2 ys) (r2 : Drs K (hid ρ H) ys es) :
    Goes K tb ρ H (ItzT K p1 p2) (pairsD ds es) := fun ρ' H' st2 kx S' => by
  have q1 : SqT K H' p1 xs := (hid_le ρ' H').sqT (kx.xt.sqT s1)
  have q2 : SqT K H' p2 ys := (hid_le ρ' H').sqT (kx.xt.sqT s2)
  refine ⟨⟨xs, ys, q1, q2, ?_⟩, fun i d hd => ?_⟩
  · rw [r1.len, r2.len]
    simp only [pairsD, List.length_zipWith]
    omega
  · obtain ⟨x, y, hx, hy, rfl⟩ := pairs_get hd
    obtain ⟨v, hv, rv⟩ := r1.get hx
    obtain ⟨u, hu, ru⟩ := r2.get hy
    refine ⟨⟨xs, ys, v, u, q1, q2, hv, hu⟩, fun z H2 hz => ?_⟩
    obtain ⟨T, v', u', rfl, hT, rfl, z1, z2⟩ := hz
    have e1 := z1 xs q1
    rw [hv] at e1
    cases e1
    have e2 := z2 ys q2
    rw [hu] at e2
    cases e2
    have x2 := Xn.new (o := .tup [v, u]) hT
    refine ⟨x2, .tup (.inl (.inl ?_)) ((Drs.cons (rv.mono kx.xt) (.cons (ru.mono kx.xt) .nil)).mono (x2.kp ρ'))⟩
    rw [hid_out (S'.new hT)]
    exact upd_same
theorem pdi_zip {elts : List Expr} {kk : Nat} {tpos p : Pos} (hg : Gl X "zip") (hm : X.mg "zip" = none) (h : PDA X tb [e, e2] m) (hs : starEach [e, e2] X.env = (false, eval e X.env) :: starEach [e2] X.env := by rfl) (hpl : (backTo pos (starEach [e2] X.env)).any (·.1) = false := by rfl) :
    PDI X tb (.Tuple elts kk tpos) (.Call (.Name "zip" p) [e, e2] [] pos) (mZip m) := by
  obtain ⟨t, pa, q⟩ := h
  refine ⟨_, pi_zipA hg hm pa hs hpl, fun σ H ρ st env E S ds st' h RJ hR => ?_⟩
  obtain ⟨da, st1, h1, h⟩ := R.bind_ok h
  refine q σ H ρ st env E S _ _ h1 _ fun vs H1 k1 r1 S1 => ?_
  split at h
  · cases h
    cases r1 with
    | cons r r' =>
      cases r' with
      | cons r2 r3 =>
        cases r3
        cases r with
        | lst s1 t1 =>
          cases r2 with
          | lst s2 t2 => exact ⟨_, _, _, _, rfl, .inl ⟨.inl (.inl (hid_some s1).2), .inl (.inl (hid_some s2).2), hR _ H1 k1 S1 (goes_zipL s1 t1 s2 t2)⟩⟩
  · cases h
    cases r1 with
    | cons r r' =>
      cases r' with
      | cons r2 r3 =>
        cases r3
        cases r with
        | tup s1 t1 =>
          cases r2 with
          | tup s2 t2 => exact ⟨_, _, _, _, rfl, .inr ⟨(hid_le ρ H1).sqT s1, (hid_le ρ H1).sqT s2, hR _ H1 k1 S1 (goes_zipT s1 t1 s2 t2)⟩⟩
  · cases h

/-! ### str(n) -/
def strD : List PyData → Option PyData
  | [.int i] => if i.natAbs.log2 < 1920 then some (.str (toString i)) else none
  | _ => none
theorem cd_str : CallD X (.type "str") strD := by
  refine ⟨_, call_str_int, fun ρ H vs ds d T h hf Q q => ?_⟩
  unfold strD at hf
  split at hf
  · rename_i i
    by_cases hi : i.natAbs.log2 < 1920
    · rw [if_pos hi] at hf
      cases hf
      cases h with
      | cons h1 h2 =>
        cases h2
        rw [h1.int]
        exact ⟨_, rfl, hi, q _ H (Xn.refl H) (.str _)⟩
    · rw [if_neg hi] at hf
      cases hf
  · cases hf
end

/-! ### a def, its code object known -/
section
variable {P : Program} {w : World} {K : Frag} {mg : Str → Option Value} {base : Heap}
theorem fnG_ofC {CX : CXT} {x q : Str} {st : Stmt} {f : Addr} {fd : FuncData} {N ps : List Str} {k : Nat} {sp : Sp} (F : Fun K x q st f fd) (S : FnScope N ps (defScope st)) (len : ∀ vs H Q E, sp vs H Q E → vs.length = ps.length)
    (hb : ∀ (A : Around) (out : List PySem.Env) (s : Shared) (H : Hp) (vs : List V) (Q : VK) (E : XK), Room k (A.deeper (envOfC q (defScope st) s.heap.objs.size f fd.code)) → A.guards = some [] → sp vs H Q E →
      ∃ t, PSs (cxOf CX P w K mg base N q (defScope st) f fd.code A out s H E) (defBody st) t ∧ t { nx := fun _ H' => Q .non H', rt := Q } (start N vs) H) : FnG P w K mg base CX (k + 1) f fd ps sp := by
  obtain ⟨oc, od, kV, doc, pm, an, cdv, ct, osl, rfl, lk, hcd⟩ := F.ex
  refine ⟨len, fun A out s H ar us vs Q E hr hg e0 hbi hv hsp => ?_⟩
  have kIn : K.In s.heap := e0.mod.kin.keeps fun b o e => (e0.bs b o e).1
  have noL : s.heap.NoLimit := e0.mod.nolimit.keeps fun b o e => (e0.bs b o e).1
  refine codeAny_call_function hr.depth (kIn _ _ lk) rfl S.co S.gen rfl (PySem.W.codeRec_of kIn hcd) (hbi _ _ _ _ ?_)
  refine wpAny_newFunctionEnv_cells S.kind (fun y hy => ?_) fun en hen s1 inn => ?_
  · rcases S.par y.1 (List.of_mem_zip (show (y.1, y.2) ∈ ps.zip us from hy)).1 with z | z
    · exact .inl z
    · exact .inr ⟨z, PySem.W.cellsFrom_some _ _ _ (.inl z)⟩
  · subst hen
    refine ⟨noL.keeps inn.toInCall.keep, codeAny_func ?_⟩
    obtain ⟨t, ht, hq⟩ := hb A out s H vs Q E (hr.deeper _) hg hsp
    have I0 := inv_start (CX := CX) (E := E) (f := f) (cd := cdv) (qual := q) S hr.hd e0 (len _ _ _ _ hsp) hv inn
    refine wpAny_mono (ht.run [] s1 _ H _ I0 hq) (fun fl s' hs => ?_) fun _ _ z => z
    cases fl with
    | ret u =>
      obtain ⟨v, σ', H', J, rv, qv⟩ := hs
      exact ⟨v, H', J.os, J.bare, J.base, J.hok, rv, qv⟩
    | next =>
      obtain ⟨σ', H', J, qv⟩ := hs
      exact ⟨V.non, H', J.os, J.bare, J.base, J.hok, rfl, qv⟩
    | brk =>
      obtain ⟨σ', H', J, qv⟩ := hs
      exact False.elim qv
    | cont =>
      obtain ⟨σ', H', J, qv⟩ := hs
      exact False.elim qv
theorem fnMC {x q : Str} {st : Stmt} {f : Addr} {fd : FuncData} {N ps : List Str} {k : Nat} {tb : List Addr} {m : MS} (F : Fun K x q st f fd) (S : FnScope N ps (defScope st))
    (hb : ∀ (A : Around) (out : List PySem.Env) (s : Shared) (H : Hp) (E : XK), Room k (A.deeper (envOfC q (defScope st) s.heap.objs.size f fd.code)) → (A.deeper (envOfC q (defScope st) s.heap.objs.size f fd.code)).guards = some [] →
      PDB (cxOf CX0 P w K mg base N q (defScope st) f fd.code A out s H E).nox tb (defBody st) m) : FnG P w K mg base CX0 (k + 1) f fd ps (spM K tb ps.length (bodyM N.length m)) := by
  refine fnG_ofC F S (fun vs H Q E h => h.1) fun A out s H vs Q E hr hg h => ?_
  obtain ⟨t, pt, ht⟩ := hb A out s H E hr hg
  exact ⟨t, pt.nox, body_tells ht h⟩
end
/-- a text of the module -/
theorem pd_globS {X : Cx} {tb : List Addr} {pos : Pos} {x y : Str} (hg : Gl X x) (hm : ∃ t, X.mg x = some (.str y t)) (hd : (x == ("__debug__" : Str)) = false := by decide) : PD X tb (.Name x pos) (mC (.str y)) := by
  obtain ⟨t, hm⟩ := hm
  exact pd_glob (v := .str y) hg hm ⟨t, rfl⟩ (fun _ => .str y) hd
theorem rm2 {k : Nat} {A : Around} (r : Room (k + 2) A) : Room k A := r.mono (by omega)
theorem rm1 {k : Nat} {A : Around} (r : Room (k + 1) A) : Room k A := r.mono (by omega)
end Pd

set_option Elab.async false
set_option linter.all false
set_option maxRecDepth 100000
set_option maxHeartbeats 2000000
/-! Pd20: the end of a law whose defs make generators. -/
namespace Pd
open PySem PySem.Spec PyProof.Rows L2 GxR

/-- the table of each def's code object is empty at the law's entry -/
def AllTab (q : Program) (K : Frag) (mg : Str → Option Value) (h : Heap) : Prop := ∀ (x : Str) {f c P : Addr} {o : Obj} {fd : FuncData} {e : Value} {dd : Option Addr} {vs : Array Value} {sl : Array (Option Value)},
  ((recsOf q).any fun r => r.name == x) = true → mg x = some (.ref f) → K.lookup f = some o → o.data = .func fd → fd.code = .ref c → K.lookup c = some ⟨e, dd, .fields vs, sl⟩ → vs[11]? = some (.ref P) → h.get? P = some { cls := .none, data := .fields #[] }
theorem walkGT {l : PySem.W.OpenLaw} {n k : Nat} {q : Program} {loose : List Str} {XP : (Str → Option Value) → Heap → Prop} {YP : World → Heap → Prop} {d : DefRec} {K : Params → Frag} {x : Str}
    (hn : l.most = some n) (hn2 : n ≤ sizeLine) (hdf : d.params.defaults = []) (hr : Room k callerA) (hY : ∀ (w : World) (h : Heap), YP w h → (K w.params).In h)
    (F : ∀ (w : World) (mg : Str → Option Value) (fa : Addr) (h : Heap), YP w h → (K w.params).In h → h.Ns mainGlobals mg → mg d.name = some (.ref fa) → AllTab q (K w.params) mg h → LawG l w (K w.params) k n x mg fa h) :
    PySem.W.WalkO q loose XP YP l.row.toRowW d [] (fun f vs => PySem.call f vs) := by
  refine Att.attach_callB hn hdf fun w s₀ s₁ mg mb fa o pm cd doc a vs ns G Y ho hd hcd hmg hobj hints hlen hbits hg => ?_
  have kin := hY w _ Y
  have tabs : AllTab q (K w.params) mg s₁.heap := by
    intro y f c P ob fd e dd us sl hy m1 l1 d1 c1 l2 p1
    obtain ⟨r, hr1, hr2⟩ := List.any_eq_true.mp hy
    obtain ⟨f', ob', fd', c', P', h1, h2, h3, h4, h5, h6⟩ := G.T.tab r hr1
    rw [show r.name = y from beq_iff_eq.mp hr2, m1] at h1
    cases h1
    rw [kin _ _ l1] at h2
    cases h2
    rw [d1] at h3
    cases h3
    rw [c1] at h4
    cases h4
    obtain ⟨⟨oc, vc, e1, _, e3, e4⟩, hP⟩ := h6
    rw [kin _ _ l2] at e1
    cases e1
    cases e3
    rw [p1] at e4
    cases e4
    exact hP
  obtain ⟨fd, cs, m, hT, nT, hC, hb, hm, hF⟩ := F w mg fa _ Y kin G.T.g hmg tabs
  refine law_goG kin G.T.g G.T.b G.T.builtins G.T.nolimit hg hT nT hC G.T.bmain hobj hints (Nat.le_trans hlen hn2) hr hF hb fun H hH hS => ?_
  obtain ⟨st, e⟩ := hm ns hlen hbits
  have hh : hid [] H = H := by
    funext b
    exact hid_out (fun z => (nomatch z))
  refine ⟨rfl, [], [], [.scr ns], .cons ⟨a, rfl, by rw [hh]; exact hS⟩ .nil, ⟨rfl, List.nodup_nil, fun i b u z => by simp at z, fun P hP => ?_⟩, ?_⟩
  · obtain ⟨p, hp, rfl⟩ := List.mem_map.mp hP
    exact ⟨#[], hH p hp, trivial⟩
  · rw [e]
    intro v H' _ r _
    cases r
    rfl
end Pd

set_option Elab.async false
set_option linter.all false
set_option maxRecDepth 100000
set_option maxHeartbeats 4000000
namespace K01
open PySem PySem.Spec PyProof.Rows L2 Pd
theorem hu65 {k : Nat} {A : Around} (r : Room k A) : A.units + 65 < cLine := by have := r.un; omega
def topS (i : Nat) : Stmt := PySem.Challenge.pw_askfolds_k01_names_and_kinds_by_kind.main.body.getD i (.Pass ⟨0, 0, 0, 0⟩)
abbrev s_is_number : Stmt := topS 3
abbrev s_is_name : Stmt := topS 4
abbrev s_is_kind : Stmt := topS 5
abbrev s_law_feed : Stmt := topS 7
abbrev s_law_draw : Stmt := topS 8
abbrev s_law_name : Stmt := topS 9
abbrev s_law_bend : Stmt := topS 10
abbrev s_law_odd : Stmt := topS 11
abbrev s_law_same : Stmt := topS 12
abbrev s_law_number : Stmt := topS 13
abbrev s_law_great : Stmt := topS 14
abbrev s_law_spoilt : Stmt := topS 15
abbrev s_law_any_kind : Stmt := topS 16
abbrev s_law_named : Stmt := topS 17
abbrev s_law_kinded : Stmt := topS 18
abbrev s_law_fixed : Stmt := topS 19
abbrev s_law : Stmt := topS 20
abbrev c_LETTERS : Str := "abcdefghijklmnopqrstuvwxyz"
abbrev c_FIGURES : Str := "0123456789"
/-- the turns that a while may take -/
def fuel : Nat := 100000
/-- the defs by their mirrors -/
structure CT where
  is_number : MF
  is_name : MF
  is_kind : MF
  law_feed : MF
  law_draw : MF
  law_name : MF
  law_bend : MF
  law_odd : MF
  law_same : MF
  law_number : MF
  law_great : MF
  law_spoilt : MF
  law_any_kind : MF
  law_named : MF
  law_kinded : MF
  law_fixed : MF
  law : MF
/-- where the defs stand -/
structure AD where
  a_is_number : Addr
  d_is_number : FuncData
  a_is_name : Addr
  d_is_name : FuncData
  a_is_kind : Addr
  d_is_kind : FuncData
  a_law_feed : Addr
  d_law_feed : FuncData
  a_law_draw : Addr
  d_law_draw : FuncData
  a_law_name : Addr
  d_law_name : FuncData
  a_law_bend : Addr
  d_law_bend : FuncData
  a_law_odd : Addr
  d_law_odd : FuncData
  a_law_same : Addr
  d_law_same : FuncData
  a_law_number : Addr
  d_law_number : FuncData
  a_law_great : Addr
  d_law_great : FuncData
  a_law_spoilt : Addr
  d_law_spoilt : FuncData
  a_law_any_kind : Addr
  d_law_any_kind : FuncData
  a_law_named : Addr
  d_law_named : FuncData
  a_law_kinded : Addr
  d_law_kinded : FuncData
  a_law_fixed : Addr
  d_law_fixed : FuncData
  a_law : Addr
  d_law : FuncData
  c_is_name : Addr
  p_is_name : Addr
  c_is_kind : Addr
  p_is_kind : Addr
def m_is_number (C : CT) : MS :=
  (mRet (mAndV (mIsi "int" (mVar 0)) (mNotV (mIsi "bool" (mVar 0)))))
def m_is_name (C : CT) : MS :=
  (mSeq (mIfS (mOr (mNot (mTru (mIsi "str" (mVar 0)))) (mNot (mTest (mChain leD leD (mC (.int 1)) (mBlt lenD (mCons (mVar 0) mNil)) (mC (.int 8)))))) (mRet (mC (.bool false))) mSkip)
  (mRet (mAndV (mBin inD (mBin ixD (mVar 0) (mC (.int 0))) (mC (.str c_LETTERS))) (mBoolG false (mIterS (mVar 0)) (gSet 1) mYes (mBin inD (mVar 1) (mBin addD (mC (.str c_LETTERS)) (mC (.str c_FIGURES)))) [1]))))
def m_is_kind (C : CT) : MS :=
  (mSeq (mIfS (mOr (mNot (mTru (mIsi "tuple" (mVar 0)))) (mTest (mBin ninD (mBlt lenD (mCons (mVar 0) mNil)) (mTup (mCons (mC (.int 2)) (mCons (mC (.int 3)) mNil)))))) (mRet (mC (.bool false))) mSkip)
  (mSeq (mIfS (mNot (mTru (mBoolG false (mIterS (mSl (mVar 0) (mPart (mC (.int 1))) mNoP)) (gSet 1) mYes (mCall C.is_number (mCons (mVar 1) mNil)) [1]))) (mRet (mC (.bool false))) mSkip)
  (mSeq (mIfS (mTest (mBin eqD (mBlt lenD (mCons (mVar 0) mNil)) (mC (.int 2)))) (mRet (mAndV (mBin inD (mBin ixD (mVar 0) (mC (.int 0))) (mTup (mCons (mC (.str "one")) (mCons (mC (.str "some")) mNil)))) (mBin geD (mBin ixD (mVar 0) (mC (.int 1))) (mC (.int 1))))) mSkip)
  (mRet (mAndV (mBin eqD (mBin ixD (mVar 0) (mC (.int 0))) (mC (.str "number"))) (mBin leD (mBin ixD (mVar 0) (mC (.int 1))) (mBin ixD (mVar 0) (mC (.int 2)))))))))
def m_law_feed (C : CT) : MS :=
  (mRetN (mLst (mCons (mSl (mVar 0) mNoP (mPart (mC (.int 63)))) (mCons (mC (.int 0)) (mCons (mC (.int 0)) (mCons (mC (.int 0)) mNil))))))
def m_law_draw (C : CT) : MS :=
  (mSeq (mAugI (fun i j => i + j) (mVar 0) (mC (.int 3)) (mC (.int 1)))
  (mSeq (mIfS (mTest (mBin gtD (mBin ixD (mVar 0) (mC (.int 2))) (mC (.int 0)))) (mSeq (mSet 5 (mBin modD (mBin ixD (mVar 0) (mC (.int 2))) (mVar 1)))
  (mSeq (mPut (mBin fdivD (mBin ixD (mVar 0) (mC (.int 2))) (mVar 1)) (mVar 0) (mC (.int 2)))
  (mRet (mVar 5)))) mSkip)
  (mSeq (mSet 2 (mIf (mTest (mBin eqD (mBin ixD (mVar 0) (mC (.int 0))) (mNew (mLst mNil)))) (mC (.int 7)) (mBin ixD (mBin ixD (mVar 0) (mC (.int 0))) (mBin modD (mBin ixD (mVar 0) (mC (.int 1))) (mBlt lenD (mCons (mBin ixD (mVar 0) (mC (.int 0))) mNil))))))
  (mSeq (mAugI (fun i j => i + j) (mVar 0) (mC (.int 1)) (mC (.int 1)))
  (mSeq (mIfS (mAnd (mTest (mBin geD (mVar 2) (mBin powD (mC (.int 10)) (mC (.int 18))))) (mTest (mBin leD (mBin ixD (mVar 0) (mC (.int 1))) (mBlt lenD (mCons (mBin ixD (mVar 0) (mC (.int 0))) mNil))))) (mSeq (mPut (mBin fdivD (mVar 2) (mVar 1)) (mVar 0) (mC (.int 2)))
  (mRet (mBin modD (mVar 2) (mVar 1)))) mSkip)
  (mSeq (mSet 3 (mBin ixD (mVar 0) (mC (.int 3))))
  (mSeq (mSet 4 (mBin modD (mBin addD (mBin addD (mBin modD (mVar 2) (mC (.int 2147483629))) (mBin mulD (mBin mulD (mC (.int 69621)) (mVar 3)) (mVar 3))) (mBin mulD (mC (.int 7)) (mVar 3))) (mC (.int 2147483629))))
  (mSeq (mSet 4 (mBin modD (mBin addD (mBin mulD (mVar 4) (mVar 4)) (mBin mulD (mC (.int 48271)) (mVar 3))) (mC (.int 2147483647))))
  (mSeq (mSet 4 (mBin modD (mBin addD (mBin mulD (mVar 4) (mVar 4)) (mBin mulD (mC (.int 16807)) (mVar 3))) (mC (.int 2147483587))))
  (mRet (mBin modD (mBin fdivD (mBin modD (mBin addD (mBin mulD (mVar 4) (mVar 4)) (mVar 3)) (mC (.int 2147483629))) (mC (.int 131))) (mVar 1))))))))))))
def m_law_name (C : CT) : MS :=
  (mSeq (mSet 2 (mC (.str "abcdefghijklmnopqrstuvwxyz0123456789")))
  (mSeq (mSet 3 (mCall C.law_draw (mCons (mVar 0) (mCons (mC (.int 5)) mNil))))
  (mSeq (mSet 4 (mBin ixD (mVar 2) (mCall C.law_draw (mCons (mVar 0) (mCons (mC (.int 26)) mNil)))))
  (mSeq (mIfS (mOr (mTest (mBin gtD (mVar 3) (mC (.int 1)))) (mTest (mBin eqD (mVar 1) (mNew (mLst mNil))))) (mFor (mRng1 (mCall C.law_draw (mCons (mVar 0) (mCons (mC (.int 8)) mNil)))) (gSet 5)
  (mSet 4 (mBin addD (mVar 4) (mBin ixD (mVar 2) (mCall C.law_draw (mCons (mVar 0) (mCons (mC (.int 36)) mNil))))))) (mSeq (mSet 6 (mBin ixD (mVar 1) (mCall C.law_draw (mCons (mVar 0) (mCons (mBlt lenD (mCons (mVar 1) mNil)) mNil)))))
  (mSet 4 (mIf (mTest (mBin eqD (mVar 3) (mC (.int 0)))) (mSl (mVar 6) mNoP (mPart (mBin addD (mC (.int 1)) (mCall C.law_draw (mCons (mVar 0) (mCons (mBlt lenD (mCons (mVar 6) mNil)) mNil)))))) (mBin addD (mSl (mVar 6) mNoP (mPart (mC (.int 7)))) (mBin ixD (mVar 2) (mCall C.law_draw (mCons (mVar 0) (mCons (mC (.int 36)) mNil)))))))))
  (mSeq (mFor (mRng1 (mC (.int 30))) (gSet 5)
  (mIfS (mTest (mBin inD (mVar 4) (mVar 1))) (mSet 4 (mBin addD (mSl (mVar 4) mNoP (mPart (mUn negD (mC (.int 1))))) (mBin ixD (mVar 2) (mBin modD (mBin addD (mMt sindexD (mVar 2) (mCons (mBin ixD (mVar 4) (mUn negD (mC (.int 1)))) mNil)) (mC (.int 1))) (mIf (mTest (mBin eqD (mBlt lenD (mCons (mVar 4) mNil)) (mC (.int 1)))) (mC (.int 26)) (mC (.int 36))))))) mSkip))
  (mRet (mVar 4)))))))
def m_law_bend (C : CT) : MS :=
  (mSeq (mIfS (mAnd (mTru (mIsi "tuple" (mVar 1))) (mAnd (mTest (mBin neD (mVar 1) (mTup mNil))) (mTest (mBin gtD (mCall C.law_draw (mCons (mVar 0) (mCons (mC (.int 4)) mNil))) (mC (.int 0)))))) (mSeq (mSet 4 (mCall C.law_draw (mCons (mVar 0) (mCons (mBlt lenD (mCons (mVar 1) mNil)) mNil))))
  (mRet (mBin addD (mBin addD (mSl (mVar 1) mNoP (mPart (mVar 4))) (mTup (mCons (mCall C.law_bend (mCons (mVar 0) (mCons (mBin ixD (mVar 1) (mVar 4)) (mCons (mVar 2) mNil)))) mNil))) (mSl (mVar 1) (mPart (mBin addD (mVar 4) (mC (.int 1)))) mNoP)))) mSkip)
  (mSeq (mSet 3 (mCall C.law_draw (mCons (mVar 0) (mCons (mC (.int 6)) mNil))))
  (mSeq (mIfS (mAnd (mTru (mIsi "tuple" (mVar 1))) (mTest (mBin ltD (mVar 3) (mC (.int 4))))) (mSeq (mSet 4 (mCall C.law_draw (mCons (mVar 0) (mCons (mBin addD (mBlt lenD (mCons (mVar 1) mNil)) (mC (.int 1))) mNil))))
  (mSeq (mIfS (mTest (mBin eqD (mVar 3) (mC (.int 0)))) (mRet (mBin addD (mBin addD (mSl (mVar 1) mNoP (mPart (mVar 4))) (mTup (mCons (mBin ixD (mVar 2) (mCall C.law_draw (mCons (mVar 0) (mCons (mBlt lenD (mCons (mVar 2) mNil)) mNil)))) mNil))) (mSl (mVar 1) (mPart (mVar 4)) mNoP))) mSkip)
  (mRet (mIf (mTest (mBin eqD (mVar 3) (mC (.int 1)))) (mBin addD (mSl (mVar 1) mNoP (mPart (mVar 4))) (mSl (mVar 1) (mPart (mBin addD (mVar 4) (mC (.int 1)))) mNoP)) (mIf (mTest (mBin eqD (mVar 3) (mC (.int 2)))) (mNew (mUnN lstD (mVar 1))) (mBin addD (mVar 1) (mSl (mVar 1) mNoP (mPart (mVar 4))))))))) mSkip)
  (mSeq (mIfS (mAnd (mTru (mIsi "int" (mVar 1))) (mTest (mBin ltD (mVar 3) (mC (.int 4))))) (mRet (mBin ixD (mTup (mCons (mBin addD (mVar 1) (mC (.int 1))) (mCons (mBin subD (mVar 1) (mC (.int 1))) (mCons (mUn negD (mVar 1)) (mCons (mTup (mCons (mVar 1) mNil)) mNil))))) (mVar 3))) mSkip)
  (mSeq (mIfS (mAnd (mTru (mIsi "str" (mVar 1))) (mTest (mBin ltD (mVar 3) (mC (.int 3))))) (mRet (mBin ixD (mTup (mCons (mBin addD (mVar 1) (mC (.str "a"))) (mCons (mSl (mVar 1) (mPart (mC (.int 1))) mNoP) (mCons (mNew (mLst (mCons (mVar 1) mNil))) mNil)))) (mVar 3))) mSkip)
  (mRet (mBin ixD (mVar 2) (mCall C.law_draw (mCons (mVar 0) (mCons (mBlt lenD (mCons (mVar 2) mNil)) mNil))))))))))
def m_law_odd (C : CT) : MS :=
  (mSeq (mSet 0 (mTup (mCons (mC .none) (mCons (mC (.bool true)) (mCons (mC (.bool false)) (mCons (mC (.str "")) (mCons (mC (.str "a")) (mCons (mC (.str "A")) (mCons (mC (.int 0)) (mCons (mC (.int 1)) (mCons (mUn negD (mC (.int 1))) (mCons (mTup mNil) (mCons (mNew (mLst mNil)) mNil)))))))))))))
  (mSeq (mSet 1 (mBin mulD (mBin mulD (mBin mulD (mBin powD (mC (.int 10)) (mC (.int 64))) (mBin powD (mC (.int 10)) (mC (.int 64)))) (mBin powD (mC (.int 10)) (mC (.int 64)))) (mBin powD (mC (.int 10)) (mC (.int 7)))))
  (mRet (mBin addD (mVar 0) (mTup (mCons (mC (.str "one")) (mCons (mC (.str "some")) (mCons (mC (.str "number")) (mCons (mTup (mCons (mC (.str "one")) (mCons (mC (.int 1)) mNil))) (mCons (mTup (mCons (mC (.str "all")) (mCons (mTup mNil) mNil))) (mCons (mVar 1) mNil)))))))))))
def m_law_same (C : CT) : MS :=
  (mRet (mOrV (mAndV (mBin isD (mVar 0) (mC (.bool true))) (mVar 1)) (mAndV (mBin isD (mVar 0) (mC (.bool false))) (mNotV (mVar 1)))))
def m_law_number (C : CT) : MS :=
  (mRet (mAndV (mIsi "int" (mVar 0)) (mAndV (mBin isntD (mVar 0) (mC (.bool true))) (mBin isntD (mVar 0) (mC (.bool false))))))
def m_law_great (C : CT) : MS :=
  (mSeq (mSet 1 (mCall C.law_draw (mCons (mVar 0) (mCons (mC (.int 100)) mNil))))
  (mSeq (mFor (mRng1 (mIf (mTest (mBin eqD (mCall C.law_draw (mCons (mVar 0) (mCons (mC (.int 3)) mNil))) (mC (.int 0)))) (mCall C.law_draw (mCons (mVar 0) (mCons (mC (.int 33)) mNil))) (mC (.int 0)))) (gSet 2)
  (mSet 1 (mBin addD (mBin mulD (mVar 1) (mBin powD (mC (.int 10)) (mC (.int 6)))) (mCall C.law_draw (mCons (mVar 0) (mCons (mBin powD (mC (.int 10)) (mC (.int 6))) mNil))))))
  (mRet (mIf (mTest (mBin eqD (mCall C.law_draw (mCons (mVar 0) (mCons (mC (.int 2)) mNil))) (mC (.int 0)))) (mUn negD (mVar 1)) (mVar 1)))))
def m_law_spoilt (C : CT) : MS :=
  (mSeq (mSet 2 (mC (.str " !\"#$&'()*+,-./0123456789:;<=>?@ABCDEFGHIJKLMNOPQRSTUVWXYZ[\\]^_`abcdefghijklmnopqrstuvwxyz{|}~")))
  (mSeq (mSet 3 (mCall C.law_draw (mCons (mVar 0) (mCons (mBlt lenD (mCons (mVar 1) mNil)) mNil))))
  (mSeq (mSet 4 (mBin ixD (mVar 2) (mCall C.law_draw (mCons (mVar 0) (mCons (mBlt lenD (mCons (mVar 2) mNil)) mNil)))))
  (mSeq (mSet 5 (mCall C.law_draw (mCons (mVar 0) (mCons (mC (.int 3)) mNil))))
  (mRet (mBin addD (mBin addD (mSl (mVar 1) mNoP (mPart (mVar 3))) (mIf (mTest (mBin eqD (mVar 5) (mC (.int 2)))) (mC (.str "")) (mVar 4))) (mSl (mVar 1) (mPart (mBin addD (mVar 3) (mIf (mTest (mBin eqD (mVar 5) (mC (.int 1)))) (mC (.int 0)) (mC (.int 1))))) mNoP)))))))
def m_law_any_kind (C : CT) : MS :=
  (mSeq (mSet 1 (mCall C.law_draw (mCons (mVar 0) (mCons (mC (.int 3)) mNil))))
  (mSeq (mIfS (mTest (mBin ltD (mVar 1) (mC (.int 2)))) (mRet (mTup (mCons (mBin ixD (mTup (mCons (mC (.str "one")) (mCons (mC (.str "some")) mNil))) (mVar 1)) (mCons (mBin addD (mC (.int 1)) (mBlt absD (mCons (mCall C.law_great (mCons (mVar 0) mNil)) mNil))) mNil)))) mSkip)
  (mSeq (mPar 2 3 (mCons (mCall C.law_great (mCons (mVar 0) mNil)) (mCons (mCall C.law_great (mCons (mVar 0) mNil)) mNil)))
  (mSeq (mIfS (mTest (mBin eqD (mCall C.law_draw (mCons (mVar 0) (mCons (mC (.int 3)) mNil))) (mC (.int 0)))) (mSet 3 (mBin subD (mBin addD (mVar 2) (mCall C.law_draw (mCons (mVar 0) (mCons (mC (.int 3)) mNil)))) (mC (.int 1)))) mSkip)
  (mRet (mTup (mCons (mC (.str "number")) (mCons (mVar 2) (mCons (mVar 3) mNil)))))))))
def m_law_named (C : CT) : MS :=
  (mSeq (mIfS (mOr (mNot (mTru (mIsi "str" (mVar 0)))) (mOr (mTest (mBin eqD (mVar 0) (mC (.str "")))) (mTest (mBin gtD (mBlt lenD (mCons (mVar 0) mNil)) (mC (.int 8)))))) (mRet (mC (.bool false))) mSkip)
  (mSeq (mSet 1 (mNew (mLc (mIterS (mVar 0)) (gSet 3) mYes (mAndV (mBin leD (mC (.str "a")) (mVar 3)) (mBin leD (mVar 3) (mC (.str "z")))) [3])))
  (mSeq (mSet 2 (mNew (mLc (mIterS (mVar 0)) (gSet 3) mYes (mAndV (mBin leD (mC (.str "0")) (mVar 3)) (mBin leD (mVar 3) (mC (.str "9")))) [3])))
  (mRet (mAndV (mBin ixD (mVar 1) (mC (.int 0))) (mBlt allD (mCons (mNew (mLc (mZip (mCons (mVar 1) (mCons (mVar 2) mNil))) (gTupD (gAnd (gSet 4) (gAnd (gSet 5) gNo)) 2) mYes (mOrV (mVar 4) (mVar 5)) [4, 5])) mNil)))))))
def m_law_kinded (C : CT) : MS :=
  (mSeq (mIfS (mOr (mNot (mTru (mIsi "tuple" (mVar 0)))) (mTest (mBin eqD (mVar 0) (mTup mNil)))) (mRet (mC (.bool false))) mSkip)
  (mSeq (mIfS (mNot (mTru (mBlt allD (mCons (mNew (mLc (mIterS (mSl (mVar 0) (mPart (mC (.int 1))) mNoP)) (gSet 1) mYes (mCall C.law_number (mCons (mVar 1) mNil)) [1])) mNil)))) (mRet (mC (.bool false))) mSkip)
  (mSeq (mIfS (mTest (mBin eqD (mBin ixD (mVar 0) (mC (.int 0))) (mC (.str "number")))) (mRet (mAndV (mBin eqD (mBlt lenD (mCons (mVar 0) mNil)) (mC (.int 3))) (mBin leD (mBin ixD (mVar 0) (mC (.int 1))) (mBin ixD (mVar 0) (mC (.int 2)))))) mSkip)
  (mSeq (mIfS (mOr (mTest (mBin neD (mBlt lenD (mCons (mVar 0) mNil)) (mC (.int 2)))) (mTest (mBin ltD (mBin ixD (mVar 0) (mC (.int 1))) (mC (.int 1))))) (mRet (mC (.bool false))) mSkip)
  (mRet (mOrV (mBin eqD (mBin ixD (mVar 0) (mC (.int 0))) (mC (.str "one"))) (mBin eqD (mBin ixD (mVar 0) (mC (.int 0))) (mC (.str "some")))))))))
def m_law_fixed (C : CT) : MS :=
  (mSeq (mSet 0 (mBin mulD (mBin mulD (mBin mulD (mBin powD (mC (.int 10)) (mC (.int 64))) (mBin powD (mC (.int 10)) (mC (.int 64)))) (mBin powD (mC (.int 10)) (mC (.int 64)))) (mBin powD (mC (.int 10)) (mC (.int 7)))))
  (mRetN (mLst (mCons (mC (.int 0)) (mCons (mC (.int 1)) (mCons (mUn negD (mC (.int 1))) (mCons (mVar 0) (mCons (mUn negD (mVar 0)) (mCons (mC (.bool true)) (mCons (mC (.bool false)) (mCons (mC .none) (mCons (mC (.str "")) (mCons (mC (.str "a")) (mCons (mC (.str "z")) (mCons (mC (.str "0")) (mCons (mC (.str "9")) (mCons (mC (.str "a0")) (mCons (mC (.str "a9")) (mCons (mC (.str "z9")) (mCons (mC (.str "0a")) (mCons (mC (.str "A")) (mCons (mC (.str "aB")) (mCons (mC (.str "a_")) (mCons (mC (.str "_a")) (mCons (mC (.str "`")) (mCons (mC (.str "a`")) (mCons (mC (.str "a b")) (mCons (mC (.str " a")) (mCons (mC (.str "a ")) (mCons (mC (.str "a-")) (mCons (mC (.str "{")) (mCons (mC (.str "a{")) (mCons (mC (.str "a/")) (mCons (mC (.str "a:")) (mCons (mC (.str "abcdefgh")) (mCons (mC (.str "abcdefghi")) (mCons (mC (.str "a1234567")) (mCons (mC (.str "a12345678")) (mCons (mC (.str "1")) (mCons (mTup mNil) (mCons (mNew (mLst mNil)) (mCons (mTup (mCons (mC (.str "a")) mNil)) (mCons (mNew (mLst (mCons (mC (.str "a")) mNil))) (mCons (mTup (mCons (mC (.str "one")) mNil)) (mCons (mTup (mCons (mC (.str "one")) (mCons (mC (.int 0)) mNil))) (mCons (mTup (mCons (mC (.str "one")) (mCons (mC (.int 1)) mNil))) (mCons (mTup (mCons (mC (.str "one")) (mCons (mUn negD (mC (.int 1))) mNil))) (mCons (mTup (mCons (mC (.str "one")) (mCons (mC (.bool true)) mNil))) (mCons (mTup (mCons (mC (.str "one")) (mCons (mVar 0) mNil))) (mCons (mNew (mLst (mCons (mC (.str "one")) (mCons (mC (.int 1)) mNil)))) (mCons (mTup (mCons (mC (.str "one")) (mCons (mC (.int 1)) (mCons (mC (.int 1)) mNil)))) (mCons (mTup (mCons (mC (.str "some")) (mCons (mC (.int 0)) mNil))) (mCons (mTup (mCons (mC (.str "some")) (mCons (mC (.int 1)) mNil))) (mCons (mTup (mCons (mC (.str "some")) (mCons (mC (.str "1")) mNil))) (mCons (mTup (mCons (mC (.str "number")) (mCons (mC (.int 0)) (mCons (mC (.int 0)) mNil)))) (mCons (mTup (mCons (mC (.str "number")) (mCons (mC (.int 1)) (mCons (mC (.int 0)) mNil)))) (mCons (mTup (mCons (mC (.str "number")) (mCons (mC (.int 0)) mNil))) (mCons (mTup (mCons (mC (.str "number")) (mCons (mUn negD (mC (.int 1))) (mCons (mC (.int 1)) mNil)))) (mCons (mTup (mCons (mC (.str "number")) (mCons (mUn negD (mVar 0)) (mCons (mVar 0) mNil)))) (mCons (mTup (mCons (mC (.str "number")) (mCons (mVar 0) (mCons (mUn negD (mVar 0)) mNil)))) (mCons (mTup (mCons (mC (.str "number")) (mCons (mC (.int 0)) (mCons (mC (.bool true)) mNil)))) (mCons (mTup (mCons (mC (.str "number")) (mCons (mC (.bool false)) (mCons (mC (.int 1)) mNil)))) (mCons (mTup (mCons (mC (.str "number")) (mCons (mC (.int 0)) (mCons (mC (.int 1)) (mCons (mC (.int 2)) mNil))))) (mCons (mTup (mCons (mC (.str "number")) (mCons (mTup (mCons (mC (.int 0)) (mCons (mC (.int 1)) mNil))) mNil))) (mCons (mTup (mCons (mC (.str "two")) (mCons (mC (.int 1)) mNil))) (mCons (mTup (mCons (mC (.int 1)) (mCons (mC (.str "one")) mNil))) (mCons (mTup (mCons (mTup (mCons (mC (.str "one")) (mCons (mC (.int 1)) mNil))) mNil)) (mCons (mTup (mCons (mC (.str "One")) (mCons (mC (.int 1)) mNil))) (mCons (mTup (mCons (mC (.str "some")) (mCons (mTup (mCons (mC (.int 1)) mNil)) mNil))) mNil)))))))))))))))))))))))))))))))))))))))))))))))))))))))))))))))))))))
def m_law (C : CT) : MS :=
  (mSeq (mReg 1 (mCallN C.law_feed (mCons (mVar 0) mNil)))
  (mSeq (mReg 2 (mCallN C.law_fixed mNil))
  (mSeq (mSet 3 (mCall C.law_odd mNil))
  (mSeq (mFor (mRng1 (mC (.int 6))) (gSet 4)
  (mSeq (mSet 7 (mCall C.law_name (mCons (mVar 1) (mCons (mNew (mLst mNil)) mNil))))
  (mSeq (mSet 8 (mCall C.law_spoilt (mCons (mVar 1) (mCons (mVar 7) mNil))))
  (mSeq (mSet 9 (mSl (mBin addD (mVar 7) (mC (.str "abcdefgh"))) mNoP (mPart (mC (.int 8)))))
  (mSeq (mSet 10 (mC (.str "")))
  (mSeq (mFor (mRng1 (mCall C.law_draw (mCons (mVar 1) (mCons (mC (.int 11)) mNil)))) (gSet 11)
  (mSet 10 (mCall C.law_spoilt (mCons (mVar 1) (mCons (mBin addD (mVar 10) (mC (.str "b"))) mNil)))))
  (mSeq (mSet 12 (mCall C.law_any_kind (mCons (mVar 1) mNil)))
  (mSeq (mSet 13 (mCall C.law_bend (mCons (mVar 1) (mCons (mVar 12) (mCons (mVar 3) mNil)))))
  (mSeq (mSet 14 (mCall C.law_great (mCons (mVar 1) mNil)))
  (mSeq (mDrop (mExt (mVar 2) (mNew (mLst (mCons (mVar 7) (mCons (mVar 8) (mCons (mVar 9) (mCons (mBin addD (mVar 9) (mC (.str "a"))) (mCons (mCall C.law_spoilt (mCons (mVar 1) (mCons (mVar 9) mNil))) (mCons (mVar 10) (mCons (mVar 12) (mCons (mVar 13) mNil))))))))))))
  (mSeq (mDrop (mExt (mVar 2) (mNew (mLst (mCons (mCall C.law_bend (mCons (mVar 1) (mCons (mVar 13) (mCons (mVar 3) mNil)))) (mCons (mVar 14) (mCons (mBlt strD (mCons (mVar 14) mNil)) (mCons (mCall C.law_bend (mCons (mVar 1) (mCons (mVar 14) (mCons (mVar 3) mNil)))) mNil))))))))
  (mDrop (mApp (mVar 2) (mCall C.law_bend (mCons (mVar 1) (mCons (mVar 7) (mCons (mVar 3) mNil)))))))))))))))))
  (mSeq (mSet 5 (mBlt reprD (mCons (mVar 2) mNil)))
  (mSeq (mFor (mIterS (mBin addD (mVar 2) (mNew (mUnN revD (mVar 2))))) (gSet 6)
  (mSeq (mIfS (mOr (mNot (mTru (mCall C.law_same (mCons (mCall C.is_number (mCons (mVar 6) mNil)) (mCons (mCall C.law_number (mCons (mVar 6) mNil)) mNil))))) (mNot (mTru (mCall C.law_same (mCons (mCall C.is_name (mCons (mVar 6) mNil)) (mCons (mCall C.law_named (mCons (mVar 6) mNil)) mNil)))))) (mRet (mC (.bool false))) mSkip)
  (mIfS (mNot (mTru (mCall C.law_same (mCons (mCall C.is_kind (mCons (mVar 6) mNil)) (mCons (mCall C.law_kinded (mCons (mVar 6) mNil)) mNil))))) (mRet (mC (.bool false))) mSkip)))
  (mRet (mBin eqD (mBlt reprD (mCons (mVar 2) mNil)) (mVar 5)))))))))
structure Tx (K : Frag) (mg : Str → Option Value) (ad : AD) : Prop where
  F_is_number : Fun K "is_number" "is_number" s_is_number ad.a_is_number ad.d_is_number
  g_is_number : mg "is_number" = some (.ref ad.a_is_number)
  b_is_number : Binds K ad.d_is_number ["thing"] []
  F_is_name : Fun K "is_name" "is_name" s_is_name ad.a_is_name ad.d_is_name
  g_is_name : mg "is_name" = some (.ref ad.a_is_name)
  b_is_name : Binds K ad.d_is_name ["thing"] []
  F_is_kind : Fun K "is_kind" "is_kind" s_is_kind ad.a_is_kind ad.d_is_kind
  g_is_kind : mg "is_kind" = some (.ref ad.a_is_kind)
  b_is_kind : Binds K ad.d_is_kind ["thing"] []
  F_law_feed : Fun K "_law_feed" "_law_feed" s_law_feed ad.a_law_feed ad.d_law_feed
  g_law_feed : mg "_law_feed" = some (.ref ad.a_law_feed)
  b_law_feed : Binds K ad.d_law_feed ["_law_script"] []
  F_law_draw : Fun K "_law_draw" "_law_draw" s_law_draw ad.a_law_draw ad.d_law_draw
  g_law_draw : mg "_law_draw" = some (.ref ad.a_law_draw)
  b_law_draw : Binds K ad.d_law_draw ["_law_feed_here", "_law_many"] []
  F_law_name : Fun K "_law_name" "_law_name" s_law_name ad.a_law_name ad.d_law_name
  g_law_name : mg "_law_name" = some (.ref ad.a_law_name)
  b_law_name : Binds K ad.d_law_name ["_law_feed_here", "_law_found"] []
  F_law_bend : Fun K "_law_bend" "_law_bend" s_law_bend ad.a_law_bend ad.d_law_bend
  g_law_bend : mg "_law_bend" = some (.ref ad.a_law_bend)
  b_law_bend : Binds K ad.d_law_bend ["_law_feed_here", "_law_thing", "_law_odd_here"] []
  F_law_odd : Fun K "_law_odd" "_law_odd" s_law_odd ad.a_law_odd ad.d_law_odd
  g_law_odd : mg "_law_odd" = some (.ref ad.a_law_odd)
  b_law_odd : Binds K ad.d_law_odd [] []
  F_law_same : Fun K "_law_same" "_law_same" s_law_same ad.a_law_same ad.d_law_same
  g_law_same : mg "_law_same" = some (.ref ad.a_law_same)
  b_law_same : Binds K ad.d_law_same ["_law_told", "_law_due"] []
  F_law_number : Fun K "_law_number" "_law_number" s_law_number ad.a_law_number ad.d_law_number
  g_law_number : mg "_law_number" = some (.ref ad.a_law_number)
  b_law_number : Binds K ad.d_law_number ["_law_thing"] []
  F_law_great : Fun K "_law_great" "_law_great" s_law_great ad.a_law_great ad.d_law_great
  g_law_great : mg "_law_great" = some (.ref ad.a_law_great)
  b_law_great : Binds K ad.d_law_great ["_law_feed_here"] []
  F_law_spoilt : Fun K "_law_spoilt" "_law_spoilt" s_law_spoilt ad.a_law_spoilt ad.d_law_spoilt
  g_law_spoilt : mg "_law_spoilt" = some (.ref ad.a_law_spoilt)
  b_law_spoilt : Binds K ad.d_law_spoilt ["_law_feed_here", "_law_name_here"] []
  F_law_any_kind : Fun K "_law_any_kind" "_law_any_kind" s_law_any_kind ad.a_law_any_kind ad.d_law_any_kind
  g_law_any_kind : mg "_law_any_kind" = some (.ref ad.a_law_any_kind)
  b_law_any_kind : Binds K ad.d_law_any_kind ["_law_feed_here"] []
  F_law_named : Fun K "_law_named" "_law_named" s_law_named ad.a_law_named ad.d_law_named
  g_law_named : mg "_law_named" = some (.ref ad.a_law_named)
  b_law_named : Binds K ad.d_law_named ["_law_thing"] []
  F_law_kinded : Fun K "_law_kinded" "_law_kinded" s_law_kinded ad.a_law_kinded ad.d_law_kinded
  g_law_kinded : mg "_law_kinded" = some (.ref ad.a_law_kinded)
  b_law_kinded : Binds K ad.d_law_kinded ["_law_thing"] []
  F_law_fixed : Fun K "_law_fixed" "_law_fixed" s_law_fixed ad.a_law_fixed ad.d_law_fixed
  g_law_fixed : mg "_law_fixed" = some (.ref ad.a_law_fixed)
  b_law_fixed : Binds K ad.d_law_fixed [] []
  F_law : Fun K "law" "law" s_law ad.a_law ad.d_law
  g_law : mg "law" = some (.ref ad.a_law)
  b_law : Binds K ad.d_law ["_law_script"] []
  n_abs : mg "abs" = none
  n_all : mg "all" = none
  n_bool : mg "bool" = none
  n_int : mg "int" = none
  n_isinstance : mg "isinstance" = none
  n_len : mg "len" = none
  n_list : mg "list" = none
  n_range : mg "range" = none
  n_repr : mg "repr" = none
  n_str : mg "str" = none
  n_tuple : mg "tuple" = none
  n_zip : mg "zip" = none
  k_LETTERS : ∃ t, mg "LETTERS" = some (.str c_LETTERS t)
  k_FIGURES : ∃ t, mg "FIGURES" = some (.str c_FIGURES t)
  v_is_name : ad.d_is_name.code = .ref ad.c_is_name
  v_is_kind : ad.d_is_kind.code = .ref ad.c_is_kind
/-- the tables of the code objects that make generators -/
structure Tabs (mg : Str → Option Value) (base : Heap) (tb : List Addr) (ad : AD) : Prop where
  un : True
  t_is_name : GxR.TabB base mg ad.c_is_name ad.p_is_name
  m_is_name : ad.p_is_name ∈ tb
  t_is_kind : GxR.TabB base mg ad.c_is_kind ad.p_is_kind
  m_is_kind : ad.p_is_kind ∈ tb
structure Ok (P : Program) (w : World) (K : Frag) (mg : Str → Option Value) (base : Heap) (tb : List Addr) (ad : AD) (C : CT) (k : Nat) : Prop where
  is_number : FnG P w K mg base CX0 k ad.a_is_number ad.d_is_number ["thing"] (spM K tb 1 C.is_number)
  is_name : FnG P w K mg base CX0 k ad.a_is_name ad.d_is_name ["thing"] (spM K tb 1 C.is_name)
  is_kind : FnG P w K mg base CX0 k ad.a_is_kind ad.d_is_kind ["thing"] (spM K tb 1 C.is_kind)
  law_feed : FnG P w K mg base CX0 k ad.a_law_feed ad.d_law_feed ["_law_script"] (spM K tb 1 C.law_feed)
  law_draw : FnG P w K mg base CX0 k ad.a_law_draw ad.d_law_draw ["_law_feed_here", "_law_many"] (spM K tb 2 C.law_draw)
  law_name : FnG P w K mg base CX0 k ad.a_law_name ad.d_law_name ["_law_feed_here", "_law_found"] (spM K tb 2 C.law_name)
  law_bend : FnG P w K mg base CX0 k ad.a_law_bend ad.d_law_bend ["_law_feed_here", "_law_thing", "_law_odd_here"] (spM K tb 3 C.law_bend)
  law_odd : FnG P w K mg base CX0 k ad.a_law_odd ad.d_law_odd [] (spM K tb 0 C.law_odd)
  law_same : FnG P w K mg base CX0 k ad.a_law_same ad.d_law_same ["_law_told", "_law_due"] (spM K tb 2 C.law_same)
  law_number : FnG P w K mg base CX0 k ad.a_law_number ad.d_law_number ["_law_thing"] (spM K tb 1 C.law_number)
  law_great : FnG P w K mg base CX0 k ad.a_law_great ad.d_law_great ["_law_feed_here"] (spM K tb 1 C.law_great)
  law_spoilt : FnG P w K mg base CX0 k ad.a_law_spoilt ad.d_law_spoilt ["_law_feed_here", "_law_name_here"] (spM K tb 2 C.law_spoilt)
  law_any_kind : FnG P w K mg base CX0 k ad.a_law_any_kind ad.d_law_any_kind ["_law_feed_here"] (spM K tb 1 C.law_any_kind)
  law_named : FnG P w K mg base CX0 k ad.a_law_named ad.d_law_named ["_law_thing"] (spM K tb 1 C.law_named)
  law_kinded : FnG P w K mg base CX0 k ad.a_law_kinded ad.d_law_kinded ["_law_thing"] (spM K tb 1 C.law_kinded)
  law_fixed : FnG P w K mg base CX0 k ad.a_law_fixed ad.d_law_fixed [] (spM K tb 0 C.law_fixed)
  law : FnG P w K mg base CX0 k ad.a_law ad.d_law ["_law_script"] (spM K tb 1 C.law)
theorem bt_abs : bootBuiltins "abs" = some (.builtin "abs") := by decide +kernel
theorem bt_all : bootBuiltins "all" = some (.builtin "all") := by decide +kernel
theorem bt_bool : bootBuiltins "bool" = some (.type "bool") := by decide +kernel
theorem bt_int : bootBuiltins "int" = some (.type "int") := by decide +kernel
theorem bt_isinstance : bootBuiltins "isinstance" = some (.builtin "isinstance") := by decide +kernel
theorem bt_len : bootBuiltins "len" = some (.builtin "len") := by decide +kernel
theorem bt_list : bootBuiltins "list" = some (.type "list") := by decide +kernel
theorem bt_range : bootBuiltins "range" = some (.type "range") := by decide +kernel
theorem bt_repr : bootBuiltins "repr" = some (.builtin "repr") := by decide +kernel
theorem bt_str : bootBuiltins "str" = some (.type "str") := by decide +kernel
theorem bt_tuple : bootBuiltins "tuple" = some (.type "tuple") := by decide +kernel
theorem bt_zip : bootBuiltins "zip" = some (.type "zip") := by decide +kernel
section
variable {P : Program} {w : World} {K : Frag} {mg : Str → Option Value} {base : Heap} {tb : List Addr} {ad : AD} {C : CT} {k : Nat}
theorem sc_is_number : FnScope ["thing"] ["thing"] (defScope s_is_number) := ⟨rfl, rfl, rfl, by decide +kernel, rfl, by decide +kernel, by decide +kernel⟩
theorem ok_is_number (T : Tx K mg ad) (B : Tabs mg base tb ad) (O : Ok P w K mg base tb ad C k) : FnG P w K mg base CX0 (k + 2) ad.a_is_number ad.d_is_number ["thing"] (spM K tb 1 (bodyM 1 (m_is_number C))) :=
  fnM T.F_is_number sc_is_number fun cdv A out s H E hr hG =>
  (pdb_one (pds_ret (pd_and (pd_isi (by rfl) T.n_isinstance (pd_var 0) (by rfl) T.n_int bt_int) (pd_one (pd_not (pd_isi (by rfl) T.n_isinstance (pd_var 0) (by rfl) T.n_bool bt_bool))))))
theorem sc_is_name : FnScope ["thing", "sign"] ["thing"] (defScope s_is_name) := ⟨rfl, rfl, rfl, by decide +kernel, rfl, by decide +kernel, by decide +kernel⟩
theorem ok_is_name (T : Tx K mg ad) (B : Tabs mg base tb ad) (O : Ok P w K mg base tb ad C k) : FnG P w K mg base CX0 (k + 2) ad.a_is_name ad.d_is_name ["thing"] (spM K tb 1 (bodyM 2 (m_is_name C))) :=
  fnMC T.F_is_name sc_is_name fun A out s H E hr hG =>
  (pdb_cons (pds_if (PDW.t (pdw_or (pdt_not (pdt_val (pd_isi (by rfl) T.n_isinstance (pd_var 0) (by rfl) T.n_str bt_str))) (pdw_or1 (pdt_not (pdt_chain opd_le opd_le pd_int (pd_blt cd_len (by rfl) T.n_len bt_len (pda_cons (pd_var 0) pda_nil)) pd_int))))) (pdb_one (pds_ret pd_bl)) pdb_nil)
  (pdb_one (pds_ret (pd_and (pd_cmp (opd_in (hu65 hr)) (pd_ix ixd (pd_var 0) pd_int (fun _ _ => rfl)) (pd_globS (by rfl) T.k_LETTERS) rfl) (pd_one (pd_allG (own := [("sign", 1)]) (c := ad.c_is_name) (P := ad.p_is_name) rfl sc_is_name.nd hr hG (by rfl) T.n_all B.t_is_name B.m_is_name T.v_is_name (blkOk_by (N := ["thing", "sign"]) (sc := defScope s_is_name) (by decide +kernel)) (by decide +kernel) rfl rfl (pdi_any (pd_var 0)) (fun _ _ _ _ _ _ _ _ hr hG => (pdgw_name (i := 1) (by decide) sc_is_name.nd rfl (by first | exact Or.inl rfl | exact Or.inr rfl))) (fun _ _ _ _ _ _ _ _ hr hG => pdts_nil) (fun _ _ _ _ _ _ _ _ hr hG => (pd_cmp (opd_in (hu65 hr)) (pd_var 1) (pd_bin opd_add (pd_globS (by rfl) T.k_LETTERS) (pd_globS (by rfl) T.k_FIGURES)) rfl))))))))
theorem sc_is_kind : FnScope ["thing", "number"] ["thing"] (defScope s_is_kind) := ⟨rfl, rfl, rfl, by decide +kernel, rfl, by decide +kernel, by decide +kernel⟩
theorem ok_is_kind (T : Tx K mg ad) (B : Tabs mg base tb ad) (O : Ok P w K mg base tb ad C k) : FnG P w K mg base CX0 (k + 2) ad.a_is_kind ad.d_is_kind ["thing"] (spM K tb 1 (bodyM 2 (m_is_kind C))) :=
  fnMC T.F_is_kind sc_is_kind fun A out s H E hr hG =>
  (pdb_cons (pds_if (PDW.t (pdw_or (pdt_not (pdt_val (pd_isi (by rfl) T.n_isinstance (pd_var 0) (by rfl) T.n_tuple bt_tuple))) (pdw_or1 (pdt_cmp (opd_nin (hu65 hr)) (pd_blt cd_len (by rfl) T.n_len bt_len (pda_cons (pd_var 0) pda_nil)) (pd_tup (pda_cons pd_int (pda_cons pd_int pda_nil))) rfl)))) (pdb_one (pds_ret pd_bl)) pdb_nil)
  (pdb_cons (pds_if (pdt_not (pdt_val (pd_allG (own := [("number", 1)]) (c := ad.c_is_kind) (P := ad.p_is_kind) rfl sc_is_kind.nd hr hG (by rfl) T.n_all B.t_is_kind B.m_is_kind T.v_is_kind (blkOk_by (N := ["thing", "number"]) (sc := defScope s_is_kind) (by decide +kernel)) (by decide +kernel) rfl rfl (pdi_any (pd_sl (pd_var 0) (pdo_some pd_int) pdo_none)) (fun _ _ _ _ _ _ _ _ hr hG => (pdgw_name (i := 1) (by decide) sc_is_kind.nd rfl (by first | exact Or.inl rfl | exact Or.inr rfl))) (fun _ _ _ _ _ _ _ _ hr hG => pdts_nil) (fun _ _ _ _ _ _ _ _ hr hG => (pd_call O.is_number hr hG (by rfl) T.g_is_number T.F_is_number.kp T.b_is_number (pda_cons (pd_var 1) pda_nil) (ar_cons ar_nil)))))) (pdb_one (pds_ret pd_bl)) pdb_nil)
  (pdb_cons (pds_if (pdt_cmp (opd_eq hr.units) (pd_blt cd_len (by rfl) T.n_len bt_len (pda_cons (pd_var 0) pda_nil)) pd_int (nomark _)) (pdb_one (pds_ret (pd_and (pd_cmp (opd_in (hu65 hr)) (pd_ix ixd (pd_var 0) pd_int (fun _ _ => rfl)) (pd_tup (pda_cons pd_str (pda_cons pd_str pda_nil))) rfl) (pd_one (pd_cmp opd_ge (pd_ix ixd (pd_var 0) pd_int (fun _ _ => rfl)) pd_int (nomark _)))))) pdb_nil)
  (pdb_one (pds_ret (pd_and (pd_cmp (opd_eq hr.units) (pd_ix ixd (pd_var 0) pd_int (fun _ _ => rfl)) pd_str (nomark _)) (pd_one (pd_cmp opd_le (pd_ix ixd (pd_var 0) pd_int (fun _ _ => rfl)) (pd_ix ixd (pd_var 0) pd_int (fun _ _ => rfl)) (nomark _)))))))))
theorem sc_law_feed : FnScope ["_law_script"] ["_law_script"] (defScope s_law_feed) := ⟨rfl, rfl, rfl, by decide +kernel, rfl, by decide +kernel, by decide +kernel⟩
theorem ok_law_feed (T : Tx K mg ad) (B : Tabs mg base tb ad) (O : Ok P w K mg base tb ad C k) : FnG P w K mg base CX0 (k + 2) ad.a_law_feed ad.d_law_feed ["_law_script"] (spM K tb 1 (bodyM 1 (m_law_feed C))) :=
  fnM T.F_law_feed sc_law_feed fun cdv A out s H E hr hG =>
  (pdb_one (pds_retN (pdn_lst (pda_cons (pd_sl (pd_var 0) pdo_none (pdo_some pd_int)) (pda_cons pd_int (pda_cons pd_int (pda_cons pd_int pda_nil)))))))
theorem sc_law_draw : FnScope ["_law_feed_here", "_law_many", "_law_cell", "_law_turn", "_law_mixed", "_law_told"] ["_law_feed_here", "_law_many"] (defScope s_law_draw) := ⟨rfl, rfl, rfl, by decide +kernel, rfl, by decide +kernel, by decide +kernel⟩
theorem ok_law_draw (T : Tx K mg ad) (B : Tabs mg base tb ad) (O : Ok P w K mg base tb ad C k) : FnG P w K mg base CX0 (k + 2) ad.a_law_draw ad.d_law_draw ["_law_feed_here", "_law_many"] (spM K tb 2 (bodyM 6 (m_law_draw C))) :=
  fnM T.F_law_draw sc_law_draw fun cdv A out s H E hr hG =>
  (pdb_cons (pds_augI ip_add (pd_var 0) pd_int pd_int)
  (pdb_cons (pds_if (pdt_cmp opd_gt (pd_ix ixd (pd_var 0) pd_int (fun _ _ => rfl)) pd_int (nomark _)) (pdb_cons (pds_set (i := 5) sc_law_draw.nd rfl (by first | exact Or.inl rfl | exact Or.inr rfl) (pd_bin opd_mod (pd_ix ixd (pd_var 0) pd_int (fun _ _ => rfl)) (pd_var 1)))
  (pdb_cons (pds_put (pd_bin opd_fdiv (pd_ix ixd (pd_var 0) pd_int (fun _ _ => rfl)) (pd_var 1)) (pd_var 0) pd_int)
  (pdb_one (pds_ret (pd_var 5))))) pdb_nil)
  (pdb_cons (pds_set (i := 2) sc_law_draw.nd rfl (by first | exact Or.inl rfl | exact Or.inr rfl) (pd_if (pdt_cmp (opd_eq hr.units) (pd_ix ixd (pd_var 0) pd_int (fun _ _ => rfl)) (pd_new (pdn_lst pda_nil)) (nomark _)) pd_int (pd_ix ixd (pd_ix ixd (pd_var 0) pd_int (fun _ _ => rfl)) (pd_bin opd_mod (pd_ix ixd (pd_var 0) pd_int (fun _ _ => rfl)) (pd_blt cd_len (by rfl) T.n_len bt_len (pda_cons (pd_ix ixd (pd_var 0) pd_int (fun _ _ => rfl)) pda_nil))) (fun _ _ => rfl))))
  (pdb_cons (pds_augI ip_add (pd_var 0) pd_int pd_int)
  (pdb_cons (pds_if (PDW.t (pdw_and (pdt_cmp opd_ge (pd_var 2) (pd_bin opd_pow pd_int pd_int) (nomark _)) (pdw_and1 (pdt_cmp opd_le (pd_ix ixd (pd_var 0) pd_int (fun _ _ => rfl)) (pd_blt cd_len (by rfl) T.n_len bt_len (pda_cons (pd_ix ixd (pd_var 0) pd_int (fun _ _ => rfl)) pda_nil)) (nomark _))))) (pdb_cons (pds_put (pd_bin opd_fdiv (pd_var 2) (pd_var 1)) (pd_var 0) pd_int)
  (pdb_one (pds_ret (pd_bin opd_mod (pd_var 2) (pd_var 1))))) pdb_nil)
  (pdb_cons (pds_set (i := 3) sc_law_draw.nd rfl (by first | exact Or.inl rfl | exact Or.inr rfl) (pd_ix ixd (pd_var 0) pd_int (fun _ _ => rfl)))
  (pdb_cons (pds_set (i := 4) sc_law_draw.nd rfl (by first | exact Or.inl rfl | exact Or.inr rfl) (pd_bin opd_mod (pd_bin opd_add (pd_bin opd_add (pd_bin opd_mod (pd_var 2) pd_int) (pd_bin opd_mul (pd_bin opd_mul pd_int (pd_var 3)) (pd_var 3))) (pd_bin opd_mul pd_int (pd_var 3))) pd_int))
  (pdb_cons (pds_set (i := 4) sc_law_draw.nd rfl (by first | exact Or.inl rfl | exact Or.inr rfl) (pd_bin opd_mod (pd_bin opd_add (pd_bin opd_mul (pd_var 4) (pd_var 4)) (pd_bin opd_mul pd_int (pd_var 3))) pd_int))
  (pdb_cons (pds_set (i := 4) sc_law_draw.nd rfl (by first | exact Or.inl rfl | exact Or.inr rfl) (pd_bin opd_mod (pd_bin opd_add (pd_bin opd_mul (pd_var 4) (pd_var 4)) (pd_bin opd_mul pd_int (pd_var 3))) pd_int))
  (pdb_one (pds_ret (pd_bin opd_mod (pd_bin opd_fdiv (pd_bin opd_mod (pd_bin opd_add (pd_bin opd_mul (pd_var 4) (pd_var 4)) (pd_var 3)) pd_int) pd_int) (pd_var 1)))))))))))))
theorem sc_law_name : FnScope ["_law_feed_here", "_law_found", "_law_signs", "_law_way", "_law_name_here", "_law_k", "_law_own"] ["_law_feed_here", "_law_found"] (defScope s_law_name) := ⟨rfl, rfl, rfl, by decide +kernel, rfl, by decide +kernel, by decide +kernel⟩
theorem ok_law_name (T : Tx K mg ad) (B : Tabs mg base tb ad) (O : Ok P w K mg base tb ad C k) : FnG P w K mg base CX0 (k + 2) ad.a_law_name ad.d_law_name ["_law_feed_here", "_law_found"] (spM K tb 2 (bodyM 7 (m_law_name C))) :=
  fnM T.F_law_name sc_law_name fun cdv A out s H E hr hG =>
  (pdb_cons (pds_set (i := 2) sc_law_name.nd rfl (by first | exact Or.inl rfl | exact Or.inr rfl) pd_str)
  (pdb_cons (pds_set (i := 3) sc_law_name.nd rfl (by first | exact Or.inl rfl | exact Or.inr rfl) (pd_call O.law_draw (rm1 hr) hG (by rfl) T.g_law_draw T.F_law_draw.kp T.b_law_draw (pda_cons (pd_var 0) (pda_cons pd_int pda_nil)) (ar_cons (ar_cons ar_nil))))
  (pdb_cons (pds_set (i := 4) sc_law_name.nd rfl (by first | exact Or.inl rfl | exact Or.inr rfl) (pd_ix ixd (pd_var 2) (pd_call O.law_draw (rm1 hr) hG (by rfl) T.g_law_draw T.F_law_draw.kp T.b_law_draw (pda_cons (pd_var 0) (pda_cons pd_int pda_nil)) (ar_cons (ar_cons ar_nil))) (fun _ _ => rfl)))
  (pdb_cons (pds_if (PDW.t (pdw_or (pdt_cmp opd_gt (pd_var 3) pd_int (nomark _)) (pdw_or1 (pdt_cmp (opd_eq hr.units) (pd_var 1) (pd_new (pdn_lst pda_nil)) (nomark _))))) (pdb_one (pds_for PassesOwn.never rfl (pdi_rng1 (by rfl) T.n_range (pd_call O.law_draw (rm1 hr) hG (by rfl) T.g_law_draw T.F_law_draw.kp T.b_law_draw (pda_cons (pd_var 0) (pda_cons pd_int pda_nil)) (ar_cons (ar_cons ar_nil)))) (pdg_name (i := 5) sc_law_name.nd rfl (by first | exact Or.inl rfl | exact Or.inr rfl))
  (pdb_one (pds_set (i := 4) sc_law_name.nd rfl (by first | exact Or.inl rfl | exact Or.inr rfl) (pd_bin opd_add (pd_var 4) (pd_ix ixd (pd_var 2) (pd_call O.law_draw (rm1 hr) hG (by rfl) T.g_law_draw T.F_law_draw.kp T.b_law_draw (pda_cons (pd_var 0) (pda_cons pd_int pda_nil)) (ar_cons (ar_cons ar_nil))) (fun _ _ => rfl))))))) (pdb_cons (pds_set (i := 6) sc_law_name.nd rfl (by first | exact Or.inl rfl | exact Or.inr rfl) (pd_ix ixd (pd_var 1) (pd_call O.law_draw (rm1 hr) hG (by rfl) T.g_law_draw T.F_law_draw.kp T.b_law_draw (pda_cons (pd_var 0) (pda_cons (pd_blt cd_len (by rfl) T.n_len bt_len (pda_cons (pd_var 1) pda_nil)) pda_nil)) (ar_cons (ar_cons ar_nil))) (fun _ _ => rfl)))
  (pdb_one (pds_set (i := 4) sc_law_name.nd rfl (by first | exact Or.inl rfl | exact Or.inr rfl) (pd_if (pdt_cmp (opd_eq hr.units) (pd_var 3) pd_int (nomark _)) (pd_sl (pd_var 6) pdo_none (pdo_some (pd_bin opd_add pd_int (pd_call O.law_draw (rm1 hr) hG (by rfl) T.g_law_draw T.F_law_draw.kp T.b_law_draw (pda_cons (pd_var 0) (pda_cons (pd_blt cd_len (by rfl) T.n_len bt_len (pda_cons (pd_var 6) pda_nil)) pda_nil)) (ar_cons (ar_cons ar_nil)))))) (pd_bin opd_add (pd_sl (pd_var 6) pdo_none (pdo_some pd_int)) (pd_ix ixd (pd_var 2) (pd_call O.law_draw (rm1 hr) hG (by rfl) T.g_law_draw T.F_law_draw.kp T.b_law_draw (pda_cons (pd_var 0) (pda_cons pd_int pda_nil)) (ar_cons (ar_cons ar_nil))) (fun _ _ => rfl))))))))
  (pdb_cons (pds_for PassesOwn.never rfl (pdi_rng1 (by rfl) T.n_range pd_int) (pdg_name (i := 5) sc_law_name.nd rfl (by first | exact Or.inl rfl | exact Or.inr rfl))
  (pdb_one (pds_if (pdt_cmp (opd_in (hu65 hr)) (pd_var 4) (pd_var 1) rfl) (pdb_one (pds_set (i := 4) sc_law_name.nd rfl (by first | exact Or.inl rfl | exact Or.inr rfl) (pd_bin opd_add (pd_sl (pd_var 4) pdo_none (pdo_some (pd_un und_neg pd_int))) (pd_ix ixd (pd_var 2) (pd_bin opd_mod (pd_bin opd_add (pd_mt PySem.F.slot_str_index PySem.F.type_str_index md_sindex (pd_var 2) (pda_cons (pd_ix ixd (pd_var 4) (pd_un und_neg pd_int) (fun _ _ => rfl)) pda_nil)) pd_int) (pd_if (pdt_cmp (opd_eq hr.units) (pd_blt cd_len (by rfl) T.n_len bt_len (pda_cons (pd_var 4) pda_nil)) pd_int (nomark _)) pd_int pd_int)) (fun _ _ => rfl))))) pdb_nil)))
  (pdb_one (pds_ret (pd_var 4))))))))
theorem sc_law_bend : FnScope ["_law_feed_here", "_law_thing", "_law_odd_here", "_law_way", "_law_at"] ["_law_feed_here", "_law_thing", "_law_odd_here"] (defScope s_law_bend) := ⟨rfl, rfl, rfl, by decide +kernel, rfl, by decide +kernel, by decide +kernel⟩
theorem ok_law_bend (T : Tx K mg ad) (B : Tabs mg base tb ad) (O : Ok P w K mg base tb ad C k) : FnG P w K mg base CX0 (k + 2) ad.a_law_bend ad.d_law_bend ["_law_feed_here", "_law_thing", "_law_odd_here"] (spM K tb 3 (bodyM 5 (m_law_bend C))) :=
  fnM T.F_law_bend sc_law_bend fun cdv A out s H E hr hG =>
  (pdb_cons (pds_if (PDW.t (pdw_and (pdt_val (pd_isi (by rfl) T.n_isinstance (pd_var 1) (by rfl) T.n_tuple bt_tuple)) (pdw_and (pdt_cmp (opd_ne hr.units) (pd_var 1) (pd_tup pda_nil) (nomark _)) (pdw_and1 (pdt_cmp opd_gt (pd_call O.law_draw (rm1 hr) hG (by rfl) T.g_law_draw T.F_law_draw.kp T.b_law_draw (pda_cons (pd_var 0) (pda_cons pd_int pda_nil)) (ar_cons (ar_cons ar_nil))) pd_int (nomark _)))))) (pdb_cons (pds_set (i := 4) sc_law_bend.nd rfl (by first | exact Or.inl rfl | exact Or.inr rfl) (pd_call O.law_draw (rm1 hr) hG (by rfl) T.g_law_draw T.F_law_draw.kp T.b_law_draw (pda_cons (pd_var 0) (pda_cons (pd_blt cd_len (by rfl) T.n_len bt_len (pda_cons (pd_var 1) pda_nil)) pda_nil)) (ar_cons (ar_cons ar_nil))))
  (pdb_one (pds_ret (pd_bin opd_add (pd_bin opd_add (pd_sl (pd_var 1) pdo_none (pdo_some (pd_var 4))) (pd_tup (pda_cons (pd_call O.law_bend (rm1 hr) hG (by rfl) T.g_law_bend T.F_law_bend.kp T.b_law_bend (pda_cons (pd_var 0) (pda_cons (pd_ix ixd (pd_var 1) (pd_var 4) (fun _ _ => rfl)) (pda_cons (pd_var 2) pda_nil))) (ar_cons (ar_cons (ar_cons ar_nil)))) pda_nil))) (pd_sl (pd_var 1) (pdo_some (pd_bin opd_add (pd_var 4) pd_int)) pdo_none))))) pdb_nil)
  (pdb_cons (pds_set (i := 3) sc_law_bend.nd rfl (by first | exact Or.inl rfl | exact Or.inr rfl) (pd_call O.law_draw (rm1 hr) hG (by rfl) T.g_law_draw T.F_law_draw.kp T.b_law_draw (pda_cons (pd_var 0) (pda_cons pd_int pda_nil)) (ar_cons (ar_cons ar_nil))))
  (pdb_cons (pds_if (PDW.t (pdw_and (pdt_val (pd_isi (by rfl) T.n_isinstance (pd_var 1) (by rfl) T.n_tuple bt_tuple)) (pdw_and1 (pdt_cmp opd_lt (pd_var 3) pd_int (nomark _))))) (pdb_cons (pds_set (i := 4) sc_law_bend.nd rfl (by first | exact Or.inl rfl | exact Or.inr rfl) (pd_call O.law_draw (rm1 hr) hG (by rfl) T.g_law_draw T.F_law_draw.kp T.b_law_draw (pda_cons (pd_var 0) (pda_cons (pd_bin opd_add (pd_blt cd_len (by rfl) T.n_len bt_len (pda_cons (pd_var 1) pda_nil)) pd_int) pda_nil)) (ar_cons (ar_cons ar_nil))))
  (pdb_cons (pds_if (pdt_cmp (opd_eq hr.units) (pd_var 3) pd_int (nomark _)) (pdb_one (pds_ret (pd_bin opd_add (pd_bin opd_add (pd_sl (pd_var 1) pdo_none (pdo_some (pd_var 4))) (pd_tup (pda_cons (pd_ix ixd (pd_var 2) (pd_call O.law_draw (rm1 hr) hG (by rfl) T.g_law_draw T.F_law_draw.kp T.b_law_draw (pda_cons (pd_var 0) (pda_cons (pd_blt cd_len (by rfl) T.n_len bt_len (pda_cons (pd_var 2) pda_nil)) pda_nil)) (ar_cons (ar_cons ar_nil))) (fun _ _ => rfl)) pda_nil))) (pd_sl (pd_var 1) (pdo_some (pd_var 4)) pdo_none)))) pdb_nil)
  (pdb_one (pds_ret (pd_if (pdt_cmp (opd_eq hr.units) (pd_var 3) pd_int (nomark _)) (pd_bin opd_add (pd_sl (pd_var 1) pdo_none (pdo_some (pd_var 4))) (pd_sl (pd_var 1) (pdo_some (pd_bin opd_add (pd_var 4) pd_int)) pdo_none)) (pd_if (pdt_cmp (opd_eq hr.units) (pd_var 3) pd_int (nomark _)) (pd_new (pdn_list (by rfl) T.n_list (pd_var 1))) (pd_bin opd_add (pd_var 1) (pd_sl (pd_var 1) pdo_none (pdo_some (pd_var 4)))))))))) pdb_nil)
  (pdb_cons (pds_if (PDW.t (pdw_and (pdt_val (pd_isi (by rfl) T.n_isinstance (pd_var 1) (by rfl) T.n_int bt_int)) (pdw_and1 (pdt_cmp opd_lt (pd_var 3) pd_int (nomark _))))) (pdb_one (pds_ret (pd_ix ixd (pd_tup (pda_cons (pd_bin opd_add (pd_var 1) pd_int) (pda_cons (pd_bin opd_sub (pd_var 1) pd_int) (pda_cons (pd_un und_neg (pd_var 1)) (pda_cons (pd_tup (pda_cons (pd_var 1) pda_nil)) pda_nil))))) (pd_var 3) (fun _ _ => rfl)))) pdb_nil)
  (pdb_cons (pds_if (PDW.t (pdw_and (pdt_val (pd_isi (by rfl) T.n_isinstance (pd_var 1) (by rfl) T.n_str bt_str)) (pdw_and1 (pdt_cmp opd_lt (pd_var 3) pd_int (nomark _))))) (pdb_one (pds_ret (pd_ix ixd (pd_tup (pda_cons (pd_bin opd_add (pd_var 1) pd_str) (pda_cons (pd_sl (pd_var 1) (pdo_some pd_int) pdo_none) (pda_cons (pd_new (pdn_lst (pda_cons (pd_var 1) pda_nil))) pda_nil)))) (pd_var 3) (fun _ _ => rfl)))) pdb_nil)
  (pdb_one (pds_ret (pd_ix ixd (pd_var 2) (pd_call O.law_draw (rm1 hr) hG (by rfl) T.g_law_draw T.F_law_draw.kp T.b_law_draw (pda_cons (pd_var 0) (pda_cons (pd_blt cd_len (by rfl) T.n_len bt_len (pda_cons (pd_var 2) pda_nil)) pda_nil)) (ar_cons (ar_cons ar_nil))) (fun _ _ => rfl)))))))))
theorem sc_law_odd : FnScope ["_law_small", "_law_far"] [] (defScope s_law_odd) := ⟨rfl, rfl, rfl, by decide +kernel, rfl, by decide +kernel, by decide +kernel⟩
theorem ok_law_odd (T : Tx K mg ad) (B : Tabs mg base tb ad) (O : Ok P w K mg base tb ad C k) : FnG P w K mg base CX0 (k + 2) ad.a_law_odd ad.d_law_odd [] (spM K tb 0 (bodyM 2 (m_law_odd C))) :=
  fnM T.F_law_odd sc_law_odd fun cdv A out s H E hr hG =>
  (pdb_cons (pds_set (i := 0) sc_law_odd.nd rfl (by first | exact Or.inl rfl | exact Or.inr rfl) (pd_tup (pda_cons pd_non (pda_cons pd_bl (pda_cons pd_bl (pda_cons pd_str (pda_cons pd_str (pda_cons pd_str (pda_cons pd_int (pda_cons pd_int (pda_cons (pd_un und_neg pd_int) (pda_cons (pd_tup pda_nil) (pda_cons (pd_new (pdn_lst pda_nil)) pda_nil)))))))))))))
  (pdb_cons (pds_set (i := 1) sc_law_odd.nd rfl (by first | exact Or.inl rfl | exact Or.inr rfl) (pd_bin opd_mul (pd_bin opd_mul (pd_bin opd_mul (pd_bin opd_pow pd_int pd_int) (pd_bin opd_pow pd_int pd_int)) (pd_bin opd_pow pd_int pd_int)) (pd_bin opd_pow pd_int pd_int)))
  (pdb_one (pds_ret (pd_bin opd_add (pd_var 0) (pd_tup (pda_cons pd_str (pda_cons pd_str (pda_cons pd_str (pda_cons (pd_tup (pda_cons pd_str (pda_cons pd_int pda_nil))) (pda_cons (pd_tup (pda_cons pd_str (pda_cons (pd_tup pda_nil) pda_nil))) (pda_cons (pd_var 1) pda_nil))))))))))))
theorem sc_law_same : FnScope ["_law_told", "_law_due"] ["_law_told", "_law_due"] (defScope s_law_same) := ⟨rfl, rfl, rfl, by decide +kernel, rfl, by decide +kernel, by decide +kernel⟩
theorem ok_law_same (T : Tx K mg ad) (B : Tabs mg base tb ad) (O : Ok P w K mg base tb ad C k) : FnG P w K mg base CX0 (k + 2) ad.a_law_same ad.d_law_same ["_law_told", "_law_due"] (spM K tb 2 (bodyM 2 (m_law_same C))) :=
  fnM T.F_law_same sc_law_same fun cdv A out s H E hr hG =>
  (pdb_one (pds_ret (pd_or (pd_and (pd_cmp opd_is (pd_var 0) pd_bl (nomark _)) (pd_one (pd_var 1))) (pd_one (pd_and (pd_cmp opd_is (pd_var 0) pd_bl (nomark _)) (pd_one (pd_not (pd_var 1))))))))
theorem sc_law_number : FnScope ["_law_thing"] ["_law_thing"] (defScope s_law_number) := ⟨rfl, rfl, rfl, by decide +kernel, rfl, by decide +kernel, by decide +kernel⟩
theorem ok_law_number (T : Tx K mg ad) (B : Tabs mg base tb ad) (O : Ok P w K mg base tb ad C k) : FnG P w K mg base CX0 (k + 2) ad.a_law_number ad.d_law_number ["_law_thing"] (spM K tb 1 (bodyM 1 (m_law_number C))) :=
  fnM T.F_law_number sc_law_number fun cdv A out s H E hr hG =>
  (pdb_one (pds_ret (pd_and (pd_isi (by rfl) T.n_isinstance (pd_var 0) (by rfl) T.n_int bt_int) (pd_and (pd_cmp opd_isnt (pd_var 0) pd_bl (nomark _)) (pd_one (pd_cmp opd_isnt (pd_var 0) pd_bl (nomark _)))))))
theorem sc_law_great : FnScope ["_law_feed_here", "_law_told", "_law_k"] ["_law_feed_here"] (defScope s_law_great) := ⟨rfl, rfl, rfl, by decide +kernel, rfl, by decide +kernel, by decide +kernel⟩
theorem ok_law_great (T : Tx K mg ad) (B : Tabs mg base tb ad) (O : Ok P w K mg base tb ad C k) : FnG P w K mg base CX0 (k + 2) ad.a_law_great ad.d_law_great ["_law_feed_here"] (spM K tb 1 (bodyM 3 (m_law_great C))) :=
  fnM T.F_law_great sc_law_great fun cdv A out s H E hr hG =>
  (pdb_cons (pds_set (i := 1) sc_law_great.nd rfl (by first | exact Or.inl rfl | exact Or.inr rfl) (pd_call O.law_draw (rm1 hr) hG (by rfl) T.g_law_draw T.F_law_draw.kp T.b_law_draw (pda_cons (pd_var 0) (pda_cons pd_int pda_nil)) (ar_cons (ar_cons ar_nil))))
  (pdb_cons (pds_for PassesOwn.never rfl (pdi_rng1 (by rfl) T.n_range (pd_if (pdt_cmp (opd_eq hr.units) (pd_call O.law_draw (rm1 hr) hG (by rfl) T.g_law_draw T.F_law_draw.kp T.b_law_draw (pda_cons (pd_var 0) (pda_cons pd_int pda_nil)) (ar_cons (ar_cons ar_nil))) pd_int (nomark _)) (pd_call O.law_draw (rm1 hr) hG (by rfl) T.g_law_draw T.F_law_draw.kp T.b_law_draw (pda_cons (pd_var 0) (pda_cons pd_int pda_nil)) (ar_cons (ar_cons ar_nil))) pd_int)) (pdg_name (i := 2) sc_law_great.nd rfl (by first | exact Or.inl rfl | exact Or.inr rfl))
  (pdb_one (pds_set (i := 1) sc_law_great.nd rfl (by first | exact Or.inl rfl | exact Or.inr rfl) (pd_bin opd_add (pd_bin opd_mul (pd_var 1) (pd_bin opd_pow pd_int pd_int)) (pd_call O.law_draw (rm1 hr) hG (by rfl) T.g_law_draw T.F_law_draw.kp T.b_law_draw (pda_cons (pd_var 0) (pda_cons (pd_bin opd_pow pd_int pd_int) pda_nil)) (ar_cons (ar_cons ar_nil)))))))
  (pdb_one (pds_ret (pd_if (pdt_cmp (opd_eq hr.units) (pd_call O.law_draw (rm1 hr) hG (by rfl) T.g_law_draw T.F_law_draw.kp T.b_law_draw (pda_cons (pd_var 0) (pda_cons pd_int pda_nil)) (ar_cons (ar_cons ar_nil))) pd_int (nomark _)) (pd_un und_neg (pd_var 1)) (pd_var 1))))))
theorem sc_law_spoilt : FnScope ["_law_feed_here", "_law_name_here", "_law_signs", "_law_at", "_law_sign", "_law_way"] ["_law_feed_here", "_law_name_here"] (defScope s_law_spoilt) := ⟨rfl, rfl, rfl, by decide +kernel, rfl, by decide +kernel, by decide +kernel⟩
theorem ok_law_spoilt (T : Tx K mg ad) (B : Tabs mg base tb ad) (O : Ok P w K mg base tb ad C k) : FnG P w K mg base CX0 (k + 2) ad.a_law_spoilt ad.d_law_spoilt ["_law_feed_here", "_law_name_here"] (spM K tb 2 (bodyM 6 (m_law_spoilt C))) :=
  fnM T.F_law_spoilt sc_law_spoilt fun cdv A out s H E hr hG =>
  (pdb_cons (pds_set (i := 2) sc_law_spoilt.nd rfl (by first | exact Or.inl rfl | exact Or.inr rfl) pd_str)
  (pdb_cons (pds_set (i := 3) sc_law_spoilt.nd rfl (by first | exact Or.inl rfl | exact Or.inr rfl) (pd_call O.law_draw (rm1 hr) hG (by rfl) T.g_law_draw T.F_law_draw.kp T.b_law_draw (pda_cons (pd_var 0) (pda_cons (pd_blt cd_len (by rfl) T.n_len bt_len (pda_cons (pd_var 1) pda_nil)) pda_nil)) (ar_cons (ar_cons ar_nil))))
  (pdb_cons (pds_set (i := 4) sc_law_spoilt.nd rfl (by first | exact Or.inl rfl | exact Or.inr rfl) (pd_ix ixd (pd_var 2) (pd_call O.law_draw (rm1 hr) hG (by rfl) T.g_law_draw T.F_law_draw.kp T.b_law_draw (pda_cons (pd_var 0) (pda_cons (pd_blt cd_len (by rfl) T.n_len bt_len (pda_cons (pd_var 2) pda_nil)) pda_nil)) (ar_cons (ar_cons ar_nil))) (fun _ _ => rfl)))
  (pdb_cons (pds_set (i := 5) sc_law_spoilt.nd rfl (by first | exact Or.inl rfl | exact Or.inr rfl) (pd_call O.law_draw (rm1 hr) hG (by rfl) T.g_law_draw T.F_law_draw.kp T.b_law_draw (pda_cons (pd_var 0) (pda_cons pd_int pda_nil)) (ar_cons (ar_cons ar_nil))))
  (pdb_one (pds_ret (pd_bin opd_add (pd_bin opd_add (pd_sl (pd_var 1) pdo_none (pdo_some (pd_var 3))) (pd_if (pdt_cmp (opd_eq hr.units) (pd_var 5) pd_int (nomark _)) pd_str (pd_var 4))) (pd_sl (pd_var 1) (pdo_some (pd_bin opd_add (pd_var 3) (pd_if (pdt_cmp (opd_eq hr.units) (pd_var 5) pd_int (nomark _)) pd_int pd_int))) pdo_none))))))))
theorem sc_law_any_kind : FnScope ["_law_feed_here", "_law_way", "_law_one", "_law_other"] ["_law_feed_here"] (defScope s_law_any_kind) := ⟨rfl, rfl, rfl, by decide +kernel, rfl, by decide +kernel, by decide +kernel⟩
theorem ok_law_any_kind (T : Tx K mg ad) (B : Tabs mg base tb ad) (O : Ok P w K mg base tb ad C k) : FnG P w K mg base CX0 (k + 2) ad.a_law_any_kind ad.d_law_any_kind ["_law_feed_here"] (spM K tb 1 (bodyM 4 (m_law_any_kind C))) :=
  fnM T.F_law_any_kind sc_law_any_kind fun cdv A out s H E hr hG =>
  (pdb_cons (pds_set (i := 1) sc_law_any_kind.nd rfl (by first | exact Or.inl rfl | exact Or.inr rfl) (pd_call O.law_draw (rm1 hr) hG (by rfl) T.g_law_draw T.F_law_draw.kp T.b_law_draw (pda_cons (pd_var 0) (pda_cons pd_int pda_nil)) (ar_cons (ar_cons ar_nil))))
  (pdb_cons (pds_if (pdt_cmp opd_lt (pd_var 1) pd_int (nomark _)) (pdb_one (pds_ret (pd_tup (pda_cons (pd_ix ixd (pd_tup (pda_cons pd_str (pda_cons pd_str pda_nil))) (pd_var 1) (fun _ _ => rfl)) (pda_cons (pd_bin opd_add pd_int (pd_blt cd_abs (by rfl) T.n_abs bt_abs (pda_cons (pd_call O.law_great (rm1 hr) hG (by rfl) T.g_law_great T.F_law_great.kp T.b_law_great (pda_cons (pd_var 0) pda_nil) (ar_cons ar_nil)) pda_nil))) pda_nil))))) pdb_nil)
  (pdb_cons (pds_par (i := 2) (j := 3) rfl sc_law_any_kind.nd rfl rfl (by decide) rfl rfl (pda_cons (pd_call O.law_great (rm1 hr) hG (by rfl) T.g_law_great T.F_law_great.kp T.b_law_great (pda_cons (pd_var 0) pda_nil) (ar_cons ar_nil)) (pda_cons (pd_call O.law_great (rm1 hr) hG (by rfl) T.g_law_great T.F_law_great.kp T.b_law_great (pda_cons (pd_var 0) pda_nil) (ar_cons ar_nil)) pda_nil)) rfl)
  (pdb_cons (pds_if (pdt_cmp (opd_eq hr.units) (pd_call O.law_draw (rm1 hr) hG (by rfl) T.g_law_draw T.F_law_draw.kp T.b_law_draw (pda_cons (pd_var 0) (pda_cons pd_int pda_nil)) (ar_cons (ar_cons ar_nil))) pd_int (nomark _)) (pdb_one (pds_set (i := 3) sc_law_any_kind.nd rfl (by first | exact Or.inl rfl | exact Or.inr rfl) (pd_bin opd_sub (pd_bin opd_add (pd_var 2) (pd_call O.law_draw (rm1 hr) hG (by rfl) T.g_law_draw T.F_law_draw.kp T.b_law_draw (pda_cons (pd_var 0) (pda_cons pd_int pda_nil)) (ar_cons (ar_cons ar_nil)))) pd_int))) pdb_nil)
  (pdb_one (pds_ret (pd_tup (pda_cons pd_str (pda_cons (pd_var 2) (pda_cons (pd_var 3) pda_nil))))))))))
theorem sc_law_named : FnScope ["_law_thing", "_law_small", "_law_figure", "_law_sign", "_law_one", "_law_other"] ["_law_thing"] (defScope s_law_named) := ⟨rfl, rfl, rfl, by decide +kernel, rfl, by decide +kernel, by decide +kernel⟩
theorem ok_law_named (T : Tx K mg ad) (B : Tabs mg base tb ad) (O : Ok P w K mg base tb ad C k) : FnG P w K mg base CX0 (k + 2) ad.a_law_named ad.d_law_named ["_law_thing"] (spM K tb 1 (bodyM 6 (m_law_named C))) :=
  fnM T.F_law_named sc_law_named fun cdv A out s H E hr hG =>
  (pdb_cons (pds_if (PDW.t (pdw_or (pdt_not (pdt_val (pd_isi (by rfl) T.n_isinstance (pd_var 0) (by rfl) T.n_str bt_str))) (pdw_or (pdt_cmp (opd_eq hr.units) (pd_var 0) pd_str (nomark _)) (pdw_or1 (pdt_cmp opd_gt (pd_blt cd_len (by rfl) T.n_len bt_len (pda_cons (pd_var 0) pda_nil)) pd_int (nomark _)))))) (pdb_one (pds_ret pd_bl)) pdb_nil)
  (pdb_cons (pds_setLc (i := 1) (own := [("_law_sign", 3)]) rfl sc_law_named.nd rfl rfl (by first | rfl | decide +kernel | with_unfolding_all rfl) (pdi_any (pd_var 0)) (blkOk_by (N := ["_law_thing", "_law_small", "_law_figure", "_law_sign", "_law_one", "_law_other"]) (sc := defScope s_law_named) (by decide +kernel)) (fun _ _ _ _ _ => (pdgw_name (i := 3) (by decide) sc_law_named.nd rfl (by first | exact Or.inl rfl | exact Or.inr rfl))) (fun _ _ _ _ _ => pdts_nil) (fun _ _ _ _ _ => (pd_and (pd_cmp opd_le pd_str (pd_var 3) (nomark _)) (pd_one (pd_cmp opd_le (pd_var 3) pd_str (nomark _))))))
  (pdb_cons (pds_setLc (i := 2) (own := [("_law_sign", 3)]) rfl sc_law_named.nd rfl rfl (by first | rfl | decide +kernel | with_unfolding_all rfl) (pdi_any (pd_var 0)) (blkOk_by (N := ["_law_thing", "_law_small", "_law_figure", "_law_sign", "_law_one", "_law_other"]) (sc := defScope s_law_named) (by decide +kernel)) (fun _ _ _ _ _ => (pdgw_name (i := 3) (by decide) sc_law_named.nd rfl (by first | exact Or.inl rfl | exact Or.inr rfl))) (fun _ _ _ _ _ => pdts_nil) (fun _ _ _ _ _ => (pd_and (pd_cmp opd_le pd_str (pd_var 3) (nomark _)) (pd_one (pd_cmp opd_le (pd_var 3) pd_str (nomark _))))))
  (pdb_one (pds_ret (pd_and (pd_ix ixd (pd_var 1) pd_int (fun _ _ => rfl)) (pd_one (pd_blt (cd_all rfl) (by rfl) T.n_all bt_all (pda_cons (pd_new (pdn_lc (own := [("_law_one", 4), ("_law_other", 5)]) rfl sc_law_named.nd (pdi_zip (by rfl) T.n_zip (pda_cons (pd_var 1) (pda_cons (pd_var 2) pda_nil))) (blkOk_by (N := ["_law_thing", "_law_small", "_law_figure", "_law_sign", "_law_one", "_law_other"]) (sc := defScope s_law_named) (by decide +kernel)) (fun _ _ _ _ _ => (pdgw_tup2 (i := 4) (j := 5) rfl (by decide) (by decide) sc_law_named.nd rfl rfl (by first | exact Or.inl rfl | exact Or.inr rfl) (by first | exact Or.inl rfl | exact Or.inr rfl))) (fun _ _ _ _ _ => pdts_nil) (fun _ _ _ _ _ => (pd_or (pd_var 4) (pd_one (pd_var 5)))))) pda_nil)))))))))
theorem sc_law_kinded : FnScope ["_law_thing", "_law_part"] ["_law_thing"] (defScope s_law_kinded) := ⟨rfl, rfl, rfl, by decide +kernel, rfl, by decide +kernel, by decide +kernel⟩
theorem ok_law_kinded (T : Tx K mg ad) (B : Tabs mg base tb ad) (O : Ok P w K mg base tb ad C k) : FnG P w K mg base CX0 (k + 2) ad.a_law_kinded ad.d_law_kinded ["_law_thing"] (spM K tb 1 (bodyM 2 (m_law_kinded C))) :=
  fnM T.F_law_kinded sc_law_kinded fun cdv A out s H E hr hG =>
  (pdb_cons (pds_if (PDW.t (pdw_or (pdt_not (pdt_val (pd_isi (by rfl) T.n_isinstance (pd_var 0) (by rfl) T.n_tuple bt_tuple))) (pdw_or1 (pdt_cmp (opd_eq hr.units) (pd_var 0) (pd_tup pda_nil) (nomark _))))) (pdb_one (pds_ret pd_bl)) pdb_nil)
  (pdb_cons (pds_if (pdt_not (pdt_val (pd_blt (cd_all rfl) (by rfl) T.n_all bt_all (pda_cons (pd_new (pdn_lc (own := [("_law_part", 1)]) rfl sc_law_kinded.nd (pdi_any (pd_sl (pd_var 0) (pdo_some pd_int) pdo_none)) (blkOk_by (N := ["_law_thing", "_law_part"]) (sc := defScope s_law_kinded) (by decide +kernel)) (fun _ _ _ _ _ => (pdgw_name (i := 1) (by decide) sc_law_kinded.nd rfl (by first | exact Or.inl rfl | exact Or.inr rfl))) (fun _ _ _ _ _ => pdts_nil) (fun _ _ _ _ _ => (pd_call O.law_number (rm1 hr) hG (by rfl) T.g_law_number T.F_law_number.kp T.b_law_number (pda_cons (pd_var 1) pda_nil) (ar_cons ar_nil))))) pda_nil)))) (pdb_one (pds_ret pd_bl)) pdb_nil)
  (pdb_cons (pds_if (pdt_cmp (opd_eq hr.units) (pd_ix ixd (pd_var 0) pd_int (fun _ _ => rfl)) pd_str (nomark _)) (pdb_one (pds_ret (pd_and (pd_cmp (opd_eq hr.units) (pd_blt cd_len (by rfl) T.n_len bt_len (pda_cons (pd_var 0) pda_nil)) pd_int (nomark _)) (pd_one (pd_cmp opd_le (pd_ix ixd (pd_var 0) pd_int (fun _ _ => rfl)) (pd_ix ixd (pd_var 0) pd_int (fun _ _ => rfl)) (nomark _)))))) pdb_nil)
  (pdb_cons (pds_if (PDW.t (pdw_or (pdt_cmp (opd_ne hr.units) (pd_blt cd_len (by rfl) T.n_len bt_len (pda_cons (pd_var 0) pda_nil)) pd_int (nomark _)) (pdw_or1 (pdt_cmp opd_lt (pd_ix ixd (pd_var 0) pd_int (fun _ _ => rfl)) pd_int (nomark _))))) (pdb_one (pds_ret pd_bl)) pdb_nil)
  (pdb_one (pds_ret (pd_or (pd_cmp (opd_eq hr.units) (pd_ix ixd (pd_var 0) pd_int (fun _ _ => rfl)) pd_str (nomark _)) (pd_one (pd_cmp (opd_eq hr.units) (pd_ix ixd (pd_var 0) pd_int (fun _ _ => rfl)) pd_str (nomark _))))))))))
theorem sc_law_fixed : FnScope ["_law_far"] [] (defScope s_law_fixed) := ⟨rfl, rfl, rfl, by decide +kernel, rfl, by decide +kernel, by decide +kernel⟩
theorem ok_law_fixed (T : Tx K mg ad) (B : Tabs mg base tb ad) (O : Ok P w K mg base tb ad C k) : FnG P w K mg base CX0 (k + 2) ad.a_law_fixed ad.d_law_fixed [] (spM K tb 0 (bodyM 1 (m_law_fixed C))) :=
  fnM T.F_law_fixed sc_law_fixed fun cdv A out s H E hr hG =>
  (pdb_cons (pds_set (i := 0) sc_law_fixed.nd rfl (by first | exact Or.inl rfl | exact Or.inr rfl) (pd_bin opd_mul (pd_bin opd_mul (pd_bin opd_mul (pd_bin opd_pow pd_int pd_int) (pd_bin opd_pow pd_int pd_int)) (pd_bin opd_pow pd_int pd_int)) (pd_bin opd_pow pd_int pd_int)))
  (pdb_one (pds_retN (pdn_lst (pda_cons pd_int (pda_cons pd_int (pda_cons (pd_un und_neg pd_int) (pda_cons (pd_var 0) (pda_cons (pd_un und_neg (pd_var 0)) (pda_cons pd_bl (pda_cons pd_bl (pda_cons pd_non (pda_cons pd_str (pda_cons pd_str (pda_cons pd_str (pda_cons pd_str (pda_cons pd_str (pda_cons pd_str (pda_cons pd_str (pda_cons pd_str (pda_cons pd_str (pda_cons pd_str (pda_cons pd_str (pda_cons pd_str (pda_cons pd_str (pda_cons pd_str (pda_cons pd_str (pda_cons pd_str (pda_cons pd_str (pda_cons pd_str (pda_cons pd_str (pda_cons pd_str (pda_cons pd_str (pda_cons pd_str (pda_cons pd_str (pda_cons pd_str (pda_cons pd_str (pda_cons pd_str (pda_cons pd_str (pda_cons pd_str (pda_cons (pd_tup pda_nil) (pda_cons (pd_new (pdn_lst pda_nil)) (pda_cons (pd_tup (pda_cons pd_str pda_nil)) (pda_cons (pd_new (pdn_lst (pda_cons pd_str pda_nil))) (pda_cons (pd_tup (pda_cons pd_str pda_nil)) (pda_cons (pd_tup (pda_cons pd_str (pda_cons pd_int pda_nil))) (pda_cons (pd_tup (pda_cons pd_str (pda_cons pd_int pda_nil))) (pda_cons (pd_tup (pda_cons pd_str (pda_cons (pd_un und_neg pd_int) pda_nil))) (pda_cons (pd_tup (pda_cons pd_str (pda_cons pd_bl pda_nil))) (pda_cons (pd_tup (pda_cons pd_str (pda_cons (pd_var 0) pda_nil))) (pda_cons (pd_new (pdn_lst (pda_cons pd_str (pda_cons pd_int pda_nil)))) (pda_cons (pd_tup (pda_cons pd_str (pda_cons pd_int (pda_cons pd_int pda_nil)))) (pda_cons (pd_tup (pda_cons pd_str (pda_cons pd_int pda_nil))) (pda_cons (pd_tup (pda_cons pd_str (pda_cons pd_int pda_nil))) (pda_cons (pd_tup (pda_cons pd_str (pda_cons pd_str pda_nil))) (pda_cons (pd_tup (pda_cons pd_str (pda_cons pd_int (pda_cons pd_int pda_nil)))) (pda_cons (pd_tup (pda_cons pd_str (pda_cons pd_int (pda_cons pd_int pda_nil)))) (pda_cons (pd_tup (pda_cons pd_str (pda_cons pd_int pda_nil))) (pda_cons (pd_tup (pda_cons pd_str (pda_cons (pd_un und_neg pd_int) (pda_cons pd_int pda_nil)))) (pda_cons (pd_tup (pda_cons pd_str (pda_cons (pd_un und_neg (pd_var 0)) (pda_cons (pd_var 0) pda_nil)))) (pda_cons (pd_tup (pda_cons pd_str (pda_cons (pd_var 0) (pda_cons (pd_un und_neg (pd_var 0)) pda_nil)))) (pda_cons (pd_tup (pda_cons pd_str (pda_cons pd_int (pda_cons pd_bl pda_nil)))) (pda_cons (pd_tup (pda_cons pd_str (pda_cons pd_bl (pda_cons pd_int pda_nil)))) (pda_cons (pd_tup (pda_cons pd_str (pda_cons pd_int (pda_cons pd_int (pda_cons pd_int pda_nil))))) (pda_cons (pd_tup (pda_cons pd_str (pda_cons (pd_tup (pda_cons pd_int (pda_cons pd_int pda_nil))) pda_nil))) (pda_cons (pd_tup (pda_cons pd_str (pda_cons pd_int pda_nil))) (pda_cons (pd_tup (pda_cons pd_int (pda_cons pd_str pda_nil))) (pda_cons (pd_tup (pda_cons (pd_tup (pda_cons pd_str (pda_cons pd_int pda_nil))) pda_nil)) (pda_cons (pd_tup (pda_cons pd_str (pda_cons pd_int pda_nil))) (pda_cons (pd_tup (pda_cons pd_str (pda_cons (pd_tup (pda_cons pd_int pda_nil)) pda_nil))) pda_nil))))))))))))))))))))))))))))))))))))))))))))))))))))))))))))))))))))))
theorem sc_law : FnScope ["_law_script", "_law_feed_here", "_law_things", "_law_odd_here", "_law_k", "_law_kept", "_law_thing", "_law_name_here", "_law_spoilt_here", "_law_long", "_law_wild", "_law_j", "_law_kind", "_law_bent", "_law_number_here"] ["_law_script"] (defScope s_law) := ⟨rfl, rfl, rfl, by decide +kernel, rfl, by decide +kernel, by decide +kernel⟩
theorem ok_law (T : Tx K mg ad) (B : Tabs mg base tb ad) (O : Ok P w K mg base tb ad C k) : FnG P w K mg base CX0 (k + 2) ad.a_law ad.d_law ["_law_script"] (spM K tb 1 (bodyM 15 (m_law C))) :=
  fnM T.F_law sc_law fun cdv A out s H E hr hG =>
  (pdb_cons (pds_reg (i := 1) sc_law.nd rfl (by first | exact Or.inl rfl | exact Or.inr rfl) (pdn_call O.law_feed (rm1 hr) hG (by rfl) T.g_law_feed T.F_law_feed.kp T.b_law_feed (pda_cons (pd_var 0) pda_nil) (ar_cons ar_nil)))
  (pdb_cons (pds_reg (i := 2) sc_law.nd rfl (by first | exact Or.inl rfl | exact Or.inr rfl) (pdn_call0 O.law_fixed (rm1 hr) hG (by rfl) T.g_law_fixed T.F_law_fixed.kp T.b_law_fixed))
  (pdb_cons (pds_set (i := 3) sc_law.nd rfl (by first | exact Or.inl rfl | exact Or.inr rfl) (pd_call0 O.law_odd (rm1 hr) hG (by rfl) T.g_law_odd T.F_law_odd.kp T.b_law_odd))
  (pdb_cons (pds_for PassesOwn.never rfl (pdi_rng1 (by rfl) T.n_range pd_int) (pdg_name (i := 4) sc_law.nd rfl (by first | exact Or.inl rfl | exact Or.inr rfl))
  (pdb_cons (pds_set (i := 7) sc_law.nd rfl (by first | exact Or.inl rfl | exact Or.inr rfl) (pd_call O.law_name (rm1 hr) hG (by rfl) T.g_law_name T.F_law_name.kp T.b_law_name (pda_cons (pd_var 1) (pda_cons (pd_new (pdn_lst pda_nil)) pda_nil)) (ar_cons (ar_cons ar_nil))))
  (pdb_cons (pds_set (i := 8) sc_law.nd rfl (by first | exact Or.inl rfl | exact Or.inr rfl) (pd_call O.law_spoilt (rm1 hr) hG (by rfl) T.g_law_spoilt T.F_law_spoilt.kp T.b_law_spoilt (pda_cons (pd_var 1) (pda_cons (pd_var 7) pda_nil)) (ar_cons (ar_cons ar_nil))))
  (pdb_cons (pds_set (i := 9) sc_law.nd rfl (by first | exact Or.inl rfl | exact Or.inr rfl) (pd_sl (pd_bin opd_add (pd_var 7) pd_str) pdo_none (pdo_some pd_int)))
  (pdb_cons (pds_set (i := 10) sc_law.nd rfl (by first | exact Or.inl rfl | exact Or.inr rfl) pd_str)
  (pdb_cons (pds_for PassesOwn.never rfl (pdi_rng1 (by rfl) T.n_range (pd_call O.law_draw (rm1 hr) hG (by rfl) T.g_law_draw T.F_law_draw.kp T.b_law_draw (pda_cons (pd_var 1) (pda_cons pd_int pda_nil)) (ar_cons (ar_cons ar_nil)))) (pdg_name (i := 11) sc_law.nd rfl (by first | exact Or.inl rfl | exact Or.inr rfl))
  (pdb_one (pds_set (i := 10) sc_law.nd rfl (by first | exact Or.inl rfl | exact Or.inr rfl) (pd_call O.law_spoilt (rm1 hr) hG (by rfl) T.g_law_spoilt T.F_law_spoilt.kp T.b_law_spoilt (pda_cons (pd_var 1) (pda_cons (pd_bin opd_add (pd_var 10) pd_str) pda_nil)) (ar_cons (ar_cons ar_nil))))))
  (pdb_cons (pds_set (i := 12) sc_law.nd rfl (by first | exact Or.inl rfl | exact Or.inr rfl) (pd_call O.law_any_kind (rm1 hr) hG (by rfl) T.g_law_any_kind T.F_law_any_kind.kp T.b_law_any_kind (pda_cons (pd_var 1) pda_nil) (ar_cons ar_nil)))
  (pdb_cons (pds_set (i := 13) sc_law.nd rfl (by first | exact Or.inl rfl | exact Or.inr rfl) (pd_call O.law_bend (rm1 hr) hG (by rfl) T.g_law_bend T.F_law_bend.kp T.b_law_bend (pda_cons (pd_var 1) (pda_cons (pd_var 12) (pda_cons (pd_var 3) pda_nil))) (ar_cons (ar_cons (ar_cons ar_nil)))))
  (pdb_cons (pds_set (i := 14) sc_law.nd rfl (by first | exact Or.inl rfl | exact Or.inr rfl) (pd_call O.law_great (rm1 hr) hG (by rfl) T.g_law_great T.F_law_great.kp T.b_law_great (pda_cons (pd_var 1) pda_nil) (ar_cons ar_nil)))
  (pdb_cons (pds_expr (pd_extend (pd_var 2) (pd_new (pdn_lst (pda_cons (pd_var 7) (pda_cons (pd_var 8) (pda_cons (pd_var 9) (pda_cons (pd_bin opd_add (pd_var 9) pd_str) (pda_cons (pd_call O.law_spoilt (rm1 hr) hG (by rfl) T.g_law_spoilt T.F_law_spoilt.kp T.b_law_spoilt (pda_cons (pd_var 1) (pda_cons (pd_var 9) pda_nil)) (ar_cons (ar_cons ar_nil))) (pda_cons (pd_var 10) (pda_cons (pd_var 12) (pda_cons (pd_var 13) pda_nil))))))))))))
  (pdb_cons (pds_expr (pd_extend (pd_var 2) (pd_new (pdn_lst (pda_cons (pd_call O.law_bend (rm1 hr) hG (by rfl) T.g_law_bend T.F_law_bend.kp T.b_law_bend (pda_cons (pd_var 1) (pda_cons (pd_var 13) (pda_cons (pd_var 3) pda_nil))) (ar_cons (ar_cons (ar_cons ar_nil)))) (pda_cons (pd_var 14) (pda_cons (pd_bty cd_str (by rfl) T.n_str bt_str (pda_cons (pd_var 14) pda_nil)) (pda_cons (pd_call O.law_bend (rm1 hr) hG (by rfl) T.g_law_bend T.F_law_bend.kp T.b_law_bend (pda_cons (pd_var 1) (pda_cons (pd_var 14) (pda_cons (pd_var 3) pda_nil))) (ar_cons (ar_cons (ar_cons ar_nil)))) pda_nil))))))))
  (pdb_one (pds_expr (pd_append (pd_var 2) (pd_call O.law_bend (rm1 hr) hG (by rfl) T.g_law_bend T.F_law_bend.kp T.b_law_bend (pda_cons (pd_var 1) (pda_cons (pd_var 7) (pda_cons (pd_var 3) pda_nil))) (ar_cons (ar_cons (ar_cons ar_nil))))))))))))))))))
  (pdb_cons (pds_set (i := 5) sc_law.nd rfl (by first | exact Or.inl rfl | exact Or.inr rfl) (pd_blt (cd_repr hr hG) (by rfl) T.n_repr bt_repr (pda_cons (pd_var 2) pda_nil)))
  (pdb_cons (pds_for PassesOwn.never rfl (pdi_any (pd_bin opd_add (pd_var 2) (pd_new (pdn_rev (pd_var 2))))) (pdg_name (i := 6) sc_law.nd rfl (by first | exact Or.inl rfl | exact Or.inr rfl))
  (pdb_cons (pds_if (PDW.t (pdw_or (pdt_not (pdt_val (pd_call O.law_same (rm1 hr) hG (by rfl) T.g_law_same T.F_law_same.kp T.b_law_same (pda_cons (pd_call O.is_number (rm1 hr) hG (by rfl) T.g_is_number T.F_is_number.kp T.b_is_number (pda_cons (pd_var 6) pda_nil) (ar_cons ar_nil)) (pda_cons (pd_call O.law_number (rm1 hr) hG (by rfl) T.g_law_number T.F_law_number.kp T.b_law_number (pda_cons (pd_var 6) pda_nil) (ar_cons ar_nil)) pda_nil)) (ar_cons (ar_cons ar_nil))))) (pdw_or1 (pdt_not (pdt_val (pd_call O.law_same (rm1 hr) hG (by rfl) T.g_law_same T.F_law_same.kp T.b_law_same (pda_cons (pd_call O.is_name (rm1 hr) hG (by rfl) T.g_is_name T.F_is_name.kp T.b_is_name (pda_cons (pd_var 6) pda_nil) (ar_cons ar_nil)) (pda_cons (pd_call O.law_named (rm1 hr) hG (by rfl) T.g_law_named T.F_law_named.kp T.b_law_named (pda_cons (pd_var 6) pda_nil) (ar_cons ar_nil)) pda_nil)) (ar_cons (ar_cons ar_nil)))))))) (pdb_one (pds_ret pd_bl)) pdb_nil)
  (pdb_one (pds_if (pdt_not (pdt_val (pd_call O.law_same (rm1 hr) hG (by rfl) T.g_law_same T.F_law_same.kp T.b_law_same (pda_cons (pd_call O.is_kind (rm1 hr) hG (by rfl) T.g_is_kind T.F_is_kind.kp T.b_is_kind (pda_cons (pd_var 6) pda_nil) (ar_cons ar_nil)) (pda_cons (pd_call O.law_kinded (rm1 hr) hG (by rfl) T.g_law_kinded T.F_law_kinded.kp T.b_law_kinded (pda_cons (pd_var 6) pda_nil) (ar_cons ar_nil)) pda_nil)) (ar_cons (ar_cons ar_nil))))) (pdb_one (pds_ret pd_bl)) pdb_nil))))
  (pdb_one (pds_ret (pd_cmp (opd_eq hr.units) (pd_blt (cd_repr hr hG) (by rfl) T.n_repr bt_repr (pda_cons (pd_var 2) pda_nil)) (pd_var 5) (nomark _))))))))))
end
def noM : MF := fun _ _ => .bad
def C0 : CT := ⟨noM, noM, noM, noM, noM, noM, noM, noM, noM, noM, noM, noM, noM, noM, noM, noM, noM⟩
noncomputable def step (C : CT) : CT where
  is_number := bodyM 1 (m_is_number C)
  is_name := bodyM 2 (m_is_name C)
  is_kind := bodyM 2 (m_is_kind C)
  law_feed := bodyM 1 (m_law_feed C)
  law_draw := bodyM 6 (m_law_draw C)
  law_name := bodyM 7 (m_law_name C)
  law_bend := bodyM 5 (m_law_bend C)
  law_odd := bodyM 2 (m_law_odd C)
  law_same := bodyM 2 (m_law_same C)
  law_number := bodyM 1 (m_law_number C)
  law_great := bodyM 3 (m_law_great C)
  law_spoilt := bodyM 6 (m_law_spoilt C)
  law_any_kind := bodyM 4 (m_law_any_kind C)
  law_named := bodyM 6 (m_law_named C)
  law_kinded := bodyM 2 (m_law_kinded C)
  law_fixed := bodyM 1 (m_law_fixed C)
  law := bodyM 15 (m_law C)
noncomputable def run : Nat → CT
  | 0 => C0
  | n + 1 => step (run n)
section
variable {P : Program} {w : World} {K : Frag} {mg : Str → Option Value} {base : Heap} {tb : List Addr} {ad : AD}
theorem no_ok {f : Addr} {fd : FuncData} {ps : List Str} {k : Nat} : FnG P w K mg base CX0 k f fd ps (spM K tb ps.length noM) :=
  ⟨fun _ _ _ _ h => h.1, fun _ _ _ _ _ _ _ _ _ _ _ _ _ _ h => by
    obtain ⟨_, _, _, _, _, _, h⟩ := h
    exact h.elim⟩
theorem okAll (T : Tx K mg ad) (B : Tabs mg base tb ad) : ∀ k : Nat, Ok P w K mg base tb ad (run k) (2 * k)
  | 0 => ⟨no_ok, no_ok, no_ok, no_ok, no_ok, no_ok, no_ok, no_ok, no_ok, no_ok, no_ok, no_ok, no_ok, no_ok, no_ok, no_ok, no_ok⟩
  | k + 1 => by
    have O := okAll T B k
    exact ⟨ok_is_number T B O, ok_is_name T B O, ok_is_kind T B O, ok_law_feed T B O, ok_law_draw T B O, ok_law_name T B O, ok_law_bend T B O, ok_law_odd T B O, ok_law_same T B O, ok_law_number T B O, ok_law_great T B O, ok_law_spoilt T B O, ok_law_any_kind T B O, ok_law_named T B O, ok_law_kinded T B O, ok_law_fixed T B O, ok_law T B O⟩
end
theorem all_mk {l : PySem.W.OpenLaw} {w : World} {K : Frag} {h : Heap} {mg : Str → Option Value} {fa f0 f1 f2 f3 f4 f5 f6 f7 f8 f9 f10 f11 f12 f13 f14 f15 f16 : Addr} (X : K.In h) (G : h.Ns mainGlobals mg) (hfa : mg "law" = some (.ref fa))
    {od0 an0 od1 an1 od2 an2 od3 an3 od4 an4 od5 an5 od6 an6 od7 an7 od8 an8 od9 an9 od10 an10 od11 an11 od12 an12 od13 an13 od14 an14 od15 an15 od16 an16 : Option Addr} {sl0 sl1 sl2 sl3 sl4 sl5 sl6 sl7 sl8 sl9 sl10 sl11 sl12 sl13 sl14 sl15 sl16 : Array (Option Value)} {oc0 kV0 dc0 pm0 cd0 ct0 oc1 kV1 dc1 pm1 cd1 ct1 oc2 kV2 dc2 pm2 cd2 ct2 oc3 kV3 dc3 pm3 cd3 ct3 oc4 kV4 dc4 pm4 cd4 ct4 oc5 kV5 dc5 pm5 cd5 ct5 oc6 kV6 dc6 pm6 cd6 ct6 oc7 kV7 dc7 pm7 cd7 ct7 oc8 kV8 dc8 pm8 cd8 ct8 oc9 kV9 dc9 pm9 cd9 ct9 oc10 kV10 dc10 pm10 cd10 ct10 oc11 kV11 dc11 pm11 cd11 ct11 oc12 kV12 dc12 pm12 cd12 ct12 oc13 kV13 dc13 pm13 cd13 ct13 oc14 kV14 dc14 pm14 cd14 ct14 oc15 kV15 dc15 pm15 cd15 ct15 oc16 kV16 dc16 pm16 cd16 ct16 : Value} {tk0 tk1 : Tok} {cc1 pp1 cc2 pp2 : Addr} {qd1 qd2 : Option Addr} {qv1 qv2 : Array Value} {qs1 qs2 : Array (Option Value)}
    (a0 : PySem.W.nsIn K mainGlobals "is_number" = some (some (.ref f0))) (l0 : K.lookup f0 = some ⟨oc0, od0, .func (PySem.W.fnOf "is_number" "is_number" (defArgs s_is_number) (defBody s_is_number) (defScope s_is_number) .none kV0 dc0 pm0 an0 cd0 ct0), sl0⟩) (c0 : PySem.W.codeIn K cd0 "is_number" = true) (k0 : PySem.W.keepIn K (.ref f0) = true)
    (a1 : PySem.W.nsIn K mainGlobals "is_name" = some (some (.ref f1))) (l1 : K.lookup f1 = some ⟨oc1, od1, .func (PySem.W.fnOf "is_name" "is_name" (defArgs s_is_name) (defBody s_is_name) (defScope s_is_name) .none kV1 dc1 pm1 an1 cd1 ct1), sl1⟩) (c1 : PySem.W.codeIn K cd1 "is_name" = true) (k1 : PySem.W.keepIn K (.ref f1) = true)
    (a2 : PySem.W.nsIn K mainGlobals "is_kind" = some (some (.ref f2))) (l2 : K.lookup f2 = some ⟨oc2, od2, .func (PySem.W.fnOf "is_kind" "is_kind" (defArgs s_is_kind) (defBody s_is_kind) (defScope s_is_kind) .none kV2 dc2 pm2 an2 cd2 ct2), sl2⟩) (c2 : PySem.W.codeIn K cd2 "is_kind" = true) (k2 : PySem.W.keepIn K (.ref f2) = true)
    (a3 : PySem.W.nsIn K mainGlobals "_law_feed" = some (some (.ref f3))) (l3 : K.lookup f3 = some ⟨oc3, od3, .func (PySem.W.fnOf "_law_feed" "_law_feed" (defArgs s_law_feed) (defBody s_law_feed) (defScope s_law_feed) .none kV3 dc3 pm3 an3 cd3 ct3), sl3⟩) (c3 : PySem.W.codeIn K cd3 "_law_feed" = true) (k3 : PySem.W.keepIn K (.ref f3) = true)
    (a4 : PySem.W.nsIn K mainGlobals "_law_draw" = some (some (.ref f4))) (l4 : K.lookup f4 = some ⟨oc4, od4, .func (PySem.W.fnOf "_law_draw" "_law_draw" (defArgs s_law_draw) (defBody s_law_draw) (defScope s_law_draw) .none kV4 dc4 pm4 an4 cd4 ct4), sl4⟩) (c4 : PySem.W.codeIn K cd4 "_law_draw" = true) (k4 : PySem.W.keepIn K (.ref f4) = true)
    (a5 : PySem.W.nsIn K mainGlobals "_law_name" = some (some (.ref f5))) (l5 : K.lookup f5 = some ⟨oc5, od5, .func (PySem.W.fnOf "_law_name" "_law_name" (defArgs s_law_name) (defBody s_law_name) (defScope s_law_name) .none kV5 dc5 pm5 an5 cd5 ct5), sl5⟩) (c5 : PySem.W.codeIn K cd5 "_law_name" = true) (k5 : PySem.W.keepIn K (.ref f5) = true)
    (a6 : PySem.W.nsIn K mainGlobals "_law_bend" = some (some (.ref f6))) (l6 : K.lookup f6 = some ⟨oc6, od6, .func (PySem.W.fnOf "_law_bend" "_law_bend" (defArgs s_law_bend) (defBody s_law_bend) (defScope s_law_bend) .none kV6 dc6 pm6 an6 cd6 ct6), sl6⟩) (c6 : PySem.W.codeIn K cd6 "_law_bend" = true) (k6 : PySem.W.keepIn K (.ref f6) = true)
    (a7 : PySem.W.nsIn K mainGlobals "_law_odd" = some (some (.ref f7))) (l7 : K.lookup f7 = some ⟨oc7, od7, .func (PySem.W.fnOf "_law_odd" "_law_odd" (defArgs s_law_odd) (defBody s_law_odd) (defScope s_law_odd) .none kV7 dc7 pm7 an7 cd7 ct7), sl7⟩) (c7 : PySem.W.codeIn K cd7 "_law_odd" = true) (k7 : PySem.W.keepIn K (.ref f7) = true)
    (a8 : PySem.W.nsIn K mainGlobals "_law_same" = some (some (.ref f8))) (l8 : K.lookup f8 = some ⟨oc8, od8, .func (PySem.W.fnOf "_law_same" "_law_same" (defArgs s_law_same) (defBody s_law_same) (defScope s_law_same) .none kV8 dc8 pm8 an8 cd8 ct8), sl8⟩) (c8 : PySem.W.codeIn K cd8 "_law_same" = true) (k8 : PySem.W.keepIn K (.ref f8) = true)
    (a9 : PySem.W.nsIn K mainGlobals "_law_number" = some (some (.ref f9))) (l9 : K.lookup f9 = some ⟨oc9, od9, .func (PySem.W.fnOf "_law_number" "_law_number" (defArgs s_law_number) (defBody s_law_number) (defScope s_law_number) .none kV9 dc9 pm9 an9 cd9 ct9), sl9⟩) (c9 : PySem.W.codeIn K cd9 "_law_number" = true) (k9 : PySem.W.keepIn K (.ref f9) = true)
    (a10 : PySem.W.nsIn K mainGlobals "_law_great" = some (some (.ref f10))) (l10 : K.lookup f10 = some ⟨oc10, od10, .func (PySem.W.fnOf "_law_great" "_law_great" (defArgs s_law_great) (defBody s_law_great) (defScope s_law_great) .none kV10 dc10 pm10 an10 cd10 ct10), sl10⟩) (c10 : PySem.W.codeIn K cd10 "_law_great" = true) (k10 : PySem.W.keepIn K (.ref f10) = true)
    (a11 : PySem.W.nsIn K mainGlobals "_law_spoilt" = some (some (.ref f11))) (l11 : K.lookup f11 = some ⟨oc11, od11, .func (PySem.W.fnOf "_law_spoilt" "_law_spoilt" (defArgs s_law_spoilt) (defBody s_law_spoilt) (defScope s_law_spoilt) .none kV11 dc11 pm11 an11 cd11 ct11), sl11⟩) (c11 : PySem.W.codeIn K cd11 "_law_spoilt" = true) (k11 : PySem.W.keepIn K (.ref f11) = true)
    (a12 : PySem.W.nsIn K mainGlobals "_law_any_kind" = some (some (.ref f12))) (l12 : K.lookup f12 = some ⟨oc12, od12, .func (PySem.W.fnOf "_law_any_kind" "_law_any_kind" (defArgs s_law_any_kind) (defBody s_law_any_kind) (defScope s_law_any_kind) .none kV12 dc12 pm12 an12 cd12 ct12), sl12⟩) (c12 : PySem.W.codeIn K cd12 "_law_any_kind" = true) (k12 : PySem.W.keepIn K (.ref f12) = true)
    (a13 : PySem.W.nsIn K mainGlobals "_law_named" = some (some (.ref f13))) (l13 : K.lookup f13 = some ⟨oc13, od13, .func (PySem.W.fnOf "_law_named" "_law_named" (defArgs s_law_named) (defBody s_law_named) (defScope s_law_named) .none kV13 dc13 pm13 an13 cd13 ct13), sl13⟩) (c13 : PySem.W.codeIn K cd13 "_law_named" = true) (k13 : PySem.W.keepIn K (.ref f13) = true)
    (a14 : PySem.W.nsIn K mainGlobals "_law_kinded" = some (some (.ref f14))) (l14 : K.lookup f14 = some ⟨oc14, od14, .func (PySem.W.fnOf "_law_kinded" "_law_kinded" (defArgs s_law_kinded) (defBody s_law_kinded) (defScope s_law_kinded) .none kV14 dc14 pm14 an14 cd14 ct14), sl14⟩) (c14 : PySem.W.codeIn K cd14 "_law_kinded" = true) (k14 : PySem.W.keepIn K (.ref f14) = true)
    (a15 : PySem.W.nsIn K mainGlobals "_law_fixed" = some (some (.ref f15))) (l15 : K.lookup f15 = some ⟨oc15, od15, .func (PySem.W.fnOf "_law_fixed" "_law_fixed" (defArgs s_law_fixed) (defBody s_law_fixed) (defScope s_law_fixed) .none kV15 dc15 pm15 an15 cd15 ct15), sl15⟩) (c15 : PySem.W.codeIn K cd15 "_law_fixed" = true) (k15 : PySem.W.keepIn K (.ref f15) = true)
    (a16 : PySem.W.nsIn K mainGlobals "law" = some (some (.ref f16))) (l16 : K.lookup f16 = some ⟨oc16, od16, .func (PySem.W.fnOf "law" "law" (defArgs s_law) (defBody s_law) (defScope s_law) .none kV16 dc16 pm16 an16 cd16 ct16), sl16⟩) (c16 : PySem.W.codeIn K cd16 "law" = true) (k16 : PySem.W.keepIn K (.ref f16) = true)
    (e1 : cd1 = .ref cc1) (q1 : K.lookup cc1 = some ⟨.type "code", qd1, .fields qv1, qs1⟩) (r1 : qv1[11]? = some (.ref pp1)) (h1 : PySem.W.codeHdIn K cc1 pp1 = true) (n1 : K.lookup pp1 = none) (t1 : h.get? pp1 = some { cls := .none, data := .fields #[] })
    (e2 : cd2 = .ref cc2) (q2 : K.lookup cc2 = some ⟨.type "code", qd2, .fields qv2, qs2⟩) (r2 : qv2[11]? = some (.ref pp2)) (h2 : PySem.W.codeHdIn K cc2 pp2 = true) (n2 : K.lookup pp2 = none) (t2 : h.get? pp2 = some { cls := .none, data := .fields #[] })
    (z0 : PySem.W.nsIn K mainGlobals "abs" = some none)
    (z1 : PySem.W.nsIn K mainGlobals "all" = some none)
    (z2 : PySem.W.nsIn K mainGlobals "bool" = some none)
    (z3 : PySem.W.nsIn K mainGlobals "int" = some none)
    (z4 : PySem.W.nsIn K mainGlobals "isinstance" = some none)
    (z5 : PySem.W.nsIn K mainGlobals "len" = some none)
    (z6 : PySem.W.nsIn K mainGlobals "list" = some none)
    (z7 : PySem.W.nsIn K mainGlobals "range" = some none)
    (z8 : PySem.W.nsIn K mainGlobals "repr" = some none)
    (z9 : PySem.W.nsIn K mainGlobals "str" = some none)
    (z10 : PySem.W.nsIn K mainGlobals "tuple" = some none)
    (z11 : PySem.W.nsIn K mainGlobals "zip" = some none)
    (y0 : PySem.W.nsIn K mainGlobals "LETTERS" = some (some (.str c_LETTERS tk0)))
    (y1 : PySem.W.nsIn K mainGlobals "FIGURES" = some (some (.str c_FIGURES tk1)))
    (hm : ∀ ns : List Int, ns.length ≤ 63 → (∀ z ∈ ns, Builtin.Int.intBits z ≤ 1048576) → ∃ st, (run 40).law [.scr ns] [] = .ok (.dat (.bool true)) st) : LawG l w K (2 * 40) 63 "_law_script" mg fa h := by
  have hE : fa = f16 := Value.ref.inj (Option.some.inj (hfa.symm.trans (PySem.W.mg_of X G a16)))
  rw [hE]
  have F0 := fun_mk (st := s_is_number) l0 c0 k0
  have b0 := F0.binds (ps := ["thing"]) fun _ _ _ _ _ _ us hl => match us, hl with | [_], _ => rfl
  have F1 := fun_mk (st := s_is_name) l1 c1 k1
  have b1 := F1.binds (ps := ["thing"]) fun _ _ _ _ _ _ us hl => match us, hl with | [_], _ => rfl
  have F2 := fun_mk (st := s_is_kind) l2 c2 k2
  have b2 := F2.binds (ps := ["thing"]) fun _ _ _ _ _ _ us hl => match us, hl with | [_], _ => rfl
  have F3 := fun_mk (st := s_law_feed) l3 c3 k3
  have b3 := F3.binds (ps := ["_law_script"]) fun _ _ _ _ _ _ us hl => match us, hl with | [_], _ => rfl
  have F4 := fun_mk (st := s_law_draw) l4 c4 k4
  have b4 := F4.binds (ps := ["_law_feed_here", "_law_many"]) fun _ _ _ _ _ _ us hl => match us, hl with | [_, _], _ => rfl
  have F5 := fun_mk (st := s_law_name) l5 c5 k5
  have b5 := F5.binds (ps := ["_law_feed_here", "_law_found"]) fun _ _ _ _ _ _ us hl => match us, hl with | [_, _], _ => rfl
  have F6 := fun_mk (st := s_law_bend) l6 c6 k6
  have b6 := F6.binds (ps := ["_law_feed_here", "_law_thing", "_law_odd_here"]) fun _ _ _ _ _ _ us hl => match us, hl with | [_, _, _], _ => rfl
  have F7 := fun_mk (st := s_law_odd) l7 c7 k7
  have b7 := F7.binds (ps := []) fun _ _ _ _ _ _ us hl => match us, hl with | [], _ => rfl
  have F8 := fun_mk (st := s_law_same) l8 c8 k8
  have b8 := F8.binds (ps := ["_law_told", "_law_due"]) fun _ _ _ _ _ _ us hl => match us, hl with | [_, _], _ => rfl
  have F9 := fun_mk (st := s_law_number) l9 c9 k9
  have b9 := F9.binds (ps := ["_law_thing"]) fun _ _ _ _ _ _ us hl => match us, hl with | [_], _ => rfl
  have F10 := fun_mk (st := s_law_great) l10 c10 k10
  have b10 := F10.binds (ps := ["_law_feed_here"]) fun _ _ _ _ _ _ us hl => match us, hl with | [_], _ => rfl
  have F11 := fun_mk (st := s_law_spoilt) l11 c11 k11
  have b11 := F11.binds (ps := ["_law_feed_here", "_law_name_here"]) fun _ _ _ _ _ _ us hl => match us, hl with | [_, _], _ => rfl
  have F12 := fun_mk (st := s_law_any_kind) l12 c12 k12
  have b12 := F12.binds (ps := ["_law_feed_here"]) fun _ _ _ _ _ _ us hl => match us, hl with | [_], _ => rfl
  have F13 := fun_mk (st := s_law_named) l13 c13 k13
  have b13 := F13.binds (ps := ["_law_thing"]) fun _ _ _ _ _ _ us hl => match us, hl with | [_], _ => rfl
  have F14 := fun_mk (st := s_law_kinded) l14 c14 k14
  have b14 := F14.binds (ps := ["_law_thing"]) fun _ _ _ _ _ _ us hl => match us, hl with | [_], _ => rfl
  have F15 := fun_mk (st := s_law_fixed) l15 c15 k15
  have b15 := F15.binds (ps := []) fun _ _ _ _ _ _ us hl => match us, hl with | [], _ => rfl
  have F16 := fun_mk (st := s_law) l16 c16 k16
  have b16 := F16.binds (ps := ["_law_script"]) fun _ _ _ _ _ _ us hl => match us, hl with | [_], _ => rfl
  have T := Tx.mk (K := K) (mg := mg) (ad := AD.mk f0 _ f1 _ f2 _ f3 _ f4 _ f5 _ f6 _ f7 _ f8 _ f9 _ f10 _ f11 _ f12 _ f13 _ f14 _ f15 _ f16 _ cc1 pp1 cc2 pp2) (F0) (PySem.W.mg_of X G a0) (b0) (F1) (PySem.W.mg_of X G a1) (b1) (F2) (PySem.W.mg_of X G a2) (b2) (F3) (PySem.W.mg_of X G a3) (b3) (F4) (PySem.W.mg_of X G a4) (b4) (F5) (PySem.W.mg_of X G a5) (b5) (F6) (PySem.W.mg_of X G a6) (b6) (F7) (PySem.W.mg_of X G a7) (b7) (F8) (PySem.W.mg_of X G a8) (b8) (F9) (PySem.W.mg_of X G a9) (b9) (F10) (PySem.W.mg_of X G a10) (b10) (F11) (PySem.W.mg_of X G a11) (b11) (F12) (PySem.W.mg_of X G a12) (b12) (F13) (PySem.W.mg_of X G a13) (b13) (F14) (PySem.W.mg_of X G a14) (b14) (F15) (PySem.W.mg_of X G a15) (b15) (F16) (PySem.W.mg_of X G a16) (b16) (PySem.W.mg_none_of X G z0) (PySem.W.mg_none_of X G z1) (PySem.W.mg_none_of X G z2) (PySem.W.mg_none_of X G z3) (PySem.W.mg_none_of X G z4) (PySem.W.mg_none_of X G z5) (PySem.W.mg_none_of X G z6) (PySem.W.mg_none_of X G z7) (PySem.W.mg_none_of X G z8) (PySem.W.mg_none_of X G z9) (PySem.W.mg_none_of X G z10) (PySem.W.mg_none_of X G z11) ⟨_, PySem.W.mg_of X G y0⟩ ⟨_, PySem.W.mg_of X G y1⟩ e1 e2
  exact ⟨_, [(cc1, pp1), (cc2, pp2)], (run 40).law, List.forall_mem_cons.mpr ⟨t1, List.forall_mem_cons.mpr ⟨t2, fun p hp => (nomatch hp)⟩⟩, List.forall_mem_cons.mpr ⟨n1, List.forall_mem_cons.mpr ⟨n2, fun p hp => (nomatch hp)⟩⟩, List.forall_mem_cons.mpr ⟨PySem.W.codeHd_of_K X h1, List.forall_mem_cons.mpr ⟨PySem.W.codeHd_of_K X h2, fun p hp => (nomatch hp)⟩⟩, fun s u => .of_eq rfl, hm, fun base _ _ TB => (okAll (P := l.prog) (w := w) (base := base) (tb := [pp1, pp2]) T (Tabs.mk trivial (TB (cc1, pp1) (List.mem_cons_self ..)) (List.mem_cons_self ..) (TB (cc2, pp2) (List.mem_cons_of_mem _ (List.mem_cons_self ..))) (List.mem_cons_of_mem _ (List.mem_cons_self ..))) 40).law⟩
end K01

set_option Elab.async false
set_option linter.all false
set_option maxRecDepth 100000
set_option maxHeartbeats 2000000
/-! Md0: mirrors run symbolically: what is wanted of an outcome. -/
namespace Md
open PySem Pd L2

/-- x comes out, and Q of it -/
def WR {α : Type} (x : R α) (Q : α → Sto → Prop) : Prop := ∃ a st, x = .ok a st ∧ Q a st
section
variable {α β : Type} {Q : α → Sto → Prop} {a : α} {st : Sto}
theorem wr_ok : WR (.ok a st) Q ↔ Q a st := ⟨fun ⟨_, _, e, q⟩ => by cases e; exact q, fun q => ⟨_, _, rfl, q⟩⟩
theorem wr_bad : WR (.bad : R α) Q ↔ False := ⟨(fun ⟨_, _, e, _⟩ => (by cases e)), False.elim⟩
theorem wr_exc {c fs} : WR (.exc c fs st : R α) Q ↔ False := ⟨(fun ⟨_, _, e, _⟩ => (by cases e)), False.elim⟩
theorem wr_bind {x : R β} {f : β → Sto → R α} : WR (x.bind f) Q ↔ WR x fun b s => WR (f b s) Q := by
  cases x with
  | ok b s => rw [wr_ok]; exact Iff.rfl
  | exc c fs s => rw [wr_exc]; exact wr_exc
  | bad => rw [wr_bad]; exact wr_bad
theorem wr_opt {o : Option α} : WR (R.opt o st) Q ↔ ∃ b, o = some b ∧ Q b st := by
  cases o with
  | none => simp only [R.opt, wr_bad]; simp
  | some b => simp only [R.opt, wr_ok]; simp
theorem wr_ite {c : Prop} [Decidable c] {x y : R α} : WR (if c then x else y) Q ↔ if c then WR x Q else WR y Q := by
  by_cases h : c <;> simp [h]
theorem WR.mono {x : R α} {Q' : α → Sto → Prop} (h : WR x Q) (k : ∀ a s, Q a s → Q' a s) : WR x Q' := let ⟨b, s, e, q⟩ := h; ⟨b, s, e, k b s q⟩
end
/-- a statement comes to an end that is none of a fault, and Q of it -/
def WQ (r : RS) (Q : RS → Prop) : Prop := match r with
  | .bad => False
  | .exc .. => False
  | r => Q r
def seqK (n : MS) (Q : RS → Prop) (r : RS) : Prop := match r with
  | .next e s => WQ (n e s) Q
  | r => Q r
section
variable {Q : RS → Prop} {e : Pd.Env} {s : Sto}
theorem wq_next : WQ (.next e s) Q = Q (.next e s) := rfl
theorem wq_ret {d : D} : WQ (.ret d s) Q = Q (.ret d s) := rfl
theorem wq_retN {ds} : WQ (.retN ds s) Q = Q (.retN ds s) := rfl
theorem wq_brk : WQ (.brk e s) Q = Q (.brk e s) := rfl
theorem wq_cnt : WQ (.cnt e s) Q = Q (.cnt e s) := rfl
theorem wq_bad : WQ .bad Q = False := rfl
theorem wq_of {α : Type} {x : R α} {f : α → Sto → RS} : WQ (RS.of x f) Q ↔ WR x fun a st => WQ (f a st) Q := by
  cases x with
  | ok b s => rw [wr_ok]; exact Iff.rfl
  | exc c fs s => rw [wr_exc]; exact Iff.rfl
  | bad => rw [wr_bad]; exact Iff.rfl
theorem wq_seq {m n : MS} : WQ (mSeq m n e s) Q ↔ WQ (m e s) (seqK n Q) := by
  unfold mSeq
  cases h : m e s <;> exact Iff.rfl
theorem seq_next {n : MS} : seqK n Q (.next e s) = WQ (n e s) Q := rfl
theorem seq_ret {n : MS} {d : D} : seqK n Q (.ret d s) = Q (.ret d s) := rfl
theorem seq_retN {n : MS} {ds} : seqK n Q (.retN ds s) = Q (.retN ds s) := rfl
theorem wq_ite {c : Prop} [Decidable c] {x y : RS} : WQ (if c then x else y) Q ↔ if c then WQ x Q else WQ y Q := by
  by_cases h : c <;> simp [h]
theorem WQ.mono {r : RS} {Q' : RS → Prop} (h : WQ r Q) (k : ∀ r, Q r → Q' r) : WQ r Q' := by
  cases r <;> first | exact h | exact k _ h
end
/-- what a def's mirror tells -/
theorem wr_body {n : Nat} {m : MS} {ds : List D} {st : Sto} {Q : FR → Sto → Prop} (h : WQ (m (ds.map some ++ List.replicate (n - ds.length) none) st) fun r => match r with
    | .ret (.dat d) s => Q (.dat d) (s.take st.length)
    | .ret (.ref k) s => st.length ≤ k ∧ ∃ es, s[k]? = some (.lst es) ∧ Q (.new es) (s.take st.length)
    | .retN es s => Q (.new es) (s.take st.length)
    | .next _ s => Q (.dat .none) (s.take st.length)
    | _ => False) : WR (bodyM n m ds st) Q := by
  unfold bodyM
  cases e : m (ds.map some ++ List.replicate (n - ds.length) none) st with
  | bad => rw [e] at h; exact h.elim
  | exc c fs s => rw [e] at h; exact h.elim
  | next e' s => rw [e] at h; exact wr_ok.mpr h
  | brk e' s => rw [e] at h; exact h.elim
  | cnt e' s => rw [e] at h; exact h.elim
  | retN es s => rw [e] at h; exact wr_ok.mpr h
  | ret d s =>
    rw [e] at h
    cases d with
    | dat d => exact wr_ok.mpr h
    | scr ns => exact h.elim
    | ref k =>
      obtain ⟨h1, es, h2, h3⟩ := h
      simp only [h1, if_true, h2]
      exact wr_ok.mpr h3
end Md

set_option Elab.async false
set_option linter.all false
set_option maxRecDepth 100000
set_option maxHeartbeats 2000000
/-! Md1: the draws of a law's script. -/
namespace Md
open PySem Pd L2

/-- the text of the laws' draw -/
def endS : MS :=
  (mSeq (mSet 3 (mBin ixD (mVar 0) (mC (.int 3))))
  (mSeq (mSet 4 (mBin modD (mBin addD (mBin addD (mBin modD (mVar 2) (mC (.int 2147483629))) (mBin mulD (mBin mulD (mC (.int 69621)) (mVar 3)) (mVar 3))) (mBin mulD (mC (.int 7)) (mVar 3))) (mC (.int 2147483629))))
  (mSeq (mSet 4 (mBin modD (mBin addD (mBin mulD (mVar 4) (mVar 4)) (mBin mulD (mC (.int 48271)) (mVar 3))) (mC (.int 2147483647))))
  (mSeq (mSet 4 (mBin modD (mBin addD (mBin mulD (mVar 4) (mVar 4)) (mBin mulD (mC (.int 16807)) (mVar 3))) (mC (.int 2147483587))))
  (mRet (mBin modD (mBin fdivD (mBin modD (mBin addD (mBin mulD (mVar 4) (mVar 4)) (mVar 3)) (mC (.int 2147483629))) (mC (.int 131))) (mVar 1)))))))
def tailS : MS :=
  (mSeq (mAugI (fun i j => i + j) (mVar 0) (mC (.int 1)) (mC (.int 1)))
  (mSeq (mIfS (mAnd (mTest (mBin geD (mVar 2) (mBin powD (mC (.int 10)) (mC (.int 18))))) (mTest (mBin leD (mBin ixD (mVar 0) (mC (.int 1))) (mBlt lenD (mCons (mBin ixD (mVar 0) (mC (.int 0))) mNil))))) (mSeq (mPut (mBin fdivD (mVar 2) (mVar 1)) (mVar 0) (mC (.int 2)))
  (mRet (mBin modD (mVar 2) (mVar 1)))) mSkip) endS))
def cellE : ME := (mIf (mTest (mBin eqD (mBin ixD (mVar 0) (mC (.int 0))) (mNew (mLst mNil)))) (mC (.int 7)) (mBin ixD (mBin ixD (mVar 0) (mC (.int 0))) (mBin modD (mBin ixD (mVar 0) (mC (.int 1))) (mBlt lenD (mCons (mBin ixD (mVar 0) (mC (.int 0))) mNil)))))
def drawS : MS :=
  (mSeq (mAugI (fun i j => i + j) (mVar 0) (mC (.int 3)) (mC (.int 1)))
  (mSeq (mIfS (mTest (mBin gtD (mBin ixD (mVar 0) (mC (.int 2))) (mC (.int 0)))) (mSeq (mSet 5 (mBin modD (mBin ixD (mVar 0) (mC (.int 2))) (mVar 1)))
  (mSeq (mPut (mBin fdivD (mBin ixD (mVar 0) (mC (.int 2))) (mVar 1)) (mVar 0) (mC (.int 2)))
  (mRet (mVar 5)))) mSkip)
  (mSeq (mSet 2 cellE) tailS)))

/-- the feed as it lies in the store -/
def feedO (cells : List Int) (p r c : Int) : O := .lst [.list (cells.map .int), .int p, .int r, .int c]
/-- b more draws may be taken -/
def Feed (b : Nat) (o : O) : Prop := ∃ cells p r c, o = feedO cells p r c ∧ 0 ≤ p ∧ 0 ≤ r ∧ 0 ≤ c ∧ c + b ≤ 2 ^ 64

theorem log2_lt {i : Int} {k : Nat} (hk : 0 < k) (h0 : 0 ≤ i) (h : i < 2 ^ k) : i.natAbs.log2 < k := by
  by_cases hz : i.natAbs = 0
  · rw [hz]; simpa using hk
  · rw [Nat.log2_lt hz]
    have : (i.natAbs : Int) < ((2 ^ k : Nat) : Int) := by
      rw [Int.natAbs_of_nonneg h0]
      push_cast
      exact h
    exact_mod_cast this
theorem mulW_ok {i j : Int} (h1 : 0 ≤ i) (h2 : i < 2 ^ 200) (h3 : 0 ≤ j) (h4 : j < 2 ^ 200) : CMulW i j := by
  have a := log2_lt (k := 200) (by omega) h1 h2
  have b := log2_lt (k := 200) (by omega) h3 h4
  show _ + _ < 1000000
  omega
theorem canLay_ints : ∀ cells : List Int, PyData.canLayAll0 (cells.map PyData.int) = true
  | [] => by simp [PyData.canLayAll0]
  | x :: xs => by simp [PyData.canLayAll0, PyData.canLay0, canLay_ints xs]
theorem depth_ints : ∀ cells : List Int, PyData.depthAll (cells.map PyData.int) = 0
  | [] => by simp [PyData.depthAll]
  | x :: xs => by simp [PyData.depthAll, PyData.depth, depth_ints xs]
theorem seen_ints (cells : List Int) : SeqAt.shaped (.list (cells.map PyData.int)) = true := by
  simp [SeqAt.shaped, PyData.canLay0, canLay_ints, PyData.depth, depth_ints]
theorem ex_and_eq {α : Type} {c : Prop} {x : α} {P : α → Prop} : (∃ b, (c ∧ x = b) ∧ P b) ↔ c ∧ P x := ⟨fun ⟨_, ⟨h, rfl⟩, q⟩ => ⟨h, q⟩, fun ⟨h, q⟩ => ⟨_, ⟨h, rfl⟩, q⟩⟩
theorem atI_lt {α : Type} {xs : List α} {i : Int} (h0 : 0 ≤ i) (h : i < xs.length) : ∃ x ∈ xs, atI xs i = some x := by
  refine ⟨xs[i.toNat]'(by omega), List.getElem_mem _, ?_⟩
  unfold atI ixN
  rw [if_pos h0, if_pos h]
  exact List.getElem?_eq_getElem _
theorem ev_nil {l : List Int} : (PyData.list (l.map PyData.int)).eqv (PyData.list []) = l.isEmpty := by
  cases l with
  | nil => rfl
  | cons x xs => rfl
section
variable {b : Nat} {rest : Sto} {many : Int} {cells : List Int} {p r c : Int}
theorem cell_ok {e2 e3 e4 e5 : Option D} {m : D} (hp : 0 ≤ p) : WR (cellE [some (.ref 0), some m, e2, e3, e4, e5] (feedO cells p r c :: rest)) fun d st => ∃ y : Int, d = .dat (.int y) ∧ st = feedO cells p r c :: rest := by
  have s0 : SeqAt.shaped (PyData.list []) = true := by decide
  cases cells with
  | nil =>
    have s1 : (PyData.list []).eqv (PyData.list []) = true := rfl
    simp [cellE, wr_opt, wr_ok, wr_bind, wr_bad, wr_ite, mVar, mC, feedO, mTest, mBin, val, ixD, atI, ixN, modD, intD, ex_and_eq, mIf, eqD, mNew, mLst, mNil, dats, s0, s1]
  | cons x xs =>
    have s1 := seen_ints (x :: xs)
    simp only [List.map_cons] at s1
    have s2 : (PyData.list (PyData.int x :: xs.map PyData.int)).eqv (PyData.list []) = false := rfl
    have hl : (0 : Int) < (xs.length : Int) + 1 := by omega
    have h1 : 0 ≤ p % ((xs.length : Int) + 1) := Int.emod_nonneg _ (by omega)
    have h2 : p % ((xs.length : Int) + 1) < (xs.length : Int) + 1 := Int.emod_lt_of_pos _ hl
    obtain ⟨z, hz, ez⟩ := atI_lt (xs := PyData.int x :: xs.map PyData.int) h1 (by simpa using h2)
    have hz' : ∃ y : Int, z = .int y := by
      rcases List.mem_cons.mp hz with q | q
      · exact ⟨x, q⟩
      · obtain ⟨y, _, q⟩ := List.mem_map.mp q
        exact ⟨y, q.symm⟩
    obtain ⟨y, rfl⟩ := hz'
    have i0 : ∀ l : List PyData, ∀ q, atI (l :: q :: []) (0 : Int) = some l := fun _ _ => rfl
    have f0 : ∀ a b c d : PyData, atI [a, b, c, d] (0 : Int) = some a := fun _ _ _ _ => rfl
    have f1 : ∀ a b c d : PyData, atI [a, b, c, d] (1 : Int) = some b := fun _ _ _ _ => rfl
    simp [cellE, wr_opt, wr_ok, wr_bind, wr_bad, wr_ite, mVar, mC, feedO, mTest, mBin, val, ixD, f0, f1, modD, intD, ex_and_eq, mIf, eqD, mNew, mLst, mNil, dats, s0, s1, s2, mBlt, mCons, vals, lenD, hl, ez]
theorem end_ok {y : Int} {e3 e4 e5 : Option D} (hc : 0 ≤ c) (hc1 : c ≤ 2 ^ 64) (hm : 0 < many) (hm2 : many < 2 ^ 200) :
    WQ (endS [some (.ref 0), some (.dat (.int many)), some (.dat (.int y)), e3, e4, e5] (feedO cells p r c :: rest)) fun x => ∃ v, x = .ret (.dat (.int v)) (feedO cells p r c :: rest) ∧ 0 ≤ v ∧ v < many := by
  have d131 : ∀ x, CDivW x 131 := fun x => ⟨by omega, by decide⟩
  have b31 : ∀ (x k : Int), 0 < k → k < 2 ^ 32 → 0 ≤ x % k ∧ x % k < 2 ^ 200 := fun x k h1 h2 => ⟨Int.emod_nonneg _ (by omega), by have := Int.emod_lt_of_pos x h1; omega⟩
  have f3 : ∀ a b c d : PyData, atI [a, b, c, d] (3 : Int) = some d := fun _ _ _ _ => rfl
  have m1 : CMulW 69621 c := mulW_ok (by omega) (by omega) hc (by omega)
  have m2 : CMulW (69621 * c) c := mulW_ok (by omega) (by omega) hc (by omega)
  have m3 : CMulW 7 c := mulW_ok (by omega) (by omega) hc (by omega)
  have m4 : CMulW 48271 c := mulW_ok (by omega) (by omega) hc (by omega)
  have m5 : CMulW 16807 c := mulW_ok (by omega) (by omega) hc (by omega)
  have mm : ∀ (x k : Int), 0 < k → k < 2 ^ 32 → CMulW (x % k) (x % k) := fun x k h1 h2 => mulW_ok (b31 x k h1 h2).1 (b31 x k h1 h2).2 (b31 x k h1 h2).1 (b31 x k h1 h2).2
  have q1 := fun x => mm x 2147483629 (by omega) (by omega)
  have q2 := fun x => mm x 2147483647 (by omega) (by omega)
  have q3 := fun x => mm x 2147483587 (by omega) (by omega)
  simp [endS, wq_seq, wq_of, wr_opt, wr_ok, wr_bind, wr_bad, wq_next, wq_ret, wq_bad, seq_next, seq_ret, wr_ite, wq_ite, mVar, mC, feedO, mBin, val, ixD, f3, mSet, modD, intD, fdivD, mulD, addD, mRet, ex_and_eq, hm, d131, m1, m2, m3, m4, m5, q1, q2, q3]
  exact ⟨Int.emod_nonneg _ (by omega), Int.emod_lt_of_pos _ hm⟩
theorem tail_ok {y : Int} {e3 e4 e5 : Option D} (hp : 0 ≤ p) (hc : 0 ≤ c) (hb : c + b ≤ 2 ^ 64) (hm : 0 < many) (hm2 : many < 2 ^ 200) :
    WQ (tailS [some (.ref 0), some (.dat (.int many)), some (.dat (.int y)), e3, e4, e5] (feedO cells p 0 c :: rest)) fun x => ∃ v o', x = .ret (.dat (.int v)) (o' :: rest) ∧ 0 ≤ v ∧ v < many ∧ Feed b o' := by
  have dm : ∀ x, CDivW x many := fun x => ⟨hm, by have := log2_lt (k := 200) (by omega) (Int.le_of_lt hm) hm2; omega⟩
  have pw : CPow 10 18 := ⟨by decide, by decide, by decide⟩
  have f0 : ∀ a b c d : PyData, atI [a, b, c, d] (0 : Int) = some a := fun _ _ _ _ => rfl
  have f1 : ∀ a b c d : PyData, atI [a, b, c, d] (1 : Int) = some b := fun _ _ _ _ => rfl
  have fin := end_ok (cells := cells) (p := p + 1) (r := 0) (c := c) (rest := rest) (y := y) (e3 := e3) (e4 := e4) (e5 := e5) hc (by omega) hm hm2
  have fin' := fin.mono (Q' := fun x => ∃ v o', x = .ret (.dat (.int v)) (o' :: rest) ∧ 0 ≤ v ∧ v < many ∧ Feed b o') fun x ⟨v, e, h1, h2⟩ => ⟨v, _, e, h1, h2, cells, p + 1, 0, c, rfl, by omega, by omega, hc, hb⟩
  simp only [feedO] at fin'
  simp only [tailS, wq_seq]
  by_cases h1 : (10 : Int) ^ 18 ≤ y
  · have h1' : (1000000000000000000 : Int) ≤ y := by simpa using h1
    by_cases h2 : p + 1 ≤ (cells.length : Int)
    · simp [wq_seq, wq_of, wr_opt, wr_ok, wr_bind, wr_bad, wq_next, wq_ret, wq_bad, seq_next, seq_ret, wr_ite, wq_ite, mAugI, mVar, mC, feedO, mIfS, mTest, mAnd, mBin, val, ixD, f0, f1, geD, leD, powD, intD, pw, mBlt, mCons, mNil, vals, lenD, mPut, ixN, fdivD, modD, mRet, ex_and_eq, hm, dm, h1', h2]
      exact ⟨Int.emod_nonneg _ (by omega), Int.emod_lt_of_pos _ hm, cells, p + 1, y / many, c, rfl, by omega, Int.ediv_nonneg (by omega) (by omega), hc, hb⟩
    · simp [wq_seq, wq_of, wr_opt, wr_ok, wr_bind, wr_bad, wq_next, wq_ret, wq_bad, seq_next, seq_ret, wr_ite, wq_ite, mAugI, mVar, mC, feedO, mIfS, mTest, mAnd, mBin, val, ixD, f0, f1, geD, leD, powD, intD, pw, mBlt, mCons, mNil, vals, lenD, mSkip, ex_and_eq, h1', h2]
      simpa using fin'
  · have h1' : ¬ (1000000000000000000 : Int) ≤ y := by simpa using h1
    simp [wq_seq, wq_of, wr_opt, wr_ok, wr_bind, wr_bad, wq_next, wq_ret, wq_bad, seq_next, seq_ret, wr_ite, wq_ite, mAugI, mVar, mC, feedO, mIfS, mTest, mAnd, mBin, val, ixD, f0, f1, geD, leD, powD, intD, pw, mSkip, ex_and_eq, h1']
    simpa using fin'
end
theorem draw_ok {b : Nat} {o : O} {rest : Sto} {many : Int} (hF : Feed (b + 1) o) (hm : 0 < many) (hm2 : many < 2 ^ 200) :
    WR (bodyM 6 drawS [.ref 0, .dat (.int many)] (o :: rest)) fun r st => ∃ v o', r = .dat (.int v) ∧ 0 ≤ v ∧ v < many ∧ Feed b o' ∧ st = o' :: rest := by
  obtain ⟨cells, p, r, c, rfl, hp, hr, hc, hb⟩ := hF
  have dm : ∀ x, CDivW x many := fun x => ⟨hm, by have := log2_lt (k := 200) (by omega) (Int.le_of_lt hm) hm2; omega⟩
  refine wr_body ?_
  simp only [List.map, List.length, List.replicate, List.cons_append, List.nil_append]
  by_cases hr0 : 0 < r
  · simp [drawS, wq_seq, wq_of, wr_opt, wr_ok, wr_bind, wr_bad, wq_next, wq_ret, wq_bad, seq_next, seq_ret, wr_ite, wq_ite, mAugI, mVar, mC, feedO, mIfS, mTest, mBin, val, ixD, atI, ixN, gtD, mSet, modD, intD, fdivD, mPut, mRet, mSkip, ex_and_eq, hr0, hm, dm]
    refine ⟨Int.emod_nonneg _ (by omega), Int.emod_lt_of_pos _ hm, cells, p, r / many, c + 1, rfl, hp, Int.ediv_nonneg hr (by omega), by omega, by omega⟩
  · have e0 : r = 0 := by omega
    subst e0
    obtain ⟨d, s1, ec, y, rfl, rfl⟩ := cell_ok (cells := cells) (r := 0) (c := c + 1) (rest := rest) (e2 := none) (e3 := none) (e4 := none) (e5 := none) (m := .dat (.int many)) hp
    have ht := tail_ok (b := b) (cells := cells) (rest := rest) (y := y) (e3 := none) (e4 := none) (e5 := none) (c := c + 1) hp (by omega) (by omega) hm hm2
    simp only [feedO] at ec ht
    simp [drawS, wq_seq, wq_of, wr_opt, wr_ok, wr_bind, wr_bad, wq_next, wq_ret, wq_bad, seq_next, seq_ret, wr_ite, wq_ite, mAugI, mVar, mC, feedO, mIfS, mTest, mBin, val, ixD, atI, ixN, gtD, mSet, mSkip, ex_and_eq, ec]
    refine ht.mono fun x hx => ?_
    obtain ⟨v, o', rfl, h1, h2, h3⟩ := hx
    exact ⟨v, rfl, h1, h2, o', h3, by simp⟩
end Md

set_option Elab.async false
set_option linter.all false
set_option maxRecDepth 100000
set_option maxHeartbeats 2000000
/-! Md2: data that repr shows, and how long its text is. -/
namespace Md
open PySem Pd L2

mutual
/-- whole numbers below B either way, texts of signs that are signs, no dicts -/
def tame (B : Nat) : PyData → Bool
  | .none | .bool _ => true
  | .int i => decide (i.natAbs < B)
  | .str x => PyData.strOk x
  | .list xs | .tuple xs => tameAll B xs
  | .dict _ => false
def tameAll (B : Nat) : List PyData → Bool
  | [] => true
  | x :: xs => tame B x && tameAll B xs
end
mutual
/-- no less than the length of what repr shows -/
def mass : PyData → Nat
  | .none | .bool _ => 8
  | .int _ => 251
  | .str x => 10 * x.cps.size + 8
  | .list xs | .tuple xs => massAll xs + 8
  | .dict _ => 0
def massAll : List PyData → Nat
  | [] => 0
  | x :: xs => mass x + 2 + massAll xs
end
mutual
theorem tame_lay {B : Nat} : ∀ d : PyData, tame B d = true → d.canLay0 = true
  | .none, _ => rfl
  | .bool _, _ => rfl
  | .int _, _ => rfl
  | .str x, h => h
  | .list xs, h => tameAll_lay xs h
  | .tuple xs, h => tameAll_lay xs h
theorem tameAll_lay {B : Nat} : ∀ xs : List PyData, tameAll B xs = true → PyData.canLayAll0 xs = true
  | [], _ => rfl
  | x :: xs, h => by
    simp only [tameAll, Bool.and_eq_true] at h
    simp only [PyData.canLayAll0, Bool.and_eq_true]
    exact ⟨tame_lay x h.1, tameAll_lay xs h.2⟩
end
theorem small_log {i : Int} (h : i.natAbs < 10 ^ 250) : i.natAbs.log2 < 1920 := by
  by_cases hz : i.natAbs = 0
  · rw [hz]; decide
  · rw [Nat.log2_lt hz]
    exact Nat.lt_of_lt_of_le h (by decide +kernel)
mutual
theorem tame_show {B : Nat} (hB : B ≤ 10 ^ 250) : ∀ d : PyData, tame B d = true → d.showable = true
  | .none, _ => rfl
  | .bool _, _ => rfl
  | .int i, h => by
    simp only [tame, decide_eq_true_eq] at h
    simp only [PyData.showable, decide_eq_true_eq]
    exact small_log (Nat.lt_of_lt_of_le h hB)
  | .str x, h => rfl
  | .list xs, h => tameAll_show hB xs h
  | .tuple xs, h => tameAll_show hB xs h
theorem tameAll_show {B : Nat} (hB : B ≤ 10 ^ 250) : ∀ xs : List PyData, tameAll B xs = true → PyData.showableAll xs = true
  | [], _ => rfl
  | x :: xs, h => by
    simp only [tameAll, Bool.and_eq_true] at h
    simp only [PyData.showableAll, Bool.and_eq_true]
    exact ⟨tame_show hB x h.1, tameAll_show hB xs h.2⟩
end
mutual
theorem tame_len {B : Nat} (hB : B ≤ 10 ^ 250) : ∀ d : PyData, tame B d = true → d.shown.length ≤ mass d
  | .none, _ => by decide
  | .bool b, _ => by cases b <;> decide
  | .int i, h => by
    simp only [tame, decide_eq_true_eq] at h
    have e := int_text_length_le10 (k := 250) (by decide) (Nat.lt_of_lt_of_le h hB)
    show (Str.ofString (toString i)).length ≤ 251
    rw [ofString_length]
    exact e
  | .str x, h => by
    have h1 : ∀ c ∈ x.cps.toList, c < 16 ^ 8 := fun c hc => by
      have h0 : x.cps.all (· < 0x110000) = true := h
      have q := (Array.all_eq_true_iff_forall_mem.mp h0) c (Array.mem_toList_iff.mp hc)
      have q' : c < 0x110000 := by simpa using q
      omega
    have e := StrLaws.reprText_len x h1
    have e2 : x.length = x.cps.size := rfl
    simp only [PyData.shown, mass]
    omega
  | .list xs, h => by
    have h1 := tameAll_len hB xs h
    have h2 := listText_len_le (PyData.shownAll xs)
    have h3 := PyData.shownAll_length xs
    simp only [PyData.shown, mass]
    omega
  | .tuple xs, h => by
    have h1 := tameAll_len hB xs h
    have h2 := tupleText_len_le (PyData.shownAll xs)
    have h3 := PyData.shownAll_length xs
    simp only [PyData.shown, mass]
    omega
theorem tameAll_len {B : Nat} (hB : B ≤ 10 ^ 250) : ∀ xs : List PyData, tameAll B xs = true → ((PyData.shownAll xs).map (·.length)).sum + 2 * xs.length ≤ massAll xs
  | [], _ => by simp [PyData.shownAll, massAll]
  | x :: xs, h => by
    simp only [tameAll, Bool.and_eq_true] at h
    have h1 := tame_len hB x h.1
    have h2 := tameAll_len hB xs h.2
    simp only [PyData.shownAll, List.map_cons, List.sum_cons, massAll, List.length_cons]
    omega
end
theorem tameAll_app {B : Nat} : ∀ xs ys : List PyData, tameAll B (xs ++ ys) = (tameAll B xs && tameAll B ys)
  | [], ys => by simp [tameAll]
  | x :: xs, ys => by simp [tameAll, tameAll_app xs ys, Bool.and_assoc]
theorem massAll_app : ∀ xs ys : List PyData, massAll (xs ++ ys) = massAll xs + massAll ys
  | [], ys => by simp [massAll]
  | x :: xs, ys => by simp only [List.cons_append, massAll, massAll_app xs ys]; omega
theorem depthAll_app : ∀ xs ys : List PyData, PyData.depthAll (xs ++ ys) = max (PyData.depthAll xs) (PyData.depthAll ys)
  | [], ys => by simp [PyData.depthAll]
  | x :: xs, ys => by simp only [List.cons_append, PyData.depthAll, depthAll_app xs ys]; omega
theorem tameAll_mem {B : Nat} {x : PyData} : ∀ {xs : List PyData}, tameAll B xs = true → x ∈ xs → tame B x = true ∧ mass x ≤ massAll xs ∧ x.depth ≤ PyData.depthAll xs
  | y :: ys, h, hx => by
    simp only [tameAll, Bool.and_eq_true] at h
    simp only [massAll, PyData.depthAll]
    rcases List.mem_cons.mp hx with rfl | hx
    · exact ⟨h.1, by omega, by omega⟩
    · obtain ⟨h1, h2, h3⟩ := tameAll_mem h.2 hx
      exact ⟨h1, by omega, by omega⟩
/-- a thing that is tame, of depth at most k, of mass at most n -/
structure Good (B k n : Nat) (d : PyData) : Prop where
  tame : Md.tame B d = true
  dep : d.depth ≤ k
  mass : Md.mass d ≤ n
structure Goods (B k n : Nat) (xs : List PyData) : Prop where
  tame : tameAll B xs = true
  dep : PyData.depthAll xs ≤ k
  mass : massAll xs ≤ n
theorem Goods.app {B k n m : Nat} {xs ys : List PyData} (h1 : Goods B k n xs) (h2 : Goods B k m ys) : Goods B k (n + m) (xs ++ ys) :=
  ⟨by rw [tameAll_app, h1.tame, h2.tame]; rfl, by rw [depthAll_app]; have := h1.dep; have := h2.dep; omega, by rw [massAll_app]; have := h1.mass; have := h2.mass; omega⟩
theorem Goods.mem {B k n : Nat} {xs : List PyData} {x : PyData} (h : Goods B k n xs) (hx : x ∈ xs) : Good B k n x :=
  let ⟨a, b, c⟩ := tameAll_mem h.tame hx
  ⟨a, Nat.le_trans c h.dep, Nat.le_trans b h.mass⟩
/-- repr of a list of good things comes out -/
theorem repr_ok {B k n : Nat} {xs : List PyData} (hB : B ≤ 10 ^ 250) (h : Goods B k n xs) (hk : k < 60) (hn : n + 8 ≤ sizeLine) : reprD [.list xs] = some (.str (PyData.list xs).shown) := by
  have t : tame B (.list xs) = true := h.tame
  have h1 := tame_lay _ t
  have h2 := tame_show hB _ t
  have h3 : (PyData.list xs).shown.length ≤ sizeLine := Nat.le_trans (tame_len hB _ t) (by show massAll xs + 8 ≤ _; have := h.mass; omega)
  have h4 : (PyData.list xs).depth ≤ 60 := by show PyData.depthAll xs + 1 ≤ 60; have := h.dep; omega
  simp [reprD, h1, h2, h3, h4]
end Md

set_option Elab.async false
set_option linter.all false
set_option maxRecDepth 100000
set_option maxHeartbeats 2000000
/-! Md3: the text that repr shows has signs alone. -/
namespace Md
open PySem Pd L2
def Sgn (x : Str) : Prop := ∀ c ∈ x.cps.toList, c < 0x110000
theorem char_sign (c : Char) : c.toNat < 0x110000 := by
  have v : c.toNat.isValidChar := c.valid
  simp only [Nat.isValidChar] at v
  omega
theorem sgn_of (s : String) : Sgn (Str.ofString s) := fun c hc => by
  rw [Str.ofString_eq_toList] at hc
  simp only [List.mem_map] at hc
  obtain ⟨ch, _, rfl⟩ := hc
  exact char_sign ch
theorem sgn_app {x y : Str} (h1 : Sgn x) (h2 : Sgn y) : Sgn (x ++ y) := fun c hc => by
  have e : (x ++ y).cps.toList = x.cps.toList ++ y.cps.toList := by
    show (x.cps ++ y.cps).toList = _
    simp
  rw [e] at hc
  rcases List.mem_append.mp hc with q | q
  · exact h1 c q
  · exact h2 c q
theorem sgn_char {q c : Nat} (hq : q < 0x110000) (hc : c < 0x110000) : ∀ d ∈ Builtin.Str.reprChar q c, d < 0x110000 := by
  have hx : ∀ w : Nat, ∀ d ∈ List.replicate (w - ((Nat.toDigits 16 c).map Char.toNat).length) 48 ++ (Nat.toDigits 16 c).map Char.toNat, d < 0x110000 := by
    intro w d hd
    rcases List.mem_append.mp hd with h | h
    · have := List.eq_of_mem_replicate h
      omega
    · obtain ⟨ch, _, rfl⟩ := List.mem_map.mp h
      exact char_sign ch
  intro d hd
  unfold Builtin.Str.reprChar at hd
  dsimp only at hd
  have two : ∀ {a b : Nat} {l : List Nat}, a < 0x110000 → b < 0x110000 → (∀ d ∈ l, d < 0x110000) → d ∈ [a, b] ++ l → d < 0x110000 := by
    intro a b l ha hb hl h
    simp only [List.cons_append, List.nil_append, List.mem_cons] at h
    rcases h with rfl | rfl | h
    · exact ha
    · exact hb
    · exact hl d h
  split at hd
  · simp only [List.mem_cons, List.not_mem_nil, or_false] at hd
    omega
  split at hd
  · simp only [List.mem_cons, List.not_mem_nil, or_false] at hd
    omega
  split at hd
  · simp only [List.mem_cons, List.not_mem_nil, or_false] at hd
    omega
  split at hd
  · simp only [List.mem_cons, List.not_mem_nil, or_false] at hd
    omega
  split at hd
  · simp only [List.mem_singleton] at hd
    omega
  split at hd
  · exact two (by omega) (by omega) (hx 2) hd
  split at hd
  · exact two (by omega) (by omega) (hx 4) hd
  · exact two (by omega) (by omega) (hx 8) hd
theorem sgn_fold {q : Nat} (hq : q < 0x110000) : ∀ (l : List Nat) (acc : Array Nat), (∀ c ∈ l, c < 0x110000) → (∀ c ∈ acc.toList, c < 0x110000) → ∀ c ∈ (l.foldl (fun out c => out ++ (Builtin.Str.reprChar q c).toArray) acc).toList, c < 0x110000
  | [], acc, _, h => h
  | x :: r, acc, hl, h => by
    rw [List.foldl_cons]
    refine sgn_fold hq r _ (fun c hc => hl c (List.mem_cons_of_mem _ hc)) fun c hc => ?_
    rw [Array.toList_append] at hc
    rcases List.mem_append.mp hc with k | k
    · exact h c k
    · exact sgn_char hq (hl x (List.mem_cons_self ..)) c k
theorem sgn_repr {x : Str} (h : Sgn x) : Sgn (reprText x) := by
  have q0 : reprQuote x < 0x110000 := by
    unfold reprQuote
    split <;> omega
  intro c hc
  unfold reprText at hc
  have hc' : c ∈ ((x.cps.foldl (fun out c => out ++ (Builtin.Str.reprChar (reprQuote x) c).toArray) #[reprQuote x]).push (reprQuote x)).toList := hc
  rw [Array.toList_push, ← Array.foldl_toList] at hc'
  rcases List.mem_append.mp hc' with k | k
  · refine sgn_fold q0 _ _ h (fun d hd => ?_) c k
    have : d = reprQuote x := by simpa using hd
    omega
  · have : c = reprQuote x := by simpa using k
    omega
theorem sgn_from : ∀ (ts : List Str) (k : Nat) (acc : Str), Sgn acc → (∀ t ∈ ts, Sgn t) → Sgn (textFrom k acc ts)
  | [], _, _, h, _ => h
  | t :: ts, k, acc, h, ht => sgn_from ts (k + 1) _ (sgn_app (sgn_app h (sgn_of _)) (ht t (List.mem_cons_self ..))) fun x hx => ht x (List.mem_cons_of_mem _ hx)
theorem sgn_join : ∀ ts : List Str, (∀ t ∈ ts, Sgn t) → Sgn (Str.join ", " ts)
  | [], _ => fun c hc => by
    have : c ∈ ([] : List Nat) := hc
    cases this
  | [x], h => h x (List.mem_cons_self ..)
  | x :: y :: r, h => sgn_app (sgn_app (h x (List.mem_cons_self ..)) (sgn_of _)) (sgn_join (y :: r) fun z hz => h z (List.mem_cons_of_mem _ hz))
mutual
theorem sgn_shown {B : Nat} : ∀ d : PyData, tame B d = true → Sgn d.shown
  | .none, _ => sgn_of _
  | .bool b, _ => by cases b <;> exact sgn_of _
  | .int i, _ => sgn_of _
  | .str x, h => sgn_repr fun c hc => by
    have h0 : x.cps.all (· < 0x110000) = true := h
    have q := (Array.all_eq_true_iff_forall_mem.mp h0) c (Array.mem_toList_iff.mp hc)
    simpa using q
  | .list xs, h => sgn_app (sgn_from _ _ _ (sgn_of _) (sgn_all xs h)) (sgn_of _)
  | .tuple xs, h => sgn_app (sgn_app (sgn_of _) (sgn_join _ (sgn_all xs h))) (sgn_of _)
theorem sgn_all {B : Nat} : ∀ xs : List PyData, tameAll B xs = true → ∀ t ∈ PyData.shownAll xs, Sgn t
  | [], _, t, ht => by cases ht
  | x :: xs, h, t, ht => by
    simp only [tameAll, Bool.and_eq_true] at h
    simp only [PyData.shownAll, List.mem_cons] at ht
    rcases ht with rfl | ht
    · exact sgn_shown x h.1
    · exact sgn_all xs h.2 t ht
end
theorem sgn_ok {x : Str} (h : Sgn x) : PyData.strOk x = true := by
  show x.cps.all (· < 0x110000) = true
  rw [Array.all_eq_true_iff_forall_mem]
  intro c hc
  simpa using h c (Array.mem_toList_iff.mpr hc)
theorem sgn_shaped {x : Str} (h : Sgn x) : SeqAt.shaped (.str x) = true := by
  have e : (PyData.str x).canLay0 = true := sgn_ok h
  unfold SeqAt.shaped
  rw [e]
  rfl
end Md

set_option Elab.async false
set_option linter.all false
set_option maxRecDepth 100000
set_option maxHeartbeats 2000000
/-! Mk01: k01: the program's answers and the law's own, of any one thing. -/
namespace K01
open PySem Pd L2 Md

def isNum : PyData → Bool
  | .int _ => true
  | _ => false
def noDict : PyData → Bool
  | .dict _ => false
  | _ => true
theorem kb_int : (isiB "int" "NoneType" = some false) ∧ isiB "int" "bool" = some true ∧ isiB "int" "int" = some true ∧ isiB "int" "str" = some false ∧ isiB "int" "list" = some false ∧ isiB "int" "tuple" = some false := by decide +kernel
theorem kb_bool : (isiB "bool" "NoneType" = some false) ∧ isiB "bool" "bool" = some true ∧ isiB "bool" "int" = some false ∧ isiB "bool" "str" = some false ∧ isiB "bool" "list" = some false ∧ isiB "bool" "tuple" = some false := by decide +kernel
theorem kb_str : (isiB "str" "NoneType" = some false) ∧ isiB "str" "bool" = some false ∧ isiB "str" "int" = some false ∧ isiB "str" "str" = some true ∧ isiB "str" "list" = some false ∧ isiB "str" "tuple" = some false := by decide +kernel
theorem kb_tuple : (isiB "tuple" "NoneType" = some false) ∧ isiB "tuple" "bool" = some false ∧ isiB "tuple" "int" = some false ∧ isiB "tuple" "str" = some false ∧ isiB "tuple" "list" = some false ∧ isiB "tuple" "tuple" = some true := by decide +kernel
section
variable {C : CT} {d : PyData} {st : Sto}
theorem number_ok (h : noDict d = true) : WR (bodyM 1 (m_is_number C) [.dat d] st) fun r s => r = .dat (.bool (isNum d)) ∧ s = st := by
  obtain ⟨a1, a2, a3, a4, a5, a6⟩ := kb_int
  obtain ⟨b1, b2, b3, b4, b5, b6⟩ := kb_bool
  refine wr_body ?_
  cases d <;> first | (simp [noDict] at h; done) | simp [m_is_number, mRet, wq_of, wq_ret, mAndV, mNotV, mIsi, mVar, wr_bind, wr_opt, wr_ok, wr_bad, val, tyName, truO, tru, isNum, a1, a2, a3, a4, a5, a6, b1, b2, b3, b4, b5, b6]
theorem lnumber_ok (h : noDict d = true) : WR (bodyM 1 (m_law_number C) [.dat d] st) fun r s => r = .dat (.bool (isNum d)) ∧ s = st := by
  obtain ⟨a1, a2, a3, a4, a5, a6⟩ := kb_int
  refine wr_body ?_
  cases d with
  | dict l => simp [noDict] at h
  | bool k => cases k <;> simp [m_law_number, mRet, wq_of, wq_ret, mAndV, mNotV, mIsi, mVar, mC, mBin, isntD, isB, isN, wr_bind, wr_opt, wr_ok, wr_bad, val, tyName, truO, tru, isNum, a1, a2, a3, a4, a5, a6]
  | _ => simp [m_law_number, mRet, wq_of, wq_ret, mAndV, mNotV, mIsi, mVar, mC, mBin, isntD, isB, isN, wr_bind, wr_opt, wr_ok, wr_bad, val, tyName, truO, tru, isNum, a1, a2, a3, a4, a5, a6]
end
theorem WR.eq {α : Type} {x : R α} {a : α} {st : Sto} (h : WR x fun r s => r = a ∧ s = st) : x = .ok a st := by
  obtain ⟨r, s, e, rfl, rfl⟩ := h
  exact e
/-- all(f(x) for x in ds), by elements that change nothing -/
theorem boolM_all {te : ME} {f : PyData → Bool} {i : Nat} {env : Pd.Env} {st : Sto} : ∀ {ds : List PyData}, (∀ d ∈ ds, te (env.set i (some (.dat d))) st = .ok (.dat (.bool (f d))) st) → boolM false (gSet i) mYes te env ds st = .ok (ds.all f) st
  | [], _ => rfl
  | d :: ds, h => by
    have e := h d (List.mem_cons_self ..)
    have r := boolM_all (ds := ds) fun x hx => h x (List.mem_cons_of_mem _ hx)
    simp only [boolM, gSet, mYes, R.bind, if_true, e, List.all_cons]
    cases f d with
    | true => simpa using r
    | false => simp
/-- [f(x) for x in ds], by elements that change nothing -/
theorem lcM_map {te : ME} {f : PyData → PyData} {g : PyData → Pd.Env → Option Pd.Env} {ev : PyData → Pd.Env} {env : Pd.Env} {st : Sto} : ∀ {ds acc : List PyData}, acc.length + ds.length < sizeLine → (∀ d ∈ ds, g d env = some (ev d)) → (∀ d ∈ ds, ∀ a, te (ev d) (st ++ [.lst a]) = .ok (.dat (f d)) (st ++ [.lst a])) →
    lcM g mYes te st.length env ds (st ++ [.lst acc]) = .ok () (st ++ [.lst (acc ++ ds.map f)])
  | [], acc, _, _, _ => by simp [lcM]
  | d :: ds, acc, hz, hg, h => by
    have e := h d (List.mem_cons_self ..) acc
    have r := lcM_map (ds := ds) (acc := acc ++ [f d]) (by simp at hz ⊢; omega) (fun x hx => hg x (List.mem_cons_of_mem _ hx)) fun x hx => h x (List.mem_cons_of_mem _ hx)
    have hl : acc.length < sizeLine := by simp at hz; omega
    have e1 : (st ++ [O.lst acc])[st.length]? = some (.lst acc) := by simp
    have e2 : (st ++ [O.lst acc]).set st.length (.lst (acc ++ [f d])) = st ++ [O.lst (acc ++ [f d])] := by simp
    simp only [lcM, hg d (List.mem_cons_self ..), mYes, R.bind, if_true, e, e1, hl, e2, r]
    simp
theorem lc_map {mi : MN} {te : ME} {f : PyData → PyData} {g : PyData → Pd.Env → Option Pd.Env} {ev : PyData → Pd.Env} {vs : List Nat} {env : Pd.Env} {st : Sto} {ds : List PyData} (hm : mi env st = .ok ds st) (hz : ds.length < sizeLine) (hg : ∀ d ∈ ds, g d (wipeE env vs) = some (ev d))
    (h : ∀ d ∈ ds, ∀ a, te (ev d) (st ++ [.lst a]) = .ok (.dat (f d)) (st ++ [.lst a])) : mLc mi g mYes te vs env st = .ok (ds.map f) st := by
  have r := lcM_map (acc := []) (by simpa using hz) hg h
  simp only [mLc, hm, R.bind, r]
  simp
theorem eqvL {s : Str} : ∀ a : PyData, (PyData.str s).eqv a = (match a with | .str x => s == x | _ => false)
  | .str x => rfl
  | .none => rfl
  | .bool _ => rfl
  | .int _ => rfl
  | .list _ => rfl
  | .tuple _ => rfl
  | .dict _ => rfl
theorem eqvR {s : Str} : ∀ a : PyData, a.eqv (.str s) = (match a with | .str x => x == s | _ => false)
  | .str x => rfl
  | .none => rfl
  | .bool _ => rfl
  | .int _ => rfl
  | .list _ => rfl
  | .tuple _ => rfl
  | .dict _ => rfl
theorem number_eq {C : CT} {d : PyData} {st : Sto} (h : noDict d = true) : bodyM 1 (m_is_number C) [.dat d] st = .ok (.dat (.bool (isNum d))) st := WR.eq (number_ok h)
theorem lnumber_eq {C : CT} {d : PyData} {st : Sto} (h : noDict d = true) : bodyM 1 (m_law_number C) [.dat d] st = .ok (.dat (.bool (isNum d))) st := WR.eq (lnumber_ok h)
end K01

set_option Elab.async false
set_option linter.all false
set_option maxRecDepth 100000
set_option maxHeartbeats 2000000
/-! Mk01b: is_kind and the law's own look. -/
namespace K01
open PySem Pd L2 Md

/-- a mirror run by its rules -/
def isS (s : Str) : PyData → Bool
  | .str x => x == s
  | _ => false
theorem eqv_l {s : Str} (a : PyData) : (PyData.str s).eqv a = isS s a := by
  rw [eqvL]
  cases a <;> simp only [isS]
  exact BEq.comm
theorem eqv_r {s : Str} (a : PyData) : a.eqv (.str s) = isS s a := by
  rw [eqvR]
  cases a <;> simp only [isS]
theorem eqv_int (i j : Int) : (PyData.int i).eqv (.int j) = decide (i = j) := by
  show (i == j) = _
  rw [Bool.eq_iff_iff]; simp
def kindB : PyData → Bool
  | .tuple [a, .int n] => (isS "one" a || isS "some" a) && decide (1 ≤ n)
  | .tuple [a, .int m, .int n] => isS "number" a && decide (m ≤ n)
  | _ => false
/-- a thing of which the looks may be asked -/
def Fine (d : PyData) : Prop := SeqAt.shaped d = true ∧ match d with | .tuple xs => ∀ x ∈ xs, SeqAt.shaped x = true | .str x => x.length ≤ sizeLine | _ => True
theorem shaped_noDict {d : PyData} (h : SeqAt.shaped d = true) : noDict d = true := by
  cases d with
  | dict l => simp [SeqAt.shaped, PyData.canLay0] at h
  | _ => rfl
theorem sh_int (i : Int) : SeqAt.shaped (.int i) = true := by simp [SeqAt.shaped, PyData.canLay0, PyData.depth]
theorem sh_23 : SeqAt.shaped (.tuple [.int 2, .int 3]) = true := by decide
theorem sh_nil : SeqAt.shaped (.tuple []) = true := by decide
section
variable {C : CT} {st : Sto} {d : PyData}
theorem cut1 {α : Type} (a : α) (xs : List α) : cut (a :: xs) (some 1) none = xs := by
  have h : HT.sIx (xs.length + 1) 0 (some 1) = 1 := by
    simp [HT.sIx]
  have h2 : HT.sIx (xs.length + 1) (xs.length + 1) none = xs.length + 1 := rfl
  simp [cut, h, h2]
theorem atN0 {a b : PyData} : atI [a, b] (0 : Int) = some a := rfl
theorem atN1 {a b : PyData} : atI [a, b] (1 : Int) = some b := rfl
theorem at30 {a b c : PyData} : atI [a, b, c] (0 : Int) = some a := rfl
theorem at31 {a b c : PyData} : atI [a, b, c] (1 : Int) = some b := rfl
theorem at32 {a b c : PyData} : atI [a, b, c] (2 : Int) = some c := rfl
theorem sz2 : (2 : Nat) ≤ sizeLine := by decide
theorem sh_os : SeqAt.shaped (.tuple [.str "one", .str "some"]) = true := by decide +kernel
theorem sh_number : SeqAt.shaped (.str "number") = true := by decide +kernel
theorem sh_one : SeqAt.shaped (.str "one") = true := by decide +kernel
theorem sh_some : SeqAt.shaped (.str "some") = true := by decide +kernel
theorem kind_ok (hC : ∀ x s, noDict x = true → C.is_number [.dat x] s = .ok (.dat (.bool (isNum x))) s) (h : Fine d) : WR (bodyM 2 (m_is_kind C) [.dat d] st) fun r s => r = .dat (.bool (kindB d)) ∧ s = st := by
  obtain ⟨t1, t2, t3, t4, t5, t6⟩ := kb_tuple
  refine wr_body ?_
  cases d with
  | tuple xs =>
    obtain ⟨h1, h2⟩ := h
    have h2 : ∀ x ∈ xs, SeqAt.shaped x = true := h2
    have look : ∀ (a : PyData) (ys : List PyData), (∀ x ∈ ys, SeqAt.shaped x = true) → ∀ env : Pd.Env, boolM false (gSet 1) mYes (mCall C.is_number (mCons (mVar 1) mNil)) [some (.dat (.tuple (a :: ys))), none] ys st = .ok (ys.all isNum) st := fun a ys hy env =>
      boolM_all fun x hx => by simp [mCall, mCons, mVar, mNil, R.bind, R.opt, hC x st (shaped_noDict (hy x hx))]
    match xs, h1, h2 with
    | [], _, _ => simp [wq_seq, seq_next, seq_ret, seq_retN, mIfS, mIf, wq_of, wq_ret, wq_retN, wq_next, wq_bad, wr_ite, wq_ite, mOr, mAnd, mNot, mTru, mTest, mIsi, mVar, mC, mRet, mSet, mSkip, mBin, mUn, mAndV, mOrV, mNotV, wr_bind, wr_opt, wr_ok, wr_bad, val, vals, tyName, truO, tru, mBlt, mCons, mNil, lenD, mTup, mNew, mLst, dats, mSl, mPart, mNoP, ex_and_eq, m_is_kind, t6, ninD, inB, sh_int, sh_23, eqv_int, kindB, sz2]
    | [a], _, h2 => simp [wq_seq, seq_next, seq_ret, seq_retN, mIfS, mIf, wq_of, wq_ret, wq_retN, wq_next, wq_bad, wr_ite, wq_ite, mOr, mAnd, mNot, mTru, mTest, mIsi, mVar, mC, mRet, mSet, mSkip, mBin, mUn, mAndV, mOrV, mNotV, wr_bind, wr_opt, wr_ok, wr_bad, val, vals, tyName, truO, tru, mBlt, mCons, mNil, lenD, mTup, mNew, mLst, dats, mSl, mPart, mNoP, ex_and_eq, m_is_kind, t6, ninD, inB, sh_int, sh_23, eqv_int, kindB, sz2]
    | [a, b], _, h2 =>
      have sa := h2 a (by simp)
      have lk := look a [b] (fun x hx => h2 x (List.mem_cons_of_mem _ hx)) []
      have c1 : cut [a, b] (some 1) none = [b] := cut1 a [b]
      cases b with
      | int n => cases hb : (isS "one" a || isS "some" a) <;> simp [wq_seq, seq_next, seq_ret, seq_retN, mIfS, mIf, wq_of, wq_ret, wq_retN, wq_next, wq_bad, wr_ite, wq_ite, mOr, mAnd, mNot, mTru, mTest, mIsi, mVar, mC, mRet, mSet, mSkip, mBin, mUn, mAndV, mOrV, mNotV, wr_bind, wr_opt, wr_ok, wr_bad, val, vals, tyName, truO, tru, mBlt, mCons, mNil, lenD, mTup, mNew, mLst, dats, mSl, mPart, mNoP, ex_and_eq, hb, m_is_kind, t6, ninD, inB, inD, sh_int, sh_23, eqv_int, kindB, sz2, mBoolG, mIterS, itemsD, seqD, slD, c1, wipeE, lk, isNum, eqD, ixD, atN0, atN1, sh_os, sa, eqv_l, geD]
      | _ => simp [wq_seq, seq_next, seq_ret, seq_retN, mIfS, mIf, wq_of, wq_ret, wq_retN, wq_next, wq_bad, wr_ite, wq_ite, mOr, mAnd, mNot, mTru, mTest, mIsi, mVar, mC, mRet, mSet, mSkip, mBin, mUn, mAndV, mOrV, mNotV, wr_bind, wr_opt, wr_ok, wr_bad, val, vals, tyName, truO, tru, mBlt, mCons, mNil, lenD, mTup, mNew, mLst, dats, mSl, mPart, mNoP, ex_and_eq, m_is_kind, t6, ninD, inB, sh_int, sh_23, eqv_int, kindB, sz2, mBoolG, mIterS, itemsD, seqD, slD, c1, wipeE, lk, isNum]
    | [a, b, c], _, h2 =>
      have sa := h2 a (by simp)
      have lk := look a [b, c] (fun x hx => h2 x (List.mem_cons_of_mem _ hx)) []
      have c1 : cut [a, b, c] (some 1) none = [b, c] := cut1 a [b, c]
      cases b with
      | int n =>
        cases c with
        | int m => cases hb : isS "number" a <;> simp [wq_seq, seq_next, seq_ret, seq_retN, mIfS, mIf, wq_of, wq_ret, wq_retN, wq_next, wq_bad, wr_ite, wq_ite, mOr, mAnd, mNot, mTru, mTest, mIsi, mVar, mC, mRet, mSet, mSkip, mBin, mUn, mAndV, mOrV, mNotV, wr_bind, wr_opt, wr_ok, wr_bad, val, vals, tyName, truO, tru, mBlt, mCons, mNil, lenD, mTup, mNew, mLst, dats, mSl, mPart, mNoP, ex_and_eq, hb, m_is_kind, t6, ninD, inB, inD, sh_int, sh_23, eqv_int, kindB, sz2, mBoolG, mIterS, itemsD, seqD, slD, c1, wipeE, lk, isNum, eqD, ixD, at30, at31, at32, sh_number, sa, eqv_r, leD]
        | _ => simp [wq_seq, seq_next, seq_ret, seq_retN, mIfS, mIf, wq_of, wq_ret, wq_retN, wq_next, wq_bad, wr_ite, wq_ite, mOr, mAnd, mNot, mTru, mTest, mIsi, mVar, mC, mRet, mSet, mSkip, mBin, mUn, mAndV, mOrV, mNotV, wr_bind, wr_opt, wr_ok, wr_bad, val, vals, tyName, truO, tru, mBlt, mCons, mNil, lenD, mTup, mNew, mLst, dats, mSl, mPart, mNoP, ex_and_eq, m_is_kind, t6, ninD, inB, sh_int, sh_23, eqv_int, kindB, sz2, mBoolG, mIterS, itemsD, seqD, slD, c1, wipeE, lk, isNum]
      | _ => simp [wq_seq, seq_next, seq_ret, seq_retN, mIfS, mIf, wq_of, wq_ret, wq_retN, wq_next, wq_bad, wr_ite, wq_ite, mOr, mAnd, mNot, mTru, mTest, mIsi, mVar, mC, mRet, mSet, mSkip, mBin, mUn, mAndV, mOrV, mNotV, wr_bind, wr_opt, wr_ok, wr_bad, val, vals, tyName, truO, tru, mBlt, mCons, mNil, lenD, mTup, mNew, mLst, dats, mSl, mPart, mNoP, ex_and_eq, m_is_kind, t6, ninD, inB, sh_int, sh_23, eqv_int, kindB, sz2, mBoolG, mIterS, itemsD, seqD, slD, c1, wipeE, lk, isNum]
    | a :: b :: c :: e :: r, _, h2 =>
      have n2 : ¬ (2 : Int) = (r.length : Int) + 1 + 1 + 1 + 1 := by omega
      have n3 : ¬ (3 : Int) = (r.length : Int) + 1 + 1 + 1 + 1 := by omega
      simp [wq_seq, seq_next, seq_ret, seq_retN, mIfS, mIf, wq_of, wq_ret, wq_retN, wq_next, wq_bad, wr_ite, wq_ite, mOr, mAnd, mNot, mTru, mTest, mIsi, mVar, mC, mRet, mSet, mSkip, mBin, mUn, mAndV, mOrV, mNotV, wr_bind, wr_opt, wr_ok, wr_bad, val, vals, tyName, truO, tru, mBlt, mCons, mNil, lenD, mTup, mNew, mLst, dats, mSl, mPart, mNoP, ex_and_eq, m_is_kind, t6, ninD, inB, sh_int, sh_23, eqv_int, kindB, sz2, n2, n3]
  | dict l => simp [Fine, SeqAt.shaped, PyData.canLay0] at h
  | _ => simp [wq_seq, seq_next, seq_ret, seq_retN, mIfS, mIf, wq_of, wq_ret, wq_retN, wq_next, wq_bad, wr_ite, wq_ite, mOr, mAnd, mNot, mTru, mTest, mIsi, mVar, mC, mRet, mSet, mSkip, mBin, mUn, mAndV, mOrV, mNotV, wr_bind, wr_opt, wr_ok, wr_bad, val, vals, tyName, truO, tru, mBlt, mCons, mNil, lenD, mTup, mNew, mLst, dats, mSl, mPart, mNoP, ex_and_eq, m_is_kind, t1, t2, t3, t4, t5, t6, kindB]
end
end K01

set_option Elab.async false
set_option linter.all false
set_option maxRecDepth 100000
set_option maxHeartbeats 2000000
/-! Mk01c: the law's own look at kinds. -/
namespace K01
open PySem Pd L2 Md
section
variable {C : CT} {st : Sto} {d : PyData}
theorem eqv_nilT {xs : List PyData} : (PyData.tuple xs).eqv (.tuple []) = xs.isEmpty := by
  cases xs <;> rfl
theorem bools_map {f : PyData → Bool} : ∀ ys : List PyData, bools (ys.map fun x => PyData.bool (f x)) = some (ys.map f)
  | [] => rfl
  | y :: ys => by simp [bools, bools_map ys]
theorem only_number {a : PyData} (h : isS "number" a = true) : isS "one" a = false ∧ isS "some" a = false := by
  cases a with
  | str x =>
    have e : x = "number" := beq_iff_eq.mp h
    subst e
    decide +kernel
  | _ => cases h
def restL : MS :=
  (mSeq (mIfS (mTest (mBin eqD (mBin ixD (mVar 0) (mC (.int 0))) (mC (.str "number")))) (mRet (mAndV (mBin eqD (mBlt lenD (mCons (mVar 0) mNil)) (mC (.int 3))) (mBin leD (mBin ixD (mVar 0) (mC (.int 1))) (mBin ixD (mVar 0) (mC (.int 2)))))) mSkip)
  (mSeq (mIfS (mOr (mTest (mBin neD (mBlt lenD (mCons (mVar 0) mNil)) (mC (.int 2)))) (mTest (mBin ltD (mBin ixD (mVar 0) (mC (.int 1))) (mC (.int 1))))) (mRet (mC (.bool false))) mSkip)
  (mRet (mOrV (mBin eqD (mBin ixD (mVar 0) (mC (.int 0))) (mC (.str "one"))) (mBin eqD (mBin ixD (mVar 0) (mC (.int 0))) (mC (.str "some")))))))
def restK (C : CT) : MS :=
  mSeq (mIfS (mNot (mTru (mBlt allD (mCons (mNew (mLc (mIterS (mSl (mVar 0) (mPart (mC (.int 1))) mNoP)) (gSet 1) mYes (mCall C.law_number (mCons (mVar 1) mNil)) [1])) mNil)))) (mRet (mC (.bool false))) mSkip) restL
theorem kinded_is : m_law_kinded C = mSeq (mIfS (mOr (mNot (mTru (mIsi "tuple" (mVar 0)))) (mTest (mBin eqD (mVar 0) (mTup mNil)))) (mRet (mC (.bool false))) mSkip) (restK C) := rfl
theorem at_0 {a : PyData} {ys : List PyData} : atI (a :: ys) (0 : Int) = some a := by simp [atI, ixN]
theorem restK_ok (hC : ∀ x s, noDict x = true → C.law_number [.dat x] s = .ok (.dat (.bool (isNum x))) s) {a : PyData} {ys : List PyData} (h2 : ∀ x ∈ a :: ys, SeqAt.shaped x = true) (hz : (a :: ys).length < sizeLine) :
    WQ (restK C [some (.dat (.tuple (a :: ys))), none] st) fun r => r = .ret (.dat (.bool (kindB (.tuple (a :: ys))))) st := by
  have sa := h2 a (by simp)
  have c1 : cut (a :: ys) (some 1) none = ys := cut1 a ys
  have lc : mLc (mIterS (mSl (mVar 0) (mPart (mC (.int 1))) mNoP)) (gSet 1) mYes (mCall C.law_number (mCons (mVar 1) mNil)) [1] [some (.dat (.tuple (a :: ys))), none] st = .ok (ys.map fun x => .bool (isNum x)) st := by
    refine lc_map (ev := fun x => [some (.dat (.tuple (a :: ys))), some (.dat x)]) (by simp [mIterS, mSl, mVar, mPart, mC, mNoP, R.bind, R.opt, val, slD, c1, itemsD, seqD]) (by simp at hz; omega) (fun x _ => rfl) fun x hx acc => ?_
    simp [mCall, mCons, mVar, mNil, R.bind, R.opt, hC x _ (shaped_noDict (h2 x (List.mem_cons_of_mem _ hx)))]
  have al := bools_map (f := isNum) ys
  cases hall : ys.all isNum with
  | false =>
    have kb : kindB (.tuple (a :: ys)) = false := by
      unfold kindB
      split
      · rename_i q; cases q; simp [isNum] at hall
      · rename_i q; cases q; simp [isNum] at hall
      · rfl
    have hall' : (ys.map isNum).all id = false := by simpa using hall
    simp [wq_seq, seq_next, seq_ret, seq_retN, mIfS, mIf, wq_of, wq_ret, wq_retN, wq_next, wq_bad, wr_ite, wq_ite, mOr, mAnd, mNot, mTru, mTest, mIsi, mVar, mC, mRet, mSet, mSkip, mBin, mUn, mAndV, mOrV, mNotV, wr_bind, wr_opt, wr_ok, wr_bad, val, vals, tyName, truO, tru, mBlt, mCons, mNil, lenD, mTup, mNew, mLst, dats, mSl, mPart, mNoP, ex_and_eq, restK, lc, allD, al, kb, hall', hall]
  | true =>
    have hall' : (ys.map isNum).all id = true := by simpa using hall
    have go : WQ (restL [some (.dat (.tuple (a :: ys))), none] st) (fun r => r = .ret (.dat (.bool (kindB (.tuple (a :: ys))))) st) → WQ (restK C [some (.dat (.tuple (a :: ys))), none] st) fun r => r = .ret (.dat (.bool (kindB (.tuple (a :: ys))))) st := fun q => by
      simp [wq_seq, seq_next, seq_ret, seq_retN, mIfS, mIf, wq_of, wq_ret, wq_retN, wq_next, wq_bad, wr_ite, wq_ite, mOr, mAnd, mNot, mTru, mTest, mIsi, mVar, mC, mRet, mSet, mSkip, mBin, mUn, mAndV, mOrV, mNotV, wr_bind, wr_opt, wr_ok, wr_bad, val, vals, tyName, truO, tru, mBlt, mCons, mNil, lenD, mTup, mNew, mLst, dats, mSl, mPart, mNoP, ex_and_eq, restK, lc, allD, al, hall', hall]
      exact q
    refine go ?_
    clear go lc al hall'
    cases hb : isS "number" a with
    | true =>
      obtain ⟨o1, o2⟩ := only_number hb
      match ys, hall with
      | [], _ => simp [wq_seq, seq_next, seq_ret, seq_retN, mIfS, mIf, wq_of, wq_ret, wq_retN, wq_next, wq_bad, wr_ite, wq_ite, mOr, mAnd, mNot, mTru, mTest, mIsi, mVar, mC, mRet, mSet, mSkip, mBin, mUn, mAndV, mOrV, mNotV, wr_bind, wr_opt, wr_ok, wr_bad, val, vals, tyName, truO, tru, mBlt, mCons, mNil, lenD, mTup, mNew, mLst, dats, mSl, mPart, mNoP, ex_and_eq, restL, ixD, at_0, eqD, sa, sh_number, eqv_r, hb, sh_int, eqv_int, kindB]
      | [b], hall =>
        cases b with
        | int n => simp [wq_seq, seq_next, seq_ret, seq_retN, mIfS, mIf, wq_of, wq_ret, wq_retN, wq_next, wq_bad, wr_ite, wq_ite, mOr, mAnd, mNot, mTru, mTest, mIsi, mVar, mC, mRet, mSet, mSkip, mBin, mUn, mAndV, mOrV, mNotV, wr_bind, wr_opt, wr_ok, wr_bad, val, vals, tyName, truO, tru, mBlt, mCons, mNil, lenD, mTup, mNew, mLst, dats, mSl, mPart, mNoP, ex_and_eq, restL, ixD, at_0, eqD, sa, sh_number, eqv_r, hb, o1, o2, sh_int, eqv_int, kindB]
        | _ => simp [isNum] at hall
      | [b, c], hall =>
        cases b with
        | int n =>
          cases c with
          | int m => simp [wq_seq, seq_next, seq_ret, seq_retN, mIfS, mIf, wq_of, wq_ret, wq_retN, wq_next, wq_bad, wr_ite, wq_ite, mOr, mAnd, mNot, mTru, mTest, mIsi, mVar, mC, mRet, mSet, mSkip, mBin, mUn, mAndV, mOrV, mNotV, wr_bind, wr_opt, wr_ok, wr_bad, val, vals, tyName, truO, tru, mBlt, mCons, mNil, lenD, mTup, mNew, mLst, dats, mSl, mPart, mNoP, ex_and_eq, restL, ixD, at_0, at31, at32, eqD, sa, sh_number, eqv_r, hb, sh_int, eqv_int, kindB, leD]
          | _ => simp [isNum] at hall
        | _ => simp [isNum] at hall
      | b :: c :: e :: r, _ =>
        have n3 : ¬ (r.length : Int) + 1 + 1 + 1 + 1 = 3 := by omega
        simp [wq_seq, seq_next, seq_ret, seq_retN, mIfS, mIf, wq_of, wq_ret, wq_retN, wq_next, wq_bad, wr_ite, wq_ite, mOr, mAnd, mNot, mTru, mTest, mIsi, mVar, mC, mRet, mSet, mSkip, mBin, mUn, mAndV, mOrV, mNotV, wr_bind, wr_opt, wr_ok, wr_bad, val, vals, tyName, truO, tru, mBlt, mCons, mNil, lenD, mTup, mNew, mLst, dats, mSl, mPart, mNoP, ex_and_eq, restL, ixD, at_0, eqD, sa, sh_number, eqv_r, hb, sh_int, eqv_int, kindB, n3]
    | false =>
      match ys, hall with
      | [], _ => simp [wq_seq, seq_next, seq_ret, seq_retN, mIfS, mIf, wq_of, wq_ret, wq_retN, wq_next, wq_bad, wr_ite, wq_ite, mOr, mAnd, mNot, mTru, mTest, mIsi, mVar, mC, mRet, mSet, mSkip, mBin, mUn, mAndV, mOrV, mNotV, wr_bind, wr_opt, wr_ok, wr_bad, val, vals, tyName, truO, tru, mBlt, mCons, mNil, lenD, mTup, mNew, mLst, dats, mSl, mPart, mNoP, ex_and_eq, restL, ixD, at_0, eqD, neD, sa, sh_number, eqv_r, hb, sh_int, eqv_int, kindB]
      | [b], hall =>
        cases b with
        | int n =>
          by_cases hn : n < 1
          · have hn' : ¬ 1 ≤ n := by omega
            simp [wq_seq, seq_next, seq_ret, seq_retN, mIfS, mIf, wq_of, wq_ret, wq_retN, wq_next, wq_bad, wr_ite, wq_ite, mOr, mAnd, mNot, mTru, mTest, mIsi, mVar, mC, mRet, mSet, mSkip, mBin, mUn, mAndV, mOrV, mNotV, wr_bind, wr_opt, wr_ok, wr_bad, val, vals, tyName, truO, tru, mBlt, mCons, mNil, lenD, mTup, mNew, mLst, dats, mSl, mPart, mNoP, ex_and_eq, restL, ixD, at_0, atN1, eqD, neD, ltD, sa, sh_number, eqv_r, hb, sh_int, eqv_int, kindB, hn, hn']
          · have hn' : 1 ≤ n := by omega
            cases h1 : isS "one" a <;> simp [wq_seq, seq_next, seq_ret, seq_retN, mIfS, mIf, wq_of, wq_ret, wq_retN, wq_next, wq_bad, wr_ite, wq_ite, mOr, mAnd, mNot, mTru, mTest, mIsi, mVar, mC, mRet, mSet, mSkip, mBin, mUn, mAndV, mOrV, mNotV, wr_bind, wr_opt, wr_ok, wr_bad, val, vals, tyName, truO, tru, mBlt, mCons, mNil, lenD, mTup, mNew, mLst, dats, mSl, mPart, mNoP, ex_and_eq, restL, ixD, at_0, atN1, eqD, neD, ltD, sa, sh_number, sh_one, sh_some, eqv_r, hb, h1, sh_int, eqv_int, kindB, hn, hn']
        | _ => simp [isNum] at hall
      | [b, c], hall =>
        cases b with
        | int n =>
          cases c with
          | int m => simp [wq_seq, seq_next, seq_ret, seq_retN, mIfS, mIf, wq_of, wq_ret, wq_retN, wq_next, wq_bad, wr_ite, wq_ite, mOr, mAnd, mNot, mTru, mTest, mIsi, mVar, mC, mRet, mSet, mSkip, mBin, mUn, mAndV, mOrV, mNotV, wr_bind, wr_opt, wr_ok, wr_bad, val, vals, tyName, truO, tru, mBlt, mCons, mNil, lenD, mTup, mNew, mLst, dats, mSl, mPart, mNoP, ex_and_eq, restL, ixD, at_0, eqD, neD, sa, sh_number, eqv_r, hb, sh_int, eqv_int, kindB]
          | _ => simp [isNum] at hall
        | _ => simp [isNum] at hall
      | b :: c :: e :: r, _ =>
        have n2 : ¬ (r.length : Int) + 1 + 1 + 1 + 1 = 2 := by omega
        simp [wq_seq, seq_next, seq_ret, seq_retN, mIfS, mIf, wq_of, wq_ret, wq_retN, wq_next, wq_bad, wr_ite, wq_ite, mOr, mAnd, mNot, mTru, mTest, mIsi, mVar, mC, mRet, mSet, mSkip, mBin, mUn, mAndV, mOrV, mNotV, wr_bind, wr_opt, wr_ok, wr_bad, val, vals, tyName, truO, tru, mBlt, mCons, mNil, lenD, mTup, mNew, mLst, dats, mSl, mPart, mNoP, ex_and_eq, restL, ixD, at_0, eqD, neD, sa, sh_number, eqv_r, hb, sh_int, eqv_int, kindB, n2]
theorem kinded_ok (hC : ∀ x s, noDict x = true → C.law_number [.dat x] s = .ok (.dat (.bool (isNum x))) s) (h : Fine d) (hz : ∀ xs, d = .tuple xs → xs.length < sizeLine) : WR (bodyM 2 (m_law_kinded C) [.dat d] st) fun r s => r = .dat (.bool (kindB d)) ∧ s = st := by
  obtain ⟨t1, t2, t3, t4, t5, t6⟩ := kb_tuple
  refine wr_body ?_
  rw [kinded_is]
  cases d with
  | tuple xs =>
    obtain ⟨h1, h2⟩ := h
    have h2 : ∀ x ∈ xs, SeqAt.shaped x = true := h2
    have hz := hz xs rfl
    cases xs with
    | nil => simp [wq_seq, seq_next, seq_ret, seq_retN, mIfS, mIf, wq_of, wq_ret, wq_retN, wq_next, wq_bad, wr_ite, wq_ite, mOr, mAnd, mNot, mTru, mTest, mIsi, mVar, mC, mRet, mSet, mSkip, mBin, mUn, mAndV, mOrV, mNotV, wr_bind, wr_opt, wr_ok, wr_bad, val, vals, tyName, truO, tru, mBlt, mCons, mNil, lenD, mTup, mNew, mLst, dats, mSl, mPart, mNoP, ex_and_eq, t6, eqD, eqv_nilT, sh_nil, kindB]
    | cons a ys =>
      have body := restK_ok (st := st) hC h2 hz
      simp [wq_seq, seq_next, seq_ret, seq_retN, mIfS, mIf, wq_of, wq_ret, wq_retN, wq_next, wq_bad, wr_ite, wq_ite, mOr, mAnd, mNot, mTru, mTest, mIsi, mVar, mC, mRet, mSet, mSkip, mBin, mUn, mAndV, mOrV, mNotV, wr_bind, wr_opt, wr_ok, wr_bad, val, vals, tyName, truO, tru, mBlt, mCons, mNil, lenD, mTup, mNew, mLst, dats, mSl, mPart, mNoP, ex_and_eq, t6, eqD, eqv_nilT, sh_nil, h1]
      refine body.mono fun r hr => ?_
      subst hr
      simp
  | dict l => simp [Fine, SeqAt.shaped, PyData.canLay0] at h
  | _ => simp [wq_seq, seq_next, seq_ret, seq_retN, mIfS, mIf, wq_of, wq_ret, wq_retN, wq_next, wq_bad, wr_ite, wq_ite, mOr, mAnd, mNot, mTru, mTest, mIsi, mVar, mC, mRet, mSet, mSkip, mBin, mUn, mAndV, mOrV, mNotV, wr_bind, wr_opt, wr_ok, wr_bad, val, vals, tyName, truO, tru, mBlt, mCons, mNil, lenD, mTup, mNew, mLst, dats, mSl, mPart, mNoP, ex_and_eq, t1, t2, t3, t4, t5, t6, kindB]
end
end K01

set_option Elab.async false
set_option linter.all false
set_option maxRecDepth 100000
set_option maxHeartbeats 2000000
/-! Mk01d: is_name and the law's own look. -/
namespace K01
open PySem Pd L2 Md

def small (c : Nat) : Bool := decide (97 ≤ c ∧ c ≤ 122)
def fig (c : Nat) : Bool := decide (48 ≤ c ∧ c ≤ 57)
def nameB : PyData → Bool
  | .str x => match x.cps.toList with
    | [] => false
    | c :: r => decide (r.length < 8) && small c && (c :: r).all fun c => small c || fig c
  | _ => false
theorem letters_l : c_LETTERS.cps.toList = [97, 98, 99, 100, 101, 102, 103, 104, 105, 106, 107, 108, 109, 110, 111, 112, 113, 114, 115, 116, 117, 118, 119, 120, 121, 122] := by decide +kernel
theorem figures_l : c_FIGURES.cps.toList = [48, 49, 50, 51, 52, 53, 54, 55, 56, 57] := by decide +kernel
theorem mem_letters (c : Nat) : decide (c ∈ c_LETTERS.cps.toList) = small c := by
  rw [letters_l, Bool.eq_iff_iff]
  simp only [small, decide_eq_true_eq, List.mem_cons, List.not_mem_nil, or_false]
  omega
theorem mem_figures (c : Nat) : decide (c ∈ c_FIGURES.cps.toList) = fig c := by
  rw [figures_l, Bool.eq_iff_iff]
  simp only [fig, decide_eq_true_eq, List.mem_cons, List.not_mem_nil, or_false]
  omega
theorem in_l (c : Nat) : inD (.str ⟨#[c]⟩) (.str c_LETTERS) = some (.bool (small c)) := by
  show (inB _ _).map PyData.bool = _
  simp only [inB, mem_letters, Option.map_some]
theorem cat_l (x y : Str) : (x ++ y).cps.toList = x.cps.toList ++ y.cps.toList := by
  show (x.cps ++ y.cps).toList = _
  simp
theorem in_lf (c : Nat) : inD (.str ⟨#[c]⟩) (.str (c_LETTERS ++ c_FIGURES)) = some (.bool (small c || fig c)) := by
  show (inB _ _).map PyData.bool = _
  simp only [inB, cat_l, List.mem_append, Option.map_some]
  rw [← mem_letters, ← mem_figures]
  simp
theorem add_lf : addD (.str c_LETTERS) (.str c_FIGURES) = some (.str (c_LETTERS ++ c_FIGURES)) := by
  have h : c_LETTERS.length + c_FIGURES.length ≤ sizeLine := by decide +kernel
  simp only [addD, h, if_true]
def signB (f : Nat → Bool) : PyData → Bool
  | .str y => match y.cps.toList with
    | [c] => f c
    | _ => false
  | _ => false
theorem all_signs {f : Nat → Bool} (x : Str) : (signsD x).all (signB f) = x.cps.toList.all f := by
  simp only [signsD, List.all_map]
  rfl
section
variable {C : CT} {st : Sto} {d : PyData}
theorem loop_n (x : Str) : mBoolG false (mIterS (mVar 0)) (gSet 1) mYes (mBin inD (mVar 1) (mBin addD (mC (.str c_LETTERS)) (mC (.str c_FIGURES)))) [1] [some (.dat (.str x)), none] st = .ok (.dat (.bool (x.cps.toList.all fun c => small c || fig c))) st := by
  have e := boolM_all (te := mBin inD (mVar 1) (mBin addD (mC (.str c_LETTERS)) (mC (.str c_FIGURES)))) (f := signB fun c => small c || fig c) (i := 1) (env := [some (.dat (.str x)), none]) (st := st) (ds := signsD x) fun y hy => by
    obtain ⟨c, _, rfl⟩ := List.mem_map.mp hy
    simp [mBin, mVar, mC, R.bind, R.opt, val, add_lf, in_lf, signB]
  simp only [mBoolG, mIterS, mVar, R.bind, R.opt, itemsD, wipeE]
  rw [all_signs] at e
  simp [e]
theorem name_ok (h : Fine d) : WR (bodyM 2 (m_is_name C) [.dat d] st) fun r s => r = .dat (.bool (nameB d)) ∧ s = st := by
  obtain ⟨t1, t2, t3, t4, t5, t6⟩ := kb_str
  refine wr_body ?_
  cases d with
  | str x =>
    obtain ⟨h1, h2⟩ := h
    have h2 : x.length ≤ sizeLine := h2
    have lp := loop_n (st := st) x
    have hl : x.length = x.cps.toList.length := by simp [Str.length]
    cases hx : x.cps.toList with
    | nil =>
      have l0 : x.length = 0 := by rw [hl, hx]; rfl
      simp [wq_seq, seq_next, seq_ret, seq_retN, mIfS, mIf, wq_of, wq_ret, wq_retN, wq_next, wq_bad, wr_ite, wq_ite, mOr, mAnd, mNot, mTru, mTest, mIsi, mVar, mC, mRet, mSet, mSkip, mBin, mUn, mAndV, mOrV, mNotV, wr_bind, wr_opt, wr_ok, wr_bad, val, vals, tyName, truO, tru, mBlt, mCons, mNil, lenD, mTup, mNew, mLst, dats, mSl, mPart, mNoP, ex_and_eq, m_is_name, t4, mChain, h2, l0, leD, nameB, hx]
    | cons c r =>
      have l0 : (x.length : Int) = (r.length : Int) + 1 := by rw [hl, hx]; simp
      have i0 : ixD (.str x) (.int 0) = some (.str ⟨#[c]⟩) := by
        simp [ixD, h2, hx, atI, ixN]
      rw [hx] at lp
      by_cases h8 : r.length < 8
      · have h8' : (r.length : Int) + 1 ≤ 8 := by omega
        have g0 : (1 : Int) ≤ (r.length : Int) + 1 := by omega
        cases hs : small c <;> simp [wq_seq, seq_next, seq_ret, seq_retN, mIfS, mIf, wq_of, wq_ret, wq_retN, wq_next, wq_bad, wr_ite, wq_ite, mOr, mAnd, mNot, mTru, mTest, mIsi, mVar, mC, mRet, mSet, mSkip, mBin, mUn, mAndV, mOrV, mNotV, wr_bind, wr_opt, wr_ok, wr_bad, val, vals, tyName, truO, tru, mBlt, mCons, mNil, lenD, mTup, mNew, mLst, dats, mSl, mPart, mNoP, ex_and_eq, m_is_name, t4, mChain, h2, l0, leD, nameB, hx, h8, h8', g0, i0, in_l, lp, hs]
      · have h8' : ¬ (r.length : Int) + 1 ≤ 8 := by omega
        have g0 : (1 : Int) ≤ (r.length : Int) + 1 := by omega
        simp [wq_seq, seq_next, seq_ret, seq_retN, mIfS, mIf, wq_of, wq_ret, wq_retN, wq_next, wq_bad, wr_ite, wq_ite, mOr, mAnd, mNot, mTru, mTest, mIsi, mVar, mC, mRet, mSet, mSkip, mBin, mUn, mAndV, mOrV, mNotV, wr_bind, wr_opt, wr_ok, wr_bad, val, vals, tyName, truO, tru, mBlt, mCons, mNil, lenD, mTup, mNew, mLst, dats, mSl, mPart, mNoP, ex_and_eq, m_is_name, t4, mChain, h2, l0, leD, nameB, hx, h8, h8', g0]
  | dict l => simp [Fine, SeqAt.shaped, PyData.canLay0] at h
  | _ => simp [wq_seq, seq_next, seq_ret, seq_retN, mIfS, mIf, wq_of, wq_ret, wq_retN, wq_next, wq_bad, wr_ite, wq_ite, mOr, mAnd, mNot, mTru, mTest, mIsi, mVar, mC, mRet, mSet, mSkip, mBin, mUn, mAndV, mOrV, mNotV, wr_bind, wr_opt, wr_ok, wr_bad, val, vals, tyName, truO, tru, mBlt, mCons, mNil, lenD, mTup, mNew, mLst, dats, mSl, mPart, mNoP, ex_and_eq, m_is_name, t1, t2, t3, t4, t5, t6, nameB]
theorem le_sign (k c : Nat) : leD (.str ⟨#[k]⟩) (.str ⟨#[c]⟩) = some (.bool (decide (k ≤ c))) := by
  have e : ([c] < [k]) ↔ c < k := by
    rw [List.cons_lt_cons_iff]
    simp
  have e2 : (!decide ([c] < [k])) = decide (k ≤ c) := by
    rw [Bool.eq_iff_iff]
    simp only [Bool.not_eq_true', decide_eq_false_iff_not, decide_eq_true_eq, e]
    omega
  show some (PyData.bool (!decide ([c] < [k]))) = _
  rw [e2]
theorem lc_range {lo hi : Nat} {e1 e2 e4 e5 : Option D} (x : Str) (hz : x.cps.toList.length < sizeLine) :
    mLc (mIterS (mVar 0)) (gSet 3) mYes (mAndV (mBin leD (mC (.str ⟨#[lo]⟩)) (mVar 3)) (mBin leD (mVar 3) (mC (.str ⟨#[hi]⟩)))) [3] [some (.dat (.str x)), e1, e2, none, e4, e5] st = .ok (x.cps.toList.map fun c => .bool (decide (lo ≤ c ∧ c ≤ hi))) st := by
  have r := lc_map (mi := mIterS (mVar 0)) (te := mAndV (mBin leD (mC (.str ⟨#[lo]⟩)) (mVar 3)) (mBin leD (mVar 3) (mC (.str ⟨#[hi]⟩)))) (f := fun d => .bool (signB (fun c => decide (lo ≤ c ∧ c ≤ hi)) d)) (g := gSet 3) (ev := fun d => [some (.dat (.str x)), e1, e2, some (.dat d), e4, e5]) (vs := [3])
    (env := [some (.dat (.str x)), e1, e2, none, e4, e5]) (st := st) (ds := signsD x) (by simp [mIterS, mVar, R.bind, R.opt, itemsD]) (by simp [signsD]; simpa using hz) (fun d _ => rfl) fun d hd acc => by
      obtain ⟨c, _, rfl⟩ := List.mem_map.mp hd
      by_cases h1 : lo ≤ c <;> simp [mAndV, mBin, mC, mVar, R.bind, R.opt, val, le_sign, truO, tru, h1, signB]
  rw [r]
  simp [signsD, signB]
theorem lc_or {e0 e3 : Option D} (bs cs : List Bool) (hz : bs.length < sizeLine) :
    mLc (mZip (mCons (mVar 1) (mCons (mVar 2) mNil))) (gTupD (gAnd (gSet 4) (gAnd (gSet 5) gNo)) 2) mYes (mOrV (mVar 4) (mVar 5)) [4, 5] [e0, some (.dat (.list (bs.map .bool))), some (.dat (.list (cs.map .bool))), e3, none, none] st
      = .ok ((List.zipWith (fun b c => b || c) bs cs).map .bool) st := by
  have r := lc_map (mi := mZip (mCons (mVar 1) (mCons (mVar 2) mNil))) (te := mOrV (mVar 4) (mVar 5)) (f := fun d => match d with | .tuple [.bool b, .bool c] => .bool (b || c) | _ => .none) (g := gTupD (gAnd (gSet 4) (gAnd (gSet 5) gNo)) 2)
    (ev := fun d => match d with | .tuple [b, c] => [e0, some (.dat (.list (bs.map .bool))), some (.dat (.list (cs.map .bool))), e3, some (.dat b), some (.dat c)] | _ => []) (vs := [4, 5])
    (env := [e0, some (.dat (.list (bs.map .bool))), some (.dat (.list (cs.map .bool))), e3, none, none]) (st := st) (ds := pairsD (bs.map .bool) (cs.map .bool)) (by simp [mZip, mCons, mVar, mNil, R.bind, R.opt]) (by simp [pairsD]; omega) (fun d hd => ?_) fun d hd acc => ?_
  · rw [r]
    simp only [pairsD, List.map_zipWith, List.zipWith_map]
  · obtain ⟨i, hi⟩ := List.getElem?_of_mem hd
    obtain ⟨x, y, _, _, rfl⟩ := pairs_get hi
    rfl
  · obtain ⟨i, hi⟩ := List.getElem?_of_mem hd
    obtain ⟨x, y, h1, h2, rfl⟩ := pairs_get hi
    rw [List.getElem?_map] at h1 h2
    obtain ⟨b, _, rfl⟩ := Option.map_eq_some_iff.mp h1
    obtain ⟨c, _, rfl⟩ := Option.map_eq_some_iff.mp h2
    cases b <;> simp [mOrV, mVar, R.bind, R.opt, truO, val, tru]
end
end K01

set_option Elab.async false
set_option linter.all false
set_option maxRecDepth 100000
set_option maxHeartbeats 2000000
/-! Mk01e: the law's own look at names. -/
namespace K01
open PySem Pd L2 Md
section
variable {C : CT} {st : Sto} {d : PyData}
theorem tx_a : ("a" : Str) = ⟨#[97]⟩ := by decide +kernel
theorem tx_z : ("z" : Str) = ⟨#[122]⟩ := by decide +kernel
theorem tx_0 : ("0" : Str) = ⟨#[48]⟩ := by decide +kernel
theorem tx_9 : ("9" : Str) = ⟨#[57]⟩ := by decide +kernel
theorem sh_empty : SeqAt.shaped (.str "") = true := by decide +kernel
def smallE : MN := mLc (mIterS (mVar 0)) (gSet 3) mYes (mAndV (mBin leD (mC (.str "a")) (mVar 3)) (mBin leD (mVar 3) (mC (.str "z")))) [3]
def figE : MN := mLc (mIterS (mVar 0)) (gSet 3) mYes (mAndV (mBin leD (mC (.str "0")) (mVar 3)) (mBin leD (mVar 3) (mC (.str "9")))) [3]
def orE : MN := mLc (mZip (mCons (mVar 1) (mCons (mVar 2) mNil))) (gTupD (gAnd (gSet 4) (gAnd (gSet 5) gNo)) 2) mYes (mOrV (mVar 4) (mVar 5)) [4, 5]
theorem named_is : m_law_named C = (mSeq (mIfS (mOr (mNot (mTru (mIsi "str" (mVar 0)))) (mOr (mTest (mBin eqD (mVar 0) (mC (.str "")))) (mTest (mBin gtD (mBlt lenD (mCons (mVar 0) mNil)) (mC (.int 8)))))) (mRet (mC (.bool false))) mSkip)
  (mSeq (mSet 1 (mNew smallE)) (mSeq (mSet 2 (mNew figE)) (mRet (mAndV (mBin ixD (mVar 1) (mC (.int 0))) (mBlt allD (mCons (mNew orE) mNil))))))) := rfl
theorem small_e {e1 e2 e4 e5 : Option D} (x : Str) (hz : x.cps.toList.length < sizeLine) : smallE [some (.dat (.str x)), e1, e2, none, e4, e5] st = .ok ((x.cps.toList.map small).map .bool) st := by
  have r := lc_range (st := st) (lo := 97) (hi := 122) (e1 := e1) (e2 := e2) (e4 := e4) (e5 := e5) x hz
  rw [← tx_a, ← tx_z] at r
  rw [List.map_map]
  exact r
theorem fig_e {e1 e2 e4 e5 : Option D} (x : Str) (hz : x.cps.toList.length < sizeLine) : figE [some (.dat (.str x)), e1, e2, none, e4, e5] st = .ok ((x.cps.toList.map fig).map .bool) st := by
  have r := lc_range (st := st) (lo := 48) (hi := 57) (e1 := e1) (e2 := e2) (e4 := e4) (e5 := e5) x hz
  rw [← tx_0, ← tx_9] at r
  rw [List.map_map]
  exact r
theorem bools_bool : ∀ bs : List Bool, bools (bs.map PyData.bool) = some bs
  | [] => rfl
  | b :: bs => by simp [bools, bools_bool bs]
theorem named_ok (h : Fine d) : WR (bodyM 6 (m_law_named C) [.dat d] st) fun r s => r = .dat (.bool (nameB d)) ∧ s = st := by
  obtain ⟨t1, t2, t3, t4, t5, t6⟩ := kb_str
  refine wr_body ?_
  rw [named_is]
  cases d with
  | str x =>
    obtain ⟨h1, h2⟩ := h
    have h2 : x.length ≤ sizeLine := h2
    have hl : x.length = x.cps.toList.length := by simp [Str.length]
    cases hx : x.cps.toList with
    | nil =>
      have x0 : x = "" := by
        have e : x.cps = #[] := by
          apply Array.toList_inj.mp
          rw [hx]
        cases x
        cases e
        rfl
      have e0 : isS "" (PyData.str x) = true := by rw [x0]; decide +kernel
      simp [wq_seq, seq_next, seq_ret, seq_retN, mIfS, mIf, wq_of, wq_ret, wq_retN, wq_next, wq_bad, wr_ite, wq_ite, mOr, mAnd, mNot, mTru, mTest, mIsi, mVar, mC, mRet, mSet, mSkip, mBin, mUn, mAndV, mOrV, mNotV, wr_bind, wr_opt, wr_ok, wr_bad, val, vals, tyName, truO, tru, mBlt, mCons, mNil, lenD, mTup, mNew, mLst, dats, mSl, mPart, mNoP, ex_and_eq, t4, eqD, h1, sh_empty, eqv_r, e0, nameB, hx]
    | cons c r =>
      have l0 : (x.length : Int) = (r.length : Int) + 1 := by rw [hl, hx]; simp
      have x0 : isS "" (PyData.str x) = false := by
        cases q : isS "" (PyData.str x) with
        | false => rfl
        | true =>
          have e : x = "" := beq_iff_eq.mp q
          rw [e] at hx
          cases hx
      by_cases h8 : r.length < 8
      · have h8' : ¬ (8 : Int) < (r.length : Int) + 1 := by omega
        have hz : x.cps.toList.length < sizeLine := by
          rw [hx]
          simp [sizeLine]
          omega
        have f1 := small_e (st := st) (e1 := none) (e2 := none) (e4 := none) (e5 := none) x hz
        have f2 := fun e => fig_e (st := st) (e1 := e) (e2 := none) (e4 := none) (e5 := none) x hz
        have f3 := lc_or (st := st) (e0 := some (.dat (.str x))) (e3 := none) (x.cps.toList.map small) (x.cps.toList.map fig) (by simpa using hz)
        have f3' : orE [some (.dat (.str x)), some (.dat (.list ((x.cps.toList.map small).map .bool))), some (.dat (.list ((x.cps.toList.map fig).map .bool))), none, none, none] st = .ok ((x.cps.toList.map fun c => small c || fig c).map .bool) st := by
          rw [List.zipWith_map, List.zipWith_self] at f3
          exact f3
        have b1 := bools_bool (x.cps.toList.map fun c => small c || fig c)
        have i0 : ixD (.list ((x.cps.toList.map small).map .bool)) (.int 0) = some (.bool (small c)) := by
          rw [hx]
          simp [ixD, at_0]
        have ad : allD [.list ((x.cps.toList.map fun c => small c || fig c).map .bool)] = some (.bool (x.cps.toList.all fun c => small c || fig c)) := by
          simp only [allD, b1, Option.map_some, List.all_map]
          rfl
        have nb : nameB (.str x) = (small c && x.cps.toList.all fun c => small c || fig c) := by
          simp only [nameB, hx, h8, decide_true, Bool.true_and]
        rw [nb]
        clear nb f3 b1
        generalize (x.cps.toList.map small).map PyData.bool = L1 at f1 f3' i0
        generalize (x.cps.toList.map fig).map PyData.bool = L2 at f2 f3'
        generalize (x.cps.toList.map fun c => small c || fig c).map PyData.bool = L3 at f3' ad
        generalize (x.cps.toList.all fun c => small c || fig c) = B at ad
        cases hs : small c <;> simp [wq_seq, seq_next, seq_ret, seq_retN, mIfS, mIf, wq_of, wq_ret, wq_retN, wq_next, wq_bad, wr_ite, wq_ite, mOr, mAnd, mNot, mTru, mTest, mIsi, mVar, mC, mRet, mSet, mSkip, mBin, mUn, mAndV, mOrV, mNotV, wr_bind, wr_opt, wr_ok, wr_bad, val, vals, tyName, truO, tru, mBlt, mCons, mNil, lenD, mTup, mNew, mLst, dats, mSl, mPart, mNoP, ex_and_eq, t4, eqD, h1, sh_empty, eqv_r, x0, gtD, h2, l0, h8', f1, f2, f3', i0, ad, hs]
      · have h8' : (8 : Int) < (r.length : Int) + 1 := by omega
        simp [wq_seq, seq_next, seq_ret, seq_retN, mIfS, mIf, wq_of, wq_ret, wq_retN, wq_next, wq_bad, wr_ite, wq_ite, mOr, mAnd, mNot, mTru, mTest, mIsi, mVar, mC, mRet, mSet, mSkip, mBin, mUn, mAndV, mOrV, mNotV, wr_bind, wr_opt, wr_ok, wr_bad, val, vals, tyName, truO, tru, mBlt, mCons, mNil, lenD, mTup, mNew, mLst, dats, mSl, mPart, mNoP, ex_and_eq, t4, eqD, h1, sh_empty, eqv_r, x0, gtD, h2, l0, h8', nameB, hx, h8]
  | dict l => simp [Fine, SeqAt.shaped, PyData.canLay0] at h
  | _ => simp [wq_seq, seq_next, seq_ret, seq_retN, mIfS, mIf, wq_of, wq_ret, wq_retN, wq_next, wq_bad, wr_ite, wq_ite, mOr, mAnd, mNot, mTru, mTest, mIsi, mVar, mC, mRet, mSet, mSkip, mBin, mUn, mAndV, mOrV, mNotV, wr_bind, wr_opt, wr_ok, wr_bad, val, vals, tyName, truO, tru, mBlt, mCons, mNil, lenD, mTup, mNew, mLst, dats, mSl, mPart, mNoP, ex_and_eq, t1, t2, t3, t4, t5, t6, nameB]
end
end K01

set_option Elab.async false
set_option linter.all false
set_option maxRecDepth 100000
set_option maxHeartbeats 2000000
/-! Mk01f: loops, draws; the great numbers. -/
namespace K01
open PySem Pd L2 Md

/-- a loop by what holds ahead of each turn -/
theorem wq_loop {g : PyData → Pd.Env → Option Pd.Env} {m : MS} {Q : RS → Prop} {J : Nat → Pd.Env → Sto → Prop} (N : Nat) : ∀ (ds : List PyData) (i : Nat) (env : Pd.Env) (st : Sto), i + ds.length = N → J i env st →
    (∀ k d env st, k < N → d ∈ ds → J k env st → ∃ env1, g d env = some env1 ∧ WQ (m env1 st) fun r => ∃ e s, r = .next e s ∧ J (k + 1) e s) → (∀ env st, J N env st → Q (.next env st)) → WQ (loopM g m ds env st) Q
  | [], i, env, st, hN, h, _, hq => by
    have e : i = N := by simpa using hN
    subst e
    exact hq env st h
  | d :: ds, i, env, st, hN, h, step, hq => by
    have hN' : i + 1 + ds.length = N := by rw [List.length_cons] at hN; omega
    obtain ⟨env1, e1, w⟩ := step i d env st (by omega) (List.mem_cons_self ..) h
    simp only [loopM, e1]
    cases hm : m env1 st with
    | next e s =>
      rw [hm] at w
      obtain ⟨e', s', q, hj⟩ := w
      cases q
      exact wq_loop N ds (i + 1) e s hN' hj (fun k x en s' hk hx => step k x en s' hk (List.mem_cons_of_mem _ hx)) hq
    | bad => rw [hm] at w; exact w.elim
    | exc c fs s => rw [hm] at w; exact w.elim
    | ret d s => rw [hm] at w; obtain ⟨_, _, q, _⟩ := w; cases q
    | retN d s => rw [hm] at w; obtain ⟨_, _, q, _⟩ := w; cases q
    | brk d s => rw [hm] at w; obtain ⟨_, _, q, _⟩ := w; cases q
    | cnt d s => rw [hm] at w; obtain ⟨_, _, q, _⟩ := w; cases q
def Draws (C : CT) : Prop := ∀ (b : Nat) (o : O) (rest : Sto) (many : Int), Feed (b + 1) o → 0 < many → many < 2 ^ 200 → WR (C.law_draw [.ref 0, .dat (.int many)] (o :: rest)) fun r st => ∃ v o', r = .dat (.int v) ∧ 0 ≤ v ∧ v < many ∧ Feed b o' ∧ st = o' :: rest
theorem wr_draw {C : CT} (hD : Draws C) {b : Nat} {env : Pd.Env} {o : O} {rest : Sto} {many : Int} {mm : ME} {Q : D → Sto → Prop} (hF : Feed (b + 1) o) (h0 : env[0]? = some (some (.ref 0))) (hm : mm env (o :: rest) = .ok (.dat (.int many)) (o :: rest)) (h1 : 0 < many) (h2 : many < 2 ^ 200)
    (hQ : ∀ v o', 0 ≤ v → v < many → Feed b o' → Q (.dat (.int v)) (o' :: rest)) : WR (mCall C.law_draw (mCons (mVar 0) (mCons mm mNil)) env (o :: rest)) Q := by
  simp only [mCall, mCons, mNil, mVar, wr_bind, h0, Option.bind_some, wr_opt, Option.some.injEq, exists_eq_left', hm, wr_ok]
  refine (hD b o rest many hF h1 h2).mono fun r st hr => ?_
  obtain ⟨v, o', rfl, a1, a2, a3, rfl⟩ := hr
  exact wr_ok.mpr (hQ v o' a1 a2 a3)
section
variable {C : CT}
theorem pow10 {k : Nat} (q r : Int) (q0 : 0 ≤ q) (q1 : q < 10 ^ k) (r0 : 0 ≤ r) (r1 : r < 10 ^ 6) : 0 ≤ q * 10 ^ 6 + r ∧ q * 10 ^ 6 + r < 10 ^ (k + 6) := by
  have e : (10 : Int) ^ (k + 6) = 10 ^ k * 10 ^ 6 := by rw [Int.pow_add]
  have h : q * 10 ^ 6 ≤ (10 ^ k - 1) * 10 ^ 6 := Int.mul_le_mul_of_nonneg_right (by omega) (by decide)
  rw [e]
  have p6 : (10 : Int) ^ 6 = 1000000 := by decide
  rw [p6] at h r1 ⊢
  constructor
  · omega
  · rw [Int.sub_mul] at h
    omega
theorem pow_le {k n : Nat} (h : k ≤ n) : (10 : Int) ^ k ≤ 10 ^ n := by
  have := Nat.pow_le_pow_right (n := 10) (by decide) h
  exact_mod_cast this
theorem great_loop (hD : Draws C) {b : Nat} {rest : Sto} {Q : RS → Prop} {t n : Int} {o3 : O} {x : Option D} (t0 : 0 ≤ t) (t1 : t < 100) (n0 : 0 ≤ n) (n1 : n < 33) (F3 : Feed (b + 32) o3)
    (hq : ∀ q o4 x, 0 ≤ q → q < 10 ^ 200 → Feed b o4 → Q (.next [some (.ref 0), some (.dat (.int q)), x] (o4 :: rest))) :
    WQ (loopM (gSet 2) (mSet 1 (mBin addD (mBin mulD (mVar 1) (mBin powD (mC (.int 10)) (mC (.int 6)))) (mCall C.law_draw (mCons (mVar 0) (mCons (mBin powD (mC (.int 10)) (mC (.int 6))) mNil))))) (rangeL 0 n.toNat) [some (.ref 0), some (.dat (.int t)), x] (o3 :: rest)) Q := by
  have hlen : (rangeL 0 n.toNat).length ≤ 32 := by simp [rangeL]; omega
  have pw : CPow 10 6 := ⟨by decide, by decide, by decide⟩
  refine wq_loop (J := fun k env st => ∃ (q : Int) (o4 : O) (x : Option D), env = [some (.ref 0), some (.dat (.int q)), x] ∧ 0 ≤ q ∧ q < 10 ^ (2 + 6 * k) ∧ (∃ c, c + k = b + 32 ∧ Feed c o4) ∧ st = o4 :: rest) _ _ 0 _ _ (Nat.zero_add _) ⟨t, o3, x, rfl, t0, by simpa using t1, ⟨b + 32, rfl, F3⟩, rfl⟩ ?_ ?_
  · rintro k d env st hk hd ⟨q, o4, y, rfl, q0, q1, ⟨c, hc, F4⟩, rfl⟩
    refine ⟨_, rfl, ?_⟩
    have q2 : q < 2 ^ 700 := by
      refine Int.lt_of_lt_of_le q1 (Int.le_trans (pow_le (n := 200) (by omega)) ?_)
      decide +kernel
    have hm : CMulW q 1000000 := by
      have h1 := log2_lt (k := 700) (by omega) q0 q2
      have e : (1000000 : Int).natAbs.log2 = 19 := by decide
      show _ + _ < 1000000
      omega
    obtain ⟨c', rfl⟩ : ∃ c', c = c' + 1 := ⟨c - 1, by omega⟩
    simp only [mSet, wq_of, mBin, wr_bind, gSet, List.set]
    simp [wr_ok, wr_opt, mVar, mC, val, powD, mulD, intD, pw, hm, ex_and_eq]
    refine wr_draw hD (b := c') (many := 1000000) F4 rfl (by simp [mBin, mC, R.bind, R.opt, val, intD, pw]) (by omega) (by omega) fun v o5 v0 v1 F5 => ?_
    have pp := pow10 q v q0 q1 v0 (by simpa using v1)
    have e6 : (10 : Int) ^ 6 = 1000000 := by decide
    rw [e6] at pp
    simp [wr_ok, wr_opt, addD, wq_next]
    have e7 : 2 + 6 * (k + 1) = 2 + 6 * k + 6 := by omega
    refine ⟨_, _, ⟨rfl, rfl⟩, q * 1000000 + v, ⟨_, rfl⟩, pp.1, by rw [e7]; exact pp.2, o5, ⟨c', by omega, F5⟩, rfl⟩
  · rintro env st ⟨q, o4, y, rfl, q0, q1, ⟨c, hc, F4⟩, rfl⟩
    refine hq q o4 y q0 (Int.lt_of_lt_of_le q1 (pow_le (by omega))) ?_
    obtain ⟨cells, p, r, cc, rfl, a1, a2, a3, a4⟩ := F4
    exact ⟨cells, p, r, cc, rfl, a1, a2, a3, by omega⟩
theorem great_ok (hD : Draws C) {b : Nat} {o : O} {rest : Sto} (hF : Feed (b + 40) o) : WR (bodyM 3 (m_law_great C) [.ref 0] (o :: rest)) fun r st => ∃ i o', r = .dat (.int i) ∧ i.natAbs < 10 ^ 200 ∧ Feed b o' ∧ st = o' :: rest := by
  refine wr_body ?_
  generalize hP : ((10 : Nat) ^ 200) = P
  simp only [m_law_great, wq_seq, mSet, wq_of, List.map, List.length, List.replicate, List.cons_append, List.nil_append]
  refine wr_draw hD (b := b + 39) hF rfl rfl (by omega) (by omega) fun t o1 t0 t1 F1 => ?_
  simp only [wq_next, seq_next, mFor, wq_of, mRng1, wr_bind, mIf, mTest, mBin, wq_seq]
  refine wr_draw hD (b := b + 38) F1 rfl rfl (by omega) (by omega) fun u o2 u0 u1 F2 => ?_
  have fin : ∀ (q : Int) (o4 : O) (x : Option D), 0 ≤ q → q < 10 ^ 200 → Feed (b + 2) o4 → WQ (mRet (mIf (mTest (mBin eqD (mCall C.law_draw (mCons (mVar 0) (mCons (mC (.int 2)) mNil))) (mC (.int 0)))) (mUn negD (mVar 1)) (mVar 1)) [some (.ref 0), some (.dat (.int q)), x] (o4 :: rest)) fun r => ∃ i o', r = .ret (.dat (.int i)) (o' :: rest) ∧ i.natAbs < P ∧ Feed b o' := by
    intro q o4 x q0 q1 F4
    have qn : q.natAbs < P := by
      rw [← hP]
      have e : ((10 ^ 200 : Nat) : Int) = (10 : Int) ^ 200 := by rw [Int.natCast_pow]; rfl
      have := Int.natAbs_of_nonneg q0
      omega
    have F5 : Feed (b + 1) o4 := by
      obtain ⟨cells, p, r, cc, rfl, a1, a2, a3, a4⟩ := F4
      exact ⟨cells, p, r, cc, rfl, a1, a2, a3, by omega⟩
    simp only [mRet, wq_of, mIf, wr_bind, mTest, mBin]
    refine wr_draw hD (b := b) F5 rfl rfl (by omega) (by omega) fun w o5 w0 w1 F6 => ?_
    by_cases hw : w = 0
    · subst hw
      simp [wq_seq, seq_next, seq_ret, seq_retN, mIfS, mIf, wq_of, wq_ret, wq_retN, wq_next, wq_bad, wr_ite, wq_ite, mOr, mAnd, mNot, mTru, mTest, mIsi, mVar, mC, mRet, mSet, mSkip, mBin, mUn, mAndV, mOrV, mNotV, wr_bind, wr_opt, wr_ok, wr_bad, val, vals, tyName, truO, tru, mBlt, mCons, mNil, lenD, mTup, mNew, mLst, dats, mSl, mPart, mNoP, ex_and_eq, eqD, sh_int, eqv_int, negD]
      exact ⟨qn, F6⟩
    · simp [wq_seq, seq_next, seq_ret, seq_retN, mIfS, mIf, wq_of, wq_ret, wq_retN, wq_next, wq_bad, wr_ite, wq_ite, mOr, mAnd, mNot, mTru, mTest, mIsi, mVar, mC, mRet, mSet, mSkip, mBin, mUn, mAndV, mOrV, mNotV, wr_bind, wr_opt, wr_ok, wr_bad, val, vals, tyName, truO, tru, mBlt, mCons, mNil, lenD, mTup, mNew, mLst, dats, mSl, mPart, mNoP, ex_and_eq, eqD, sh_int, eqv_int, hw]
      exact ⟨qn, F6⟩
  have less : ∀ {c c' : Nat} {o : O}, c' ≤ c → Feed c o → Feed c' o := fun {c c' o} h F => by
    obtain ⟨cells, p, r, cc, rfl, a1, a2, a3, a4⟩ := F
    exact ⟨cells, p, r, cc, rfl, a1, a2, a3, by omega⟩
  by_cases hu : u = 0
  · subst hu
    simp [wr_ok, wr_opt, mC, val, eqD, sh_int, eqv_int]
    refine wr_draw hD (b := b + 37) F2 rfl rfl (by omega) (by omega) fun n o3 n0 n1 F3 => ?_
    have c1 : -4611686018427387904 ≤ n ∧ n < 4611686018427387904 := by omega
    simp only [c1, and_self, if_true, wr_ok]
    refine great_loop hD (b := b + 2) t0 t1 n0 n1 (less (by omega) F3) fun q o4 x q0 q1 F4 => ?_
    refine (fin q o4 x q0 q1 F4).mono fun r hr => ?_
    obtain ⟨i, o', rfl, h1, h2⟩ := hr
    exact ⟨i, rfl, h1, o', h2, by simp⟩
  · simp [wr_ok, wr_opt, mC, val, eqD, sh_int, eqv_int, hu]
    refine great_loop hD (b := b + 2) (n := 0) t0 t1 (by omega) (by omega) (less (by omega) F2) fun q o4 x q0 q1 F4 => ?_
    refine (fin q o4 x q0 q1 F4).mono fun r hr => ?_
    obtain ⟨i, o', rfl, h1, h2⟩ := hr
    exact ⟨i, rfl, h1, o', h2, by simp⟩
end
end K01

set_option Elab.async false
set_option linter.all false
set_option maxRecDepth 100000
set_option maxHeartbeats 2000000
/-! Mk01g: texts made by draws. -/
namespace K01
open PySem Pd L2 Md

/-- a text of signs, at most n of them -/
def Txt (n : Nat) (x : Str) : Prop := (∀ c ∈ x.cps.toList, c < 0x110000) ∧ x.cps.toList.length ≤ n
theorem Txt.ok {n : Nat} {x : Str} (h : Txt n x) : PyData.strOk x = true := by
  show x.cps.all (· < 0x110000) = true
  rw [Array.all_eq_true_iff_forall_mem]
  intro c hc
  simpa using h.1 c (Array.mem_toList_iff.mpr hc)
theorem Txt.of {n : Nat} {x : Str} (h : PyData.strOk x = true) (hl : x.cps.toList.length ≤ n) : Txt n x := by
  refine ⟨fun c hc => ?_, hl⟩
  have h' : x.cps.all (· < 0x110000) = true := h
  rw [Array.all_eq_true_iff_forall_mem] at h'
  simpa using h' c (Array.mem_toList_iff.mp hc)
theorem Txt.app {n m : Nat} {x y : Str} (h1 : Txt n x) (h2 : Txt m y) : Txt (n + m) (x ++ y) := by
  refine ⟨fun c hc => ?_, ?_⟩
  · rw [cat_l] at hc
    rcases List.mem_append.mp hc with q | q
    · exact h1.1 c q
    · exact h2.1 c q
  · rw [cat_l, List.length_append]
    have := h1.2
    have := h2.2
    omega
theorem mem_cut {α : Type} {c : α} {xs : List α} {lo hi : Option Int} (h : c ∈ cut xs lo hi) : c ∈ xs := List.mem_of_mem_drop (List.mem_of_mem_take h)
theorem len_cut {α : Type} {xs : List α} {lo hi : Option Int} : (cut xs lo hi).length ≤ xs.length := by
  unfold cut
  rw [List.length_take, List.length_drop]
  omega
theorem cutS_l (z : Str) (lo hi : Option Int) : (cutS z lo hi).cps.toList = cut z.cps.toList lo hi := by
  have e : z.length = z.cps.toList.length := by simp [Str.length]
  simp only [cutS, cut, e]
theorem Txt.cut {n : Nat} {x : Str} (h : Txt n x) (lo hi : Option Int) : Txt n (cutS x lo hi) := by
  refine ⟨fun c hc => ?_, ?_⟩
  · rw [cutS_l] at hc
    exact h.1 c (mem_cut hc)
  · rw [cutS_l]
    exact Nat.le_trans len_cut h.2
theorem Txt.len {n : Nat} {x : Str} (h : Txt n x) : x.length ≤ n := by
  have := h.2
  have e : x.length = x.cps.toList.length := by simp [Str.length]
  omega
theorem ix_txt {n : Nat} {x : Str} {v : Int} (h : Txt n x) (hn : n ≤ sizeLine) (v0 : 0 ≤ v) (v1 : v < x.cps.toList.length) : ∃ y, ixD (.str x) (.int v) = some (.str y) ∧ Txt 1 y := by
  obtain ⟨c, hc, e⟩ := atI_lt v0 v1
  have hl : x.length ≤ sizeLine := Nat.le_trans h.len hn
  refine ⟨⟨#[c]⟩, ?_, fun d hd => ?_, by simp⟩
  · simp only [ixD, hl, if_true, e, Option.map_some]
  · have : d = c := by simpa using hd
    rw [this]
    exact h.1 c hc
theorem feed_less {c c' : Nat} {o : O} (h : c' ≤ c) (F : Feed c o) : Feed c' o := by
  obtain ⟨cells, p, r, cc, rfl, a1, a2, a3, a4⟩ := F
  exact ⟨cells, p, r, cc, rfl, a1, a2, a3, by omega⟩
theorem spoil_signs : Txt 94 " !\"#$&'()*+,-./0123456789:;<=>?@ABCDEFGHIJKLMNOPQRSTUVWXYZ[\\]^_`abcdefghijklmnopqrstuvwxyz{|}~" := Txt.of (by decide +kernel) (by decide +kernel)
theorem spoil_len : (" !\"#$&'()*+,-./0123456789:;<=>?@ABCDEFGHIJKLMNOPQRSTUVWXYZ[\\]^_`abcdefghijklmnopqrstuvwxyz{|}~" : Str).length = 94 := by decide +kernel
section
variable {C : CT}
theorem spoilt_ok (hD : Draws C) {b n : Nat} {o : O} {rest : Sto} {x : Str} (hF : Feed (b + 3) o) (hx : Txt n x) (h0 : 0 < x.cps.toList.length) (hn : n ≤ 100000) :
    WR (bodyM 6 (m_law_spoilt C) [.ref 0, .dat (.str x)] (o :: rest)) fun r st => ∃ y o', r = .dat (.str y) ∧ Txt (n + n + 1) y ∧ Feed b o' ∧ st = o' :: rest := by
  refine wr_body ?_
  have hs : (1000000 : Nat) ≤ sizeLine := by decide
  have lx : x.length ≤ n := hx.len
  have ex : x.length = x.cps.toList.length := by simp [Str.length]
  have z1 : x.length ≤ sizeLine := by omega
  simp only [m_law_spoilt]
  generalize hS : (" !\"#$&'()*+,-./0123456789:;<=>?@ABCDEFGHIJKLMNOPQRSTUVWXYZ[\\]^_`abcdefghijklmnopqrstuvwxyz{|}~" : Str) = S
  have sS : Txt 94 S := by rw [← hS]; exact spoil_signs
  have lS : S.length = 94 := by rw [← hS]; exact spoil_len
  have eS : S.length = S.cps.toList.length := by simp [Str.length]
  have z2 : S.length ≤ sizeLine := by omega
  simp only [wq_seq, mSet, wq_of, mC, wr_ok, wq_next, seq_next, List.map, List.length, List.replicate, List.cons_append, List.nil_append, List.set]
  refine wr_draw hD (b := b + 2) (many := (x.length : Int)) hF rfl (by simp [mBlt, mCons, mNil, mVar, R.bind, R.opt, vals, val, lenD, z1]) (by omega) (by omega) fun v o1 v0 v1 F1 => ?_
  simp only [wq_next, seq_next, wq_seq, wq_of, mBin, wr_bind, mVar, List.set]
  rw [wr_opt]
  refine ⟨_, rfl, ?_⟩
  refine wr_draw hD (b := b + 1) (many := (S.length : Int)) F1 rfl (by simp [mBlt, mCons, mNil, mVar, R.bind, R.opt, vals, val, lenD, z2]) (by omega) (by omega) fun w o2 w0 w1 F2 => ?_
  obtain ⟨y, ey, ty⟩ := ix_txt sS (by omega) w0 (by omega)
  simp only [val, ey, Option.map_some, wr_opt]
  refine ⟨_, rfl, ?_⟩
  refine wr_draw hD (b := b) (many := 3) F2 rfl rfl (by omega) (by omega) fun u o3 u0 u1 F3 => ?_
  have A := hx.cut none (some v)
  have lA := A.len
  have ly := ty.len
  have le : ("" : Str).length = 0 := by decide
  have te : Txt 0 "" := Txt.of (by decide +kernel) (by decide +kernel)
  have fin : ∀ (m : Str) (q : Int), Txt 1 m → (cutS x none (some v)).length + m.length ≤ sizeLine ∧ (cutS x none (some v) ++ m).length + (cutS x (some (v + q)) none).length ≤ sizeLine ∧ Txt (n + n + 1) (cutS x none (some v) ++ m ++ cutS x (some (v + q)) none) := fun m q hm => by
    have B := hx.cut (some (v + q)) none
    have lB := B.len
    have lm := hm.len
    have AM := A.app hm
    have lAM := AM.len
    have T := AM.app B
    exact ⟨by omega, by omega, T.1, by have := T.2; omega⟩
  by_cases h2 : u = 2
  · subst h2
    obtain ⟨f1, f2, f3⟩ := fin "" 1 ⟨te.1, by have := te.2; omega⟩
    simp [wq_seq, seq_next, seq_ret, seq_retN, mIfS, mIf, wq_of, wq_ret, wq_retN, wq_next, wq_bad, wr_ite, wq_ite, mOr, mAnd, mNot, mTru, mTest, mIsi, mVar, mC, mRet, mSet, mSkip, mBin, mUn, mAndV, mOrV, mNotV, wr_bind, wr_opt, wr_ok, wr_bad, val, vals, tyName, truO, tru, mBlt, mCons, mNil, lenD, mTup, mNew, mLst, dats, mSl, mPart, mNoP, ex_and_eq, eqD, sh_int, eqv_int, slD, z1, addD, f1, f2]
    exact ⟨f3, F3⟩
  · by_cases h1 : u = 1
    · subst h1
      obtain ⟨f1, f2, f3⟩ := fin y 0 ty
      simp only [Int.add_zero] at f2 f3
      simp [wq_seq, seq_next, seq_ret, seq_retN, mIfS, mIf, wq_of, wq_ret, wq_retN, wq_next, wq_bad, wr_ite, wq_ite, mOr, mAnd, mNot, mTru, mTest, mIsi, mVar, mC, mRet, mSet, mSkip, mBin, mUn, mAndV, mOrV, mNotV, wr_bind, wr_opt, wr_ok, wr_bad, val, vals, tyName, truO, tru, mBlt, mCons, mNil, lenD, mTup, mNew, mLst, dats, mSl, mPart, mNoP, ex_and_eq, eqD, sh_int, eqv_int, slD, z1, addD, f1, f2]
      exact ⟨f3, F3⟩
    · obtain ⟨f1, f2, f3⟩ := fin y 1 ty
      simp [wq_seq, seq_next, seq_ret, seq_retN, mIfS, mIf, wq_of, wq_ret, wq_retN, wq_next, wq_bad, wr_ite, wq_ite, mOr, mAnd, mNot, mTru, mTest, mIsi, mVar, mC, mRet, mSet, mSkip, mBin, mUn, mAndV, mOrV, mNotV, wr_bind, wr_opt, wr_ok, wr_bad, val, vals, tyName, truO, tru, mBlt, mCons, mNil, lenD, mTup, mNew, mLst, dats, mSl, mPart, mNoP, ex_and_eq, eqD, sh_int, eqv_int, slD, z1, addD, f1, f2, h1, h2]
      exact ⟨f3, F3⟩
end
end K01

set_option Elab.async false
set_option linter.all false
set_option maxRecDepth 100000
set_option maxHeartbeats 2000000
/-! Mk01h: names made by draws. -/
namespace K01
open PySem Pd L2 Md
theorem name_signs : Txt 36 "abcdefghijklmnopqrstuvwxyz0123456789" := Txt.of (by decide +kernel) (by decide +kernel)
theorem name_len : ("abcdefghijklmnopqrstuvwxyz0123456789" : Str).cps.toList.length = 36 := by decide +kernel
theorem sh_nilL : SeqAt.shaped (.list []) = true := by decide
theorem eqv_nilL : (PyData.list []).eqv (.list []) = true := by decide
theorem Txt.sh {n : Nat} {x : Str} (h : Txt n x) : SeqAt.shaped (.str x) = true := by
  simp [SeqAt.shaped, PyData.canLay0, PyData.depth, h.ok]
theorem ix_txt1 {n : Nat} {x : Str} {v : Int} (h : Txt n x) (hn : n ≤ sizeLine) (v0 : 0 ≤ v) (v1 : v < x.cps.toList.length) : ∃ y, ixD (.str x) (.int v) = some (.str y) ∧ Txt 1 y ∧ y.cps.toList.length = 1 := by
  obtain ⟨c, hc, e⟩ := atI_lt v0 v1
  have hl : x.length ≤ sizeLine := Nat.le_trans h.len hn
  refine ⟨⟨#[c]⟩, ?_, ⟨fun d hd => ?_, by simp⟩, by simp⟩
  · simp only [ixD, hl, if_true, e, Option.map_some]
  · have : d = c := by simpa using hd
    rw [this]
    exact h.1 c hc
theorem len_cat (x y : Str) : (x ++ y).cps.toList.length = x.cps.toList.length + y.cps.toList.length := by rw [cat_l, List.length_append]
section
variable {C : CT}
theorem name_mk (hD : Draws C) {b : Nat} {o : O} {rest : Sto} (hF : Feed (b + 12) o) :
    WR (bodyM 7 (m_law_name C) [.ref 0, .dat (.list [])] (o :: rest)) fun r st => ∃ y o', r = .dat (.str y) ∧ Txt 8 y ∧ 0 < y.cps.toList.length ∧ Feed b o' ∧ st = o' :: rest := by
  refine wr_body ?_
  have hs : (1000000 : Nat) ≤ sizeLine := by decide
  simp only [m_law_name]
  generalize hS : ("abcdefghijklmnopqrstuvwxyz0123456789" : Str) = S
  have sS : Txt 36 S := by rw [← hS]; exact name_signs
  have lS : S.cps.toList.length = 36 := by rw [← hS]; exact name_len
  simp only [wq_seq, mSet, wq_of, mC, wr_ok, wq_next, seq_next, List.map, List.length, List.replicate, List.cons_append, List.nil_append, List.set]
  refine wr_draw hD (b := b + 11) hF rfl rfl (by omega) (by omega) fun way o1 w0 w1 F1 => ?_
  simp only [wq_next, seq_next, wq_seq, wq_of, mBin, wr_bind, mVar, List.set]
  rw [wr_opt]
  refine ⟨_, rfl, ?_⟩
  refine wr_draw hD (b := b + 10) F1 rfl rfl (by omega) (by omega) fun v o2 v0 v1 F2 => ?_
  obtain ⟨y, ey, ty, yl⟩ := ix_txt1 sS (by omega) v0 (by omega)
  simp only [val, ey, Option.map_some, wr_opt]
  refine ⟨_, rfl, ?_⟩
  have first : ∀ (a e : MS) (Q : RS → Prop) (x5 x6 : Option D) (z : D) (s : Sto), WQ (a [some (.ref 0), some (.dat (.list [])), some (.dat (.str S)), some (.dat (.int way)), some z, x5, x6] s) Q →
      WQ (mIfS (mOr (mTest (mBin gtD (mVar 3) (mC (.int 1)))) (mTest (mBin eqD (mVar 1) (mNew (mLst mNil))))) a e [some (.ref 0), some (.dat (.list [])), some (.dat (.str S)), some (.dat (.int way)), some z, x5, x6] s) Q := fun a e Q x5 x6 z s q => by
    by_cases hw : 1 < way
    · simp [wq_seq, seq_next, seq_ret, seq_retN, mIfS, mIf, wq_of, wq_ret, wq_retN, wq_next, wq_bad, wr_ite, wq_ite, mOr, mAnd, mNot, mTru, mTest, mIsi, mVar, mC, mRet, mSet, mSkip, mBin, mUn, mAndV, mOrV, mNotV, wr_bind, wr_opt, wr_ok, wr_bad, val, vals, tyName, truO, tru, mBlt, mCons, mNil, lenD, mTup, mNew, mLst, dats, mSl, mPart, mNoP, ex_and_eq, gtD, hw]
      exact q
    · simp [wq_seq, seq_next, seq_ret, seq_retN, mIfS, mIf, wq_of, wq_ret, wq_retN, wq_next, wq_bad, wr_ite, wq_ite, mOr, mAnd, mNot, mTru, mTest, mIsi, mVar, mC, mRet, mSet, mSkip, mBin, mUn, mAndV, mOrV, mNotV, wr_bind, wr_opt, wr_ok, wr_bad, val, vals, tyName, truO, tru, mBlt, mCons, mNil, lenD, mTup, mNew, mLst, dats, mSl, mPart, mNoP, ex_and_eq, gtD, hw, eqD, sh_nilL, eqv_nilL]
      exact q
  refine first _ _ _ _ _ _ _ ?_
  simp only [mFor, wq_of, mRng1, wr_bind]
  refine wr_draw hD (b := b + 9) F2 rfl rfl (by omega) (by omega) fun n o3 n0 n1 F3 => ?_
  have c1 : -(2 ^ 62) ≤ n ∧ n < 2 ^ 62 := by omega
  simp only [c1, and_self, if_true, wr_ok]
  have hlen : (rangeL 0 n.toNat).length ≤ 7 := by simp [rangeL]; omega
  refine wq_loop (J := fun k env st => ∃ (z : Str) (o4 : O) (x5 x6 : Option D), env = [some (.ref 0), some (.dat (.list [])), some (.dat (.str S)), some (.dat (.int way)), some (.dat (.str z)), x5, x6] ∧ Txt (1 + k) z ∧ 0 < z.cps.toList.length ∧ (∃ c, c + k = b + 9 ∧ Feed c o4) ∧ st = o4 :: rest) _ _ 0 _ _ (Nat.zero_add _)
    ⟨y, o3, none, none, rfl, ty, by omega, ⟨b + 9, rfl, F3⟩, rfl⟩ ?_ ?_
  · rintro k d env st hk hd ⟨z, o4, x5, x6, rfl, tz, zl, ⟨c, hc, F4⟩, rfl⟩
    refine ⟨_, rfl, ?_⟩
    obtain ⟨c', rfl⟩ : ∃ c', c = c' + 1 := ⟨c - 1, by omega⟩
    simp only [mSet, wq_of, mBin, wr_bind, gSet, List.set, mVar]
    rw [wr_opt]
    refine ⟨_, rfl, ?_⟩
    rw [wr_opt]
    refine ⟨_, rfl, ?_⟩
    refine wr_draw hD (b := c') F4 rfl rfl (by omega) (by omega) fun q o5 q0 q1 F5 => ?_
    obtain ⟨u, eu, tu, ul⟩ := ix_txt1 sS (by omega) q0 (by omega)
    have tzu := tz.app tu
    have l1 := tz.len
    have l2 := tu.len
    have fit : z.length + u.length ≤ sizeLine := by omega
    simp only [val, eu, Option.map_some, wr_opt]
    refine ⟨_, rfl, ?_⟩
    simp only [addD, fit, if_true, Option.map_some]
    rw [wr_opt]
    refine ⟨_, rfl, ?_⟩
    exact ⟨_, _, rfl, z ++ u, o5, _, _, rfl, ⟨tzu.1, by have := tzu.2; omega⟩, by rw [len_cat]; omega, ⟨c', by omega, F5⟩, rfl⟩
  · rintro env st ⟨z, o4, x5, x6, rfl, tz, zl, ⟨c, hc, F4⟩, rfl⟩
    have tz8 : Txt 8 z := ⟨tz.1, by have := tz.2; omega⟩
    have F5 : Feed b o4 := feed_less (by omega) F4
    have r30 : mRng1 (mC (.int 30)) [some (.ref 0), some (.dat (.list [])), some (.dat (.str S)), some (.dat (.int way)), some (.dat (.str z)), x5, x6] (o4 :: rest) = .ok (rangeL 0 30) (o4 :: rest) := rfl
    rw [seq_next, wq_seq]
    unfold mFor
    rw [wq_of, r30, wr_ok]
    refine wq_loop (J := fun k env st => ∃ x5 : Option D, env = [some (.ref 0), some (.dat (.list [])), some (.dat (.str S)), some (.dat (.int way)), some (.dat (.str z)), x5, x6] ∧ st = o4 :: rest) _ _ 0 _ _ (Nat.zero_add _) ⟨x5, rfl, rfl⟩ ?_ ?_
    · rintro k d env st hk hd ⟨x5, rfl, rfl⟩
      refine ⟨_, rfl, ?_⟩
      simp [wq_seq, seq_next, seq_ret, seq_retN, mIfS, mIf, wq_of, wq_ret, wq_retN, wq_next, wq_bad, wr_ite, wq_ite, mOr, mAnd, mNot, mTru, mTest, mIsi, mVar, mC, mRet, mSet, mSkip, mBin, mUn, mAndV, mOrV, mNotV, wr_bind, wr_opt, wr_ok, wr_bad, val, vals, tyName, truO, tru, mBlt, mCons, mNil, lenD, mTup, mNew, mLst, dats, mSl, mPart, mNoP, ex_and_eq, inD, inB, tz8.sh, sh_nilL, gSet]
    · rintro env st ⟨x5, rfl, rfl⟩
      simp [wq_seq, seq_next, seq_ret, seq_retN, mIfS, mIf, wq_of, wq_ret, wq_retN, wq_next, wq_bad, wr_ite, wq_ite, mOr, mAnd, mNot, mTru, mTest, mIsi, mVar, mC, mRet, mSet, mSkip, mBin, mUn, mAndV, mOrV, mNotV, wr_bind, wr_opt, wr_ok, wr_bad, val, vals, tyName, truO, tru, mBlt, mCons, mNil, lenD, mTup, mNew, mLst, dats, mSl, mPart, mNoP, ex_and_eq]
      exact ⟨tz8, by simpa using zl, F5⟩
end
end K01

set_option Elab.async false
set_option linter.all false
set_option maxRecDepth 100000
set_option maxHeartbeats 2000000
/-! Mk01i: a thing bent by draws: the ways without going down. -/
namespace K01
open PySem Pd L2 Md

theorem cut_to {α : Type} (xs : List α) {v : Int} (h0 : 0 ≤ v) : cut xs none (some v) = xs.take v.toNat := by
  have h : ¬ v < 0 := by omega
  simp only [cut, HT.sIx, h, if_false, List.drop_zero, Nat.sub_zero]
  rw [List.take_eq_take_iff]
  omega
theorem cut_from {α : Type} (xs : List α) {v : Int} (h0 : 0 ≤ v) : cut xs (some v) none = xs.drop v.toNat := by
  have h : ¬ v < 0 := by omega
  simp only [cut, HT.sIx, h, if_false]
  rw [List.take_of_length_le (by rw [List.length_drop]; exact Nat.le_refl _)]
  by_cases hv : v.toNat ≤ xs.length
  · rw [Nat.min_eq_left hv]
  · rw [Nat.min_eq_right (by omega), List.drop_length, List.drop_of_length_le (by omega)]
theorem take_goods {B k n : Nat} {xs : List PyData} (h : Goods B k n xs) (a : Nat) : Goods B k n (xs.take a) ∧ Goods B k n (xs.drop a) := by
  have e := List.take_append_drop a xs
  have t := h.tame
  have d := h.dep
  have m := h.mass
  rw [← e, tameAll_app] at t
  rw [← e, depthAll_app] at d
  rw [← e, massAll_app] at m
  rw [Bool.and_eq_true] at t
  exact ⟨⟨t.1, by omega, by omega⟩, t.2, by omega, by omega⟩
theorem goods_mono {B B' k k' n n' : Nat} {xs : List PyData} (h : Goods B k n xs) (hk : k ≤ k') (hn : n ≤ n') : Goods B k' n' xs := ⟨h.tame, Nat.le_trans h.dep hk, Nat.le_trans h.mass hn⟩
mutual
theorem tame_more {B B' : Nat} (h : B ≤ B') : ∀ d : PyData, tame B d = true → tame B' d = true
  | .none, _ => rfl
  | .bool _, _ => rfl
  | .int i, q => by
    simp only [tame, decide_eq_true_eq] at q ⊢
    omega
  | .str x, q => q
  | .list xs, q => tameAll_more h xs q
  | .tuple xs, q => tameAll_more h xs q
theorem tameAll_more {B B' : Nat} (h : B ≤ B') : ∀ xs : List PyData, tameAll B xs = true → tameAll B' xs = true
  | [], _ => rfl
  | x :: xs, q => by
    simp only [tameAll, Bool.and_eq_true] at q ⊢
    exact ⟨tame_more h x q.1, tameAll_more h xs q.2⟩
end
theorem good_mono {B B' k k' n n' : Nat} {d : PyData} (h : Good B k n d) (hB : B ≤ B') (hk : k ≤ k') (hn : n ≤ n') : Good B' k' n' d := ⟨tame_more hB d h.tame, Nat.le_trans h.dep hk, Nat.le_trans h.mass hn⟩
theorem goods_tup {B k n : Nat} {xs : List PyData} (h : Goods B k n xs) : Good B (k + 1) (n + 8) (.tuple xs) := ⟨h.tame, by show PyData.depthAll xs + 1 ≤ _; have := h.dep; omega, by show massAll xs + 8 ≤ _; have := h.mass; omega⟩
theorem goods_lst {B k n : Nat} {xs : List PyData} (h : Goods B k n xs) : Good B (k + 1) (n + 8) (.list xs) := ⟨h.tame, by show PyData.depthAll xs + 1 ≤ _; have := h.dep; omega, by show massAll xs + 8 ≤ _; have := h.mass; omega⟩
theorem goods_one {B k n : Nat} {x : PyData} (h : Good B k n x) : Goods B k (n + 2) [x] := ⟨by simp [tameAll, h.tame], by simp [PyData.depthAll]; exact h.dep, by simp [massAll]; exact h.mass⟩
theorem good_tup {B k n : Nat} {xs : List PyData} (h : Good B (k + 1) (n + 8) (.tuple xs)) : Goods B k n xs := ⟨h.tame, by have : PyData.depthAll xs + 1 ≤ k + 1 := h.dep; omega, by have : massAll xs + 8 ≤ n + 8 := h.mass; omega⟩
theorem len_mass : ∀ xs : List PyData, 2 * xs.length ≤ massAll xs
  | [] => by simp [massAll]
  | x :: xs => by
    have := len_mass xs
    simp only [massAll, List.length_cons]
    omega
theorem goods_cat {B k n m : Nat} {xs ys : List PyData} (h1 : Goods B k n xs) (h2 : Goods B k m ys) : Goods B k (n + m) (xs ++ ys) := h1.app h2
end K01

set_option Elab.async false
set_option linter.all false
set_option maxRecDepth 100000
set_option maxHeartbeats 2000000
/-! Mk01j: a thing bent at its top. -/
namespace K01
open PySem Pd L2 Md

def bendR (C : CT) : MS := (mRet (mBin ixD (mVar 2) (mCall C.law_draw (mCons (mVar 0) (mCons (mBlt lenD (mCons (mVar 2) mNil)) mNil)))))
def bendT (C : CT) : MS := (mSeq (mSet 4 (mCall C.law_draw (mCons (mVar 0) (mCons (mBin addD (mBlt lenD (mCons (mVar 1) mNil)) (mC (.int 1))) mNil))))
  (mSeq (mIfS (mTest (mBin eqD (mVar 3) (mC (.int 0)))) (mRet (mBin addD (mBin addD (mSl (mVar 1) mNoP (mPart (mVar 4))) (mTup (mCons (mBin ixD (mVar 2) (mCall C.law_draw (mCons (mVar 0) (mCons (mBlt lenD (mCons (mVar 2) mNil)) mNil)))) mNil))) (mSl (mVar 1) (mPart (mVar 4)) mNoP))) mSkip)
  (mRet (mIf (mTest (mBin eqD (mVar 3) (mC (.int 1)))) (mBin addD (mSl (mVar 1) mNoP (mPart (mVar 4))) (mSl (mVar 1) (mPart (mBin addD (mVar 4) (mC (.int 1)))) mNoP)) (mIf (mTest (mBin eqD (mVar 3) (mC (.int 2)))) (mNew (mUnN lstD (mVar 1))) (mBin addD (mVar 1) (mSl (mVar 1) mNoP (mPart (mVar 4)))))))))
def bendB (C : CT) : MS := (mSeq (mSet 3 (mCall C.law_draw (mCons (mVar 0) (mCons (mC (.int 6)) mNil))))
  (mSeq (mIfS (mAnd (mTru (mIsi "tuple" (mVar 1))) (mTest (mBin ltD (mVar 3) (mC (.int 4))))) (bendT C) mSkip)
  (mSeq (mIfS (mAnd (mTru (mIsi "int" (mVar 1))) (mTest (mBin ltD (mVar 3) (mC (.int 4))))) (mRet (mBin ixD (mTup (mCons (mBin addD (mVar 1) (mC (.int 1))) (mCons (mBin subD (mVar 1) (mC (.int 1))) (mCons (mUn negD (mVar 1)) (mCons (mTup (mCons (mVar 1) mNil)) mNil))))) (mVar 3))) mSkip)
  (mSeq (mIfS (mAnd (mTru (mIsi "str" (mVar 1))) (mTest (mBin ltD (mVar 3) (mC (.int 3))))) (mRet (mBin ixD (mTup (mCons (mBin addD (mVar 1) (mC (.str "a"))) (mCons (mSl (mVar 1) (mPart (mC (.int 1))) mNoP) (mCons (mNew (mLst (mCons (mVar 1) mNil))) mNil)))) (mVar 3))) mSkip) (bendR C)))))
theorem bend_is {C : CT} : m_law_bend C = mSeq (mIfS (mAnd (mTru (mIsi "tuple" (mVar 1))) (mAnd (mTest (mBin neD (mVar 1) (mTup mNil))) (mTest (mBin gtD (mCall C.law_draw (mCons (mVar 0) (mCons (mC (.int 4)) mNil))) (mC (.int 0)))))) (mSeq (mSet 4 (mCall C.law_draw (mCons (mVar 0) (mCons (mBlt lenD (mCons (mVar 1) mNil)) mNil))))
  (mRet (mBin addD (mBin addD (mSl (mVar 1) mNoP (mPart (mVar 4))) (mTup (mCons (mCall C.law_bend (mCons (mVar 0) (mCons (mBin ixD (mVar 1) (mVar 4)) (mCons (mVar 2) mNil)))) mNil))) (mSl (mVar 1) (mPart (mBin addD (mVar 4) (mC (.int 1)))) mNoP)))) mSkip) (bendB C) := rfl
/-- what bending makes -/
def BentQ (B : Nat) (d : PyData) (b : Nat) (rest : Sto) (r : RS) : Prop := ∃ e o', r = .ret (.dat e) (o' :: rest) ∧ Good (B + 1) (d.depth + 4) (2 * mass d + 2100) e ∧ Feed b o'
section
variable {C : CT} {B b : Nat} {o : O} {rest : Sto} {odd : List PyData} {d : PyData}
theorem bendR_ok (hD : Draws C) (ho : Goods B 2 2000 odd) (h0 : 0 < odd.length) (hF : Feed (b + 1) o) {x3 x4 : Option D} : WQ (bendR C [some (.ref 0), some (.dat d), some (.dat (.tuple odd)), x3, x4] (o :: rest)) (BentQ B d b rest) := by
  have hl := len_mass odd
  have hm := ho.mass
  simp only [bendR, mRet, wq_of, mBin, wr_bind, mVar]
  rw [wr_opt]
  refine ⟨_, rfl, ?_⟩
  refine wr_draw hD (b := b) (many := (odd.length : Int)) hF rfl (by simp [mBlt, mCons, mNil, mVar, R.bind, R.opt, vals, val, lenD]) (by omega) (by omega) fun v o1 v0 v1 F1 => ?_
  obtain ⟨e, he, ee⟩ := atI_lt v0 v1
  simp only [val, ixD, ee, Option.map_some, wr_opt]
  exact ⟨_, rfl, e, o1, rfl, good_mono (ho.mem he) (by omega) (by omega) (by omega), F1⟩
theorem bendB_int (hD : Draws C) (ho : Goods B 2 2000 odd) (h0 : 0 < odd.length) (hF : Feed (b + 3) o) {x3 x4 : Option D} {i : Int} (ht : i.natAbs < B) : WQ (bendB C [some (.ref 0), some (.dat (.int i)), some (.dat (.tuple odd)), x3, x4] (o :: rest)) (BentQ B (.int i) b rest) := by
  obtain ⟨a1, a2, a3, a4, a5, a6⟩ := kb_int
  obtain ⟨s1, s2, s3, s4, s5, s6⟩ := kb_str
  obtain ⟨t1, t2, t3, t4, t5, t6⟩ := kb_tuple
  have z4 : (4 : Nat) ≤ sizeLine := by decide
  have z1 : (1 : Nat) ≤ sizeLine := by decide
  have mi : ∀ j : Int, j.natAbs < B + 1 → Good (B + 1) ((PyData.int i).depth + 4) (2 * mass (.int i) + 2100) (.int j) := fun j hj => ⟨by simp [tame, hj], by simp [PyData.depth], by simp [mass]⟩
  simp only [bendB, wq_seq, mSet, wq_of]
  refine wr_draw hD (b := b + 2) hF rfl rfl (by omega) (by omega) fun w o1 w0 w1 F1 => ?_
  by_cases hw : w < 4
  · have cases4 : w = 0 ∨ w = 1 ∨ w = 2 ∨ w = 3 := by omega
    have q1 := mi (i + 1) (by omega)
    have q2 := mi (i - 1) (by omega)
    have q3 := mi (-i) (by omega)
    have q4 : Good (B + 1) ((PyData.int i).depth + 4) (2 * mass (.int i) + 2100) (.tuple [.int i]) := good_mono (B := B + 1) (goods_tup (goods_one (k := 0) (n := 251) (x := .int i) ⟨by simp [tame]; omega, by simp [PyData.depth], by simp [mass]⟩)) (Nat.le_refl _) (by omega) (by simp [mass])
    have i0 : ∀ a b c d : PyData, atI [a, b, c, d] (0 : Int) = some a := fun _ _ _ _ => rfl
    have i1 : ∀ a b c d : PyData, atI [a, b, c, d] (1 : Int) = some b := fun _ _ _ _ => rfl
    have i2 : ∀ a b c d : PyData, atI [a, b, c, d] (2 : Int) = some c := fun _ _ _ _ => rfl
    have i3 : ∀ a b c d : PyData, atI [a, b, c, d] (3 : Int) = some d := fun _ _ _ _ => rfl
    rcases cases4 with rfl | rfl | rfl | rfl <;> simp [wq_seq, seq_next, seq_ret, seq_retN, mIfS, mIf, wq_of, wq_ret, wq_retN, wq_next, wq_bad, wr_ite, wq_ite, mOr, mAnd, mNot, mTru, mTest, mIsi, mVar, mC, mRet, mSet, mSkip, mBin, mUn, mAndV, mOrV, mNotV, wr_bind, wr_opt, wr_ok, wr_bad, val, vals, tyName, truO, tru, mBlt, mCons, mNil, lenD, mTup, mNew, mLst, dats, mSl, mPart, mNoP, ex_and_eq, t3, a3, ltD, ixD, addD, subD, negD, z4, z1, i0, i1, i2, i3]
    · exact ⟨_, o1, rfl, q1, feed_less (by omega) F1⟩
    · exact ⟨_, o1, rfl, q2, feed_less (by omega) F1⟩
    · exact ⟨_, o1, rfl, q3, feed_less (by omega) F1⟩
    · exact ⟨_, o1, rfl, q4, feed_less (by omega) F1⟩
  · simp [wq_seq, seq_next, seq_ret, seq_retN, mIfS, mIf, wq_of, wq_ret, wq_retN, wq_next, wq_bad, wr_ite, wq_ite, mOr, mAnd, mNot, mTru, mTest, mIsi, mVar, mC, mRet, mSet, mSkip, mBin, mUn, mAndV, mOrV, mNotV, wr_bind, wr_opt, wr_ok, wr_bad, val, vals, tyName, truO, tru, mBlt, mCons, mNil, lenD, mTup, mNew, mLst, dats, mSl, mPart, mNoP, ex_and_eq, t3, a3, s3, ltD, hw]
    exact bendR_ok hD ho h0 (feed_less (by omega) F1)
end
end K01

set_option Elab.async false
set_option linter.all false
set_option maxRecDepth 100000
set_option maxHeartbeats 2000000
/-! Mk01k: truths, texts, None, lists bent at their top. -/
namespace K01
open PySem Pd L2 Md
section
variable {C : CT} {B b : Nat} {o : O} {rest : Sto} {odd : List PyData} {d : PyData}
theorem bendB_bool (hD : Draws C) (ho : Goods B 2 2000 odd) (h0 : 0 < odd.length) (hF : Feed (b + 3) o) {x3 x4 : Option D} {k : Bool} (hB : 10 ≤ B) : WQ (bendB C [some (.ref 0), some (.dat (.bool k)), some (.dat (.tuple odd)), x3, x4] (o :: rest)) (BentQ B (.bool k) b rest) := by
  obtain ⟨a1, a2, a3, a4, a5, a6⟩ := kb_int
  obtain ⟨s1, s2, s3, s4, s5, s6⟩ := kb_str
  obtain ⟨t1, t2, t3, t4, t5, t6⟩ := kb_tuple
  have z4 : (4 : Nat) ≤ sizeLine := by decide
  have z1 : (1 : Nat) ≤ sizeLine := by decide
  have mi : ∀ j : Int, j.natAbs < B + 1 → Good (B + 1) ((PyData.bool k).depth + 4) (2 * mass (.bool k) + 2100) (.int j) := fun j hj => ⟨by simp [tame, hj], by simp [PyData.depth], by simp [mass]⟩
  have bk : bI k = 0 ∨ bI k = 1 := by cases k <;> simp [bI]
  simp only [bendB, wq_seq, mSet, wq_of]
  refine wr_draw hD (b := b + 2) hF rfl rfl (by omega) (by omega) fun w o1 w0 w1 F1 => ?_
  by_cases hw : w < 4
  · have cases4 : w = 0 ∨ w = 1 ∨ w = 2 ∨ w = 3 := by omega
    have q1 := mi (bI k + 1) (by omega)
    have q2 := mi (bI k - 1) (by omega)
    have q3 := mi (-bI k) (by omega)
    have q4 : Good (B + 1) ((PyData.bool k).depth + 4) (2 * mass (.bool k) + 2100) (.tuple [.bool k]) := good_mono (B := B + 1) (goods_tup (goods_one (k := 0) (n := 251) (x := .bool k) ⟨by simp [tame], by simp [PyData.depth], by simp [mass]⟩)) (Nat.le_refl _) (by omega) (by simp [mass])
    have i0 : ∀ a b c d : PyData, atI [a, b, c, d] (0 : Int) = some a := fun _ _ _ _ => rfl
    have i1 : ∀ a b c d : PyData, atI [a, b, c, d] (1 : Int) = some b := fun _ _ _ _ => rfl
    have i2 : ∀ a b c d : PyData, atI [a, b, c, d] (2 : Int) = some c := fun _ _ _ _ => rfl
    have i3 : ∀ a b c d : PyData, atI [a, b, c, d] (3 : Int) = some d := fun _ _ _ _ => rfl
    rcases cases4 with rfl | rfl | rfl | rfl <;> simp [wq_seq, seq_next, seq_ret, seq_retN, mIfS, mIf, wq_of, wq_ret, wq_retN, wq_next, wq_bad, wr_ite, wq_ite, mOr, mAnd, mNot, mTru, mTest, mIsi, mVar, mC, mRet, mSet, mSkip, mBin, mUn, mAndV, mOrV, mNotV, wr_bind, wr_opt, wr_ok, wr_bad, val, vals, tyName, truO, tru, mBlt, mCons, mNil, lenD, mTup, mNew, mLst, dats, mSl, mPart, mNoP, ex_and_eq, t2, a2, ltD, ixD, addD, subD, negD, z4, z1, i0, i1, i2, i3]
    · exact ⟨_, o1, rfl, q1, feed_less (by omega) F1⟩
    · exact ⟨_, o1, rfl, q2, feed_less (by omega) F1⟩
    · exact ⟨_, o1, rfl, q3, feed_less (by omega) F1⟩
    · exact ⟨_, o1, rfl, q4, feed_less (by omega) F1⟩
  · simp [wq_seq, seq_next, seq_ret, seq_retN, mIfS, mIf, wq_of, wq_ret, wq_retN, wq_next, wq_bad, wr_ite, wq_ite, mOr, mAnd, mNot, mTru, mTest, mIsi, mVar, mC, mRet, mSet, mSkip, mBin, mUn, mAndV, mOrV, mNotV, wr_bind, wr_opt, wr_ok, wr_bad, val, vals, tyName, truO, tru, mBlt, mCons, mNil, lenD, mTup, mNew, mLst, dats, mSl, mPart, mNoP, ex_and_eq, t2, a2, s2, ltD, hw]
    exact bendR_ok hD ho h0 (feed_less (by omega) F1)
theorem bendB_none (hD : Draws C) (ho : Goods B 2 2000 odd) (h0 : 0 < odd.length) (hF : Feed (b + 3) o) {x3 x4 : Option D} : WQ (bendB C [some (.ref 0), some (.dat .none), some (.dat (.tuple odd)), x3, x4] (o :: rest)) (BentQ B .none b rest) := by
  obtain ⟨a1, a2, a3, a4, a5, a6⟩ := kb_int
  obtain ⟨s1, s2, s3, s4, s5, s6⟩ := kb_str
  obtain ⟨t1, t2, t3, t4, t5, t6⟩ := kb_tuple
  simp only [bendB, wq_seq, mSet, wq_of]
  refine wr_draw hD (b := b + 2) hF rfl rfl (by omega) (by omega) fun w o1 w0 w1 F1 => ?_
  simp [wq_seq, seq_next, seq_ret, seq_retN, mIfS, mIf, wq_of, wq_ret, wq_retN, wq_next, wq_bad, wr_ite, wq_ite, mOr, mAnd, mNot, mTru, mTest, mIsi, mVar, mC, mRet, mSet, mSkip, mBin, mUn, mAndV, mOrV, mNotV, wr_bind, wr_opt, wr_ok, wr_bad, val, vals, tyName, truO, tru, mBlt, mCons, mNil, lenD, mTup, mNew, mLst, dats, mSl, mPart, mNoP, ex_and_eq, t1, a1, s1]
  exact bendR_ok hD ho h0 (feed_less (by omega) F1)
theorem bendB_list (hD : Draws C) (ho : Goods B 2 2000 odd) (h0 : 0 < odd.length) (hF : Feed (b + 3) o) {x3 x4 : Option D} {xs : List PyData} : WQ (bendB C [some (.ref 0), some (.dat (.list xs)), some (.dat (.tuple odd)), x3, x4] (o :: rest)) (BentQ B (.list xs) b rest) := by
  obtain ⟨a1, a2, a3, a4, a5, a6⟩ := kb_int
  obtain ⟨s1, s2, s3, s4, s5, s6⟩ := kb_str
  obtain ⟨t1, t2, t3, t4, t5, t6⟩ := kb_tuple
  simp only [bendB, wq_seq, mSet, wq_of]
  refine wr_draw hD (b := b + 2) hF rfl rfl (by omega) (by omega) fun w o1 w0 w1 F1 => ?_
  simp [wq_seq, seq_next, seq_ret, seq_retN, mIfS, mIf, wq_of, wq_ret, wq_retN, wq_next, wq_bad, wr_ite, wq_ite, mOr, mAnd, mNot, mTru, mTest, mIsi, mVar, mC, mRet, mSet, mSkip, mBin, mUn, mAndV, mOrV, mNotV, wr_bind, wr_opt, wr_ok, wr_bad, val, vals, tyName, truO, tru, mBlt, mCons, mNil, lenD, mTup, mNew, mLst, dats, mSl, mPart, mNoP, ex_and_eq, t5, a5, s5]
  exact bendR_ok hD ho h0 (feed_less (by omega) F1)
theorem good_txt {n k m : Nat} {x : Str} (h : Txt n x) (hm : 10 * n + 8 ≤ m) : Good B k m (.str x) := ⟨h.ok, by simp [PyData.depth], by
  have := h.2
  show 10 * x.cps.size + 8 ≤ m
  have e : x.cps.toList.length = x.cps.size := by simp
  omega⟩
theorem bendB_str (hD : Draws C) (ho : Goods B 2 2000 odd) (h0 : 0 < odd.length) (hF : Feed (b + 3) o) {x3 x4 : Option D} {x : Str} (hx : PyData.strOk x = true) (hm : x.cps.size ≤ 100000) : WQ (bendB C [some (.ref 0), some (.dat (.str x)), some (.dat (.tuple odd)), x3, x4] (o :: rest)) (BentQ B (.str x) b rest) := by
  obtain ⟨a1, a2, a3, a4, a5, a6⟩ := kb_int
  obtain ⟨s1, s2, s3, s4, s5, s6⟩ := kb_str
  obtain ⟨t1, t2, t3, t4, t5, t6⟩ := kb_tuple
  have hs : (1000000 : Nat) ≤ sizeLine := by decide
  have z3 : (3 : Nat) ≤ sizeLine := by decide
  have z1 : (1 : Nat) ≤ sizeLine := by decide
  have T : Txt x.cps.size x := Txt.of hx (by simp)
  have TA : Txt 1 "a" := Txt.of (by decide +kernel) (by decide +kernel)
  have la : ("a" : Str).length = 1 := by decide
  have lx := T.len
  have f1 : x.length + ("a" : Str).length ≤ sizeLine := by omega
  have f2 : x.length ≤ sizeLine := by omega
  simp only [bendB, wq_seq, mSet, wq_of]
  refine wr_draw hD (b := b + 2) hF rfl rfl (by omega) (by omega) fun w o1 w0 w1 F1 => ?_
  by_cases hw : w < 3
  · have cases3 : w = 0 ∨ w = 1 ∨ w = 2 := by omega
    have ms : mass (.str x) = 10 * x.cps.size + 8 := rfl
    have q1 : Good (B + 1) ((PyData.str x).depth + 4) (2 * mass (.str x) + 2100) (.str (x ++ "a")) := good_txt (T.app TA) (by omega)
    have q2 : Good (B + 1) ((PyData.str x).depth + 4) (2 * mass (.str x) + 2100) (.str (cutS x (some 1) none)) := good_txt (T.cut _ _) (by omega)
    have q3 : Good (B + 1) ((PyData.str x).depth + 4) (2 * mass (.str x) + 2100) (.list [.str x]) := good_mono (B := B + 1) (goods_lst (goods_one (good_txt (k := 0) T (Nat.le_refl _)))) (Nat.le_refl _) (by omega) (by omega)
    rcases cases3 with rfl | rfl | rfl <;> simp [wq_seq, seq_next, seq_ret, seq_retN, mIfS, mIf, wq_of, wq_ret, wq_retN, wq_next, wq_bad, wr_ite, wq_ite, mOr, mAnd, mNot, mTru, mTest, mIsi, mVar, mC, mRet, mSet, mSkip, mBin, mUn, mAndV, mOrV, mNotV, wr_bind, wr_opt, wr_ok, wr_bad, val, vals, tyName, truO, tru, mBlt, mCons, mNil, lenD, mTup, mNew, mLst, dats, mSl, mPart, mNoP, ex_and_eq, t4, a4, s4, ltD, ixD, addD, slD, f1, f2, z3, z1, at30, at31, at32]
    · exact ⟨_, o1, rfl, q1, feed_less (by omega) F1⟩
    · exact ⟨_, o1, rfl, q2, feed_less (by omega) F1⟩
    · exact ⟨_, o1, rfl, q3, feed_less (by omega) F1⟩
  · simp [wq_seq, seq_next, seq_ret, seq_retN, mIfS, mIf, wq_of, wq_ret, wq_retN, wq_next, wq_bad, wr_ite, wq_ite, mOr, mAnd, mNot, mTru, mTest, mIsi, mVar, mC, mRet, mSet, mSkip, mBin, mUn, mAndV, mOrV, mNotV, wr_bind, wr_opt, wr_ok, wr_bad, val, vals, tyName, truO, tru, mBlt, mCons, mNil, lenD, mTup, mNew, mLst, dats, mSl, mPart, mNoP, ex_and_eq, t4, a4, s4, ltD, hw]
    exact bendR_ok hD ho h0 (feed_less (by omega) F1)
end
end K01

set_option Elab.async false
set_option linter.all false
set_option maxRecDepth 100000
set_option maxHeartbeats 2000000
/-! Mk01l: tuples bent at their top. -/
namespace K01
open PySem Pd L2 Md
section
variable {C : CT} {B b : Nat} {o : O} {rest : Sto} {odd : List PyData} {d : PyData}
theorem cat_fit {xs ys : List PyData} (h : xs.length + ys.length ≤ sizeLine) : addD (.tuple xs) (.tuple ys) = some (.tuple (xs ++ ys)) := by simp only [addD, h, if_true]
theorem addII (i j : Int) : addD (.int i) (.int j) = some (.int (i + j)) := rfl
theorem seq_of_ret {n : MS} {Q : RS → Prop} {r : RS} (h : WQ r Q) (hQ : ∀ x, Q x → ∃ d s, x = .ret d s) : WQ r (seqK n Q) := by
  cases r with
  | bad => exact h
  | exc c fs s => exact h
  | ret d s => exact h
  | next e s => obtain ⟨_, _, q⟩ := hQ _ h; cases q
  | retN e s => exact h
  | brk e s => exact h
  | cnt e s => exact h
theorem bendB_tuple (hD : Draws C) (ho : Goods B 2 2000 odd) (h0 : 0 < odd.length) (hF : Feed (b + 3) o) {x3 x4 : Option D} {xs : List PyData} (ht : tameAll B xs = true) (hm : massAll xs ≤ 1000000) : WQ (bendB C [some (.ref 0), some (.dat (.tuple xs)), some (.dat (.tuple odd)), x3, x4] (o :: rest)) (BentQ B (.tuple xs) b rest) := by
  obtain ⟨a1, a2, a3, a4, a5, a6⟩ := kb_int
  obtain ⟨s1, s2, s3, s4, s5, s6⟩ := kb_str
  obtain ⟨t1, t2, t3, t4, t5, t6⟩ := kb_tuple
  have hs : (10000000 : Nat) ≤ sizeLine := by decide
  have z1 : (1 : Nat) ≤ sizeLine := by decide
  have lm := len_mass xs
  have lo := len_mass odd
  have om := ho.mass
  have G : Goods B (PyData.depthAll xs) (massAll xs) xs := ⟨ht, Nat.le_refl _, Nat.le_refl _⟩
  have up : ∀ {k n : Nat} {ys : List PyData}, Goods B k n ys → k ≤ PyData.depthAll xs + 4 → n + 8 ≤ 2 * (massAll xs + 8) + 2100 → Good (B + 1) ((PyData.tuple xs).depth + 4) (2 * mass (.tuple xs) + 2100) (.tuple ys) := fun {k n ys} g h1 h2 =>
    good_mono (goods_tup g) (by omega) (by show k + 1 ≤ PyData.depthAll xs + 1 + 4; omega) h2
  simp only [bendB, wq_seq, mSet, wq_of]
  refine wr_draw hD (b := b + 2) hF rfl rfl (by omega) (by omega) fun w o1 w0 w1 F1 => ?_
  by_cases hw : w < 4
  · have go : ∀ Q : RS → Prop, WQ (bendT C [some (.ref 0), some (.dat (.tuple xs)), some (.dat (.tuple odd)), some (.dat (.int w)), x4] (o1 :: rest)) Q → ∀ e : MS, WQ (mIfS (mAnd (mTru (mIsi "tuple" (mVar 1))) (mTest (mBin ltD (mVar 3) (mC (.int 4))))) (bendT C) e [some (.ref 0), some (.dat (.tuple xs)), some (.dat (.tuple odd)), some (.dat (.int w)), x4] (o1 :: rest)) Q := fun Q q e => by
      simp [wq_seq, seq_next, seq_ret, seq_retN, mIfS, mIf, wq_of, wq_ret, wq_retN, wq_next, wq_bad, wr_ite, wq_ite, mOr, mAnd, mNot, mTru, mTest, mIsi, mVar, mC, mRet, mSet, mSkip, mBin, mUn, mAndV, mOrV, mNotV, wr_bind, wr_opt, wr_ok, wr_bad, val, vals, tyName, truO, tru, mBlt, mCons, mNil, lenD, mTup, mNew, mLst, dats, mSl, mPart, mNoP, ex_and_eq, t6, ltD, hw]
      exact q
    rw [wq_next, seq_next, wq_seq]
    refine go _ ?_ _
    have fin : WQ (bendT C [some (.ref 0), some (.dat (.tuple xs)), some (.dat (.tuple odd)), some (.dat (.int w)), x4] (o1 :: rest)) (BentQ B (.tuple xs) b rest) := by
      simp only [bendT, wq_seq, mSet, wq_of]
      refine wr_draw hD (b := b + 1) (many := (xs.length : Int) + 1) F1 rfl (by simp [mBin, mBlt, mCons, mNil, mVar, mC, R.bind, R.opt, vals, val, lenD, addD]) (by omega) (by omega) fun v o2 v0 v1 F2 => ?_
      have ct := cut_to xs v0
      have cf := cut_from xs v0
      have cf1 := cut_from xs (v := v + 1) (by omega)
      obtain ⟨g1, g2⟩ := take_goods G v.toNat
      obtain ⟨_, g3⟩ := take_goods G (v + 1).toNat
      have e12 : massAll (xs.take v.toNat) + massAll (xs.drop v.toNat) = massAll xs := by rw [← massAll_app, List.take_append_drop]
      have l1 : (xs.take v.toNat).length ≤ xs.length := by rw [List.length_take]; omega
      have l2 : (xs.drop v.toNat).length ≤ xs.length := by rw [List.length_drop]; omega
      have l3 : (xs.drop (v + 1).toNat).length ≤ xs.length := by rw [List.length_drop]; omega
      by_cases w0' : w = 0
      · subst w0'
        simp [wq_seq, seq_next, seq_ret, seq_retN, mIfS, mIf, wq_of, wq_ret, wq_retN, wq_next, wq_bad, wr_ite, wq_ite, mOr, mAnd, mNot, mTru, mTest, mIsi, mVar, mC, mRet, mSet, mSkip, mBin, mUn, mAndV, mOrV, mNotV, wr_bind, wr_opt, wr_ok, wr_bad, val, vals, tyName, truO, tru, mBlt, mCons, mNil, lenD, mTup, mNew, mLst, dats, mSl, mPart, mNoP, ex_and_eq, eqD, sh_int, eqv_int, slD, ct]
        refine wr_draw hD (b := b) (many := (odd.length : Int)) F2 rfl (by simp [mBlt, mCons, mNil, mVar, R.bind, R.opt, vals, val, lenD]) (by omega) (by omega) fun q o3 q0 q1 F3 => ?_
        obtain ⟨e, he, ee⟩ := atI_lt q0 q1
        have ge := goods_one (ho.mem he)
        have f4 := cat_fit (xs := xs.take v.toNat) (ys := [e]) (by simp; omega)
        have f5 := cat_fit (xs := xs.take v.toNat ++ [e]) (ys := xs.drop v.toNat) (by simp; omega)
        have g1' : Goods B (PyData.depthAll xs + 2) (massAll (xs.take v.toNat)) (xs.take v.toNat) := ⟨g1.tame, by have := g1.dep; omega, Nat.le_refl _⟩
        have g2' : Goods B (PyData.depthAll xs + 2) (massAll (xs.drop v.toNat)) (xs.drop v.toNat) := ⟨g2.tame, by have := g2.dep; omega, Nat.le_refl _⟩
        have ge' : Goods B (PyData.depthAll xs + 2) (2000 + 2) [e] := ⟨ge.tame, by have := ge.dep; omega, ge.mass⟩
        have q4 := up (goods_cat (goods_cat g1' ge') g2') (by omega) (by omega)
        simp [wq_seq, seq_next, seq_ret, seq_retN, mIfS, mIf, wq_of, wq_ret, wq_retN, wq_next, wq_bad, wr_ite, wq_ite, mOr, mAnd, mNot, mTru, mTest, mIsi, mVar, mC, mRet, mSet, mSkip, mBin, mUn, mAndV, mOrV, mNotV, wr_bind, wr_opt, wr_ok, wr_bad, val, vals, tyName, truO, tru, mBlt, mCons, mNil, lenD, mTup, mNew, mLst, dats, mSl, mPart, mNoP, ex_and_eq, ixD, ee, z1, slD, cf, f4, f5]
        rw [List.append_assoc, List.singleton_append] at q4
        exact ⟨_, o3, rfl, q4, F3⟩
      · have c3 : w = 1 ∨ w = 2 ∨ w = 3 := by omega
        have q1 := up (goods_cat g1 g3) (by omega) (by omega)
        have q2 : Good (B + 1) ((PyData.tuple xs).depth + 4) (2 * mass (.tuple xs) + 2100) (.list xs) := good_mono (goods_lst G) (by omega) (by show PyData.depthAll xs + 1 ≤ PyData.depthAll xs + 1 + 4; omega) (by show massAll xs + 8 ≤ 2 * (massAll xs + 8) + 2100; omega)
        have q3 := up (goods_cat G g1) (by omega) (by omega)
        have f1 := cat_fit (xs := xs.take v.toNat) (ys := xs.drop (v + 1).toNat) (by omega)
        have f3 := cat_fit (xs := xs) (ys := xs.take v.toNat) (by omega)
        rcases c3 with rfl | rfl | rfl
        · simp [wq_seq, seq_next, seq_ret, seq_retN, mIfS, mIf, wq_of, wq_ret, wq_retN, wq_next, wq_bad, wr_ite, wq_ite, mOr, mAnd, mNot, mTru, mTest, mIsi, mVar, mC, mRet, mSet, mSkip, mBin, mUn, mAndV, mOrV, mNotV, wr_bind, wr_opt, wr_ok, wr_bad, val, vals, tyName, truO, tru, mBlt, mCons, mNil, lenD, mTup, mNew, mLst, dats, mSl, mPart, mNoP, ex_and_eq, eqD, sh_int, eqv_int, slD, ct, cf1, addII, f1]
          exact ⟨_, o2, rfl, q1, feed_less (by omega) F2⟩
        · simp [wq_seq, seq_next, seq_ret, seq_retN, mIfS, mIf, wq_of, wq_ret, wq_retN, wq_next, wq_bad, wr_ite, wq_ite, mOr, mAnd, mNot, mTru, mTest, mIsi, mVar, mC, mRet, mSet, mSkip, mBin, mUn, mAndV, mOrV, mNotV, wr_bind, wr_opt, wr_ok, wr_bad, val, vals, tyName, truO, tru, mBlt, mCons, mNil, lenD, mTup, mNew, mLst, dats, mSl, mPart, mNoP, ex_and_eq, eqD, sh_int, eqv_int, mUnN, lstD]
          exact ⟨_, o2, rfl, q2, feed_less (by omega) F2⟩
        · simp [wq_seq, seq_next, seq_ret, seq_retN, mIfS, mIf, wq_of, wq_ret, wq_retN, wq_next, wq_bad, wr_ite, wq_ite, mOr, mAnd, mNot, mTru, mTest, mIsi, mVar, mC, mRet, mSet, mSkip, mBin, mUn, mAndV, mOrV, mNotV, wr_bind, wr_opt, wr_ok, wr_bad, val, vals, tyName, truO, tru, mBlt, mCons, mNil, lenD, mTup, mNew, mLst, dats, mSl, mPart, mNoP, ex_and_eq, eqD, sh_int, eqv_int, slD, ct, f3]
          exact ⟨_, o2, rfl, q3, feed_less (by omega) F2⟩
    exact seq_of_ret fin fun x hx => by
      obtain ⟨e, o', rfl, _⟩ := hx
      exact ⟨_, _, rfl⟩
  · simp [wq_seq, seq_next, seq_ret, seq_retN, mIfS, mIf, wq_of, wq_ret, wq_retN, wq_next, wq_bad, wr_ite, wq_ite, mOr, mAnd, mNot, mTru, mTest, mIsi, mVar, mC, mRet, mSet, mSkip, mBin, mUn, mAndV, mOrV, mNotV, wr_bind, wr_opt, wr_ok, wr_bad, val, vals, tyName, truO, tru, mBlt, mCons, mNil, lenD, mTup, mNew, mLst, dats, mSl, mPart, mNoP, ex_and_eq, t6, a6, s6, ltD, hw]
    exact bendR_ok hD ho h0 (feed_less (by omega) F1)
end
end K01

set_option Elab.async false
set_option linter.all false
set_option maxRecDepth 100000
set_option maxHeartbeats 2000000
/-! Mk01m: a thing bent, however deep. -/
namespace K01
open PySem Pd L2 Md
theorem atI_split {α : Type} {xs : List α} {i : Int} (h0 : 0 ≤ i) (h : i < xs.length) : ∃ x, atI xs i = some x ∧ xs = xs.take i.toNat ++ x :: xs.drop (i.toNat + 1) := by
  have hl : i.toNat < xs.length := by omega
  refine ⟨xs[i.toNat], ?_, ?_⟩
  · unfold atI ixN
    rw [if_pos h0, if_pos h]
    exact List.getElem?_eq_getElem _
  · rw [← List.drop_eq_getElem_cons hl, List.take_append_drop]
def BentR (B : Nat) (d : PyData) (b : Nat) (rest : Sto) (r : FR) (st : Sto) : Prop := ∃ e o', r = .dat e ∧ Good (B + 1) (d.depth + 4) (2 * mass d + 2100) e ∧ Feed b o' ∧ st = o' :: rest
def Bends (C : CT) (odd : List PyData) (B K : Nat) : Prop := ∀ (d : PyData) (b : Nat) (o : O) (rest : Sto), d.depth ≤ K → tame B d = true → mass d ≤ 100000 → Feed (b + 5 * K + 5) o → WR (C.law_bend [.ref 0, .dat d, .dat (.tuple odd)] (o :: rest)) (BentR B d b rest)
section
variable {C : CT} {B b : Nat} {o : O} {rest : Sto} {odd : List PyData} {d : PyData}
theorem wr_bend {K : Nat} (hR : Bends C odd B K) {env : Pd.Env} {x : PyData} {mm : ME} {Q : D → Sto → Prop} (hk : x.depth ≤ K) (ht : tame B x = true) (hm : mass x ≤ 100000) (hF : Feed (b + 5 * K + 5) o) (h0 : env[0]? = some (some (.ref 0))) (h1 : mm env (o :: rest) = .ok (.dat x) (o :: rest)) (h2 : env[2]? = some (some (.dat (.tuple odd))))
    (hQ : ∀ e o', Good (B + 1) (x.depth + 4) (2 * mass x + 2100) e → Feed b o' → Q (.dat e) (o' :: rest)) : WR (mCall C.law_bend (mCons (mVar 0) (mCons mm (mCons (mVar 2) mNil))) env (o :: rest)) Q := by
  simp only [mCall, mCons, mNil, mVar, wr_bind, h0, h2, Option.bind_some, wr_opt, Option.some.injEq, exists_eq_left', h1, wr_ok]
  refine (hR x b o rest hk ht hm hF).mono fun r st hr => ?_
  obtain ⟨e, o', rfl, g, F, rfl⟩ := hr
  exact wr_ok.mpr (hQ e o' g F)
theorem bent_end {r : RS} {Q : RS → Prop} (h : WQ r (BentQ B d b rest)) (hq : ∀ e o', Good (B + 1) (d.depth + 4) (2 * mass d + 2100) e → Feed b o' → Q (.ret (.dat e) (o' :: rest))) : WQ r Q := h.mono fun x hx => by
  obtain ⟨e, o', rfl, g, F⟩ := hx
  exact hq e o' g F
theorem bend_step (hD : Draws C) (ho : Goods B 2 2000 odd) (h0 : 0 < odd.length) (hB : 10 ≤ B) {K : Nat} (rec : ∀ K', K' < K → Bends C odd B K') (hk : d.depth ≤ K) (ht : tame B d = true) (hm : mass d ≤ 100000) (hs : SeqAt.shaped d = true) (hF : Feed (b + 5 * K + 5) o) :
    WR (bodyM 5 (m_law_bend C) [.ref 0, .dat d, .dat (.tuple odd)] (o :: rest)) (BentR B d b rest) := by
  obtain ⟨t1, t2, t3, t4, t5, t6⟩ := kb_tuple
  refine wr_body ?_
  rw [bend_is]
  have F3 : Feed (b + 3) o := feed_less (by omega) hF
  have last : ∀ {o1 : O} {x4 : Option D}, WQ (bendB C [some (.ref 0), some (.dat d), some (.dat (.tuple odd)), none, x4] (o1 :: rest)) (BentQ B d b rest) → WQ (bendB C [some (.ref 0), some (.dat d), some (.dat (.tuple odd)), none, x4] (o1 :: rest)) fun r => match r with
      | .ret (.dat d') s => BentR B d b rest (.dat d') (s.take (rest.length + 1))
      | .ret (.ref k) s => rest.length + 1 ≤ k ∧ ∃ es, s[k]? = some (.lst es) ∧ BentR B d b rest (.new es) (s.take (rest.length + 1))
      | .retN es s => BentR B d b rest (.new es) (s.take (rest.length + 1))
      | .next _ s => BentR B d b rest (.dat .none) (s.take (rest.length + 1))
      | _ => False := fun {o1 x4} h => bent_end h fun e o' g F => ⟨e, o', rfl, g, F, by simp⟩
  cases d with
  | none =>
    simp [wq_seq, seq_next, seq_ret, seq_retN, mIfS, mIf, wq_of, wq_ret, wq_retN, wq_next, wq_bad, wr_ite, wq_ite, mOr, mAnd, mNot, mTru, mTest, mIsi, mVar, mC, mRet, mSet, mSkip, mBin, mUn, mAndV, mOrV, mNotV, wr_bind, wr_opt, wr_ok, wr_bad, val, vals, tyName, truO, tru, mBlt, mCons, mNil, lenD, mTup, mNew, mLst, dats, mSl, mPart, mNoP, ex_and_eq, t1]
    exact last (bendB_none hD ho h0 F3)
  | bool k =>
    simp [wq_seq, seq_next, seq_ret, seq_retN, mIfS, mIf, wq_of, wq_ret, wq_retN, wq_next, wq_bad, wr_ite, wq_ite, mOr, mAnd, mNot, mTru, mTest, mIsi, mVar, mC, mRet, mSet, mSkip, mBin, mUn, mAndV, mOrV, mNotV, wr_bind, wr_opt, wr_ok, wr_bad, val, vals, tyName, truO, tru, mBlt, mCons, mNil, lenD, mTup, mNew, mLst, dats, mSl, mPart, mNoP, ex_and_eq, t2]
    exact last (bendB_bool hD ho h0 F3 hB)
  | int i =>
    simp [wq_seq, seq_next, seq_ret, seq_retN, mIfS, mIf, wq_of, wq_ret, wq_retN, wq_next, wq_bad, wr_ite, wq_ite, mOr, mAnd, mNot, mTru, mTest, mIsi, mVar, mC, mRet, mSet, mSkip, mBin, mUn, mAndV, mOrV, mNotV, wr_bind, wr_opt, wr_ok, wr_bad, val, vals, tyName, truO, tru, mBlt, mCons, mNil, lenD, mTup, mNew, mLst, dats, mSl, mPart, mNoP, ex_and_eq, t3]
    exact last (bendB_int hD ho h0 F3 (by simpa [tame] using ht))
  | str x =>
    simp [wq_seq, seq_next, seq_ret, seq_retN, mIfS, mIf, wq_of, wq_ret, wq_retN, wq_next, wq_bad, wr_ite, wq_ite, mOr, mAnd, mNot, mTru, mTest, mIsi, mVar, mC, mRet, mSet, mSkip, mBin, mUn, mAndV, mOrV, mNotV, wr_bind, wr_opt, wr_ok, wr_bad, val, vals, tyName, truO, tru, mBlt, mCons, mNil, lenD, mTup, mNew, mLst, dats, mSl, mPart, mNoP, ex_and_eq, t4]
    exact last (bendB_str hD ho h0 F3 ht (by have : 10 * x.cps.size + 8 ≤ 100000 := hm; omega))
  | list xs =>
    simp [wq_seq, seq_next, seq_ret, seq_retN, mIfS, mIf, wq_of, wq_ret, wq_retN, wq_next, wq_bad, wr_ite, wq_ite, mOr, mAnd, mNot, mTru, mTest, mIsi, mVar, mC, mRet, mSet, mSkip, mBin, mUn, mAndV, mOrV, mNotV, wr_bind, wr_opt, wr_ok, wr_bad, val, vals, tyName, truO, tru, mBlt, mCons, mNil, lenD, mTup, mNew, mLst, dats, mSl, mPart, mNoP, ex_and_eq, t5]
    exact last (bendB_list hD ho h0 F3)
  | dict l => cases ht
  | tuple xs =>
    have ht' : tameAll B xs = true := ht
    have hm' : massAll xs + 8 ≤ 100000 := hm
    cases xs with
    | nil =>
      simp [wq_seq, seq_next, seq_ret, seq_retN, mIfS, mIf, wq_of, wq_ret, wq_retN, wq_next, wq_bad, wr_ite, wq_ite, mOr, mAnd, mNot, mTru, mTest, mIsi, mVar, mC, mRet, mSet, mSkip, mBin, mUn, mAndV, mOrV, mNotV, wr_bind, wr_opt, wr_ok, wr_bad, val, vals, tyName, truO, tru, mBlt, mCons, mNil, lenD, mTup, mNew, mLst, dats, mSl, mPart, mNoP, ex_and_eq, t6, neD, sh_nil, eqv_nilT]
      exact last (bendB_tuple hD ho h0 F3 ht' (by omega))
    | cons y ys =>
      generalize hxs : y :: ys = xs at *
      have ne : xs.isEmpty = false := by rw [← hxs]; rfl
      have lpos : 0 < xs.length := by rw [← hxs]; simp
      simp [wq_seq, seq_next, seq_ret, seq_retN, mIfS, mIf, wq_of, wq_ret, wq_retN, wq_next, wq_bad, wr_ite, wq_ite, mOr, mAnd, mNot, mTru, mTest, mIsi, mVar, mC, mRet, mSet, mSkip, mBin, mUn, mAndV, mOrV, mNotV, wr_bind, wr_opt, wr_ok, wr_bad, val, vals, tyName, truO, tru, mBlt, mCons, mNil, lenD, mTup, mNew, mLst, dats, mSl, mPart, mNoP, ex_and_eq, t6, neD, hs, sh_nil, eqv_nilT, ne]
      refine wr_draw hD (b := b + 5 * K + 4) hF rfl rfl (by omega) (by omega) fun v o1 v0 v1 F1 => ?_
      by_cases hv : 0 < v
      · simp [wq_seq, seq_next, seq_ret, seq_retN, mIfS, mIf, wq_of, wq_ret, wq_retN, wq_next, wq_bad, wr_ite, wq_ite, mOr, mAnd, mNot, mTru, mTest, mIsi, mVar, mC, mRet, mSet, mSkip, mBin, mUn, mAndV, mOrV, mNotV, wr_bind, wr_opt, wr_ok, wr_bad, val, vals, tyName, truO, tru, mBlt, mCons, mNil, lenD, mTup, mNew, mLst, dats, mSl, mPart, mNoP, ex_and_eq, gtD, hv]
        refine wr_draw hD (b := b + 5 * K + 3) (many := (xs.length : Int)) F1 rfl (by simp [mBlt, mCons, mNil, mVar, R.bind, R.opt, vals, val, lenD]) (by omega) (by have := len_mass xs; omega) fun w o2 w0 w1 F2 => ?_
        obtain ⟨x, ex, sp⟩ := atI_split w0 w1
        have ct := cut_to xs w0
        have cf1 := cut_from xs (v := w + 1) (by omega)
        have e1 : (w + 1).toNat = w.toNat + 1 := by omega
        rw [e1] at cf1
        have tt := ht'
        rw [sp, tameAll_app] at tt
        simp only [tameAll, Bool.and_eq_true] at tt
        have mm : massAll xs = massAll (xs.take w.toNat) + (mass x + 2 + massAll (xs.drop (w.toNat + 1))) := by
          conv => lhs; rw [sp, massAll_app]
          rfl
        have dd : PyData.depthAll xs = max (PyData.depthAll (xs.take w.toNat)) (max x.depth (PyData.depthAll (xs.drop (w.toNat + 1)))) := by
          conv => lhs; rw [sp, depthAll_app]
          rfl
        have dk : PyData.depthAll xs + 1 ≤ K := hk
        have lm1 := len_mass (xs.take w.toNat)
        have lm2 := len_mass (xs.drop (w.toNat + 1))
        have big : (10000000 : Nat) ≤ sizeLine := by decide
        have z1 : (1 : Nat) ≤ sizeLine := by decide
        simp [wq_seq, seq_next, seq_ret, seq_retN, mIfS, mIf, wq_of, wq_ret, wq_retN, wq_next, wq_bad, wr_ite, wq_ite, mOr, mAnd, mNot, mTru, mTest, mIsi, mVar, mC, mRet, mSet, mSkip, mBin, mUn, mAndV, mOrV, mNotV, wr_bind, wr_opt, wr_ok, wr_bad, val, vals, tyName, truO, tru, mBlt, mCons, mNil, lenD, mTup, mNew, mLst, dats, mSl, mPart, mNoP, ex_and_eq, slD, ct]
        refine wr_bend (K := K - 1) (rec (K - 1) (by omega)) (b := b) (x := x) (by omega) tt.2.1 (by omega) (feed_less (by omega) F2) rfl (by simp [mBin, mVar, R.bind, R.opt, val, ixD, ex]) rfl fun e o3 g F => ?_
        have f4 := cat_fit (xs := xs.take w.toNat) (ys := [e]) (by simp only [List.length_singleton]; omega)
        have f5 := cat_fit (xs := xs.take w.toNat ++ [e]) (ys := xs.drop (w.toNat + 1)) (by rw [List.length_append, List.length_singleton]; omega)
        simp [wq_seq, seq_next, seq_ret, seq_retN, mIfS, mIf, wq_of, wq_ret, wq_retN, wq_next, wq_bad, wr_ite, wq_ite, mOr, mAnd, mNot, mTru, mTest, mIsi, mVar, mC, mRet, mSet, mSkip, mBin, mUn, mAndV, mOrV, mNotV, wr_bind, wr_opt, wr_ok, wr_bad, val, vals, tyName, truO, tru, mBlt, mCons, mNil, lenD, mTup, mNew, mLst, dats, mSl, mPart, mNoP, ex_and_eq, z1, slD, cf1, f4, f5, addII]
        refine ⟨_, o3, rfl, ⟨?_, ?_, ?_⟩, F, by simp⟩
        · show tameAll (B + 1) _ = true
          rw [tameAll_app]
          simp only [tameAll, Bool.and_eq_true]
          exact ⟨tameAll_more (by omega) _ tt.1, g.tame, tameAll_more (by omega) _ tt.2.2⟩
        · show PyData.depthAll _ + 1 ≤ PyData.depthAll xs + 1 + 4
          rw [depthAll_app]
          have := g.dep
          simp only [PyData.depthAll]
          omega
        · show massAll _ + 8 ≤ 2 * (massAll xs + 8) + 2100
          rw [massAll_app]
          have := g.mass
          simp only [massAll]
          omega
      · simp [wq_seq, seq_next, seq_ret, seq_retN, mIfS, mIf, wq_of, wq_ret, wq_retN, wq_next, wq_bad, wr_ite, wq_ite, mOr, mAnd, mNot, mTru, mTest, mIsi, mVar, mC, mRet, mSet, mSkip, mBin, mUn, mAndV, mOrV, mNotV, wr_bind, wr_opt, wr_ok, wr_bad, val, vals, tyName, truO, tru, mBlt, mCons, mNil, lenD, mTup, mNew, mLst, dats, mSl, mPart, mNoP, ex_and_eq, gtD, hv]
        exact last (bendB_tuple hD ho h0 (feed_less (by omega) F1) ht' (by omega))
end
end K01

set_option Elab.async false
set_option linter.all false
set_option maxRecDepth 100000
set_option maxHeartbeats 2000000
/-! Mk01n: kinds by draws. -/
namespace K01
open PySem Pd L2 Md
def Greats (C : CT) : Prop := ∀ (b : Nat) (o : O) (rest : Sto), Feed (b + 40) o → WR (C.law_great [.ref 0] (o :: rest)) fun r st => ∃ i o', r = .dat (.int i) ∧ i.natAbs < 10 ^ 200 ∧ Feed b o' ∧ st = o' :: rest
section
variable {C : CT} {b : Nat} {o : O} {rest : Sto}
theorem wr_great (hG : Greats C) {env : Pd.Env} {Q : D → Sto → Prop} (hF : Feed (b + 40) o) (h0 : env[0]? = some (some (.ref 0))) (hQ : ∀ i o', i.natAbs < 10 ^ 200 → Feed b o' → Q (.dat (.int i)) (o' :: rest)) : WR (mCall C.law_great (mCons (mVar 0) mNil) env (o :: rest)) Q := by
  simp only [mCall, mCons, mNil, mVar, wr_bind, h0, Option.bind_some, wr_opt, Option.some.injEq, exists_eq_left', wr_ok]
  refine (hG b o rest hF).mono fun r st hr => ?_
  obtain ⟨i, o', rfl, h1, F, rfl⟩ := hr
  exact wr_ok.mpr (hQ i o' h1 F)
abbrev B0 : Nat := 10 ^ 200 + 5
theorem good_int {B k n : Nat} {i : Int} (h : i.natAbs < B) (hn : 251 ≤ n) : Good B k n (.int i) := ⟨by simp [tame, h], by simp [PyData.depth], by simp [mass, hn]⟩
theorem good_word {B k n : Nat} {x : Str} (h : PyData.strOk x = true) (hn : 10 * x.cps.size + 8 ≤ n) : Good B k n (.str x) := ⟨h, by simp [PyData.depth], hn⟩
theorem goods_cons {B k n m : Nat} {x : PyData} {xs : List PyData} (h : Good B k n x) (hs : Goods B k m xs) : Goods B k (n + 2 + m) (x :: xs) := by
  have := (goods_one h).app hs
  simpa using this
theorem goods_nil {B k n : Nat} : Goods B k n [] := ⟨rfl, by simp [PyData.depthAll], by simp [massAll]⟩
theorem any_kind_ok (hD : Draws C) (hG : Greats C) (hF : Feed (b + 90) o) : WR (bodyM 4 (m_law_any_kind C) [.ref 0] (o :: rest)) fun r st => ∃ e o', r = .dat e ∧ Good B0 1 700 e ∧ Feed b o' ∧ st = o' :: rest := by
  refine wr_body ?_
  have z2 : (2 : Nat) ≤ sizeLine := by decide
  have z3 : (3 : Nat) ≤ sizeLine := by decide
  have w1 : ∀ {k : Nat}, Good B0 k 60 (.str "one") := good_word (by decide +kernel) (by decide +kernel)
  have w2 : ∀ {k : Nat}, Good B0 k 60 (.str "some") := good_word (by decide +kernel) (by decide +kernel)
  have w3 : ∀ {k : Nat}, Good B0 k 70 (.str "number") := good_word (by decide +kernel) (by decide +kernel)
  generalize hP : (10 : Nat) ^ 200 = P at *
  have bP : B0 = P + 5 := by show 10 ^ 200 + 5 = _; rw [hP]
  simp only [m_law_any_kind, wq_seq, mSet, wq_of, List.map, List.length, List.replicate, List.cons_append, List.nil_append]
  refine wr_draw hD (b := b + 89) hF rfl rfl (by omega) (by omega) fun w o1 v0 v1 F1 => ?_
  by_cases hw : w < 2
  · have c2 : w = 0 ∨ w = 1 := by omega
    have two : ∀ (x : Str) (j : Int), Good B0 0 60 (.str x) → j.natAbs < B0 → Good B0 1 700 (.tuple [.str x, .int j]) := fun x j hx hj => good_mono (goods_tup (goods_cons hx (goods_cons (good_int (n := 251) hj (Nat.le_refl _)) (goods_nil (n := 0))))) (Nat.le_refl _) (Nat.le_refl _) (by omega)
    rcases c2 with rfl | rfl
    · simp [wq_seq, seq_next, seq_ret, seq_retN, mIfS, mIf, wq_of, wq_ret, wq_retN, wq_next, wq_bad, wr_ite, wq_ite, mOr, mAnd, mNot, mTru, mTest, mIsi, mVar, mC, mRet, mSet, mSkip, mBin, mUn, mAndV, mOrV, mNotV, wr_bind, wr_opt, wr_ok, wr_bad, val, vals, tyName, truO, tru, mBlt, mCons, mNil, lenD, mTup, mNew, mLst, dats, mSl, mPart, mNoP, ex_and_eq, ltD, ixD, atN0, z2]
      refine wr_great hG (b := b + 49) F1 rfl fun i o2 h1 F2 => ?_
      rw [hP] at h1
      simp [wq_seq, seq_next, seq_ret, seq_retN, mIfS, mIf, wq_of, wq_ret, wq_retN, wq_next, wq_bad, wr_ite, wq_ite, mOr, mAnd, mNot, mTru, mTest, mIsi, mVar, mC, mRet, mSet, mSkip, mBin, mUn, mAndV, mOrV, mNotV, wr_bind, wr_opt, wr_ok, wr_bad, val, vals, tyName, truO, tru, mBlt, mCons, mNil, lenD, mTup, mNew, mLst, dats, mSl, mPart, mNoP, ex_and_eq, absD, addII, z2]
      exact ⟨two _ _ w1 (by rw [bP]; split <;> omega), feed_less (by omega) F2⟩
    · simp [wq_seq, seq_next, seq_ret, seq_retN, mIfS, mIf, wq_of, wq_ret, wq_retN, wq_next, wq_bad, wr_ite, wq_ite, mOr, mAnd, mNot, mTru, mTest, mIsi, mVar, mC, mRet, mSet, mSkip, mBin, mUn, mAndV, mOrV, mNotV, wr_bind, wr_opt, wr_ok, wr_bad, val, vals, tyName, truO, tru, mBlt, mCons, mNil, lenD, mTup, mNew, mLst, dats, mSl, mPart, mNoP, ex_and_eq, ltD, ixD, atN1, z2]
      refine wr_great hG (b := b + 49) F1 rfl fun i o2 h1 F2 => ?_
      rw [hP] at h1
      simp [wq_seq, seq_next, seq_ret, seq_retN, mIfS, mIf, wq_of, wq_ret, wq_retN, wq_next, wq_bad, wr_ite, wq_ite, mOr, mAnd, mNot, mTru, mTest, mIsi, mVar, mC, mRet, mSet, mSkip, mBin, mUn, mAndV, mOrV, mNotV, wr_bind, wr_opt, wr_ok, wr_bad, val, vals, tyName, truO, tru, mBlt, mCons, mNil, lenD, mTup, mNew, mLst, dats, mSl, mPart, mNoP, ex_and_eq, absD, addII, z2]
      exact ⟨two _ _ w2 (by rw [bP]; split <;> omega), feed_less (by omega) F2⟩
  · have three : ∀ i j : Int, i.natAbs < B0 → j.natAbs < B0 → Good B0 1 700 (.tuple [.str "number", .int i, .int j]) := fun i j hi hj => good_mono (goods_tup (goods_cons w3 (goods_cons (good_int (n := 251) hi (Nat.le_refl _)) (goods_cons (good_int (n := 251) hj (Nat.le_refl _)) (goods_nil (n := 0)))))) (Nat.le_refl _) (Nat.le_refl _) (by omega)
    simp [wq_seq, seq_next, seq_ret, seq_retN, mIfS, mIf, wq_of, wq_ret, wq_retN, wq_next, wq_bad, wr_ite, wq_ite, mOr, mAnd, mNot, mTru, mTest, mIsi, mVar, mC, mRet, mSet, mSkip, mBin, mUn, mAndV, mOrV, mNotV, wr_bind, wr_opt, wr_ok, wr_bad, val, vals, tyName, truO, tru, mBlt, mCons, mNil, lenD, mTup, mNew, mLst, dats, mSl, mPart, mNoP, ex_and_eq, ltD, hw, mPar]
    refine wr_great hG (b := b + 49) F1 rfl fun i o2 h1 F2 => ?_
    refine wr_great hG (b := b + 9) F2 rfl fun j o3 h2 F3 => ?_
    refine wr_draw hD (b := b + 8) F3 rfl rfl (by omega) (by omega) fun u o4 u0 u1 F4 => ?_
    rw [hP] at h1 h2
    by_cases hu : u = 0
    · subst hu
      simp [wq_seq, seq_next, seq_ret, seq_retN, mIfS, mIf, wq_of, wq_ret, wq_retN, wq_next, wq_bad, wr_ite, wq_ite, mOr, mAnd, mNot, mTru, mTest, mIsi, mVar, mC, mRet, mSet, mSkip, mBin, mUn, mAndV, mOrV, mNotV, wr_bind, wr_opt, wr_ok, wr_bad, val, vals, tyName, truO, tru, mBlt, mCons, mNil, lenD, mTup, mNew, mLst, dats, mSl, mPart, mNoP, ex_and_eq, eqD, sh_int, eqv_int]
      refine wr_draw hD (b := b + 7) F4 rfl rfl (by omega) (by omega) fun q o5 q0 q1 F5 => ?_
      simp [wq_seq, seq_next, seq_ret, seq_retN, mIfS, mIf, wq_of, wq_ret, wq_retN, wq_next, wq_bad, wr_ite, wq_ite, mOr, mAnd, mNot, mTru, mTest, mIsi, mVar, mC, mRet, mSet, mSkip, mBin, mUn, mAndV, mOrV, mNotV, wr_bind, wr_opt, wr_ok, wr_bad, val, vals, tyName, truO, tru, mBlt, mCons, mNil, lenD, mTup, mNew, mLst, dats, mSl, mPart, mNoP, ex_and_eq, addII, subD, z3]
      exact ⟨three _ _ (by rw [bP]; omega) (by rw [bP]; omega), feed_less (by omega) F5⟩
    · simp [wq_seq, seq_next, seq_ret, seq_retN, mIfS, mIf, wq_of, wq_ret, wq_retN, wq_next, wq_bad, wr_ite, wq_ite, mOr, mAnd, mNot, mTru, mTest, mIsi, mVar, mC, mRet, mSet, mSkip, mBin, mUn, mAndV, mOrV, mNotV, wr_bind, wr_opt, wr_ok, wr_bad, val, vals, tyName, truO, tru, mBlt, mCons, mNil, lenD, mTup, mNew, mLst, dats, mSl, mPart, mNoP, ex_and_eq, eqD, sh_int, eqv_int, hu, z3]
      exact ⟨three _ _ (by rw [bP]; omega) (by rw [bP]; omega), feed_less (by omega) F4⟩
end
end K01

set_option Elab.async false
set_option linter.all false
set_option maxRecDepth 100000
set_option maxHeartbeats 2000000
/-! Mk01o: the things by hand. -/
namespace K01
open PySem Pd L2 Md
def far : Int := 10 ^ 199
def odds : List PyData := [.none, .bool true, .bool false, .str "", .str "a", .str "A", .int 0, .int 1, .int (-1), .tuple [], .list [], .str "one", .str "some", .str "number", .tuple [.str "one", .int 1], .tuple [.str "all", .tuple []], .int far]
abbrev B2 : Nat := B0 + 2
theorem odds_good {B : Nat} (h : 10 ^ 200 ≤ B) : Goods B 2 2000 odds := by
  have hf : far.natAbs < B := Nat.lt_of_lt_of_le (by decide +kernel) h
  have h1 : (10 : Nat) < B := Nat.lt_of_lt_of_le (by decide +kernel) h
  have c : ∀ i : Int, i.natAbs < 10 → i.natAbs < B := fun i hi => by omega
  have s0 : PyData.strOk "" = true := by decide +kernel
  have s1 : PyData.strOk "a" = true := by decide +kernel
  have s2 : PyData.strOk "A" = true := by decide +kernel
  have s3 : PyData.strOk "one" = true := by decide +kernel
  have s4 : PyData.strOk "some" = true := by decide +kernel
  have s5 : PyData.strOk "number" = true := by decide +kernel
  have s6 : PyData.strOk "all" = true := by decide +kernel
  refine ⟨?_, by decide +kernel, by decide +kernel⟩
  simp only [odds, tameAll, tame, s0, s1, s2, s3, s4, s5, s6, hf, c 0 (by decide), c 1 (by decide), c (-1) (by decide), decide_true, Bool.and_self]
theorem far_of {st : Sto} {env : Pd.Env} : (mBin mulD (mBin mulD (mBin mulD (mBin powD (mC (.int 10)) (mC (.int 64))) (mBin powD (mC (.int 10)) (mC (.int 64)))) (mBin powD (mC (.int 10)) (mC (.int 64)))) (mBin powD (mC (.int 10)) (mC (.int 7)))) env st = .ok (.dat (.int far)) st := by
  have p1 : powD (.int 10) (.int 64) = some (.int (10 ^ 64)) := by
    have : CPow 10 64 := ⟨by decide, by decide, by decide⟩
    simp [powD, intD, this]
  have p2 : powD (.int 10) (.int 7) = some (.int (10 ^ 7)) := by
    have : CPow 10 7 := ⟨by decide, by decide, by decide⟩
    simp [powD, intD, this]
  have m1 : mulD (.int (10 ^ 64)) (.int (10 ^ 64)) = some (.int (10 ^ 128)) := by
    have : CMulW (10 ^ 64) (10 ^ 64) := by decide +kernel
    have e : ((10 : Int) ^ 64) * 10 ^ 64 = 10 ^ 128 := by decide +kernel
    simp only [mulD, intD, this, if_true, e]
  have m2 : mulD (.int (10 ^ 128)) (.int (10 ^ 64)) = some (.int (10 ^ 192)) := by
    have : CMulW (10 ^ 128) (10 ^ 64) := by decide +kernel
    have e : ((10 : Int) ^ 128) * 10 ^ 64 = 10 ^ 192 := by decide +kernel
    simp only [mulD, intD, this, if_true, e]
  have m3 : mulD (.int (10 ^ 192)) (.int (10 ^ 7)) = some (.int far) := by
    have : CMulW (10 ^ 192) (10 ^ 7) := by decide +kernel
    have e : ((10 : Int) ^ 192) * 10 ^ 7 = far := by decide +kernel
    simp only [mulD, intD, this, if_true, e]
  simp only [mBin, mC, R.bind, R.opt, val, p1, p2, m1, m2, m3, Option.map_some]
def fixedL : List PyData := [.int 0, .int 1, .int (-1), .int far, .int (-far), .bool true, .bool false, .none, .str "", .str "a", .str "z", .str "0", .str "9", .str "a0", .str "a9", .str "z9", .str "0a", .str "A", .str "aB", .str "a_", .str "_a", .str "`", .str "a`", .str "a b", .str " a", .str "a ", .str "a-", .str "{", .str "a{", .str "a/", .str "a:", .str "abcdefgh", .str "abcdefghi", .str "a1234567", .str "a12345678", .str "1", .tuple [], .list [], .tuple [.str "a"], .list [.str "a"], .tuple [.str "one"], .tuple [.str "one", .int 0], .tuple [.str "one", .int 1], .tuple [.str "one", .int (-1)], .tuple [.str "one", .bool true], .tuple [.str "one", .int far], .list [.str "one", .int 1], .tuple [.str "one", .int 1, .int 1], .tuple [.str "some", .int 0], .tuple [.str "some", .int 1], .tuple [.str "some", .str "1"], .tuple [.str "number", .int 0, .int 0], .tuple [.str "number", .int 1, .int 0], .tuple [.str "number", .int 0], .tuple [.str "number", .int (-1), .int 1], .tuple [.str "number", .int (-far), .int far], .tuple [.str "number", .int far, .int (-far)], .tuple [.str "number", .int 0, .bool true], .tuple [.str "number", .bool false, .int 1], .tuple [.str "number", .int 0, .int 1, .int 2], .tuple [.str "number", .tuple [.int 0, .int 1]], .tuple [.str "two", .int 1], .tuple [.int 1, .str "one"], .tuple [.tuple [.str "one", .int 1]], .tuple [.str "One", .int 1], .tuple [.str "some", .tuple [.int 1]]]
theorem fixed_ok {C : CT} {st : Sto} : bodyM 1 (m_law_fixed C) [] st = .ok (.new fixedL) st := by
  have e := far_of (st := st) (env := [none])
  unfold bodyM m_law_fixed mSeq mSet
  simp only [List.map, List.length, List.replicate, List.nil_append, Nat.sub_zero, e, RS.of, List.set]
  have k : (mRetN (mLst (mCons (mC (.int 0)) (mCons (mC (.int 1)) (mCons (mUn negD (mC (.int 1))) (mCons (mVar 0) (mCons (mUn negD (mVar 0)) (mCons (mC (.bool true)) (mCons (mC (.bool false)) (mCons (mC .none) (mCons (mC (.str "")) (mCons (mC (.str "a")) (mCons (mC (.str "z")) (mCons (mC (.str "0")) (mCons (mC (.str "9")) (mCons (mC (.str "a0")) (mCons (mC (.str "a9")) (mCons (mC (.str "z9")) (mCons (mC (.str "0a")) (mCons (mC (.str "A")) (mCons (mC (.str "aB")) (mCons (mC (.str "a_")) (mCons (mC (.str "_a")) (mCons (mC (.str "`")) (mCons (mC (.str "a`")) (mCons (mC (.str "a b")) (mCons (mC (.str " a")) (mCons (mC (.str "a ")) (mCons (mC (.str "a-")) (mCons (mC (.str "{")) (mCons (mC (.str "a{")) (mCons (mC (.str "a/")) (mCons (mC (.str "a:")) (mCons (mC (.str "abcdefgh")) (mCons (mC (.str "abcdefghi")) (mCons (mC (.str "a1234567")) (mCons (mC (.str "a12345678")) (mCons (mC (.str "1")) (mCons (mTup mNil) (mCons (mNew (mLst mNil)) (mCons (mTup (mCons (mC (.str "a")) mNil)) (mCons (mNew (mLst (mCons (mC (.str "a")) mNil))) (mCons (mTup (mCons (mC (.str "one")) mNil)) (mCons (mTup (mCons (mC (.str "one")) (mCons (mC (.int 0)) mNil))) (mCons (mTup (mCons (mC (.str "one")) (mCons (mC (.int 1)) mNil))) (mCons (mTup (mCons (mC (.str "one")) (mCons (mUn negD (mC (.int 1))) mNil))) (mCons (mTup (mCons (mC (.str "one")) (mCons (mC (.bool true)) mNil))) (mCons (mTup (mCons (mC (.str "one")) (mCons (mVar 0) mNil))) (mCons (mNew (mLst (mCons (mC (.str "one")) (mCons (mC (.int 1)) mNil)))) (mCons (mTup (mCons (mC (.str "one")) (mCons (mC (.int 1)) (mCons (mC (.int 1)) mNil)))) (mCons (mTup (mCons (mC (.str "some")) (mCons (mC (.int 0)) mNil))) (mCons (mTup (mCons (mC (.str "some")) (mCons (mC (.int 1)) mNil))) (mCons (mTup (mCons (mC (.str "some")) (mCons (mC (.str "1")) mNil))) (mCons (mTup (mCons (mC (.str "number")) (mCons (mC (.int 0)) (mCons (mC (.int 0)) mNil)))) (mCons (mTup (mCons (mC (.str "number")) (mCons (mC (.int 1)) (mCons (mC (.int 0)) mNil)))) (mCons (mTup (mCons (mC (.str "number")) (mCons (mC (.int 0)) mNil))) (mCons (mTup (mCons (mC (.str "number")) (mCons (mUn negD (mC (.int 1))) (mCons (mC (.int 1)) mNil)))) (mCons (mTup (mCons (mC (.str "number")) (mCons (mUn negD (mVar 0)) (mCons (mVar 0) mNil)))) (mCons (mTup (mCons (mC (.str "number")) (mCons (mVar 0) (mCons (mUn negD (mVar 0)) mNil)))) (mCons (mTup (mCons (mC (.str "number")) (mCons (mC (.int 0)) (mCons (mC (.bool true)) mNil)))) (mCons (mTup (mCons (mC (.str "number")) (mCons (mC (.bool false)) (mCons (mC (.int 1)) mNil)))) (mCons (mTup (mCons (mC (.str "number")) (mCons (mC (.int 0)) (mCons (mC (.int 1)) (mCons (mC (.int 2)) mNil))))) (mCons (mTup (mCons (mC (.str "number")) (mCons (mTup (mCons (mC (.int 0)) (mCons (mC (.int 1)) mNil))) mNil))) (mCons (mTup (mCons (mC (.str "two")) (mCons (mC (.int 1)) mNil))) (mCons (mTup (mCons (mC (.int 1)) (mCons (mC (.str "one")) mNil))) (mCons (mTup (mCons (mTup (mCons (mC (.str "one")) (mCons (mC (.int 1)) mNil))) mNil)) (mCons (mTup (mCons (mC (.str "One")) (mCons (mC (.int 1)) mNil))) (mCons (mTup (mCons (mC (.str "some")) (mCons (mTup (mCons (mC (.int 1)) mNil)) mNil))) mNil))))))))))))))))))))))))))))))))))))))))))))))))))))))))))))))))))) [some (.dat (.int far))] st : RS) = .retN fixedL st := by rfl
  rw [k]
  simp
theorem odd_ok {C : CT} {st : Sto} : bodyM 2 (m_law_odd C) [] st = .ok (.dat (.tuple odds)) st := by
  have e := far_of (st := st) (env := [some (.dat (.tuple [.none, .bool true, .bool false, .str "", .str "a", .str "A", .int 0, .int 1, .int (-1), .tuple [], .list []])), none])
  have k0 : (mTup (mCons (mC .none) (mCons (mC (.bool true)) (mCons (mC (.bool false)) (mCons (mC (.str "")) (mCons (mC (.str "a")) (mCons (mC (.str "A")) (mCons (mC (.int 0)) (mCons (mC (.int 1)) (mCons (mUn negD (mC (.int 1))) (mCons (mTup mNil) (mCons (mNew (mLst mNil)) mNil))))))))))) [none, none] st : R D) = .ok (.dat (.tuple [.none, .bool true, .bool false, .str "", .str "a", .str "A", .int 0, .int 1, .int (-1), .tuple [], .list []])) st := by rfl
  unfold bodyM m_law_odd mSeq mSet
  simp only [List.map, List.length, List.replicate, List.nil_append, Nat.sub_zero, k0, RS.of, List.set]
  simp only [e]
  have k : (mRet (mBin addD (mVar 0) (mTup (mCons (mC (.str "one")) (mCons (mC (.str "some")) (mCons (mC (.str "number")) (mCons (mTup (mCons (mC (.str "one")) (mCons (mC (.int 1)) mNil))) (mCons (mTup (mCons (mC (.str "all")) (mCons (mTup mNil) mNil))) (mCons (mVar 1) mNil)))))))) [some (.dat (.tuple [.none, .bool true, .bool false, .str "", .str "a", .str "A", .int 0, .int 1, .int (-1), .tuple [], .list []])), some (.dat (.int far))] st : RS) = .ret (.dat (.tuple odds)) st := by rfl
  simp only [mSeq, RS.of, k]
  simp
theorem fixed_good : Goods B2 12 30000 fixedL := ⟨by decide +kernel, by decide +kernel, by decide +kernel⟩
end K01

set_option Elab.async false
set_option linter.all false
set_option maxRecDepth 100000
set_option maxHeartbeats 2000000
/-! Mk01p: the defs at some depth of the run keep what was shown of them. -/
namespace K01
open PySem Pd L2 Md
theorem draws_run (n : Nat) : Draws (run (n + 1)) := fun b o rest many hF h1 h2 => draw_ok hF h1 h2
theorem greats_run (n : Nat) : Greats (run (n + 2)) := fun b o rest hF => great_ok (draws_run n) hF
def Names (C : CT) : Prop := ∀ (b : Nat) (o : O) (rest : Sto), Feed (b + 12) o → WR (C.law_name [.ref 0, .dat (.list [])] (o :: rest)) fun r st => ∃ y o', r = .dat (.str y) ∧ Txt 8 y ∧ 0 < y.cps.toList.length ∧ Feed b o' ∧ st = o' :: rest
def Spoils (C : CT) : Prop := ∀ (b n : Nat) (o : O) (rest : Sto) (x : Str), Feed (b + 3) o → Txt n x → 0 < x.cps.toList.length → n ≤ 100000 → WR (C.law_spoilt [.ref 0, .dat (.str x)] (o :: rest)) fun r st => ∃ y o', r = .dat (.str y) ∧ Txt (n + n + 1) y ∧ Feed b o' ∧ st = o' :: rest
def Kinds (C : CT) : Prop := ∀ (b : Nat) (o : O) (rest : Sto), Feed (b + 90) o → WR (C.law_any_kind [.ref 0] (o :: rest)) fun r st => ∃ e o', r = .dat e ∧ Good B0 1 700 e ∧ Feed b o' ∧ st = o' :: rest
theorem names_run (n : Nat) : Names (run (n + 2)) := fun b o rest hF => name_mk (draws_run n) hF
theorem spoils_run (n : Nat) : Spoils (run (n + 2)) := fun b m o rest x hF hx h0 hn => spoilt_ok (draws_run n) hF hx h0 hn
theorem kinds_run (n : Nat) : Kinds (run (n + 3)) := fun b o rest hF => any_kind_ok (draws_run (n + 1)) (greats_run n) hF
theorem shaped_of {B : Nat} {d : PyData} (h : tame B d = true) (hd : d.depth ≤ 60) : SeqAt.shaped d = true := by
  unfold SeqAt.shaped
  rw [tame_lay d h, Bool.true_and, decide_eq_true_eq]
  omega
theorem bends_run {B : Nat} (ho : Goods B 2 2000 odds) (hB : 10 ≤ B) : ∀ K n : Nat, K + 2 ≤ n → K ≤ 50 → Bends (run n) odds B K := by
  intro K
  induction K using Nat.strongRecOn with
  | ind K ih =>
    intro n hn hK d b o rest hk ht hm hF
    obtain ⟨m, rfl⟩ : ∃ m, n = m + 1 + 1 := ⟨n - 2, by omega⟩
    have hs : SeqAt.shaped d = true := shaped_of ht (by omega)
    exact bend_step (draws_run m) ho (by decide) hB (fun K' hK' => ih K' hK' (m + 1) (by omega) (by omega)) hk ht hm hs hF
theorem fine_of {B k n : Nat} {d : PyData} (h : Good B k n d) (hk : k ≤ 60) (hn : n ≤ 1000000) : Fine d := by
  have z : (1000000 : Nat) ≤ sizeLine := by decide
  have hd := h.dep
  refine ⟨shaped_of h.tame (by omega), ?_⟩
  cases d with
  | tuple xs =>
    intro x hx
    have t : tameAll B xs = true := h.tame
    have dd : PyData.depthAll xs + 1 ≤ k := h.dep
    obtain ⟨a, _, c⟩ := tameAll_mem t hx
    exact shaped_of a (by omega)
  | str x =>
    have := h.mass
    have e : 10 * x.cps.size + 8 ≤ n := h.mass
    show x.cps.size ≤ sizeLine
    omega
  | _ => trivial
/-- the three looks of the program and of the law -/
structure Looks (C : CT) : Prop where
  number : ∀ (d : PyData) (st : Sto), Fine d → C.is_number [.dat d] st = .ok (.dat (.bool (isNum d))) st
  lnumber : ∀ (d : PyData) (st : Sto), Fine d → C.law_number [.dat d] st = .ok (.dat (.bool (isNum d))) st
  name : ∀ (d : PyData) (st : Sto), Fine d → C.is_name [.dat d] st = .ok (.dat (.bool (nameB d))) st
  named : ∀ (d : PyData) (st : Sto), Fine d → C.law_named [.dat d] st = .ok (.dat (.bool (nameB d))) st
  kind : ∀ (d : PyData) (st : Sto), Fine d → C.is_kind [.dat d] st = .ok (.dat (.bool (kindB d))) st
  kinded : ∀ (d : PyData) (st : Sto), Fine d → (∀ xs, d = .tuple xs → xs.length < sizeLine) → C.law_kinded [.dat d] st = .ok (.dat (.bool (kindB d))) st
  same : ∀ (a b : Bool) (st : Sto), C.law_same [.dat (.bool a), .dat (.bool b)] st = .ok (.dat (.bool (a == b))) st
theorem looks_run (n : Nat) : Looks (run (n + 2)) where
  number d st h := number_eq (shaped_noDict h.1)
  lnumber d st h := lnumber_eq (shaped_noDict h.1)
  name d st h := WR.eq (name_ok h)
  named d st h := WR.eq (named_ok h)
  kind d st h := WR.eq (kind_ok (fun x s hx => number_eq hx) h)
  kinded d st h hz := WR.eq (kinded_ok (fun x s hx => lnumber_eq hx) h hz)
  same a b st := by
    have k : (run (n + 2)).law_same [.dat (.bool a), .dat (.bool b)] st = .ok (.dat (.bool (a == b))) (st.take st.length) := by cases a <;> cases b <;> rfl
    rw [k, List.take_length]
end K01

set_option Elab.async false
set_option linter.all false
set_option maxRecDepth 100000
set_option maxHeartbeats 4000000
/-! Mk01q: one turn of the law's making. -/
namespace K01
open PySem Pd L2 Md
def putS (C : CT) : MS :=
  (mSeq (mDrop (mExt (mVar 2) (mNew (mLst (mCons (mVar 7) (mCons (mVar 8) (mCons (mVar 9) (mCons (mBin addD (mVar 9) (mC (.str "a"))) (mCons (mCall C.law_spoilt (mCons (mVar 1) (mCons (mVar 9) mNil))) (mCons (mVar 10) (mCons (mVar 12) (mCons (mVar 13) mNil))))))))))))
  (mSeq (mDrop (mExt (mVar 2) (mNew (mLst (mCons (mCall C.law_bend (mCons (mVar 1) (mCons (mVar 13) (mCons (mVar 3) mNil)))) (mCons (mVar 14) (mCons (mBlt strD (mCons (mVar 14) mNil)) (mCons (mCall C.law_bend (mCons (mVar 1) (mCons (mVar 14) (mCons (mVar 3) mNil)))) mNil))))))))
  (mDrop (mApp (mVar 2) (mCall C.law_bend (mCons (mVar 1) (mCons (mVar 7) (mCons (mVar 3) mNil))))))))
def kindS (C : CT) : MS :=
  (mSeq (mSet 12 (mCall C.law_any_kind (mCons (mVar 1) mNil)))
  (mSeq (mSet 13 (mCall C.law_bend (mCons (mVar 1) (mCons (mVar 12) (mCons (mVar 3) mNil)))))
  (mSeq (mSet 14 (mCall C.law_great (mCons (mVar 1) mNil)))
  (putS C))))
def wildS (C : CT) : MS :=
  (mSet 10 (mCall C.law_spoilt (mCons (mVar 1) (mCons (mBin addD (mVar 10) (mC (.str "b"))) mNil))))
def turnS (C : CT) : MS :=
  (mSeq (mSet 7 (mCall C.law_name (mCons (mVar 1) (mCons (mNew (mLst mNil)) mNil))))
  (mSeq (mSet 8 (mCall C.law_spoilt (mCons (mVar 1) (mCons (mVar 7) mNil))))
  (mSeq (mSet 9 (mSl (mBin addD (mVar 7) (mC (.str "abcdefgh"))) mNoP (mPart (mC (.int 8)))))
  (mSeq (mSet 10 (mC (.str "")))
  (mSeq (mFor (mRng1 (mCall C.law_draw (mCons (mVar 1) (mCons (mC (.int 11)) mNil)))) (gSet 11)
  (wildS C))
  (kindS C))))))
def checkS (C : CT) : MS :=
  (mSeq (mIfS (mOr (mNot (mTru (mCall C.law_same (mCons (mCall C.is_number (mCons (mVar 6) mNil)) (mCons (mCall C.law_number (mCons (mVar 6) mNil)) mNil))))) (mNot (mTru (mCall C.law_same (mCons (mCall C.is_name (mCons (mVar 6) mNil)) (mCons (mCall C.law_named (mCons (mVar 6) mNil)) mNil)))))) (mRet (mC (.bool false))) mSkip)
  (mIfS (mNot (mTru (mCall C.law_same (mCons (mCall C.is_kind (mCons (mVar 6) mNil)) (mCons (mCall C.law_kinded (mCons (mVar 6) mNil)) mNil))))) (mRet (mC (.bool false))) mSkip))
theorem law_is {C : CT} : m_law C =   (mSeq (mReg 1 (mCallN C.law_feed (mCons (mVar 0) mNil)))
  (mSeq (mReg 2 (mCallN C.law_fixed mNil))
  (mSeq (mSet 3 (mCall C.law_odd mNil))
  (mSeq (mFor (mRng1 (mC (.int 6))) (gSet 4)
  (turnS C))
  (mSeq (mSet 5 (mBlt reprD (mCons (mVar 2) mNil)))
  (mSeq (mFor (mIterS (mBin addD (mVar 2) (mNew (mUnN revD (mVar 2))))) (gSet 6)
  (checkS C))
  (mRet (mBin eqD (mBlt reprD (mCons (mVar 2) mNil)) (mVar 5))))))))) := rfl
theorem wr_callD {fm : MF} {ma : MA} {env : Pd.Env} {st : Sto} {ds : List D} {P : FR → Sto → Prop} {Q : D → Sto → Prop} (h : ma env st = .ok ds st) (w : WR (fm ds st) P) (k : ∀ r s, P r s → ∃ d, r = .dat d ∧ Q (.dat d) s) : WR (mCall fm ma env st) Q := by
  unfold mCall
  rw [wr_bind, h, wr_ok, wr_bind]
  refine w.mono fun r s hr => ?_
  obtain ⟨d, rfl, hq⟩ := k r s hr
  exact wr_ok.mpr hq
/-- what the turns need -/
structure Makes (C : CT) : Prop where
  draws : Draws C
  greats : Greats C
  names : Names C
  spoils : Spoils C
  kinds : Kinds C
  bend0 : Bends C odds B0 20
  bend1 : Bends C odds (B0 + 1) 20
section
variable {C : CT} {b n : Nat} {o : O} {ts : List PyData} {ns : List Int}
theorem str_num {i : Int} (h : i.natAbs < 10 ^ 200) : ∃ x, strD [.int i] = some (.str x) ∧ Txt 300 x := by
  have hl : i.natAbs.log2 < 1920 := small_log (Nat.lt_of_lt_of_le h (by decide +kernel))
  have e := int_text_length_le10 (k := 200) (by decide) h
  refine ⟨Str.ofString (toString i), by simp only [strD, hl, if_true], fun c hc => ?_, ?_⟩
  · rw [Str.ofString_eq_toList] at hc
    simp only [List.mem_map] at hc
    obtain ⟨ch, _, rfl⟩ := hc
    have v : ch.toNat.isValidChar := ch.valid
    simp only [Nat.isValidChar] at v
    omega
  · have e2 : (Str.ofString (toString i)).length = (toString i).length := ofString_length _
    have e3 : (Str.ofString (toString i)).length = (Str.ofString (toString i)).cps.toList.length := by simp [Str.length]
    omega
theorem put_ok (M : Makes C) {name spo long wild : Str} {kind bent : PyData} {i : Int} {x4 x5 x6 x11 : Option D} (F : Feed (b + 500) o) (hT : Goods B2 12 n ts) (hn : n ≤ 5000000) (h7 : Txt 8 name) (h8 : Txt 17 spo) (h9 : Txt 8 long) (l9 : 0 < long.cps.toList.length) (h10 : Txt 5000 wild) (h12 : Good B0 1 700 kind) (h13 : Good (B0 + 1) 5 3500 bent) (h14 : i.natAbs < 10 ^ 200) :
    WQ (putS C [some (.scr ns), some (.ref 0), some (.ref 1), some (.dat (.tuple odds)), x4, x5, x6, some (.dat (.str name)), some (.dat (.str spo)), some (.dat (.str long)), some (.dat (.str wild)), x11, some (.dat kind), some (.dat bent), some (.dat (.int i))] [o, .lst ts]) fun r => ∃ o' ts', r = .next [some (.scr ns), some (.ref 0), some (.ref 1), some (.dat (.tuple odds)), x4, x5, x6, some (.dat (.str name)), some (.dat (.str spo)), some (.dat (.str long)), some (.dat (.str wild)), x11, some (.dat kind), some (.dat bent), some (.dat (.int i))] [o', .lst ts'] ∧ Goods B2 12 (n + 100000) ts' ∧ Feed b o' := by
  have big : (16000000 : Nat) ≤ sizeLine := by decide
  have z8 : (8 : Nat) ≤ sizeLine := by decide
  have z4 : (4 : Nat) ≤ sizeLine := by decide
  have lt := len_mass ts
  have mt := hT.mass
  have hB2 : B2 = B0 + 2 := rfl
  have TA : Txt 1 "a" := Txt.of (by decide +kernel) (by decide +kernel)
  have fa : long.length + ("a" : Str).length ≤ sizeLine := by
    have := h9.len
    have e : ("a" : Str).length = 1 := by decide
    omega
  have ta : Txt 9 (long ++ "a") := h9.app TA
  have up : ∀ {B k m : Nat} {d : PyData}, Good B k m d → B ≤ B2 → k ≤ 12 → Good B2 12 m d := fun g h1 h2 => good_mono g h1 h2 (Nat.le_refl _)
  have gt : ∀ {m : Nat} {x : Str}, Txt m x → Good B2 12 (10 * m + 8) (.str x) := fun h => good_txt h (Nat.le_refl _)
  generalize hP : (10 : Nat) ^ 200 = P at *
  simp only [putS, wq_seq, mDrop, wq_of, mExt, wr_bind, mVar]
  rw [wr_opt]
  refine ⟨_, rfl, ?_⟩
  simp [mNew, mLst, mCons, mNil, wr_bind, mVar, mBin, mC, wr_opt, wr_ok, ex_and_eq, val, addD, fa]
  refine wr_callD rfl (M.spoils (b + 497) 8 o [.lst ts] long F h9 l9 (by omega)) ?_
  rintro r s ⟨y, o1, rfl, ty, F1, rfl⟩
  refine ⟨_, rfl, ?_⟩
  have f1 : ts.length + 8 ≤ sizeLine := by omega
  simp [wr_ok, wr_opt, dats, ex_and_eq, z8, f1, wq_next, seq_next, wq_seq]
  generalize hT1 : ts ++ [PyData.str name, PyData.str spo, PyData.str long, PyData.str (long ++ Str.ofString "a"), PyData.str y, PyData.str wild, kind, bent] = ts1
  have l1 : ts1.length = ts.length + 8 := by rw [← hT1]; simp
  simp only [mDrop, wq_of, mExt, wr_bind, mVar]
  rw [wr_opt]
  refine ⟨_, rfl, ?_⟩
  simp only [mNew, mLst, wr_bind]
  rw [mCons, wr_bind]
  refine wr_callD rfl (M.bend1 bent (b + 392) o1 [.lst ts1] (by have := h13.dep; omega) h13.tame (by have := h13.mass; omega) F1) ?_
  rintro r s ⟨e1, o2, rfl, g1, F2, rfl⟩
  refine ⟨_, rfl, ?_⟩
  obtain ⟨si, esi, tsi⟩ := str_num (i := i) (by rw [hP]; exact h14)
  have ti : tame B0 (.int i) = true := by
    simp only [tame, decide_eq_true_eq, B0, hP]
    omega
  simp [mCons, mNil, wr_bind, mVar, mBlt, vals, val, esi, wr_opt, wr_ok, ex_and_eq]
  refine wr_callD rfl (M.bend0 (.int i) (b + 287) o2 [.lst ts1] (by simp [PyData.depth]) ti (by simp [mass]) F2) ?_
  rintro r s ⟨e2, o3, rfl, g2, F3, rfl⟩
  refine ⟨_, rfl, ?_⟩
  have f2 : ts1.length + 4 ≤ sizeLine := by omega
  simp [wr_ok, wr_opt, dats, ex_and_eq, z4, f2, wq_next, seq_next, wq_seq]
  simp only [mDrop, wq_of, mApp, wr_bind, mVar]
  rw [wr_opt]
  refine ⟨_, rfl, ?_⟩
  generalize hT2 : ts1 ++ [e1, PyData.int i, PyData.str si, e2] = ts2
  have l2 : ts2.length = ts1.length + 4 := by rw [← hT2]; simp
  have gn := gt h7
  refine wr_callD rfl (M.bend0 (.str name) (b + 182) o3 [.lst ts2] (by simp [PyData.depth]) (good_txt (B := B0) (k := 0) h7 (Nat.le_refl _)).tame (by have := gn.mass; omega) F3) ?_
  rintro r s ⟨e3, o4, rfl, g3, F4, rfl⟩
  refine ⟨_, rfl, ?_⟩
  have f3 : ts2.length < sizeLine := by omega
  simp [wr_ok, wr_opt, ex_and_eq, f3, wq_next]
  have m13 := h13.mass
  have d13 := h13.dep
  have m7 := gn.mass
  have G : Goods B2 12 (n + 100000) (ts2 ++ [e3]) := by
    rw [← hT2, ← hT1]
    have q1 := goods_one (gt h7)
    have a1 : Goods B2 12 _ [PyData.str name, PyData.str spo, PyData.str long, PyData.str (long ++ Str.ofString "a"), PyData.str y, PyData.str wild, kind, bent] :=
      goods_cons (gt h7) (goods_cons (gt h8) (goods_cons (gt h9) (goods_cons (gt ta) (goods_cons (gt ty) (goods_cons (gt h10) (goods_cons (up h12 (by omega) (by omega)) (goods_cons (up h13 (by omega) (by omega)) (goods_nil (n := 0)))))))))
    have a2 : Goods B2 12 _ [e1, PyData.int i, PyData.str si, e2] :=
      goods_cons (up g1 (by omega) (by omega)) (goods_cons (good_int (n := 251) (by simp only [B2, B0, hP]; omega) (Nat.le_refl _)) (goods_cons (gt tsi) (goods_cons (up g2 (by omega) (by simp [PyData.depth])) (goods_nil (n := 0)))))
    have a3 : Goods B2 12 _ [e3] := goods_one (up g3 (by omega) (by simp [PyData.depth]))
    have mi : mass (.int i) = 251 := rfl
    refine goods_mono (B' := B2) (goods_cat (goods_cat (goods_cat hT a1) a2) a3) (Nat.le_refl _) ?_
    omega
  exact ⟨G, feed_less (by omega) F4⟩
end
end K01

set_option Elab.async false
set_option linter.all false
set_option maxRecDepth 100000
set_option maxHeartbeats 4000000
/-! Mk01r: a whole turn. -/
namespace K01
open PySem Pd L2 Md
/-- the law's names ahead of a turn and behind it -/
def LEnv (ns : List Int) (x4 : Option D) (xs : List (Option D)) : Pd.Env := [some (.scr ns), some (.ref 0), some (.ref 1), some (.dat (.tuple odds)), x4, none, none] ++ xs
def TurnQ (ns : List Int) (x4 : Option D) (n b : Nat) (r : RS) : Prop := ∃ (y7 y8 y9 y10 y11 y12 y13 y14 : Option D) (o' : O) (ts' : List PyData), r = .next [some (.scr ns), some (.ref 0), some (.ref 1), some (.dat (.tuple odds)), x4, none, none, y7, y8, y9, y10, y11, y12, y13, y14] [o', .lst ts'] ∧ Goods B2 12 (n + 100000) ts' ∧ Feed b o'
section
variable {C : CT} {b n : Nat} {o : O} {ts : List PyData} {ns : List Int}
theorem kind_turn (M : Makes C) {name spo long wild : Str} {x4 x11 x12 x13 x14 : Option D} (F : Feed (b + 800) o) (hT : Goods B2 12 n ts) (hn : n ≤ 5000000) (h7 : Txt 8 name) (h8 : Txt 17 spo) (h9 : Txt 8 long) (l9 : 0 < long.cps.toList.length) (h10 : Txt 5000 wild) :
    WQ (kindS C [some (.scr ns), some (.ref 0), some (.ref 1), some (.dat (.tuple odds)), x4, none, none, some (.dat (.str name)), some (.dat (.str spo)), some (.dat (.str long)), some (.dat (.str wild)), x11, x12, x13, x14] [o, .lst ts]) (TurnQ ns x4 n b) := by
  simp only [kindS, wq_seq, mSet, wq_of]
  refine wr_callD rfl (M.kinds (b + 710) o [.lst ts] F) ?_
  rintro r s ⟨kind, o1, rfl, g1, F1, rfl⟩
  refine ⟨_, rfl, ?_⟩
  simp only [wq_next, seq_next, wq_seq, mSet, wq_of, List.set]
  refine wr_callD rfl (M.bend0 kind (b + 605) o1 [.lst ts] (by have := g1.dep; omega) g1.tame (by have := g1.mass; omega) F1) ?_
  rintro r s ⟨bent, o2, rfl, g2, F2, rfl⟩
  refine ⟨_, rfl, ?_⟩
  have g3 : Good (B0 + 1) 5 3500 bent := good_mono g2 (Nat.le_refl _) (by have := g1.dep; omega) (by have := g1.mass; omega)
  refine wr_callD rfl (M.greats (b + 565) o2 [.lst ts] F2) ?_
  rintro r s ⟨i, o3, rfl, hi, F3, rfl⟩
  refine ⟨_, rfl, ?_⟩
  refine (put_ok (b := b) M (feed_less (by omega) F3) hT hn h7 h8 h9 l9 h10 g1 g3 hi).mono fun r hr => ?_
  obtain ⟨o', ts', rfl, h1, h2⟩ := hr
  exact ⟨_, _, _, _, _, _, _, _, o', ts', rfl, h1, h2⟩
theorem wild_loop (M : Makes C) {name spo long : Str} {x4 x11 x12 x13 x14 : Option D} {m : Nat} {Q : RS → Prop} {rest : Sto} (hm : m ≤ 10) (F : Feed (b + 30) o) 
    (hq : ∀ (z : Str) (o' : O) (y11 : Option D), Txt 5000 z → Feed b o' → Q (.next [some (.scr ns), some (.ref 0), some (.ref 1), some (.dat (.tuple odds)), x4, none, none, some (.dat (.str name)), some (.dat (.str spo)), some (.dat (.str long)), some (.dat (.str z)), y11, x12, x13, x14] (o' :: rest))) :
    WQ (loopM (gSet 11) (wildS C) (rangeL 0 m) [some (.scr ns), some (.ref 0), some (.ref 1), some (.dat (.tuple odds)), x4, none, none, some (.dat (.str name)), some (.dat (.str spo)), some (.dat (.str long)), some (.dat (.str "")), x11, x12, x13, x14] (o :: rest)) Q := by
  have big : (16000000 : Nat) ≤ sizeLine := by decide
  have hlen : (rangeL 0 m).length = m := by simp [rangeL]
  have TB : Txt 1 "b" := Txt.of (by decide +kernel) (by decide +kernel)
  have lb : ("b" : Str).length = 1 := by decide
  have te : Txt 1 "" := Txt.of (by decide +kernel) (by decide +kernel)
  refine wq_loop (J := fun k env st => ∃ (z : Str) (o4 : O) (y11 : Option D) (w : Nat), env = [some (.scr ns), some (.ref 0), some (.ref 1), some (.dat (.tuple odds)), x4, none, none, some (.dat (.str name)), some (.dat (.str spo)), some (.dat (.str long)), some (.dat (.str z)), y11, x12, x13, x14] ∧ Txt w z ∧ w + 3 ≤ 4 * 2 ^ k ∧ (∃ c, c + 3 * k = b + 30 ∧ Feed c o4) ∧ st = o4 :: rest) m _ 0 _ _ (by omega) ⟨"", o, x11, 1, rfl, te, by decide, ⟨b + 30, rfl, F⟩, rfl⟩ ?_ ?_
  · rintro k d env st hk hd ⟨z, o4, y11, w, rfl, tz, hw, ⟨c, hc, F4⟩, rfl⟩
    refine ⟨_, rfl, ?_⟩
    obtain ⟨c', rfl⟩ : ∃ c', c = c' + 3 := ⟨c - 3, by omega⟩
    have pk : 2 ^ k ≤ 2 ^ 10 := Nat.pow_le_pow_right (by decide) (by omega)
    have p10 : (2 : Nat) ^ 10 = 1024 := by decide
    have lz := tz.len
    have fz : z.length + ("b" : Str).length ≤ sizeLine := by omega
    have lpos : 0 < (z ++ ("b" : Str)).cps.toList.length := by
      rw [len_cat]
      have : ("b" : Str).cps.toList.length = 1 := by decide +kernel
      omega
    simp only [wildS, mSet, wq_of, gSet, List.set]
    refine wr_callD (ds := [.ref 0, .dat (.str (z ++ "b"))]) (by simp [mCons, mNil, mVar, mBin, mC, R.bind, R.opt, val, addD, fz]) (M.spoils c' (w + 1) o4 rest (z ++ "b") F4 (tz.app TB) lpos (by omega)) ?_
    rintro r s ⟨y, o5, rfl, ty, F5, rfl⟩
    refine ⟨_, rfl, ?_⟩
    refine ⟨_, _, rfl, y, o5, _, _, rfl, ty, ?_, ⟨c', by omega, F5⟩, rfl⟩
    rw [Nat.pow_succ]
    omega
  · rintro env st ⟨z, o4, y11, w, rfl, tz, hw, ⟨c, hc, F4⟩, rfl⟩
    have pk : 2 ^ m ≤ 2 ^ 10 := Nat.pow_le_pow_right (by decide) hm
    have p10 : (2 : Nat) ^ 10 = 1024 := by decide
    exact hq z o4 y11 ⟨tz.1, by have := tz.2; omega⟩ (feed_less (by omega) F4)
theorem turn_ok (M : Makes C) {x4 x7 x8 x9 x10 x11 x12 x13 x14 : Option D} (F : Feed (b + 1000) o) (hT : Goods B2 12 n ts) (hn : n ≤ 5000000) :
    WQ (turnS C [some (.scr ns), some (.ref 0), some (.ref 1), some (.dat (.tuple odds)), x4, none, none, x7, x8, x9, x10, x11, x12, x13, x14] [o, .lst ts]) (TurnQ ns x4 n b) := by
  have big : (16000000 : Nat) ≤ sizeLine := by decide
  simp only [turnS, wq_seq, mSet, wq_of]
  refine wr_callD rfl (M.names (b + 988) o [.lst ts] F) ?_
  rintro r s ⟨name, o1, rfl, t7, l7, F1, rfl⟩
  refine ⟨_, rfl, ?_⟩
  simp only [wq_next, seq_next, wq_seq, mSet, wq_of, List.set]
  refine wr_callD rfl (M.spoils (b + 985) 8 o1 [.lst ts] name F1 t7 l7 (by omega)) ?_
  rintro r s ⟨spo, o2, rfl, t8, F2, rfl⟩
  refine ⟨_, rfl, ?_⟩
  have TB : Txt 8 "abcdefgh" := Txt.of (by decide +kernel) (by decide +kernel)
  have lb : ("abcdefgh" : Str).cps.toList.length = 8 := by decide +kernel
  have lb' : ("abcdefgh" : Str).length = 8 := by decide +kernel
  have ln := t7.len
  have fz : name.length + ("abcdefgh" : Str).length ≤ sizeLine := by omega
  have e0 : (8 : Int).toNat = 8 := rfl
  have ct : (cutS (name ++ "abcdefgh") none (some 8)).cps.toList = (name ++ ("abcdefgh" : Str)).cps.toList.take 8 := by rw [cutS_l, cut_to _ (by decide)]; rfl
  have l9 : (cutS (name ++ "abcdefgh") none (some 8)).cps.toList.length = 8 := by rw [ct, List.length_take, len_cat]; omega
  have t9 : Txt 8 (cutS (name ++ "abcdefgh") none (some 8)) := ⟨((t7.app TB).cut none (some 8)).1, by omega⟩
  have fl : (name ++ ("abcdefgh" : Str)).length ≤ sizeLine := by
    have := (t7.app TB).len
    omega
  generalize hA : ("abcdefgh" : Str) = A at *
  generalize hW : cutS (name ++ A) none (some 8) = long at *
  have s9 : ∀ x9 x10 x11 x12 x13 x14 : Option D, mSl (mBin addD (mVar 7) (mC (.str A))) mNoP (mPart (mC (.int 8))) [some (.scr ns), some (.ref 0), some (.ref 1), some (.dat (.tuple odds)), x4, none, none, some (.dat (.str name)), some (.dat (.str spo)), x9, x10, x11, x12, x13, x14] [o2, .lst ts] = .ok (.dat (.str long)) [o2, .lst ts] := by
    intros
    simp [mSl, mBin, mVar, mC, mPart, mNoP, R.bind, R.opt, val, addD, fz, slD, fl, hW]
  simp only [wq_next, seq_next, wq_seq, mSet, wq_of, List.set, s9, wr_ok, mC, mFor, mRng1, wr_bind]
  refine wr_callD rfl (M.draws (b + 984) o2 [.lst ts] 11 F2 (by omega) (by omega)) ?_
  rintro r s ⟨v, o3, rfl, v0, v1, F3, rfl⟩
  refine ⟨_, rfl, ?_⟩
  have c1 : -(2 ^ 62) ≤ v ∧ v < 2 ^ 62 := by omega
  simp only [c1, and_self, if_true, wr_ok]
  refine wild_loop (b := b + 800) M (by omega) (feed_less (by omega) F3) fun z o4 y11 tz F4 => ?_
  rw [seq_next]
  exact kind_turn M F4 hT hn t7 t8 t9 (by omega) tz
end
end K01

set_option Elab.async false
set_option linter.all false
set_option maxRecDepth 100000
set_option maxHeartbeats 4000000
/-! Mk01s: the law. -/
namespace K01
open PySem Pd L2 Md
theorem makes_run (n : Nat) : Makes (run (n + 30)) where
  draws := draws_run (n + 29)
  greats := greats_run (n + 28)
  names := names_run (n + 28)
  spoils := spoils_run (n + 28)
  kinds := kinds_run (n + 27)
  bend0 := bends_run (odds_good (by show 10 ^ 200 ≤ 10 ^ 200 + 5; omega)) (by show 10 ≤ 10 ^ 200 + 5; omega) 20 (n + 30) (by omega) (by omega)
  bend1 := bends_run (odds_good (by show 10 ^ 200 ≤ 10 ^ 200 + 5 + 1; omega)) (by show 10 ≤ 10 ^ 200 + 5 + 1; omega) 20 (n + 30) (by omega) (by omega)
section
variable {C : CT} {ns : List Int}
theorem check_ok (Lk : Looks C) {d : PyData} {x4 x5 x7 x8 x9 x10 x11 x12 x13 x14 : Option D} {st : Sto} (h : Good B2 12 5000000 d) (hz : ∀ xs, d = .tuple xs → xs.length < sizeLine) (hf : Fine d) :
    WQ (checkS C [some (.scr ns), some (.ref 0), some (.ref 1), some (.dat (.tuple odds)), x4, x5, some (.dat d), x7, x8, x9, x10, x11, x12, x13, x14] st) fun r => r = .next [some (.scr ns), some (.ref 0), some (.ref 1), some (.dat (.tuple odds)), x4, x5, some (.dat d), x7, x8, x9, x10, x11, x12, x13, x14] st := by
  simp [checkS, wq_seq, mIfS, wq_of, mOr, mNot, mTru, wr_bind, mCall, mCons, mNil, mVar, wr_opt, wr_ok, ex_and_eq, Lk.number d _ hf, Lk.lnumber d _ hf, Lk.name d _ hf, Lk.named d _ hf, Lk.kind d _ hf, Lk.kinded d _ hf hz, Lk.same, truO, val, tru, wq_ite, mSkip, wq_next, seq_next]
theorem len_lt {B k n : Nat} {d : PyData} (h : Good B k n d) (hn : n ≤ 1000000) : ∀ xs, d = .tuple xs → xs.length < sizeLine := by
  rintro xs rfl
  have big : (16000000 : Nat) ≤ sizeLine := by decide
  have m : massAll xs + 8 ≤ n := h.mass
  have := len_mass xs
  omega
theorem feed_ok {C : CT} {st : Sto} : bodyM 1 (m_law_feed C) [.scr ns] st = .ok (.new [.list ((ns.take 63).map .int), .int 0, .int 0, .int 0]) st := by
  refine WR.eq (wr_body ?_)
  have z : (4 : Nat) ≤ sizeLine := by decide
  have e : cut (ns.map PyData.int) none (some 63) = (ns.take 63).map .int := by rw [cut_to _ (by decide), List.map_take]; rfl
  simp [m_law_feed, mRetN, wq_of, mLst, wr_bind, mCons, mNil, mSl, mVar, mNoP, mPart, mC, wr_ok, wr_opt, ex_and_eq, dats, z, wq_retN, e]
theorem law_ok (M : Makes C) (Lk : Looks C) (h1 : ∀ st, C.law_feed [.scr ns] st = .ok (.new [.list ((ns.take 63).map .int), .int 0, .int 0, .int 0]) st) (h2 : ∀ st, C.law_fixed [] st = .ok (.new fixedL) st) (h3 : ∀ st, C.law_odd [] st = .ok (.dat (.tuple odds)) st) :
    WR (bodyM 15 (m_law C) [.scr ns] []) fun r _ => r = .dat (.bool true) := by
  refine wr_body ?_
  rw [law_is]
  have big : (16000000 : Nat) ≤ sizeLine := by decide
  have F0 : Feed 6000 (.lst [.list ((ns.take 63).map .int), .int 0, .int 0, .int 0]) := ⟨ns.take 63, 0, 0, 0, rfl, by omega, by omega, by omega, by omega⟩
  generalize hO : O.lst [.list ((ns.take 63).map PyData.int), .int 0, .int 0, .int 0] = o0 at F0
  simp only [wq_seq, mReg, wq_of, mCallN, wr_bind, mCons, mNil, mVar, mSet, mCall, List.map, List.length, List.replicate, List.cons_append, List.nil_append]
  rw [wr_opt]
  refine ⟨_, rfl, ?_⟩
  simp only [wr_ok, h1, h2, h3, wq_next, seq_next, wq_seq, wq_of, wr_bind, List.length, List.nil_append, List.set, List.cons_append, hO, mReg, mSet, mCallN, mCall, mNil, Nat.zero_add]
  unfold mFor
  have r6 : mRng1 (mC (.int 6)) [some (.scr ns), some (.ref 0), some (.ref 1), some (.dat (.tuple odds)), none, none, none, none, none, none, none, none, none, none, none] [o0, .lst fixedL] = .ok (rangeL 0 6) [o0, .lst fixedL] := by rfl
  rw [wq_of, r6, wr_ok]
  refine wq_loop (J := fun k env st => ∃ (x4 y7 y8 y9 y10 y11 y12 y13 y14 : Option D) (o' : O) (ts' : List PyData), env = [some (.scr ns), some (.ref 0), some (.ref 1), some (.dat (.tuple odds)), x4, none, none, y7, y8, y9, y10, y11, y12, y13, y14] ∧ st = [o', .lst ts'] ∧ Goods B2 12 (30000 + 100000 * k) ts' ∧ ∃ c, c + 1000 * k = 6000 ∧ Feed c o') 6 _ 0 _ _ (by simp [rangeL]) ⟨none, none, none, none, none, none, none, none, none, o0, fixedL, rfl, rfl, fixed_good, 6000, rfl, F0⟩ ?_ ?_
  · rintro k d env st hk hd ⟨x4, y7, y8, y9, y10, y11, y12, y13, y14, o', ts', rfl, rfl, G, c, hc, F⟩
    refine ⟨_, rfl, ?_⟩
    obtain ⟨c', rfl⟩ : ∃ c', c = c' + 1000 := ⟨c - 1000, by omega⟩
    refine (turn_ok (b := c') M F G (by omega)).mono fun r hr => ?_
    obtain ⟨z7, z8, z9, z10, z11, z12, z13, z14, o2, ts2, rfl, G2, F2⟩ := hr
    exact ⟨_, _, rfl, _, _, _, _, _, _, _, _, _, o2, ts2, rfl, rfl, goods_mono (B' := B2) G2 (Nat.le_refl _) (by omega), c', by omega, F2⟩
  · rintro env st ⟨x4, y7, y8, y9, y10, y11, y12, y13, y14, o', ts, rfl, rfl, G, c, hc, F⟩
    have G' : Goods B2 12 1000000 ts := goods_mono (B' := B2) G (Nat.le_refl _) (by omega)
    have hB : B2 ≤ 10 ^ 250 := by decide +kernel
    have rp := repr_ok hB G' (by omega) (by omega)
    have lt := len_mass ts
    have mt := G'.mass
    have fit : ts.length + ts.length ≤ sizeLine := by omega
    generalize hR : (PyData.list ts).shown = rt at rp
    have e5 : ∀ (e5 e6 : Option D), mBlt reprD (mCons (mVar 2) mNil) [some (.scr ns), some (.ref 0), some (.ref 1), some (.dat (.tuple odds)), x4, e5, e6, y7, y8, y9, y10, y11, y12, y13, y14] [o', .lst ts] = .ok (.dat (.str rt)) [o', .lst ts] := fun e5 e6 => by
      simp [mBlt, mCons, mNil, mVar, R.bind, R.opt, vals, val, rp]
    have e6 : ∀ (e5 e6 : Option D), mIterS (mBin addD (mVar 2) (mNew (mUnN revD (mVar 2)))) [some (.scr ns), some (.ref 0), some (.ref 1), some (.dat (.tuple odds)), x4, e5, e6, y7, y8, y9, y10, y11, y12, y13, y14] [o', .lst ts] = .ok (ts ++ ts.reverse) [o', .lst ts] := fun e5 e6 => by
      simp [mIterS, mBin, mVar, mNew, mUnN, R.bind, R.opt, val, revD, addD, fit, itemsD, seqD]
    simp only [seq_next, wq_seq, mSet, wq_of, e5, wr_ok, wq_next, List.set]
    rw [e6, wr_ok]
    refine wq_loop (J := fun k env st => ∃ (x6 : Option D), env = [some (.scr ns), some (.ref 0), some (.ref 1), some (.dat (.tuple odds)), x4, some (.dat (.str rt)), x6, y7, y8, y9, y10, y11, y12, y13, y14] ∧ st = [o', .lst ts]) (ts ++ ts.reverse).length _ 0 _ _ (by omega) ⟨none, rfl, rfl⟩ ?_ ?_
    · rintro k d env st hk hd ⟨x6, rfl, rfl⟩
      refine ⟨_, rfl, ?_⟩
      have hd' : d ∈ ts := by
        rcases List.mem_append.mp hd with q | q
        · exact q
        · exact List.mem_reverse.mp q
      have g := G'.mem hd'
      refine (check_ok Lk (good_mono g (Nat.le_refl _) (Nat.le_refl _) (by omega)) (len_lt g (Nat.le_refl _)) (fine_of g (by omega) (Nat.le_refl _))).mono fun r hr => ?_
      subst hr
      exact ⟨_, _, rfl, _, rfl, rfl⟩
    · rintro env st ⟨x6, rfl, rfl⟩
      have tr : tame B2 (.list ts) = true := G'.tame
      have sh : SeqAt.shaped (.str rt) = true := by
        rw [← hR]
        exact sgn_shaped (sgn_shown _ tr)
      have ee : (PyData.str rt).eqv (.str rt) = true := by
        rw [eqv_l]
        simp [isS]
      simp [seq_next, mRet, wq_of, mBin, wr_bind, e5, wr_ok, mVar, wr_opt, ex_and_eq, val, eqD, sh, ee, wq_ret]
theorem law_true : ∀ ns : List Int, ns.length ≤ 63 → (∀ z ∈ ns, Builtin.Int.intBits z ≤ 1048576) → ∃ st, (run 40).law [.scr ns] [] = .ok (.dat (.bool true)) st := by
  intro ns _ _
  obtain ⟨r, st, e, rfl⟩ := law_ok (ns := ns) (makes_run 9) (looks_run 37) (fun st => feed_ok (C := run 38)) (fun st => fixed_ok (C := run 38)) (fun st => odd_ok (C := run 38))
  exact ⟨st, e⟩
end
end K01

open PySem PySem.W PyProof.Rows
set_option maxRecDepth 100000 in
set_option maxHeartbeats 0 in
theorem PySem.Challenge.cw_askfolds_k01_names_and_kinds_by_kind_holds : PySem.Challenge.rw_askfolds_k01_names_and_kinds_by_kind.Holds := by
  w_on; o_law; k_head; (case hw => w_witness2)
  k_fill
  refine Pd.walkGT (l := PySem.Challenge.rw_askfolds_k01_names_and_kinds_by_kind) (n := 63) (k := 2 * 40) (x := "_law_script") rfl (by decide) rfl ⟨rfl, by decide, by decide⟩ (fun w h Y => PySem.W.kIn_of Y) ?F
  case F =>
    intro w mg fa h Y KX G hmg TB8
    refine' K01.all_mk KX G hmg ?a0 ?l0 ?c0 ?k0 ?a1 ?l1 ?c1 ?k1 ?a2 ?l2 ?c2 ?k2 ?a3 ?l3 ?c3 ?k3 ?a4 ?l4 ?c4 ?k4 ?a5 ?l5 ?c5 ?k5 ?a6 ?l6 ?c6 ?k6 ?a7 ?l7 ?c7 ?k7 ?a8 ?l8 ?c8 ?k8 ?a9 ?l9 ?c9 ?k9 ?a10 ?l10 ?c10 ?k10 ?a11 ?l11 ?c11 ?k11 ?a12 ?l12 ?c12 ?k12 ?a13 ?l13 ?c13 ?k13 ?a14 ?l14 ?c14 ?k14 ?a15 ?l15 ?c15 ?k15 ?a16 ?l16 ?c16 ?k16 ?e1 ?q1 ?r1 ?h1 ?n1 ?t1 ?e2 ?q2 ?r2 ?h2 ?n2 ?t2 ?z0 ?z1 ?z2 ?z3 ?z4 ?z5 ?z6 ?z7 ?z8 ?z9 ?z10 ?z11 ?y0 ?y1 K01.law_true
    (case a0 => k_is); (case l0 => k_is); (case c0 => k_is); (case k0 => k_is)
    (case a1 => k_is); (case l1 => k_is); (case c1 => k_is); (case k1 => k_is)
    (case a2 => k_is); (case l2 => k_is); (case c2 => k_is); (case k2 => k_is)
    (case a3 => k_is); (case l3 => k_is); (case c3 => k_is); (case k3 => k_is)
    (case a4 => k_is); (case l4 => k_is); (case c4 => k_is); (case k4 => k_is)
    (case a5 => k_is); (case l5 => k_is); (case c5 => k_is); (case k5 => k_is)
    (case a6 => k_is); (case l6 => k_is); (case c6 => k_is); (case k6 => k_is)
    (case a7 => k_is); (case l7 => k_is); (case c7 => k_is); (case k7 => k_is)
    (case a8 => k_is); (case l8 => k_is); (case c8 => k_is); (case k8 => k_is)
    (case a9 => k_is); (case l9 => k_is); (case c9 => k_is); (case k9 => k_is)
    (case a10 => k_is); (case l10 => k_is); (case c10 => k_is); (case k10 => k_is)
    (case a11 => k_is); (case l11 => k_is); (case c11 => k_is); (case k11 => k_is)
    (case a12 => k_is); (case l12 => k_is); (case c12 => k_is); (case k12 => k_is)
    (case a13 => k_is); (case l13 => k_is); (case c13 => k_is); (case k13 => k_is)
    (case a14 => k_is); (case l14 => k_is); (case c14 => k_is); (case k14 => k_is)
    (case a15 => k_is); (case l15 => k_is); (case c15 => k_is); (case k15 => k_is)
    (case a16 => k_is); (case l16 => k_is); (case c16 => k_is); (case k16 => k_is)
    (case e1 => rfl); (case q1 => k_is); (case r1 => rfl); (case h1 => kernel_rfl); (case n1 => kernel_rfl); (case t1 => exact TB8 "is_name" (by first | rfl | decide +kernel) (PySem.W.mg_of KX G (by k_is)) (by k_is) rfl rfl (by k_is) rfl)
    (case e2 => rfl); (case q2 => k_is); (case r2 => rfl); (case h2 => kernel_rfl); (case n2 => kernel_rfl); (case t2 => exact TB8 "is_kind" (by first | rfl | decide +kernel) (PySem.W.mg_of KX G (by k_is)) (by k_is) rfl rfl (by k_is) rfl)
    (case z0 => k_is); (case z1 => k_is); (case z2 => k_is); (case z3 => k_is); (case z4 => k_is); (case z5 => k_is); (case z6 => k_is); (case z7 => k_is); (case z8 => k_is); (case z9 => k_is); (case z10 => k_is); (case z11 => k_is)
    (case y0 => k_is); (case y1 => k_is)