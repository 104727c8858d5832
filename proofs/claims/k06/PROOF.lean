import PyProof.Rows.All
import Wide.All
import OpenK.AllK
import Wide.FinOn
import HandS.ForMost
import HandS.ForExc
import HandS.TupAny
import HandS.Style
import HandS.Flow
import HandS.IsInst
import HandS.CallSlots
import HandS.StrMore
import KE.KExcIs
import HandS.ExcInit
import HandS.ExcField
import HandS.ExcIs
import HandS.TryOnly
import HandS.HotCalls
import PySem.Challenge.RW_zoneward_k06_any_bytes_as_a_name
set_option Elab.async false
set_option linter.all false
set_option maxRecDepth 100000
set_option autoImplicit false
namespace Z
open PySem PySem.Spec PyProof.Rows L2

/-! ## data, objects, results -/
inductive D where
  | non
  | bl (b : Bool)
  | int (i : Int)
  | str (s : List Nat)
  | tup (xs : List D)
  | flst (xs : List D)
  | slst (xs : List D)
  | fdct (ks vs : List D)
  | fset (ks : List D)
  | fins (c : Nat) (ns : List Nat) (ds : List D)
  | fn (f : Nat)
  | loc (l : Nat)
  deriving Repr

inductive DO where
  | lst (xs : List D)
  | dct (ks vs : List D)
  | ins (c : Nat) (ns : List Nat) (ds : List D)
  | exn (c : Nat) (p : D)
/-- an object that is tracked on the heap -/
def DO.mut : DO → Bool
  | .exn _ _ => false
  | _ => true

abbrev Env := List (Option D)
abbrev Store := List DO

inductive R (α : Type) where
  | ok (a : α) (st : Store)
  | exc (c : Nat) (p : D) (st : Store)
  | bad

def R.bind {α β : Type} (r : R α) (f : α → Store → R β) : R β := match r with
  | .ok a st => f a st
  | .exc c p st => .exc c p st
  | .bad => .bad

inductive SR where
  | next (env : Env) (st : Store)
  | ret (d : D) (st : Store)
  | brk (env : Env) (st : Store)
  | cnt (env : Env) (st : Store)
  | exc (c : Nat) (p : D) (env : Env) (st : Store)
  | bad

/-! ## the relation to values and heaps -/
/-- places of the store: the address, and whether the object may change -/
abbrev Tk := List (Addr × Bool)
def Utr (ρ : Tk) (a : Addr) : Prop := ∀ l : Nat, ρ[l]? ≠ some (a, true)
/-- a list that no name of the machine's may change -/
def SqF (K : PySem.W.Frag) (ρ : Tk) (H : Hp) (a : Addr) (xs : List V) : Prop := Utr ρ a ∧ H a = some (.lst xs)
theorem SqF.sq {K : PySem.W.Frag} {ρ : Tk} {H : Hp} {a : Addr} {xs : List V} (h : SqF K ρ H a xs) : SqL K H a xs := .inl (.inl h.2)
/-- a list that stood before: the script, a constant -/
def SqS (K : PySem.W.Frag) (H : Hp) (a : Addr) (xs : List V) : Prop :=
  (∃ o, H a = some (.frz o (.lst xs))) ∨
    ∃ (o : Obj) (its : Array Value) (n : Nat), K.lookup a = some o ∧ o.cls = .type "list" ∧ o.dict = none ∧ o.data = .seq its n ∧ its.size ≤ sizeLine ∧ Vals xs its.toList
theorem SqS.sq {K : PySem.W.Frag} {H : Hp} {a : Addr} {xs : List V} (h : SqS K H a xs) : SqL K H a xs := by
  rcases h with ⟨o, h⟩ | h
  · exact .inl (.inr ⟨o, h⟩)
  · exact .inr h

/-! ## names of attributes and classes, by number -/
def attrNm : List Str := ["place", "number", "question", "response", "authoritative", "recursion", "code", "answer", "authority", "additional", "data", "places", "origin", "sets"]
def clsNm : List Str := ["Message", "Writer", "Reader", "Zone", "Primary", "Secondary", "Authority", "Cache", "Resolver", "World"]
/-- the address of a class by its name at the top -/
def clsOf (K : PySem.W.Frag) (x : Str) : Addr := match PySem.W.nsIn K mainGlobals x with
  | some (some (.ref a)) => a
  | _ => 0
def clsA (K : PySem.W.Frag) (c : Nat) : Addr := clsOf K (clsNm.getD c "")
mutual
inductive Rv (K : PySem.W.Frag) (ρ : Tk) (H : Hp) : D → V → Prop
  | non : Rv K ρ H .non .non
  | bl (b : Bool) : Rv K ρ H (.bl b) (.bl b)
  | int (i : Int) : Rv K ρ H (.int i) (.int i)
  | str (x : List Nat) : Rv K ρ H (.str x) (.str ⟨x.toArray⟩)
  | tup {a : Addr} {xs : List V} {ds : List D} : SqT K H a xs → Rvs K ρ H ds xs → Rv K ρ H (.tup ds) (.ref a)
  | flst {a : Addr} {xs : List V} {ds : List D} : SqF K ρ H a xs → Rvs K ρ H ds xs → Rv K ρ H (.flst ds) (.ref a)
  | slst {a : Addr} {xs : List V} {ds : List D} : SqS K H a xs → Rvs K ρ H ds xs → Rv K ρ H (.slst ds) (.ref a)
  | fins {a dx : Addr} {c : Nat} {ns : List Nat} {vs : List (Str × V)} {ds : List D} : Utr ρ a → H a = some (.ins (clsA K c) dx vs) → vs.map (fun p => some p.1) = ns.map (fun n => attrNm[n]?) → Rvs K ρ H ds (vs.map (·.2)) → Rv K ρ H (.fins c ns ds) (.ref a)
  | loc {l : Nat} {a : Addr} {b : Bool} : ρ[l]? = some (a, b) → Rv K ρ H (.loc l) (.ref a)
inductive Rvs (K : PySem.W.Frag) (ρ : Tk) (H : Hp) : List D → List V → Prop
  | nil : Rvs K ρ H [] []
  | cons {d : D} {ds : List D} {v : V} {vs : List V} : Rv K ρ H d v → Rvs K ρ H ds vs → Rvs K ρ H (d :: ds) (v :: vs)
end

def mutO : HO → Prop
  | .lst _ => True
  | .dK _ => True
  | .dT _ => True
  | .ins _ _ _ => True
  | .ext _ => True
  | _ => False
/-- what lasts: tuples and frozen lists; the places of objects -/
structure Ext (K : PySem.W.Frag) (ρ ρ' : Tk) (H H' : Hp) : Prop where
  pre : ρ <+: ρ'
  fr : ∀ a o u, H a = some (.frz o u) → H' a = some (.frz o u)
  tup : ∀ a xs, SqT K H a xs → SqT K H' a xs
  un : ∀ a o, Utr ρ a → H a = some o → mutO o → H' a = some o ∧ Utr ρ' a
  xd : ∀ a fs, H a = some (.xd fs) → H' a = some (.xd fs)
theorem Ext.refl {K : PySem.W.Frag} {ρ : Tk} {H : Hp} : Ext K ρ ρ H H := ⟨List.prefix_rfl, fun _ _ _ h => h, fun _ _ h => h, fun _ _ u h _ => ⟨h, u⟩, fun _ _ h => h⟩
theorem Ext.trans {K : PySem.W.Frag} {ρ ρ1 ρ2 : Tk} {H H1 H2 : Hp} (a : Ext K ρ ρ1 H H1) (b : Ext K ρ1 ρ2 H1 H2) : Ext K ρ ρ2 H H2 :=
  ⟨a.pre.trans b.pre, fun x o u h => b.fr x o u (a.fr x o u h), fun x xs h => b.tup x xs (a.tup x xs h), fun x o u h m => let ⟨h1, u1⟩ := a.un x o u h m; b.un x o u1 h1 m, fun x fs h => b.xd x fs (a.xd x fs h)⟩
theorem pre_get {ρ ρ' : Tk} (p : ρ <+: ρ') {l : Nat} {a : Addr × Bool} (h : ρ[l]? = some a) : ρ'[l]? = some a := by
  obtain ⟨t, rfl⟩ := p
  obtain ⟨hl, _⟩ := List.getElem?_eq_some_iff.mp h
  rw [List.getElem?_append_left hl]
  exact h
section
variable {K : PySem.W.Frag} {ρ ρ' : Tk} {H H' : Hp}
theorem SqF.ext (e : Ext K ρ ρ' H H') {a : Addr} {xs : List V} (h : SqF K ρ H a xs) : SqF K ρ' H' a xs := ⟨(e.un a _ h.1 h.2 trivial).2, (e.un a _ h.1 h.2 trivial).1⟩
theorem SqS.ext (e : Ext K ρ ρ' H H') {a : Addr} {xs : List V} (h : SqS K H a xs) : SqS K H' a xs := by
  rcases h with ⟨o, h⟩ | h
  · exact .inl ⟨o, e.fr _ _ _ h⟩
  · exact .inr h
mutual
theorem Rv.ext (e : Ext K ρ ρ' H H') : ∀ {d : D} {v : V}, Rv K ρ H d v → Rv K ρ' H' d v
  | _, _, .non => .non
  | _, _, .bl b => .bl b
  | _, _, .int i => .int i
  | _, _, .str x => .str x
  | _, _, .tup h t => .tup (e.tup _ _ h) (Rvs.ext e t)
  | _, _, .flst h t => .flst (h.ext e) (Rvs.ext e t)
  | _, _, .slst h t => .slst (h.ext e) (Rvs.ext e t)
  | _, _, .fins u h n t => .fins (e.un _ _ u h trivial).2 (e.un _ _ u h trivial).1 n (Rvs.ext e t)
  | _, _, .loc h => .loc (pre_get e.pre h)
theorem Rvs.ext (e : Ext K ρ ρ' H H') : ∀ {ds : List D} {vs : List V}, Rvs K ρ H ds vs → Rvs K ρ' H' ds vs
  | _, _, .nil => .nil
  | _, _, .cons h t => .cons (Rv.ext e h) (Rvs.ext e t)
end
theorem Rvs.length {ds : List D} {vs : List V} (h : Rvs K ρ H ds vs) : ds.length = vs.length := by
  induction ds generalizing vs with
  | nil => cases h; rfl
  | cons d ds ih => cases h with | cons a b => rw [List.length_cons, List.length_cons, ih b]
theorem Rvs.get {ds : List D} {vs : List V} (h : Rvs K ρ H ds vs) {i : Nat} {d : D} (e : ds[i]? = some d) : ∃ v, vs[i]? = some v ∧ Rv K ρ H d v := by
  induction ds generalizing vs i with
  | nil => simp at e
  | cons x ds ih =>
    cases h with
    | cons a b =>
      cases i with
      | zero => simp at e; subst e; exact ⟨_, rfl, a⟩
      | succ i => simp at e; simpa using ih b e
theorem Rvs.getV {ds : List D} {vs : List V} (h : Rvs K ρ H ds vs) {i : Nat} {v : V} (e : vs[i]? = some v) : ∃ d, ds[i]? = some d ∧ Rv K ρ H d v := by
  induction ds generalizing vs i with
  | nil => cases h; simp at e
  | cons x ds ih =>
    cases h with
    | cons a b =>
      cases i with
      | zero => simp at e; subst e; exact ⟨_, rfl, a⟩
      | succ i => simp at e; simpa using ih b e
theorem Rvs.append {ds es : List D} {vs us : List V} (h : Rvs K ρ H ds vs) (g : Rvs K ρ H es us) : Rvs K ρ H (ds ++ es) (vs ++ us) := by
  induction ds generalizing vs with
  | nil => cases h; exact g
  | cons x ds ih => cases h with | cons a b => exact .cons a (ih b)
theorem Rvs.take {ds : List D} {vs : List V} (h : Rvs K ρ H ds vs) (n : Nat) : Rvs K ρ H (ds.take n) (vs.take n) := by
  induction n generalizing ds vs with
  | zero => simp; exact .nil
  | succ n ih => cases h with
    | nil => simp; exact .nil
    | cons a b => simp; exact .cons a (ih b)
theorem Rvs.drop {ds : List D} {vs : List V} (h : Rvs K ρ H ds vs) (n : Nat) : Rvs K ρ H (ds.drop n) (vs.drop n) := by
  induction n generalizing ds vs with
  | zero => simpa using h
  | succ n ih => cases h with
    | nil => simp; exact .nil
    | cons a b => simp; exact ih b
theorem Rvs.set {ds : List D} {vs : List V} (h : Rvs K ρ H ds vs) {d : D} {v : V} (g : Rv K ρ H d v) (n : Nat) : Rvs K ρ H (ds.set n d) (vs.set n v) := by
  induction n generalizing ds vs with
  | zero => cases h with
    | nil => simp; exact .nil
    | cons a b => simp; exact .cons g b
  | succ n ih => cases h with
    | nil => simp; exact .nil
    | cons a b => simp; exact .cons a (ih b)
theorem Rvs.one {d : D} {vs : List V} (h : Rvs K ρ H [d] vs) : ∃ v, vs = [v] ∧ Rv K ρ H d v := by
  cases h with | cons a b => cases b; exact ⟨_, rfl, a⟩
theorem Rvs.two {d e : D} {vs : List V} (h : Rvs K ρ H [d, e] vs) : ∃ v u, vs = [v, u] ∧ Rv K ρ H d v ∧ Rv K ρ H e u := by
  cases h with | cons a b => cases b with | cons c b => cases b; exact ⟨_, _, rfl, a, c⟩
theorem Rvs.three {d e f : D} {vs : List V} (h : Rvs K ρ H [d, e, f] vs) : ∃ v u w, vs = [v, u, w] ∧ Rv K ρ H d v ∧ Rv K ρ H e u ∧ Rv K ρ H f w := by
  cases h with | cons a b => cases b with | cons c b => cases b with | cons f b => cases b; exact ⟨_, _, _, rfl, a, c, f⟩
end

/-- the exception that a suite holds: its place in the store, its address, its class, its dict -/
structure Cur where
  l : Nat
  a : Addr
  c : Nat
  dd : Addr
/-- the exception classes: by number the address -/
structure GC where
  cls : List Addr
  cur : Option Cur := none
def GC.at (G : GC) (cu : Option Cur) : GC := { G with cur := cu }
/-- an instance: its class, its attributes -/
def InsAt (K : PySem.W.Frag) (ρ : Tk) (H : Hp) (a : Addr) (c : Nat) (ns : List Nat) (ds : List D) : Prop :=
  ∃ dx vs, H a = some (.ins (clsA K c) dx vs) ∧ Rvs K ρ H ds (vs.map (·.2)) ∧ vs.map (fun p => some p.1) = ns.map fun n => attrNm[n]?
/-- what stands at an address -/
def RO (G : GC) (K : PySem.W.Frag) (ρ : Tk) (H : Hp) (l : Nat) (a : Addr) : DO → Prop
  | .lst ds => ∃ vs, H a = some (.lst vs) ∧ Rvs K ρ H ds vs
  | .dct _ _ => False
  | .ins c ns ds => InsAt K ρ H a c ns ds
  | .exn c p => ∃ cu v, G.cur = some cu ∧ cu.l = l ∧ cu.a = a ∧ cu.c = c ∧ H cu.dd = some (.xd [(("place" : Str), v)]) ∧ Rv K ρ H p v
structure Rs (G : GC) (K : PySem.W.Frag) (ρ : Tk) (st : Store) (H : Hp) : Prop where
  len : ρ.length = st.length
  nd : ∀ (l m : Nat) (a : Addr), ρ[l]? = some (a, true) → ρ[m]? = some (a, true) → l = m
  obj : ∀ (l : Nat) (o : DO), st[l]? = some o → ∃ a, ρ[l]? = some (a, o.mut) ∧ RO G K ρ H l a o
structure Re (K : PySem.W.Frag) (ρ : Tk) (H : Hp) (env : Env) (σ : L2.St) : Prop where
  len : σ.length = env.length
  at_ : ∀ (i : Nat) (d : D), env[i]? = some (some d) → ∃ v, σ[i]? = some (some v) ∧ Rv K ρ H d v
/-- the state: slots, objects -/
structure Rel (G : GC) (K : PySem.W.Frag) (ρ : Tk) (env : Env) (st : Store) (σ : L2.St) (H : Hp) : Prop where
  s : Rs G K ρ st H
  e : Re K ρ H env σ
section
variable {G : GC} {K : PySem.W.Frag} {ρ ρ' : Tk} {H H' : Hp} {env : Env} {st st' : Store} {σ : L2.St}
theorem Re.ext (e : Ext K ρ ρ' H H') (h : Re K ρ H env σ) : Re K ρ' H' env σ :=
  ⟨h.len, fun i d q => let ⟨v, a, b⟩ := h.at_ i d q; ⟨v, a, b.ext e⟩⟩
theorem Re.set {i : Nat} {d : D} {v : V} (h : Re K ρ H env σ) (r : Rv K ρ H d v) : Re K ρ H (env.set i (some d)) (σ.set i (some v)) := by
  refine ⟨by rw [List.length_set, List.length_set]; exact h.len, fun j x q => ?_⟩
  by_cases hj : i = j
  · subst hj
    rw [List.getElem?_set] at q ⊢
    rw [if_pos rfl] at q ⊢
    rw [h.len]
    split at q
    · cases q
      rename_i hl
      rw [if_pos hl]
      exact ⟨v, rfl, r⟩
    · cases q
  · rw [List.getElem?_set_ne hj] at q ⊢
    exact h.at_ j x q
/-- what is tracked -/
theorem RO.mut {o : DO} {l : Nat} {a : Addr} (h : RO G K ρ H l a o) (hm : o.mut = true) : ∃ u, H a = some u ∧ mutO u := by
  cases o with
  | lst ds => obtain ⟨vs, h, _⟩ := h; exact ⟨_, h, trivial⟩
  | dct ks vs => exact h.elim
  | ins c ns ds => obtain ⟨dx, vs, h, _⟩ := h; exact ⟨_, h, trivial⟩
  | exn c p => cases hm
end
end Z

set_option autoImplicit false
namespace Z
open PySem L2

inductive Ty where
  | bool | int | str | list | tuple
  deriving Repr
/-- methods of built-in types -/
inductive Mt where
  | join | split | lower | upper | endswith | startswith | isascii | isdigit | append | extend | index
  deriving Repr
inductive Op2 where
  | inn | notin | all_ | any_ | sum_ | min2 | max2 | toList | asStr | asLst | meth (m : Mt) | place | isx (tab : List Nat) | ord_ | flit | toListF | iadd | isub | fld (a : Nat)
  deriving Repr
inductive Op where
  | add | sub | mul | mod | fdiv | pow | neg
  | eq | ne | lt | le | gt | ge | is | isnot
  | asInt | len | ix | sl (lo hi : Bool) | tup | lst | toTup | toInt | isin (t : Ty) | x (o : Op2)
  deriving Repr
/-- what a for goes over -/
inductive Ik where
  | seq | range1 | range2
  deriving Repr
inductive Tg where
  | nm (i : Nat)
  | tup (ts : List Tg)
  deriving Repr
inductive Ex where
  | v (i : Nat)
  | c (d : D)
  | op (o : Op) (es : List Ex)
  | call (f : Nat) (es : List Ex)
  | and (a b : Ex)
  | or (a b : Ex)
  | not (a : Ex)
  | ifx (c a b : Ex)
  | chain (o p : Op) (a b c : Ex)
  | comp (own : List Nat) (t : Tg) (k : Ik) (src : List Ex) (ifs : List Ex) (elt : Ex)
  | sealE (e : Ex)
  | scall (f : Nat) (es : List Ex)
  deriving Repr
inductive Sx where
  | asg (t : Tg) (e : Ex)
  | setix (o i e : Ex)
  | expr (e : Ex)
  | ret (e : Ex)
  | ite (c : Ex) (t f : List Sx)
  | for_ (t : Tg) (k : Ik) (src : List Ex) (body : List Sx)
  | while_ (c : Ex) (body : List Sx)
  | brk
  | cnt
  | pass
  | raise_ (c : Nat) (e : Ex)
  | try_ (body : List Sx) (tab : List Nat) (i : Nat) (suite : List Sx)
  deriving Repr

def SZ : Nat := 16777216
def big64 (i : Int) : Bool := decide (-(2 ^ 64) < i) && decide (i < 2 ^ 64)
abbrev FT := Nat → List D → Store → R D

/-! ## data -/
def b2i (b : Bool) : Int := if b then 1 else 0
/-- what the model's data has no word for (never asked) -/
def nonish : D → Bool
  | .bl _ => false
  | .int _ => false
  | .str _ => false
  | .tup _ => false
  | .flst _ => false
  | _ => true
mutual
/-- == of pure data -/
def eqD : D → D → Bool
  | .non, .non => true
  | .bl a, .bl b => a == b
  | .bl a, .int b => b2i a == b
  | .int a, .bl b => a == b2i b
  | .int a, .int b => a == b
  | .str a, .str b => a == b
  | .tup a, .tup b => eqDs a b
  | .flst a, .flst b => eqDs a b
  | a, b => nonish a && nonish b
def eqDs : List D → List D → Bool
  | [], [] => true
  | a :: as, b :: bs => eqD a b && eqDs as bs
  | _, _ => false
end
mutual
/-- data without objects: g says what stands at a place -/
def derefD (g : Nat → Option D) : D → Option D
  | .non => some .non
  | .bl b => some (.bl b)
  | .int i => some (.int i)
  | .str s => some (.str s)
  | .tup xs => (derefDs g xs).map .tup
  | .flst xs => (derefDs g xs).map .flst
  | .slst xs => (derefDs g xs).map .flst
  | .loc l => g l
  | _ => none
def derefDs (g : Nat → Option D) : List D → Option (List D)
  | [] => some []
  | x :: xs => match derefD g x, derefDs g xs with
    | some y, some ys => some (y :: ys)
    | _, _ => none
end
/-- a list that stands in the store becomes a frozen one, its lists too, to the depth n -/
def atD (st : Store) : Nat → Nat → Option D
  | 0, _ => none
  | n + 1, l => match st[l]? with
    | some (.lst xs) => (derefDs (atD st n) xs).map .flst
    | _ => none
def pureD (st : Store) (d : D) : Option D := derefD (atD st 8) d
mutual
def deepD : D → Nat
  | .tup xs => deepDs xs + 1
  | .flst xs => deepDs xs + 1
  | _ => 0
def deepDs : List D → Nat
  | [] => 0
  | x :: xs => max (deepD x) (deepDs xs)
end
/-- the items of a list, a tuple -/
def itemsD (st : Store) : D → Option (List D)
  | .tup xs => some xs
  | .flst xs => some xs
  | .slst xs => some xs
  | .loc l => match st[l]? with
    | some (.lst xs) => some xs
    | _ => none
  | _ => none
def cutD {α : Type} (xs : List α) (lo hi : Option Int) : List α :=
  (xs.drop (HT.sIx xs.length 0 lo)).take (HT.sIx xs.length xs.length hi - HT.sIx xs.length 0 lo)
def eqSem (a b : D) (st : Store) : Option Bool := match pureD st a, pureD st b with
  | some x, some y => if min (deepD x) (deepD y) ≤ 60 then some (eqD x y) else none
  | _, _ => none
def tyD (st : Store) : D → Option Ty
  | .bl _ => some .bool
  | .int _ => some .int
  | .str _ => some .str
  | .tup _ => some .tuple
  | .flst _ => some .list
  | .loc l => match st[l]? with
    | some (.lst _) => some .list
    | _ => none
  | _ => none
def isTy : Ty → Ty → Bool
  | .bool, .bool => true
  | .bool, .int => true
  | .int, .int => true
  | .str, .str => true
  | .list, .list => true
  | .tuple, .tuple => true
  | _, _ => false
def cmpI (o : Op) (i j : Int) : Option Bool := match o with
  | .lt => some (decide (i < j))
  | .le => some (decide (i ≤ j))
  | .gt => some (decide (j < i))
  | .ge => some (decide (j ≤ i))
  | _ => none
def slSem (a : D) (lo hi : Option Int) (st : Store) : R D := match a with
  | .tup xs => .ok (.tup (cutD xs lo hi)) st
  | .str s => if s.length ≤ SZ then .ok (.str (cutD s lo hi)) st else .bad
  | .loc l => match st[l]? with
    | some (.lst xs) => .ok (.loc st.length) (st ++ [.lst (cutD xs lo hi)])
    | _ => .bad
  | .flst xs => .ok (.loc st.length) (st ++ [.lst (cutD xs lo hi)])
  | .slst xs => .ok (.loc st.length) (st ++ [.lst (cutD xs lo hi)])
  | _ => .bad
/-- the items of a list that was made by the program -/
def lst1 (st : Store) : D → Option (List D)
  | .flst xs => some xs
  | .loc l => match st[l]? with
    | some (.lst xs) => some xs
    | _ => none
  | _ => none
def addSem (a b : D) (st : Store) : R D := match a, b with
  | .int i, .int j => .ok (.int (i + j)) st
  | .str s, .str t => if s.length + t.length ≤ SZ then .ok (.str (s ++ t)) st else .bad
  | .tup s, .tup t => if s.length + t.length ≤ SZ then .ok (.tup (s ++ t)) st else .bad
  | a, b => match lst1 st a with
    | some s => match lst1 st b with
      | some t => if s.length + t.length ≤ SZ then .ok (.loc st.length) (st ++ [.lst (s ++ t)]) else .bad
      | none => .bad
    | none => .bad
def ixSem (a : D) (i : Int) (st : Store) : R D := match a with
  | .str s => if s.length ≤ SZ then (match atI s i with
    | some c => .ok (.str [c]) st
    | none => .bad) else .bad
  | _ => match itemsD st a with
    | some xs => (match atI xs i with
      | some d => .ok d st
      | none => .bad)
    | none => .bad
def lenSem (a : D) (st : Store) : R D := match a with
  | .str s => if s.length ≤ SZ then .ok (.int s.length) st else .bad
  | _ => match itemsD st a with
    | some xs => .ok (.int xs.length) st
    | none => .bad
def allBl : List D → Option (List Bool)
  | [] => some []
  | .bl b :: r => (allBl r).map (b :: ·)
  | _ :: _ => none
def allInt : List D → Option (List Int)
  | [] => some []
  | .int b :: r => (allInt r).map (b :: ·)
  | _ :: _ => none
def allStr : List D → Option (List (List Nat))
  | [] => some []
  | .str b :: r => (allStr r).map (b :: ·)
  | _ :: _ => none
/-- the items of a list that may be walked as one -/
def listD (st : Store) : D → Option (List D)
  | .tup _ => none
  | d => itemsD st d
def mulSem (a b : D) (st : Store) : R D := match b with
  | .int n => match a with
    | .str s => if n < 1 then (if -9223372036854775808 ≤ n then .ok (.str []) st else .bad) else if s.length * n.toNat ≤ SZ ∧ n < 9223372036854775808 then .ok (.str (List.replicate n.toNat s).flatten) st else .bad
    | a => match lst1 st a with
      | some xs => if -9223372036854775808 ≤ n ∧ n < 9223372036854775808 ∧ xs.length * n.toNat ≤ SZ then .ok (.loc st.length) (st ++ [.lst (List.replicate n.toNat xs).flatten]) else .bad
      | none => .bad
  | _ => .bad
/-- x in y -/
def inSem (a b : D) (st : Store) : Option Bool := match b with
  | .str z => match a with
    | .str [c] => some (decide (c ∈ z))
    | _ => none
  | b => match pureD st a with
    | some x => match pureD st b with
      | some (.tup ys) => if deepD x ≤ 60 then some (ys.any fun y => eqD y x) else none
      | some (.flst ys) => if deepD x ≤ 60 then some (ys.any fun y => eqD y x) else none
      | _ => none
    | none => none
def toStr (s : List Nat) : Str := ⟨s.toArray⟩
def ofStr (s : Str) : List Nat := s.cps.toList
def flatD : D → Bool
  | .non => true
  | .bl _ => true
  | .int _ => true
  | .str _ => true
  | _ => false
def methSem (m : Mt) (ds : List D) (st : Store) : R D := match m with
  | .join => match ds with
    | [.str sep, d] => match itemsD st d with
      | some xs => match allStr xs with
        | some ys => if (ys.map List.length).sum + ys.length * sep.length ≤ SZ then .ok (.str (TL.joinL sep ys)) st else .bad
        | none => .bad
      | none => .bad
    | _ => .bad
  | .split => match ds with
    | [.str s, .str [c]] => if c < 256 ∧ s.length + 2 ≤ SZ then .ok (.loc st.length) (st ++ [.lst ((TL.spl [c] 0 [] s).map .str)]) else .bad
    | _ => .bad
  | .lower => match ds with
    | [.str s] => if s.length ≤ 5592405 then .ok (.str (ofStr (Txt.lower (toStr s)))) st else .bad
    | _ => .bad
  | .upper => match ds with
    | [.str s] => if s.length ≤ 5592405 then .ok (.str (ofStr (Txt.upper (toStr s)))) st else .bad
    | _ => .bad
  | .endswith => match ds with
    | [.str s, .str t] => .ok (.bl (Txt.endswith (toStr s) (toStr t))) st
    | _ => .bad
  | .startswith => match ds with
    | [.str s, .str t] => .ok (.bl (Txt.startswith (toStr s) (toStr t))) st
    | _ => .bad
  | .isascii => match ds with
    | [.str s] => .ok (.bl (Txt.isascii (toStr s))) st
    | _ => .bad
  | .isdigit => match ds with
    | [.str s] => .ok (.bl (Txt.isdigit (toStr s))) st
    | _ => .bad
  | .append => match ds with
    | [.loc l, d] => match st[l]? with
      | some (.lst xs) => if xs.length < SZ then .ok .non (st.set l (.lst (xs ++ [d]))) else .bad
      | _ => .bad
    | _ => .bad
  | .index => match ds with
    | [d, x] => match listD st d with
      | some xs => if flatD x && xs.all flatD then (match xs.findIdx? fun y => eqD y x with
        | some j => .ok (.int (j : Int)) st
        | none => .bad) else .bad
      | none => .bad
    | _ => .bad
  | .extend => match ds with
    | [.loc l, d] => match st[l]? with
      | some (.lst xs) => match lst1 st d with
        | some ys => if xs.length + ys.length ≤ SZ then .ok .non (st.set l (.lst (xs ++ ys))) else .bad
        | none => .bad
      | _ => .bad
    | _ => .bad
/-- an attribute by its number -/
def atNm : List Nat → List D → Nat → Option D
  | n :: ns, d :: ds, a => if n = a then some d else atNm ns ds a
  | _, _, _ => none
def fldSem (a : Nat) (ns : List Nat) (ds : List D) (st : Store) : R D := match atNm ns ds a with
  | some d => .ok d st
  | none => .bad
def op2Sem (o : Op2) (ds : List D) (st : Store) : R D := match o with
  | .inn => match ds with
    | [a, b] => (match inSem a b st with | some k => .ok (.bl k) st | none => .bad)
    | _ => .bad
  | .notin => match ds with
    | [a, b] => (match inSem a b st with | some k => .ok (.bl (!k)) st | none => .bad)
    | _ => .bad
  | .all_ => match ds with
    | [a] => match listD st a with
      | some xs => match allBl xs with
        | some bs => .ok (.bl (bs.all id)) st
        | none => .bad
      | none => .bad
    | _ => .bad
  | .any_ => match ds with
    | [a] => match listD st a with
      | some xs => match allBl xs with
        | some bs => .ok (.bl (bs.any id)) st
        | none => .bad
      | none => .bad
    | _ => .bad
  | .sum_ => match ds with
    | [a] => match listD st a with
      | some xs => match allInt xs with
        | some ns => .ok (.int ns.sum) st
        | none => .bad
      | none => .bad
    | _ => .bad
  | .min2 => match ds with
    | [.int i, .int j] => .ok (.int (if j < i then j else i)) st
    | _ => .bad
  | .max2 => match ds with
    | [.int i, .int j] => .ok (.int (if j > i then j else i)) st
    | _ => .bad
  | .toList => match ds with
    | [a] => match itemsD st a with
      | some xs => .ok (.loc st.length) (st ++ [.lst xs])
      | none => .bad
    | _ => .bad
  | .flit => if ds.length ≤ SZ then .ok (.flst ds) st else .bad
  | .toListF => match ds with
    | [a] => match itemsD st a with
      | some xs => .ok (.flst xs) st
      | none => .bad
    | _ => .bad
  | .asStr => match ds with
    | [.str s] => .ok (.str s) st
    | _ => .bad
  | .asLst => match ds with
    | [.flst xs] => .ok (.flst xs) st
    | [.loc l] => match st[l]? with
      | some (.lst _) => .ok (.loc l) st
      | _ => .bad
    | _ => .bad
  | .meth m => methSem m ds st
  | .place => match ds with
    | [.loc l] => match st[l]? with
      | some (.exn _ p) => .ok p st
      | _ => .bad
    | _ => .bad
  | .ord_ => match ds with
    | [.str [c]] => .ok (.int (c : Int)) st
    | _ => .bad
  | .iadd => match ds with
    | [.int i, .int j] => .ok (.int (i + j)) st
    | _ => .bad
  | .isub => match ds with
    | [.int i, .int j] => .ok (.int (i - j)) st
    | _ => .bad
  | .fld a => match ds with
    | [.fins _ ns fs] => fldSem a ns fs st
    | [.loc l] => match st[l]? with
      | some (.ins _ ns fs) => fldSem a ns fs st
      | _ => .bad
    | _ => .bad
  | .isx tab => match ds with
    | [.loc l] => match st[l]? with
      | some (.exn c _) => .ok (.bl (tab.contains c)) st
      | _ => .bad
    | _ => .bad
def opSem (o : Op) (ds : List D) (st : Store) : R D := match o, ds with
  | .add, [a, b] => addSem a b st
  | .sub, [.int i, .int j] => .ok (.int (i - j)) st
  | .mul, [.int i, .int j] => if big64 i || big64 j then .ok (.int (i * j)) st else .bad
  | .mul, [a, b] => mulSem a b st
  | .x o, ds => op2Sem o ds st
  | .mod, [.int i, .int j] => if 0 < j then .ok (.int (i % j)) st else .bad
  | .fdiv, [.int i, .int j] => if 0 < j ∧ j < 1073741824 then .ok (.int (i / j)) st else .bad
  | .pow, [.int i, .int j] => if (0 ≤ j ∧ j ≤ 1000000) ∧ i.natAbs < 2 ^ 64 then .ok (.int (i ^ j.toNat)) st else .bad
  | .neg, [.int i] => .ok (.int (-i)) st
  | .asInt, [.int i] => .ok (.int i) st
  | .eq, [a, b] => (match eqSem a b st with | some k => .ok (.bl k) st | none => .bad)
  | .ne, [a, b] => (match eqSem a b st with | some k => .ok (.bl (!k)) st | none => .bad)
  | .is, [a, .non] => (match a with | .non => .ok (.bl true) st | _ => .ok (.bl false) st)
  | .isnot, [a, .non] => (match a with | .non => .ok (.bl false) st | _ => .ok (.bl true) st)
  | .is, [.bl a, .bl b] => .ok (.bl (a == b)) st
  | .isnot, [.bl a, .bl b] => .ok (.bl (a != b)) st
  | .len, [a] => lenSem a st
  | .ix, [a, .int i] => ixSem a i st
  | .sl true true, [a, .int i, .int j] => slSem a (some i) (some j) st
  | .sl true false, [a, .int i] => slSem a (some i) none st
  | .sl false true, [a, .int j] => slSem a none (some j) st
  | .sl false false, [a] => slSem a none none st
  | .tup, ds => if ds.length ≤ SZ then .ok (.tup ds) st else .bad
  | .lst, ds => if ds.length ≤ SZ then .ok (.loc st.length) (st ++ [.lst ds]) else .bad
  | .toTup, [a] => (match itemsD st a with | some xs => .ok (.tup xs) st | none => .bad)
  | .toInt, [.int i] => .ok (.int i) st
  | .toInt, [.bl b] => .ok (.int (if b then 1 else 0)) st
  | .isin t, [a] => (match tyD st a with | some u => .ok (.bl (isTy u t)) st | none => .bad)
  | .lt, [.int i, .int j] => .ok (.bl (decide (i < j))) st
  | .le, [.int i, .int j] => .ok (.bl (decide (i ≤ j))) st
  | .gt, [.int i, .int j] => .ok (.bl (decide (j < i))) st
  | .ge, [.int i, .int j] => .ok (.bl (decide (j ≤ i))) st
  | _, _ => .bad

/-! ## targets and what is gone over -/
mutual
def setT : Tg → D → Env → Option Env
  | .nm i, d, env => some (env.set i (some d))
  | .tup ts, d, env => match d with
    | .tup xs => setTs ts xs env
    | _ => none
def setTs : List Tg → List D → Env → Option Env
  | [], [], env => some env
  | t :: ts, d :: ds, env => match setT t d env with
    | some env' => setTs ts ds env'
    | none => none
  | _, _, _ => none
end
mutual
def slotsT : Tg → List Nat
  | .nm i => [i]
  | .tup ts => slotsTs ts
def slotsTs : List Tg → List Nat
  | [] => []
  | t :: ts => slotsT t ++ slotsTs ts
end
/-- the items, and what must stand as it stood -/
structure Src where
  items : List D
  same : Store → Bool
def rangeD (lo : Int) (n : Nat) : List D := (List.range n).map fun (i : Nat) => D.int (lo + (i : Int))
def in62 (i : Int) : Bool := decide (-(2 ^ 62) ≤ i) && decide (i < 2 ^ 62)
mutual
def beqD : D → D → Bool
  | .non, .non => true
  | .bl a, .bl b => a == b
  | .int a, .int b => a == b
  | .str a, .str b => a == b
  | .tup a, .tup b => beqDs a b
  | .flst a, .flst b => beqDs a b
  | .slst a, .slst b => beqDs a b
  | .fdct a b, .fdct c d => beqDs a c && beqDs b d
  | .fset a, .fset b => beqDs a b
  | .fins c n a, .fins d m b => c == d && n == m && beqDs a b
  | .fn a, .fn b => a == b
  | .loc a, .loc b => a == b
  | _, _ => false
def beqDs : List D → List D → Bool
  | [], [] => true
  | a :: as, b :: bs => beqD a b && beqDs as bs
  | _, _ => false
end
def lstIs (l : Nat) (xs : List D) (st : Store) : Bool := match st[l]? with
  | some (.lst ys) => beqDs ys xs
  | _ => false
def seqSrc (d : D) (st : Store) : Option Src := match d with
  | .tup xs => some ⟨xs, fun _ => true⟩
  | .flst xs => some ⟨xs, fun _ => true⟩
  | .slst xs => some ⟨xs, fun _ => true⟩
  | .str s => some ⟨s.map fun c => .str [c], fun _ => true⟩
  | .loc l => match st[l]? with
    | some (.lst xs) => some ⟨xs, lstIs l xs⟩
    | _ => none
  | _ => none
def rngSrc (d e : D) : Option Src := match d with
  | .int i => match e with
    | .int j => if in62 i && in62 j then some ⟨rangeD i (j - i).toNat, fun _ => true⟩ else none
    | _ => none
  | _ => none
def rng1Src (d : D) : Option Src := match d with
  | .int j => if in62 j then some ⟨rangeD 0 j.toNat, fun _ => true⟩ else none
  | _ => none
def srcOf (k : Ik) (ds : List D) (st : Store) : Option Src := match k with
  | .seq => match ds with
    | [d] => seqSrc d st
    | _ => none
  | .range1 => match ds with
    | [d] => rng1Src d
    | _ => none
  | .range2 => match ds with
    | [d, e] => rngSrc d e
    | _ => none
def wipeE : List Nat → Env → Env
  | [], env => env
  | v :: vs, env => (wipeE vs env).set v none
def truth (st : Store) (d : D) : Option Bool := match d with
  | .non => some false
  | .bl b => some b
  | .int i => some (i != 0)
  | .str s => if s.length ≤ SZ then some ((s.length : Int) != 0) else none
  | d => (itemsD st d).map fun xs => !xs.isEmpty

/-! ## what an expression made becomes a value -/
mutual
def closedD (n : Nat) : D → Bool
  | .tup xs => closedDs n xs
  | .flst xs => closedDs n xs
  | .slst xs => closedDs n xs
  | .fdct ks vs => closedDs n ks && closedDs n vs
  | .fset ks => closedDs n ks
  | .fins _ _ ds => closedDs n ds
  | .loc l => decide (l < n)
  | _ => true
def closedDs (n : Nat) : List D → Bool
  | [] => true
  | x :: xs => closedD n x && closedDs n xs
end
def closedO (n : Nat) : DO → Bool
  | .lst xs => closedDs n xs
  | .dct ks vs => closedDs n ks && closedDs n vs
  | .ins _ _ ds => closedDs n ds
  | .exn _ p => closedD n p
mutual
def sealD (n : Nat) (g : Nat → Option D) : D → Option D
  | .tup xs => (sealDs n g xs).map .tup
  | .flst xs => (sealDs n g xs).map .flst
  | .fins c ns ds => (sealDs n g ds).map (.fins c ns)
  | .loc l => if l < n then some (.loc l) else g l
  | d => if closedD n d then some d else none
def sealDs (n : Nat) (g : Nat → Option D) : List D → Option (List D)
  | [] => some []
  | x :: xs => match sealD n g x, sealDs n g xs with
    | some y, some ys => some (y :: ys)
    | _, _ => none
end
def sealAt (n : Nat) (st : Store) : Nat → Nat → Option D
  | 0, _ => none
  | k + 1, l => match st[l]? with
    | some (.lst xs) => (sealDs n (sealAt n st k) xs).map .flst
    | some (.ins c ns ds) => (sealDs n (sealAt n st k) ds).map (.fins c ns)
    | _ => none
/-- what stood before knows nothing of what is new -/
def OldOk (st st' : Store) : Prop := ∀ l, l < st.length → ∀ o, st'[l]? = some o → st[l]? = some o ∨ closedO st.length o = true
open Classical in
noncomputable def closeR (st : Store) : R D → R D
  | .ok d st' => match sealD st.length (sealAt st.length st' 8) d with
    | some d' => if OldOk st st' then .ok d' (st'.take st.length) else .bad
    | none => .bad
  | .exc c p st' => if OldOk st st' ∧ closedD st.length p = true then .exc c p (st'.take st.length) else .bad
  | .bad => .bad

/-- what a comprehension's turn gives: onto the list at l, then on -/
def compTail (l : Nat) (r : R (Option D)) (next : Store → R D) : R D := match r with
  | .ok (some d) st1 => (match st1[l]? with
    | some (.lst acc) => if acc.length < SZ then next (st1.set l (.lst (acc ++ [d]))) else .bad
    | _ => .bad)
  | .ok none st1 => next st1
  | _ => .bad
/-- the turns of a comprehension: the list so far stands at l -/
def evComp (same : Store → Bool) (l : Nat) (one : D → Store → R (Option D)) : List D → Store → R D
  | [], st => if same st then .ok (.loc l) st else .bad
  | x :: xs, st => if same st then compTail l (one x st) (evComp same l one xs) else .bad
mutual
noncomputable def ev (F : FT) : Ex → Env → Store → R D
  | .v i, env, st => match env[i]? with
    | some (some d) => .ok d st
    | _ => .bad
  | .c d, _, st => .ok d st
  | .op o es, env, st => (evs F es env st).bind fun ds st1 => opSem o ds st1
  | .call f es, env, st => (evs F es env st).bind fun ds st1 => F f ds st1
  | .and a b, env, st => (ev F a env st).bind fun x st1 => match truth st1 x with
    | some true => ev F b env st1
    | some false => .ok x st1
    | none => .bad
  | .or a b, env, st => (ev F a env st).bind fun x st1 => match truth st1 x with
    | some true => .ok x st1
    | some false => ev F b env st1
    | none => .bad
  | .not a, env, st => (ev F a env st).bind fun x st1 => match truth st1 x with
    | some k => .ok (.bl (!k)) st1
    | none => .bad
  | .ifx c a b, env, st => (ev F c env st).bind fun x st1 => match truth st1 x with
    | some true => ev F a env st1
    | some false => ev F b env st1
    | none => .bad
  | .chain o p a b c, env, st => (ev F a env st).bind fun x st1 => (ev F b env st1).bind fun y st2 => (opSem o [x, y] st2).bind fun z st3 => match z with
    | .bl true => (ev F c env st3).bind fun u st4 => opSem p [y, u] st4
    | .bl false => .ok (.bl false) st3
    | _ => .bad
  | .comp own t k src ifs elt, env, st => (evs F src env st).bind fun ds st1 => match srcOf k ds st1 with
    | some S => evComp S.same st1.length (fun x st2 => match setT t x (wipeE own env) with
        | some env' => (evTests F ifs env' st2).bind fun ok st3 => if ok then (ev F elt env' st3).bind fun d st4 => .ok (some d) st4 else .ok none st3
        | none => .bad) S.items (st1 ++ [.lst []])
    | none => .bad
  | .sealE e, env, st => closeR st (ev F e env st)
  | .scall f es, env, st => (evs F es env st).bind fun ds st1 => closeR st1 (F f ds st1)
noncomputable def evs (F : FT) : List Ex → Env → Store → R (List D)
  | [], _, st => .ok [] st
  | e :: es, env, st => (ev F e env st).bind fun d st1 => (evs F es env st1).bind fun ds st2 => .ok (d :: ds) st2
noncomputable def evTests (F : FT) : List Ex → Env → Store → R Bool
  | [], _, st => .ok true st
  | e :: es, env, st => (ev F e env st).bind fun x st1 => match truth st1 x with
    | some true => evTests F es env st1
    | some false => .ok false st1
    | none => .bad
end

def SR.seq (r : SR) (f : Env → Store → SR) : SR := match r with
  | .next env st => f env st
  | r => r
def R.toS {α : Type} (r : R α) (env : Env) (f : α → Store → SR) : SR := match r with
  | .ok a st => f a st
  | .exc c p st => .exc c p env st
  | .bad => .bad
def closedE (n : Nat) (env : Env) : Bool := env.all fun o => match o with | some d => closedD n d | none => true
open Classical in
/-- behind an except suite: its name, its exception and what came after it are gone -/
noncomputable def SR.leave (i : Nat) (st0 : Store) : SR → SR
  | .next env st => if closedE st0.length (env.set i none) = true ∧ OldOk st0 st then .next (env.set i none) (st.take st0.length) else .bad
  | .ret d st => match sealD st0.length (sealAt st0.length st 8) d with
    | some d' => if OldOk st0 st then .ret d' (st.take st0.length) else .bad
    | none => .bad
  | .brk env st => if closedE st0.length (env.set i none) = true ∧ OldOk st0 st then .brk (env.set i none) (st.take st0.length) else .bad
  | .cnt env st => if closedE st0.length (env.set i none) = true ∧ OldOk st0 st then .cnt (env.set i none) (st.take st0.length) else .bad
  | _ => .bad
/-- try: body, except classes of tab as i: suite -/
noncomputable def catchS (tab : List Nat) (i : Nat) (suite : Env → Store → SR) (r : SR) : SR := match r with
  | .exc c p env st => if tab.contains c then (suite (env.set i (some (.loc st.length))) (st ++ [.exn c p])).leave i st else .exc c p env st
  | r => r
/-- while: the turns that are left -/
def WF : Nat := 1000000
def evWhile (test : Env → Store → R D) (body : Env → Store → SR) : Nat → Env → Store → SR
  | 0, _, _ => .bad
  | n + 1, env, st => (test env st).toS env fun x st1 => match truth st1 x with
    | some true => (match body env st1 with
      | .next env' st' => evWhile test body n env' st'
      | .cnt env' st' => evWhile test body n env' st'
      | .brk env' st' => .next env' st'
      | r => r)
    | some false => .next env st1
    | none => .bad
def evFor (same : Store → Bool) (one : D → Env → Store → SR) : List D → Env → Store → SR
  | [], env, st => if same st then .next env st else .bad
  | x :: xs, env, st => if same st then (match one x env st with
    | .next env' st' => evFor same one xs env' st'
    | .cnt env' st' => evFor same one xs env' st'
    | .brk env' st' => .next env' st'
    | r => r) else .bad
mutual
noncomputable def xs (F : FT) : Sx → Env → Store → SR
  | .asg t e, env, st => (ev F e env st).toS env fun d st1 => match setT t d env with
    | some env' => .next env' st1
    | none => .bad
  | .setix o i e, env, st => (ev F e env st).toS env fun d st1 => (ev F o env st1).toS env fun ov st2 => (ev F i env st2).toS env fun iv st3 => match ov, iv with
    | .loc l, .int k => (match st3[l]? with
      | some (.lst ys) => (match ixN ys.length k with
        | some j => .next env (st3.set l (.lst (ys.set j d)))
        | none => .bad)
      | _ => .bad)
    | _, _ => .bad
  | .expr e, env, st => (ev F e env st).toS env fun _ st1 => .next env st1
  | .ret e, env, st => (ev F e env st).toS env fun d st1 => .ret d st1
  | .ite c t f, env, st => (ev F c env st).toS env fun x st1 => match truth st1 x with
    | some true => xss F t env st1
    | some false => xss F f env st1
    | none => .bad
  | .for_ t k src body, env, st => (evs F src env st).toS env fun ds st1 => match srcOf k ds st1 with
    | some S => evFor S.same (fun x env2 st2 => match setT t x env2 with
        | some env' => xss F body env' st2
        | none => .bad) S.items env st1
    | none => .bad
  | .while_ c body, env, st => evWhile (fun env st => ev F c env st) (fun env st => xss F body env st) WF env st
  | .brk, env, st => .brk env st
  | .cnt, env, st => .cnt env st
  | .pass, env, st => .next env st
  | .raise_ c e, env, st => (ev F e env st).toS env fun d st1 => .exc c d env st1
  | .try_ body tab i suite, env, st => catchS tab i (fun env1 st1 => xss F suite env1 st1) (xss F body env st)
noncomputable def xss (F : FT) : List Sx → Env → Store → SR
  | [], env, st => .next env st
  | s :: ss, env, st => (xs F s env st).seq fun env' st' => xss F ss env' st'
end

structure Fd where
  slots : Nat
  params : Nat
  body : List Sx
def SR.fin : SR → R D
  | .next _ st => .ok .non st
  | .ret d st => .ok d st
  | .exc c p _ st => .exc c p st
  | _ => .bad
/-- a call of the f-th def, to the depth k -/
noncomputable def run (P : List Fd) : Nat → FT
  | 0, _, _, _ => .bad
  | k + 1, f, ds, st => match P[f]? with
    | some d => if ds.length = d.params then (xss (run P k) d.body (ds.map some ++ List.replicate (d.slots - d.params) none) st).fin else .bad
    | none => .bad
end Z

set_option autoImplicit false
namespace Z
open PySem L2

structure Fi where
  id : Nat
  np : Nat
  dvs : List D
  hot : Bool := false
  raw : Bool := false
structure Cc where
  N : List Str
  sc : Scope
  raw : Scope
  isDef : Bool
  fn : List (Str × Fi)
  co : List (Str × D)
  blt : List Str
  ex : List (Str × (Nat × List Nat)) := []
  exb : List (Str × List Nat) := []
  hot : Bool := false
  cur : Bool := false
  seals : List Pos := []
  opens : List Pos := []

def slotOf (N : List Str) (x : Str) : Option Nat := match N.findIdx? (fun y => y == x) with
  | some i => if N[i]? = some x then some i else none
  | none => none
theorem slotOf_get {N : List Str} {x : Str} {i : Nat} (h : slotOf N x = some i) : N[i]? = some x := by
  unfold slotOf at h
  split at h
  · split at h
    · cases h; assumption
    · cases h
  · cases h
def okName (x : Str) : Bool := !(x == ("__debug__" : Str)) && !(x == ("__classdict__" : Str)) && !(x == ("__name__" : Str))
def Cc.vis (c : Cc) (x : Str) : Bool := match c.sc.names.lookup x with
  | some .local => true
  | some .cell => true
  | some .free => true
  | _ => false
def Cc.gl (c : Cc) (x : Str) : Bool := match c.sc.names.lookup x with
  | some .globalImplicit => true
  | _ => false
/-- a name that may be stored -/
def Cc.sto (c : Cc) (x : Str) : Bool := match c.sc.names.lookup x with
  | some .local => true
  | some .cell => c.isDef || (c.raw.names.lookup x == some .cell)
  | _ => false
def Cc.bl (c : Cc) (x : Str) : Bool := c.gl x && c.blt.contains x && okName x
def opBin : Operator → Option Op
  | .Add => some .add
  | .Sub => some .sub
  | .Mult => some .mul
  | .Mod => some .mod
  | .FloorDiv => some .fdiv
  | .Pow => some .pow
  | _ => none
def opCmp : CmpOp → Option Op
  | .Eq => some .eq
  | .NotEq => some .ne
  | .Lt => some .lt
  | .LtE => some .le
  | .Gt => some .gt
  | .GtE => some .ge
  | .Is => some .is
  | .IsNot => some .isnot
  | .In => some (.x .inn)
  | .NotIn => some (.x .notin)
def ordCmp : CmpOp → Bool
  | .Lt => true
  | .LtE => true
  | .Gt => true
  | .GtE => true
  | _ => false
/-- a method of a built-in type, by its name and the number of its arguments -/
def mtOf (x : Str) (n : Nat) : Option Mt :=
  if x == ("join" : Str) && n == 1 then some .join
  else if x == ("split" : Str) && n == 1 then some .split
  else if x == ("lower" : Str) && n == 0 then some .lower
  else if x == ("upper" : Str) && n == 0 then some .upper
  else if x == ("endswith" : Str) && n == 1 then some .endswith
  else if x == ("startswith" : Str) && n == 1 then some .startswith
  else if x == ("isascii" : Str) && n == 0 then some .isascii
  else if x == ("isdigit" : Str) && n == 0 then some .isdigit
  else if x == ("append" : Str) && n == 1 then some .append
  else if x == ("extend" : Str) && n == 1 then some .extend
  else if x == ("index" : Str) && n == 1 then some .index
  else none
def mtL : Mt → Bool
  | .append => true
  | .extend => true
  | .index => true
  | _ => false
def noSuper : Expr → Bool
  | .Call (.Name x _) _ _ _ => x != ("super" : Str)
  | _ => true
def constD : Const → Option D
  | .none => some .non
  | .bool b => some (.bl b)
  | .int i => some (.int i)
  | .str s => some (.str s.cps.toList)
  | _ => none
def tyOf (x : Str) : Option Ty :=
  if x == ("int" : Str) then some .int
  else if x == ("bool" : Str) then some .bool
  else if x == ("str" : Str) then some .str
  else if x == ("list" : Str) then some .list
  else if x == ("tuple" : Str) then some .tuple
  else none
/-- a built-in call by name -/
def bltOp (x : Str) (n : Nat) (fr : Bool) : Option Op :=
  if x == ("len" : Str) && n == 1 then some .len
  else if x == ("tuple" : Str) && n == 1 then some .toTup
  else if x == ("int" : Str) && n == 1 then some .toInt
  else if x == ("list" : Str) && n == 1 then some (.x (if fr then .toListF else .toList))
  else if x == ("all" : Str) && n == 1 then some (.x .all_)
  else if x == ("any" : Str) && n == 1 then some (.x .any_)
  else if x == ("sum" : Str) && n == 1 then some (.x .sum_)
  else if x == ("min" : Str) && n == 2 then some (.x .min2)
  else if x == ("max" : Str) && n == 2 then some (.x .max2)
  else if x == ("ord" : Str) && n == 1 then some (.x .ord_)
  else none
/-- needs that no exception is handled -/
def calmOp : Op → Bool
  | .x .all_ => true
  | .x .any_ => true
  | .x .sum_ => true
  | .x .min2 => true
  | .x .max2 => true
  | _ => false
/-- not starred, no slice -/
def plain : Expr → Bool
  | .Starred _ _ => false
  | .Slice _ _ _ _ => false
  | .Set _ _ _ => false
  | _ => true
/-- nothing that is stored within the comprehension's frame -/
def noComp : Expr → Bool
  | .ListComp _ _ _ _ => false
  | .SetComp _ _ _ _ => false
  | .DictComp _ _ _ _ _ => false
  | _ => true
def isTup : Expr → Bool
  | .Tuple _ _ _ => true
  | .List _ _ => true
  | _ => false
/-- an assignment in its plain form -/
def asgOk (sc : Scope) (t e : Expr) : Bool := match t with
  | .Name x p => noComp e || (match e with
    | .ListComp _ _ s _ => (sc.names.lookup x == some .local) && (p.line == e.pos.line) && !(s.names.any fun (n, k) => n == x && (k == .local || k == .cell))
    | _ => false)
  | .Tuple _ _ _ => noComp e && !isTup e
  | _ => false
def ownOf (N : List Str) : List (Str × NameKind) → List (Str × Nat)
  | [] => []
  | (x, k) :: r => match k with
    | .local => (match slotOf N x with | some i => (x, i) :: ownOf N r | none => ownOf N r)
    | .cell => (match slotOf N x with | some i => (x, i) :: ownOf N r | none => ownOf N r)
    | _ => ownOf N r
def Cc.blk (c : Cc) (scope : Scope) : Cc := { c with sc := relS scope c.sc, raw := scope, isDef := false, hot := false, cur := false }
mutual
def trTg (c : Cc) : Nat → Expr → Option Tg
  | 0, _ => none
  | n + 1, e => match e with
    | .Name x _ => if c.sto x && okName x then (slotOf c.N x).map .nm else none
    | .Tuple es _ _ => if !c.hot && es.all plain then (trTgs c n es).map .tup else none
    | _ => none
def trTgs (c : Cc) : Nat → List Expr → Option (List Tg)
  | 0, _ => none
  | n + 1, es => match es with
    | [] => some []
    | e :: r => match trTg c n e, trTgs c n r with
      | some a, some b => some (a :: b)
      | _, _ => none
end
def isV : Ex → Bool
  | .v _ => true
  | _ => false
def mkCall (raw : Bool) (f : Nat) (es : List Ex) : Ex := if raw then .call f es else .scall f es
mutual
def trE : Nat → Cc → Expr → Option Ex
  | 0, _, _ => none
  | n + 1, c, e => if c.seals.contains e.pos then (trE1 n c e).map .sealE else trE1 n c e
def trE1 : Nat → Cc → Expr → Option Ex
  | 0, _, _ => none
  | n + 1, c, e => match e with
    | .Name x _ => if okName x then (if c.vis x then (slotOf c.N x).map .v else if c.gl x then (c.co.lookup x).map .c else none) else none
    | .Constant k _ _ => (constD k).map .c
    | .BinOp a op b _ => match opBin op, trE n c a, trE n c b with
      | some o, some ma, some mb => some (.op o [ma, mb])
      | _, _, _ => none
    | .UnaryOp op a _ => match op, trE n c a with
      | .USub, some ma => some (.op .neg [ma])
      | .Not, some ma => some (.not ma)
      | _, _ => none
    | .BoolOp op vs pos => match vs with
      | [] => none
      | [a] => trE n c a
      | a :: b :: r => match op, trE n c a, trE n c (.BoolOp op (b :: r) pos) with
        | .And, some ma, some mb => some (.and ma mb)
        | .Or, some ma, some mb => some (.or ma mb)
        | _, _, _ => none
    | .Compare a ops bs _ => match ops, bs with
      | [op], [b] => match opCmp op, trE n c a, trE n c b with
        | some o, some ma, some mb => some (.op o [ma, mb])
        | _, _, _ => none
      | [op, op'], [b, d] => if ordCmp op && ordCmp op' then (match opCmp op, opCmp op', trE n c a, trE n c b, trE n c d with
        | some o, some p, some ma, some mb, some md => some (.chain o p ma mb md)
        | _, _, _, _, _ => none) else none
      | _, _ => none
    | .IfExp t a b _ => match trE n c t, trE n c a, trE n c b with
      | some mt, some ma, some mb => some (.ifx mt ma mb)
      | _, _, _ => none
    | .Call f args kws pos => match f, kws with
      | .Name x _, [] => if okName x && c.gl x && args.all plain then (match c.fn.lookup x with
        | some fi => (match args, trEs n c args with
          | _ :: _, some ms => if (args.length ≤ fi.np ∧ fi.np ≤ args.length + fi.dvs.length) ∧ (!c.hot || (fi.hot && fi.dvs.isEmpty)) = true then some (mkCall fi.raw fi.id (ms ++ (fi.dvs.drop (args.length + fi.dvs.length - fi.np)).map .c)) else none
          | _, _ => none)
        | none => if c.blt.contains x then (if x == ("isinstance" : Str) then (match args with
            | [a, .Name y _] => if okName y && c.gl y then (match c.blt.contains y with
              | true => (match tyOf y, trE n c a with
                | some t, some ma => some (.op (.isin t) [ma])
                | none, some ma => if c.hot || isV ma then (c.exb.lookup y).map fun tab => .op (.x (.isx tab)) [ma] else none
                | _, _ => none)
              | false => (match c.ex.lookup y, trE n c a with
                | some q, some ma => if c.hot || isV ma then some (.op (.x (.isx q.2)) [ma]) else none
                | _, _ => none)) else none
            | _ => none)
          else (match bltOp x args.length (!c.opens.contains pos), trEs n c args with
            | some o, some ms => if !c.hot || !calmOp o then some (.op o ms) else none
            | _, _ => none)) else none) else none
      | .Attribute o x ap, [] => if noSuper o && (ap.endLine == pos.line) && args.all plain && decide (args.length < 30) then (match mtOf x args.length, trE n c o, trEs n c args with
        | some m, some mo, some ms => some (.op (.x (.meth m)) (.op (.x (if mtL m then .asLst else .asStr)) [mo] :: ms))
        | _, _, _ => none) else none
      | _, _ => none
    | .Subscript a i _ => match i with
      | .Slice lo hi st _ => match st, lo, hi with
        | none, none, none => (trE n c a).map fun ma => .op (.sl false false) [ma]
        | none, some l, none => match trE n c a, trE n c l with
          | some ma, some ml => some (.op (.sl true false) [ma, ml])
          | _, _ => none
        | none, none, some h => match trE n c a, trE n c h with
          | some ma, some mh => some (.op (.sl false true) [ma, mh])
          | _, _ => none
        | none, some l, some h => match trE n c a, trE n c l, trE n c h with
          | some ma, some ml, some mh => some (.op (.sl true true) [ma, .op .asInt [ml], mh])
          | _, _, _ => none
        | _, _, _ => none
      | i => if plain i then (match trE n c a, trE n c i with
        | some ma, some mi => some (.op .ix [ma, mi])
        | _, _ => none) else none
    | .Tuple es _ _ => if es.all plain then (trEs n c es).map (.op .tup) else none
    | .List es pos => if es.all plain then (trEs n c es).map (.op (if c.opens.contains pos then .lst else .x .flit)) else none
    | .ListComp elt gs scope _ => match gs with
      | [⟨t, iter, ifs, 0⟩] => if !c.hot && (blkC c.N c.sc scope (ownOf c.N scope.names) && plain iter) then
          (match trTg (c.blk scope) n t, trIt n c iter, trEs n (c.blk scope) ifs, trE n (c.blk scope) elt with
          | some mt, some (k, src), some mi, some me => if (slotsT mt).all (((ownOf c.N scope.names).map (·.2)).contains ·) && decide (mi.length ≤ 1) then some (.comp ((ownOf c.N scope.names).map (·.2)) mt k src mi me) else none
          | _, _, _, _ => none) else none
      | _ => none
    | .Attribute o x _ => if c.cur && (x == ("place" : Str)) && noSuper o then (trE n c o).map fun m => .op (.x .place) [m] else none
    | _ => none
def trEs : Nat → Cc → List Expr → Option (List Ex)
  | 0, _, _ => none
  | n + 1, c, es => match es with
    | [] => some []
    | e :: r => match trE n c e, trEs n c r with
      | some a, some b => some (a :: b)
      | _, _ => none
/-- what a for goes over -/
def trIt : Nat → Cc → Expr → Option (Ik × List Ex)
  | 0, _, _ => none
  | n + 1, c, e => match e with
    | .Call (.Name x p) args [] pos => if x == ("range" : Str) then (if c.bl x && args.all plain then (match args with
        | [a] => (trE n c a).map fun m => (.range1, [m])
        | [a, b] => (match trE n c a, trE n c b with | some ma, some mb => some (.range2, [ma, mb]) | _, _ => none)
        | _ => none) else none) else (trE n c (.Call (.Name x p) args [] pos)).map fun m => (.seq, [m])
    | e => (trE n c e).map fun m => (.seq, [m])
end
mutual
def trS : Nat → Cc → Stmt → Option Sx
  | 0, _, _ => none
  | n + 1, c, s => match s with
    | .Assign ts e _ => match ts with
      | [.Subscript o i _] => if plain i && noComp e && plain e then (match trE n c o, trE n c i, trE n c e with
        | some mo, some mi, some me => some (.setix mo mi me)
        | _, _, _ => none) else none
      | [t] => match trTg c n t, trE n c e with
        | some mt, some me => if plain e && asgOk c.sc t e then some (.asg mt me) else none
        | _, _ => none
      | _ => none
    | .Expr e _ => match e with
      | .Constant (.str _) _ _ => some .pass
      | e => if noComp e then (trE n c e).map .expr else none
    | .Return (some e) _ => (trE n c e).map .ret
    | .Return none _ => some (.ret (.c .non))
    | .If t a b _ => match trE n c t, trSs n c a, trSs n c b with
      | some mt, some ma, some mb => some (.ite mt ma mb)
      | _, _, _ => none
    | .For t iter body orelse _ => match orelse with
      | [] => if !c.hot && plain iter then (match trTg c n t, trIt n c iter, trSs n c body with
        | some mt, some (k, src), some mb => some (.for_ mt k src mb)
        | _, _, _ => none) else none
      | _ => none
    | .While t body orelse _ => match orelse with
      | [] => if !c.hot then (match trE n c t, trSs n c body with
        | some mt, some mb => some (.while_ mt mb)
        | _, _ => none) else none
      | _ => none
    | .AugAssign t op e _ => match t with
      | .Name x _ => if c.sto x && okName x && noComp e && plain e then (match op, slotOf c.N x, trE n c e with
        | .Add, some i, some m => some (.asg (.nm i) (.op (.x .iadd) [.v i, m]))
        | .Sub, some i, some m => some (.asg (.nm i) (.op (.x .isub) [.v i, m]))
        | _, _, _ => none) else none
      | _ => none
    | .Break _ => some .brk
    | .Continue _ => some .cnt
    | .Pass _ => some .pass
    | .Raise r none _ => match r with
      | some (.Call (.Name x _) [e] [] _) => if !c.hot && (okName x && c.gl x && plain e) then (match c.ex.lookup x, trE n c e with
        | some q, some m => some (.raise_ q.1 m)
        | _, _ => none) else none
      | _ => none
    | .Try body hs [] [] _ => match hs with
      | [.ExceptHandler (some (.Name x _)) (some nm) (b0 :: suite) _] => if (!c.hot && !c.cur && c.isDef) && (okName x && c.gl x && (c.sc.names.lookup nm == some .local)) then (match c.ex.lookup x, slotOf c.N nm, trSs n c body, trSs n { c with hot := true, cur := true } (b0 :: suite) with
        | some q, some i, some mb, some ms => some (.try_ mb q.2 i ms)
        | _, _, _, _ => none) else none
      | _ => none
    | _ => none
def trSs : Nat → Cc → List Stmt → Option (List Sx)
  | 0, _, _ => none
  | n + 1, c, ss => match ss with
    | [] => some []
    | s :: r => match trS n c s, trSs n c r with
      | some a, some b => some (a :: b)
      | _, _ => none
end
end Z

set_option autoImplicit false
namespace Z
open PySem PySem.Spec PyProof.Rows L2

/-! ## a def that is called while the one exception at p is handled -/
abbrev CXN (prog : Program) (w : World) : CXT := L2N.CX prog w
structure CurP (cls : List Addr) (p : Addr × Obj) (cu : Cur) : Prop where
  ad : cu.a = p.1
  cl : ∃ C, cls[cu.c]? = some C ∧ Zc (.ref C) (some cu.dd) p.2
  fs : ∃ vs, p.2.data = .fields vs
structure FnHp (p : Addr × Obj) (prog : Program) (w : World) (K : PySem.W.Frag) (mg : Str → Option Value) (base : Heap) (k : Nat) (f : Addr) (fd : FuncData) (ps : List Str) (sp : Sp) : Prop where
  len : ∀ vs H Q E, sp vs H Q E → vs.length = ps.length
  run : ∀ (A : Around) (outer : List PySem.Env) (s : Shared) (H : Hp) (as : Args) (us : List Value) (vs : List V) (Q : VK) (E : XK),
    L2H.RoomH k A → L2H.Hot1 A p → L2H.PinOk outer H s p → Env0 prog w K mg base A outer s H → BindsTo s fd as (ps.zip us) → Vals vs us → sp vs H Q E →
      codeAny (model prog w) A (.call (.ref f) as) (CR (CXN prog w) outer prog w H s Q E) s
section
variable {prog : Program} {w : World} {K : PySem.W.Frag} {mg : Str → Option Value} {base : Heap} {p : Addr × Obj}
theorem fnHp_of {x qual : Str} {st : Stmt} {f : Addr} {fd : FuncData} {N ps : List Str} {k : Nat} {sp : Sp} (F : Fun K x qual st f fd) (S : FnScope N ps (defScope st)) (len : ∀ vs H Q E, sp vs H Q E → vs.length = ps.length)
    (body : ∀ (cdv : Value) (A : Around) (outer : List PySem.Env) (s : Shared) (H : Hp) (vs : List V) (Q : VK) (E : XK), L2H.Hot1 A p → L2H.RoomH k (A.deeper (envOfC qual (defScope st) s.heap.objs.size f cdv)) → sp vs H Q E →
      ∃ t, PSs (L2H.cxH (CXN prog w) prog w K mg base N qual (defScope st) f cdv A outer s H E p) (defBody st) t ∧ t { nx := fun _ H' => Q .non H', rt := Q } (L2.start N vs) H) : FnHp p prog w K mg base (k + 1) f fd ps sp := by
  obtain ⟨oc, od, kV, doc, pm, an, cd, ct, osl, rfl, lk, hc⟩ := F.ex
  constructor
  · exact len
  intro A outer s H as us vs Q E room hot pin e0 bd rel hsp
  have nvs := len _ _ _ _ hsp
  have inK : K.In s.heap := e0.mod.kin.keeps (fun b o q => (e0.bs b o q).1)
  have noLim : s.heap.NoLimit := e0.mod.nolimit.keeps (fun b o q => (e0.bs b o q).1)
  have kinds : ∀ z, z ∈ ps.zip us → (defScope st).names.lookup z.1 = some .local ∨ ((defScope st).names.lookup z.1 = some .cell ∧
      ((cellsFrom (s.heap.objs.size + 1) (defScope st).names []).lookup z.1).isSome = true) := by
    intro z hz
    have hz1 : z.1 ∈ ps := (List.of_mem_zip (a := z.1) (b := z.2) hz).1
    exact (S.par z.1 hz1).imp id fun q => ⟨q, PySem.W.cellsFrom_some _ _ _ (.inl q)⟩
  refine codeAny_call_function room.depth (inK _ _ lk) rfl S.co S.gen rfl (PySem.W.codeRec_of inK hc) (bd _ _ _ _ ?_)
  refine wpAny_newFunctionEnv_cells S.kind kinds ?_
  rintro env rfl s1 x
  refine ⟨noLim.keeps x.toInCall.keep, codeAny_func ?_⟩
  obtain ⟨t, ht, hq⟩ := body cd A outer s H vs Q E hot (room.deeper _) hsp
  have I0 := L2H.inv_startH (CX := CXN prog w) (E := E) S pin e0 nvs rel x
  refine wpAny_mono (ht.run [] s1 _ H _ I0 hq) ?_ fun e s' hs => hs
  intro fl s' hs
  match fl, hs with
  | .ret u, ⟨v, _, H', J, rv, q⟩ => exact ⟨v, H', J.os, J.bare, J.base, J.hok, rv, q⟩
  | .next, ⟨_, H', J, q⟩ => exact ⟨.non, H', J.os, J.bare, J.base, J.hok, rfl, q⟩
  | .brk, ⟨_, _, _, q⟩ => exact q.elim
  | .cont, ⟨_, _, _, q⟩ => exact q.elim
end
section
variable {X : Cx} {p : Addr × Obj} {k : Nat} {f : Addr} {fd : FuncData} {ps : List Str} {sp : Sp} {E : L2.St → XK}
theorem pe_callHp {x : Str} {px pos : Pos} {e : Expr} {es : List Expr} {t : TA} (F : FnHp p X.prog X.w X.K X.mg X.base k f fd ps sp) (room : L2H.RoomH k X.A) (hot : L2H.Hot1 X.A p) (hp : p ∈ X.pn) (hg : Gl X x) (hm : X.mg x = some (.ref f)) (hk : PySem.W.keepIn X.K (.ref f) = true)
    (hb : Binds X.K fd ps []) (hx : ∀ σ, PassesAt (CXN X.prog X.w) X σ (E σ)) (ha : PA X (e :: es) t) (hdb : (x == ("__debug__" : Str)) = false) (he : starEach (e :: es) X.env = (false, eval e X.env) :: starEach es X.env)
    (hpl : (backTo pos (starEach es X.env)).any (·.1) = false) : PE X (.Call (.Name x px) (e :: es) [] pos) (tCallS sp E t) := by
  constructor
  intro pins s σ H Q I h
  refine wpAny_Call_Name_kw (ld_glob I hg hm ?_ hdb)
  refine PySem.W.callWith_K (h₀ := X.base) I.ok.mod.kin hk (thn (ha.run pos pins s σ H _ I h) ?_) he hpl
  rintro us s1 ⟨vs, H1, I1, r, q⟩
  refine ⟨I1.kIn, ?_⟩
  have nus : us.length = ps.length := r.length.symm.trans (F.len _ _ _ _ q)
  have bd := hb s1 us I1.kIn (by rw [List.append_nil]; exact nus)
  rw [List.append_nil] at bd
  obtain ⟨g1, g2, g3, g4, g5⟩ := I1.pin p (List.mem_append_left _ hp)
  have pin : L2H.PinOk X.stack H1 s1 p := ⟨g1, g2, fun z => by
    rcases List.mem_cons.mp (I1.stkSub p.1 z) with z | z
    · exact g3 z
    · exact g4 z, g5⟩
  refine wpAny_call (codeAny_mono (F.run X.A X.stack s1 H1 ⟨us, []⟩ us vs Q (E σ) room hot pin I1.env0 bd r q) ?_)
  intro r s' hq
  match r, hq with
  | .error er, hq => exact hx σ pins H1 s1 er s' I1 hq
  | .ok (.ret u), hq => exact I1.after hq
  | .ok .next, hq => exact False.elim hq
  | .ok .brk, hq => exact False.elim hq
  | .ok .cont, hq => exact False.elim hq
end
end Z

set_option autoImplicit false
namespace Z
open PySem PySem.Spec PyProof.Rows L2

/-! ## readings of the machine's steps -/
def XRel (G : GC) (K : PySem.W.Frag) (ρ : Tk) (H : Hp) (c : Nat) (p : D) (cls : Value) (d : Option Addr) : Prop :=
  ∃ C dd v, G.cls[c]? = some C ∧ cls = .ref C ∧ d = some dd ∧ H dd = some (.xd [(("place" : Str), v)]) ∧ Rv K ρ H p v
section
variable (G : GC) (K : PySem.W.Frag)
/-- a result from ρ, H on: what is wanted of a value, W' of an exception -/
def Lf (W' : Value → Option Addr → Hp → Prop) (ρ : Tk) (H : Hp) {α : Type} (r : R α) (P : α → Store → Tk → Hp → Prop) : Prop := match r with
  | .ok a st' => ∀ ρ' H', Ext K ρ ρ' H H' → Rs G K ρ' st' H' → P a st' ρ' H'
  | .exc c p st' => ∀ ρ' H' cls dd, Ext K ρ ρ' H H' → Rs G K ρ' st' H' → XRel G K ρ' H' c p cls dd → W' cls dd H'
  | .bad => False
def tE (W : WX) (r : Env → Store → R D) : TE := fun σ H Q => ∃ ρ env st, Rel G K ρ env st σ H ∧ Lf G K (fun c d H' => W c d σ H') ρ H (r env st) fun d _ ρ' H' => ∀ v, Rv K ρ' H' d v → Q v H'
def tT (W : WX) (r : Env → Store → R D) : TT := fun σ H Q => ∃ ρ env st, Rel G K ρ env st σ H ∧ Lf G K (fun c d H' => W c d σ H') ρ H (r env st) fun d st' ρ' H' => ∃ k, truth st' d = some k ∧ Q k H'
def tA (W : WX) (r : Env → Store → R (List D)) : TA := fun σ H Q => ∃ ρ env st, Rel G K ρ env st σ H ∧ Lf G K (fun c d H' => W c d σ H') ρ H (r env st) fun ds _ ρ' H' => ∀ vs, Rvs K ρ' H' ds vs → Q vs H'
end
section
variable {G : GC} {K : PySem.W.Frag} {W' : Value → Option Addr → Hp → Prop} {ρ : Tk} {H : Hp} {α β : Type}
theorem Lf.imp {r : R α} {P P' : α → Store → Tk → Hp → Prop} (h : Lf G K W' ρ H r P) (f : ∀ a st' ρ' H', Ext K ρ ρ' H H' → Rs G K ρ' st' H' → P a st' ρ' H' → P' a st' ρ' H') : Lf G K W' ρ H r P' := by
  cases r with
  | ok a st => exact fun ρ' H' e s => f _ _ _ _ e s (h ρ' H' e s)
  | exc c p st => exact h
  | bad => exact h
theorem Lf.bind {r : R α} {f : α → Store → R β} {P : β → Store → Tk → Hp → Prop} (h : Lf G K W' ρ H (r.bind f) P) :
    Lf G K W' ρ H r fun a st' ρ' H' => Lf G K W' ρ' H' (f a st') P := by
  cases r with
  | ok a st =>
    intro ρ' H' e s
    have h : Lf G K W' ρ H (f a st) P := h
    cases hf : f a st with
    | ok b st2 =>
      rw [hf] at h
      exact fun ρ2 H2 e2 s2 => h ρ2 H2 (e.trans e2) s2
    | exc c p st2 =>
      rw [hf] at h
      exact fun ρ2 H2 cls dd e2 s2 x => h ρ2 H2 cls dd (e.trans e2) s2 x
    | bad =>
      rw [hf] at h
      exact h
  | exc c p st => exact h
  | bad => exact h
theorem Lf.ext {ρ' : Tk} {H' : Hp} {r : R α} {P : α → Store → Tk → Hp → Prop} (e : Ext K ρ ρ' H H') (h : Lf G K W' ρ H r P) : Lf G K W' ρ' H' r P := by
  cases r with
  | ok a st => exact fun ρ2 H2 e2 s2 => h ρ2 H2 (e.trans e2) s2
  | exc c p st => exact fun ρ2 H2 cls dd e2 s2 x => h ρ2 H2 cls dd (e.trans e2) s2 x
  | bad => exact h
theorem Lf.ok {a : α} {st : Store} {P : α → Store → Tk → Hp → Prop} (h : Lf G K W' ρ H (R.ok a st) P) (s : Rs G K ρ st H) : P a st ρ H := h ρ H Ext.refl s
end
theorem PE.imp {X : Cx} {e : Expr} {t t' : TE} (h : PE X e t) (f : ∀ σ H Q, t' σ H Q → t σ H Q) : PE X e t' := ⟨fun pins s σ H Q I q => h.run pins s σ H Q I (f σ H Q q)⟩
theorem PT.imp {X : Cx} {e : Expr} {t t' : TT} (h : PT X e t) (f : ∀ σ H Q, t' σ H Q → t σ H Q) : PT X e t' := ⟨fun pins s σ H Q I q => h.run pins s σ H Q I (f σ H Q q)⟩
theorem PA.imp {X : Cx} {e : List Expr} {t t' : TA} (h : PA X e t) (f : ∀ σ H Q, t' σ H Q → t σ H Q) : PA X e t' := ⟨fun pos pins s σ H Q I q => h.run pos pins s σ H Q I (f σ H Q q)⟩
theorem PS.imp {X : Cx} {e : Stmt} {t t' : TS} (h : PS X e t) (f : ∀ D σ H, t' D σ H → t D σ H) : PS X e t' := ⟨fun pins s σ H D I q => h.run pins s σ H D I (f D σ H q)⟩
theorem PSs.imp {X : Cx} {e : List Stmt} {t t' : TS} (h : PSs X e t) (f : ∀ D σ H, t' D σ H → t D σ H) : PSs X e t' := ⟨fun pins s σ H D I q => h.run pins s σ H D I (f D σ H q)⟩

/-! ## the context -/
/-- a def's promise: the machine's own run -/
def spF (G : GC) (K : PySem.W.Frag) (P : List Fd) (k f : Nat) : Sp := fun vs H Q E => ∃ ρ st ds, Rs G K ρ st H ∧ Rvs K ρ H ds vs ∧ Lf G K (fun c d H' => E c d H') ρ H (run P k f ds st) fun d _ ρ' H' => ∀ v, Rv K ρ' H' d v → Q v H'
/-- a constant's value, known to the written part -/
def CVal (K : PySem.W.Frag) (d : D) (u : Value) : Prop := ∃ v, RelV v u ∧ ∀ ρ H, Rv K ρ H d v
/-- what the written part says of an exception class with an attribute place -/
structure ClsOk (K : PySem.W.Frag) (C : Addr) : Prop where
  oex : OexC K C
  xf : XfC K C
  is_ : ExcC K C
  noP : PySem.W.findIn K (.ref C) "place" = some none
/-- its __init__ -/
def spI (K : PySem.W.Frag) : Sp := fun vs H Q _ => ∃ (a C : Addr) (y : V), vs = [.ref a, y] ∧ H a = some (exo a C none) ∧ OexC K C ∧ PySem.W.findIn K (.ref C) "place" = some none ∧
  ∀ dx, H dx = none → dx ≠ a → Q .non (upd (upd H dx (exd dx [(("place" : Str), y)])) a (exo a C (some dx)))
structure XG (G : GC) (P : List Fd) (k : Nat) (X : Cx) (c : Cc) : Prop where
  N : X.N = c.N
  nd : X.N.Nodup
  sc : X.env.scope = c.sc
  calm : c.hot = false → X.calm = true
  fn : (c.isDef = true ∧ ∀ x, X.fn x = true) ∨ (c.isDef = false ∧ ∀ x, X.fn x = (c.raw.names.lookup x == some .cell))
  room : c.hot = false → Room (k + 2) X.A
  roomH : L2H.RoomH (k + 2) X.A
  po : PassesOwn (model X.prog X.w) X.A X.env X.xe
  top : c.isDef = true → X.stack = X.env :: X.outer ∧ X.env.frame = some X.env.locals
  nocur : c.hot = false → G.cur = none
  hotc : c.hot = true → ∃ p cu, L2H.Hot1 X.A p ∧ p ∈ X.pn ∧ G.cur = some cu ∧ CurP G.cls p cu
  curx : c.cur = true → ∃ X0 oe pn cu C, X = Cx.suite X0 cu.a ((cu.a, oe) :: pn) ∧ G.cur = some cu ∧ G.cls[cu.c]? = some C ∧ Zc (.ref C) (some cu.dd) oe ∧ ∃ vs, oe.data = .fields vs
  blt : ∀ x, c.blt.contains x = true → X.mg x = none
  fns : ∀ x fi, c.fn.lookup x = some fi → ∃ a fd ps, X.mg x = some (.ref a) ∧ PySem.W.keepIn X.K (.ref a) = true ∧ ps.length = fi.np ∧
    (∀ n, ∃ vs ds, (∀ ρ H, Rvs X.K ρ H (fi.dvs.drop n) vs) ∧ Vals vs ds ∧ Binds X.K fd ps ds) ∧
    FnOk X.prog X.w X.K X.mg X.base (CXN X.prog X.w) (k + 2) a fd ps (spF (G.at none) X.K P k fi.id) ∧
    (fi.hot = true → ∀ p cu, CurP G.cls p cu → FnHp p X.prog X.w X.K X.mg X.base (k + 2) a fd ps (spF (G.at (some cu)) X.K P k fi.id))
  co : ∀ x d, c.co.lookup x = some d → ∃ u, X.mg x = some u ∧ CVal X.K d u
  ex : ∀ x q, c.ex.lookup x = some q → ∃ C, G.cls[q.1]? = some C ∧ X.mg x = some (.ref C) ∧ ∀ (i : Nat) (D : Addr), G.cls[i]? = some D → PySem.W.exmOne X.K (.ref D) (.ref C) = some (q.2.contains i) ∧ PySem.W.kitOne X.K (.ref D) (.ref C) = some (q.2.contains i)
  exb : ∀ x tab, c.exb.lookup x = some tab → X.mg x = none ∧ ∃ T, bootBuiltins x = some (.type T) ∧ ∀ (i : Nat) (D : Addr), G.cls[i]? = some D → PySem.W.kitOne X.K (.ref D) (.type T) = some (tab.contains i)
  cls : ∀ (i : Nat) (D : Addr), G.cls[i]? = some D → ClsOk X.K D ∧ ∃ fI fd, PySem.W.findIn X.K (.ref D) "__init__" = some (some (.ref fI)) ∧ PySem.W.typeIn X.K (.ref fI) = some (.type "function") ∧
    FnOk X.prog X.w X.K X.mg X.base (CXN X.prog X.w) 1 fI fd ["self", "place"] (spI X.K) ∧ Binds X.K fd ["self", "place"] []
theorem GC.at_none {G : GC} (h : G.cur = none) : G.at none = G := by
  obtain ⟨c, u⟩ := G
  have h : u = none := h
  subst h
  rfl
theorem takesN0 {X : Cx} : L2N.Takes X (fun _ _ _ _ => False) := fun _ _ x => by
  obtain ⟨_, _, _, _, _, _, _, _, _, _, _, _, _, _, _, _, z⟩ := x
  exact z.elim

section
variable {G : GC} {P : List Fd} {k : Nat} {X : Cx} {c : Cc}
theorem gl_of (g : XG G P k X c) {x : Str} (h : c.gl x = true) : Gl X x := by
  unfold Cc.gl at h
  show X.env.scope.names.lookup x = some .globalImplicit
  rw [g.sc]
  split at h
  · assumption
  · cases h
theorem vis_of (g : XG G P k X c) {x : Str} (h : c.vis x = true) : Vis X.env.scope x := by
  unfold Cc.vis at h
  unfold Vis
  rw [g.sc]
  split at h
  · exact .inl ‹_›
  · exact .inr (.inl ‹_›)
  · exact .inr (.inr ‹_›)
  · cases h
theorem okName_dbg {x : Str} (h : okName x = true) : (x == ("__debug__" : Str)) = false := by
  unfold okName at h
  simp only [Bool.and_eq_true, Bool.not_eq_true'] at h
  exact h.1.1
theorem okName_cd {x : Str} (h : okName x = true) : (x == ("__classdict__" : Str)) = false := by
  unfold okName at h
  simp only [Bool.and_eq_true, Bool.not_eq_true'] at h
  exact h.1.2
theorem okName_nm {x : Str} (h : okName x = true) : x ≠ ("__name__" : Str) := by
  unfold okName at h
  simp only [Bool.and_eq_true, Bool.not_eq_true'] at h
  exact fun e => by rw [e] at h; simp at h
theorem sto_loc (g : XG G P k X c) {x : Str} (h : c.sto x = true) : L2.Loc X.env.scope x := by
  unfold Cc.sto at h
  unfold L2.Loc
  rw [g.sc]
  split at h
  · exact .inl ‹_›
  · exact .inr ‹_›
  · cases h
theorem sto_fn (g : XG G P k X c) {x : Str} (h : c.sto x = true) : X.fn x = true ∨ X.env.scope.names.lookup x = some .local := by
  unfold Cc.sto at h
  rw [g.sc]
  split at h
  · exact .inr ‹_›
  · rcases g.fn with ⟨_, f⟩ | ⟨d, f⟩
    · exact .inl (f x)
    · rw [d] at h
      exact .inl (by rw [f]; simpa using h)
  · cases h
theorem star_plain {e : Expr} {es : List Expr} {env : PySem.Env} (h : plain e = true) : starEach (e :: es) env = (false, eval e env) :: starEach es env := by
  cases e <;> first | rfl | (cases h)
theorem ix_plain {e : Expr} (h : plain e = true) : PlainIx e := by
  intro o i
  cases e <;> first | rfl | (cases h)
theorem any_plain {es : List Expr} {env : PySem.Env} {pos : Pos} (h : es.all plain = true) : (backTo pos (starEach es env)).any (·.1) = false := by
  induction es with
  | nil => rfl
  | cons e es ih =>
    rw [List.all_cons, Bool.and_eq_true] at h
    rw [star_plain h.1]
    show (false || _) = false
    rw [Bool.false_or]
    exact ih h.2
theorem nomark_plain {op : CmpOp} {b : Expr} (h : plain b = true) : behindInMarks op b = false := by
  cases b <;> first | rfl | (cases h)

/-! ## arguments -/
variable {W : WX}
theorem pa_nilZ {r : Env → Store → R (List D)} (h : ∀ env st, r env st = .ok [] st) : PA X [] (tA G X.K W r) :=
  PA.imp pa_nil fun σ H Q ⟨ρ, env, st, rel, q⟩ => by
    rw [h] at q
    exact q.ok rel.s [] .nil
theorem pa_consZ {e : Expr} {es : List Expr} {a : Env → Store → R D} {b : Env → Store → R (List D)} (hp : plain e = true) (ha : PE X e (tE G X.K W a)) (hb : PA X es (tA G X.K W b)) :
    PA X (e :: es) (tA G X.K W fun env st => (a env st).bind fun d st1 => (b env st1).bind fun ds st2 => .ok (d :: ds) st2) :=
  PA.imp (pa_cons ha hb (star_plain hp)) fun σ H Q ⟨ρ, env, st, rel, q⟩ => by
    refine ⟨ρ, env, st, rel, q.bind.imp fun d st1 ρ1 H1 e1 s1 q1 v rv => ?_⟩
    refine ⟨ρ1, env, st1, ⟨s1, rel.e.ext e1⟩, q1.bind.imp fun ds st2 ρ2 H2 e2 s2 q2 vs rvs => ?_⟩
    exact q2.ok s2 _ (.cons (rv.ext e2) rvs)

/-- no operation raises -/
def NoX {α : Type} (r : R α) : Prop := ∀ c p st, r ≠ .exc c p st
theorem Lf.nox {K : PySem.W.Frag} {α : Type} {W' W2 : Value → Option Addr → Hp → Prop} {ρ : Tk} {H : Hp} {r : R α} {P : α → Store → Tk → Hp → Prop} (n : NoX r) (h : Lf G K W' ρ H r P) : Lf G K W2 ρ H r P := by
  cases r with
  | ok a st => exact h
  | exc c p st => exact absurd rfl (n c p st)
  | bad => exact h
end
end Z

set_option autoImplicit false
set_option maxHeartbeats 1000000
namespace Z
open PySem PySem.Spec PyProof.Rows L2

/-! ## == of data, whatever the signs of its texts -/
mutual
def nd : PyData → Bool
  | .dict _ => false
  | .list xs => nds xs
  | .tuple xs => nds xs
  | _ => true
def nds : List PyData → Bool
  | [] => true
  | x :: xs => nd x && nds xs
end
mutual
def py : D → PyData
  | .non => .none
  | .bl b => .bool b
  | .int i => .int i
  | .str s => .str ⟨s.toArray⟩
  | .tup xs => .tuple (pys xs)
  | .flst xs => .list (pys xs)
  | .loc _ => .none
  | _ => .none
def pys : List D → List PyData
  | [] => []
  | x :: xs => py x :: pys xs
end
mutual
theorem nd_py : ∀ d : D, nd (py d) = true
  | .non => rfl
  | .bl _ => rfl
  | .int _ => rfl
  | .str _ => rfl
  | .tup xs => nds_pys xs
  | .flst xs => nds_pys xs
  | .loc _ => rfl
  | .slst _ => rfl
  | .fdct _ _ => rfl
  | .fset _ => rfl
  | .fins _ _ _ => rfl
  | .fn _ => rfl
theorem nds_pys : ∀ ds : List D, nds (pys ds) = true
  | [] => rfl
  | x :: xs => by show (nd (py x) && nds (pys xs)) = true; rw [nd_py x, nds_pys xs]; rfl
end
mutual
theorem deep_py : ∀ d : D, (py d).depth = deepD d
  | .non => rfl
  | .bl _ => rfl
  | .int _ => rfl
  | .str _ => rfl
  | .tup xs => by show PyData.depthAll (pys xs) + 1 = deepDs xs + 1; rw [deep_pys xs]
  | .flst xs => by show PyData.depthAll (pys xs) + 1 = deepDs xs + 1; rw [deep_pys xs]
  | .loc _ => rfl
  | .slst _ => rfl
  | .fdct _ _ => rfl
  | .fset _ => rfl
  | .fins _ _ _ => rfl
  | .fn _ => rfl
theorem deep_pys : ∀ ds : List D, PyData.depthAll (pys ds) = deepDs ds
  | [] => rfl
  | x :: xs => by show max (py x).depth (PyData.depthAll (pys xs)) = max (deepD x) (deepDs xs); rw [deep_py x, deep_pys xs]
end
theorem beq_arr (a b : List Nat) : ((⟨a.toArray⟩ : Str) == ⟨b.toArray⟩) = (a == b) := by
  by_cases h : a = b
  · subst h; rw [beq_self_eq_true, beq_self_eq_true]
  · have h1 : (a == b) = false := by simpa using h
    have h2 : ((⟨a.toArray⟩ : Str) == ⟨b.toArray⟩) = false := by
      refine beq_eq_false_iff_ne.mpr fun e => h ?_
      injection e with e
      simpa using congrArg Array.toList e
    rw [h1, h2]
mutual
/-- what the model's == says is eqD -/
theorem eqv_py : ∀ d e : D, PyData.eqv (py d) (py e) = eqD d e
  | .non, e => by cases e <;> rfl
  | .bl a, e => by cases e <;> rfl
  | .int i, e => by cases e <;> rfl
  | .str s, e => by
    cases e with
    | str t => exact beq_arr s t
    | _ => rfl
  | .tup xs, e => by
    cases e with
    | tup ys => exact eqvs_pys xs ys
    | _ => rfl
  | .flst xs, e => by
    cases e with
    | flst ys => exact eqvs_pys xs ys
    | _ => rfl
  | .loc _, e => by cases e <;> rfl
  | .slst _, e => by cases e <;> rfl
  | .fdct _ _, e => by cases e <;> rfl
  | .fset _, e => by cases e <;> rfl
  | .fins _ _ _, e => by cases e <;> rfl
  | .fn _, e => by cases e <;> rfl
theorem eqvs_pys : ∀ ds es : List D, PyData.eqvAll (pys ds) (pys es) = eqDs ds es
  | [], [] => rfl
  | [], _ :: _ => rfl
  | _ :: _, [] => rfl
  | x :: xs, y :: ys => by
    show (PyData.eqv (py x) (py y) && PyData.eqvAll (pys xs) (pys ys)) = (eqD x y && eqDs xs ys)
    rw [eqv_py x y, eqvs_pys xs ys]
end

section
open PySem.SeqAt
mutual
theorem same_nd {h : Heap} : ∀ (d e : PyData) (u : Value) (p q : List Addr), nd d = true → Reads h u d p → Reads h u e q → d = e
  | .none, _, _, _, _, _, x, y => by cases x; cases y; rfl
  | .bool _, _, _, _, _, _, x, y => by cases x; cases y; rfl
  | .int _, _, _, _, _, _, x, y => by cases x; cases y; rfl
  | .str _, _, _, _, _, _, x, y => by cases x; cases y; rfl
  | .list ds, e, _, _, _, hn, x, y => by
    cases x with
    | list a1 a2 a3 a4 =>
      cases y with
      | list b1 b2 b3 b4 =>
        rw [a1] at b1; cases b1
        rw [a3] at b3; cases b3
        rw [sames_nd ds _ _ _ _ hn a4 b4]
      | tuple b1 b2 b3 b4 => rw [a1] at b1; cases b1; rw [a2] at b2; exact absurd b2 (by decide)
      | dict b1 b2 b3 b4 b5 => rw [a1] at b1; cases b1; rw [a2] at b2; exact absurd b2 (by decide)
  | .tuple ds, e, _, _, _, hn, x, y => by
    cases x with
    | tuple a1 a2 a3 a4 =>
      cases y with
      | tuple b1 b2 b3 b4 =>
        rw [a1] at b1; cases b1
        rw [a3] at b3; cases b3
        rw [sames_nd ds _ _ _ _ hn a4 b4]
      | list b1 b2 b3 b4 => rw [a1] at b1; cases b1; rw [a2] at b2; exact absurd b2 (by decide)
      | dict b1 b2 b3 b4 b5 => rw [a1] at b1; cases b1; rw [a2] at b2; exact absurd b2 (by decide)
  | .dict _, _, _, _, _, hn, _, _ => by cases hn
theorem sames_nd {h : Heap} : ∀ (ds es : List PyData) (us : List Value) (p q : List Addr), nds ds = true → ReadsAll h us ds p → ReadsAll h us es q → ds = es
  | [], _, _, _, _, _, x, y => by cases x; cases y; rfl
  | d :: ds, _, _, _, _, hn, x, y => by
    have hn2 : (nd d && nds ds) = true := hn
    rw [Bool.and_eq_true] at hn2
    cases x with
    | cons a1 a2 =>
      cases y with
      | cons b1 b2 => rw [same_nd d _ _ _ _ hn2.1 a1 b1, sames_nd ds _ _ _ _ hn2.2 a2 b2]
end
mutual
theorem refl_nd : ∀ d : PyData, nd d = true → PyData.eqv d d = true
  | .none, _ => rfl
  | .bool _, _ => by rw [PyData.eqv]; exact beq_self_eq_true _
  | .int _, _ => by rw [PyData.eqv]; exact beq_self_eq_true _
  | .str _, _ => by rw [PyData.eqv]; exact beq_self_eq_true _
  | .list xs, hn => by rw [PyData.eqv]; exact refls_nd xs hn
  | .tuple xs, hn => by rw [PyData.eqv]; exact refls_nd xs hn
  | .dict _, hn => by cases hn
theorem refls_nd : ∀ ds : List PyData, nds ds = true → PyData.eqvAll ds ds = true
  | [], _ => rfl
  | d :: ds, hn => by
    have hn2 : (nd d && nds ds) = true := hn
    rw [Bool.and_eq_true] at hn2
    rw [PyData.eqvAll, refl_nd d hn2.1, refls_nd ds hn2.2]; rfl
end
/-- both words of == -/
def EqBoth (A : Around) (s : Shared) (u v : Value) (b : Bool) : Prop := EqAt A s u v b ∧ RcAt A s u v b
mutual
theorem both_nd : ∀ (d e : PyData) (A : Around) (s : Shared) (u v : Value) (p q : List Addr), Reads s.heap u d p → Reads s.heap v e q → nd d = true → nd e = true →
    A.units + min d.depth e.depth < cLine → EqBoth A s u v (PyData.eqv d e)
  | .none, _, A, s, _, _, _, _, x, y, _, hn, hu => by
    cases x
    cases y with
    | none => exact ⟨EqAt.same _, RcAt.none_none⟩
    | bool b => exact ⟨EqAt.none_bool b, RcAt.none_bool b⟩
    | int b u => exact ⟨EqAt.none_int b u, RcAt.none_int b u⟩
    | str b u => exact ⟨EqAt.none_str b u, RcAt.none_str b u⟩
    | list b1 b2 b3 b4 => exact ⟨EqAt.none_list ⟨_, b1, b2, _, b3⟩ (room_here hu), RcAt.none_list ⟨_, b1, b2, _, b3⟩ (room_here hu)⟩
    | tuple b1 b2 b3 b4 => exact ⟨EqAt.none_tuple ⟨_, b1, b2, _, b3⟩ (room_here hu), RcAt.none_tuple ⟨_, b1, b2, _, b3⟩ (room_here hu)⟩
    | dict => cases hn
  | .bool a, _, A, s, _, _, _, _, x, y, _, hn, hu => by
    cases x
    cases y with
    | none => exact ⟨EqAt.bool_none a, RcAt.bool_none a⟩
    | bool b => exact ⟨EqAt.bool_bool a b, RcAt.bool_bool a b⟩
    | int b u => exact ⟨EqAt.bool_int a b u, RcAt.bool_int a b u⟩
    | str b u => exact ⟨EqAt.bool_str a b u, RcAt.bool_str a b u⟩
    | list b1 b2 b3 b4 => exact ⟨EqAt.bool_list a ⟨_, b1, b2, _, b3⟩ (room_here hu), RcAt.bool_list a ⟨_, b1, b2, _, b3⟩ (room_here hu)⟩
    | tuple b1 b2 b3 b4 => exact ⟨EqAt.bool_tuple a ⟨_, b1, b2, _, b3⟩ (room_here hu), RcAt.bool_tuple a ⟨_, b1, b2, _, b3⟩ (room_here hu)⟩
    | dict => cases hn
  | .int a, _, A, s, _, _, _, _, x, y, _, hn, hu => by
    cases x with
    | int _ t =>
      cases y with
      | none => exact ⟨EqAt.int_none a t, RcAt.int_none a t⟩
      | bool b => exact ⟨EqAt.int_bool a t b, RcAt.int_bool a t b⟩
      | int b u => exact ⟨EqAt.int_int a t b u, RcAt.int_int a t b u⟩
      | str b u => exact ⟨EqAt.int_str a t b u, RcAt.int_str a t b u⟩
      | list b1 b2 b3 b4 => exact ⟨EqAt.int_list a t ⟨_, b1, b2, _, b3⟩ (room_here hu), RcAt.int_list a t ⟨_, b1, b2, _, b3⟩ (room_here hu)⟩
      | tuple b1 b2 b3 b4 => exact ⟨EqAt.int_tuple a t ⟨_, b1, b2, _, b3⟩ (room_here hu), RcAt.int_tuple a t ⟨_, b1, b2, _, b3⟩ (room_here hu)⟩
      | dict => cases hn
  | .str a, _, A, s, _, _, _, _, x, y, _, hn, hu => by
    cases x with
    | str _ t =>
      cases y with
      | none => exact ⟨EqAt.str_none a t, RcAt.str_none a t⟩
      | bool b => exact ⟨EqAt.str_bool a t b, RcAt.str_bool a t b⟩
      | int b u => exact ⟨EqAt.str_int a t b u, RcAt.str_int a t b u⟩
      | str b u => exact ⟨EqAt.str_str a t b u, RcAt.str_str a t b u⟩
      | list b1 b2 b3 b4 => exact ⟨EqAt.str_list a t ⟨_, b1, b2, _, b3⟩ (room_here hu), RcAt.str_list a t ⟨_, b1, b2, _, b3⟩ (room_here hu)⟩
      | tuple b1 b2 b3 b4 => exact ⟨EqAt.str_tuple a t ⟨_, b1, b2, _, b3⟩ (room_here hu), RcAt.str_tuple a t ⟨_, b1, b2, _, b3⟩ (room_here hu)⟩
      | dict => cases hn
  | .list ds, e, A, s, _, _, _, _, x, y, hm, hn, hu => by
    cases x with
    | @list l o us n _ p a1 a2 a3 a4 =>
      have hl : s.heap.IsList l us := ⟨_, a1, a2, _, a3⟩
      cases y with
      | none => exact ⟨EqAt.list_none hl (room_here hu), RcAt.list_none hl (room_here hu)⟩
      | bool b => exact ⟨EqAt.list_bool b hl (room_here hu), RcAt.list_bool b hl (room_here hu)⟩
      | int b u => exact ⟨EqAt.list_int b u hl (room_here hu), RcAt.list_int b u hl (room_here hu)⟩
      | str b u => exact ⟨EqAt.list_str b u hl (room_here hu), RcAt.list_str b u hl (room_here hu)⟩
      | tuple b1 b2 b3 b4 => exact ⟨EqAt.list_tuple hl ⟨_, b1, b2, _, b3⟩ (room_here hu), RcAt.list_tuple hl ⟨_, b1, b2, _, b3⟩ (room_here hu)⟩
      | dict => cases hn
      | @list m o' ws n' es q b1 b2 b3 b4 =>
        have hr : s.heap.IsList m ws := ⟨_, b1, b2, _, b3⟩
        have k1 : us.size = ds.length := by simpa using ReadsAll.length _ _ _ a4
        have k2 : ws.size = es.length := by simpa using ReadsAll.length _ _ _ b4
        have r : RcAt A s (.ref l) (.ref m) (PyData.eqvAll ds es) := by
          by_cases hz : us.size = ws.size
          · rw [← eqvAll_same_length (by omega : ds.length = es.length), ← k1]
            refine RcAt.lists hl hr hz (room_here hu) fun j j1 j2 => ?_
            have z := boths_nd ds es A.in1 s us.toList ws.toList _ _ a4 b4 hm hn (room_in hu) j (by simpa using j1) (by simpa using j2)
            rw [Array.getElem_toList, Array.getElem_toList] at z
            exact z
          · rw [eqvAll_other_length (by omega : ds.length ≠ es.length)]
            exact RcAt.lists_lengths hl hr (by simpa using hz) (room_here hu)
        refine ⟨?_, r⟩
        by_cases hlm : l = m
        · subst hlm
          have z : PyData.list ds = PyData.list es := same_nd _ _ _ _ _ hm (.list a1 a2 a3 a4) (.list b1 b2 b3 b4)
          injection z with z
          subst z
          show EqAt A s _ _ (PyData.eqvAll ds ds)
          rw [refls_nd ds hm]
          exact EqAt.same _
        · exact EqAt.of_refs hlm r
  | .tuple ds, e, A, s, _, _, _, _, x, y, hm, hn, hu => by
    cases x with
    | @tuple l o us n _ p a1 a2 a3 a4 =>
      have hl : s.heap.IsTuple l us := ⟨_, a1, a2, _, a3⟩
      cases y with
      | none => exact ⟨EqAt.tuple_none hl (room_here hu), RcAt.tuple_none hl (room_here hu)⟩
      | bool b => exact ⟨EqAt.tuple_bool b hl (room_here hu), RcAt.tuple_bool b hl (room_here hu)⟩
      | int b u => exact ⟨EqAt.tuple_int b u hl (room_here hu), RcAt.tuple_int b u hl (room_here hu)⟩
      | str b u => exact ⟨EqAt.tuple_str b u hl (room_here hu), RcAt.tuple_str b u hl (room_here hu)⟩
      | list b1 b2 b3 b4 => exact ⟨EqAt.tuple_list hl ⟨_, b1, b2, _, b3⟩ (room_here hu), RcAt.tuple_list hl ⟨_, b1, b2, _, b3⟩ (room_here hu)⟩
      | dict => cases hn
      | @tuple m o' ws n' es q b1 b2 b3 b4 =>
        have hr : s.heap.IsTuple m ws := ⟨_, b1, b2, _, b3⟩
        have k1 : us.size = ds.length := by simpa using ReadsAll.length _ _ _ a4
        have k2 : ws.size = es.length := by simpa using ReadsAll.length _ _ _ b4
        have r : RcAt A s (.ref l) (.ref m) (PyData.eqvAll ds es) := by
          rw [← eqvAll_eq ds es, ← k1, ← k2]
          refine RcAt.tuples hl hr (room_here hu) fun j j1 j2 => ?_
          have z := boths_nd ds es A.in1 s us.toList ws.toList _ _ a4 b4 hm hn (room_in hu) j (by simpa using j1) (by simpa using j2)
          rw [Array.getElem_toList, Array.getElem_toList] at z
          exact z
        refine ⟨?_, r⟩
        by_cases hlm : l = m
        · subst hlm
          have z : PyData.tuple ds = PyData.tuple es := same_nd _ _ _ _ _ hm (.tuple a1 a2 a3 a4) (.tuple b1 b2 b3 b4)
          injection z with z
          subst z
          show EqAt A s _ _ (PyData.eqvAll ds ds)
          rw [refls_nd ds hm]
          exact EqAt.same _
        · exact EqAt.of_refs hlm r
  | .dict _, _, _, _, _, _, _, _, _, _, hm, _, _ => by cases hm
theorem boths_nd : ∀ (ds es : List PyData) (A : Around) (s : Shared) (us vs : List Value) (p q : List Addr), ReadsAll s.heap us ds p → ReadsAll s.heap vs es q → nds ds = true → nds es = true →
    A.units + min (PyData.depthAll ds) (PyData.depthAll es) < cLine → ∀ j (h1 : j < us.length) (h2 : j < vs.length), EqAt A s us[j] vs[j] (pairEq ds es j)
  | [], _, _, _, _, _, _, _, x, _, _, _, _, j, h1, _ => by cases x; exact absurd h1 (Nat.not_lt_zero _)
  | _ :: _, [], _, _, _, _, _, _, _, y, _, _, _, j, _, h2 => by cases y; exact absurd h2 (Nat.not_lt_zero _)
  | d :: ds, e :: es, A, s, _, _, _, _, x, y, hm, hn, hu, j, h1, h2 => by
    have hm2 : (nd d && nds ds) = true := hm
    have hn2 : (nd e && nds es) = true := hn
    rw [Bool.and_eq_true] at hm2 hn2
    cases x with
    | cons x1 x2 =>
      cases y with
      | cons y1 y2 =>
        cases j with
        | zero => exact (both_nd d e A s _ _ _ _ x1 y1 hm2.1 hn2.1 (room_head hu)).1
        | succ j => exact boths_nd ds es A s _ _ _ _ x2 y2 hm2.2 hn2.2 (room_tail hu) j (Nat.lt_of_succ_lt_succ h1) (Nat.lt_of_succ_lt_succ h2)
end
theorem ne_nd {d e : PyData} {A : Around} {s : Shared} {u v : Value} {p q : List Addr} (x : Reads s.heap u d p) (y : Reads s.heap v e q) (hm : nd d = true) (hn : nd e = true)
    (hu : A.units + min d.depth e.depth < cLine) : RcNeAt A s u v (!PyData.eqv d e) := by
  cases x with
  | none =>
    cases y with
    | list b1 b2 b3 b4 => exact RcNeAt.none_list ⟨_, b1, b2, _, b3⟩ (room_here hu)
    | tuple b1 b2 b3 b4 => exact RcNeAt.none_tuple ⟨_, b1, b2, _, b3⟩ (room_here hu)
    | dict => cases hn
    | none => exact RcNeAt.none_none
    | bool b => exact RcNeAt.none_bool b
    | int b u => exact RcNeAt.none_int b u
    | str b u => exact RcNeAt.none_str b u
  | bool a =>
    cases y with
    | list b1 b2 b3 b4 => exact RcNeAt.bool_list a ⟨_, b1, b2, _, b3⟩ (room_here hu)
    | tuple b1 b2 b3 b4 => exact RcNeAt.bool_tuple a ⟨_, b1, b2, _, b3⟩ (room_here hu)
    | dict => cases hn
    | none => exact RcNeAt.bool_none a
    | bool b => exact RcNeAt.bool_bool a b
    | int b u => exact RcNeAt.bool_int a b u
    | str b u => exact RcNeAt.bool_str a b u
  | int a t =>
    cases y with
    | list b1 b2 b3 b4 => exact RcNeAt.int_list a t ⟨_, b1, b2, _, b3⟩ (room_here hu)
    | tuple b1 b2 b3 b4 => exact RcNeAt.int_tuple a t ⟨_, b1, b2, _, b3⟩ (room_here hu)
    | dict => cases hn
    | none => exact RcNeAt.int_none a t
    | bool b => exact RcNeAt.int_bool a t b
    | int b u => exact RcNeAt.int_int a t b u
    | str b u => exact RcNeAt.int_str a t b u
  | str a t =>
    cases y with
    | list b1 b2 b3 b4 => exact RcNeAt.str_list a t ⟨_, b1, b2, _, b3⟩ (room_here hu)
    | tuple b1 b2 b3 b4 => exact RcNeAt.str_tuple a t ⟨_, b1, b2, _, b3⟩ (room_here hu)
    | dict => cases hn
    | none => exact RcNeAt.str_none a t
    | bool b => exact RcNeAt.str_bool a t b
    | int b u => exact RcNeAt.str_int a t b u
    | str b u => exact RcNeAt.str_str a t b u
  | @list l o us n ds p a1 a2 a3 a4 =>
    have hl : s.heap.IsList l us := ⟨_, a1, a2, _, a3⟩
    cases y with
    | @list m o' ws n' es q b1 b2 b3 b4 =>
      have hr : s.heap.IsList m ws := ⟨_, b1, b2, _, b3⟩
      have k1 : us.size = ds.length := by simpa using ReadsAll.length _ _ _ a4
      have k2 : ws.size = es.length := by simpa using ReadsAll.length _ _ _ b4
      show RcNeAt A s _ _ (!PyData.eqvAll ds es)
      by_cases hz : us.size = ws.size
      · rw [← eqvAll_same_length (by omega : ds.length = es.length), ← k1]
        refine RcNeAt.lists hl hr hz (room_here hu) fun j j1 j2 => ?_
        have z := boths_nd ds es A.in1 s us.toList ws.toList _ _ a4 b4 hm hn (room_in hu) j (by simpa using j1) (by simpa using j2)
        rw [Array.getElem_toList, Array.getElem_toList] at z
        exact z
      · rw [eqvAll_other_length (by omega : ds.length ≠ es.length)]
        exact RcNeAt.lists_lengths hl hr (by simpa using hz) (room_here hu)
    | tuple b1 b2 b3 b4 => exact RcNeAt.list_tuple hl ⟨_, b1, b2, _, b3⟩ (room_here hu)
    | dict => cases hn
    | none => exact RcNeAt.list_none hl (room_here hu)
    | bool b => exact RcNeAt.list_bool b hl (room_here hu)
    | int b u => exact RcNeAt.list_int b u hl (room_here hu)
    | str b u => exact RcNeAt.list_str b u hl (room_here hu)
  | @tuple l o us n ds p a1 a2 a3 a4 =>
    have hl : s.heap.IsTuple l us := ⟨_, a1, a2, _, a3⟩
    cases y with
    | @tuple m o' ws n' es q b1 b2 b3 b4 =>
      have hr : s.heap.IsTuple m ws := ⟨_, b1, b2, _, b3⟩
      have k1 : us.size = ds.length := by simpa using ReadsAll.length _ _ _ a4
      have k2 : ws.size = es.length := by simpa using ReadsAll.length _ _ _ b4
      show RcNeAt A s _ _ (!PyData.eqvAll ds es)
      rw [← eqvAll_eq ds es, ← k1, ← k2]
      refine RcNeAt.tuples hl hr (room_here hu) fun j j1 j2 => ?_
      have z := boths_nd ds es A.in1 s us.toList ws.toList _ _ a4 b4 hm hn (room_in hu) j (by simpa using j1) (by simpa using j2)
      rw [Array.getElem_toList, Array.getElem_toList] at z
      exact z
    | list b1 b2 b3 b4 => exact RcNeAt.tuple_list hl ⟨_, b1, b2, _, b3⟩ (room_here hu)
    | dict => cases hn
    | none => exact RcNeAt.tuple_none hl (room_here hu)
    | bool b => exact RcNeAt.tuple_bool b hl (room_here hu)
    | int b u => exact RcNeAt.tuple_int b u hl (room_here hu)
    | str b u => exact RcNeAt.tuple_str b u hl (room_here hu)
  | dict => cases hm
end

/-! ## data as the heap holds it -/
section
variable {G : GC} {K : PySem.W.Frag} {ρ : Tk} {H : Hp} {st : Store}
theorem dpAll_of {xs : List V} {ds : List PyData} (h : DpAll K H xs ds) : DpAll K H xs ds := h
mutual
theorem dp_deref (g : Nat → Option D) (hg : ∀ l a b d, ρ[l]? = some (a, b) → g l = some d → Dp K H (.ref a) (py d)) : ∀ {d d' : D} {v : V}, Rv K ρ H d v → derefD g d = some d' → Dp K H v (py d')
  | .non, _, _, .non, e => by cases e; exact .non
  | .bl _, _, _, .bl b, e => by cases e; exact .bl b
  | .int _, _, _, .int i, e => by cases e; exact .int i
  | .str _, _, _, .str x, e => by cases e; exact .str _
  | .tup xs, d', _, .tup h t, e => by
    cases q : derefDs g xs with
    | none => rw [derefD, q] at e; cases e
    | some ys => rw [derefD, q] at e; cases e; exact .tup h (dps_deref g hg t q)
  | .flst xs, d', _, .flst h t, e => by
    cases q : derefDs g xs with
    | none => rw [derefD, q] at e; cases e
    | some ys => rw [derefD, q] at e; cases e; exact .lst h.sq (dps_deref g hg t q)
  | .slst xs, d', _, .slst h t, e => by
    cases q : derefDs g xs with
    | none => rw [derefD, q] at e; cases e
    | some ys => rw [derefD, q] at e; cases e; exact .lst h.sq (dps_deref g hg t q)
  | .loc l, d', _, .loc h, e => hg l _ _ d' h e
theorem dps_deref (g : Nat → Option D) (hg : ∀ l a b d, ρ[l]? = some (a, b) → g l = some d → Dp K H (.ref a) (py d)) : ∀ {ds ds' : List D} {vs : List V}, Rvs K ρ H ds vs → derefDs g ds = some ds' → DpAll K H vs (pys ds')
  | [], _, _, .nil, e => by cases e; exact .nil
  | d :: ds, ds', _, .cons h t, e => by
    cases q : derefD g d with
    | none => rw [derefDs, q] at e; cases e
    | some y =>
      cases q2 : derefDs g ds with
      | none => rw [derefDs, q, q2] at e; cases e
      | some ys => rw [derefDs, q, q2] at e; cases e; exact .cons (dp_deref g hg h q) (dps_deref g hg t q2)
end
theorem dp_at (s : Rs G K ρ st H) : ∀ (n l : Nat) (a : Addr) (b : Bool) (d : D), ρ[l]? = some (a, b) → atD st n l = some d → Dp K H (.ref a) (py d)
  | 0, _, _, _, _, _, e => by cases e
  | n + 1, l, a, b, d, ha, e => by
    unfold atD at e
    split at e
    · rename_i xs hl
      obtain ⟨a', h1, vs, h2, h3⟩ := s.obj l _ hl
      rw [ha] at h1; cases h1
      cases q : derefDs (atD st n) xs with
      | none => rw [q] at e; cases e
      | some ys =>
        rw [q] at e; cases e
        exact .lst (.inl (.inl h2)) (dps_deref _ (fun l a b d h1 h2 => dp_at s n l a b d h1 h2) h3 q)
    · cases e
theorem dp_pure (s : Rs G K ρ st H) {d d' : D} {v : V} (r : Rv K ρ H d v) (e : pureD st d = some d') : Dp K H v (py d') := dp_deref _ (fun l a b d h1 h2 => dp_at s 8 l a b d h1 h2) r e
end
end Z

set_option autoImplicit false
namespace Z
open PySem PySem.Spec PyProof.Rows L2

/-! ## what happens to the heap -/
section
variable {G : GC} {K : PySem.W.Frag} {ρ : Tk} {H : Hp} {st : Store} {p : Addr} {o : HO}
theorem Ext.new (hp : H p = none) : Ext K ρ ρ H (upd H p o) := by
  refine ⟨List.prefix_rfl, fun a o u h => by rw [upd_ne (ne_of_none h hp)]; exact h, fun a xs h => ?_, fun a o u h _ => ⟨by rw [upd_ne (ne_of_none h hp)]; exact h, u⟩, fun a fs h => by rw [upd_ne (ne_of_none h hp)]; exact h⟩
  rcases h with (h | ⟨ob, h⟩) | h
  · exact .inl (.inl (by rw [upd_ne (ne_of_none h hp)]; exact h))
  · exact .inl (.inr ⟨ob, by rw [upd_ne (ne_of_none h hp)]; exact h⟩)
  · exact .inr h
theorem Utr.app {a p : Addr} {b : Bool} (h : Utr ρ a) (n : b = true → a ≠ p) : Utr (ρ ++ [(p, b)]) a := fun l e => by
  by_cases hl : l < ρ.length
  · rw [List.getElem?_append_left hl] at e; exact h l e
  · rw [List.getElem?_append_right (Nat.le_of_not_lt hl)] at e
    obtain ⟨hz, e2⟩ := List.getElem?_eq_some_iff.mp e
    have hz : l - ρ.length = 0 := by simp at hz; omega
    simp only [hz, List.getElem_cons_zero, Prod.mk.injEq] at e2
    exact n e2.2 e2.1.symm
theorem Utr.pre {ρ' : Tk} {a : Addr} (e : ρ <+: ρ') (h : Utr ρ' a) : Utr ρ a := fun l q => h l (pre_get e q)
theorem Ext.alloc (hp : H p = none) : Ext K ρ (ρ ++ [(p, true)]) H (upd H p o) :=
  have e : Ext K ρ ρ H (upd H p o) := Ext.new hp
  ⟨List.prefix_append _ _, e.fr, e.tup, fun a o u h m => ⟨(e.un a o u h m).1, u.app fun _ => ne_of_none h hp⟩, e.xd⟩
theorem Ext.wr {u : HO} {l : Nat} (hl : ρ[l]? = some (p, true)) (hu : H p = some u) (hm : mutO u) : Ext K ρ ρ H (upd H p o) := by
  have ne : ∀ {a : Addr} {w : HO}, H a = some w → ¬ mutO w → a ≠ p := fun {a w} h n e => by
    subst e
    rw [hu] at h; cases h
    exact n hm
  refine ⟨List.prefix_rfl, fun a o u h => by rw [upd_ne (ne h fun z => z)]; exact h, fun a xs h => ?_, fun a o u h _ => ⟨by rw [upd_ne (fun z => u l (by rw [z]; exact hl))]; exact h, u⟩, fun a fs h => by rw [upd_ne (ne h fun z => z)]; exact h⟩
  rcases h with (h | ⟨ob, h⟩) | h
  · exact .inl (.inl (by rw [upd_ne (ne h fun z => z)]; exact h))
  · exact .inl (.inr ⟨ob, by rw [upd_ne (ne h fun z => z)]; exact h⟩)
  · exact .inr h
theorem RO.keep {ρ' : Tk} {H' : Hp} {l : Nat} {a : Addr} {O : DO} (e : Ext K ρ ρ' H H') (h : RO G K ρ H l a O) (k : O.mut = true → ∀ u, H a = some u → mutO u → H' a = some u) : RO G K ρ' H' l a O := by
  cases O with
  | lst ds => obtain ⟨vs, h, r⟩ := h; exact ⟨vs, k rfl _ h trivial, r.ext e⟩
  | dct ks vs => exact h.elim
  | ins c ns ds => obtain ⟨dx, vs, h, r, n⟩ := h; exact ⟨dx, vs, k rfl _ h trivial, r.ext e, n⟩
  | exn c p => obtain ⟨cu, v, h1, h2, h3, h4, h5, h6⟩ := h; exact ⟨cu, v, h1, h2, h3, h4, e.xd _ _ h5, h6.ext e⟩
theorem Rs.lt (s : Rs G K ρ st H) {l : Nat} {a : Addr × Bool} (h : ρ[l]? = some a) : l < st.length := by
  obtain ⟨hl, _⟩ := List.getElem?_eq_some_iff.mp h
  rw [s.len] at hl
  exact hl
theorem Rs.tracked (s : Rs G K ρ st H) {l : Nat} {a : Addr} (h : ρ[l]? = some (a, true)) : ∃ u, H a = some u ∧ mutO u := by
  have hl := s.lt h
  obtain ⟨a', h1, r⟩ := s.obj l _ (List.getElem?_eq_getElem hl)
  rw [h] at h1
  injection h1 with h1
  injection h1 with e1 e2
  subst e1
  exact r.mut e2.symm
theorem Rs.new (s : Rs G K ρ st H) (hp : H p = none) : Rs G K ρ st (upd H p o) := by
  refine ⟨s.len, s.nd, fun l O h => ?_⟩
  obtain ⟨a, h1, r⟩ := s.obj l O h
  exact ⟨a, h1, r.keep (Ext.new hp) fun _ u hu _ => by rw [upd_ne (ne_of_none hu hp)]; exact hu⟩
theorem last_of {α : Type} {xs : List α} {x y : α} {l : Nat} (h : (xs ++ [x])[l]? = some y) (hl : ¬ l < xs.length) : l = xs.length ∧ y = x := by
  rw [List.getElem?_append_right (Nat.le_of_not_lt hl)] at h
  have hz : l - xs.length = 0 := by
    cases q : l - xs.length with
    | zero => rfl
    | succ n => rw [q] at h; simp at h
  rw [hz] at h
  exact ⟨by omega, by simpa using h.symm⟩
theorem Rs.allocB {O : DO} {b : Bool} {H' : Hp} (s : Rs G K ρ st H) (e : Ext K ρ (ρ ++ [(p, b)]) H H') (kp : ∀ a u, H a = some u → mutO u → H' a = some u) (np : b = true → ∀ l : Nat, ρ[l]? ≠ some (p, true)) (hb : O.mut = b) (h : RO G K (ρ ++ [(p, b)]) H' st.length p O) : Rs G K (ρ ++ [(p, b)]) (st ++ [O]) H' := by
  refine ⟨by rw [List.length_append, List.length_append, s.len]; rfl, fun l m a al am => ?_, fun l O' h' => ?_⟩
  · by_cases c1 : l < ρ.length
    · rw [List.getElem?_append_left c1] at al
      by_cases c2 : m < ρ.length
      · rw [List.getElem?_append_left c2] at am
        exact s.nd l m a al am
      · obtain ⟨_, e⟩ := last_of am c2
        injection e with e1 e2
        subst e1
        exact absurd al (np e2.symm l)
    · obtain ⟨e1, e⟩ := last_of al c1
      by_cases c2 : m < ρ.length
      · rw [List.getElem?_append_left c2] at am
        injection e with e2 e3
        subst e2
        exact absurd am (np e3.symm m)
      · obtain ⟨e2, _⟩ := last_of am c2
        rw [e1, e2]
  · by_cases hl : l < st.length
    · rw [List.getElem?_append_left hl] at h'
      obtain ⟨a, h1, r⟩ := s.obj l O' h'
      exact ⟨a, pre_get (List.prefix_append _ _) h1, r.keep e fun _ u hu m => kp a u hu m⟩
    · obtain ⟨e1, e2⟩ := last_of h' hl
      subst e1
      subst e2
      refine ⟨p, ?_, h⟩
      rw [List.getElem?_append_right (by rw [s.len]; exact Nat.le_refl _), s.len, Nat.sub_self, hb]
      rfl
theorem Rs.fresh (s : Rs G K ρ st H) (hp : H p = none) (l : Nat) : ρ[l]? ≠ some (p, true) := fun h => by
  obtain ⟨u, hu, _⟩ := s.tracked h
  rw [hp] at hu; cases hu
theorem Rs.alloc {O : DO} (s : Rs G K ρ st H) (hp : H p = none) (hm : O.mut = true) (h : RO G K (ρ ++ [(p, true)]) (upd H p o) st.length p O) : Rs G K (ρ ++ [(p, true)]) (st ++ [O]) (upd H p o) :=
  s.allocB (Ext.alloc hp) (fun a u hu _ => by rw [upd_ne (ne_of_none hu hp)]; exact hu) (fun _ => s.fresh hp) hm h
theorem Rs.wr {O : DO} {l : Nat} {u : HO} (s : Rs G K ρ st H) (hl : ρ[l]? = some (p, true)) (hu : H p = some u) (hm : mutO u) (hO : O.mut = true) (h : RO G K ρ (upd H p o) l p O) : Rs G K ρ (st.set l O) (upd H p o) := by
  have hlt := s.lt hl
  refine ⟨by rw [List.length_set]; exact s.len, s.nd, fun m O' h' => ?_⟩
  by_cases e : l = m
  · subst e
    rw [List.getElem?_set_self hlt] at h'
    cases h'
    exact ⟨p, by rw [hO]; exact hl, h⟩
  · rw [List.getElem?_set_ne e] at h'
    obtain ⟨a, h1, r⟩ := s.obj m O' h'
    refine ⟨a, h1, r.keep (Ext.wr hl hu hm) fun mm w hw _ => ?_⟩
    have ne : a ≠ p := fun z => by
      subst z
      rw [mm] at h1
      exact e (s.nd l m a hl h1)
    rw [upd_ne ne]; exact hw
/-- a tracked list -/
theorem Rs.lst (s : Rs G K ρ st H) {l : Nat} {a : Addr} {b : Bool} {xs : List D} (hl : ρ[l]? = some (a, b)) (h : st[l]? = some (.lst xs)) : ρ[l]? = some (a, true) ∧ ∃ vs, H a = some (.lst vs) ∧ Rvs K ρ H xs vs := by
  obtain ⟨a', h1, r⟩ := s.obj l _ h
  have h2 := h1
  rw [hl] at h1
  injection h1 with h1
  injection h1 with e1 e2
  subst e1
  exact ⟨h2, r⟩
theorem Rs.lst1 (s : Rs G K ρ st H) {d : D} {v : V} {xs : List D} (r : Rv K ρ H d v) (h : Z.lst1 st d = some xs) : ∃ a vs, v = .ref a ∧ H a = some (.lst vs) ∧ Rvs K ρ H xs vs := by
  cases r with
  | flst t q => cases h; exact ⟨_, _, rfl, t.2, q⟩
  | loc hl =>
    have h : (match st[_]? with | some (DO.lst xs) => some xs | _ => none) = some xs := h
    split at h
    · rename_i ys hx
      cases h
      obtain ⟨_, vs, g1, g2⟩ := s.lst hl hx
      exact ⟨_, vs, rfl, g1, g2⟩
    · cases h
  | _ => cases h
end

/-! ## the operations -/
section
variable {G : GC} {X : Cx} {ρ : Tk} {H : Hp} {st : Store} {W : Value → Option Addr → Hp → Prop}
abbrev Val1 (K : PySem.W.Frag) (Q : VK) : D → Store → Tk → Hp → Prop := fun d _ ρ' H' => ∀ v, Rv K ρ' H' d v → Q v H'
/-- a two-place operation by data -/
def OpD (G : GC) (X : Cx) (o : Op) (r : R2) : Prop := ∀ (W : Value → Option Addr → Hp → Prop) (ρ : Tk) (st : Store) (H : Hp) (d e : D) (x y : V) (Q : VK), Rs G X.K ρ st H → Rv X.K ρ H d x → Rv X.K ρ H e y →
  Lf G X.K W ρ H (opSem o [d, e] st) (Val1 X.K Q) → r x y H Q
theorem sz_eq : SZ = sizeLine := by rw [sizeLine_eq]; rfl
theorem okv {K : PySem.W.Frag} {d : D} {v : V} {Q : VK} (h : Lf G K W ρ H (R.ok d st) (Val1 K Q)) (s : Rs G K ρ st H) (r : Rv K ρ H d v) : Q v H := h ρ H Ext.refl s v r
theorem okt {K : PySem.W.Frag} {ds : List D} {vs : List V} {p : Addr} {Q : VK} (h : Lf G K W ρ H (R.ok (.tup ds) st) (Val1 K Q)) (s : Rs G K ρ st H) (r : Rvs K ρ H ds vs) (hp : H p = none) : Q (.ref p) (upd H p (.tup vs)) :=
  h ρ _ (Ext.new hp) (s.new hp) _ (.tup (.inl (.inl upd_same)) (r.ext (Ext.new hp)))
theorem okl {K : PySem.W.Frag} {ds : List D} {vs : List V} {p : Addr} {Q : VK} (h : Lf G K W ρ H (R.ok (.loc st.length) (st ++ [.lst ds])) (Val1 K Q)) (s : Rs G K ρ st H) (r : Rvs K ρ H ds vs) (hp : H p = none) : Q (.ref p) (upd H p (.lst vs)) := by
  refine h (ρ ++ [(p, true)]) _ (Ext.alloc hp) (s.alloc hp rfl ⟨vs, upd_same, r.ext (Ext.alloc hp)⟩) _ (.loc (b := true) ?_)
  rw [← s.len, List.getElem?_append_right (Nat.le_refl _), Nat.sub_self]
  rfl
theorem okf {K : PySem.W.Frag} {ds : List D} {vs : List V} {p : Addr} {Q : VK} (h : Lf G K W ρ H (R.ok (.flst ds) st) (Val1 K Q)) (s : Rs G K ρ st H) (r : Rvs K ρ H ds vs) (hp : H p = none) : Q (.ref p) (upd H p (.lst vs)) :=
  h ρ _ (Ext.new hp) (s.new hp) _ (.flst ⟨s.fresh hp, upd_same⟩ (r.ext (Ext.new hp)))
theorem od_add : OpD G X .add (fun x y H Q => (∃ i j, x = .int i ∧ y = .int j ∧ Q (.int (i + j)) H) ∨ (∃ i j, x = .str i ∧ y = .str j ∧ i.length + j.length ≤ sizeLine ∧ Q (.str (i ++ j)) H) ∨ rCatA X.K x y H Q ∨ rCat x y H Q) := by
  intro W ρ st H d e x y Q s rx ry h0
  have h : Lf G X.K W ρ H (addSem d e st) (Val1 X.K Q) := h0
  clear h0
  unfold addSem at h
  split at h
  · cases rx; cases ry
    exact .inl ⟨_, _, rfl, rfl, okv h s (.int _)⟩
  · rename_i a b
    cases rx; cases ry
    by_cases hz : a.length + b.length ≤ SZ
    · rw [if_pos hz] at h
      refine .inr (.inl ⟨_, _, rfl, rfl, ?_, ?_⟩)
      · show a.toArray.size + b.toArray.size ≤ sizeLine
        rw [← sz_eq]; simpa using hz
      · have e : (⟨a.toArray⟩ : Str) ++ ⟨b.toArray⟩ = ⟨(a ++ b).toArray⟩ := by
          show (⟨a.toArray ++ b.toArray⟩ : Str) = _
          simp
        rw [e]
        exact okv h s (.str _)
    · rw [if_neg hz] at h
      exact h.elim
  · rename_i ds es
    cases rx with
    | @tup a xs _ t1 r1 =>
    cases ry with
    | @tup b ys _ t2 r2 =>
    by_cases hz : ds.length + es.length ≤ SZ
    · rw [if_pos hz] at h
      refine .inr (.inr (.inl ⟨a, b, xs, ys, rfl, rfl, t1, t2, by rw [← r1.length, ← r2.length, ← sz_eq]; exact hz, fun e => ?_, fun _ e => ?_, fun _ _ p hp => okt h s (r1.append r2) hp⟩))
      · subst e
        cases r1
        exact okv h s (.tup t2 r2)
      · subst e
        cases r2
        rw [List.append_nil] at h
        exact okv h s (.tup t1 r1)
    · rw [if_neg hz] at h
      exact h.elim
  · split at h
    · rename_i xs e1
      split at h
      · rename_i ys e2
        by_cases hz : xs.length + ys.length ≤ SZ
        · rw [if_pos hz] at h
          obtain ⟨a, vs, rfl, g1, g2⟩ := s.lst1 rx e1
          obtain ⟨b, us, rfl, g3, g4⟩ := s.lst1 ry e2
          exact .inr (.inr (.inr ⟨a, b, vs, us, rfl, rfl, g1, g3, by rw [← g2.length, ← g4.length, ← sz_eq]; exact hz, fun p hp => okl h s (g2.append g4) hp⟩))
        · rw [if_neg hz] at h
          exact h.elim
      · exact h.elim
    · exact h.elim
theorem op_addZ : OpR X (binaryOp .Add) (fun x y H Q => (∃ i j, x = .int i ∧ y = .int j ∧ Q (.int (i + j)) H) ∨ (∃ i j, x = .str i ∧ y = .str j ∧ i.length + j.length ≤ sizeLine ∧ Q (.str (i ++ j)) H) ∨ rCatA X.K x y H Q ∨ rCat x y H Q) :=
  OpR.or op_add (OpR.or op_add_str (OpR.or op_catA op_cat))
theorem od_int {o : Op} {C : Int → Int → Prop} {g : Int → Int → D} {gv : Int → Int → V} (hg : ∀ i j ρ H, Rv X.K ρ H (g i j) (gv i j)) (hn : ∀ d e st, (∀ i j, ¬ (d = .int i ∧ e = .int j)) → opSem o [d, e] st = .bad)
    (hi : ∀ i j st, (C i j ∧ opSem o [.int i, .int j] st = .ok (g i j) st) ∨ opSem o [.int i, .int j] st = .bad) : OpD G X o (rI C gv) := by
  intro W ρ st H d e x y Q s rx ry h
  by_cases q : ∃ i j, d = .int i ∧ e = .int j
  · obtain ⟨i, j, rfl, rfl⟩ := q
    cases rx; cases ry
    rcases hi i j st with ⟨c, z⟩ | z
    · rw [z] at h
      exact ⟨i, j, rfl, rfl, c, okv h s (hg i j ρ H)⟩
    · rw [z] at h
      exact h.elim
  · rw [hn d e st fun i j z => q ⟨i, j, z⟩] at h
    exact h.elim
theorem od_sub : OpD G X .sub (rI (fun _ _ => True) fun i j => .int (i - j)) :=
  od_int (g := fun i j => .int (i - j)) (fun _ _ _ _ => .int _) (fun d e st h => by cases d <;> cases e <;> first | rfl | exact absurd ⟨rfl, rfl⟩ (h _ _)) fun i j st => .inl ⟨trivial, rfl⟩
theorem op_subZ : OpR X (binaryOp .Sub) (rI (fun _ _ => True) fun i j => .int (i - j)) := fun pins s σ H x y v u Q I rx ry ⟨i, j, hx, hy, _, q⟩ => op_sub pins s σ H x y v u Q I rx ry ⟨i, j, hx, hy, q⟩
theorem rep_cps (x : Array Nat) (n : Nat) : (List.replicate n x).foldl (· ++ ·) #[] = ((List.replicate n x.toList).flatten).toArray := by
  have : ∀ (n : Nat) (acc : Array Nat), (List.replicate n x).foldl (· ++ ·) acc = acc ++ ((List.replicate n x.toList).flatten).toArray := by
    intro n
    induction n with
    | zero => intro acc; simp
    | succ n ih =>
      intro acc
      rw [List.replicate_succ, List.foldl_cons, ih, List.replicate_succ, List.flatten_cons]
      apply Array.toList_inj.mp
      simp
  rw [this]; simp
def rMulS : R2 := fun x y H Q => ∃ (s : List Nat) (n : Int), x = .str ⟨s.toArray⟩ ∧ y = .int n ∧ ((n < 1 ∧ -9223372036854775808 ≤ n ∧ Q (.str ⟨([] : List Nat).toArray⟩) H) ∨ (¬ n < 1 ∧ s.length * n.toNat ≤ sizeLine ∧ n < 9223372036854775808 ∧ Q (.str ⟨((List.replicate n.toNat s).flatten).toArray⟩) H))
theorem op_mulS : OpR X (binaryOp .Mult) rMulS := by
  intro pins s σ H x y v u Q I rx ry ⟨z, n, hx, hy, q⟩
  subst hx hy
  obtain ⟨t, rfl⟩ := rx
  obtain ⟨t', rfl⟩ := ry
  rcases q with ⟨h1, h2, q⟩ | ⟨h1, h2, h3, q⟩
  · exact P.mul_str_none h1 (by omega) ⟨.str ⟨([] : List Nat).toArray⟩, H, I.tok _, ⟨_, rfl⟩, q⟩
  · have hz : (⟨z.toArray⟩ : Str).length = z.length := List.size_toArray
    have hb2 : (decide (n < -(2 ^ 63 : Int)) || decide (n ≥ 2 ^ 63)) = false := by
      have g1 : ¬ n < -(2 ^ 63 : Int) := by omega
      have g2 : ¬ n ≥ 2 ^ 63 := by omega
      rw [decide_eq_false g1, decide_eq_false g2]; rfl
    refine P.mul_str hb2 (fun _ _ => ?_) (fun _ _ => ?_) ?_
    · rw [hz]
      have h4 : z.length * n.toNat ≤ 16777216 := by rw [sizeLine_eq] at h2; exact h2
      have h5 : (z.length : Int) * n ≤ 16777216 := by
        have e : (z.length : Int) * n = ((z.length * n.toNat : Nat) : Int) := by
          rw [Int.natCast_mul, Int.toNat_of_nonneg (by omega)]
        rw [e]
        exact (Int.ofNat_le (n := 16777216)).mpr h4
      have h6 : (z.length : Int) ≤ (2 ^ 63 - 1) / n := (Int.le_ediv_iff_mul_le (by omega)).mpr (by omega)
      omega
    · rw [hz]
      unfold Builtin.Str.tooLong
      rw [decide_eq_false (Nat.not_lt.mpr h2)]
    · rw [if_neg h1]
      by_cases hc : (n == 1 || (⟨z.toArray⟩ : Str).length == 0) = true
      · rw [if_pos hc]
        have e : (List.replicate n.toNat z).flatten = z := by
          rw [Bool.or_eq_true, beq_iff_eq, beq_iff_eq, hz] at hc
          rcases hc with rfl | hc
          · simp
          · have : z = [] := List.length_eq_zero_iff.mp hc
            subst this; simp
        rw [e] at q
        exact ⟨.str ⟨z.toArray⟩, H, I, ⟨_, rfl⟩, q⟩
      · rw [if_neg hc, rep_cps]
        refine ⟨?_, .str ⟨((List.replicate n.toNat z).flatten).toArray⟩, H, I.tok _, ⟨_, rfl⟩, q⟩
        show ((List.replicate n.toNat z).flatten.toArray).size ≤ sizeLine
        rw [List.size_toArray, List.length_flatten, List.map_replicate, List.sum_replicate_nat, Nat.mul_comm]
        exact h2
def rMulZ : R2 := fun x y H Q => rI CMul (fun i j => .int (i * j)) x y H Q ∨ rMulS x y H Q ∨ rRep x y H Q
theorem op_mulZ : OpR X (binaryOp .Mult) rMulZ := OpR.or op_mul (OpR.or op_mulS op_rep)
theorem rvs_rep {K : PySem.W.Frag} {xs : List D} {vs : List V} (h : Rvs K ρ H xs vs) : ∀ n : Nat, Rvs K ρ H (List.replicate n xs).flatten (List.replicate n vs).flatten
  | 0 => .nil
  | n + 1 => by
    rw [List.replicate_succ, List.replicate_succ, List.flatten_cons, List.flatten_cons]
    exact h.append (rvs_rep h n)
theorem od_mul : OpD G X .mul rMulZ := by
  intro W ρ st H d e x y Q s rx ry h
  have lsts : ∀ {d : D} {x : V} {n : Int}, Rv X.K ρ H d x → Lf G X.K W ρ H (match lst1 st d with | some xs => if -9223372036854775808 ≤ n ∧ n < 9223372036854775808 ∧ xs.length * n.toNat ≤ SZ then .ok (.loc st.length) (st ++ [.lst (List.replicate n.toNat xs).flatten]) else .bad | none => .bad) (Val1 X.K Q) → rRep x (.int n) H Q := fun {d x n} rx h => by
    split at h
    · rename_i xs hx
      by_cases h2 : -9223372036854775808 ≤ n ∧ n < 9223372036854775808 ∧ xs.length * n.toNat ≤ SZ
      · rw [if_pos h2] at h
        obtain ⟨a, vs, rfl, h3, h4⟩ := s.lst1 rx hx
        exact ⟨a, n, vs, rfl, rfl, h3, h2.1, h2.2.1, by rw [← h4.length, ← sz_eq]; exact h2.2.2, fun p hp => okl h s (rvs_rep h4 _) hp⟩
      · rw [if_neg h2] at h; exact h.elim
    · exact h.elim
  cases ry with
  | int n =>
    cases d with
    | int i =>
      cases rx
      have h : Lf G X.K W ρ H (if (big64 i || big64 n) = true then R.ok (D.int (i * n)) st else .bad) (Val1 X.K Q) := h
      by_cases hb : (big64 i || big64 n) = true
      · rw [if_pos hb] at h
        unfold big64 at hb
        rw [Bool.or_eq_true, Bool.and_eq_true, Bool.and_eq_true] at hb
        simp only [decide_eq_true_eq] at hb
        exact .inl ⟨i, n, rfl, rfl, hb, okv h s (.int _)⟩
      · rw [if_neg hb] at h; exact h.elim
    | str z =>
      cases rx
      have h : Lf G X.K W ρ H (if n < 1 then (if -9223372036854775808 ≤ n then .ok (.str []) st else .bad) else if z.length * n.toNat ≤ SZ ∧ n < 9223372036854775808 then .ok (.str (List.replicate n.toNat z).flatten) st else .bad) (Val1 X.K Q) := h
      refine .inr (.inl ⟨z, n, rfl, rfl, ?_⟩)
      by_cases h1 : n < 1
      · rw [if_pos h1] at h
        by_cases h2 : -9223372036854775808 ≤ n
        · rw [if_pos h2] at h
          exact .inl ⟨h1, h2, okv h s (.str _)⟩
        · rw [if_neg h2] at h; exact h.elim
      · rw [if_neg h1] at h
        by_cases h2 : z.length * n.toNat ≤ SZ ∧ n < 9223372036854775808
        · rw [if_pos h2] at h
          exact .inr ⟨h1, by rw [← sz_eq]; exact h2.1, h2.2, okv h s (.str _)⟩
        · rw [if_neg h2] at h; exact h.elim
    | _ => exact .inr (.inr (lsts rx h))
  | _ => cases d <;> exact h.elim
theorem od_mod : OpD G X .mod (rI (fun _ j => 0 < j) fun i j => .int (i % j)) :=
  od_int (g := fun i j => .int (i % j)) (fun _ _ _ _ => .int _) (fun d e st h => by cases d <;> cases e <;> first | rfl | exact absurd ⟨rfl, rfl⟩ (h _ _)) fun i j st => by
    show (0 < j ∧ (if 0 < j then R.ok (D.int (i % j)) st else .bad) = _) ∨ (if 0 < j then R.ok (D.int (i % j)) st else .bad) = _
    by_cases hb : 0 < j
    · exact .inl ⟨hb, if_pos hb⟩
    · exact .inr (if_neg hb)
theorem od_fdiv : OpD G X .fdiv (rI CDiv fun i j => .int (i / j)) :=
  od_int (g := fun i j => .int (i / j)) (fun _ _ _ _ => .int _) (fun d e st h => by cases d <;> cases e <;> first | rfl | exact absurd ⟨rfl, rfl⟩ (h _ _)) fun i j st => by
    show (CDiv i j ∧ (if 0 < j ∧ j < 1073741824 then R.ok (D.int (i / j)) st else .bad) = _) ∨ (if 0 < j ∧ j < 1073741824 then R.ok (D.int (i / j)) st else .bad) = _
    by_cases hb : 0 < j ∧ j < 1073741824
    · exact .inl ⟨hb, if_pos hb⟩
    · exact .inr (if_neg hb)
theorem od_pow : OpD G X .pow (rI CPow fun i j => .int (i ^ j.toNat)) :=
  od_int (g := fun i j => .int (i ^ j.toNat)) (fun _ _ _ _ => .int _) (fun d e st h => by cases d <;> cases e <;> first | rfl | exact absurd ⟨rfl, rfl⟩ (h _ _)) fun i j st => by
    show (CPow i j ∧ (if (0 ≤ j ∧ j ≤ 1000000) ∧ i.natAbs < 2 ^ 64 then R.ok (D.int (i ^ j.toNat)) st else .bad) = _) ∨ (if (0 ≤ j ∧ j ≤ 1000000) ∧ i.natAbs < 2 ^ 64 then R.ok (D.int (i ^ j.toNat)) st else .bad) = _
    by_cases hb : (0 ≤ j ∧ j ≤ 1000000) ∧ i.natAbs < 2 ^ 64
    · exact .inl ⟨⟨hb.1.1, hb.1.2, hb.2⟩, if_pos hb⟩
    · exact .inr (if_neg hb)
def rCmpI (o : Op) : R2 := rI (fun _ _ => True) fun i j => .bl ((cmpI o i j).getD false)
theorem od_cmp {o : Op} (ho : o = .lt ∨ o = .le ∨ o = .gt ∨ o = .ge) : OpD G X o (rCmpI o) := by
  rcases ho with rfl | rfl | rfl | rfl <;>
  exact od_int (g := fun i j => .bl ((cmpI _ i j).getD false)) (fun _ _ _ _ => .bl _) (fun d e st h => by cases d <;> cases e <;> first | rfl | exact absurd ⟨rfl, rfl⟩ (h _ _)) fun i j st => .inl ⟨trivial, rfl⟩
theorem op_cmpZ {op : CmpOp} {o : Op} (h : opCmp op = some o) (ho : o = .lt ∨ o = .le ∨ o = .gt ∨ o = .ge) : OpR X (compareOp op) (rCmpI o) := by
  intro pins s σ H x y v u Q I rx ry ⟨i, j, hx, hy, _, q⟩
  cases op <;> cases h <;> first
    | exact op_lt pins s σ H x y v u Q I rx ry ⟨i, j, hx, hy, q⟩
    | exact op_le pins s σ H x y v u Q I rx ry ⟨i, j, hx, hy, q⟩
    | exact op_gt pins s σ H x y v u Q I rx ry ⟨i, j, hx, hy, q⟩
    | exact op_ge pins s σ H x y v u Q I rx ry ⟨i, j, hx, hy, q⟩
    | (rcases ho with z | z | z | z <;> cases z)

/-! ### == and is -/
def rEqZ (K : PySem.W.Frag) (neg : Bool) : R2 := fun x y H Q => ∃ d e, Dp K H x (py d) ∧ Dp K H y (py e) ∧ min (deepD d) (deepD e) ≤ 60 ∧ Q (.bl (if neg then !eqD d e else eqD d e)) H
theorem od_eq : OpD G X .eq (rEqZ X.K false) := by
  intro W ρ st H d e x y Q s rx ry h
  have h : Lf G X.K W ρ H (match eqSem d e st with | some k => R.ok (D.bl k) st | none => .bad) (Val1 X.K Q) := h
  unfold eqSem at h
  cases hd : pureD st d with
  | none => rw [hd] at h; exact h.elim
  | some d' =>
    cases he : pureD st e with
    | none => rw [hd, he] at h; exact h.elim
    | some e' =>
      rw [hd, he] at h
      by_cases hz : min (deepD d') (deepD e') ≤ 60
      · simp only [if_pos hz] at h
        exact ⟨d', e', dp_pure s rx hd, dp_pure s ry he, hz, okv h s (.bl _)⟩
      · simp only [if_neg hz] at h
        exact h.elim
theorem od_ne : OpD G X .ne (rEqZ X.K true) := by
  intro W ρ st H d e x y Q s rx ry h
  have h : Lf G X.K W ρ H (match eqSem d e st with | some k => R.ok (D.bl (!k)) st | none => .bad) (Val1 X.K Q) := h
  unfold eqSem at h
  cases hd : pureD st d with
  | none => rw [hd] at h; exact h.elim
  | some d' =>
    cases he : pureD st e with
    | none => rw [hd, he] at h; exact h.elim
    | some e' =>
      rw [hd, he] at h
      by_cases hz : min (deepD d') (deepD e') ≤ 60
      · simp only [if_pos hz] at h
        exact ⟨d', e', dp_pure s rx hd, dp_pure s ry he, hz, okv h s (.bl _)⟩
      · simp only [if_neg hz] at h
        exact h.elim
theorem op_eqZ (hu : X.A.units + 64 < cLine) : OpR X (compareOp .Eq) (rEqZ X.K false) := by
  intro pins s σ H x y v u Q I rx ry ⟨d, e, hd, he, hz, q⟩
  obtain ⟨as, ra⟩ := Dp.reads I _ _ _ hd rx
  obtain ⟨bs, rb⟩ := Dp.reads I _ _ _ he ry
  have hb := (both_nd (py d) (py e) X.A s v u _ _ ra rb (nd_py d) (nd_py e) (by rw [deep_py, deep_py]; omega)).2
  rw [eqv_py] at hb
  exact hb X.prog X.w X.xe _ ⟨.bl (eqD d e), H, I, rfl, q⟩
theorem op_neZ (hu : X.A.units + 64 < cLine) : OpR X (compareOp .NotEq) (rEqZ X.K true) := by
  intro pins s σ H x y v u Q I rx ry ⟨d, e, hd, he, hz, q⟩
  obtain ⟨as, ra⟩ := Dp.reads I _ _ _ hd rx
  obtain ⟨bs, rb⟩ := Dp.reads I _ _ _ he ry
  have hb := ne_nd (A := X.A) ra rb (nd_py d) (nd_py e) (by rw [deep_py, deep_py]; omega)
  rw [eqv_py] at hb
  exact hb X.prog X.w X.xe _ ⟨.bl (!eqD d e), H, I, rfl, q⟩
end
end Z

set_option autoImplicit false
set_option maxHeartbeats 1000000
namespace Z
open PySem PySem.Spec PyProof.Rows L2

section
variable {G : GC} {X : Cx} {ρ : Tk} {H : Hp} {st : Store} {W : Value → Option Addr → Hp → Prop}
/-! ### is -/
def rIsZ (neg : Bool) : R2 := fun x y H Q => (y = .non ∧ Q (.bl (if neg then !decide (x = .non) else decide (x = .non))) H) ∨ ∃ a b : Bool, x = .bl a ∧ y = .bl b ∧ Q (.bl (if neg then !decide (a = b) else decide (a = b))) H
theorem od_is : OpD G X .is (rIsZ false) := by
  intro W ρ st H d e x y Q s rx ry h
  cases ry with
  | non =>
    refine .inl ⟨rfl, ?_⟩
    cases rx <;> exact okv h s (.bl _)
  | bl b =>
    cases rx with
    | bl a =>
      refine .inr ⟨a, b, rfl, rfl, ?_⟩
      have e : (if false = true then !decide (a = b) else decide (a = b)) = (a == b) := by cases a <;> cases b <;> rfl
      rw [e]
      exact okv h s (.bl _)
    | _ => exact h.elim
  | _ => cases rx <;> exact h.elim
theorem od_isnot : OpD G X .isnot (rIsZ true) := by
  intro W ρ st H d e x y Q s rx ry h
  cases ry with
  | non =>
    refine .inl ⟨rfl, ?_⟩
    cases rx <;> exact okv h s (.bl _)
  | bl b =>
    cases rx with
    | bl a =>
      refine .inr ⟨a, b, rfl, rfl, ?_⟩
      have e : (if true = true then !decide (a = b) else decide (a = b)) = (a != b) := by cases a <;> cases b <;> rfl
      rw [e]
      exact okv h s (.bl _)
    | _ => exact h.elim
  | _ => cases rx <;> exact h.elim
theorem op_isZ : OpR X (compareOp .Is) (rIsZ false) := OpR.or op_isN op_isBl
theorem op_isnotZ : OpR X (compareOp .IsNot) (rIsZ true) := OpR.or op_notN op_notBl

/-! ### items -/
theorem items_seq {K : PySem.W.Frag} (s : Rs G K ρ st H) {d : D} {v : V} {xs : List D} (r : Rv K ρ H d v) (e : itemsD st d = some xs) : ∃ a vs, v = .ref a ∧ (SqL K H a vs ∨ SqT K H a vs) ∧ Rvs K ρ H xs vs := by
  cases r with
  | tup t q => cases e; exact ⟨_, _, rfl, .inr t, q⟩
  | flst t q => cases e; exact ⟨_, _, rfl, .inl t.sq, q⟩
  | slst t q => cases e; exact ⟨_, _, rfl, .inl t.sq, q⟩
  | @loc l a b h =>
    have e : (match st[l]? with | some (.lst xs) => some xs | _ => none) = some xs := e
    split at e
    · rename_i ys hl
      cases e
      obtain ⟨_, vs, h2, h3⟩ := s.lst h hl
      exact ⟨a, vs, rfl, .inl (.inl (.inl h2)), h3⟩
    · cases e
  | _ => cases e
/-- a call by values -/
def OpV (G : GC) (X : Cx) (o : Op) (r : List V → Hp → VK → Prop) : Prop := ∀ (W : Value → Option Addr → Hp → Prop) (ρ : Tk) (st : Store) (H : Hp) (ds : List D) (vs : List V) (Q : VK), Rs G X.K ρ st H → Rvs X.K ρ H ds vs →
  Lf G X.K W ρ H (opSem o ds st) (Val1 X.K Q) → r vs H Q
theorem of_match_items {K : PySem.W.Frag} {xs : Option (List D)} {f : List D → R D} {P : D → Store → Tk → Hp → Prop} (h : Lf G K W ρ H (match xs with | some ys => f ys | none => .bad) P) : ∃ ys, xs = some ys ∧ Lf G K W ρ H (f ys) P := by
  cases xs with
  | none => exact h.elim
  | some ys => exact ⟨ys, rfl, h⟩
theorem of_ite {K : PySem.W.Frag} {c : Prop} [Decidable c] {r : R D} {P : D → Store → Tk → Hp → Prop} (h : Lf G K W ρ H (if c then r else .bad) P) : c ∧ Lf G K W ρ H r P := by
  by_cases q : c
  · rw [if_pos q] at h; exact ⟨q, h⟩
  · rw [if_neg q] at h; exact h.elim
theorem ov_len : OpV G X .len (fun xs H Q => ∃ x n, xs = [x] ∧ LenV X.K x H n ∧ Q (.int n) H) := by
  intro W ρ st H ds vs Q s r h
  match ds, vs, r with
  | [d], [v], .cons rd .nil =>
    have h : Lf G X.K W ρ H (lenSem d st) (Val1 X.K Q) := h
    cases rd with
    | str z =>
      have h : Lf G X.K W ρ H (if z.length ≤ SZ then .ok (.int z.length) st else .bad) (Val1 X.K Q) := h
      obtain ⟨hz, h⟩ := of_ite h
      exact ⟨_, z.length, rfl, ⟨by rw [← sz_eq]; simpa [Str.length] using hz, by simp [Str.length]⟩, okv h s (.int _)⟩
    | tup t q =>
      exact ⟨_, _, rfl, .inr ⟨_, t, rfl⟩, by rw [← q.length]; exact okv h s (.int _)⟩
    | slst t q =>
      exact ⟨_, _, rfl, .inl ⟨_, t.sq, rfl⟩, by rw [← q.length]; exact okv h s (.int _)⟩
    | flst t q =>
      exact ⟨_, _, rfl, .inl ⟨_, t.sq, rfl⟩, by rw [← q.length]; exact okv h s (.int _)⟩
    | @loc l a b hl =>
      obtain ⟨ys, e, h⟩ := of_match_items (xs := itemsD st (.loc l)) (f := fun ys => .ok (.int ys.length) st) h
      obtain ⟨a', us, ea, sq, q⟩ := items_seq s (.loc hl) e
      cases ea
      refine ⟨_, us.length, rfl, ?_, by rw [← q.length]; exact okv h s (.int _)⟩
      rcases sq with sq | sq
      · exact .inl ⟨us, sq, rfl⟩
      · exact .inr ⟨us, sq, rfl⟩
    | _ => exact h.elim
  | [], _, _ => exact h.elim
  | _ :: _ :: _, _, _ => exact h.elim
theorem ov_toTup : OpV G X .toTup (fun xs H Q => ∃ p ys, xs = [.ref p] ∧ ((SqL X.K H p ys ∧ ∀ l, H l = none → Q (.ref l) (upd H l (.tup ys))) ∨ (SqT X.K H p ys ∧ Q (.ref p) H))) := by
  intro W ρ st H ds vs Q s r h
  match ds, vs, r with
  | [d], [v], .cons rd .nil =>
    obtain ⟨ys, e, h⟩ := of_match_items (xs := itemsD st d) (f := fun ys => .ok (.tup ys) st) h
    obtain ⟨a', us, ea, sq, q⟩ := items_seq s rd e
    cases ea
    refine ⟨a', us, rfl, ?_⟩
    rcases sq with sq | sq
    · exact .inl ⟨sq, fun l hl => okt h s q hl⟩
    · exact .inr ⟨sq, okv h s (.tup sq q)⟩
  | [], _, _ => exact h.elim
  | _ :: _ :: _, _, _ => exact h.elim
theorem ov_toInt : OpV G X .toInt (fun xs H Q => (∃ i, xs = [.int i] ∧ Q (.int i) H) ∨ ∃ k, xs = [.bl k] ∧ Q (.int (if k then 1 else 0)) H) := by
  intro W ρ st H ds vs Q s r h
  match ds, vs, r with
  | [d], [v], .cons rd .nil =>
    cases rd with
    | int i => exact .inl ⟨i, rfl, okv h s (.int _)⟩
    | bl b => exact .inr ⟨b, rfl, okv h s (.int _)⟩
    | _ => exact h.elim
  | [], _, _ => exact h.elim
  | d :: _ :: _, _, _ => revert h; cases d <;> exact fun h => h.elim
def tyName : Ty → String
  | .bool => "bool"
  | .int => "int"
  | .str => "str"
  | .list => "list"
  | .tuple => "tuple"
theorem kit_all (a b : Ty) : kitB (tyName a) (tyName b) = some (isTy a b) := by cases a <;> cases b <;> decide +kernel
theorem ty_of {K : PySem.W.Frag} (s : Rs G K ρ st H) {d : D} {v : V} {t : Ty} (r : Rv K ρ H d v) (e : tyD st d = some t) : TyX K H v (.type (tyName t)) := by
  cases r with
  | bl b => cases e; exact .base (.bl b)
  | int i => cases e; exact .base (.int i)
  | str x => cases e; exact .base (.str _)
  | tup h q =>
    cases e
    rcases h with (h | ⟨o, h⟩) | ⟨o, its, n, h, c, _⟩
    · exact .base (.tup h)
    · exact .fTuple h
    · exact .kTuple h c
  | flst h q => cases e; exact .base (.lst h.2)
  | @loc l a b h =>
    have e : (match st[l]? with | some (.lst _) => some Ty.list | _ => none) = some t := e
    split at e
    · rename_i ys hl
      cases e
      obtain ⟨_, vs, h2, h3⟩ := s.lst h hl
      exact .base (.lst h2)
    · cases e
  | _ => cases e
/-! ### a[i], a[lo:hi] -/
theorem atI_rv {K : PySem.W.Frag} {xs : List D} {vs : List V} {i : Int} {d : D} (q : Rvs K ρ H xs vs) (e : atI xs i = some d) : ∃ v, atI vs i = some v ∧ Rv K ρ H d v := by
  unfold atI at e ⊢
  rw [← q.length]
  cases h : ixN xs.length i with
  | none => rw [h] at e; cases e
  | some j =>
    rw [h] at e
    exact q.get e
theorem od_ix : OpD G X .ix (rIx X.K) := by
  intro W ρ st H d e x y Q s rx ry h
  cases ry with
  | int i =>
    have h : Lf G X.K W ρ H (ixSem d i st) (Val1 X.K Q) := h
    have sq : ∀ {f : List D → R D}, (∀ ys, f ys = (match atI ys i with | some z => .ok z st | none => .bad)) → Lf G X.K W ρ H (match itemsD st d with | some ys => f ys | none => .bad) (Val1 X.K Q) → rIx X.K x (.int i) H Q := fun {f} hf h => by
      obtain ⟨ys, e, h⟩ := of_match_items h
      rw [hf] at h
      obtain ⟨a', us, ea, sq, q⟩ := items_seq s rx e
      subst ea
      cases z : atI ys i with
      | none => rw [z] at h; exact h.elim
      | some d' =>
        rw [z] at h
        obtain ⟨v, ev, rv⟩ := atI_rv q z
        rcases sq with sq | sq
        · exact .inl ⟨a', us, i, v, rfl, rfl, sq, ev, okv h s rv⟩
        · exact .inr (.inl ⟨a', us, i, v, rfl, rfl, sq, ev, okv h s rv⟩)
    cases d with
    | str z =>
      cases rx
      have h : Lf G X.K W ρ H (if z.length ≤ SZ then (match atI z i with | some c => .ok (.str [c]) st | none => .bad) else .bad) (Val1 X.K Q) := h
      obtain ⟨hz, h⟩ := of_ite h
      cases q : atI z i with
      | none => rw [q] at h; exact h.elim
      | some c =>
        rw [q] at h
        exact .inr (.inr ⟨⟨z.toArray⟩, i, c, rfl, rfl, by rw [← sz_eq]; simpa [Str.length] using hz, q, okv h s (.str [c])⟩)
    | _ => exact sq (fun _ => rfl) h
  | _ => cases rx <;> exact h.elim
theorem cut_rv {K : PySem.W.Frag} {xs : List D} {vs : List V} {lo hi : Option Int} (q : Rvs K ρ H xs vs) : Rvs K ρ H (cutD xs lo hi) (cutV vs lo hi) := by
  unfold cutD cutV
  rw [← q.length]
  exact (q.drop _).take _
def rSlZ (K : PySem.W.Frag) : V → Option Int → Option Int → Hp → VK → Prop := fun x lo hi H Q => (∃ z, x = .str z ∧ z.length ≤ sizeLine ∧ Q (.str (cutS z lo hi)) H) ∨ rSlA K x lo hi H Q ∨ rSlL K x lo hi H Q
theorem sl_Z : SlR X (rSlZ X.K) := SlR.or sl_str (SlR.or sl_tupA sl_list)
theorem od_sl {d : D} {x : V} {lo hi : Option Int} {Q : VK} (s : Rs G X.K ρ st H) (rx : Rv X.K ρ H d x) (h : Lf G X.K W ρ H (slSem d lo hi st) (Val1 X.K Q)) : rSlZ X.K x lo hi H Q := by
  cases rx with
  | str z =>
    have h : Lf G X.K W ρ H (if z.length ≤ SZ then .ok (.str (cutD z lo hi)) st else .bad) (Val1 X.K Q) := h
    obtain ⟨hz, h⟩ := of_ite h
    refine .inl ⟨_, rfl, by rw [← sz_eq]; simpa [Str.length] using hz, ?_⟩
    have e : cutS ⟨z.toArray⟩ lo hi = ⟨(cutD z lo hi).toArray⟩ := by
      unfold cutS cutD
      simp [Str.length]
    rw [e]
    exact okv h s (.str _)
  | @tup a vs ds t q =>
    refine .inr (.inl ⟨a, vs, rfl, t, fun hw => ?_, fun _ p hp => okt h s (cut_rv q) hp⟩)
    have e : cutD ds lo hi = ds := by
      unfold cutD
      rw [q.length, hw.1, hw.2, List.drop_zero, Nat.sub_zero, ← q.length, List.take_length]
    have h : Lf G X.K W ρ H (.ok (.tup (cutD ds lo hi)) st) (Val1 X.K Q) := h
    rw [e] at h
    exact okv h s (.tup t q)
  | @loc l a b hl =>
    have h : Lf G X.K W ρ H (match st[l]? with | some (.lst xs) => .ok (.loc st.length) (st ++ [.lst (cutD xs lo hi)]) | _ => .bad) (Val1 X.K Q) := h
    split at h
    · rename_i ys hy
      obtain ⟨_, vs, h2, h3⟩ := s.lst hl hy
      exact .inr (.inr ⟨a, vs, rfl, .inl (.inl h2), fun p hp => okl h s (cut_rv h3) hp⟩)
    · exact h.elim
  | @flst a vs ds t q => exact .inr (.inr ⟨a, vs, rfl, t.sq, fun p hp => okl h s (cut_rv q) hp⟩)
  | @slst a vs ds t q => exact .inr (.inr ⟨a, vs, rfl, t.sq, fun p hp => okl h s (cut_rv q) hp⟩)
  | _ => exact h.elim
end
end Z

set_option autoImplicit false
set_option maxHeartbeats 1000000
namespace Z
open PySem PySem.Spec PyProof.Rows L2

section
variable {G : GC} {P : List Fd} {k : Nat} {X : Cx} {c : Cc} {W : WX} {F : FT}
/-! ## expressions -/
theorem bin_ok {f : Value → Value → Sem Value} {r : R2} {o : Op} (hd : OpD G X o r) (a b : Ex) (σ : L2.St) (H : Hp) (Q : VK) (h : tE G X.K W (ev F (.op o [a, b])) σ H Q) : tOp r (tE G X.K W (ev F a)) (tE G X.K W (ev F b)) σ H Q := by
  obtain ⟨ρ, env, st, rel, q⟩ := h
  have q : Lf G X.K (fun c d H' => W c d σ H') ρ H (((ev F a env st).bind fun d st1 => ((ev F b env st1).bind fun e st2 => R.ok [e] st2).bind fun ds st2 => R.ok (d :: ds) st2).bind fun ds st1 => opSem o ds st1) (fun d _ ρ' H' => ∀ v, Rv X.K ρ' H' d v → Q v H') := by
    have e : ((ev F a env st).bind fun d st1 => ((ev F b env st1).bind fun e st2 => R.ok [e] st2).bind fun ds st2 => R.ok (d :: ds) st2) = evs F [a, b] env st := by
      show _ = (ev F a env st).bind fun d st1 => ((ev F b env st1).bind fun e st2 => (R.ok [] st2).bind fun ds st3 => R.ok (e :: ds) st3).bind fun ds st2 => R.ok (d :: ds) st2
      rfl
    rw [e]
    exact q
  refine ⟨ρ, env, st, rel, q.bind.bind.imp fun d st1 ρ1 H1 e1 s1 q1 x rx => ?_⟩
  refine ⟨ρ1, env, st1, ⟨s1, rel.e.ext e1⟩, q1.bind.bind.imp fun e st2 ρ2 H2 e2 s2 q2 y ry => ?_⟩
  exact hd _ ρ2 st2 H2 d e x y Q s2 (rx.ext e2) ry ((q2.ok s2).ok s2)
theorem un_ok {r : V → Hp → VK → Prop} {o : Op} (hd : ∀ (W : Value → Option Addr → Hp → Prop) (ρ : Tk) (st : Store) (H : Hp) (d : D) (x : V) (Q : VK), Rs G X.K ρ st H → Rv X.K ρ H d x → Lf G X.K W ρ H (opSem o [d] st) (Val1 X.K Q) → r x H Q)
    (a : Ex) (σ : L2.St) (H : Hp) (Q : VK) (h : tE G X.K W (ev F (.op o [a])) σ H Q) : tUn r (tE G X.K W (ev F a)) σ H Q := by
  obtain ⟨ρ, env, st, rel, q⟩ := h
  have q : Lf G X.K (fun c d H' => W c d σ H') ρ H (((ev F a env st).bind fun d st1 => R.ok [d] st1).bind fun ds st1 => opSem o ds st1) (fun d _ ρ' H' => ∀ v, Rv X.K ρ' H' d v → Q v H') := q
  refine ⟨ρ, env, st, rel, q.bind.bind.imp fun d st1 ρ1 H1 e1 s1 q1 x rx => ?_⟩
  exact hd _ ρ1 st1 H1 d x Q s1 rx (q1.ok s1)
/-- a call of a built-in -/
theorem blt_ok {r : List V → Hp → VK → Prop} {o : Op} (hd : OpV G X o r) (es : List Ex) (σ : L2.St) (H : Hp) (Q : VK) (h : tE G X.K W (ev F (.op o es)) σ H Q) : tCB r (tA G X.K W (evs F es)) σ H Q := by
  obtain ⟨ρ, env, st, rel, q⟩ := h
  have q : Lf G X.K (fun c d H' => W c d σ H') ρ H ((evs F es env st).bind fun ds st1 => opSem o ds st1) (fun d _ ρ' H' => ∀ v, Rv X.K ρ' H' d v → Q v H') := q
  exact ⟨ρ, env, st, rel, q.bind.imp fun ds st1 ρ1 H1 e1 s1 q1 vs rvs => hd _ ρ1 st1 H1 ds vs Q s1 rvs q1⟩
theorem tup_ok (es : List Ex) (σ : L2.St) (H : Hp) (Q : VK) (h : tE G X.K W (ev F (.op .tup es)) σ H Q) : tTup (tA G X.K W (evs F es)) σ H Q := by
  obtain ⟨ρ, env, st, rel, q⟩ := h
  have q : Lf G X.K (fun c d H' => W c d σ H') ρ H ((evs F es env st).bind fun ds st1 => opSem .tup ds st1) (fun d _ ρ' H' => ∀ v, Rv X.K ρ' H' d v → Q v H') := q
  refine ⟨ρ, env, st, rel, q.bind.imp fun ds st1 ρ1 H1 e1 s1 q1 vs rvs => ?_⟩
  have q1 : Lf G X.K (fun c d H' => W c d σ H') ρ1 H1 (if ds.length ≤ SZ then .ok (.tup ds) st1 else .bad) (fun d _ ρ' H' => ∀ v, Rv X.K ρ' H' d v → Q v H') := q1
  obtain ⟨hz, q1⟩ := of_ite q1
  exact ⟨by rw [← rvs.length, ← sz_eq]; exact hz, fun p hp => okt q1 s1 rvs hp⟩
theorem lst_ok (es : List Ex) (σ : L2.St) (H : Hp) (Q : VK) (h : tE G X.K W (ev F (.op .lst es)) σ H Q) : tLst (tA G X.K W (evs F es)) σ H Q := by
  obtain ⟨ρ, env, st, rel, q⟩ := h
  have q : Lf G X.K (fun c d H' => W c d σ H') ρ H ((evs F es env st).bind fun ds st1 => opSem .lst ds st1) (fun d _ ρ' H' => ∀ v, Rv X.K ρ' H' d v → Q v H') := q
  refine ⟨ρ, env, st, rel, q.bind.imp fun ds st1 ρ1 H1 e1 s1 q1 vs rvs => ?_⟩
  have q1 : Lf G X.K (fun c d H' => W c d σ H') ρ1 H1 (if ds.length ≤ SZ then .ok (.loc st1.length) (st1 ++ [.lst ds]) else .bad) (fun d _ ρ' H' => ∀ v, Rv X.K ρ' H' d v → Q v H') := q1
  obtain ⟨hz, q1⟩ := of_ite q1
  exact ⟨by rw [← rvs.length, ← sz_eq]; exact hz, fun p hp => okl q1 s1 rvs hp⟩
theorem flit_ok (es : List Ex) (σ : L2.St) (H : Hp) (Q : VK) (h : tE G X.K W (ev F (.op (.x .flit) es)) σ H Q) : tLst (tA G X.K W (evs F es)) σ H Q := by
  obtain ⟨ρ, env, st, rel, q⟩ := h
  have q : Lf G X.K (fun c d H' => W c d σ H') ρ H ((evs F es env st).bind fun ds st1 => opSem (.x .flit) ds st1) (fun d _ ρ' H' => ∀ v, Rv X.K ρ' H' d v → Q v H') := q
  refine ⟨ρ, env, st, rel, q.bind.imp fun ds st1 ρ1 H1 e1 s1 q1 vs rvs => ?_⟩
  have q1 : Lf G X.K (fun c d H' => W c d σ H') ρ1 H1 (if ds.length ≤ SZ then .ok (.flst ds) st1 else .bad) (fun d _ ρ' H' => ∀ v, Rv X.K ρ' H' d v → Q v H') := q1
  obtain ⟨hz, q1⟩ := of_ite q1
  exact ⟨by rw [← rvs.length, ← sz_eq]; exact hz, fun p hp => okf q1 s1 rvs hp⟩
theorem isin_ok (t : Ty) (a : Ex) (σ : L2.St) (H : Hp) (Q : VK) (h : tE G X.K W (ev F (.op (.isin t) [a])) σ H Q) : tCB (rIsi X.K) (tCons (tE G X.K W (ev F a)) (tCons (tC (.ty (tyName t))) tNil)) σ H Q := by
  obtain ⟨ρ, env, st, rel, q⟩ := h
  have q : Lf G X.K (fun c d H' => W c d σ H') ρ H (((ev F a env st).bind fun d st1 => R.ok [d] st1).bind fun ds st1 => opSem (.isin t) ds st1) (fun d _ ρ' H' => ∀ v, Rv X.K ρ' H' d v → Q v H') := q
  refine ⟨ρ, env, st, rel, q.bind.bind.imp fun d st1 ρ1 H1 e1 s1 q1 x rx => ?_⟩
  have q1 : Lf G X.K (fun c d H' => W c d σ H') ρ1 H1 (match tyD st1 d with | some u => .ok (.bl (isTy u t)) st1 | none => .bad) (fun d _ ρ' H' => ∀ v, Rv X.K ρ' H' d v → Q v H') := q1.ok s1
  cases hu : tyD st1 d with
  | none => rw [hu] at q1; exact q1.elim
  | some u =>
    rw [hu] at q1
    exact ⟨x, _, _, _, isTy u t, rfl, .ty _, ty_of s1 rx hu, kit_ty (kit_all u t), okv q1 s1 (.bl _)⟩
theorem truV_of {K : PySem.W.Frag} {ρ : Tk} {st : Store} {H : Hp} {d : D} {v : V} {b : Bool} (s : Rs G K ρ st H) (r : Rv K ρ H d v) (e : truth st d = some b) : TruV K v H b := by
  have em : ∀ {xs : List D} {vs : List V}, Rvs K ρ H xs vs → (!xs.isEmpty) = !vs.isEmpty := fun {xs vs} q => by
    cases q <;> rfl
  have sq : ∀ {d : D}, Rv K ρ H d v → (itemsD st d).map (fun xs => !xs.isEmpty) = some b → TruV K v H b := fun {d} r e => by
    cases hi : itemsD st d with
    | none => rw [hi] at e; cases e
    | some xs =>
      rw [hi] at e
      cases e
      obtain ⟨a, vs, rfl, q1, q2⟩ := items_seq s r hi
      rcases q1 with q1 | q1
      · exact .inl ⟨vs, q1, em q2⟩
      · exact .inr (.inl ⟨vs, q1, em q2⟩)
  cases d with
  | non => cases r; cases e; exact rfl
  | bl x => cases r; cases e; exact rfl
  | int i => cases r; cases e; exact rfl
  | str z =>
    cases r
    have e : (if z.length ≤ SZ then some ((z.length : Int) != 0) else none) = some b := e
    split at e
    · rename_i hz
      cases e
      exact ⟨by rw [← sz_eq]; simpa [Str.length] using hz, by simp [Str.length]⟩
    · cases e
  | _ => exact sq r e
theorem tT_of {e : Expr} {r : Env → Store → R D} (h : PE X e (tE G X.K W r)) (he : ∀ whole, isTrue e X.env whole = (do let v ← whole; standAt e.pos; holding [v] (truthy v))) : PT X e (tT G X.K W r) :=
  PT.imp (pt_truth h he) fun σ H Q ⟨ρ, env, st, rel, q⟩ => by
    refine ⟨ρ, env, st, rel, q.imp fun d st1 ρ1 H1 e1 s1 q1 v rv => ?_⟩
    obtain ⟨k, hk, q⟩ := q1
    exact ⟨k, truV_of s1 rv hk, q⟩
/-- an operation that gives a truth value, as a test -/
theorem tT_bin {r : R2} {o : Op} (hd : OpD G X o r) (a b : Ex) (σ : L2.St) (H : Hp) (Q : Bool → Hp → Prop) (hb : ∀ d e st z st', opSem o [d, e] st = .ok z st' → ∃ k, z = .bl k) (h : tT G X.K W (ev F (.op o [a, b])) σ H Q) :
    tTest (tOp r (tE G X.K W (ev F a)) (tE G X.K W (ev F b))) σ H Q := by
  refine bin_ok (f := fun _ _ => pure .none) hd a b σ H _ ?_
  obtain ⟨ρ, env, st, rel, q⟩ := h
  refine ⟨ρ, env, st, rel, ?_⟩
  have hz : ∀ z st', ev F (.op o [a, b]) env st = .ok z st' → ∃ k, z = .bl k := fun z st' e => by
    have e : (evs F [a, b] env st).bind (fun ds st1 => opSem o ds st1) = .ok z st' := e
    have ev2 : evs F [a, b] env st = (ev F a env st).bind fun d st1 => ((ev F b env st1).bind fun e st2 => (R.ok [] st2).bind fun ds st3 => R.ok (e :: ds) st3).bind fun ds st2 => R.ok (d :: ds) st2 := rfl
    rw [ev2] at e
    cases ha : ev F a env st with
    | ok d st1 =>
      rw [ha] at e
      cases hb2 : ev F b env st1 with
      | ok d2 st2 =>
        have e : ((R.bind (ev F b env st1) fun e st2 => (R.ok [] st2).bind fun ds st3 => R.ok (e :: ds) st3).bind fun ds st2 => R.ok (d :: ds) st2).bind (fun ds st1 => opSem o ds st1) = .ok z st' := e
        rw [hb2] at e
        exact hb d d2 st2 z st' e
      | exc => have e : ((R.bind (ev F b env st1) fun e st2 => (R.ok [] st2).bind fun ds st3 => R.ok (e :: ds) st3).bind fun ds st2 => R.ok (d :: ds) st2).bind (fun ds st1 => opSem o ds st1) = .ok z st' := e
               rw [hb2] at e; cases e
      | bad => have e : ((R.bind (ev F b env st1) fun e st2 => (R.ok [] st2).bind fun ds st3 => R.ok (e :: ds) st3).bind fun ds st2 => R.ok (d :: ds) st2).bind (fun ds st1 => opSem o ds st1) = .ok z st' := e
               rw [hb2] at e; cases e
    | exc => rw [ha] at e; cases e
    | bad => rw [ha] at e; cases e
  cases hr : ev F (.op o [a, b]) env st with
  | ok z st' =>
    obtain ⟨k, rfl⟩ := hz z st' hr
    rw [hr] at q
    intro ρ' H' e s v rv
    cases rv
    obtain ⟨k', hk, q⟩ := q ρ' H' e s
    cases hk
    exact ⟨k, rfl, q⟩
  | exc => rw [hr] at q; exact q
  | bad => rw [hr] at q; exact q
end
end Z

set_option autoImplicit false
set_option maxHeartbeats 1000000
namespace Z
open PySem PySem.Spec PyProof.Rows L2

/-! ## in, of data -/
section
open PySem.SeqAt
noncomputable def eOf (h : Heap) (d : PyData) (u : Value) : Bool := @decide (∃ d' p, nd d' = true ∧ Reads h u d' p ∧ PyData.eqv d' d = true) (Classical.propDecidable _)
theorem eOf_eq {h : Heap} {d d' : PyData} {u : Value} {p : List Addr} (hn : nd d' = true) (r : Reads h u d' p) : eOf h d u = PyData.eqv d' d := by
  unfold eOf
  cases hb : PyData.eqv d' d with
  | true => exact @decide_eq_true _ (Classical.propDecidable _) ⟨d', p, hn, r, hb⟩
  | false =>
    refine @decide_eq_false _ (Classical.propDecidable _) fun ⟨d2, p2, hn2, r2, hb2⟩ => ?_
    rw [same_nd d' d2 u p p2 hn r r2, hb2] at hb
    cases hb
theorem eOf_any {h : Heap} {d : PyData} : ∀ (ds : List PyData) (us : List Value) (p : List Addr), nds ds = true → ReadsAll h us ds p → us.any (eOf h d) = ds.any fun z => PyData.eqv z d
  | [], _, _, _, r => by cases r; rfl
  | x :: xs, _, _, hn, r => by
    have hn2 : (nd x && nds xs) = true := hn
    rw [Bool.and_eq_true] at hn2
    cases r with
    | cons r1 r2 => rw [List.any_cons, List.any_cons, eOf_eq hn2.1 r1, eOf_any xs _ _ hn2.2 r2]
theorem eOf_at {A : Around} {s : Shared} {d : PyData} {v : Value} {q : List Addr} (hv : Reads s.heap v d q) (hd : nd d = true) (hu : A.units + d.depth < cLine) :
    ∀ (ds : List PyData) (us : List Value) (p : List Addr), nds ds = true → ReadsAll s.heap us ds p → ∀ u, u ∈ us → EqAt A s u v (eOf s.heap d u)
  | [], _, _, _, r, u, hm => by cases r; cases hm
  | x :: xs, _, _, hn, r, u, hm => by
    have hn2 : (nd x && nds xs) = true := hn
    rw [Bool.and_eq_true] at hn2
    cases r with
    | cons r1 r2 =>
      rcases List.mem_cons.mp hm with rfl | hm
      · rw [eOf_eq hn2.1 r1]
        exact (both_nd x d A s _ _ _ _ r1 hv hn2.1 hd (by omega)).1
      · exact eOf_at hv hd hu xs _ _ hn2.2 r2 u hm
theorem any_eqv (d : D) : ∀ ds : List D, ((pys ds).any fun z => PyData.eqv z (py d)) = ds.any fun z => eqD z d
  | [] => rfl
  | x :: xs => by
    show (PyData.eqv (py x) (py d) || (pys xs).any fun z => PyData.eqv z (py d)) = _
    rw [List.any_cons, eqv_py, any_eqv d xs]
end
section
variable {G : GC} {X : Cx} {ρ : Tk} {H : Hp} {st : Store} {W : Value → Option Addr → Hp → Prop}
def rInS (neg : Bool) : R2 := fun x y H Q => ∃ (c : Nat) (z : Str), x = .str ⟨#[c]⟩ ∧ y = .str z ∧ Q (.bl (if neg then !decide (c ∈ z.cps.toList) else decide (c ∈ z.cps.toList))) H
def rInDs (K : PySem.W.Frag) (neg : Bool) : R2 := fun x y H Q => ∃ d ds, Dp K H x (py d) ∧ (Dp K H y (.list (pys ds)) ∨ Dp K H y (.tuple (pys ds))) ∧ deepD d ≤ 60 ∧ Q (.bl (if neg then !(ds.any fun z => eqD z d) else ds.any fun z => eqD z d)) H
def rInZ (K : PySem.W.Frag) (neg : Bool) : R2 := fun x y H Q => rInS neg x y H Q ∨ rInDs K neg x y H Q
theorem op_inDs (hu : X.A.units + 64 < cLine) : OpR X (compareOp .In) (rInDs X.K false) := by
  intro pins s σ H x y v u Q I rx ry ⟨d, ds, hd, he, hz, q⟩
  obtain ⟨as, ra⟩ := Dp.reads I _ _ _ hd rx
  have hn := nds_pys ds
  have hu1 : X.A.in1.units + (py d).depth < cLine := by
    rw [deep_py]
    have : X.A.in1.units = X.A.units + 1 := rfl
    omega
  rcases he with he | he
  · obtain ⟨bs, rb⟩ := Dp.reads I _ _ _ he ry
    cases rb with
    | @list m o' ws n' es q' b1 b2 b3 b4 =>
      refine SeqAt.in_listAt (eOf s.heap (py d)) ⟨_, b1, b2, _, b3⟩ (fun w hw => eOf_at ra (nd_py d) hu1 _ _ _ hn b4 w (by simpa using hw)) ⟨.bl (ds.any fun z => eqD z d), H, I, ?_, q⟩
      have e : ws.any (eOf s.heap (py d)) = ws.toList.any (eOf s.heap (py d)) := by simp
      rw [e, eOf_any _ _ _ hn b4, any_eqv]
      rfl
  · obtain ⟨bs, rb⟩ := Dp.reads I _ _ _ he ry
    cases rb with
    | @tuple m o' ws n' es q' b1 b2 b3 b4 =>
      refine SeqAt.in_tupleAt (eOf s.heap (py d)) ⟨_, b1, b2, _, b3⟩ (fun w hw => eOf_at ra (nd_py d) hu1 _ _ _ hn b4 w (by simpa using hw)) ⟨.bl (ds.any fun z => eqD z d), H, I, ?_, q⟩
      have e : ws.any (eOf s.heap (py d)) = ws.toList.any (eOf s.heap (py d)) := by simp
      rw [e, eOf_any _ _ _ hn b4, any_eqv]
      rfl
theorem op_notinDs (hu : X.A.units + 64 < cLine) : OpR X (compareOp .NotIn) (rInDs X.K true) := by
  intro pins s σ H x y v u Q I rx ry ⟨d, ds, hd, he, hz, q⟩
  obtain ⟨as, ra⟩ := Dp.reads I _ _ _ hd rx
  have hn := nds_pys ds
  have hu1 : X.A.in1.units + (py d).depth < cLine := by
    rw [deep_py]
    have : X.A.in1.units = X.A.units + 1 := rfl
    omega
  rcases he with he | he
  · obtain ⟨bs, rb⟩ := Dp.reads I _ _ _ he ry
    cases rb with
    | @list m o' ws n' es q' b1 b2 b3 b4 =>
      refine SeqAt.notIn_listAt (eOf s.heap (py d)) ⟨_, b1, b2, _, b3⟩ (fun w hw => eOf_at ra (nd_py d) hu1 _ _ _ hn b4 w (by simpa using hw)) ⟨.bl (!(ds.any fun z => eqD z d)), H, I, ?_, q⟩
      have e : ws.any (eOf s.heap (py d)) = ws.toList.any (eOf s.heap (py d)) := by simp
      rw [e, eOf_any _ _ _ hn b4, any_eqv]
      rfl
  · obtain ⟨bs, rb⟩ := Dp.reads I _ _ _ he ry
    cases rb with
    | @tuple m o' ws n' es q' b1 b2 b3 b4 =>
      refine SeqAt.notIn_tupleAt (eOf s.heap (py d)) ⟨_, b1, b2, _, b3⟩ (fun w hw => eOf_at ra (nd_py d) hu1 _ _ _ hn b4 w (by simpa using hw)) ⟨.bl (!(ds.any fun z => eqD z d)), H, I, ?_, q⟩
      have e : ws.any (eOf s.heap (py d)) = ws.toList.any (eOf s.heap (py d)) := by simp
      rw [e, eOf_any _ _ _ hn b4, any_eqv]
      rfl
theorem op_inZ (hu : X.A.units + 64 < cLine) : OpR X (compareOp .In) (rInZ X.K false) := OpR.or op_in_sign (op_inDs hu)
theorem op_notinZ (hu : X.A.units + 64 < cLine) : OpR X (compareOp .NotIn) (rInZ X.K true) := OpR.or op_notIn_sign (op_notinDs hu)
theorem in_sem (neg : Bool) (s : Rs G X.K ρ st H) {d e : D} {x y : V} {Q : VK} {k : Bool} (rx : Rv X.K ρ H d x) (ry : Rv X.K ρ H e y) (h : inSem d e st = some k) (q : Q (.bl (if neg then !k else k)) H) : rInZ X.K neg x y H Q := by
  have dat : ∀ e, (match pureD st d with
      | some x => match pureD st e with
        | some (.tup ys) => if deepD x ≤ 60 then some (ys.any fun y => eqD y x) else none
        | some (.flst ys) => if deepD x ≤ 60 then some (ys.any fun y => eqD y x) else none
        | _ => none
      | none => none) = some k → Rv X.K ρ H e y → rInZ X.K neg x y H Q := by
    intro e h ry
    split at h
    · rename_i d' hd
      split at h
      · rename_i ys he
        split at h
        · rename_i hz
          cases h
          exact .inr ⟨d', ys, dp_pure s rx hd, .inr (dp_pure s ry he), hz, q⟩
        · cases h
      · rename_i ys he
        split at h
        · rename_i hz
          cases h
          exact .inr ⟨d', ys, dp_pure s rx hd, .inl (dp_pure s ry he), hz, q⟩
        · cases h
      · cases h
    · cases h
  cases ry with
  | str z =>
    unfold inSem at h
    split at h
    · rename_i z' hz
      cases hz
      split at h
      · rename_i c
        cases h
        cases rx
        exact .inl ⟨c, ⟨z.toArray⟩, rfl, rfl, q⟩
      · cases h
    · rename_i hne
      exact absurd rfl (hne z)
  | non => exact dat .non h .non
  | bl b => exact dat (.bl b) h (.bl b)
  | int i => exact dat (.int i) h (.int i)
  | tup a b => exact dat (.tup _) h (.tup a b)
  | flst a b => exact dat (.flst _) h (.flst a b)
  | slst a b => exact dat (.slst _) h (.slst a b)
  | fins a b c e => exact dat (.fins _ _ _) h (.fins a b c e)
  | loc a => exact dat (.loc _) h (.loc a)
theorem od_in : OpD G X (.x .inn) (rInZ X.K false) := by
  intro W ρ st H d e x y Q s rx ry h
  have h : Lf G X.K W ρ H (match inSem d e st with | some k => R.ok (D.bl k) st | none => .bad) (Val1 X.K Q) := h
  cases hk : inSem d e st with
  | none => rw [hk] at h; exact h.elim
  | some k => rw [hk] at h; exact in_sem false s rx ry hk (okv h s (.bl _))
theorem od_notin : OpD G X (.x .notin) (rInZ X.K true) := by
  intro W ρ st H d e x y Q s rx ry h
  have h : Lf G X.K W ρ H (match inSem d e st with | some k => R.ok (D.bl (!k)) st | none => .bad) (Val1 X.K Q) := h
  cases hk : inSem d e st with
  | none => rw [hk] at h; exact h.elim
  | some k => rw [hk] at h; exact in_sem true s rx ry hk (okv h s (.bl _))

/-! ## calls of built-ins that take lists -/
theorem listD_seq {K : PySem.W.Frag} (s : Rs G K ρ st H) {d : D} {v : V} {xs : List D} (r : Rv K ρ H d v) (e : listD st d = some xs) : ∃ a vs, v = .ref a ∧ SqL K H a vs ∧ Rvs K ρ H xs vs := by
  cases r with
  | tup t q => cases e
  | flst t q => cases e; exact ⟨_, _, rfl, t.sq, q⟩
  | slst t q => cases e; exact ⟨_, _, rfl, t.sq, q⟩
  | @loc l a b h =>
    have e : (match st[l]? with | some (.lst xs) => some xs | _ => none) = some xs := e
    split at e
    · rename_i ys hl
      cases e
      obtain ⟨_, vs, h2, h3⟩ := s.lst h hl
      exact ⟨a, vs, rfl, .inl (.inl h2), h3⟩
    · cases e
  | _ => cases e
theorem vals_bl {K : PySem.W.Frag} : ∀ {xs : List D} {vs : List V} {bs : List Bool}, Rvs K ρ H xs vs → allBl xs = some bs → vs = bs.map V.bl
  | [], _, _, .nil, e => by cases e; rfl
  | d :: ds, _, _, .cons h t, e => by
    cases d <;> first | (cases e; done) | skip
    case bl b =>
      cases h
      cases q : allBl ds with
      | none => rw [allBl, q] at e; cases e
      | some ys => rw [allBl, q] at e; cases e; rw [vals_bl t q]; rfl
theorem vals_int {K : PySem.W.Frag} : ∀ {xs : List D} {vs : List V} {bs : List Int}, Rvs K ρ H xs vs → allInt xs = some bs → vs = bs.map V.int
  | [], _, _, .nil, e => by cases e; rfl
  | d :: ds, _, _, .cons h t, e => by
    cases d <;> first | (cases e; done) | skip
    case int b =>
      cases h
      cases q : allInt ds with
      | none => rw [allInt, q] at e; cases e
      | some ys => rw [allInt, q] at e; cases e; rw [vals_int t q]; rfl
theorem vals_str {K : PySem.W.Frag} : ∀ {xs : List D} {vs : List V} {bs : List (List Nat)}, Rvs K ρ H xs vs → allStr xs = some bs → vs = (bs.map fun z => (⟨z.toArray⟩ : Str)).map V.str
  | [], _, _, .nil, e => by cases e; rfl
  | d :: ds, _, _, .cons h t, e => by
    cases d <;> first | (cases e; done) | skip
    case str b =>
      cases h
      cases q : allStr ds with
      | none => rw [allStr, q] at e; cases e
      | some ys => rw [allStr, q] at e; cases e; rw [vals_str t q]; rfl
theorem of_match_opt {K : PySem.W.Frag} {α : Type} {xs : Option α} {f : α → R D} {P : D → Store → Tk → Hp → Prop} (h : Lf G K W ρ H (match xs with | some ys => f ys | none => .bad) P) : ∃ ys, xs = some ys ∧ Lf G K W ρ H (f ys) P := by
  cases xs with
  | none => exact h.elim
  | some ys => exact ⟨ys, rfl, h⟩
theorem ov_all : OpV G X (.x .all_) (rAll X.K) := by
  intro W ρ st H ds vs Q s r h
  match ds, vs, r with
  | [d], [v], .cons rd .nil =>
    have h : Lf G X.K W ρ H (match listD st d with | some ys => (match allBl ys with | some xs => .ok (.bl (xs.all id)) st | none => .bad) | none => .bad) (Val1 X.K Q) := h
    cases e : listD st d with
    | none => rw [e] at h; exact h.elim
    | some ys =>
      rw [e] at h
      have h : Lf G X.K W ρ H (match allBl ys with | some xs => .ok (.bl (xs.all id)) st | none => .bad) (Val1 X.K Q) := h
      cases e2 : allBl ys with
      | none => rw [e2] at h; exact h.elim
      | some bs =>
        rw [e2] at h
        obtain ⟨a', us, ea, sq, q⟩ := listD_seq s rd e
        cases ea
        have hv := vals_bl q e2
        subst hv
        exact ⟨a', bs, rfl, sq, okv h s (.bl _)⟩
  | [], _, _ => exact h.elim
  | _ :: _ :: _, _, _ => exact h.elim
theorem ov_any : OpV G X (.x .any_) (rAny X.K) := by
  intro W ρ st H ds vs Q s r h
  match ds, vs, r with
  | [d], [v], .cons rd .nil =>
    have h : Lf G X.K W ρ H (match listD st d with | some ys => (match allBl ys with | some xs => .ok (.bl (xs.any id)) st | none => .bad) | none => .bad) (Val1 X.K Q) := h
    cases e : listD st d with
    | none => rw [e] at h; exact h.elim
    | some ys =>
      rw [e] at h
      have h : Lf G X.K W ρ H (match allBl ys with | some xs => .ok (.bl (xs.any id)) st | none => .bad) (Val1 X.K Q) := h
      cases e2 : allBl ys with
      | none => rw [e2] at h; exact h.elim
      | some bs =>
        rw [e2] at h
        obtain ⟨a', us, ea, sq, q⟩ := listD_seq s rd e
        cases ea
        have hv := vals_bl q e2
        subst hv
        exact ⟨a', bs, rfl, sq, okv h s (.bl _)⟩
  | [], _, _ => exact h.elim
  | _ :: _ :: _, _, _ => exact h.elim
theorem ov_sum : OpV G X (.x .sum_) (rSum X.K) := by
  intro W ρ st H ds vs Q s r h
  match ds, vs, r with
  | [d], [v], .cons rd .nil =>
    have h : Lf G X.K W ρ H (match listD st d with | some ys => (match allInt ys with | some xs => .ok (.int xs.sum) st | none => .bad) | none => .bad) (Val1 X.K Q) := h
    cases e : listD st d with
    | none => rw [e] at h; exact h.elim
    | some ys =>
      rw [e] at h
      have h : Lf G X.K W ρ H (match allInt ys with | some xs => .ok (.int xs.sum) st | none => .bad) (Val1 X.K Q) := h
      cases e2 : allInt ys with
      | none => rw [e2] at h; exact h.elim
      | some bs =>
        rw [e2] at h
        obtain ⟨a', us, ea, sq, q⟩ := listD_seq s rd e
        cases ea
        have hv := vals_int q e2
        subst hv
        exact ⟨a', bs, rfl, sq, okv h s (.int _)⟩
  | [], _, _ => exact h.elim
  | _ :: _ :: _, _, _ => exact h.elim
theorem ov_min2 : OpV G X (.x .min2) (fun xs H Q => ∃ i j, xs = [.int i, .int j] ∧ Q (.int (if j < i then j else i)) H) := by
  intro W ρ st H ds vs Q s r h
  match ds, vs, r with
  | [d, e], [v, u], .cons rd (.cons re .nil) =>
    cases rd <;> first | exact h.elim | skip
    cases re <;> first | exact h.elim | skip
    exact ⟨_, _, rfl, okv h s (.int _)⟩
  | [], _, _ => exact h.elim
  | [d], _, _ => revert h; cases d <;> exact fun h => h.elim
  | d :: e :: _ :: _, _, _ => revert h; cases d <;> cases e <;> exact fun h => h.elim
theorem ov_max2 : OpV G X (.x .max2) (fun xs H Q => ∃ i j, xs = [.int i, .int j] ∧ Q (.int (if j > i then j else i)) H) := by
  intro W ρ st H ds vs Q s r h
  match ds, vs, r with
  | [d, e], [v, u], .cons rd (.cons re .nil) =>
    cases rd <;> first | exact h.elim | skip
    cases re <;> first | exact h.elim | skip
    exact ⟨_, _, rfl, okv h s (.int _)⟩
  | [], _, _ => exact h.elim
  | [d], _, _ => revert h; cases d <;> exact fun h => h.elim
  | d :: e :: _ :: _, _, _ => revert h; cases d <;> cases e <;> exact fun h => h.elim
theorem ov_ord : OpV G X (.x .ord_) (fun xs H Q => ∃ x : Str, xs = [.str x] ∧ x.length = 1 ∧ Q (.int (x.cps.getD 0 0 : Nat)) H) := by
  intro W ρ st H ds vs Q s r h
  match ds, vs, r with
  | [.str [c]], [v], .cons rd .nil =>
    cases rd
    exact ⟨_, rfl, rfl, okv h s (.int _)⟩
  | [.str []], _, _ => exact h.elim
  | [.str (_ :: _ :: _)], _, _ => exact h.elim
  | [.non], _, _ => exact h.elim
  | [.bl _], _, _ => exact h.elim
  | [.int _], _, _ => exact h.elim
  | [.tup _], _, _ => exact h.elim
  | [.flst _], _, _ => exact h.elim
  | [.slst _], _, _ => exact h.elim
  | [.fdct _ _], _, _ => exact h.elim
  | [.fset _], _, _ => exact h.elim
  | [.fins _ _ _], _, _ => exact h.elim
  | [.fn _], _, _ => exact h.elim
  | [.loc _], _, _ => exact h.elim
  | [], _, _ => exact h.elim
  | d :: _ :: _, _, _ =>
    revert h
    cases d with
    | str z => rcases z with _ | ⟨c, _ | ⟨_, _⟩⟩ <;> exact fun h => h.elim
    | _ => exact fun h => h.elim
theorem ov_toList : OpV G X (.x .toList) (fun xs H Q => ∃ p ys, xs = [.ref p] ∧ (SqL X.K H p ys ∨ SqT X.K H p ys) ∧ ∀ l, H l = none → Q (.ref l) (upd H l (.lst ys))) := by
  intro W ρ st H ds vs Q s r h
  match ds, vs, r with
  | [d], [v], .cons rd .nil =>
    have h : Lf G X.K W ρ H (match itemsD st d with | some ys => .ok (.loc st.length) (st ++ [.lst ys]) | none => .bad) (Val1 X.K Q) := h
    obtain ⟨ys, e, h⟩ := of_match_items (xs := itemsD st d) (f := fun ys => .ok (.loc st.length) (st ++ [.lst ys])) h
    obtain ⟨a', us, ea, sq, q⟩ := items_seq s rd e
    cases ea
    exact ⟨a', us, rfl, sq, fun l hl => okl h s q hl⟩
  | [], _, _ => exact h.elim
  | _ :: _ :: _, _, _ => exact h.elim
theorem ov_toListF : OpV G X (.x .toListF) (fun xs H Q => ∃ p ys, xs = [.ref p] ∧ (SqL X.K H p ys ∨ SqT X.K H p ys) ∧ ∀ l, H l = none → Q (.ref l) (upd H l (.lst ys))) := by
  intro W ρ st H ds vs Q s r h
  match ds, vs, r with
  | [d], [v], .cons rd .nil =>
    have h : Lf G X.K W ρ H (match itemsD st d with | some ys => .ok (.flst ys) st | none => .bad) (Val1 X.K Q) := h
    obtain ⟨ys, e, h⟩ := of_match_items (xs := itemsD st d) (f := fun ys => .ok (.flst ys) st) h
    obtain ⟨a', us, ea, sq, q⟩ := items_seq s rd e
    cases ea
    exact ⟨a', us, rfl, sq, fun l hl => okf h s q hl⟩
  | [], _, _ => exact h.elim
  | _ :: _ :: _, _, _ => exact h.elim
end
end Z

set_option autoImplicit false
set_option maxHeartbeats 1000000
namespace Z
open PySem PySem.Spec PyProof.Rows L2

/-! ## methods of built-in types -/
section
variable {G : GC} {X : Cx} {ρ : Tk} {H : Hp} {st : Store} {W : Value → Option Addr → Hp → Prop}
/-- a method by data -/
def OpM (G : GC) (X : Cx) (m : Mt) (r : V → List V → Hp → VK → Prop) : Prop := ∀ (W : Value → Option Addr → Hp → Prop) (ρ : Tk) (st : Store) (H : Hp) (d : D) (ds : List D) (x : V) (vs : List V) (Q : VK), Rs G X.K ρ st H → Rv X.K ρ H d x → Rvs X.K ρ H ds vs →
  Lf G X.K W ρ H (methSem m (d :: ds) st) (Val1 X.K Q) → r x vs H Q
theorem om_ascii : OpM G X .isascii (fun x xs H Q => ∃ a, x = .str a ∧ xs = [] ∧ True ∧ Q (.bl (Txt.isascii a)) H) := by
  intro W ρ st H d ds x vs Q s rd rs h
  cases rd <;> cases rs <;> first | exact h.elim | skip
  exact ⟨_, rfl, rfl, trivial, okv h s (.bl _)⟩
theorem om_digit : OpM G X .isdigit (fun x xs H Q => ∃ a, x = .str a ∧ xs = [] ∧ True ∧ Q (.bl (Txt.isdigit a)) H) := by
  intro W ρ st H d ds x vs Q s rd rs h
  cases rd <;> cases rs <;> first | exact h.elim | skip
  exact ⟨_, rfl, rfl, trivial, okv h s (.bl _)⟩
theorem om_lower : OpM G X .lower (fun x xs H Q => ∃ a, x = .str a ∧ xs = [] ∧ a.length ≤ 5592405 ∧ Q (.str (Txt.lower a)) H) := by
  intro W ρ st H d ds x vs Q s rd rs h
  cases rd <;> cases rs <;> first | exact h.elim | skip
  case str.nil z =>
    have h : Lf G X.K W ρ H (if z.length ≤ 5592405 then .ok (.str (ofStr (Txt.lower (toStr z)))) st else .bad) (Val1 X.K Q) := h
    obtain ⟨hz, h⟩ := of_ite h
    exact ⟨_, rfl, rfl, by show z.toArray.size ≤ _; rw [List.size_toArray]; exact hz, okv h s (.str _)⟩
theorem om_upper : OpM G X .upper (fun x xs H Q => ∃ a, x = .str a ∧ xs = [] ∧ a.length ≤ 5592405 ∧ Q (.str (Txt.upper a)) H) := by
  intro W ρ st H d ds x vs Q s rd rs h
  cases rd <;> cases rs <;> first | exact h.elim | skip
  case str.nil z =>
    have h : Lf G X.K W ρ H (if z.length ≤ 5592405 then .ok (.str (ofStr (Txt.upper (toStr z)))) st else .bad) (Val1 X.K Q) := h
    obtain ⟨hz, h⟩ := of_ite h
    exact ⟨_, rfl, rfl, by show z.toArray.size ≤ _; rw [List.size_toArray]; exact hz, okv h s (.str _)⟩
theorem om_ends : OpM G X .endswith (fun x xs H Q => ∃ a b, x = .str a ∧ xs = [.str b] ∧ Q (.bl (Txt.endswith a b)) H) := by
  intro W ρ st H d ds x vs Q s rd rs h
  match ds, vs, rs with
  | [e], [u], .cons re .nil =>
    cases rd <;> first | exact h.elim | skip
    cases re <;> first | exact h.elim | skip
    exact ⟨_, _, rfl, rfl, okv h s (.bl _)⟩
  | [], _, _ => revert h; cases d <;> exact fun h => h.elim
  | e :: _ :: _, _, _ => revert h; cases d <;> cases e <;> exact fun h => h.elim
theorem om_starts : OpM G X .startswith (fun x xs H Q => ∃ a b, x = .str a ∧ xs = [.str b] ∧ Q (.bl (Txt.startswith a b)) H) := by
  intro W ρ st H d ds x vs Q s rd rs h
  match ds, vs, rs with
  | [e], [u], .cons re .nil =>
    cases rd <;> first | exact h.elim | skip
    cases re <;> first | exact h.elim | skip
    exact ⟨_, _, rfl, rfl, okv h s (.bl _)⟩
  | [], _, _ => revert h; cases d <;> exact fun h => h.elim
  | e :: _ :: _, _, _ => revert h; cases d <;> cases e <;> exact fun h => h.elim
theorem str_of_tl {a : Str} {l : List Nat} (h : TL.tl a = l) : a = ⟨l.toArray⟩ := TL.ext_tl (by rw [h])
theorem map_tl_mk (ys : List (List Nat)) : (ys.map fun z => (⟨z.toArray⟩ : Str)).map TL.tl = ys := by
  rw [List.map_map]
  exact List.map_id' ys
theorem map_len_mk (ys : List (List Nat)) : (ys.map fun z => (⟨z.toArray⟩ : Str)).map (·.length) = ys.map List.length := by
  rw [List.map_map]
  exact List.map_congr_left fun z _ => List.size_toArray
theorem om_join : OpM G X .join (fun x xs H Q => ∃ a p, ∃ ys : List Str, x = .str a ∧ xs = [.ref p] ∧ (SqL X.K H p (ys.map V.str) ∨ SqT X.K H p (ys.map V.str)) ∧
      (ys.map (·.length)).sum + ys.length * a.length ≤ 16777216 ∧ Q (.str (Txt.join a ys)) H) := by
  intro W ρ st H d ds x vs Q s rd rs h
  match ds, vs, rs with
  | [e], [u], .cons re .nil =>
    cases rd <;> first | exact h.elim | skip
    rename_i sep
    have h : Lf G X.K W ρ H (match itemsD st e with
      | some xs => match allStr xs with
        | some ys => if (ys.map List.length).sum + ys.length * sep.length ≤ SZ then .ok (.str (TL.joinL sep ys)) st else .bad
        | none => .bad
      | none => .bad) (Val1 X.K Q) := h
    cases e1 : itemsD st e with
    | none => rw [e1] at h; exact h.elim
    | some ys =>
      rw [e1] at h
      have h : Lf G X.K W ρ H (match allStr ys with
        | some ys => if (ys.map List.length).sum + ys.length * sep.length ≤ SZ then .ok (.str (TL.joinL sep ys)) st else .bad
        | none => .bad) (Val1 X.K Q) := h
      cases e2 : allStr ys with
      | none => rw [e2] at h; exact h.elim
      | some zs =>
        rw [e2] at h
        have h : Lf G X.K W ρ H (if (zs.map List.length).sum + zs.length * sep.length ≤ SZ then .ok (.str (TL.joinL sep zs)) st else .bad) (Val1 X.K Q) := h
        obtain ⟨hz, h⟩ := of_ite h
        obtain ⟨a', us, ea, sq, q⟩ := items_seq s re e1
        cases ea
        have hv := vals_str q e2
        subst hv
        refine ⟨_, a', zs.map fun z => ⟨z.toArray⟩, rfl, rfl, sq, ?_, ?_⟩
        · rw [map_len_mk, List.length_map]
          show _ + _ * sep.toArray.size ≤ _
          rw [List.size_toArray]
          exact hz
        · have e3 : Txt.join ⟨sep.toArray⟩ (zs.map fun z => ⟨z.toArray⟩) = ⟨(TL.joinL sep zs).toArray⟩ := by
            rw [TL.join_eq]
            refine str_of_tl ?_
            rw [TL.tl_join, map_tl_mk]
          rw [e3]
          exact okv h s (.str _)
  | [], _, _ => revert h; cases d <;> exact fun h => h.elim
  | e :: _ :: _, _, _ => revert h; cases d <;> exact fun h => h.elim
theorem rvs_strs {K : PySem.W.Frag} : ∀ zs : List (List Nat), Rvs K ρ H (zs.map D.str) ((zs.map fun z => (⟨z.toArray⟩ : Str)).map V.str)
  | [] => .nil
  | z :: zs => .cons (.str z) (rvs_strs zs)
theorem om_split : OpM G X .split (fun x xs H Q => ∃ a b, x = .str a ∧ xs = [.str b] ∧ (b.length == 0) = false ∧ a.length + 2 ≤ sizeLine ∧ rNewStrs (Txt.split a b) H Q) := by
  intro W ρ st H d ds x vs Q s rd rs h
  match ds, vs, rs with
  | [e], [u], .cons re .nil =>
    cases rd <;> first | exact h.elim | skip
    rename_i z
    cases re <;> first | exact h.elim | skip
    rename_i y
    match y, h with
    | [c], h =>
      have h : Lf G X.K W ρ H (if c < 256 ∧ z.length + 2 ≤ SZ then .ok (.loc st.length) (st ++ [.lst ((TL.spl [c] 0 [] z).map .str)]) else .bad) (Val1 X.K Q) := h
      obtain ⟨hz, h⟩ := of_ite h
      refine ⟨_, _, rfl, rfl, rfl, by show z.toArray.size + 2 ≤ _; rw [List.size_toArray, ← sz_eq]; exact hz.2, fun p hp => ?_⟩
      have e1 : Txt.split ⟨z.toArray⟩ ⟨[c].toArray⟩ = (TL.spl [c] 0 [] z).map fun w => (⟨w.toArray⟩ : Str) := by
        refine TL.map_tl_inj ?_
        rw [map_tl_mk, TL.split_spl _ _ (by show [c] ≠ []; simp) (TL.kind_ok (by show (#[c].all (· < 256)) = true; simpa using hz.1))]
      rw [e1]
      exact okl h s (rvs_strs _) hp
    | [], h => exact h.elim
    | _ :: _ :: _, h => exact h.elim
  | [], _, _ => revert h; cases d <;> exact fun h => h.elim
  | e :: _ :: _, _, _ =>
    cases d <;> first | exact h.elim | skip
    cases e with
    | str y => rcases y with _ | ⟨c, _ | ⟨_, _⟩⟩ <;> exact h.elim
    | _ => exact h.elim
theorem om_append : OpM G X .append rAppend := by
  intro W ρ st H d ds x vs Q s rd rs h
  match ds, vs, rs with
  | [e], [u], .cons re .nil =>
    cases rd <;> first | exact h.elim | skip
    rename_i l a b hl
    have h : Lf G X.K W ρ H (match st[l]? with
      | some (.lst xs) => if xs.length < SZ then .ok .non (st.set l (.lst (xs ++ [e]))) else .bad
      | _ => .bad) (Val1 X.K Q) := h
    split at h
    · rename_i xs hx
      obtain ⟨hz, h⟩ := of_ite h
      obtain ⟨hl, ys, h2, h3⟩ := s.lst hl hx
      refine ⟨a, ys, u, rfl, rfl, h2, by rw [← h3.length, ← sz_eq]; exact hz, ?_⟩
      have E : Ext X.K ρ ρ H (upd H a (.lst (ys ++ [u]))) := Ext.wr hl h2 trivial
      exact h ρ _ E (s.wr hl (O := .lst (xs ++ [e])) h2 trivial rfl ⟨_, upd_same, (h3.append (.cons re .nil)).ext E⟩) .non .non
    · exact h.elim
  | [], _, _ => revert h; cases d <;> exact fun h => h.elim
  | e :: _ :: _, _, _ => revert h; cases d <;> exact fun h => h.elim
theorem om_extend : OpM G X .extend rExtend := by
  intro W ρ st H d ds x vs Q s rd rs h
  match ds, vs, rs with
  | [e], [u], .cons re .nil =>
    cases rd <;> first | exact h.elim | skip
    rename_i l a b hl
    have h : Lf G X.K W ρ H (match st[l]? with
      | some (.lst xs) => match lst1 st e with
        | some ys => if xs.length + ys.length ≤ SZ then .ok .non (st.set l (.lst (xs ++ ys))) else .bad
        | none => .bad
      | _ => .bad) (Val1 X.K Q) := h
    split at h
    · rename_i xs hx
      split at h
      · rename_i ys hy
        obtain ⟨hz, h⟩ := of_ite h
        obtain ⟨hl, us, h2, h3⟩ := s.lst hl hx
        obtain ⟨b', ws, rfl, g2, g3⟩ := s.lst1 re hy
        refine ⟨a, b', us, ws, rfl, rfl, h2, g2, by rw [← h3.length, ← g3.length, ← sz_eq]; exact hz, ?_⟩
        have E : Ext X.K ρ ρ H (upd H a (.lst (us ++ ws))) := Ext.wr hl h2 trivial
        exact h ρ _ E (s.wr hl (O := .lst (xs ++ ys)) h2 trivial rfl ⟨_, upd_same, (h3.append g3).ext E⟩) .non .non
      · exact h.elim
    · exact h.elim
  | [], _, _ => revert h; cases d <;> exact fun h => h.elim
  | e :: _ :: _, _, _ => revert h; cases d <;> exact fun h => h.elim
theorem eqV_flat {e d : D} {x y : V} (rx : Rv X.K ρ H e x) (ry : Rv X.K ρ H d y) (hx : flatD e = true) (hy : flatD d = true) : eqV x y = eqD e d := by
  cases rx <;> first | (cases hx; done) | skip
  all_goals
    cases ry <;> first | (cases hy; done) | skip
  all_goals first | rfl | skip
  all_goals exact beq_arr _ _
theorem flatV_of {e : D} {x : V} (rx : Rv X.K ρ H e x) (hx : flatD e = true) : flatV x = true := by
  cases rx <;> first | rfl | (cases hx; done)
theorem flatVs_of : ∀ {xs : List D} {vs : List V}, Rvs X.K ρ H xs vs → xs.all flatD = true → vs.all flatV = true
  | [], _, .nil, _ => rfl
  | x :: xs, _, .cons r t, h => by
    rw [List.all_cons, Bool.and_eq_true] at h
    rw [List.all_cons, flatV_of r h.1, flatVs_of t h.2]; rfl
theorem om_index : OpM G X .index (rIndex X.K) := by
  intro W ρ st H d ds x vs Q s rd rs h
  match ds, vs, rs with
  | [e], [u], .cons re .nil =>
    have h : Lf G X.K W ρ H (match listD st d with
      | some xs => if (flatD e && xs.all flatD) = true then (match xs.findIdx? fun y => eqD y e with
        | some j => R.ok (.int (j : Int)) st
        | none => .bad) else .bad
      | none => .bad) (Val1 X.K Q) := h
    obtain ⟨xs, hx, h⟩ := of_match_items (xs := listD st d) (f := fun xs => if (flatD e && xs.all flatD) = true then (match xs.findIdx? fun y => eqD y e with
        | some j => R.ok (.int (j : Int)) st
        | none => .bad) else .bad) h
    obtain ⟨hf, h⟩ := of_ite h
    rw [Bool.and_eq_true] at hf
    cases hj : xs.findIdx? fun y => eqD y e with
    | none => rw [hj] at h; exact h.elim
    | some j =>
      rw [hj] at h
      obtain ⟨a, ys, rfl, sq, q⟩ := listD_seq s rd hx
      · obtain ⟨hjl, p1, p2⟩ := List.findIdx?_eq_some_iff_getElem.mp hj
        obtain ⟨z, hz, rz⟩ := q.get (List.getElem?_eq_getElem hjl)
        have fl : ∀ (m : Nat) (w : D), xs[m]? = some w → flatD w = true := fun m w hw => List.all_eq_true.mp hf.2 w (List.mem_of_getElem? hw)
        refine ⟨a, ys, u, j, z, rfl, rfl, sq, flatV_of re hf.1, flatVs_of q hf.2, hz, ?_, fun m z' hm hz' => ?_, okv h s (.int _)⟩
        · rw [eqV_flat rz re (fl j _ (List.getElem?_eq_getElem hjl)) hf.1]; exact p1
        · obtain ⟨w, hw, rw'⟩ := q.getV hz'
          rw [eqV_flat rw' re (fl m _ hw) hf.1]
          have := p2 m hm
          obtain ⟨hml, e1⟩ := List.getElem?_eq_some_iff.mp hw
          rw [e1] at this
          simpa using this
  | [], _, _ => revert h; exact fun h => h.elim
  | e :: _ :: _, _, _ => revert h; exact fun h => h.elim

/-! ## a call of a method -/
variable {F : FT} {W2 : WX}
theorem str_wrap (d : D) {K : PySem.W.Frag} {P : D → Store → Tk → Hp → Prop} (h : Lf G K W ρ H (opSem (.x .asStr) [d] st) P) : ∃ z, d = .str z ∧ Lf G K W ρ H (.ok (.str z) st) P := by
  cases d <;> first | exact h.elim | exact ⟨_, rfl, h⟩
theorem lst_wrap {K : PySem.W.Frag} (s : Rs G K ρ st H) (d : D) {x : V} (r : Rv K ρ H d x) {P : D → Store → Tk → Hp → Prop} (h : Lf G K W ρ H (opSem (.x .asLst) [d] st) P) : (∃ a xs, x = .ref a ∧ H a = some (.lst xs)) ∧ Lf G K W ρ H (.ok d st) P := by
  cases d <;> first | exact h.elim | skip
  · cases r with
    | flst t q => exact ⟨⟨_, _, rfl, t.2⟩, h⟩
  · rename_i l
    have h : Lf G K W ρ H (match st[l]? with | some (.lst _) => .ok (.loc l) st | _ => .bad) P := h
    split at h
    · rename_i xs hx
      cases r with
      | loc hl =>
        obtain ⟨_, us, h2, h3⟩ := s.lst hl hx
        exact ⟨⟨_, _, rfl, h2⟩, h⟩
    · exact h.elim
theorem tyV_wrap {K : PySem.W.Frag} {b : Bool} {d : D} {x : V} {P : D → Store → Tk → Hp → Prop} (s : Rs G K ρ st H) (r : Rv K ρ H d x) (h : Lf G K W ρ H (opSem (.x (if b then .asLst else .asStr)) [d] st) P) : tyV K (if b then "list" else "str") x H ∧ P d st ρ H := by
  cases b with
  | false =>
    obtain ⟨z, rfl, h⟩ := str_wrap d h
    cases r
    exact ⟨rfl, h.ok s⟩
  | true =>
    obtain ⟨⟨a, xs, rfl, h2⟩, h⟩ := lst_wrap s d r h
    exact ⟨.inl ⟨rfl, xs, .inl (.inl h2)⟩, h.ok s⟩
theorem evs_head (a : Ex) (es : List Ex) (env : Env) (st : Store) : evs F (a :: es) env st = (ev F a env st).bind fun d st1 => (evs F es env st1).bind fun ds st2 => .ok (d :: ds) st2 := rfl
theorem meth_ok {m : Mt} {r : V → List V → Hp → VK → Prop} {b : Bool} (hm : OpM G X m r) (o : Ex) (ms : List Ex) (σ : L2.St) (H : Hp) (Q : VK) (h : tE G X.K W2 (ev F (.op (.x (.meth m)) (.op (.x (if b then .asLst else .asStr)) [o] :: ms))) σ H Q) :
    tBM X.K (if b then "list" else "str") r (tE G X.K W2 (ev F o)) (tA G X.K W2 (evs F ms)) σ H Q := by
  obtain ⟨ρ, env, st, rel, q⟩ := h
  have q : Lf G X.K (fun c d H' => W2 c d σ H') ρ H ((((((ev F o env st).bind fun d st1 => R.ok [d] st1).bind fun ds st1 => opSem (.x (if b then .asLst else .asStr)) ds st1)).bind fun d st1 => (evs F ms env st1).bind fun ds st2 => .ok (d :: ds) st2).bind fun ds st1 => opSem (.x (.meth m)) ds st1) (fun d _ ρ' H' => ∀ v, Rv X.K ρ' H' d v → Q v H') := q
  refine ⟨ρ, env, st, rel, q.bind.bind.bind.bind.imp fun d st1 ρ1 H1 e1 s1 q1 x rx => ?_⟩
  obtain ⟨t, q2⟩ := tyV_wrap s1 rx (q1.ok s1)
  refine ⟨t, ρ1, env, st1, ⟨s1, rel.e.ext e1⟩, q2.bind.imp fun ds st2 ρ2 H2 e2 s2 q3 vs rvs => ?_⟩
  exact hm _ ρ2 st2 H2 d ds x vs Q s2 (rx.ext e2) rvs (q3.ok s2)
theorem meth0_ok {m : Mt} {r : V → List V → Hp → VK → Prop} {b : Bool} (hm : OpM G X m r) (o : Ex) (σ : L2.St) (H : Hp) (Q : VK) (h : tE G X.K W2 (ev F (.op (.x (.meth m)) [.op (.x (if b then .asLst else .asStr)) [o]])) σ H Q) :
    tBM0 X.K (if b then "list" else "str") r (tE G X.K W2 (ev F o)) σ H Q := by
  have h := meth_ok hm o [] σ H Q h
  obtain ⟨ρ, env, st, rel, q⟩ := h
  refine ⟨ρ, env, st, rel, q.imp fun d st1 ρ1 H1 e1 s1 q1 x rx => ?_⟩
  obtain ⟨t, ρ2, env2, st2, rel2, q2⟩ := q1 x rx
  exact ⟨t, q2.ok rel2.s [] .nil⟩
/-! ## a op b op' c -/
theorem chain_ok {r r' : R2} {o p : Op} (hd : OpD G X o r) (hp : OpD G X p r') (a b c : Ex) (σ : L2.St) (H : Hp) (Q : VK) (h : tE G X.K W2 (ev F (.chain o p a b c)) σ H Q) :
    tChain r r' (tE G X.K W2 (ev F a)) (tE G X.K W2 (ev F b)) (tE G X.K W2 (ev F c)) σ H Q := by
  obtain ⟨ρ, env, st, rel, q⟩ := h
  have q : Lf G X.K (fun c d H' => W2 c d σ H') ρ H ((ev F a env st).bind fun x st1 => (ev F b env st1).bind fun y st2 => (opSem o [x, y] st2).bind fun z st3 => match z with
    | .bl true => (ev F c env st3).bind fun u st4 => opSem p [y, u] st4
    | .bl false => .ok (.bl false) st3
    | _ => .bad) (fun d _ ρ' H' => ∀ v, Rv X.K ρ' H' d v → Q v H') := q
  refine ⟨ρ, env, st, rel, q.bind.imp fun d st1 ρ1 H1 e1 s1 q1 x rx => ?_⟩
  refine ⟨ρ1, env, st1, ⟨s1, rel.e.ext e1⟩, q1.bind.imp fun e st2 ρ2 H2 e2 s2 q2 y ry => ?_⟩
  refine hd _ ρ2 st2 H2 d e x y _ s2 (rx.ext e2) ry (q2.bind.imp fun z st3 ρ3 H3 e3 s3 q3 v rv => ?_)
  cases z <;> first | exact q3.elim | skip
  rename_i k
  cases rv
  refine ⟨k, rfl, ?_⟩
  cases k with
  | true =>
    rw [if_pos rfl]
    have q3 : Lf G X.K (fun c d H' => W2 c d σ H') ρ3 H3 ((ev F c env st3).bind fun u st4 => opSem p [e, u] st4) (fun d _ ρ' H' => ∀ v, Rv X.K ρ' H' d v → Q v H') := q3
    refine ⟨ρ3, env, st3, ⟨s3, (rel.e.ext e1).ext (e2.trans e3)⟩, q3.bind.imp fun u st4 ρ4 H4 e4 s4 q4 w rw' => ?_⟩
    exact hp _ ρ4 st4 H4 e u y w Q s4 (ry.ext (e3.trans e4)) rw' q4
  | false =>
    rw [if_neg Bool.false_ne_true]
    exact okv q3 s3 (.bl _)
end
end Z

set_option autoImplicit false
set_option maxHeartbeats 1000000
namespace Z
open PySem PySem.Spec PyProof.Rows L2

/-! ## what is gone over -/
structure Walk (G : GC) (K : PySem.W.Frag) (S : Src) (J : L2.It) (ρ0 : Tk) (H0 : Hp) : Prop where
  go : ∀ (i : Nat) (ρ : Tk) (st : Store) (H : Hp), Ext K ρ0 ρ H0 H → Rs G K ρ st H → S.same st = true → i < S.items.length → J.go i H
  stop : ∀ (i : Nat) (ρ : Tk) (st : Store) (H : Hp), Ext K ρ0 ρ H0 H → Rs G K ρ st H → S.same st = true → S.items.length ≤ i → J.stop i H
  yld : ∀ (i : Nat) (ρ : Tk) (st : Store) (H : Hp) (x : V) (H' : Hp), Ext K ρ0 ρ H0 H → Rs G K ρ st H → S.same st = true → i < S.items.length → J.yld i H x H' →
    ∃ d, S.items[i]? = some d ∧ Ext K ρ ρ H H' ∧ Rs G K ρ st H' ∧ Rv K ρ H' d x
def tI (G : GC) (K : PySem.W.Frag) (W : WX) (k : Ik) (r : Env → Store → R (List D)) : TI := fun σ H R => ∃ ρ env st, Rel G K ρ env st σ H ∧ Lf G K (fun c d H' => W c d σ H') ρ H (r env st) fun ds st1 ρ1 H1 => ∃ S, srcOf k ds st1 = some S ∧ ∀ J, Walk G K S J ρ1 H1 → R J H1

mutual
theorem beqD_eq : ∀ {a b : D}, beqD a b = true → a = b
  | .non, b, h => by cases b <;> first | rfl | cases h
  | .bl x, b, h => by
    cases b <;> first | (cases h; done) | skip
    case bl y => rw [show x = y from by simpa [beqD] using h]
  | .int x, b, h => by
    cases b <;> first | (cases h; done) | skip
    case int y => rw [show x = y from by simpa [beqD] using h]
  | .str x, b, h => by
    cases b <;> first | (cases h; done) | skip
    case str y => rw [show x = y from by simpa [beqD] using h]
  | .tup x, b, h => by
    cases b <;> first | (cases h; done) | skip
    case tup y => rw [beqDs_eq (a := x) (b := y) h]
  | .flst x, b, h => by
    cases b <;> first | (cases h; done) | skip
    case flst y => rw [beqDs_eq (a := x) (b := y) h]
  | .loc x, b, h => by
    cases b <;> first | (cases h; done) | skip
    case loc y => rw [show x = y from by simpa [beqD] using h]
  | .slst x, b, h => by
    cases b <;> first | (cases h; done) | skip
    case slst y => rw [beqDs_eq (a := x) (b := y) h]
  | .fset x, b, h => by
    cases b <;> first | (cases h; done) | skip
    case fset y => rw [beqDs_eq (a := x) (b := y) h]
  | .fn x, b, h => by
    cases b <;> first | (cases h; done) | skip
    case fn y => rw [show x = y from by simpa [beqD] using h]
  | .fdct x x2, b, h => by
    cases b <;> first | (cases h; done) | skip
    case fdct y y2 =>
      have h : (beqDs x y && beqDs x2 y2) = true := h
      rw [Bool.and_eq_true] at h
      rw [beqDs_eq h.1, beqDs_eq h.2]
  | .fins c n x, b, h => by
    cases b <;> first | (cases h; done) | skip
    case fins d m y =>
      have h : (c == d && n == m && beqDs x y) = true := h
      rw [Bool.and_eq_true, Bool.and_eq_true] at h
      rw [beqDs_eq h.2, show c = d from by simpa using h.1.1, show n = m from by simpa using h.1.2]
theorem beqDs_eq : ∀ {a b : List D}, beqDs a b = true → a = b
  | [], [], _ => rfl
  | [], _ :: _, h => by cases h
  | _ :: _, [], h => by cases h
  | x :: xs, y :: ys, h => by
    have h : (beqD x y && beqDs xs ys) = true := h
    rw [Bool.and_eq_true] at h
    rw [beqD_eq h.1, beqDs_eq h.2]
end
mutual
theorem beqD_refl : ∀ a : D, beqD a a = true
  | .non => rfl
  | .bl x => by show (x == x) = true; exact beq_self_eq_true _
  | .int x => by show (x == x) = true; exact beq_self_eq_true _
  | .str x => by show (x == x) = true; exact beq_self_eq_true _
  | .tup x => beqDs_refl x
  | .flst x => beqDs_refl x
  | .loc x => by show (x == x) = true; exact beq_self_eq_true _
  | .slst x => beqDs_refl x
  | .fset x => beqDs_refl x
  | .fn x => by show (x == x) = true; exact beq_self_eq_true _
  | .fdct x y => by show (beqDs x x && beqDs y y) = true; rw [beqDs_refl x, beqDs_refl y]; rfl
  | .fins c n x => by show (c == c && n == n && beqDs x x) = true; rw [beqDs_refl x, beq_self_eq_true, beq_self_eq_true]; rfl
theorem beqDs_refl : ∀ a : List D, beqDs a a = true
  | [] => rfl
  | x :: xs => by show (beqD x x && beqDs xs xs) = true; rw [beqD_refl x, beqDs_refl xs]; rfl
end
theorem lstIs_eq {l : Nat} {xs : List D} {st : Store} (h : lstIs l xs st = true) : st[l]? = some (.lst xs) := by
  unfold lstIs at h
  split at h
  · rename_i ys hy
    rw [hy, beqDs_eq h]
  · cases h
theorem lstIs_refl {l : Nat} {xs : List D} {st : Store} (h : st[l]? = some (.lst xs)) : lstIs l xs st = true := by
  unfold lstIs
  rw [h]
  exact beqDs_refl xs

section
variable {G : GC} {K : PySem.W.Frag} {ρ0 : Tk} {H0 : Hp}
theorem walk_seqL {xs : List D} {a : Addr} {same : Store → Bool} (h : ∀ (ρ : Tk) (st : Store) (H : Hp), Ext K ρ0 ρ H0 H → Rs G K ρ st H → same st = true → ∃ vs, SqL K H a vs ∧ Rvs K ρ H xs vs) : Walk G K ⟨xs, same⟩ (Itl K a) ρ0 H0 := by
  refine ⟨fun i ρ st H e s m hi => ?_, fun i ρ st H e s m hi => ?_, fun i ρ st H x H' e s m hi y => ?_⟩
  · obtain ⟨vs, sq, q⟩ := h ρ st H e s m
    obtain ⟨v, hv, _⟩ := q.get (List.getElem?_eq_getElem hi)
    exact ⟨vs, v, sq, hv⟩
  · obtain ⟨vs, sq, q⟩ := h ρ st H e s m
    exact ⟨vs, sq, by rw [← q.length]; exact hi⟩
  · obtain ⟨vs, sq, q⟩ := h ρ st H e s m
    obtain ⟨rfl, f⟩ := y
    obtain ⟨d, hd, r⟩ := q.getV (f vs sq)
    exact ⟨d, hd, Ext.refl, s, r⟩
theorem walk_seqT {xs : List D} {vs : List V} {a : Addr} {same : Store → Bool} (sq : SqT K H0 a vs) (q : Rvs K ρ0 H0 xs vs) : Walk G K ⟨xs, same⟩ (Itt K a) ρ0 H0 := by
  refine ⟨fun i ρ st H e s m hi => ?_, fun i ρ st H e s m hi => ?_, fun i ρ st H x H' e s m hi y => ?_⟩
  · obtain ⟨v, hv, _⟩ := (q.ext e).get (List.getElem?_eq_getElem hi)
    exact ⟨vs, v, e.tup _ _ sq, hv⟩
  · exact ⟨vs, e.tup _ _ sq, by rw [← q.length]; exact hi⟩
  · obtain ⟨rfl, f⟩ := y
    obtain ⟨d, hd, r⟩ := (q.ext e).getV (f vs (e.tup _ _ sq))
    exact ⟨d, hd, Ext.refl, s, r⟩
theorem walk_str {z : List Nat} {same : Store → Bool} : Walk G K ⟨z.map fun c => .str [c], same⟩ (Its ⟨z.toArray⟩) ρ0 H0 := by
  have hl : (⟨z.toArray⟩ : Str).cps.size = z.length := List.size_toArray
  refine ⟨fun i ρ st H e s m hi => ?_, fun i ρ st H e s m hi => ?_, fun i ρ st H x H' e s m hi y => ?_⟩
  · have hi : i < (z.map fun c => D.str [c]).length := hi
    rw [List.length_map] at hi
    show i < (⟨z.toArray⟩ : Str).cps.size
    rw [hl]; exact hi
  · have hi : (z.map fun c => D.str [c]).length ≤ i := hi
    rw [List.length_map] at hi
    show (⟨z.toArray⟩ : Str).cps.size ≤ i
    rw [hl]; exact hi
  · obtain ⟨rfl, ch, hc, rfl⟩ := y
    refine ⟨.str [ch], ?_, Ext.refl, s, .str [ch]⟩
    show (z.map fun c => D.str [c])[i]? = _
    have hc : z.toArray[i]? = some ch := hc
    rw [List.getElem?_toArray] at hc
    rw [List.getElem?_map, hc]
    rfl
theorem walk_range {lo : Int} {n : Nat} {same : Store → Bool} : Walk G K ⟨rangeD lo n, same⟩ (Itr lo n) ρ0 H0 := by
  have hl : (rangeD lo n).length = n := by unfold rangeD; rw [List.length_map, List.length_range]
  refine ⟨fun i ρ st H e s m hi => ?_, fun i ρ st H e s m hi => ?_, fun i ρ st H x H' e s m hi y => ?_⟩
  · have hi : i < (rangeD lo n).length := hi
    rw [hl] at hi; exact hi
  · have hi : (rangeD lo n).length ≤ i := hi
    rw [hl] at hi; exact hi
  · obtain ⟨rfl, rfl⟩ := y
    have hi : i < (rangeD lo n).length := hi
    rw [hl] at hi
    refine ⟨.int (lo + i), ?_, Ext.refl, s, .int _⟩
    show (rangeD lo n)[i]? = _
    unfold rangeD
    rw [List.getElem?_map, List.getElem?_range hi]
    rfl
end

section
variable {G : GC} {P : List Fd} {k : Nat} {X : Cx} {c : Cc} {W : WX} {F : FT}
theorem PI.imp {tg e : Expr} {t t' : TI} (h : PI X tg e t) (f : ∀ σ H Q, t' σ H Q → t σ H Q) : PI X tg e t' := ⟨fun pins s σ H Q I q => h.run pins s σ H Q I (f σ H Q q)⟩
theorem PI.or {tg e : Expr} {t t' : TI} (h : PI X tg e t) (h' : PI X tg e t') : PI X tg e fun σ H Q => t σ H Q ∨ t' σ H Q := ⟨fun pins s σ H Q I q => q.elim (h.run pins s σ H Q I) (h'.run pins s σ H Q I)⟩
theorem pi_seq {tg e : Expr} {a : Ex} (h : PE X e (tE G X.K W (ev F a))) : PI X tg e (tI G X.K W .seq (evs F [a])) := by
  refine PI.imp (PI.or (PI.or (pi_list h) (pi_tup h)) (pi_str h)) fun σ H Q ⟨ρ, env, st, rel, q⟩ => ?_
  have q : Lf G X.K (fun c d H' => W c d σ H') ρ H ((ev F a env st).bind fun d st1 => R.ok [d] st1) _ := q
  cases hr : ev F a env st with
  | bad => rw [hr] at q; exact q.elim
  | exc c p st' =>
    rw [hr] at q
    refine .inl (.inl ⟨ρ, env, st, rel, ?_⟩)
    rw [hr]
    exact q
  | ok d st1 =>
    rw [hr] at q
    have q : ∀ ρ' H', Ext X.K ρ ρ' H H' → Rs G X.K ρ' st1 H' → ∃ S, srcOf .seq [d] st1 = some S ∧ ∀ J, Walk G X.K S J ρ' H' → Q J H' := q
    cases d with
    | tup xs =>
      refine .inl (.inr ⟨ρ, env, st, rel, ?_⟩)
      rw [hr]
      intro ρ' H' e s v rv
      obtain ⟨S, hS, f⟩ := q ρ' H' e s
      cases hS
      cases rv with
      | tup t r => exact ⟨_, rfl, ⟨_, t⟩, f _ (walk_seqT t r)⟩
    | flst xs =>
      refine .inl (.inl ⟨ρ, env, st, rel, ?_⟩)
      rw [hr]
      intro ρ' H' e s v rv
      obtain ⟨S, hS, f⟩ := q ρ' H' e s
      cases hS
      cases rv with
      | flst t r => exact ⟨_, rfl, ⟨_, t.sq⟩, f _ (walk_seqL fun ρ2 st2 H2 e2 s2 _ => ⟨_, (t.ext e2).sq, r.ext e2⟩)⟩
    | slst xs =>
      refine .inl (.inl ⟨ρ, env, st, rel, ?_⟩)
      rw [hr]
      intro ρ' H' e s v rv
      obtain ⟨S, hS, f⟩ := q ρ' H' e s
      cases hS
      cases rv with
      | slst t r => exact ⟨_, rfl, ⟨_, t.sq⟩, f _ (walk_seqL fun ρ2 st2 H2 e2 s2 _ => ⟨_, (t.ext e2).sq, r.ext e2⟩)⟩
    | loc l =>
      refine .inl (.inl ⟨ρ, env, st, rel, ?_⟩)
      rw [hr]
      intro ρ' H' e s v rv
      obtain ⟨S, hS, f⟩ := q ρ' H' e s
      have hS : (match st1[l]? with | some (.lst xs) => some (Src.mk xs (lstIs l xs)) | _ => none) = some S := hS
      split at hS
      · rename_i xs hx
        cases hS
        cases rv with
        | loc hl =>
          obtain ⟨_, vs, h2, h3⟩ := s.lst hl hx
          refine ⟨_, rfl, ⟨vs, .inl (.inl h2)⟩, f _ (walk_seqL fun ρ2 st2 H2 e2 s2 m => ?_)⟩
          obtain ⟨_, ws, g2, g3⟩ := s2.lst (pre_get e2.pre hl) (lstIs_eq m)
          exact ⟨ws, .inl (.inl g2), g3⟩
      · cases hS
    | str z =>
      refine .inr ⟨ρ, env, st, rel, ?_⟩
      rw [hr]
      intro ρ' H' e s v rv
      obtain ⟨S, hS, f⟩ := q ρ' H' e s
      cases hS
      cases rv with
      | str _ => exact ⟨_, rfl, f _ walk_str⟩
    | _ =>
      refine .inl (.inl ⟨ρ, env, st, rel, ?_⟩)
      rw [hr]
      intro ρ' H' e s v rv
      obtain ⟨S, hS, f⟩ := q ρ' H' e s
      cases hS
theorem pi_rng1 {tg a : Expr} {m : Ex} {p pos : Pos} (hg : Gl X "range") (hm : X.mg "range" = none) (hp : plain a = true) (h : PA X [a] (tA G X.K W (evs F [m]))) : PI X tg (.Call (.Name "range" p) [a] [] pos) (tI G X.K W .range1 (evs F [m])) := by
  refine PI.imp (pi_range1 hg hm h (star_plain hp)) fun σ H Q ⟨ρ, env, st, rel, q⟩ => ⟨ρ, env, st, rel, q.imp fun ds st1 ρ1 H1 e1 s1 q1 vs rvs => ?_⟩
  obtain ⟨S, hS, f⟩ := q1
  have hds : ∃ j, ds = [.int j] := by
    match ds with
    | [d] =>
      have hS : rng1Src d = some S := hS
      cases d <;> first | (cases hS; done) | skip
      exact ⟨_, rfl⟩
    | [] => cases hS
    | _ :: _ :: _ => cases hS
  obtain ⟨j, rfl⟩ := hds
  obtain ⟨u, rfl, r1⟩ := rvs.one
  cases r1
  have hS : (if in62 j = true then some (Src.mk (rangeD 0 j.toNat) fun _ => true) else none) = some S := hS
  split at hS
  · rename_i hj
    cases hS
    unfold in62 at hj
    simp only [Bool.and_eq_true, decide_eq_true_eq] at hj
    exact ⟨j, rfl, hj.1, hj.2, f _ walk_range⟩
  · cases hS
theorem pi_rng2 {tg a b : Expr} {ma mb : Ex} {p pos : Pos} (hg : Gl X "range") (hm : X.mg "range" = none) (hp : plain a = true) (hp2 : plain b = true) (h : PA X [a, b] (tA G X.K W (evs F [ma, mb]))) : PI X tg (.Call (.Name "range" p) [a, b] [] pos) (tI G X.K W .range2 (evs F [ma, mb])) := by
  refine PI.imp (pi_range2 hg hm h (by rw [star_plain hp, star_plain hp2]; rfl) (by rw [star_plain hp2]; rfl)) fun σ H Q ⟨ρ, env, st, rel, q⟩ => ⟨ρ, env, st, rel, q.imp fun ds st1 ρ1 H1 e1 s1 q1 vs rvs => ?_⟩
  obtain ⟨S, hS, f⟩ := q1
  have hds : ∃ i j, ds = [.int i, .int j] := by
    match ds with
    | [d, e] =>
      have hS : rngSrc d e = some S := hS
      cases d <;> first | (cases hS; done) | skip
      cases e <;> first | (cases hS; done) | skip
      exact ⟨_, _, rfl⟩
    | [] => cases hS
    | [_] => cases hS
    | _ :: _ :: _ :: _ => cases hS
  obtain ⟨i, j, rfl⟩ := hds
  obtain ⟨u, v, rfl, r1, r2⟩ := rvs.two
  cases r1; cases r2
  have hS : (if (in62 i && in62 j) = true then some (Src.mk (rangeD i (j - i).toNat) fun _ => true) else none) = some S := hS
  split at hS
  · rename_i hj
    cases hS
    unfold in62 at hj
    simp only [Bool.and_eq_true, decide_eq_true_eq] at hj
    exact ⟨i, j, rfl, ⟨hj.1.1, hj.1.2, hj.2.1, hj.2.2⟩, f _ walk_range⟩
  · cases hS
end
end Z

set_option autoImplicit false
set_option maxHeartbeats 1000000
namespace Z
open PySem PySem.Spec PyProof.Rows L2

/-! ## targets -/
def tG (G : GC) (K : PySem.W.Frag) (t : Tg) : TG := fun v σ H Q => ∃ ρ env d env', Re K ρ H env σ ∧ Rv K ρ H d v ∧ setT t d env = some env' ∧
  ∀ σ', Re K ρ H env' σ' → (∀ j, j ∉ slotsT t → σ'[j]? = σ[j]?) → Q σ' H
def tGs (G : GC) (K : PySem.W.Frag) (ts : List Tg) : TGs := fun vs σ H Q => ∃ ρ env ds env', Re K ρ H env σ ∧ Rvs K ρ H ds vs ∧ setTs ts ds env = some env' ∧
  ∀ σ', Re K ρ H env' σ' → (∀ j, j ∉ slotsTs ts → σ'[j]? = σ[j]?) → Q σ' H
theorem PG.imp {X : Cx} {e : Expr} {t t' : TG} (h : PG X e t) (f : ∀ v σ H Q, t' v σ H Q → t v σ H Q) : PG X e t' := ⟨fun pins s σ H v u Q I r q => h.run pins s σ H v u Q I r (f _ σ H Q q)⟩
theorem PGs.imp {X : Cx} {e : List Expr} {t t' : TGs} (h : PGs X e t) (f : ∀ v σ H Q, t' v σ H Q → t v σ H Q) : PGs X e t' := ⟨fun pins s σ H v u Q I r q => h.run pins s σ H v u Q I r (f _ σ H Q q)⟩

theorem each_len {es : List Expr} {env : PySem.Env} : (assignEach es env).length = es.length := by
  induction es with
  | nil => rfl
  | cons e es ih => cases e <;> (show (assignEach es env).length + 1 = es.length + 1; rw [ih])
theorem each_cons {e : Expr} {es : List Expr} {env : PySem.Env} (h : plain e = true) : assignEach (e :: es) env = (false, assign e env) :: assignEach es env := by
  cases e <;> first | rfl | (cases h)
theorem each_star {es : List Expr} {env : PySem.Env} (h : es.all plain = true) : (assignEach es env).findIdx? (·.1) = none := by
  induction es with
  | nil => rfl
  | cons e es ih =>
    rw [List.all_cons, Bool.and_eq_true] at h
    rw [each_cons h.1, List.findIdx?_cons, ih h.2]
    rfl
theorem trTg_ok {G : GC} {P : List Fd} {k : Nat} : ∀ (n : Nat), (∀ (X : Cx) (c : Cc) (e : Expr) (t : Tg), XG G P k X c → trTg c n e = some t → PG X e (tG G X.K t)) ∧
    (∀ (X : Cx) (c : Cc) (es : List Expr) (ts : List Tg), XG G P k X c → es.all plain = true → trTgs c n es = some ts → PGs X es (tGs G X.K ts) ∧ ts.length = es.length)
  | 0 => ⟨fun X c e t g h => (by cases h), fun X c es ts g hp h => (by cases h)⟩
  | n + 1 => by
    obtain ⟨ih1, ih2⟩ := trTg_ok (G := G) (P := P) (k := k) n
    refine ⟨fun X c e t g h => ?_, fun X c es ts g hp h => ?_⟩
    · unfold trTg at h
      split at h
      · rename_i x pos
        split at h
        · rename_i hx
          rw [Bool.and_eq_true] at hx
          cases hs : slotOf c.N x with
          | none => rw [hs] at h; cases h
          | some i =>
            rw [hs] at h; cases h
            refine PG.imp (pg_name (i := i) g.nd (by rw [g.N]; exact slotOf_get hs) (sto_loc g hx.1) (sto_fn g hx.1)) fun v σ H Q ⟨ρ, env, d, env', re, rv, he, q⟩ => ?_
            cases he
            refine q _ (re.set rv) fun j hj => ?_
            have hj : i ≠ j := fun z => hj (by rw [z]; exact List.mem_cons_self)
            exact List.getElem?_set_ne hj
        · cases h
      · rename_i es kk pos
        split at h
        · rename_i hp
          rw [Bool.and_eq_true, Bool.not_eq_true'] at hp
          obtain ⟨hh, hp⟩ := hp
          cases hs : trTgs c n es with
          | none => rw [hs] at h; cases h
          | some ts =>
            rw [hs] at h; cases h
            obtain ⟨p1, p2⟩ := ih2 X c es ts g hp hs
            refine PG.imp (pg_tup (n := es.length) (g.calm hh) p1 each_len (each_star hp)) fun v σ H Q ⟨ρ, env, d, env', re, rv, he, q⟩ => ?_
            cases rv with
            | @tup a vs ds t r =>
              have he : setTs ts ds env = some env' := he
              refine ⟨a, vs, rfl, t, ?_, ρ, env, ds, env', re, r, he, q⟩
              have : ∀ (ts : List Tg) (ds : List D) (env env' : Env), setTs ts ds env = some env' → ts.length = ds.length := by
                intro ts
                induction ts with
                | nil => intro ds env env' h; cases ds with
                  | nil => rfl
                  | cons => cases h
                | cons t ts ih => intro ds env env' h; cases ds with
                  | nil => cases h
                  | cons d ds =>
                    rw [setTs] at h
                    cases q : setT t d env with
                    | none => rw [q] at h; cases h
                    | some e2 => rw [q] at h; rw [List.length_cons, List.length_cons, ih _ _ _ h]
              rw [← r.length, ← this ts ds env env' he, p2]
            | _ => cases he
        · cases h
      · cases h
    · unfold trTgs at h
      split at h
      · cases h
        refine ⟨PGs.imp pgs_nil fun v σ H Q ⟨ρ, env, d, env', re, rv, he, q⟩ => ?_, rfl⟩
        cases d with
        | nil => cases rv; cases he; exact ⟨rfl, q σ re fun _ _ => rfl⟩
        | cons => cases he
      · rename_i e r
        rw [List.all_cons, Bool.and_eq_true] at hp
        cases hs : trTg c n e with
        | none => rw [hs] at h; cases h
        | some t =>
          cases hs2 : trTgs c n r with
          | none => rw [hs, hs2] at h; cases h
          | some ts =>
            rw [hs, hs2] at h; cases h
            obtain ⟨p1, p2⟩ := ih2 X c r ts g hp.2 hs2
            refine ⟨PGs.imp (pgs_cons (ih1 X c e t g hs) p1 (by rw [each_cons hp.1]; rfl)) fun v σ H Q ⟨ρ, env, d, env', re, rv, he, q⟩ => ?_, by rw [List.length_cons, List.length_cons, p2]⟩
            cases d with
            | nil => cases he
            | cons d ds =>
              rw [setTs] at he
              cases q1 : setT t d env with
              | none => rw [q1] at he; cases he
              | some env1 =>
                rw [q1] at he
                cases rv with
                | @cons _ _ v vs r1 r2 =>
                  refine ⟨v, vs, rfl, ρ, env, d, env1, re, r1, q1, fun σ1 re1 k1 => ⟨ρ, env1, ds, env', re1, r2, he, fun σ2 re2 k2 => q σ2 re2 fun j hj => ?_⟩⟩
                  have hj1 : j ∉ slotsT t := fun z => hj (List.mem_append_left _ z)
                  have hj2 : j ∉ slotsTs ts := fun z => hj (List.mem_append_right _ z)
                  rw [k2 j hj2, k1 j hj1]

mutual
theorem setT_len : ∀ {t : Tg} {d : D} {env env' : Env}, setT t d env = some env' → env'.length = env.length
  | .nm i, d, env, env', h => by cases h; exact List.length_set
  | .tup ts, d, env, env', h => by
    cases d with
    | tup xs => exact setTs_len (ts := ts) (ds := xs) h
    | _ => cases h
theorem setTs_len : ∀ {ts : List Tg} {ds : List D} {env env' : Env}, setTs ts ds env = some env' → env'.length = env.length
  | [], [], _, _, h => by cases h; rfl
  | [], _ :: _, _, _, h => by cases h
  | _ :: _, [], _, _, h => by cases h
  | t :: ts, d :: ds, env, env', h => by
    rw [setTs] at h
    cases q : setT t d env with
    | none => rw [q] at h; cases h
    | some e2 =>
      rw [q] at h
      rw [setTs_len h, setT_len q]
end
/-! ## comprehensions -/
theorem wipe_at {σ : L2.St} {i : Nat} : ∀ {vs : List Nat}, i ∈ vs → i < σ.length → (wipe σ vs)[i]? = some none
  | [], h, _ => by cases h
  | v :: vs, h, hi => by
    show ((wipe σ vs).set v none)[i]? = _
    by_cases e : v = i
    · subst e
      rw [List.getElem?_set_self (by rw [wipe_length]; exact hi)]
    · rw [List.getElem?_set_ne e]
      rcases List.mem_cons.mp h with z | z
      · exact absurd z.symm e
      · exact wipe_at z hi
theorem wipe_ext {σ τ : L2.St} {vs : List Nat} (hl : σ.length = τ.length) (h : ∀ j, j ∉ vs → σ[j]? = τ[j]?) : wipe σ vs = wipe τ vs := by
  apply List.ext_getElem?
  intro i
  by_cases hi : i ∈ vs
  · by_cases hlt : i < σ.length
    · rw [wipe_at hi hlt, wipe_at hi (by rw [← hl]; exact hlt)]
    · rw [List.getElem?_eq_none (by rw [wipe_length]; omega), List.getElem?_eq_none (by rw [wipe_length]; omega)]
  · rw [wipe_out hi, wipe_out hi]; exact h i hi
theorem wipe_wipe (σ : L2.St) (vs : List Nat) : wipe (wipe σ vs) vs = wipe σ vs := wipe_ext (wipe_length σ vs) fun j hj => wipe_out hj
section
variable {G : GC} {K : PySem.W.Frag} {ρ : Tk} {H : Hp} {env : Env} {σ : L2.St}
theorem Re.wipe (h : Re K ρ H env σ) : ∀ vs : List Nat, Re K ρ H (wipeE vs env) (wipe σ vs)
  | [] => h
  | v :: vs => by
    have ih := Re.wipe h vs
    refine ⟨by show ((L2.wipe σ vs).set v none).length = ((wipeE vs env).set v none).length; rw [List.length_set, List.length_set]; exact ih.len, fun i d e => ?_⟩
    have e : ((wipeE vs env).set v none)[i]? = some (some d) := e
    by_cases q : v = i
    · subst q
      rw [List.getElem?_set] at e
      rw [if_pos rfl] at e
      split at e <;> cases e
    · rw [List.getElem?_set_ne q] at e
      obtain ⟨x, a, b⟩ := ih.at_ i d e
      refine ⟨x, ?_, b⟩
      show ((L2.wipe σ vs).set v none)[i]? = _
      rw [List.getElem?_set_ne q]
      exact a
end
abbrev W0 : WX := fun _ _ _ _ => False
def tTs (G : GC) (K : PySem.W.Frag) (F : FT) : List Ex → TT
  | [] => tYes
  | [e] => tT G K W0 (ev F e)
  | _ => fun _ _ _ => False
theorem evTests_one {F : FT} {e : Ex} {env : Env} {st st' : Store} {b : Bool} (h : evTests F [e] env st = .ok b st') : ∃ d, ev F e env st = .ok d st' ∧ truth st' d = some b := by
  have h : (ev F e env st).bind (fun x st1 => match truth st1 x with | some true => R.ok true st1 | some false => .ok false st1 | none => .bad) = .ok b st' := h
  cases hr : ev F e env st with
  | ok d st1 =>
    rw [hr] at h
    have h : (match truth st1 d with | some true => R.ok true st1 | some false => .ok false st1 | none => .bad) = R.ok b st' := h
    split at h
    · cases h; exact ⟨d, rfl, by assumption⟩
    · cases h; exact ⟨d, rfl, by assumption⟩
    · cases h
  | exc => rw [hr] at h; cases h
  | bad => rw [hr] at h; cases h
section
variable {G : GC} {K : PySem.W.Frag} {W : WX} {F : FT}
theorem lc_ok {own : List Nat} {t : Tg} {kk : Ik} {src ifs : List Ex} {elt : Ex} (hs : ∀ j ∈ slotsT t, j ∈ own) (hif : ifs.length ≤ 1) (σ : L2.St) (H : Hp) (Q : VK)
    (h : tE G K W (ev F (.comp own t kk src ifs elt)) σ H Q) : tLc (tI G K W kk (evs F src)) (tG G K t) (tTs G K F ifs) (tE G K W0 (ev F elt)) own σ H Q := by
  obtain ⟨ρ, env, st, rel, q⟩ := h
  have q := Lf.bind (f := fun ds st1 => match srcOf kk ds st1 with
    | some S => evComp S.same st1.length (fun x st2 => match setT t x (wipeE own env) with
        | some env' => (evTests F ifs env' st2).bind fun ok st3 => if ok then (ev F elt env' st3).bind fun d st4 => .ok (some d) st4 else .ok none st3
        | none => .bad) S.items (st1 ++ [.lst []])
    | none => .bad) q
  refine ⟨ρ, env, st, rel, q.imp fun ds st1 ρ1 H1 e1 s1 q1 => ?_⟩
  cases hS : srcOf kk ds st1 with
  | none => rw [hS] at q1; exact q1.elim
  | some S =>
    rw [hS] at q1
    refine ⟨S, rfl, fun J wk D hD => ?_⟩
    generalize hone : (fun x st2 => match setT t x (wipeE own env) with
        | some env' => (evTests F ifs env' st2).bind fun ok st3 => if ok then (ev F elt env' st3).bind fun d st4 => R.ok (some d) st4 else .ok none st3
        | none => .bad) = one at q1
    have q1 : Lf G K (fun c d H' => W c d σ H') ρ1 H1 (evComp S.same st1.length one S.items (st1 ++ [.lst []])) (fun d _ ρ' H' => ∀ v, Rv K ρ' H' d v → Q v H') := q1
    have ea : Ext K ρ1 (ρ1 ++ [(D, true)]) H1 (upd H1 D (.lst [])) := Ext.alloc hD
    have sa : Rs G K (ρ1 ++ [(D, true)]) (st1 ++ [.lst []]) (upd H1 D (.lst [])) := s1.alloc hD rfl ⟨[], upd_same, .nil⟩
    have hl : (ρ1 ++ [(D, true)])[st1.length]? = some (D, true) := by rw [← s1.len, List.getElem?_append_right (Nat.le_refl _), Nat.sub_self]; rfl
    refine ⟨fun i m H' => ∃ ρ' st', Ext K ρ1 ρ' H1 H' ∧ ρ'[st1.length]? = some (D, true) ∧ Rs G K ρ' st' H' ∧ i + m = S.items.length ∧
        Lf G K (fun c d H' => W c d σ H') ρ' H' (evComp S.same st1.length one (S.items.drop i) st') (fun d _ ρ' H' => ∀ v, Rv K ρ' H' d v → Q v H'),
      ⟨S.items.length, ρ1 ++ [(D, true)], st1 ++ [.lst []], ea, hl, sa, Nat.zero_add _, ?_⟩, fun i m H2 hW => ?_⟩
    · rw [List.drop_zero]
      exact q1.ext ea
    · obtain ⟨ρ2, st2, e2, hl2, s2, him, q2⟩ := hW
      by_cases hi : i < S.items.length
      · refine .inr ?_
        rw [List.drop_eq_getElem_cons hi, evComp] at q2
        by_cases hsame : S.same st2 = true
        · rw [if_pos hsame] at q2
          refine ⟨wk.go i ρ2 st2 H2 e2 s2 hsame hi, fun H' => ∃ m', m' < m ∧ ∃ ρ' st', Ext K ρ1 ρ' H1 H' ∧ ρ'[st1.length]? = some (D, true) ∧ Rs G K ρ' st' H' ∧ (i + 1) + m' = S.items.length ∧
            Lf G K (fun c d H' => W c d σ H') ρ' H' (evComp S.same st1.length one (S.items.drop (i + 1)) st') (fun d _ ρ' H' => ∀ v, Rv K ρ' H' d v → Q v H'), fun H' hn => hn, fun x H3 hy => ?_⟩
          obtain ⟨d, hd, e3, s3, r3⟩ := wk.yld i ρ2 st2 H2 x H3 e2 s2 hsame hi hy
          rw [List.getElem?_eq_getElem hi] at hd
          have hd : S.items[i] = d := Option.some.inj hd
          rw [hd] at q2
          have q2 := q2.ext e3
          have e13 : Ext K ρ1 ρ2 H1 H3 := e2.trans e3
          rw [← hone] at q2
          cases hset : setT t d (wipeE own env) with
          | none => simp only [hset] at q2; exact q2.elim
          | some env' =>
            simp only [hset] at q2
            rw [hone] at q2
            refine ⟨ρ2, wipeE own env, d, env', ((rel.e.ext e1).ext e13).wipe own, r3, hset, fun σ2 re2 k2 => ⟨?_, ?_⟩⟩
            · refine (wipe_ext ?_ fun j hj => k2 j fun z => hj (hs j z)).trans (wipe_wipe σ own)
              rw [re2.len, setT_len hset, ← (rel.e.wipe own).len]
            · have fin : ∀ (ρ4 : Tk) (st3 : Store) (H4 : Hp), Ext K ρ2 ρ4 H3 H4 → Rs G K ρ4 st3 H4 →
                  Lf G K (fun c d H' => W c d σ H') ρ4 H4 (compTail st1.length ((ev F elt env' st3).bind fun d st4 => .ok (some d) st4) (evComp S.same st1.length one (S.items.drop (i + 1)))) (fun d _ ρ' H' => ∀ v, Rv K ρ' H' d v → Q v H') →
                  tE G K W0 (ev F elt) σ2 H4 fun y H6 => ∃ acc, H6 D = some (.lst acc) ∧ acc.length < sizeLine ∧ ∃ m', m' < m ∧ ∃ ρ' st', Ext K ρ1 ρ' H1 (upd H6 D (.lst (acc ++ [y]))) ∧ ρ'[st1.length]? = some (D, true) ∧ Rs G K ρ' st' (upd H6 D (.lst (acc ++ [y]))) ∧ (i + 1) + m' = S.items.length ∧
                    Lf G K (fun c d H' => W c d σ H') ρ' (upd H6 D (.lst (acc ++ [y]))) (evComp S.same st1.length one (S.items.drop (i + 1)) st') (fun d _ ρ' H' => ∀ v, Rv K ρ' H' d v → Q v H') := by
                intro ρ4 st3 H4 e4 s4 q4
                refine ⟨ρ4, env', st3, ⟨s4, re2.ext e4⟩, ?_⟩
                cases hr : ev F elt env' st3 with
                | bad => rw [hr] at q4; exact q4.elim
                | exc => rw [hr] at q4; exact q4.elim
                | ok y st4 =>
                  rw [hr] at q4
                  intro ρ5 H5 e5 s5 v rv
                  have q4 : Lf G K (fun c d H' => W c d σ H') ρ4 H4 (match st4[st1.length]? with
                    | some (.lst acc) => if acc.length < SZ then evComp S.same st1.length one (S.items.drop (i + 1)) (st4.set st1.length (.lst (acc ++ [y]))) else .bad
                    | _ => .bad) (fun d _ ρ' H' => ∀ v, Rv K ρ' H' d v → Q v H') := q4
                  split at q4
                  · rename_i acc hacc
                    obtain ⟨hz, q4⟩ := of_ite q4
                    have hl5 : ρ5[st1.length]? = some (D, true) := pre_get (e4.trans e5).pre hl2
                    obtain ⟨_, vs, g2, g3⟩ := s5.lst hl5 hacc
                    have ew : Ext K ρ5 ρ5 H5 (upd H5 D (.lst (vs ++ [v]))) := Ext.wr hl5 g2 trivial
                    exact ⟨vs, g2, by rw [← g3.length, ← sz_eq]; exact hz, m - 1, by omega, ρ5, _, ((e13.trans e4).trans e5).trans ew, hl5,
                      s5.wr (O := .lst (acc ++ [y])) hl5 g2 trivial rfl ⟨_, upd_same, (g3.ext ew).append (.cons (rv.ext ew) .nil)⟩, by omega, q4.ext (e5.trans ew)⟩
                  · exact q4.elim
              match ifs, hif with
              | [], _ =>
                exact fin ρ2 st2 H3 Ext.refl s3 q2
              | [e], _ =>
                refine ⟨ρ2, env', st2, ⟨s3, re2⟩, ?_⟩
                cases hr : ev F e env' st2 with
                | bad =>
                  have ht : evTests F [e] env' st2 = .bad := by rw [evTests, hr]; rfl
                  rw [ht] at q2; exact q2.elim
                | exc cc pp st' =>
                  have ht : evTests F [e] env' st2 = .exc cc pp st' := by rw [evTests, hr]; rfl
                  rw [ht] at q2; exact q2.elim
                | ok z st3 =>
                  intro ρ4 H4 e4 s4
                  cases htr : truth st3 z with
                  | none =>
                    have ht : evTests F [e] env' st2 = .bad := by rw [evTests, hr]; simp only [R.bind, htr]
                    rw [ht] at q2; exact q2.elim
                  | some b =>
                    refine ⟨b, rfl, ?_⟩
                    have ht : evTests F [e] env' st2 = .ok b st3 := by
                      rw [evTests, hr]; simp only [R.bind, htr]
                      cases b <;> rfl
                    rw [ht] at q2
                    cases b with
                    | true =>
                      show (if true = true then _ else _)
                      rw [if_pos rfl]
                      exact fin ρ4 st3 H4 e4 s4 (q2.ext e4)
                    | false =>
                      show (if false = true then _ else _)
                      rw [if_neg Bool.false_ne_true]
                      exact ⟨m - 1, by omega, ρ4, st3, e13.trans e4, pre_get e4.pre hl2, s4, by omega, q2.ext e4⟩
              | _ :: _ :: _, hz => exact absurd hz (by simp)
        · rw [if_neg hsame] at q2; exact q2.elim
      · refine .inl ?_
        rw [List.drop_eq_nil_of_le (Nat.le_of_not_lt hi), evComp] at q2
        by_cases hsame : S.same st2 = true
        · rw [if_pos hsame] at q2
          exact ⟨wk.stop i ρ2 st2 H2 e2 s2 hsame (Nat.le_of_not_lt hi), q2.ok s2 _ (.loc hl2)⟩
        · rw [if_neg hsame] at q2; exact q2.elim
end
end Z

set_option autoImplicit false
set_option maxHeartbeats 2000000
namespace Z
open PySem PySem.Spec PyProof.Rows L2

section
variable {G : GC} {P : List Fd} {k : Nat} {X : Cx} {c : Cc} {W : WX} {F : FT}
theorem args1 {α : Type} {l : List α} (h : l.length = 1) : ∃ a, l = [a] := by
  match l, h with
  | [a], _ => exact ⟨a, rfl⟩
theorem args2 {α : Type} {l : List α} (h : l.length = 2) : ∃ a b, l = [a, b] := by
  match l, h with
  | [a, b], _ => exact ⟨a, b, rfl⟩
theorem args0 {α : Type} {l : List α} (h : l.length = 0) : l = [] := List.length_eq_zero_iff.mp h
/-- a call of a built-in by name -/
theorem blt_sound {x : Str} {px pos : Pos} {args : List Expr} {ms : List Ex} {o : Op} {fr : Bool} (hc : calmOp o = true → X.calm = true) (ho : bltOp x args.length fr = some o) (hg : Gl X x) (hm : X.mg x = none) (hok : okName x = true) (hpl : args.all plain = true) (pa : PA X args (tA G X.K W (evs F ms))) :
    PE X (.Call (.Name x px) args [] pos) (tE G X.K W (ev F (.op o ms))) := by
  unfold bltOp at ho
  split at ho
  · rename_i hx
    cases ho
    simp only [Bool.and_eq_true, beq_iff_eq] at hx
    obtain ⟨rfl, hl⟩ := hx
    obtain ⟨e, rfl⟩ := args1 hl
    rw [List.all_cons, Bool.and_eq_true] at hpl
    exact PE.imp (pe_callB (pos := pos) (p := px) call_len hg hm PySem.boot_len pa (okName_nm hok) (okName_dbg hok) (star_plain hpl.1)) fun σ H Q => blt_ok ov_len ms σ H Q
  split at ho
  · rename_i hx
    cases ho
    simp only [Bool.and_eq_true, beq_iff_eq] at hx
    obtain ⟨rfl, hl⟩ := hx
    obtain ⟨e, rfl⟩ := args1 hl
    rw [List.all_cons, Bool.and_eq_true] at hpl
    exact PE.imp (pe_callTy (pos := pos) (p := px) call_tuple_of hg hm (by decide +kernel) pa (okName_nm hok) (okName_dbg hok) (star_plain hpl.1)) fun σ H Q => blt_ok ov_toTup ms σ H Q
  split at ho
  · rename_i hx
    cases ho
    simp only [Bool.and_eq_true, beq_iff_eq] at hx
    obtain ⟨rfl, hl⟩ := hx
    obtain ⟨e, rfl⟩ := args1 hl
    rw [List.all_cons, Bool.and_eq_true] at hpl
    exact PE.imp (pe_callTy (pos := pos) (p := px) call_int1 hg hm (by decide +kernel) pa (okName_nm hok) (okName_dbg hok) (star_plain hpl.1)) fun σ H Q => blt_ok ov_toInt ms σ H Q
  split at ho
  · rename_i hx
    cases ho
    simp only [Bool.and_eq_true, beq_iff_eq] at hx
    obtain ⟨rfl, hl⟩ := hx
    obtain ⟨e, rfl⟩ := args1 hl
    rw [List.all_cons, Bool.and_eq_true] at hpl
    cases fr with
    | false => exact PE.imp (pe_callTy (pos := pos) (p := px) call_list_of hg hm (by decide +kernel) pa (okName_nm hok) (okName_dbg hok) (star_plain hpl.1)) fun σ H Q => blt_ok ov_toList ms σ H Q
    | true => exact PE.imp (pe_callTy (pos := pos) (p := px) call_list_of hg hm (by decide +kernel) pa (okName_nm hok) (okName_dbg hok) (star_plain hpl.1)) fun σ H Q => blt_ok ov_toListF ms σ H Q
  split at ho
  · rename_i hx
    cases ho
    simp only [Bool.and_eq_true, beq_iff_eq] at hx
    obtain ⟨rfl, hl⟩ := hx
    obtain ⟨e, rfl⟩ := args1 hl
    rw [List.all_cons, Bool.and_eq_true] at hpl
    exact PE.imp (pe_callB (pos := pos) (p := px) (cr_all (hc rfl)) hg hm (by decide +kernel) pa (okName_nm hok) (okName_dbg hok) (star_plain hpl.1)) fun σ H Q => blt_ok ov_all ms σ H Q
  split at ho
  · rename_i hx
    cases ho
    simp only [Bool.and_eq_true, beq_iff_eq] at hx
    obtain ⟨rfl, hl⟩ := hx
    obtain ⟨e, rfl⟩ := args1 hl
    rw [List.all_cons, Bool.and_eq_true] at hpl
    exact PE.imp (pe_callB (pos := pos) (p := px) (cr_any (hc rfl)) hg hm (by decide +kernel) pa (okName_nm hok) (okName_dbg hok) (star_plain hpl.1)) fun σ H Q => blt_ok ov_any ms σ H Q
  split at ho
  · rename_i hx
    cases ho
    simp only [Bool.and_eq_true, beq_iff_eq] at hx
    obtain ⟨rfl, hl⟩ := hx
    obtain ⟨e, rfl⟩ := args1 hl
    rw [List.all_cons, Bool.and_eq_true] at hpl
    exact PE.imp (pe_callB (pos := pos) (p := px) (cr_sum (hc rfl)) hg hm (by decide +kernel) pa (okName_nm hok) (okName_dbg hok) (star_plain hpl.1)) fun σ H Q => blt_ok ov_sum ms σ H Q
  split at ho
  · rename_i hx
    cases ho
    simp only [Bool.and_eq_true, beq_iff_eq] at hx
    obtain ⟨rfl, hl⟩ := hx
    obtain ⟨e, e2, rfl⟩ := args2 hl
    rw [List.all_cons, Bool.and_eq_true] at hpl
    exact PE.imp (pe_callB (pos := pos) (p := px) (call_min2 (hc rfl)) hg hm (by decide +kernel) pa (okName_nm hok) (okName_dbg hok) (star_plain hpl.1) (any_plain hpl.2)) fun σ H Q => blt_ok ov_min2 ms σ H Q
  split at ho
  · rename_i hx
    cases ho
    simp only [Bool.and_eq_true, beq_iff_eq] at hx
    obtain ⟨rfl, hl⟩ := hx
    obtain ⟨e, e2, rfl⟩ := args2 hl
    rw [List.all_cons, Bool.and_eq_true] at hpl
    exact PE.imp (pe_callB (pos := pos) (p := px) (call_max2 (hc rfl)) hg hm (by decide +kernel) pa (okName_nm hok) (okName_dbg hok) (star_plain hpl.1) (any_plain hpl.2)) fun σ H Q => blt_ok ov_max2 ms σ H Q
  split at ho
  · rename_i hx
    cases ho
    simp only [Bool.and_eq_true, beq_iff_eq] at hx
    obtain ⟨rfl, hl⟩ := hx
    obtain ⟨e, rfl⟩ := args1 hl
    rw [List.all_cons, Bool.and_eq_true] at hpl
    exact PE.imp (pe_callB (pos := pos) (p := px) call_ord hg hm (by decide +kernel) pa (okName_nm hok) (okName_dbg hok) (star_plain hpl.1)) fun σ H Q => blt_ok ov_ord ms σ H Q
  · cases ho

theorem base_plain {o : Expr} {name : Str} {env : PySem.Env} (h : noSuper o = true) : attributeBase o name env (eval o env) = eval o env := by
  unfold attributeBase
  split
  · rename_i id p pos
    have h : (id != ("super" : Str)) = true := h
    rw [h]
    rfl
  · rfl
theorem few_plain {e : Expr} {es : List Expr} {env : PySem.Env} {cpos : Pos} (h : (e :: es).all plain = true) (hl : (e :: es).length < 30) : ((backTo cpos (starEach (e :: es) env)).all (fun x => !x.1) && (backToKw cpos (keywordEach [] env)).all (fun x => x.1.isSome)
      && decide ((e :: es).length + ([] : List Keyword).length + (if ([] : List Keyword).isEmpty then 0 else 1) < 30)) = true := by
  have h1 : (backTo cpos (starEach (e :: es) env)).all (fun x => !x.1) = true := by
    rw [List.all_eq_true]
    intro x hx
    have h2 := any_plain (env := env) (pos := cpos) h
    rw [List.any_eq_false] at h2
    have h3 := h2 x hx
    simpa using h3
  have h2 : (backToKw cpos (keywordEach [] env)).all (fun x => x.1.isSome) = true := rfl
  rw [h1, h2]
  show (true && decide ((e :: es).length + 0 + 0 < 30)) = true
  rw [decide_eq_true (by omega)]
  rfl
/-- a call of a method -/
theorem mt_sound {o : Expr} {x : Str} {ap pos : Pos} {args : List Expr} {mo : Ex} {ms : List Ex} {m : Mt} (hm : mtOf x args.length = some m) (hs : noSuper o = true) (hline : (ap.endLine == pos.line) = true) (hpl : args.all plain = true) (hl : args.length < 30)
    (po : PE X o (tE G X.K W (ev F mo))) (pa : PA X args (tA G X.K W (evs F ms))) (hlen : ms.length = args.length) :
    PE X (.Call (.Attribute o x ap) args [] pos) (tE G X.K W (ev F (.op (.x (.meth m)) (.op (.x (if mtL m then .asLst else .asStr)) [mo] :: ms)))) := by
  unfold mtOf at hm
  split at hm
  · rename_i hx
    cases hm
    simp only [Bool.and_eq_true, beq_iff_eq] at hx
    obtain ⟨rfl, hz⟩ := hx
    obtain ⟨e, rfl⟩ := args1 hz
    exact PE.imp (pe_bm PySem.F.plainAttrs_str PySem.F.slot_str_join PySem.F.type_str_join mt_join po pa (base_plain hs) (few_plain hpl hl) hline (star_plain (by simpa using hpl))) fun σ H Q => meth_ok (b := false) om_join mo ms σ H Q
  split at hm
  · rename_i hx
    cases hm
    simp only [Bool.and_eq_true, beq_iff_eq] at hx
    obtain ⟨rfl, hz⟩ := hx
    obtain ⟨e, rfl⟩ := args1 hz
    exact PE.imp (pe_bm PySem.F.plainAttrs_str PySem.F.slot_str_split PySem.F.type_str_split mt_split po pa (base_plain hs) (few_plain hpl hl) hline (star_plain (by simpa using hpl))) fun σ H Q => meth_ok (b := false) om_split mo ms σ H Q
  split at hm
  · rename_i hx
    cases hm
    simp only [Bool.and_eq_true, beq_iff_eq] at hx
    obtain ⟨rfl, hz⟩ := hx
    obtain rfl := args0 hz
    obtain rfl := args0 hlen
    exact PE.imp (pe_bm0 PySem.F.plainAttrs_str PySem.F.slot_str_lower PySem.F.type_str_lower mt_lower po (base_plain hs) hline) fun σ H Q => meth0_ok (b := false) om_lower mo σ H Q
  split at hm
  · rename_i hx
    cases hm
    simp only [Bool.and_eq_true, beq_iff_eq] at hx
    obtain ⟨rfl, hz⟩ := hx
    obtain rfl := args0 hz
    obtain rfl := args0 hlen
    exact PE.imp (pe_bm0 PySem.F.plainAttrs_str PySem.F.slot_str_upper PySem.F.type_str_upper mt_upper po (base_plain hs) hline) fun σ H Q => meth0_ok (b := false) om_upper mo σ H Q
  split at hm
  · rename_i hx
    cases hm
    simp only [Bool.and_eq_true, beq_iff_eq] at hx
    obtain ⟨rfl, hz⟩ := hx
    obtain ⟨e, rfl⟩ := args1 hz
    exact PE.imp (pe_bm PySem.F.plainAttrs_str PySem.F.slot_str_endswith PySem.F.type_str_endswith mt_endswith po pa (base_plain hs) (few_plain hpl hl) hline (star_plain (by simpa using hpl))) fun σ H Q => meth_ok (b := false) om_ends mo ms σ H Q
  split at hm
  · rename_i hx
    cases hm
    simp only [Bool.and_eq_true, beq_iff_eq] at hx
    obtain ⟨rfl, hz⟩ := hx
    obtain ⟨e, rfl⟩ := args1 hz
    exact PE.imp (pe_bm PySem.F.plainAttrs_str PySem.F.slot_str_startswith PySem.F.type_str_startswith mt_startswith po pa (base_plain hs) (few_plain hpl hl) hline (star_plain (by simpa using hpl))) fun σ H Q => meth_ok (b := false) om_starts mo ms σ H Q
  split at hm
  · rename_i hx
    cases hm
    simp only [Bool.and_eq_true, beq_iff_eq] at hx
    obtain ⟨rfl, hz⟩ := hx
    obtain rfl := args0 hz
    obtain rfl := args0 hlen
    exact PE.imp (pe_bm0 PySem.F.plainAttrs_str PySem.F.slot_str_isascii PySem.F.type_str_isascii mt_isascii po (base_plain hs) hline) fun σ H Q => meth0_ok (b := false) om_ascii mo σ H Q
  split at hm
  · rename_i hx
    cases hm
    simp only [Bool.and_eq_true, beq_iff_eq] at hx
    obtain ⟨rfl, hz⟩ := hx
    obtain rfl := args0 hz
    obtain rfl := args0 hlen
    exact PE.imp (pe_bm0 PySem.F.plainAttrs_str PySem.F.slot_str_isdigit PySem.F.type_str_isdigit mt_isdigit po (base_plain hs) hline) fun σ H Q => meth0_ok (b := false) om_digit mo σ H Q
  split at hm
  · rename_i hx
    cases hm
    simp only [Bool.and_eq_true, beq_iff_eq] at hx
    obtain ⟨rfl, hz⟩ := hx
    obtain ⟨e, rfl⟩ := args1 hz
    exact PE.imp (pe_bm PySem.F.plainAttrs_list PySem.F.slot_list_append PySem.F.type_list_append mt_append po pa (base_plain hs) (few_plain hpl hl) hline (star_plain (by simpa using hpl))) fun σ H Q => meth_ok (b := true) om_append mo ms σ H Q
  split at hm
  · rename_i hx
    cases hm
    simp only [Bool.and_eq_true, beq_iff_eq] at hx
    obtain ⟨rfl, hz⟩ := hx
    obtain ⟨e, rfl⟩ := args1 hz
    exact PE.imp (pe_bm PySem.F.plainAttrs_list PySem.F.slot_list_extend PySem.F.type_list_extend mt_extend po pa (base_plain hs) (few_plain hpl hl) hline (star_plain (by simpa using hpl))) fun σ H Q => meth_ok (b := true) om_extend mo ms σ H Q
  split at hm
  · rename_i hx
    cases hm
    simp only [Bool.and_eq_true, beq_iff_eq] at hx
    obtain ⟨rfl, hz⟩ := hx
    obtain ⟨e, rfl⟩ := args1 hz
    exact PE.imp (pe_bm PySem.F.plainAttrs_list PySem.F.slot_list_index PySem.F.type_list_index mt_index po pa (base_plain hs) (few_plain hpl hl) hline (star_plain (by simpa using hpl))) fun σ H Q => meth_ok (b := true) om_index mo ms σ H Q
  · cases hm
/-! ## a op b op' c, as a test -/
theorem tT_blE {m : Ex} {σ : L2.St} {H : Hp} {Q : Bool → Hp → Prop} (hz : ∀ env st z st', ev F m env st = .ok z st' → ∃ k, z = .bl k) (h : tT G X.K W (ev F m) σ H Q) : tE G X.K W (ev F m) σ H (fun v H' => ∃ k, v = .bl k ∧ Q k H') := by
  obtain ⟨ρ, env, st, rel, q⟩ := h
  refine ⟨ρ, env, st, rel, ?_⟩
  cases hr : ev F m env st with
  | ok z st' =>
    obtain ⟨k, rfl⟩ := hz env st z st' hr
    rw [hr] at q
    intro ρ' H' e s v rv
    cases rv
    obtain ⟨k', hk, q⟩ := q ρ' H' e s
    cases hk
    exact ⟨k, rfl, q⟩
  | exc => rw [hr] at q; exact q
  | bad => rw [hr] at q; exact q
theorem ord_ok {op : CmpOp} {o : Op} (h : opCmp op = some o) (hord : ordCmp op = true) : o = .lt ∨ o = .le ∨ o = .gt ∨ o = .ge := by
  cases op <;> first | (cases hord; done) | (cases h; simp)
theorem ord_bl {o : Op} (h : o = .lt ∨ o = .le ∨ o = .gt ∨ o = .ge) : ∀ d e st z st', opSem o [d, e] st = .ok z st' → ∃ k, z = .bl k := by
  intro d e st z st' q
  rcases h with rfl | rfl | rfl | rfl <;> (cases d <;> cases e <;> cases q <;> exact ⟨_, rfl⟩)
theorem chain_bl {o p : Op} (hp : ∀ d e st z st', opSem p [d, e] st = .ok z st' → ∃ k, z = .bl k) (a b d : Ex) : ∀ env st z st', ev F (.chain o p a b d) env st = .ok z st' → ∃ k, z = .bl k := by
  intro env st z st' h
  have h : ((ev F a env st).bind fun x st1 => (ev F b env st1).bind fun y st2 => (opSem o [x, y] st2).bind fun z st3 => match z with
    | .bl true => (ev F d env st3).bind fun u st4 => opSem p [y, u] st4
    | .bl false => .ok (.bl false) st3
    | _ => .bad) = .ok z st' := h
  cases h1 : ev F a env st with
  | exc => rw [h1] at h; cases h
  | bad => rw [h1] at h; cases h
  | ok x st1 =>
    rw [h1] at h
    have h : ((ev F b env st1).bind fun y st2 => (opSem o [x, y] st2).bind fun z st3 => match z with
      | .bl true => (ev F d env st3).bind fun u st4 => opSem p [y, u] st4
      | .bl false => .ok (.bl false) st3
      | _ => .bad) = .ok z st' := h
    cases h2 : ev F b env st1 with
    | exc => rw [h2] at h; cases h
    | bad => rw [h2] at h; cases h
    | ok y st2 =>
      rw [h2] at h
      have h : ((opSem o [x, y] st2).bind fun z st3 => match z with
        | .bl true => (ev F d env st3).bind fun u st4 => opSem p [y, u] st4
        | .bl false => .ok (.bl false) st3
        | _ => .bad) = .ok z st' := h
      cases h3 : opSem o [x, y] st2 with
      | exc => rw [h3] at h; cases h
      | bad => rw [h3] at h; cases h
      | ok w st3 =>
        rw [h3] at h
        cases w with
        | bl k =>
          cases k with
          | false => cases h; exact ⟨_, rfl⟩
          | true =>
            have h : ((ev F d env st3).bind fun u st4 => opSem p [y, u] st4) = .ok z st' := h
            cases h4 : ev F d env st3 with
            | exc => rw [h4] at h; cases h
            | bad => rw [h4] at h; cases h
            | ok u st4 => rw [h4] at h; exact hp _ _ _ _ _ h
        | _ => cases h
theorem chain_sound {a b d : Expr} {op op' : CmpOp} {pos : Pos} {o p : Op} {ma mb md : Ex} (h1 : opCmp op = some o) (h2 : opCmp op' = some p) (k1 : ordCmp op = true) (k2 : ordCmp op' = true) (hd : plain d = true)
    (pa : PE X a (tE G X.K W (ev F ma))) (pb : PE X b (tE G X.K W (ev F mb))) (pd : PE X d (tE G X.K W (ev F md))) :
    PE X (.Compare a [op, op'] [b, d] pos) (tE G X.K W (ev F (.chain o p ma mb md))) ∧ PT X (.Compare a [op, op'] [b, d] pos) (tT G X.K W (ev F (.chain o p ma mb md))) := by
  have o1 := ord_ok h1 k1
  have o2 := ord_ok h2 k2
  have hm : lastMarks [op, op'] [b, d] = false := nomark_plain (op := op') hd
  refine ⟨PE.imp (pe_chain (op_cmpZ h1 o1) (op_cmpZ h2 o2) pa pb pd hm) fun σ H Q => chain_ok (od_cmp o1) (od_cmp o2) ma mb md σ H Q, PT.imp (pt_chain (op_cmpZ h1 o1) (op_cmpZ h2 o2) pa pb pd hm) fun σ H Q h => ?_⟩
  exact chain_ok (od_cmp o1) (od_cmp o2) ma mb md σ H _ (tT_blE (chain_bl (ord_bl o2) ma mb md) h)
end
end Z

set_option autoImplicit false
set_option maxHeartbeats 1000000
namespace Z
open PySem PySem.Spec PyProof.Rows L2

/-! ## what an expression made becomes a value -/
section
variable {G : GC} {K : PySem.W.Frag} {ρ ρ1 : Tk} {H H0 : Hp} {st st1 : Store}
theorem get_lt {α : Type} {xs : List α} {l : Nat} {a : α} (h : xs[l]? = some a) : l < xs.length := (List.getElem?_eq_some_iff.mp h).1
theorem get_back (p : ρ <+: ρ1) {l : Nat} {a : Addr × Bool} (hl : l < ρ.length) (h : ρ1[l]? = some a) : ρ[l]? = some a := by
  obtain ⟨t, rfl⟩ := p
  rw [List.getElem?_append_left hl] at h
  exact h
mutual
theorem Rv.closed : ∀ {d : D} {v : V}, Rv K ρ H d v → closedD ρ.length d = true
  | _, _, .non => rfl
  | _, _, .bl _ => rfl
  | _, _, .int _ => rfl
  | _, _, .str _ => rfl
  | _, _, .tup _ t => Rvs.closed t
  | _, _, .flst _ t => Rvs.closed t
  | _, _, .slst _ t => Rvs.closed t
  | _, _, .fins _ _ _ t => Rvs.closed t
  | _, _, .loc h => decide_eq_true (get_lt h)
theorem Rvs.closed : ∀ {ds : List D} {vs : List V}, Rvs K ρ H ds vs → closedDs ρ.length ds = true
  | _, _, .nil => rfl
  | _, _, .cons r t => by rw [closedDs, r.closed, Rvs.closed t]; rfl
end
mutual
theorem Rv.back (p : ρ <+: ρ1) : ∀ {d : D} {v : V}, closedD ρ.length d = true → Rv K ρ1 H d v → Rv K ρ H d v
  | _, _, _, .non => .non
  | _, _, _, .bl b => .bl b
  | _, _, _, .int i => .int i
  | _, _, _, .str s => .str s
  | _, _, h, .tup a t => .tup a (Rvs.back p h t)
  | _, _, h, .flst a t => .flst ⟨a.1.pre p, a.2⟩ (Rvs.back p h t)
  | _, _, h, .slst a t => .slst a (Rvs.back p h t)
  | _, _, h, .fins u a n t => .fins (u.pre p) a n (Rvs.back p h t)
  | _, _, h, .loc a => .loc (get_back p (of_decide_eq_true h) a)
theorem Rvs.back (p : ρ <+: ρ1) : ∀ {ds : List D} {vs : List V}, closedDs ρ.length ds = true → Rvs K ρ1 H ds vs → Rvs K ρ H ds vs
  | _, _, _, .nil => .nil
  | _, _, h, .cons r t => by
    rw [closedDs, Bool.and_eq_true] at h
    exact .cons (Rv.back p h.1 r) (Rvs.back p h.2 t)
end
theorem RO.closed {l : Nat} {a : Addr} {o : DO} (h : RO G K ρ H l a o) : closedO ρ.length o = true := by
  cases o with
  | lst ds => obtain ⟨_, _, r⟩ := h; exact r.closed
  | dct => exact h.elim
  | ins c ns ds => obtain ⟨_, _, _, r, _⟩ := h; exact r.closed
  | exn c p => obtain ⟨_, _, _, _, _, _, _, r⟩ := h; exact r.closed
theorem RO.back (p : ρ <+: ρ1) {l : Nat} {a : Addr} {o : DO} (hc : closedO ρ.length o = true) (h : RO G K ρ1 H l a o) : RO G K ρ H l a o := by
  cases o with
  | lst ds => obtain ⟨vs, h1, r⟩ := h; exact ⟨vs, h1, r.back p hc⟩
  | dct => exact h.elim
  | ins c ns ds => obtain ⟨dx, vs, h1, r, n⟩ := h; exact ⟨dx, vs, h1, r.back p hc, n⟩
  | exn c q => obtain ⟨cu, v, h1, h2, h3, h4, h5, r⟩ := h; exact ⟨cu, v, h1, h2, h3, h4, h5, r.back p hc⟩
theorem Rs.back (old : Rs G K ρ st H0) (e : Ext K ρ ρ1 H0 H) (s : Rs G K ρ1 st1 H) (ok : OldOk st st1) : Rs G K ρ (st1.take st.length) H := by
  have hle : st.length ≤ st1.length := by
    rw [← old.len, ← s.len]; exact e.pre.length_le
  refine ⟨by rw [List.length_take, Nat.min_eq_left hle]; exact old.len, old.nd, fun l o h => ?_⟩
  have hl : l < st.length := by
    have := get_lt h
    rw [List.length_take] at this
    omega
  rw [List.getElem?_take_of_lt hl] at h
  obtain ⟨a, h1, r⟩ := s.obj l o h
  refine ⟨a, get_back e.pre (by rw [old.len]; exact hl) h1, r.back e.pre ?_⟩
  rcases ok l hl o h with h2 | h2
  · obtain ⟨_, _, r0⟩ := old.obj l o h2
    exact r0.closed
  · rw [old.len]; exact h2
theorem Ext.back (e : Ext K ρ ρ1 H0 H) : Ext K ρ ρ H0 H := ⟨List.prefix_rfl, e.fr, e.tup, fun a o u h m => ⟨(e.un a o u h m).1, u⟩, e.xd⟩
mutual
theorem seal_rv (p : ρ <+: ρ1) (g : Nat → Option D) (hg : ∀ (l : Nat) (a : Addr) (b : Bool) (d : D), ¬ l < ρ.length → ρ1[l]? = some (a, b) → g l = some d → Rv K ρ H d (.ref a)) :
    ∀ {d d' : D} {v : V}, Rv K ρ1 H d v → sealD ρ.length g d = some d' → Rv K ρ H d' v
  | _, _, _, .non, e => by cases e; exact .non
  | _, _, _, .bl b, e => by cases e; exact .bl b
  | _, _, _, .int i, e => by cases e; exact .int i
  | _, _, _, .str s, e => by cases e; exact .str s
  | .tup xs, _, _, .tup a t, e => by
    cases q : sealDs ρ.length g xs with
    | none => rw [sealD, q] at e; cases e
    | some ys => rw [sealD, q] at e; cases e; exact .tup a (seal_rvs p g hg t q)
  | .flst xs, _, _, .flst a t, e => by
    cases q : sealDs ρ.length g xs with
    | none => rw [sealD, q] at e; cases e
    | some ys => rw [sealD, q] at e; cases e; exact .flst ⟨a.1.pre p, a.2⟩ (seal_rvs p g hg t q)
  | .fins c ns xs, _, _, .fins u a n t, e => by
    cases q : sealDs ρ.length g xs with
    | none => rw [sealD, q] at e; cases e
    | some ys => rw [sealD, q] at e; cases e; exact .fins (u.pre p) a n (seal_rvs p g hg t q)
  | .slst xs, _, _, .slst a t, e => by
    have e : (if closedDs ρ.length xs = true then some (D.slst xs) else none) = some _ := e
    split at e
    · rename_i h; cases e; exact .slst a (t.back p h)
    · cases e
  | .loc l, _, _, .loc a, e => by
    have e : (if l < ρ.length then some (.loc l) else g l) = some _ := e
    split at e
    · rename_i h; cases e; exact .loc (get_back p h a)
    · rename_i h; exact hg l _ _ _ h a e
theorem seal_rvs (p : ρ <+: ρ1) (g : Nat → Option D) (hg : ∀ (l : Nat) (a : Addr) (b : Bool) (d : D), ¬ l < ρ.length → ρ1[l]? = some (a, b) → g l = some d → Rv K ρ H d (.ref a)) :
    ∀ {ds ds' : List D} {vs : List V}, Rvs K ρ1 H ds vs → sealDs ρ.length g ds = some ds' → Rvs K ρ H ds' vs
  | _, _, _, .nil, e => by cases e; exact .nil
  | d :: ds, _, _, .cons r t, e => by
    cases q : sealD ρ.length g d with
    | none => rw [sealDs, q] at e; cases e
    | some y =>
      cases q2 : sealDs ρ.length g ds with
      | none => rw [sealDs, q, q2] at e; cases e
      | some ys => rw [sealDs, q, q2] at e; cases e; exact .cons (seal_rv p g hg r q) (seal_rvs p g hg t q2)
end
theorem utr_new (s : Rs G K ρ1 st1 H) (p : ρ <+: ρ1) {l : Nat} {a : Addr} (hl : ¬ l < ρ.length) (h : ρ1[l]? = some (a, true)) : Utr ρ a := fun m hm => hl (by
  rw [← s.nd m l a (pre_get p hm) h]; exact get_lt hm)
theorem sealAt_rv (s : Rs G K ρ1 st1 H) (p : ρ <+: ρ1) : ∀ (k l : Nat) (a : Addr) (b : Bool) (d : D), ¬ l < ρ.length → ρ1[l]? = some (a, b) → sealAt ρ.length st1 k l = some d → Rv K ρ H d (.ref a)
  | 0, _, _, _, _, _, _, e => by cases e
  | k + 1, l, a, b, d, hl, h, e => by
    unfold sealAt at e
    split at e
    · rename_i xs hx
      obtain ⟨h2, vs, g1, g2⟩ := s.lst h hx
      cases q : sealDs ρ.length (sealAt ρ.length st1 k) xs with
      | none => rw [q] at e; cases e
      | some ys =>
        rw [q] at e; cases e
        exact .flst ⟨utr_new s p hl h2, g1⟩ (seal_rvs p _ (fun l a b d => sealAt_rv s p k l a b d) g2 q)
    · rename_i c ns xs hx
      obtain ⟨a', h2, dx, vs, g1, g2, g3⟩ := s.obj l _ hx
      have h3 := h2
      rw [h] at h2
      injection h2 with h2
      injection h2 with e1 e2
      subst e1
      cases q : sealDs ρ.length (sealAt ρ.length st1 k) xs with
      | none => rw [q] at e; cases e
      | some ys =>
        rw [q] at e; cases e
        exact .fins (utr_new s p hl h3) g1 g3 (seal_rvs p _ (fun l a b d => sealAt_rv s p k l a b d) g2 q)
    · cases e
theorem sealed_rv (hl : ρ.length = st.length) (s : Rs G K ρ1 st1 H) (p : ρ <+: ρ1) {d d' : D} {v : V} (r : Rv K ρ1 H d v) (e : sealD st.length (sealAt st.length st1 8) d = some d') : Rv K ρ H d' v := by
  rw [← hl] at e
  exact seal_rv p _ (fun l a b d => sealAt_rv s p 8 l a b d) r e
theorem close_cases (d : D) (st1 : Store) : (∃ d', sealD st.length (sealAt st.length st1 8) d = some d' ∧ OldOk st st1 ∧ closeR st (.ok d st1) = .ok d' (st1.take st.length)) ∨ closeR st (.ok d st1) = .bad := by
  unfold closeR
  cases h : sealD st.length (sealAt st.length st1 8) d with
  | none => exact .inr (by simp only [h])
  | some d' =>
    simp only [h]
    by_cases ho : OldOk st st1
    · rw [if_pos ho]; exact .inl ⟨d', rfl, ho, rfl⟩
    · rw [if_neg ho]; exact .inr rfl
theorem close_exc (c : Nat) (p : D) (st1 : Store) : (OldOk st st1 ∧ closedD st.length p = true ∧ closeR st (.exc c p st1) = .exc c p (st1.take st.length)) ∨ closeR st (.exc c p st1) = .bad := by
  unfold closeR
  by_cases ho : OldOk st st1 ∧ closedD st.length p = true
  · simp only; rw [if_pos ho]; exact .inl ⟨ho.1, ho.2, rfl⟩
  · simp only; rw [if_neg ho]; exact .inr rfl
theorem XRel.back (p : ρ <+: ρ1) {c : Nat} {d : D} {cls : Value} {dd : Option Addr} (hc : closedD ρ.length d = true) (h : XRel G K ρ1 H c d cls dd) : XRel G K ρ H c d cls dd := by
  obtain ⟨C, d1, v, h1, h2, h3, h4, h5⟩ := h
  exact ⟨C, d1, v, h1, h2, h3, h4, h5.back p hc⟩
/-- closing a result -/
theorem close_ok {W' : Value → Option Addr → Hp → Prop} {r : R D} {P P' : D → Store → Tk → Hp → Prop} (old : Rs G K ρ st H0) (h : Lf G K W' ρ H0 (closeR st r) P)
    (f : ∀ d d' st1 ρ1 H1, Ext K ρ ρ1 H0 H1 → Rs G K ρ1 st1 H1 → sealD st.length (sealAt st.length st1 8) d = some d' → (∀ v, Rv K ρ1 H1 d v → Rv K ρ H1 d' v) → P d' (st1.take st.length) ρ H1 → P' d st1 ρ1 H1) : Lf G K W' ρ H0 r P' := by
  cases r with
  | bad => exact h
  | ok d st1 =>
    rcases close_cases d st1 with ⟨d', e1, e2, e3⟩ | e3
    · rw [e3] at h
      intro ρ1 H1 e s
      exact f d d' st1 ρ1 H1 e s e1 (fun v r => sealed_rv old.len s e.pre r e1) (h ρ H1 e.back (old.back e s e2))
    · rw [e3] at h; exact h.elim
  | exc c p st1 =>
    rcases close_exc c p st1 with ⟨e1, e2, e3⟩ | e3
    · rw [e3] at h
      intro ρ1 H1 cls dd e s x
      rw [← old.len] at e2
      exact h ρ H1 cls dd e.back (old.back e s e1) (x.back e.pre e2)
    · rw [e3] at h; exact h.elim
theorem truth_seal {n : Nat} {d d' : D} {b : Bool} (e : sealD n (sealAt n st1 8) d = some d') (h : truth (st1.take n) d' = some b) : truth st1 d = some b := by
  have em : ∀ {g : Nat → Option D} {xs ys : List D}, sealDs n g xs = some ys → ys.isEmpty = xs.isEmpty := fun {g xs ys} e => by
    cases xs with
    | nil => cases e; rfl
    | cons x xs =>
      rw [sealDs] at e
      split at e
      · cases e; rfl
      · cases e
  cases d with
  | non => cases e; exact h
  | bl => cases e; exact h
  | int => cases e; exact h
  | str => cases e; exact h
  | tup xs =>
    cases q : sealDs n (sealAt n st1 8) xs with
    | none => rw [sealD, q] at e; cases e
    | some ys =>
      rw [sealD, q] at e; cases e
      have h : some (!ys.isEmpty) = some b := h
      rw [em q] at h; exact h
  | flst xs =>
    cases q : sealDs n (sealAt n st1 8) xs with
    | none => rw [sealD, q] at e; cases e
    | some ys =>
      rw [sealD, q] at e; cases e
      have h : some (!ys.isEmpty) = some b := h
      rw [em q] at h; exact h
  | slst xs =>
    have e : (if closedDs n xs = true then some (D.slst xs) else none) = some _ := e
    split at e
    · cases e; exact h
    · cases e
  | fdct xs ys =>
    have e : (if closedD n (.fdct xs ys) = true then some (D.fdct xs ys) else none) = some _ := e
    split at e
    · cases e; exact h
    · cases e
  | fset xs =>
    have e : (if closedD n (.fset xs) = true then some (D.fset xs) else none) = some _ := e
    split at e
    · cases e; exact h
    · cases e
  | fn f => cases e; exact h
  | fins c ns xs =>
    cases q : sealDs n (sealAt n st1 8) xs with
    | none => rw [sealD, q] at e; cases e
    | some ys => rw [sealD, q] at e; cases e; cases h
  | loc l =>
    have e : (if l < n then some (.loc l) else sealAt n st1 8 l) = some _ := e
    split at e
    · rename_i hl
      cases e
      have h : ((match (st1.take n)[l]? with | some (DO.lst xs) => some xs | _ => none).map fun (xs : List D) => !xs.isEmpty) = some b := h
      rw [List.getElem?_take_of_lt hl] at h
      exact h
    · unfold sealAt at e
      split at e
      · rename_i xs hx
        cases q : sealDs n (sealAt n st1 7) xs with
        | none => rw [q] at e; cases e
        | some ys =>
          rw [q] at e; cases e
          have h : some (!ys.isEmpty) = some b := h
          rw [em q] at h
          show ((match st1[l]? with | some (DO.lst xs) => some xs | _ => none).map fun (xs : List D) => !xs.isEmpty) = some b
          rw [hx]; exact h
      · rename_i c ns xs hx
        cases q : sealDs n (sealAt n st1 7) xs with
        | none => rw [q] at e; cases e
        | some ys => rw [q] at e; cases e; cases h
      · cases e
variable {F : FT} {W : WX}
theorem seal_ok (m : Ex) (σ : L2.St) (H : Hp) (Q : VK) (h : tE G K W (ev F (.sealE m)) σ H Q) : tE G K W (ev F m) σ H Q := by
  obtain ⟨ρ, env, st, rel, q⟩ := h
  exact ⟨ρ, env, st, rel, close_ok rel.s q fun d d' st1 ρ1 H1 e s h1 h2 h3 v rv => h3 v (h2 v rv)⟩
theorem sealT_ok (m : Ex) (σ : L2.St) (H : Hp) (Q : Bool → Hp → Prop) (h : tT G K W (ev F (.sealE m)) σ H Q) : tT G K W (ev F m) σ H Q := by
  obtain ⟨ρ, env, st, rel, q⟩ := h
  refine ⟨ρ, env, st, rel, close_ok rel.s q fun d d' st1 ρ1 H1 e s h1 h2 h3 => ?_⟩
  obtain ⟨k, hk, h3⟩ := h3
  exact ⟨k, truth_seal h1 hk, h3⟩
end
end Z

set_option autoImplicit false
set_option maxHeartbeats 2000000
namespace Z
open PySem PySem.Spec PyProof.Rows L2

section
variable {G : GC} {P : List Fd} {k : Nat} {X : Cx} {c : Cc} {W : WX} {F : FT}
/-! ## a call within a suite -/
theorem callH_ok {f : Nat} {es : List Ex} (σ : L2.St) (H : Hp) (Q : VK) (h : tE G X.K W (ev (run P k) (.call f es)) σ H Q) : tCallS (spF G X.K P k f) (WE W) (tA G X.K W (evs (run P k) es)) σ H Q := by
  obtain ⟨ρ, env, st, rel, q⟩ := h
  have q : Lf G X.K (fun c d H' => W c d σ H') ρ H ((evs (run P k) es env st).bind fun xs st1 => run P k f xs st1) (Val1 X.K Q) := q
  refine ⟨ρ, env, st, rel, q.bind.imp fun xs st1 ρ1 H1 e1 s1 q1 us rus => ?_⟩
  exact ⟨ρ1, st1, xs, s1, rus, q1⟩
theorem callH_ok' {raw : Bool} {f : Nat} {es : List Ex} (σ : L2.St) (H : Hp) (Q : VK) (h : tE G X.K W (ev (run P k) (mkCall raw f es)) σ H Q) : tCallS (spF G X.K P k f) (WE W) (tA G X.K W (evs (run P k) es)) σ H Q := by
  cases raw with
  | true => exact callH_ok σ H Q h
  | false =>
    obtain ⟨ρ, env, st, rel, q⟩ := h
    have q : Lf G X.K (fun c d H' => W c d σ H') ρ H ((evs (run P k) es env st).bind fun xs st1 => closeR st1 (run P k f xs st1)) (Val1 X.K Q) := q
    refine ⟨ρ, env, st, rel, q.bind.imp fun xs st1 ρ1 H1 e1 s1 q1 us rus => ?_⟩
    exact ⟨ρ1, st1, xs, s1, rus, close_ok s1 q1 fun d d' st2 ρ2 H2 e s h1 h2 h3 v rv => h3 v (h2 v rv)⟩
/-! ## the exception that a suite holds -/
theorem exn_at {K : PySem.W.Frag} {ρ : Tk} {st : Store} {H : Hp} {l c : Nat} {p : D} {x : V} {cu : Cur} (hcur : G.cur = some cu) (s : Rs G K ρ st H) (r : Rv K ρ H (.loc l) x) (h : st[l]? = some (.exn c p)) :
    x = .ref cu.a ∧ c = cu.c ∧ ∃ v, H cu.dd = some (.xd [(("place" : Str), v)]) ∧ Rv K ρ H p v := by
  cases r with
  | loc hl =>
    obtain ⟨a, h1, cu', v, h2, h3, h4, h5, h6, h7⟩ := s.obj l _ h
    rw [hl] at h1; cases h1
    rw [hcur] at h2; cases h2
    exact ⟨by rw [h4], h5.symm, v, h6, h7⟩
theorem place_ok {K : PySem.W.Frag} {cu : Cur} {C : Addr} (hcur : G.cur = some cu) (m : Ex) (σ : L2.St) (H : Hp) (Q : VK) (h : tE G K W (ev F (.op (.x .place) [m])) σ H Q) : tXf cu.a (.ref C) (some cu.dd) C "place" (tE G K W (ev F m)) σ H Q := by
  obtain ⟨ρ, env, st, rel, q⟩ := h
  have q : Lf G K (fun c d H' => W c d σ H') ρ H (((ev F m env st).bind fun d st1 => R.ok [d] st1).bind fun ds st1 => opSem (.x .place) ds st1) (Val1 K Q) := q
  refine ⟨ρ, env, st, rel, q.bind.bind.imp fun d st1 ρ1 H1 e1 s1 q1 x rx => ?_⟩
  have q1 := q1.ok s1
  cases d with
  | loc l =>
    have q1 : Lf G K (fun c d H' => W c d σ H') ρ1 H1 (match st1[l]? with | some (.exn _ p) => .ok p st1 | _ => .bad) (Val1 K Q) := q1
    split at q1
    · rename_i c p hx
      obtain ⟨hx1, hx2, v, hx3, hx4⟩ := exn_at hcur s1 rx hx
      exact ⟨hx1, rfl, cu.dd, _, v, rfl, hx3, by simp [List.lookup], okv q1 s1 hx4⟩
    · exact q1.elim
  | _ => exact q1.elim
/-- isinstance(e, c), e the exception that the suite holds, with its dict -/
def rIsX (K : PySem.W.Frag) (D a dd : Addr) : List V → Hp → VK → Prop := fun xs H Q => ∃ (c : V) (cv : Value) (b : Bool) (fs : List (Str × V)), xs = [.ref a, c] ∧ (∀ u, RelV c u → u = cv) ∧ PySem.W.kitOne K (.ref D) cv = some b ∧ H dd = some (.xd fs) ∧ Q (.bl b) H
theorem call_isX {X0 : Cx} {D dd : Addr} {p : Addr × Obj} (C : ExcC X0.K D) (hp : p ∈ X0.pn) (hz : Zc (.ref D) (some dd) p.2) (hf : ∃ vs, p.2.data = .fields vs) : CallR X0 (.builtin "isinstance") (rIsX X0.K D p.1 dd) := by
  intro pins s σ H xs us Q I r ⟨c, cv, b, fs, hxs, hcv, e, hd, q⟩
  subst hxs
  obtain ⟨u1, u2, rfl, r1, r2⟩ := Vals.two r
  obtain rfl : u1 = Value.ref p.1 := r1
  have ec := hcv _ r2
  subst ec
  have pin := (I.pin p (List.mem_append_left _ hp)).1
  obtain ⟨mA, hns, hr⟩ : ObjOk X0.prog X0.w H s.heap dd (.xd fs) := I.hok dd _ hd
  obtain ⟨od, ho, hl⟩ := lookIn_ns hns
  obtain ⟨vs, hv⟩ := hf
  have J : PySem.W.InstAt s.heap p.1 p.2 D (some od) := ⟨pin, hz.1, by unfold PySem.W.notCls; rw [hv] <;> rfl, by rw [hz.2]; exact ho⟩
  have hcl : (PySem.W.clsIn X0.K D).isSome = true := by
    obtain ⟨cd, hc, _⟩ := PySem.W.any_some C.hd
    rw [hc]; rfl
  exact PySem.W.kia_one (PySem.W.kitx_exc hcl C.hg C.hk C.hs C.ha C.hn C.ht C.hm) I.kIn J e (fun z => nomatch z) fun tk => ⟨.bl b, H, I.tok _, rfl, q⟩
theorem isx_ok {K : PySem.W.Frag} {cu : Cur} {C : Addr} {tab : List Nat} {cy : V} {cv : Value} (hcur : G.cur = some cu) (hy : ∀ u, RelV cy u → u = cv) (hk : PySem.W.kitOne K (.ref C) cv = some (tab.contains cu.c)) (m : Ex) (σ : L2.St) (H : Hp) (Q : VK)
    (h : tE G K W (ev F (.op (.x (.isx tab)) [m])) σ H Q) : tCB (rIsX K C cu.a cu.dd) (tCons (tE G K W (ev F m)) (tCons (tC cy) tNil)) σ H Q := by
  obtain ⟨ρ, env, st, rel, q⟩ := h
  have q : Lf G K (fun c d H' => W c d σ H') ρ H (((ev F m env st).bind fun d st1 => R.ok [d] st1).bind fun ds st1 => opSem (.x (.isx tab)) ds st1) (Val1 K Q) := q
  refine ⟨ρ, env, st, rel, q.bind.bind.imp fun d st1 ρ1 H1 e1 s1 q1 x rx => ?_⟩
  have q1 := q1.ok s1
  cases d with
  | loc l =>
    have q1 : Lf G K (fun c d H' => W c d σ H') ρ1 H1 (match st1[l]? with | some (.exn c _) => .ok (.bl (tab.contains c)) st1 | _ => .bad) (Val1 K Q) := q1
    split at q1
    · rename_i c p hx
      obtain ⟨hx1, hx2, v, hx3, hx4⟩ := exn_at hcur s1 rx hx
      subst hx1
      subst hx2
      exact ⟨cy, cv, tab.contains cu.c, _, rfl, hy, hk, hx3, okv q1 s1 (.bl _)⟩
    · exact q1.elim
  | _ => exact q1.elim
/-- no exception is held: nothing to ask -/
theorem isx_dead {K : PySem.W.Frag} {tab : List Nat} {m : Ex} (hv : isV m = true) (hcur : G.cur = none) (σ : L2.St) (H : Hp) (Q : VK) (h : tE G K W (ev F (.op (.x (.isx tab)) [m])) σ H Q) : False := by
  cases m <;> first | (cases hv; done) | skip
  rename_i i
  obtain ⟨ρ, env, st, rel, q⟩ := h
  have q : Lf G K (fun c d H' => W c d σ H') ρ H (((match env[i]? with | some (some d) => R.ok d st | _ => .bad).bind fun d st1 => R.ok [d] st1).bind fun ds st1 => opSem (.x (.isx tab)) ds st1) (Val1 K Q) := q
  split at q
  · rename_i d hd
    cases d with
    | loc l =>
      have q : Lf G K (fun c d H' => W c d σ H') ρ H (match st[l]? with | some (.exn c _) => .ok (.bl (tab.contains c)) st | _ => .bad) (Val1 K Q) := q
      split at q
      · rename_i c p hx
        obtain ⟨_, _, cu, _, z, _⟩ := rel.s.obj l _ hx
        rw [hcur] at z; cases z
      · exact q.elim
    | _ => exact q.elim
  · exact q.elim
end

/-! ## raise C(e) -/
section
variable {X : Cx} {pins : List (Addr × Obj)} {σ : L2.St} {Q : XK}
theorem mkN_end {H1 H2 : Hp} {s1 : Shared} {h1 h2 : Heap} {g2 : Array GenState} {d2 : Drawn} {t2 : Nat} {os2 : OsState} {a C d : Addr} {fs : List (Str × V)} (T : Raises X (.ref C)) (I1 : Inv X pins σ H1 s1) (ha : s1.heap.objs.size ≤ a)
    (k : ∀ b o, s1.heap.get? b = some o → h1.get? b = some o) (un : Un (frs X.stack) [] (upd H1 a (exo a C none)) H2 h1 h2) (hok : HOk X.prog X.w H2 h2) (ho : os2 = s1.os) (hb : AllBare g2) (ea : H2 a = some (exo a C (some d)))
    (ed : H2 d = some (exd d fs)) (hd1 : H1 d = none) (q : Q (.ref C) (some d) (upd (del H2 a) d (.xd fs))) : L2N.MkP X pins σ Q (.ref a) ⟨h2, g2, d2, t2, os2⟩ := by
  obtain ⟨hp, g1, d1, t1, os1⟩ := s1
  obtain ⟨tt, GG, J, kG, ge, hoe, na⟩ := mk_end0 (d2 := d2) (t2 := t2) I1 ha k un hok ho hb ea ed hd1
  have zn : L2N.Zn (.ref C) (some d) ({ cls := .ref C, dict := some d, data := .fields #[.ref tt, .none, .none, .none, .bool false, .none] } : Obj) := ⟨rfl, rfl, fun vs e => by cases e; rfl⟩
  exact ⟨a, _, _, ⟨GG, g2, d2, t2, os2⟩, _, .ref C, some d, rfl, J, kG, ge, hoe, zn, rfl, rfl, na, rfl, hb, T, q⟩
theorem pmkN_oex {x : Str} {C fI : Addr} {fd : FuncData} {ps : List Str} {sp : Sp} {n : Nat} {e : Expr} {ta : TA} {p pos : Pos} (T : OexC X.K C) (iC : PySem.W.findIn X.K (.ref C) "__init__" = some (some (.ref fI)))
    (tI : PySem.W.typeIn X.K (.ref fI) = some (.type "function")) (F1 : FnOk X.prog X.w X.K X.mg X.base (CXN X.prog X.w) n fI fd ps sp) (hr : Room (n + 1) X.A) (hb : Binds X.K fd ps []) (hg : Gl X x) (hm : X.mg x = some (.ref C)) (ha : PA X [e] ta)
    (hdb : (x == ("__debug__" : Str)) = false) (he : starEach [e] X.env = (false, eval e X.env) :: starEach [] X.env) : L2N.PMk X (.Call (.Name x p) [e] [] pos) (tMkO C sp [] ta) := by
  intro pins s σ H Q I h
  obtain ⟨nm, qn, NN, bs, bm, sn, sub, ab, col, dd, m0, m1, m2, m3, m5, hC, hbm⟩ := T.cls
  refine wpAny_Call_Name_kw (ld_glob I hg hm ?_ hdb)
  refine PySem.W.callWith_K (h₀ := X.base) I.ok.mod.kin T.kC (thn (ha.run pos pins s σ H _ I h) ?_) he rfl
  intro us s1 ⟨vs, H1, I1, r1, hz, q1⟩
  refine ⟨I1.kIn, ?_⟩
  show wpAny _ _ (call (.ref C) us) _ _ _
  obtain ⟨h0, g0, w0, t0, os0⟩ := s1
  have step : h0.objs.size ≤ h0.objs.size + 1 := Nat.le_succ _
  have hq := q1 (h0.objs.size + 1) (I1.hok.fresh step)
  have old : ∀ b o, h0.get? b = some o → ((h0.push (PySem.W.kdv_tup us)).push (PySem.HandSPX.excO C h0.objs.size)).get? b = some o := fun _ _ z => Heap.get?_push_of_some _ (Heap.get?_push_of_some _ z)
  have new : ((h0.push (PySem.W.kdv_tup us)).push (PySem.HandSPX.excO C h0.objs.size)).get? (h0.objs.size + 1) = some (PySem.HandSPX.excO C h0.objs.size) := by heap_get
  have I2 := I1.laid (t' := t0) (a := h0.objs.size + 1) (o := exo (h0.objs.size + 1) C none) old step (exo_ok new)
  have r2 : Vals (V.ref (h0.objs.size + 1) :: vs) (Value.ref (h0.objs.size + 1) :: us) := .cons rfl r1
  rw [List.append_nil] at hq
  have hl : (Value.ref (h0.objs.size + 1) :: us).length = ps.length := r2.length.symm.trans (F1.len _ _ _ _ hq)
  have hus : us.length ≤ sizeLine := by
    have : vs.length = us.length := Paired.length r1
    rw [sizeLine_eq]; omega
  have bd := hb _ (Value.ref (h0.objs.size + 1) :: us) I2.kIn (by rw [List.append_nil]; exact hl)
  rw [List.append_nil] at bd
  have go := F1.run _ X.stack _ _ ⟨Value.ref (h0.objs.size + 1) :: us, []⟩ _ _ _ (fun _ _ _ => False) (hr.make C us []) (I2.env0.make C us []) bd r2 hq
  refine wpAny_call (PySem.HandSPX.call_own F.excBase_ValueError (fun Y => PySem.HandSPX.refsVE_contains Y bm hbm) (I1.kIn _ _ hC) (PySem.W.looks_findIn I1.kIn iC) (fun self => PySem.W.bind_fn I1.kIn self tI) hus (codeAny_mono go ?_))
  intro r s' hq'
  match r, hq' with
  | .error er, hq' =>
    obtain ⟨_, _, _, _, _, _, _, _, _, _, _, _, z⟩ := hq'
    exact z.elim
  | .ok (.ret u), hq' =>
    obtain ⟨v, H2, os2, bare2, un2, hok2, rv, ev, d, fs, ea, ed, hd1, q2⟩ := hq'
    subst ev
    obtain ⟨h2, g2, d2, t2, os'⟩ := s'
    exact ⟨rv, mkN_end (raises_own T.exC T.tyC) I1 step old un2 hok2 os2 bare2 ea ed hd1 q2⟩
end
end Z

set_option autoImplicit false
set_option maxHeartbeats 2000000
namespace Z
open PySem PySem.Spec PyProof.Rows L2

section
variable {G : GC} {P : List Fd} {k : Nat} {X : Cx} {c : Cc} {W : WX} {F : FT}
theorem XG.blk (g : XG G P k X c) (hh : c.hot = false) {s : Shared} {H : Hp} {scope : Scope} {cl : List (Str × Addr)} {C : Addr} {fp : List Addr} : XG G P k (X.blk s H scope (compEnvC scope cl C X.env) fp) (c.blk scope) where
  N := g.N
  nd := g.nd
  sc := by
    show relS scope X.env.scope = relS scope c.sc
    rw [g.sc]
  calm := fun _ => g.calm hh
  fn := .inr ⟨rfl, fun _ => rfl⟩
  room := fun _ => g.room hh
  roomH := g.roomH
  po := PassesOwn.never
  top := fun z => Bool.noConfusion z
  nocur := fun _ => g.nocur hh
  hotc := fun z => Bool.noConfusion z
  curx := fun z => Bool.noConfusion z
  blt := g.blt
  fns := g.fns
  co := g.co
  ex := g.ex
  exb := g.exb
  cls := g.cls
theorem bl_of (g : XG G P k X c) {x : Str} (h : c.bl x = true) : Gl X x ∧ X.mg x = none ∧ okName x = true := by
  unfold Cc.bl at h
  rw [Bool.and_eq_true, Bool.and_eq_true] at h
  exact ⟨gl_of g h.1.1, g.blt x h.1.2, h.2⟩
theorem plain_of1 {n : Nat} {e : Expr} {m : Ex} (h : trE1 n c e = some m) : plain e = true := by
  cases n with
  | zero => cases h
  | succ n => cases e <;> first | rfl | (unfold trE1 at h; cases h)
/-- sealed or not -/
theorem trE_cases {n : Nat} {e : Expr} {m : Ex} (h : trE (n + 1) c e = some m) : (∃ m', trE1 n c e = some m' ∧ m = .sealE m') ∨ trE1 n c e = some m := by
  unfold trE at h
  split at h
  · cases q : trE1 n c e with
    | none => rw [q] at h; cases h
    | some m' => rw [q] at h; cases h; exact .inl ⟨m', rfl, rfl⟩
  · exact .inr h
theorem plain_of {n : Nat} {e : Expr} {m : Ex} (h : trE n c e = some m) : plain e = true := by
  cases n with
  | zero => cases h
  | succ n => rcases trE_cases h with ⟨m', h, _⟩ | h <;> exact plain_of1 h

/-! ### readings of the machine's parts -/
theorem var_ok {i : Nat} (σ : L2.St) (H : Hp) (Q : VK) (h : tE G X.K W (ev F (.v i)) σ H Q) : tVar i σ H Q := by
  obtain ⟨ρ, env, st, rel, q⟩ := h
  have q : Lf G X.K (fun c d H' => W c d σ H') ρ H (match env[i]? with | some (some d) => .ok d st | _ => .bad) (Val1 X.K Q) := q
  split at q
  · rename_i d hd
    obtain ⟨v, hv, rv⟩ := rel.e.at_ i d hd
    exact ⟨v, hv, okv q rel.s rv⟩
  · exact q.elim
theorem cst_ok {d : D} {v : V} (hv : ∀ ρ H, Rv X.K ρ H d v) (σ : L2.St) (H : Hp) (Q : VK) (h : tE G X.K W (ev F (.c d)) σ H Q) : tC v σ H Q := by
  obtain ⟨ρ, env, st, rel, q⟩ := h
  exact okv q rel.s (hv ρ H)
theorem not_ok (a : Ex) (σ : L2.St) (H : Hp) (Q : VK) (h : tE G X.K W (ev F (.not a)) σ H Q) : tNotT X.K (tE G X.K W (ev F a)) σ H Q := by
  obtain ⟨ρ, env, st, rel, q⟩ := h
  have q := Lf.bind (f := fun x st1 => match truth st1 x with | some k => R.ok (D.bl (!k)) st1 | none => .bad) q
  refine ⟨ρ, env, st, rel, q.imp fun d st1 ρ1 H1 e1 s1 q1 v rv => ?_⟩
  cases ht : truth st1 d with
  | none => rw [ht] at q1; exact q1.elim
  | some b => rw [ht] at q1; exact ⟨b, truV_of s1 rv ht, okv q1 s1 (.bl _)⟩
theorem notT_ok (a : Ex) (σ : L2.St) (H : Hp) (Q : Bool → Hp → Prop) (h : tT G X.K W (ev F (.not a)) σ H Q) : tNot (tT G X.K W (ev F a)) σ H Q := by
  obtain ⟨ρ, env, st, rel, q⟩ := h
  have q := Lf.bind (f := fun x st1 => match truth st1 x with | some k => R.ok (D.bl (!k)) st1 | none => .bad) q
  refine ⟨ρ, env, st, rel, q.imp fun d st1 ρ1 H1 e1 s1 q1 => ?_⟩
  cases ht : truth st1 d with
  | none => rw [ht] at q1; exact q1.elim
  | some b =>
    rw [ht] at q1
    obtain ⟨k, hk, q1⟩ := q1.ok s1
    cases hk
    exact ⟨b, rfl, q1⟩
theorem and_ok (a b : Ex) (σ : L2.St) (H : Hp) (Q : VK) (h : tE G X.K W (ev F (.and a b)) σ H Q) : tAndT X.K (tE G X.K W (ev F a)) (tE G X.K W (ev F b)) σ H Q := by
  obtain ⟨ρ, env, st, rel, q⟩ := h
  have q := Lf.bind (f := fun x st1 => match truth st1 x with | some true => ev F b env st1 | some false => .ok x st1 | none => .bad) q
  refine ⟨ρ, env, st, rel, q.imp fun d st1 ρ1 H1 e1 s1 q1 v rv => ?_⟩
  cases ht : truth st1 d with
  | none => rw [ht] at q1; exact q1.elim
  | some k =>
    rw [ht] at q1
    refine ⟨k, truV_of s1 rv ht, ?_⟩
    cases k with
    | true => rw [if_pos rfl]; exact ⟨ρ1, env, st1, ⟨s1, rel.e.ext e1⟩, q1⟩
    | false => rw [if_neg Bool.false_ne_true]; exact okv q1 s1 rv
theorem or_ok (a b : Ex) (σ : L2.St) (H : Hp) (Q : VK) (h : tE G X.K W (ev F (.or a b)) σ H Q) : tOrT X.K (tE G X.K W (ev F a)) (tE G X.K W (ev F b)) σ H Q := by
  obtain ⟨ρ, env, st, rel, q⟩ := h
  have q := Lf.bind (f := fun x st1 => match truth st1 x with | some true => .ok x st1 | some false => ev F b env st1 | none => .bad) q
  refine ⟨ρ, env, st, rel, q.imp fun d st1 ρ1 H1 e1 s1 q1 v rv => ?_⟩
  cases ht : truth st1 d with
  | none => rw [ht] at q1; exact q1.elim
  | some k =>
    rw [ht] at q1
    refine ⟨k, truV_of s1 rv ht, ?_⟩
    cases k with
    | true => rw [if_pos rfl]; exact okv q1 s1 rv
    | false => rw [if_neg Bool.false_ne_true]; exact ⟨ρ1, env, st1, ⟨s1, rel.e.ext e1⟩, q1⟩
theorem andT_ok (a b : Ex) (σ : L2.St) (H : Hp) (Q : Bool → Hp → Prop) (h : tT G X.K W (ev F (.and a b)) σ H Q) : tAnd (tT G X.K W (ev F a)) (tT G X.K W (ev F b)) σ H Q := by
  obtain ⟨ρ, env, st, rel, q⟩ := h
  have q := Lf.bind (f := fun x st1 => match truth st1 x with | some true => ev F b env st1 | some false => .ok x st1 | none => .bad) q
  refine ⟨ρ, env, st, rel, q.imp fun d st1 ρ1 H1 e1 s1 q1 => ?_⟩
  cases ht : truth st1 d with
  | none => rw [ht] at q1; exact q1.elim
  | some k =>
    rw [ht] at q1
    refine ⟨k, rfl, ?_⟩
    cases k with
    | true => rw [if_pos rfl]; exact ⟨ρ1, env, st1, ⟨s1, rel.e.ext e1⟩, q1⟩
    | false =>
      rw [if_neg Bool.false_ne_true]
      obtain ⟨k, hk, q1⟩ := q1.ok s1
      rw [ht] at hk; cases hk
      exact q1
theorem orT_ok (a b : Ex) (σ : L2.St) (H : Hp) (Q : Bool → Hp → Prop) (h : tT G X.K W (ev F (.or a b)) σ H Q) : tOr (tT G X.K W (ev F a)) (tT G X.K W (ev F b)) σ H Q := by
  obtain ⟨ρ, env, st, rel, q⟩ := h
  have q := Lf.bind (f := fun x st1 => match truth st1 x with | some true => .ok x st1 | some false => ev F b env st1 | none => .bad) q
  refine ⟨ρ, env, st, rel, q.imp fun d st1 ρ1 H1 e1 s1 q1 => ?_⟩
  cases ht : truth st1 d with
  | none => rw [ht] at q1; exact q1.elim
  | some k =>
    rw [ht] at q1
    refine ⟨k, rfl, ?_⟩
    cases k with
    | true =>
      rw [if_pos rfl]
      obtain ⟨k, hk, q1⟩ := q1.ok s1
      rw [ht] at hk; cases hk
      exact q1
    | false => rw [if_neg Bool.false_ne_true]; exact ⟨ρ1, env, st1, ⟨s1, rel.e.ext e1⟩, q1⟩
theorem ifx_ok (t a b : Ex) (σ : L2.St) (H : Hp) (Q : VK) (h : tE G X.K W (ev F (.ifx t a b)) σ H Q) : tIf (tT G X.K W (ev F t)) (tE G X.K W (ev F a)) (tE G X.K W (ev F b)) σ H Q := by
  obtain ⟨ρ, env, st, rel, q⟩ := h
  have q := Lf.bind (f := fun x st1 => match truth st1 x with | some true => ev F a env st1 | some false => ev F b env st1 | none => .bad) q
  refine ⟨ρ, env, st, rel, q.imp fun d st1 ρ1 H1 e1 s1 q1 => ?_⟩
  cases ht : truth st1 d with
  | none => rw [ht] at q1; exact q1.elim
  | some k =>
    rw [ht] at q1
    refine ⟨k, rfl, ?_⟩
    cases k with
    | true => rw [if_pos rfl]; exact ⟨ρ1, env, st1, ⟨s1, rel.e.ext e1⟩, q1⟩
    | false => rw [if_neg Bool.false_ne_true]; exact ⟨ρ1, env, st1, ⟨s1, rel.e.ext e1⟩, q1⟩
theorem ifxT_ok (t a b : Ex) (σ : L2.St) (H : Hp) (Q : Bool → Hp → Prop) (h : tT G X.K W (ev F (.ifx t a b)) σ H Q) : tT G X.K W (ev F t) σ H fun k H1 => if k = true then tT G X.K W (ev F a) σ H1 Q else tT G X.K W (ev F b) σ H1 Q := by
  obtain ⟨ρ, env, st, rel, q⟩ := h
  have q := Lf.bind (f := fun x st1 => match truth st1 x with | some true => ev F a env st1 | some false => ev F b env st1 | none => .bad) q
  refine ⟨ρ, env, st, rel, q.imp fun d st1 ρ1 H1 e1 s1 q1 => ?_⟩
  cases ht : truth st1 d with
  | none => rw [ht] at q1; exact q1.elim
  | some k =>
    rw [ht] at q1
    refine ⟨k, rfl, ?_⟩
    cases k with
    | true => rw [if_pos rfl]; exact ⟨ρ1, env, st1, ⟨s1, rel.e.ext e1⟩, q1⟩
    | false => rw [if_neg Bool.false_ne_true]; exact ⟨ρ1, env, st1, ⟨s1, rel.e.ext e1⟩, q1⟩
theorem pt_ifExp {t a b : Expr} {pos : Pos} {tt ta tb : TT} (hc : PT X t tt) (ha : PT X a ta) (hb : PT X b tb) : PT X (.IfExp t a b pos) fun σ H Q => tt σ H fun k H1 => if k = true then ta σ H1 Q else tb σ H1 Q := by
  refine ⟨fun pins s σ H Q I h => ?_⟩
  show wpAny _ _ (do if ← isTrue t X.env (eval t X.env) then isTrue a X.env (eval a X.env) else isTrue b X.env (eval b X.env)) _ _ _
  refine wpAny_bind (thn (hc.run pins s σ H _ I h) fun d s1 ⟨H1, I1, q1⟩ => ?_)
  cases d with
  | true => exact ha.run pins s1 σ H1 Q I1 q1
  | false => exact hb.run pins s1 σ H1 Q I1 q1
theorem pw_bool {op : BoolOp} {vs : List Expr} {pos : Pos} {t : TT} (h : PT X (.BoolOp op vs pos) t) : PW X (.BoolOp op vs pos) t := ⟨fun wh pins s σ H Q I q => h.run pins s σ H Q I q⟩

/-! ### slices -/
def slArgs (a : Ex) (lo hi : Option Ex) : List Ex := match lo, hi with
  | none, none => [a]
  | some l, none => [a, l]
  | none, some h => [a, h]
  | some l, some h => [a, .op .asInt [l], h]
theorem sl_ok (a : Ex) (lo hi : Option Ex) (σ : L2.St) (H : Hp) (Q : VK) (h : tE G X.K W (ev F (.op (.sl lo.isSome hi.isSome) (slArgs a lo hi))) σ H Q) :
    tSl (rSlZ X.K) (tE G X.K W (ev F a)) (match lo with | none => tNoPart | some l => tPart (tE G X.K W (ev F l))) (match hi with | none => tNoPart | some l => tPart (tE G X.K W (ev F l))) σ H Q := by
  obtain ⟨ρ, env, st, rel, q⟩ := h
  match lo, hi with
  | none, none =>
    have q : Lf G X.K (fun c d H' => W c d σ H') ρ H (((ev F a env st).bind fun d st1 => R.ok [d] st1).bind fun ds st1 => opSem (.sl false false) ds st1) (Val1 X.K Q) := q
    refine ⟨ρ, env, st, rel, q.bind.bind.imp fun d st1 ρ1 H1 e1 s1 q1 x rx => ?_⟩
    exact od_sl s1 rx (q1.ok s1)
  | some l, none =>
    have q : Lf G X.K (fun c d H' => W c d σ H') ρ H (((ev F a env st).bind fun d st1 => ((ev F l env st1).bind fun e st2 => R.ok [e] st2).bind fun ds st2 => R.ok (d :: ds) st2).bind fun ds st1 => opSem (.sl true false) ds st1) (Val1 X.K Q) := q
    refine ⟨ρ, env, st, rel, q.bind.bind.imp fun d st1 ρ1 H1 e1 s1 q1 x rx => ?_⟩
    refine ⟨ρ1, env, st1, ⟨s1, rel.e.ext e1⟩, q1.bind.bind.imp fun e st2 ρ2 H2 e2 s2 q2 y ry => ?_⟩
    have q2 := (q2.ok s2).ok s2
    cases ry with
    | int i => exact ⟨i, rfl, od_sl s2 (rx.ext e2) q2⟩
    | _ => exact q2.elim
  | none, some l =>
    have q : Lf G X.K (fun c d H' => W c d σ H') ρ H (((ev F a env st).bind fun d st1 => ((ev F l env st1).bind fun e st2 => R.ok [e] st2).bind fun ds st2 => R.ok (d :: ds) st2).bind fun ds st1 => opSem (.sl false true) ds st1) (Val1 X.K Q) := q
    refine ⟨ρ, env, st, rel, q.bind.bind.imp fun d st1 ρ1 H1 e1 s1 q1 x rx => ?_⟩
    refine ⟨ρ1, env, st1, ⟨s1, rel.e.ext e1⟩, q1.bind.bind.imp fun e st2 ρ2 H2 e2 s2 q2 y ry => ?_⟩
    have q2 := (q2.ok s2).ok s2
    cases ry with
    | int i => exact ⟨i, rfl, od_sl s2 (rx.ext e2) q2⟩
    | _ => exact q2.elim
  | some l, some m =>
    have q : Lf G X.K (fun c d H' => W c d σ H') ρ H (((ev F a env st).bind fun d st1 => ((((ev F l env st1).bind fun e st2 => R.ok [e] st2).bind fun ds st2 => opSem .asInt ds st2).bind fun e st2 => ((ev F m env st2).bind fun f st3 => R.ok [f] st3).bind fun ds st3 => R.ok (e :: ds) st3).bind fun ds st2 => R.ok (d :: ds) st2).bind fun ds st1 => opSem (.sl true true) ds st1) (Val1 X.K Q) := q
    refine ⟨ρ, env, st, rel, q.bind.bind.imp fun d st1 ρ1 H1 e1 s1 q1 x rx => ?_⟩
    refine ⟨ρ1, env, st1, ⟨s1, rel.e.ext e1⟩, q1.bind.bind.bind.bind.imp fun e st2 ρ2 H2 e2 s2 q2 y ry => ?_⟩
    have q2 := q2.ok s2
    cases ry with
    | int i =>
      refine ⟨i, rfl, ρ2, env, st2, ⟨s2, rel.e.ext (e1.trans e2)⟩, ((q2.ok s2).bind.bind).imp fun f st3 ρ3 H3 e3 s3 q4 z rz => ?_⟩
      have q4 := ((q4.ok s3).ok s3).ok s3
      cases rz with
      | int j => exact ⟨j, rfl, od_sl s3 (rx.ext (e2.trans e3)) q4⟩
      | _ => exact q4.elim
    | _ => exact q2.elim

/-! ### calls -/
theorem evs_app {es : List Ex} {ds : List D} {env : Env} : ∀ {st : Store}, evs F (es ++ ds.map Ex.c) env st = (evs F es env st).bind fun xs st1 => .ok (xs ++ ds) st1 := by
  induction es with
  | nil =>
    intro st
    show evs F (ds.map Ex.c) env st = .ok ds st
    induction ds with
    | nil => rfl
    | cons d ds ih =>
      show (evs F (ds.map Ex.c) env st).bind (fun xs st2 => R.ok (d :: xs) st2) = _
      rw [ih]; rfl
  | cons e es ih =>
    intro st
    show (ev F e env st).bind (fun d st1 => (evs F (es ++ ds.map Ex.c) env st1).bind fun xs st2 => R.ok (d :: xs) st2) = ((ev F e env st).bind fun d st1 => (evs F es env st1).bind fun xs st2 => R.ok (d :: xs) st2).bind fun xs st1 => .ok (xs ++ ds) st1
    cases ev F e env st with
    | ok d st1 =>
      show (evs F (es ++ ds.map Ex.c) env st1).bind _ = ((evs F es env st1).bind _).bind _
      rw [ih]
      cases evs F es env st1 <;> rfl
    | exc => rfl
    | bad => rfl
theorem call_ok {f : Nat} {es : List Ex} {ds : List D} {vs : List V} (hv : ∀ ρ H, Rvs X.K ρ H ds vs) (σ : L2.St) (H : Hp) (Q : VK) (h : tE G X.K W (ev (run P k) (.call f (es ++ ds.map Ex.c))) σ H Q) :
    tCallSD (spF G X.K P k f) vs (WE W) (tA G X.K W (evs (run P k) es)) σ H Q := by
  obtain ⟨ρ, env, st, rel, q⟩ := h
  have q : Lf G X.K (fun c d H' => W c d σ H') ρ H ((evs (run P k) (es ++ ds.map Ex.c) env st).bind fun xs st1 => run P k f xs st1) (Val1 X.K Q) := q
  rw [evs_app] at q
  refine ⟨ρ, env, st, rel, q.bind.bind.imp fun xs st1 ρ1 H1 e1 s1 q1 us rus => ?_⟩
  exact ⟨ρ1, st1, xs ++ ds, s1, rus.append (hv ρ1 H1), q1.ok s1⟩
theorem call_ok' {raw : Bool} {f : Nat} {es : List Ex} {ds : List D} {vs : List V} (hv : ∀ ρ H, Rvs X.K ρ H ds vs) (σ : L2.St) (H : Hp) (Q : VK) (h : tE G X.K W (ev (run P k) (mkCall raw f (es ++ ds.map Ex.c))) σ H Q) :
    tCallSD (spF G X.K P k f) vs (WE W) (tA G X.K W (evs (run P k) es)) σ H Q := by
  cases raw with
  | true => exact call_ok hv σ H Q h
  | false =>
    obtain ⟨ρ, env, st, rel, q⟩ := h
    have q : Lf G X.K (fun c d H' => W c d σ H') ρ H ((evs (run P k) (es ++ ds.map Ex.c) env st).bind fun xs st1 => closeR st1 (run P k f xs st1)) (Val1 X.K Q) := q
    rw [evs_app] at q
    have e2 : ((evs (run P k) es env st).bind fun xs st1 => R.ok (xs ++ ds) st1).bind (fun xs st1 => closeR st1 (run P k f xs st1)) = (evs (run P k) es env st).bind fun xs st1 => closeR st1 (run P k f (xs ++ ds) st1) := by
      cases evs (run P k) es env st <;> rfl
    rw [e2] at q
    refine ⟨ρ, env, st, rel, q.bind.imp fun xs st1 ρ1 H1 e1 s1 q1 us rus => ?_⟩
    exact ⟨ρ1, st1, xs ++ ds, s1, rus.append (hv _ _), close_ok s1 q1 fun d d' st2 ρ2 H2 e s h1 h2 h3 v rv => h3 v (h2 v rv)⟩
end

section
variable {G : GC} {P : List Fd} {k : Nat}
theorem cmp_bl {op : CmpOp} {o : Op} (ho : opCmp op = some o) : ∀ d e st z st', opSem o [d, e] st = .ok z st' → ∃ k, z = .bl k := by
  intro d e st z st' h
  cases op <;> first | (cases ho; done) | skip
  all_goals cases ho
  · have h : (match eqSem d e st with | some k => R.ok (D.bl k) st | none => .bad) = .ok z st' := h
    split at h <;> cases h
    exact ⟨_, rfl⟩
  · have h : (match eqSem d e st with | some k => R.ok (D.bl (!k)) st | none => .bad) = .ok z st' := h
    split at h <;> cases h
    exact ⟨_, rfl⟩
  · (cases d <;> cases e <;> cases h <;> exact ⟨_, rfl⟩)
  · (cases d <;> cases e <;> cases h <;> exact ⟨_, rfl⟩)
  · (cases d <;> cases e <;> cases h <;> exact ⟨_, rfl⟩)
  · (cases d <;> cases e <;> cases h <;> exact ⟨_, rfl⟩)
  · (cases d <;> cases e <;> cases h <;> exact ⟨_, rfl⟩)
  · (cases d <;> cases e <;> cases h <;> exact ⟨_, rfl⟩)
  · have h : (match inSem d e st with | some k => R.ok (D.bl k) st | none => .bad) = .ok z st' := h
    split at h <;> cases h
    exact ⟨_, rfl⟩
  · have h : (match inSem d e st with | some k => R.ok (D.bl (!k)) st | none => .bad) = .ok z st' := h
    split at h <;> cases h
    exact ⟨_, rfl⟩
theorem tyOf_boot {y : Str} {t : Ty} (h : tyOf y = some t) : bootBuiltins y = some (.type (tyName t)) := by
  unfold tyOf at h
  split at h
  · rename_i e
    cases h
    rw [show y = "int" by simpa using e]; decide +kernel
  · split at h
    · rename_i e
      cases h
      rw [show y = "bool" by simpa using e]; decide +kernel
    · split at h
      · rename_i e
        cases h
        rw [show y = "str" by simpa using e]; decide +kernel
      · split at h
        · rename_i e
          cases h
          rw [show y = "list" by simpa using e]; decide +kernel
        · split at h
          · rename_i e
            cases h
            rw [show y = "tuple" by simpa using e]; decide +kernel
          · cases h
theorem fold_plain {e : Expr} {env : PySem.Env} (h : plain e = true) : ∀ x, foldedSetIterable e env x = pure x := by
  intro x
  cases e <;> first | rfl | (cases h)
theorem str_eta (x : Str) : (⟨x.cps.toList.toArray⟩ : Str) = x := by cases x; simp
def SProp (G : GC) (P : List Fd) (k n : Nat) : Prop :=
    (∀ (X : Cx) (c : Cc) (e : Expr) (m : Ex) (W : WX), XG G P k X c → L2N.Takes X W → trE n c e = some m → PE X e (tE G X.K W (ev (run P k) m)) ∧ PT X e (tT G X.K W (ev (run P k) m))) ∧
    (∀ (X : Cx) (c : Cc) (es : List Expr) (ms : List Ex) (W : WX), XG G P k X c → L2N.Takes X W → es.all plain = true → trEs n c es = some ms → PA X es (tA G X.K W (evs (run P k) ms)) ∧ ms.length = es.length ∧ ∀ e m, es = [e] → ms = [m] → PT X e (tT G X.K W (ev (run P k) m))) ∧
    (∀ (X : Cx) (c : Cc) (tg e : Expr) (kk : Ik) (ms : List Ex) (W : WX), XG G P k X c → L2N.Takes X W → trIt n c e = some (kk, ms) → PI X tg e (tI G X.K W kk (evs (run P k) ms))) ∧
    (∀ (X : Cx) (c : Cc) (e : Expr) (m : Ex) (W : WX), XG G P k X c → L2N.Takes X W → trE1 n c e = some m → PE X e (tE G X.K W (ev (run P k) m)) ∧ PT X e (tT G X.K W (ev (run P k) m)))
theorem lc_parts1 {n : Nat} (ih : SProp G P k n) {X : Cx} {c : Cc} {elt : Expr} {gs : List Comprehension} {scope : Scope} {pos : Pos} {m : Ex} {W : WX} (g : XG G P k X c) (tk : L2N.Takes X W) (h : trE1 (n + 1) c (.ListComp elt gs scope pos) = some m) :
    ∃ (t iter : Expr) (ifs : List Expr) (own : List (Str × Nat)) (wi : TI) (tg : TG) (tt : TT) (te : TE), gs = [⟨t, iter, ifs, 0⟩] ∧ PI X t iter wi ∧ BlkOk X.N X.env.scope scope own ∧
      (∀ (s : Shared) (H : Hp) (C : Addr) (cl : List (Str × Addr)) (fp : List Addr), PG (X.blk s H scope (compEnvC scope cl C X.env) fp) t tg) ∧
      (∀ (s : Shared) (H : Hp) (C : Addr) (cl : List (Str × Addr)) (fp : List Addr), PTs (X.blk s H scope (compEnvC scope cl C X.env) fp) ifs tt) ∧
      (∀ (s : Shared) (H : Hp) (C : Addr) (cl : List (Str × Addr)) (fp : List Addr), PE (X.blk s H scope (compEnvC scope cl C X.env) fp) elt te) ∧
      (∀ x, foldedSetIterable iter X.env x = pure x) ∧ c.hot = false ∧ ∀ σ H Q, tE G X.K W (ev (run P k) m) σ H Q → tLc wi tg tt te (own.map (·.2)) σ H Q := by
  obtain ⟨ih1, ih2, ih3, ih4⟩ := ih
  have h : (match (generalizing := false) gs with
      | [⟨t, iter, ifs, 0⟩] => if !c.hot && (blkC c.N c.sc scope (ownOf c.N scope.names) && plain iter) then
          (match trTg (c.blk scope) n t, trIt n c iter, trEs n (c.blk scope) ifs, trE n (c.blk scope) elt with
          | some mt, some (k, src), some mi, some me => if (slotsT mt).all (((ownOf c.N scope.names).map (·.2)).contains ·) && decide (mi.length ≤ 1) then some (.comp ((ownOf c.N scope.names).map (·.2)) mt k src mi me) else none
          | _, _, _, _ => none) else none
      | _ => none) = some m := h
  split at h
  · rename_i t iter ifs _
    split at h
    · rename_i hc
      rw [Bool.and_eq_true, Bool.and_eq_true, Bool.not_eq_true'] at hc
      obtain ⟨hh, hc⟩ := hc
      split at h
      · rename_i mt kk src mi me ht hi hif he
        split at h
        · rename_i hs
          cases h
          rw [Bool.and_eq_true, List.all_eq_true, decide_eq_true_eq] at hs
          obtain ⟨q1, q2, q3⟩ : (∀ (s : Shared) (H : Hp) (C : Addr) (cl : List (Str × Addr)) (fp : List Addr), PTs (X.blk s H scope (compEnvC scope cl C X.env) fp) ifs (tTs G X.K (run P k) mi)) ∧ True ∧ True := by
            refine ⟨fun s H C cl fp => ?_, trivial, trivial⟩
            match ifs, mi, hs.2, hif with
            | [], mi, hz, hif =>
              cases n with
              | zero => cases hif
              | succ n => cases hif; exact pts_nil
            | [e], mi, hz, hif =>
              have hpe : [e].all plain = true := by
                cases n with
                | zero => cases hif
                | succ n =>
                  have hif : (match trE n (c.blk scope) e, trEs n (c.blk scope) [] with | some a, some b => some (a :: b) | _, _ => none) = some mi := hif
                  split at hif
                  · rename_i a b ha hb
                    rw [List.all_cons, plain_of ha]; rfl
                  · cases hif
              obtain ⟨_, p2, p3⟩ := ih2 _ (c.blk scope) [e] mi W0 (g.blk hh (s := s) (H := H) (scope := scope) (cl := cl) (C := C) (fp := fp)) takesN0 hpe hif
              match mi, p2 with
              | [m], _ => exact pts_one (p3 e m rfl rfl)
            | e1 :: e2 :: r, mi, hz, hif =>
              exfalso
              cases n with
              | zero => cases hif
              | succ n =>
                have hif : (match trE n (c.blk scope) e1, trEs n (c.blk scope) (e2 :: r) with | some a, some b => some (a :: b) | _, _ => none) = some mi := hif
                split at hif
                · rename_i a b ha hb
                  cases hif
                  cases n with
                  | zero => cases hb
                  | succ n =>
                    have hb : (match trE n (c.blk scope) e2, trEs n (c.blk scope) r with | some a, some b => some (a :: b) | _, _ => none) = some b := hb
                    split at hb
                    · cases hb
                      simp at hz
                    · cases hb
                · cases hif
          exact ⟨t, iter, ifs, ownOf c.N scope.names, _, _, _, _, rfl, ih3 X c t iter kk src W g tk hi, by rw [g.N, g.sc]; exact blkOk_by hc.1,
          fun s H C cl fp => (trTg_ok n).1 _ (c.blk scope) t mt (g.blk hh (s := s) (H := H) (scope := scope) (cl := cl) (C := C) (fp := fp)) ht, q1,
          fun s H C cl fp => (ih1 _ (c.blk scope) elt me W0 (g.blk hh (s := s) (H := H) (scope := scope) (cl := cl) (C := C) (fp := fp)) takesN0 he).1, fold_plain hc.2, hh, fun σ H Q => lc_ok (fun j hj => by simpa using hs.1 j hj) hs.2 σ H Q⟩
        · cases h
      · cases h
    · cases h
  · cases h
theorem sound : ∀ n : Nat, SProp G P k n
  | 0 => ⟨fun X c e m W g tk h => (by cases h), fun X c es ms W g tk hp h => (by cases h), fun X c tg e kk ms W g tk h => (by cases h), fun X c e m W g tk h => (by cases h)⟩
  | n + 1 => by
    have ihn := sound n
    obtain ⟨ih1, ih2, ih3, ih4⟩ := id ihn
    refine (fun (z : _ ∧ _ ∧ _ ∧ _) => ⟨z.2.1, z.2.2.1, z.2.2.2, z.1⟩) ⟨fun X c e m W g tk h => ?_, fun X c e m W g tk h => ?_, fun X c es ms W g tk hp h => ?_, fun X c tg e kk ms W g tk h => ?_⟩
    · have hu : X.A.units + 64 < cLine := by have := g.roomH.un; omega
      unfold trE1 at h
      split at h
      · -- a name
        rename_i x pos
        split at h
        · rename_i hok
          split at h
          · rename_i hv
            cases hs : slotOf c.N x with
            | none => rw [hs] at h; cases h
            | some i =>
              rw [hs] at h; cases h
              have p : PE X (.Name x pos) (tE G X.K W (ev (run P k) (.v i))) := PE.imp (pe_var (i := i) (by rw [g.N]; exact slotOf_get hs) (vis_of g hv) (okName_dbg hok) (okName_cd hok)) fun σ H Q => var_ok σ H Q
              exact ⟨p, tT_of p fun _ => rfl⟩
          · split at h
            · rename_i hgl
              cases hs : c.co.lookup x with
              | none => rw [hs] at h; cases h
              | some d =>
                rw [hs] at h; cases h
                obtain ⟨u, hm, v, r, hv⟩ := g.co x d hs
                have p : PE X (.Name x pos) (tE G X.K W (ev (run P k) (.c d))) := PE.imp (pe_glob (gl_of g hgl) hm r (okName_dbg hok)) fun σ H Q => cst_ok hv σ H Q
                exact ⟨p, tT_of p fun _ => rfl⟩
            · cases h
        · cases h
      · -- a constant
        rename_i kc j pos
        cases kc with
        | none =>
          cases h
          have p : PE X (.Constant .none j pos) (tE G X.K W (ev (run P k) (.c .non))) := PE.imp pe_non fun σ H Q => cst_ok (fun _ _ => .non) σ H Q
          exact ⟨p, tT_of p fun _ => rfl⟩
        | bool b =>
          cases h
          have p : PE X (.Constant (.bool b) j pos) (tE G X.K W (ev (run P k) (.c (.bl b)))) := PE.imp pe_bl fun σ H Q => cst_ok (fun _ _ => .bl b) σ H Q
          exact ⟨p, tT_of p fun _ => rfl⟩
        | int i =>
          cases h
          have p : PE X (.Constant (.int i) j pos) (tE G X.K W (ev (run P k) (.c (.int i)))) := PE.imp pe_int fun σ H Q => cst_ok (fun _ _ => .int i) σ H Q
          exact ⟨p, tT_of p fun _ => rfl⟩
        | str s =>
          cases h
          have p : PE X (.Constant (.str s) j pos) (tE G X.K W (ev (run P k) (.c (.str s.cps.toList)))) := PE.imp pe_str fun σ H Q => cst_ok (fun ρ H => by
            have r : Rv X.K ρ H (.str s.cps.toList) (.str ⟨s.cps.toList.toArray⟩) := .str _
            rw [str_eta] at r
            exact r) σ H Q
          exact ⟨p, tT_of p fun _ => rfl⟩
        | _ => cases h
      · -- a op b
        rename_i a op b pos
        split at h
        · rename_i o ma mb ho ha hb
          cases h
          have pa := (ih1 X c a ma W g tk ha).1
          have pb := (ih1 X c b mb W g tk hb).1
          have p : PE X (.BinOp a op b pos) (tE G X.K W (ev (run P k) (.op o [ma, mb]))) := by
            cases op <;> first | (cases ho; done) | skip
            all_goals cases ho
            · exact PE.imp (pe_op op_addZ pa pb) fun σ H Q => bin_ok (f := binaryOp .Add) od_add ma mb σ H Q
            · exact PE.imp (pe_op op_subZ pa pb) fun σ H Q => bin_ok (f := binaryOp .Sub) od_sub ma mb σ H Q
            · exact PE.imp (pe_op op_mulZ pa pb) fun σ H Q => bin_ok (f := binaryOp .Mult) od_mul ma mb σ H Q
            · exact PE.imp (pe_op op_mod pa pb) fun σ H Q => bin_ok (f := binaryOp .Mod) od_mod ma mb σ H Q
            · exact PE.imp (pe_op op_pow pa pb) fun σ H Q => bin_ok (f := binaryOp .Pow) od_pow ma mb σ H Q
            · exact PE.imp (pe_op op_fdiv pa pb) fun σ H Q => bin_ok (f := binaryOp .FloorDiv) od_fdiv ma mb σ H Q
          exact ⟨p, tT_of p fun _ => rfl⟩
        · cases h
      · -- op a
        rename_i op a pos
        split at h
        · rename_i ma ha
          cases h
          have pa := (ih1 X c a ma W g tk ha).1
          have p : PE X (.UnaryOp .USub a pos) (tE G X.K W (ev (run P k) (.op .neg [ma]))) := PE.imp (pe_un un_neg pa) fun σ H Q => un_ok (o := .neg) (fun W ρ st H d x Q s r h => by
            cases r with
            | int i => exact ⟨i, rfl, okv h s (.int _)⟩
            | _ => exact h.elim) ma σ H Q
          exact ⟨p, tT_of p fun _ => rfl⟩
        · rename_i ma ha
          cases h
          obtain ⟨pa, qa⟩ := ih1 X c a ma W g tk ha
          exact ⟨PE.imp (pe_notT pa) fun σ H Q => not_ok ma σ H Q, PT.imp (pt_not qa) fun σ H Q => notT_ok ma σ H Q⟩
        · cases h
      · -- and, or
        rename_i op vs pos
        split at h
        · cases h
        · rename_i a
          obtain ⟨pa, qa⟩ := ih1 X c a m W g tk h
          refine ⟨pe_one pa, ?_⟩
          cases op with
          | And => exact (pw_and1 qa).pt
          | Or => exact (pw_or1 qa).pt
        · rename_i a b r
          split at h
          · rename_i ma mb ha hb
            cases h
            obtain ⟨pa, qa⟩ := ih1 X c a ma W g tk ha
            obtain ⟨pb, qb⟩ := ih1 X c _ mb W g tk hb
            exact ⟨PE.imp (pe_andT pa pb) fun σ H Q => and_ok ma mb σ H Q, PT.imp (pw_and qa (pw_bool qb)).pt fun σ H Q => andT_ok ma mb σ H Q⟩
          · rename_i ma mb ha hb
            cases h
            obtain ⟨pa, qa⟩ := ih1 X c a ma W g tk ha
            obtain ⟨pb, qb⟩ := ih1 X c _ mb W g tk hb
            exact ⟨PE.imp (pe_orT pa pb) fun σ H Q => or_ok ma mb σ H Q, PT.imp (pw_or qa (pw_bool qb)).pt fun σ H Q => orT_ok ma mb σ H Q⟩
          · cases h
      · -- a comparison
        rename_i a ops bs pos
        split at h
        · rename_i op b
          split at h
          · rename_i o ma mb ho ha hb
            cases h
            have pa := (ih1 X c a ma W g tk ha).1
            have pb := (ih1 X c b mb W g tk hb).1
            have hm := nomark_plain (op := op) (plain_of hb)
            have hbl : ∀ d e st z st', opSem o [d, e] st = .ok z st' → ∃ k, z = .bl k := cmp_bl ho
            cases op <;> first | (cases ho; done) | skip
            all_goals cases ho
            · exact ⟨PE.imp (pe_cmpR (op_eqZ hu) pa pb hm) fun σ H Q => bin_ok (f := compareOp .Eq) od_eq ma mb σ H Q, PT.imp (pt_cmpR (op_eqZ hu) pa pb hm) fun σ H Q => tT_bin od_eq ma mb σ H Q hbl⟩
            · exact ⟨PE.imp (pe_cmpR (op_neZ hu) pa pb hm) fun σ H Q => bin_ok (f := compareOp .NotEq) od_ne ma mb σ H Q, PT.imp (pt_cmpR (op_neZ hu) pa pb hm) fun σ H Q => tT_bin od_ne ma mb σ H Q hbl⟩
            · exact ⟨PE.imp (pe_cmpR (op_cmpZ rfl (.inl rfl)) pa pb hm) fun σ H Q => bin_ok (f := compareOp .Lt) (od_cmp (.inl rfl)) ma mb σ H Q, PT.imp (pt_cmpR (op_cmpZ rfl (.inl rfl)) pa pb hm) fun σ H Q => tT_bin (od_cmp (.inl rfl)) ma mb σ H Q hbl⟩
            · exact ⟨PE.imp (pe_cmpR (op_cmpZ rfl (.inr (.inl rfl))) pa pb hm) fun σ H Q => bin_ok (f := compareOp .LtE) (od_cmp (.inr (.inl rfl))) ma mb σ H Q, PT.imp (pt_cmpR (op_cmpZ rfl (.inr (.inl rfl))) pa pb hm) fun σ H Q => tT_bin (od_cmp (.inr (.inl rfl))) ma mb σ H Q hbl⟩
            · exact ⟨PE.imp (pe_cmpR (op_cmpZ rfl (.inr (.inr (.inl rfl)))) pa pb hm) fun σ H Q => bin_ok (f := compareOp .Gt) (od_cmp (.inr (.inr (.inl rfl)))) ma mb σ H Q, PT.imp (pt_cmpR (op_cmpZ rfl (.inr (.inr (.inl rfl)))) pa pb hm) fun σ H Q => tT_bin (od_cmp (.inr (.inr (.inl rfl)))) ma mb σ H Q hbl⟩
            · exact ⟨PE.imp (pe_cmpR (op_cmpZ rfl (.inr (.inr (.inr rfl)))) pa pb hm) fun σ H Q => bin_ok (f := compareOp .GtE) (od_cmp (.inr (.inr (.inr rfl)))) ma mb σ H Q, PT.imp (pt_cmpR (op_cmpZ rfl (.inr (.inr (.inr rfl)))) pa pb hm) fun σ H Q => tT_bin (od_cmp (.inr (.inr (.inr rfl)))) ma mb σ H Q hbl⟩
            · exact ⟨PE.imp (pe_cmpR op_isZ pa pb hm) fun σ H Q => bin_ok (f := compareOp .Is) od_is ma mb σ H Q, PT.imp (pt_cmpR op_isZ pa pb hm) fun σ H Q => tT_bin od_is ma mb σ H Q hbl⟩
            · exact ⟨PE.imp (pe_cmpR op_isnotZ pa pb hm) fun σ H Q => bin_ok (f := compareOp .IsNot) od_isnot ma mb σ H Q, PT.imp (pt_cmpR op_isnotZ pa pb hm) fun σ H Q => tT_bin od_isnot ma mb σ H Q hbl⟩
            · exact ⟨PE.imp (pe_cmpR (op_inZ hu) pa pb hm) fun σ H Q => bin_ok (f := compareOp .In) od_in ma mb σ H Q, PT.imp (pt_cmpR (op_inZ hu) pa pb hm) fun σ H Q => tT_bin od_in ma mb σ H Q hbl⟩
            · exact ⟨PE.imp (pe_cmpR (op_notinZ hu) pa pb hm) fun σ H Q => bin_ok (f := compareOp .NotIn) od_notin ma mb σ H Q, PT.imp (pt_cmpR (op_notinZ hu) pa pb hm) fun σ H Q => tT_bin od_notin ma mb σ H Q hbl⟩
          · cases h
        · rename_i op op' b d
          split at h
          · rename_i hord
            rw [Bool.and_eq_true] at hord
            split at h
            · rename_i o p ma mb md ho hp ha hb hd
              cases h
              exact chain_sound ho hp hord.1 hord.2 (plain_of hd) (ih1 X c a ma W g tk ha).1 (ih1 X c b mb W g tk hb).1 (ih1 X c d md W g tk hd).1
            · cases h
          · cases h
        · cases h
      · -- a if t else b
        rename_i t a b pos
        split at h
        · rename_i mt ma mb ht ha hb
          cases h
          obtain ⟨pt, qt⟩ := ih1 X c t mt W g tk ht
          obtain ⟨pa, qa⟩ := ih1 X c a ma W g tk ha
          obtain ⟨pb, qb⟩ := ih1 X c b mb W g tk hb
          exact ⟨PE.imp (pe_ifExp qt pa pb) fun σ H Q => ifx_ok mt ma mb σ H Q, PT.imp (pt_ifExp qt qa qb) fun σ H Q => ifxT_ok mt ma mb σ H Q⟩
        · cases h
      · -- a call
        rename_i f args kws pos
        split at h
        · rename_i x px
          split at h
          · rename_i hc
            simp only [Bool.and_eq_true] at hc
            obtain ⟨⟨hok, hgl⟩, hpl⟩ := hc
            have hgl := gl_of g hgl
            split at h
            · rename_i fi hfi
              split at h
              · rename_i e es ms hms
                split at h
                · rename_i hargs
                  cases h
                  obtain ⟨ad, fd, ps, hm, hk, hlen, hdef, hF, hFH⟩ := g.fns x fi hfi
                  obtain ⟨vs, ds, hv, hvd, hb⟩ := hdef ((e :: es).length + fi.dvs.length - fi.np)
                  rw [List.all_cons, Bool.and_eq_true] at hpl
                  have pa := (ih2 X c (e :: es) ms W g tk (by rw [List.all_cons, hpl.1, hpl.2]; rfl) hms).1
                  have p : PE X (.Call (.Name x px) (e :: es) [] pos) (tE G X.K W (ev (run P k) (mkCall fi.raw fi.id (ms ++ (fi.dvs.drop ((e :: es).length + fi.dvs.length - fi.np)).map .c)))) := by
                    cases hhot : c.hot with
                    | false =>
                      rw [GC.at_none (g.nocur hhot)] at hF
                      exact PE.imp (pe_callSD (dvs := vs) hF (g.room hhot) hgl hm hk hb hvd (fun σ => L2N.passAt tk σ) pa (okName_dbg hok) (star_plain hpl.1) (any_plain hpl.2)) fun σ H Q => call_ok' hv σ H Q
                    | true =>
                      have h3 : (!c.hot || (fi.hot && fi.dvs.isEmpty)) = true := hargs.2
                      rw [hhot] at h3
                      have h3 : (fi.hot && fi.dvs.isEmpty) = true := h3
                      rw [Bool.and_eq_true, List.isEmpty_iff] at h3
                      have e0 : ms ++ (fi.dvs.drop ((e :: es).length + fi.dvs.length - fi.np)).map Ex.c = ms := by rw [h3.2, List.drop_nil]; exact List.append_nil _
                      rw [e0]
                      have hd0 : ds = [] := by
                        have hv := hv [] (fun _ => none)
                        rw [h3.2, List.drop_nil] at hv
                        cases hv
                        exact Vals.zero hvd
                      subst hd0
                      obtain ⟨pp, cu, hot1, hpn, hG, hcp⟩ := g.hotc hhot
                      have hF2 := hFH h3.1 pp cu hcp
                      have eG : G.at (some cu) = G := by
                        obtain ⟨gc, gu⟩ := G
                        have hG : gu = some cu := hG
                        subst hG; rfl
                      rw [eG] at hF2
                      exact PE.imp (pe_callHp hF2 g.roomH hot1 hpn hgl hm hk hb (fun σ => L2N.passAt tk σ) pa (okName_dbg hok) (star_plain hpl.1) (any_plain hpl.2)) fun σ H Q => callH_ok' σ H Q
                  exact ⟨p, tT_of p fun _ => rfl⟩
                · cases h
              · cases h
            · split at h
              · rename_i hfn hbl
                have hm := g.blt x hbl
                split at h
                · rename_i hx
                  have hx : x = "isinstance" := by simpa using hx
                  subst hx
                  split at h
                  · rename_i a y py
                    simp only [List.all_cons, Bool.and_eq_true] at hpl
                    split at h
                    · rename_i hy
                      simp only [Bool.and_eq_true] at hy
                      obtain ⟨hy1, hy2⟩ := hy
                      split at h
                      · rename_i hy3
                        split at h
                        · rename_i t ma ht ha
                          cases h
                          have pa := (ih1 X c a ma W g tk ha).1
                          have hty : bootBuiltins y = some (.type (tyName t)) := tyOf_boot ht
                          have p : PE X (.Call (.Name "isinstance" px) [a, .Name y py] [] pos) (tE G X.K W (ev (run P k) (.op (.isin t) [ma]))) :=
                            PE.imp (pe_callB call_isi hgl hm (by decide +kernel) (pa_cons pa (pa_cons (pe_bltn (v := .ty (tyName t)) (gl_of g hy2) (g.blt y hy3) hty rfl (okName_nm hy1) (okName_dbg hy1)) pa_nil) (star_plain hpl.1)) (okName_nm hok) (okName_dbg hok) (star_plain hpl.1)) fun σ H Q => isin_ok t ma σ H Q
                          exact ⟨p, tT_of p fun _ => rfl⟩
                        · rename_i ma ht ha
                          split at h
                          · rename_i hcur
                            cases hb : c.exb.lookup y with
                            | none => rw [hb] at h; cases h
                            | some tab =>
                              rw [hb] at h; cases h
                              cases hhot : c.hot with
                              | false =>
                                have hv : isV ma = true := by rw [hhot] at hcur; exact hcur
                                have p : PE X (.Call (.Name "isinstance" px) [a, .Name y py] [] pos) (tE G X.K W (ev (run P k) (.op (.x (.isx tab)) [ma]))) := ⟨fun pins s σ H Q I q => (isx_dead hv (g.nocur hhot) σ H Q q).elim⟩
                                exact ⟨p, tT_of p fun _ => rfl⟩
                              | true =>
                              have hcur := hhot
                              have pa := (ih1 X c a ma W g tk ha).1
                              obtain ⟨_, T, hT, hk⟩ := g.exb y tab hb
                              obtain ⟨pp, cu, hot1, hpn, hG, had, ⟨C, hC, hz⟩, hf⟩ := g.hotc hcur
                              have p : PE X (.Call (.Name "isinstance" px) [a, .Name y py] [] pos) (tE G X.K W (ev (run P k) (.op (.x (.isx tab)) [ma]))) := by
                                have py' : PE X (.Name y py) (tC (.ty T)) := pe_bltn (v := .ty T) (gl_of g hy2) (g.blt y hy3) hT rfl (okName_nm hy1) (okName_dbg hy1)
                                have cl := (g.cls cu.c C hC).1
                                have hk2 := hk cu.c C hC
                                exact PE.imp (pe_callB (call_isX cl.is_ hpn hz hf) hgl hm (by decide +kernel) (pa_cons pa (pa_cons py' pa_nil) (star_plain hpl.1)) (okName_nm hok) (okName_dbg hok) (star_plain hpl.1)) fun σ H Q => by rw [← had]; exact isx_ok (cy := .ty T) (cv := .type T) hG (fun u r => r) hk2 ma σ H Q
                              exact ⟨p, tT_of p fun _ => rfl⟩
                          · cases h
                        · cases h
                      · split at h
                        · rename_i q ma hq ha
                          split at h
                          · rename_i hcur
                            cases h
                            cases hhot : c.hot with
                            | false =>
                              have hv : isV ma = true := by rw [hhot] at hcur; exact hcur
                              have p : PE X (.Call (.Name "isinstance" px) [a, .Name y py] [] pos) (tE G X.K W (ev (run P k) (.op (.x (.isx q.2)) [ma]))) := ⟨fun pins s σ H Q I q => (isx_dead hv (g.nocur hhot) σ H Q q).elim⟩
                              exact ⟨p, tT_of p fun _ => rfl⟩
                            | true =>
                            have hcur := hhot
                            have pa := (ih1 X c a ma W g tk ha).1
                            obtain ⟨D, hD, hmD, hk⟩ := g.ex y q hq
                            obtain ⟨pp, cu, hot1, hpn, hG, had, ⟨C, hC, hz⟩, hf⟩ := g.hotc hcur
                            have p : PE X (.Call (.Name "isinstance" px) [a, .Name y py] [] pos) (tE G X.K W (ev (run P k) (.op (.x (.isx q.2)) [ma]))) := by
                              have py' : PE X (.Name y py) (tC (.ref D)) := pe_glob (v := .ref D) (gl_of g hy2) hmD rfl (okName_dbg hy1)
                              have cl := (g.cls cu.c C hC).1
                              have hk2 := (hk cu.c C hC).2
                              exact PE.imp (pe_callB (call_isX cl.is_ hpn hz hf) hgl hm (by decide +kernel) (pa_cons pa (pa_cons py' pa_nil) (star_plain hpl.1)) (okName_nm hok) (okName_dbg hok) (star_plain hpl.1)) fun σ H Q => by rw [← had]; exact isx_ok (cy := .ref D) (cv := .ref D) hG (fun u r => r) hk2 ma σ H Q
                            exact ⟨p, tT_of p fun _ => rfl⟩
                          · cases h
                        · cases h
                    · cases h
                  · cases h
                · split at h
                  · rename_i o ms ho hms
                    split at h
                    · rename_i hco
                      cases h
                      have p := blt_sound (px := px) (pos := pos) (fun z => g.calm (by rw [z] at hco; simpa using hco)) ho hgl hm hok hpl (ih2 X c args ms W g tk hpl hms).1
                      exact ⟨p, tT_of p fun _ => rfl⟩
                    · cases h
                  · cases h
              · cases h
          · cases h
        · rename_i o x ap
          split at h
          · rename_i hc
            simp only [Bool.and_eq_true, decide_eq_true_eq] at hc
            obtain ⟨⟨⟨hs, hline⟩, hpl⟩, hl⟩ := hc
            split at h
            · rename_i mt mo ms hmt ho hms
              cases h
              obtain ⟨pa, hlen, _⟩ := ih2 X c args ms W g tk hpl hms
              have p := mt_sound (pos := pos) hmt hs hline hpl hl (ih1 X c o mo W g tk ho).1 pa hlen
              exact ⟨p, tT_of p fun _ => rfl⟩
            · cases h
          · cases h
        · cases h
      · -- a[..]
        rename_i a i pos
        split at h
        · rename_i lo hi st' ps
          split at h
          · cases hr : trE n c a with
            | none => rw [hr] at h; cases h
            | some ma =>
              rw [hr] at h; cases h
              have pa := (ih1 X c a ma W g tk hr).1
              have p := PE.imp (pe_slice (pos := pos) (p2 := ps) sl_Z pa po_none po_none) fun σ H Q => sl_ok (F := run P k) (W := W) (G := G) ma none none σ H Q
              exact ⟨p, tT_of p fun _ => rfl⟩
          · rename_i l
            split at h
            · rename_i ma ml ha hl
              cases h
              have pa := (ih1 X c a ma W g tk ha).1
              have pl := (ih1 X c l ml W g tk hl).1
              have p := PE.imp (pe_slice (pos := pos) (p2 := ps) sl_Z pa (po_some pl) po_none) fun σ H Q => sl_ok (F := run P k) (W := W) (G := G) ma (some ml) none σ H Q
              exact ⟨p, tT_of p fun _ => rfl⟩
            · cases h
          · rename_i l
            split at h
            · rename_i ma ml ha hl
              cases h
              have pa := (ih1 X c a ma W g tk ha).1
              have pl := (ih1 X c l ml W g tk hl).1
              have p := PE.imp (pe_slice (pos := pos) (p2 := ps) sl_Z pa po_none (po_some pl)) fun σ H Q => sl_ok (F := run P k) (W := W) (G := G) ma none (some ml) σ H Q
              exact ⟨p, tT_of p fun _ => rfl⟩
            · cases h
          · rename_i l hh
            split at h
            · rename_i ma ml mh ha hl hhh
              cases h
              have pa := (ih1 X c a ma W g tk ha).1
              have pl := (ih1 X c l ml W g tk hl).1
              have ph := (ih1 X c hh mh W g tk hhh).1
              have p := PE.imp (pe_slice (pos := pos) (p2 := ps) sl_Z pa (po_some pl) (po_some ph)) fun σ H Q => sl_ok (F := run P k) (W := W) (G := G) ma (some ml) (some mh) σ H Q
              exact ⟨p, tT_of p fun _ => rfl⟩
            · cases h
          · cases h
        · split at h
          · rename_i hp
            split at h
            · rename_i ma mi ha hi
              cases h
              have pa := (ih1 X c a ma W g tk ha).1
              have pi := (ih1 X c i mi W g tk hi).1
              have p := PE.imp (pe_ix (pos := pos) ix_seq pa pi (ix_plain hp)) fun σ H Q => bin_ok (f := fun _ _ => pure .none) (F := run P k) (W := W) (G := G) od_ix ma mi σ H Q
              exact ⟨p, tT_of p fun _ => rfl⟩
            · cases h
          · cases h
      · -- a tuple
        rename_i es kk pos
        split at h
        · rename_i hp
          cases hr : trEs n c es with
          | none => rw [hr] at h; cases h
          | some ms =>
            rw [hr] at h; cases h
            have p := PE.imp (pe_tup (x1 := kk) (pos := pos) (ih2 X c es ms W g tk hp hr).1) fun σ H Q => tup_ok (X := X) ms σ H Q
            exact ⟨p, tT_of p fun _ => rfl⟩
        · cases h
      · -- a list
        rename_i es pos
        split at h
        · rename_i hp
          cases hr : trEs n c es with
          | none => rw [hr] at h; cases h
          | some ms =>
            rw [hr] at h; cases h
            have p0 := pe_lst (pos := pos) (ih2 X c es ms W g tk hp hr).1
            cases c.opens.contains pos with
            | true =>
              have p := PE.imp p0 fun σ H Q => lst_ok (X := X) ms σ H Q
              exact ⟨p, tT_of p fun _ => rfl⟩
            | false =>
              have p := PE.imp p0 fun σ H Q => flit_ok (X := X) ms σ H Q
              exact ⟨p, tT_of p fun _ => rfl⟩
        · cases h
      · -- a list comprehension
        rename_i elt gs scope pos
        obtain ⟨t, iter, ifs, own, wi, tg, tt, te, rfl, p1, p2, p3, p4, p5, p6, hh, p7⟩ := lc_parts1 ihn (elt := elt) (gs := gs) (scope := scope) (pos := pos) g tk h
        have p : PE X (.ListComp elt [⟨t, iter, ifs, 0⟩] scope pos) (tE G X.K W (ev (run P k) m)) := PE.imp (pe_lc (g.calm hh) g.nd p1 p2 p3 p4 p5 p6) p7
        exact ⟨p, tT_of p fun _ => rfl⟩
      · -- an attribute of the exception
        rename_i o x pos
        split at h
        · rename_i hc
          simp only [Bool.and_eq_true, beq_iff_eq] at hc
          obtain ⟨⟨hcur, hx⟩, hs⟩ := hc
          subst hx
          cases hr : trE n c o with
          | none => rw [hr] at h; cases h
          | some mo =>
            rw [hr] at h; cases h
            have po := (ih1 X c o mo W g tk hr).1
            obtain ⟨X0, oe, pn, cu, C, hX, hG, hC, hz, hf⟩ := g.curx hcur
            have p : PE X (.Attribute o "place" pos) (tE G X.K W (ev (run P k) (.op (.x .place) [mo]))) := by
              have cl := (g.cls cu.c C hC).1
              subst hX
              exact PE.imp (pe_xf cl.xf cl.noP hz hf po (base_plain hs)) fun σ H Q => place_ok hG mo σ H Q
            exact ⟨p, tT_of p fun _ => rfl⟩
        · cases h
      · cases h
    · rcases trE_cases h with ⟨m', h2, rfl⟩ | h2
      · obtain ⟨p, q⟩ := ih4 X c e m' W g tk h2
        exact ⟨PE.imp p fun σ H Q z => seal_ok m' σ H Q z, PT.imp q fun σ H Q z => sealT_ok m' σ H Q z⟩
      · exact ih4 X c e m W g tk h2
    · unfold trEs at h
      split at h
      · cases h
        exact ⟨pa_nilZ fun env st => rfl, rfl, fun e m h => by cases h⟩
      · rename_i e r
        rw [List.all_cons, Bool.and_eq_true] at hp
        split at h
        · rename_i a b ha hb
          cases h
          obtain ⟨p1, q1⟩ := ih1 X c e a W g tk ha
          obtain ⟨p2, q2, _⟩ := ih2 X c r b W g tk hp.2 hb
          refine ⟨pa_consZ hp.1 p1 p2, by rw [List.length_cons, List.length_cons, q2], fun e' m' h1 h2 => ?_⟩
          cases h1; cases h2
          exact q1
        · cases h
    · unfold trIt at h
      split at h
      · rename_i x px args pos
        split at h
        · rename_i hx
          have hx : x = "range" := by simpa using hx
          subst hx
          split at h
          · rename_i hc
            rw [Bool.and_eq_true] at hc
            obtain ⟨hg, hm, hok⟩ := bl_of g hc.1
            have hpl := hc.2
            split at h
            · rename_i a
              rw [List.all_cons, Bool.and_eq_true] at hpl
              cases hr : trE n c a with
              | none => rw [hr] at h; cases h
              | some m =>
                rw [hr] at h; cases h
                exact pi_rng1 hg hm hpl.1 (pa_consZ hpl.1 (ih1 X c a m W g tk hr).1 (pa_nilZ fun env st => rfl))
            · rename_i a b
              rw [List.all_cons, List.all_cons, Bool.and_eq_true, Bool.and_eq_true] at hpl
              split at h
              · rename_i ma mb ha hb
                cases h
                exact pi_rng2 hg hm hpl.1 hpl.2.1 (pa_consZ hpl.1 (ih1 X c a ma W g tk ha).1 (pa_consZ hpl.2.1 (ih1 X c b mb W g tk hb).1 (pa_nilZ fun env st => rfl)))
              · cases h
            · cases h
          · cases h
        · cases hr : trE n c (.Call (.Name x px) args [] pos) with
          | none => rw [hr] at h; cases h
          | some m => rw [hr] at h; cases h; exact pi_seq (ih1 X c _ m W g tk hr).1
      · cases hr : trE n c e with
        | none => rw [hr] at h; cases h
        | some m => rw [hr] at h; cases h; exact pi_seq (ih1 X c e m W g tk hr).1
theorem lc_parts {n : Nat} {X : Cx} {c : Cc} {elt : Expr} {gs : List Comprehension} {scope : Scope} {pos : Pos} {m : Ex} {W : WX} (g : XG G P k X c) (tk : L2N.Takes X W) (h : trE n c (.ListComp elt gs scope pos) = some m) :
    ∃ (t iter : Expr) (ifs : List Expr) (own : List (Str × Nat)) (wi : TI) (tg : TG) (tt : TT) (te : TE), gs = [⟨t, iter, ifs, 0⟩] ∧ PI X t iter wi ∧ BlkOk X.N X.env.scope scope own ∧
      (∀ (s : Shared) (H : Hp) (C : Addr) (cl : List (Str × Addr)) (fp : List Addr), PG (X.blk s H scope (compEnvC scope cl C X.env) fp) t tg) ∧
      (∀ (s : Shared) (H : Hp) (C : Addr) (cl : List (Str × Addr)) (fp : List Addr), PTs (X.blk s H scope (compEnvC scope cl C X.env) fp) ifs tt) ∧
      (∀ (s : Shared) (H : Hp) (C : Addr) (cl : List (Str × Addr)) (fp : List Addr), PE (X.blk s H scope (compEnvC scope cl C X.env) fp) elt te) ∧
      (∀ x, foldedSetIterable iter X.env x = pure x) ∧ c.hot = false ∧ ∀ σ H Q, tE G X.K W (ev (run P k) m) σ H Q → tLc wi tg tt te (own.map (·.2)) σ H Q := by
  cases n with
  | zero => cases h
  | succ n =>
    rcases trE_cases h with ⟨m', h2, rfl⟩ | h2
    · cases n with
      | zero => cases h2
      | succ n =>
        obtain ⟨t, iter, ifs, own, wi, tg, tt, te, a1, p1, p2, p3, p4, p5, p6, hh, p7⟩ := lc_parts1 (sound n) g tk h2
        exact ⟨t, iter, ifs, own, wi, tg, tt, te, a1, p1, p2, p3, p4, p5, p6, hh, fun σ H Q z => p7 σ H Q (seal_ok m' σ H Q z)⟩
    · cases n with
      | zero => cases h2
      | succ n => exact lc_parts1 (sound n) g tk h2
end
end Z

set_option autoImplicit false
set_option maxHeartbeats 2000000
namespace Z
open PySem PySem.Spec PyProof.Rows L2

/-! ## statements -/
def Ls (G : GC) (K : PySem.W.Frag) (W : WX) (D : Ends) (ρ : Tk) (H : Hp) (r : SR) : Prop := match r with
  | .next env' st' => ∀ ρ' H' σ', Ext K ρ ρ' H H' → Rel G K ρ' env' st' σ' H' → D.nx σ' H'
  | .brk env' st' => ∀ ρ' H' σ', Ext K ρ ρ' H H' → Rel G K ρ' env' st' σ' H' → D.bk σ' H'
  | .cnt env' st' => ∀ ρ' H' σ', Ext K ρ ρ' H H' → Rel G K ρ' env' st' σ' H' → D.ct σ' H'
  | .ret d st' => ∀ ρ' H' v, Ext K ρ ρ' H H' → Rs G K ρ' st' H' → Rv K ρ' H' d v → D.rt v H'
  | .exc c p env' st' => ∀ ρ' H' σ' cls dd, Ext K ρ ρ' H H' → Rel G K ρ' env' st' σ' H' → XRel G K ρ' H' c p cls dd → W cls dd σ' H'
  | .bad => False
def tS (G : GC) (K : PySem.W.Frag) (W : WX) (r : Env → Store → SR) : TS := fun D σ H => ∃ ρ env st, Rel G K ρ env st σ H ∧ Ls G K W D ρ H (r env st)
section
variable {G : GC} {K : PySem.W.Frag} {W : WX} {D : Ends} {ρ ρ' : Tk} {H H' : Hp} {r : SR} {F : FT}
theorem Ls.ext (e : Ext K ρ ρ' H H') (h : Ls G K W D ρ H r) : Ls G K W D ρ' H' r := by
  cases r with
  | next => exact fun ρ2 H2 σ2 e2 s2 => h ρ2 H2 σ2 (e.trans e2) s2
  | brk => exact fun ρ2 H2 σ2 e2 s2 => h ρ2 H2 σ2 (e.trans e2) s2
  | cnt => exact fun ρ2 H2 σ2 e2 s2 => h ρ2 H2 σ2 (e.trans e2) s2
  | ret => exact fun ρ2 H2 v e2 s2 => h ρ2 H2 v (e.trans e2) s2
  | exc => exact fun ρ2 H2 σ2 cls dd e2 s2 => h ρ2 H2 σ2 cls dd (e.trans e2) s2
  | bad => exact h
theorem Ls.toS {α : Type} {a : R α} {env : Env} {σ : L2.St} {f : α → Store → SR} (re : Re K ρ H env σ) (h : Ls G K W D ρ H (a.toS env f)) : Lf G K (fun c d H' => W c d σ H') ρ H a fun x st' ρ' H' => Ls G K W D ρ' H' (f x st') := by
  cases a with
  | ok x st' => exact fun ρ' H' e s => Ls.ext (r := f x st') e h
  | exc c p st' => exact fun ρ' H' cls dd e s x => h ρ' H' σ cls dd e ⟨s, re.ext e⟩ x
  | bad => exact h
theorem Ls.seq {f : Env → Store → SR} (h : Ls G K W D ρ H (r.seq f)) : Ls G K W { D with nx := tS G K W f D } ρ H r := by
  cases r with
  | next env' st' => exact fun ρ' H' σ' e rel => ⟨ρ', env', st', rel, Ls.ext (r := f env' st') e h⟩
  | _ => exact h
theorem asg_ok (t : Tg) (e : Ex) (D : Ends) (σ : L2.St) (H : Hp) (h : tS G K W (xs F (.asg t e)) D σ H) : tAsg (tE G K W (ev F e)) (tG G K t) D σ H := by
  obtain ⟨ρ, env, st, rel, q⟩ := h
  have q := Ls.toS (f := fun d st1 => match setT t d env with | some env' => .next env' st1 | none => .bad) rel.e q
  refine ⟨ρ, env, st, rel, q.imp fun d st1 ρ1 H1 e1 s1 q1 v rv => ?_⟩
  cases ht : setT t d env with
  | none => rw [ht] at q1; exact q1.elim
  | some env' =>
    rw [ht] at q1
    exact ⟨ρ1, env, d, env', rel.e.ext e1, rv, ht, fun σ' re' _ => q1 ρ1 H1 σ' Ext.refl ⟨s1, re'⟩⟩
theorem setix_ok (o i e : Ex) (D : Ends) (σ : L2.St) (H : Hp) (h : tS G K W (xs F (.setix o i e)) D σ H) : tAsg (tE G K W (ev F e)) (gSub (tE G K W (ev F o)) (tE G K W (ev F i)) rSetL) D σ H := by
  obtain ⟨ρ, env, st, rel, q⟩ := h
  have q : Ls G K W D ρ H ((ev F e env st).toS env fun d st1 => (ev F o env st1).toS env fun ov st2 => (ev F i env st2).toS env fun iv st3 => match ov, iv with
    | .loc l, .int k => (match st3[l]? with
      | some (.lst ys) => (match ixN ys.length k with
        | some j => .next env (st3.set l (.lst (ys.set j d)))
        | none => .bad)
      | _ => .bad)
    | _, _ => .bad) := q
  refine ⟨ρ, env, st, rel, (q.toS rel.e).imp fun d st1 ρ1 H1 e1 s1 q1 v rv => ?_⟩
  refine ⟨ρ1, env, st1, ⟨s1, rel.e.ext e1⟩, (q1.toS (rel.e.ext e1)).imp fun ov st2 ρ2 H2 e2 s2 q2 x rx => ?_⟩
  refine ⟨ρ2, env, st2, ⟨s2, rel.e.ext (e1.trans e2)⟩, (q2.toS (rel.e.ext (e1.trans e2))).imp fun iv st3 ρ3 H3 e3 s3 q3 y ry => ?_⟩
  cases ov with
  | loc l =>
    cases iv with
    | int k =>
      cases rx with
      | @loc _ a b hl =>
      cases ry
      have q3 : Ls G K W D ρ3 H3 (match st3[l]? with
        | some (.lst ys) => (match ixN ys.length k with
          | some j => .next env (st3.set l (.lst (ys.set j d)))
          | none => .bad)
        | _ => .bad) := q3
      split at q3
      · rename_i ys hy
        obtain ⟨hl3, vs, g2, g3⟩ := s3.lst (pre_get e3.pre hl) hy
        cases hj : ixN ys.length k with
        | none => rw [hj] at q3; exact q3.elim
        | some j =>
          rw [hj] at q3
          have ew : Ext K ρ3 ρ3 H3 (upd H3 a (.lst (vs.set j v))) := Ext.wr hl3 g2 trivial
          refine ⟨a, vs, k, j, rfl, rfl, g2, by rw [← g3.length]; exact hj, q3 ρ3 _ σ ew ⟨s3.wr (O := .lst (ys.set j d)) hl3 g2 trivial rfl ⟨_, upd_same, (g3.ext ew).set (rv.ext ((e2.trans e3).trans ew)) j⟩, rel.e.ext (((e1.trans e2).trans e3).trans ew)⟩⟩
      · exact q3.elim
    | _ => exact q3.elim
  | _ => exact q3.elim
theorem expr_ok (e : Ex) (D : Ends) (σ : L2.St) (H : Hp) (h : tS G K W (xs F (.expr e)) D σ H) : tDrop (tE G K W (ev F e)) D σ H := by
  obtain ⟨ρ, env, st, rel, q⟩ := h
  have q : Ls G K W D ρ H ((ev F e env st).toS env fun _ st1 => .next env st1) := q
  exact ⟨ρ, env, st, rel, (q.toS rel.e).imp fun d st1 ρ1 H1 e1 s1 q1 v rv => q1 ρ1 H1 σ Ext.refl ⟨s1, rel.e.ext e1⟩⟩
theorem ret_ok (e : Ex) (D : Ends) (σ : L2.St) (H : Hp) (h : tS G K W (xs F (.ret e)) D σ H) : tRet (tE G K W (ev F e)) D σ H := by
  obtain ⟨ρ, env, st, rel, q⟩ := h
  have q : Ls G K W D ρ H ((ev F e env st).toS env fun d st1 => .ret d st1) := q
  exact ⟨ρ, env, st, rel, (q.toS rel.e).imp fun d st1 ρ1 H1 e1 s1 q1 v rv => q1 ρ1 H1 v Ext.refl s1 rv⟩
theorem ite_ok (c : Ex) (t f : List Sx) (D : Ends) (σ : L2.St) (H : Hp) (h : tS G K W (xs F (.ite c t f)) D σ H) : tIfS (tT G K W (ev F c)) (tS G K W (xss F t)) (tS G K W (xss F f)) D σ H := by
  obtain ⟨ρ, env, st, rel, q⟩ := h
  have q : Ls G K W D ρ H ((ev F c env st).toS env fun x st1 => match truth st1 x with
    | some true => xss F t env st1
    | some false => xss F f env st1
    | none => .bad) := q
  refine ⟨ρ, env, st, rel, (q.toS rel.e).imp fun d st1 ρ1 H1 e1 s1 q1 => ?_⟩
  cases ht : truth st1 d with
  | none => rw [ht] at q1; exact q1.elim
  | some k =>
    rw [ht] at q1
    refine ⟨k, rfl, ?_⟩
    cases k with
    | true => rw [if_pos rfl]; exact ⟨ρ1, env, st1, ⟨s1, rel.e.ext e1⟩, q1⟩
    | false => rw [if_neg Bool.false_ne_true]; exact ⟨ρ1, env, st1, ⟨s1, rel.e.ext e1⟩, q1⟩
theorem for_ok (t : Tg) (kk : Ik) (src : List Ex) (body : List Sx) (D : Ends) (σ : L2.St) (H : Hp) (h : tS G K W (xs F (.for_ t kk src body)) D σ H) : tFor (tI G K W kk (evs F src)) (tG G K t) (tS G K W (xss F body)) D σ H := by
  obtain ⟨ρ, env, st, rel, q⟩ := h
  have q : Ls G K W D ρ H ((evs F src env st).toS env fun ds st1 => match srcOf kk ds st1 with
    | some S => evFor S.same (fun x env2 st2 => match setT t x env2 with
        | some env' => xss F body env' st2
        | none => .bad) S.items env st1
    | none => .bad) := q
  refine ⟨ρ, env, st, rel, (q.toS rel.e).imp fun ds st1 ρ1 H1 e1 s1 q1 => ?_⟩
  cases hS : srcOf kk ds st1 with
  | none => rw [hS] at q1; exact q1.elim
  | some S =>
    rw [hS] at q1
    refine ⟨S, rfl, fun J wk => ?_⟩
    generalize hone : (fun x env2 st2 => match setT t x env2 with
        | some env' => xss F body env' st2
        | none => .bad) = one at q1
    refine ⟨fun i m σ' H' => ∃ ρ' env' st', Ext K ρ1 ρ' H1 H' ∧ Rel G K ρ' env' st' σ' H' ∧ i + m = S.items.length ∧ Ls G K W D ρ' H' (evFor S.same one (S.items.drop i) env' st'),
      ⟨S.items.length, ρ1, env, st1, Ext.refl, ⟨s1, rel.e.ext e1⟩, Nat.zero_add _, by rw [List.drop_zero]; exact q1⟩, fun i m σ2 H2 hW => ?_⟩
    obtain ⟨ρ2, env2, st2, e2, rel2, him, q2⟩ := hW
    by_cases hi : i < S.items.length
    · refine .inr ?_
      rw [List.drop_eq_getElem_cons hi, evFor] at q2
      by_cases hsame : S.same st2 = true
      · rw [if_pos hsame] at q2
        refine ⟨wk.go i ρ2 st2 H2 e2 rel2.s hsame hi, fun σ' H' => ∃ m', m' < m ∧ ∃ ρ' env' st', Ext K ρ1 ρ' H1 H' ∧ Rel G K ρ' env' st' σ' H' ∧ (i + 1) + m' = S.items.length ∧ Ls G K W D ρ' H' (evFor S.same one (S.items.drop (i + 1)) env' st'), fun σ' H' hn => hn, fun x H3 hy => ?_⟩
        obtain ⟨d, hd, e3, s3, r3⟩ := wk.yld i ρ2 st2 H2 x H3 e2 rel2.s hsame hi hy
        rw [List.getElem?_eq_getElem hi] at hd
        have hd : S.items[i] = d := Option.some.inj hd
        rw [hd] at q2
        have q2 := q2.ext e3
        cases hset : setT t d env2 with
        | none => rw [← hone] at q2; simp only [hset] at q2; exact q2.elim
        | some env' =>
          have ho : one d env2 st2 = xss F body env' st2 := by rw [← hone]; simp only [hset]
          rw [ho] at q2
          refine ⟨ρ2, env2, d, env', rel2.e.ext e3, r3, hset, fun σ3 re3 _ => ⟨ρ2, env', st2, ⟨s3, re3⟩, ?_⟩⟩
          cases hr : xss F body env' st2 with
          | bad => rw [hr] at q2; exact q2.elim
          | next env4 st4 =>
            rw [hr] at q2
            exact fun ρ4 H4 σ4 e4 rel4 => ⟨m - 1, by omega, ρ4, env4, st4, (e2.trans e3).trans e4, rel4, by omega, q2.ext e4⟩
          | cnt env4 st4 =>
            rw [hr] at q2
            exact fun ρ4 H4 σ4 e4 rel4 => ⟨m - 1, by omega, ρ4, env4, st4, (e2.trans e3).trans e4, rel4, by omega, q2.ext e4⟩
          | brk env4 st4 =>
            rw [hr] at q2
            exact fun ρ4 H4 σ4 e4 rel4 => q2 ρ4 H4 σ4 e4 rel4
          | ret d4 st4 => rw [hr] at q2; exact q2
          | exc => rw [hr] at q2; exact q2
      · rw [if_neg hsame] at q2; exact q2.elim
    · refine .inl ?_
      rw [List.drop_eq_nil_of_le (Nat.le_of_not_lt hi), evFor] at q2
      by_cases hsame : S.same st2 = true
      · rw [if_pos hsame] at q2
        exact ⟨wk.stop i ρ2 st2 H2 e2 rel2.s hsame (Nat.le_of_not_lt hi), q2 ρ2 H2 σ2 Ext.refl rel2⟩
      · rw [if_neg hsame] at q2; exact q2.elim
theorem while_ok (c : Ex) (body : List Sx) (D : Ends) (σ : L2.St) (H : Hp) (h : tS G K W (xs F (.while_ c body)) D σ H) : tWhile (tT G K W (ev F c)) (tS G K W (xss F body)) D σ H := by
  obtain ⟨ρ, env, st, rel, q⟩ := h
  have q : Ls G K W D ρ H (evWhile (fun env st => ev F c env st) (fun env st => xss F body env st) WF env st) := q
  refine ⟨fun m σ' H' => ∃ ρ' env' st', Rel G K ρ' env' st' σ' H' ∧ Ls G K W D ρ' H' (evWhile (fun env st => ev F c env st) (fun env st => xss F body env st) m env' st'), ⟨WF, ρ, env, st, rel, q⟩, fun m σ' H' hW => ?_⟩
  obtain ⟨ρ', env', st', rel', q'⟩ := hW
  cases m with
  | zero => exact q'.elim
  | succ m =>
    rw [evWhile] at q'
    refine ⟨ρ', env', st', rel', (q'.toS rel'.e).imp fun x st1 ρ1 H1 e1 s1 q1 => ?_⟩
    cases ht : truth st1 x with
    | none => rw [ht] at q1; exact q1.elim
    | some k =>
      rw [ht] at q1
      refine ⟨k, rfl, ?_⟩
      cases k with
      | false => rw [if_neg Bool.false_ne_true]; exact q1 ρ1 H1 σ' Ext.refl ⟨s1, rel'.e.ext e1⟩
      | true =>
        rw [if_pos rfl]
        refine ⟨fun σ2 H2 => ∃ m', m' < m + 1 ∧ ∃ ρ' env' st', Rel G K ρ' env' st' σ2 H2 ∧ Ls G K W D ρ' H2 (evWhile (fun env st => ev F c env st) (fun env st => xss F body env st) m' env' st'), fun σ2 H2 hn => hn, ρ1, env', st1, ⟨s1, rel'.e.ext e1⟩, ?_⟩
        have q1 : Ls G K W D ρ1 H1 (match xss F body env' st1 with
          | .next env' st' => evWhile (fun env st => ev F c env st) (fun env st => xss F body env st) m env' st'
          | .cnt env' st' => evWhile (fun env st => ev F c env st) (fun env st => xss F body env st) m env' st'
          | .brk env' st' => .next env' st'
          | r => r) := q1
        cases hr : xss F body env' st1 with
        | bad => rw [hr] at q1; exact q1.elim
        | next env4 st4 =>
          rw [hr] at q1
          exact fun ρ4 H4 σ4 e4 rel4 => ⟨m, Nat.lt_succ_self _, ρ4, env4, st4, rel4, q1.ext e4⟩
        | cnt env4 st4 =>
          rw [hr] at q1
          exact fun ρ4 H4 σ4 e4 rel4 => ⟨m, Nat.lt_succ_self _, ρ4, env4, st4, rel4, q1.ext e4⟩
        | brk env4 st4 =>
          rw [hr] at q1
          exact fun ρ4 H4 σ4 e4 rel4 => q1 ρ4 H4 σ4 e4 rel4
        | ret d4 st4 => rw [hr] at q1; exact q1
        | exc => rw [hr] at q1; exact q1
theorem aug_ok {o : Op} {f : Int → Int → Int} (ho : ∀ i j st, opSem o [.int i, .int j] st = .ok (.int (f i j)) st) (hn : ∀ d e st, (∀ i j, ¬ (d = .int i ∧ e = .int j)) → opSem o [d, e] st = .bad) (i : Nat) (m : Ex) (D : Ends) (σ : L2.St) (H : Hp)
    (h : tS G K W (xs F (.asg (.nm i) (.op o [.v i, m]))) D σ H) : tAug i (tE G K W (ev F m)) (ipI f) D σ H := by
  obtain ⟨ρ, env, st, rel, q⟩ := h
  have q := Ls.toS (f := fun d st1 => match setT (.nm i) d env with | some env' => .next env' st1 | none => .bad) rel.e q
  have q : Lf G K (fun c d H' => W c d σ H') ρ H ((ev F (.v i) env st).bind fun d st1 => (((ev F m env st1).bind fun e st2 => (R.ok [] st2).bind fun ds st3 => R.ok (e :: ds) st3).bind fun ds st2 => R.ok (d :: ds) st2).bind fun ds st3 => opSem o ds st3) (fun x st' ρ' H' => Ls G K W D ρ' H' (match setT (.nm i) x env with | some env' => .next env' st' | none => .bad)) := by
    have e : ev F (.op o [.v i, m]) env st = ((ev F (.v i) env st).bind fun d st1 => (((ev F m env st1).bind fun e st2 => (R.ok [] st2).bind fun ds st3 => R.ok (e :: ds) st3).bind fun ds st2 => R.ok (d :: ds) st2).bind fun ds st3 => opSem o ds st3) := by
      show ((ev F (.v i) env st).bind _).bind _ = _
      cases ev F (.v i) env st <;> rfl
    rw [← e]; exact q
  cases hv : env[i]? with
  | none => rw [show ev F (.v i) env st = .bad from by show (match env[i]? with | some (some d) => R.ok d st | _ => .bad) = _; rw [hv]] at q; exact q.elim
  | some o' =>
    cases o' with
    | none => rw [show ev F (.v i) env st = .bad from by show (match env[i]? with | some (some d) => R.ok d st | _ => .bad) = _; rw [hv]] at q; exact q.elim
    | some d =>
      rw [show ev F (.v i) env st = .ok d st from by show (match env[i]? with | some (some d) => R.ok d st | _ => .bad) = _; rw [hv]] at q
      obtain ⟨x, hx, rx⟩ := rel.e.at_ i d hv
      refine ⟨x, hx, ρ, env, st, rel, ?_⟩
      have q : Lf G K (fun c d H' => W c d σ H') ρ H ((((ev F m env st).bind fun e st2 => (R.ok [] st2).bind fun ds st3 => R.ok (e :: ds) st3).bind fun ds st2 => R.ok (d :: ds) st2).bind fun ds st3 => opSem o ds st3) (fun x st' ρ' H' => Ls G K W D ρ' H' (match setT (.nm i) x env with | some env' => .next env' st' | none => .bad)) := q
      refine q.bind.bind.bind.imp fun e st1 ρ1 H1 e1 s1 q1 y ry => ?_
      have q1 := (q1.ok s1).ok s1
      by_cases hij : ∃ i j, d = .int i ∧ e = .int j
      · obtain ⟨a, b, rfl, rfl⟩ := hij
        rw [ho] at q1
        cases rx; cases ry
        exact ⟨a, b, rfl, rfl, (q1.ok s1) ρ1 H1 _ Ext.refl ⟨s1, (rel.e.ext e1).set (.int _)⟩⟩
      · rw [hn d e st1 fun a b z => hij ⟨a, b, z⟩] at q1
        exact q1.elim
/-! ## raise, try -/
theorem raise_ok {i : Nat} {C : Addr} (hC : G.cls[i]? = some C) (T : OexC K C) (hno : PySem.W.findIn K (.ref C) "place" = some none) (m : Ex) (D : Ends) (σ : L2.St) (H : Hp) (h : tS G K W (xs F (.raise_ i m)) D σ H) :
    tMkO C (spI K) [] (tA G K W (evs F [m])) σ H fun cls d H' => W cls d σ H' := by
  obtain ⟨ρ, env, st, rel, q⟩ := h
  have q : Ls G K W D ρ H ((ev F m env st).toS env fun d st1 => .exc i d env st1) := q
  have q := q.toS rel.e
  refine ⟨ρ, env, st, rel, ?_⟩
  show Lf G K _ ρ H ((ev F m env st).bind fun d st1 => R.ok [d] st1) _
  cases hr : ev F m env st with
  | bad => rw [hr] at q; exact q.elim
  | exc c p st1 => rw [hr] at q; exact q
  | ok d st1 =>
    rw [hr] at q
    intro ρ1 H1 e1 s1 vs rvs
    have q := q ρ1 H1 e1 s1
    obtain ⟨y, rfl, ry⟩ := rvs.one
    refine ⟨(by decide : 1 ≤ 1000), fun a ha => ⟨a, C, y, rfl, upd_same, T, hno, fun dx hdx hne => ?_⟩⟩
    rw [upd_ne hne] at hdx
    refine ⟨rfl, dx, [("place", y)], upd_same, by rw [upd_ne hne]; exact upd_same, hdx, ?_⟩
    have eH : upd (del (upd (upd (upd H1 a (exo a C none)) dx (exd dx [("place", y)])) a (exo a C (some dx))) a) dx (.xd [("place", y)]) = upd H1 dx (.xd [("place", y)]) := by
      funext b
      by_cases h1 : b = dx
      · rw [h1, upd_same, upd_same]
      · rw [upd_ne h1, upd_ne h1]
        by_cases h2 : b = a
        · rw [h2, del_same, ha]
        · rw [del_ne h2, upd_ne h2, upd_ne h1, upd_ne h2]
    rw [eH]
    have en : Ext K ρ1 ρ1 H1 (upd H1 dx (.xd [("place", y)])) := Ext.new hdx
    exact q ρ1 _ σ _ _ en ⟨s1.new hdx, (rel.e.ext e1).ext en⟩ ⟨C, dx, y, hC, rfl, rfl, upd_same, ry.ext en⟩
/-- a suite, by the machine -/
def tSu (G : GC) (K : PySem.W.Frag) (F : FT) (ms : List Sx) : Addr → Value → Option Addr → TS := fun a cls d D σ H => ∃ (l ci : Nat) (dd C : Addr), cls = .ref C ∧ d = some dd ∧ G.cls[ci]? = some C ∧
  tS (G.at (some ⟨l, a, ci, dd⟩)) K (fun _ _ _ _ => False) (xss F ms) D σ H
theorem enter_rs {st : Store} {a C dx : Addr} {c : Nat} {p : Z.D} {v : V} (hcur : G.cur = none) (s : Rs G K ρ st H) (hC : G.cls[c]? = some C) (hd : H dx = some (.xd [(("place" : Str), v)])) (rv : Rv K ρ H p v) :
    Ext K ρ (ρ ++ [(a, false)]) H H ∧ Rs (G.at (some ⟨st.length, a, c, dx⟩)) K (ρ ++ [(a, false)]) (st ++ [.exn c p]) H := by
  have E : Ext K ρ (ρ ++ [(a, false)]) H H := ⟨List.prefix_append _ _, fun _ _ _ h => h, fun _ _ h => h, fun _ _ u h _ => ⟨h, u.app fun z => Bool.noConfusion z⟩, fun _ _ h => h⟩
  have s' : Rs (G.at (some ⟨st.length, a, c, dx⟩)) K ρ st H := ⟨s.len, s.nd, fun l o h => by
    obtain ⟨b, h1, r⟩ := s.obj l o h
    refine ⟨b, h1, ?_⟩
    cases o with
    | exn c2 p2 => obtain ⟨cu, _, z, _⟩ := r; rw [hcur] at z; cases z
    | _ => exact r⟩
  exact ⟨E, s'.allocB E (fun _ _ h _ => h) (fun z => Bool.noConfusion z) rfl ⟨⟨st.length, a, c, dx⟩, v, rfl, rfl, rfl, rfl, hd, rv.ext E⟩⟩
theorem leave_rs {ρ1 : Tk} {H1 : Hp} {st st1 : Store} {a dx : Addr} {c : Nat} (old : Rs G K ρ st H) (hcur : G.cur = none) (e : Ext K ρ ρ1 H H1) (s : Rs (G.at (some ⟨st.length, a, c, dx⟩)) K ρ1 st1 H1) (ok : OldOk st st1) : Rs G K ρ (st1.take st.length) H1 := by
  have old' : Rs (G.at (some ⟨st.length, a, c, dx⟩)) K ρ st H := ⟨old.len, old.nd, fun l o h => by
    obtain ⟨b, h1, r⟩ := old.obj l o h
    refine ⟨b, h1, ?_⟩
    cases o with
    | exn c2 p2 => obtain ⟨cu, _, z, _⟩ := r; rw [hcur] at z; cases z
    | _ => exact r⟩
  have r := old'.back e s ok
  refine ⟨r.len, r.nd, fun l o h => ?_⟩
  have hl : l < st.length := by
    have := get_lt h
    rw [List.length_take] at this
    omega
  obtain ⟨b, h1, r⟩ := r.obj l o h
  refine ⟨b, h1, ?_⟩
  cases o with
  | exn c2 p2 =>
    obtain ⟨cu, v, z, z2, _⟩ := r
    cases z
    have z2 : st.length = l := z2
    omega
  | _ => exact r
theorem Re.back {ρ1 : Tk} {env : Env} {σ : L2.St} (p : ρ <+: ρ1) (hc : closedE ρ.length env = true) (h : Re K ρ1 H env σ) : Re K ρ H env σ := by
  refine ⟨h.len, fun i d hd => ?_⟩
  obtain ⟨v, h1, r⟩ := h.at_ i d hd
  exact ⟨v, h1, r.back p (List.all_eq_true.mp hc (some d) (List.mem_of_getElem? hd))⟩
theorem Re.drop {i : Nat} {env : Env} {σ : L2.St} (h : Re K ρ H env σ) : Re K ρ H (env.set i none) (σ.set i none) := by
  refine ⟨by rw [List.length_set, List.length_set]; exact h.len, fun j x q => ?_⟩
  by_cases hj : i = j
  · subst hj
    obtain ⟨hl, _⟩ := List.getElem?_eq_some_iff.mp q
    rw [List.length_set] at hl
    rw [List.getElem?_set_self hl] at q
    cases q
  · rw [List.getElem?_set_ne hj] at q ⊢
    exact h.at_ j x q
theorem try_ok {tab : List Nat} {i : Nat} {C : Addr} {mb ms : List Sx} (hcur : G.cur = none) (hex : ∀ (j : Nat) (E : Addr), G.cls[j]? = some E → PySem.W.exmOne K (.ref E) (.ref C) = some (tab.contains j)) (D : Ends) (σ : L2.St) (H : Hp)
    (h : tS G K W (xs F (.try_ mb tab i ms)) D σ H) : tS G K (wAs K (.ref C) i (tSu G K F ms) W D) (xss F mb) D σ H := by
  obtain ⟨ρ, env, st, rel, q⟩ := h
  have q : Ls G K W D ρ H (catchS tab i (fun env1 st1 => xss F ms env1 st1) (xss F mb env st)) := q
  refine ⟨ρ, env, st, rel, ?_⟩
  cases hr : xss F mb env st with
  | bad => rw [hr] at q; exact q.elim
  | next env1 st1 => rw [hr] at q; exact q
  | ret d st1 => rw [hr] at q; exact q
  | brk env1 st1 => rw [hr] at q; exact q
  | cnt env1 st1 => rw [hr] at q; exact q
  | exc c p env1 st1 =>
    rw [hr] at q
    have q : Ls G K W D ρ H (if tab.contains c = true then (xss F ms (env1.set i (some (.loc st1.length))) (st1 ++ [.exn c p])).leave i st1 else .exc c p env1 st1) := q
    intro ρ1 H1 σ1 cls dd e1 rel1 x
    obtain ⟨E, dx, v, hE, rfl, rfl, hd, rv⟩ := id x
    refine ⟨tab.contains c, hex c E hE, fun hb a na => ?_, fun hb => ?_⟩
    · rw [if_pos hb] at q
      obtain ⟨ee, se⟩ := enter_rs (a := a) hcur rel1.s hE hd rv
      have ra : Rv K (ρ1 ++ [(a, false)]) H1 (.loc st1.length) (.ref a) := .loc (b := false) (by
        rw [List.getElem?_append_right (by rw [rel1.s.len]; exact Nat.le_refl _), rel1.s.len, Nat.sub_self]; rfl)
      refine ⟨st1.length, c, dx, E, rfl, rfl, hE, ρ1 ++ [(a, false)], _, _, ⟨se, (rel1.e.ext ee).set ra⟩, ?_⟩
      cases hr2 : xss F ms (env1.set i (some (.loc st1.length))) (st1 ++ [.exn c p]) with
      | bad => rw [hr2] at q; exact q.elim
      | exc => rw [hr2] at q; exact q.elim
      | next env2 st2 =>
        rw [hr2] at q
        simp only [SR.leave] at q
        by_cases hz : closedE st1.length (env2.set i none) = true ∧ OldOk st1 st2
        · rw [if_pos hz] at q
          exact fun ρ2 H2 σ2 e2 rel2 => q ρ1 H2 _ (e1.trans (ee.trans e2).back) ⟨leave_rs rel1.s hcur (ee.trans e2) rel2.s hz.2, (rel2.e.drop).back (ee.trans e2).pre (by rw [rel1.s.len]; exact hz.1)⟩
        · rw [if_neg hz] at q; exact q.elim
      | brk env2 st2 =>
        rw [hr2] at q
        simp only [SR.leave] at q
        by_cases hz : closedE st1.length (env2.set i none) = true ∧ OldOk st1 st2
        · rw [if_pos hz] at q
          exact fun ρ2 H2 σ2 e2 rel2 => q ρ1 H2 _ (e1.trans (ee.trans e2).back) ⟨leave_rs rel1.s hcur (ee.trans e2) rel2.s hz.2, (rel2.e.drop).back (ee.trans e2).pre (by rw [rel1.s.len]; exact hz.1)⟩
        · rw [if_neg hz] at q; exact q.elim
      | cnt env2 st2 =>
        rw [hr2] at q
        simp only [SR.leave] at q
        by_cases hz : closedE st1.length (env2.set i none) = true ∧ OldOk st1 st2
        · rw [if_pos hz] at q
          exact fun ρ2 H2 σ2 e2 rel2 => q ρ1 H2 _ (e1.trans (ee.trans e2).back) ⟨leave_rs rel1.s hcur (ee.trans e2) rel2.s hz.2, (rel2.e.drop).back (ee.trans e2).pre (by rw [rel1.s.len]; exact hz.1)⟩
        · rw [if_neg hz] at q; exact q.elim
      | ret d2 st2 =>
        rw [hr2] at q
        simp only [SR.leave] at q
        cases hz : sealD st1.length (sealAt st1.length st2 8) d2 with
        | none => rw [hz] at q; exact q.elim
        | some d' =>
          rw [hz] at q
          simp only at q
          by_cases ho : OldOk st1 st2
          · rw [if_pos ho] at q
            exact fun ρ2 H2 v2 e2 s2 r2 => q ρ1 H2 v2 (e1.trans (ee.trans e2).back) (leave_rs rel1.s hcur (ee.trans e2) s2 ho) (sealed_rv rel1.s.len s2 (ee.trans e2).pre r2 hz)
          · rw [if_neg ho] at q; exact q.elim
    · rw [hb, if_neg Bool.false_ne_true] at q
      exact q ρ1 H1 σ1 _ _ e1 rel1 x
end

section
variable {G : GC} {P : List Fd} {k : Nat}
theorem XG.suite {X : Cx} {c : Cc} (g : XG G P k X c) (hd : c.isDef = true) {l a ci dd C : Addr} {oe : Obj} {pn : List (Addr × Obj)} (hC : G.cls[ci]? = some C) (hz : L2N.Zn (.ref C) (some dd) oe) (hf : ∃ vs, oe.data = .fields vs) :
    XG (G.at (some ⟨l, a, ci, dd⟩)) P k (X.suite a ((a, oe) :: pn)) { c with hot := true, cur := true } where
  N := g.N
  nd := g.nd
  sc := g.sc
  calm := fun z => Bool.noConfusion (show true = false from z)
  fn := g.fn
  room := fun z => Bool.noConfusion (show true = false from z)
  roomH := ⟨g.roomH.dp, g.roomH.un⟩
  po := PassesOwn.never
  top := g.top
  nocur := fun z => Bool.noConfusion (show true = false from z)
  hotc := fun _ => by
    obtain ⟨vs, hv⟩ := hf
    exact ⟨(a, oe), _, ⟨rfl, vs, hv, hz.2.2 vs hv⟩, List.mem_cons_self, rfl, ⟨rfl, ⟨C, hC, hz.zc⟩, ⟨vs, hv⟩⟩⟩
  curx := fun _ => ⟨X, oe, pn, ⟨l, a, ci, dd⟩, C, rfl, rfl, hC, hz.zc, hf⟩
  blt := g.blt
  fns := g.fns
  co := g.co
  ex := g.ex
  exb := g.exb
  cls := g.cls
theorem XG.tr {X : Cx} {c : Cc} (g : XG G P k X c) (hh : c.hot = false) (hc : c.cur = false) {pn : List (Addr × Obj)} {xe : Value → Shared → Prop} (po : PassesOwn (model X.prog X.w) X.A X.env xe) : XG G P k (X.tr pn xe) c where
  N := g.N
  nd := g.nd
  sc := g.sc
  calm := g.calm
  fn := g.fn
  room := g.room
  roomH := g.roomH
  po := po
  top := g.top
  nocur := g.nocur
  hotc := fun z => by rw [hh] at z; cases z
  curx := fun z => by rw [hc] at z; cases z
  blt := g.blt
  fns := g.fns
  co := g.co
  ex := g.ex
  exb := g.exb
  cls := g.cls
theorem swap_no {e : Expr} {t : Option Expr} {l : Nat} {env : PySem.Env} (h : noComp e = true) : swapsWith e t l env = pure false := by
  cases e <;> first | rfl | (cases h)
theorem swap_sole {e t : Expr} {l : Nat} {env : PySem.Env} (h : noComp e = true) : swapsWithSole [t] e l env = pure false := swap_no (t := some t) h
theorem asgN_stores {x : Str} {px : Pos} {e : Expr} {env : PySem.Env} : swappedStores [.Name x px] e env = pure none := by
  cases e <;> rfl
theorem asgS_stores {o i : Expr} {px : Pos} {e : Expr} {env : PySem.Env} : swappedStores [.Subscript o i px] e env = pure none := by
  cases e <;> rfl
theorem asgT_stores {ts : List Expr} {j : Nat} {px : Pos} {e : Expr} {env : PySem.Env} (h : isTup e = false) : swappedStores [.Tuple ts j px] e env = pure none := by
  cases e <;> first | rfl | (cases h)
theorem soundS : ∀ (n : Nat) (G : GC),
    (∀ (X : Cx) (c : Cc) (s : Stmt) (m : Sx) (W : WX), XG G P k X c → L2N.Takes X W → trS n c s = some m → PS X s (tS G X.K W (xs (run P k) m))) ∧
    (∀ (X : Cx) (c : Cc) (ss : List Stmt) (ms : List Sx) (W : WX), XG G P k X c → L2N.Takes X W → trSs n c ss = some ms → PSs X ss (tS G X.K W (xss (run P k) ms)))
  | 0, G => ⟨fun X c s m W g tk h => (by cases h), fun X c ss ms W g tk h => (by cases h)⟩
  | n + 1, G => by
    obtain ⟨ih1, ih2⟩ := soundS n G
    have ihG := soundS n
    obtain ⟨se, ses, si, _⟩ := sound (G := G) (P := P) (k := k) n
    refine ⟨fun X c s m W g tk h => ?_, fun X c ss ms W g tk h => ?_⟩
    · unfold trS at h
      split at h
      · -- an assignment
        rename_i ts e pos
        split at h
        · rename_i o i px
          split at h
          · rename_i hc
            simp only [Bool.and_eq_true] at hc
            split at h
            · rename_i mo mi me ho hi he
              cases h
              have po := (se X c o mo W g tk ho).1
              have pi := (se X c i mi W g tk hi).1
              have pe := (se X c e me W g tk he).1
              refine PS.imp (ps_asg pe (pg_sub po pi set_list (fun v => by
                have hp := hc.1.1
                cases i <;> first | rfl | (cases hp))) (swap_sole hc.1.2) asgS_stores) fun D σ H => setix_ok mo mi me D σ H
            · cases h
          · cases h
        · rename_i t ht0
          split at h
          · rename_i mt me ht he
            split at h
            · rename_i hc
              cases h
              rw [Bool.and_eq_true] at hc
              have pe := (se X c e me W g tk he).1
              have pt := (trTg_ok (G := G) (P := P) (k := k) n).1 X c t mt g ht
              cases t with
              | Name x px =>
                by_cases hn : noComp e = true
                · exact PS.imp (ps_asg pe pt (swap_sole hn) asgN_stores) fun D σ H => asg_ok mt me D σ H
                · have hn : noComp e = false := Bool.eq_false_iff.mpr hn
                  have hk : (noComp e || (match (generalizing := false) e with
                    | .ListComp _ _ s _ => (c.sc.names.lookup x == some .local) && (px.line == e.pos.line) && !(s.names.any fun (n, k) => n == x && (k == .local || k == .cell))
                    | _ => false)) = true := hc.2
                  rw [hn, Bool.false_or] at hk
                  cases e with
                  | ListComp elt gs scope pe' =>
                    have hk : ((c.sc.names.lookup x == some .local) && (px.line == pe'.line) && !(scope.names.any fun (n, k) => n == x && (k == .local || k == .cell))) = true := hk
                    simp only [Bool.and_eq_true, Bool.not_eq_true'] at hk
                    obtain ⟨⟨k1, k2⟩, k3⟩ := hk
                    have k1 : c.sc.names.lookup x = some .local := by simpa using k1
                    cases n with
                    | zero => cases he
                    | succ n =>
                    obtain ⟨t, iter, ifs, own, wi, tg, tt, te, rfl, p1, p2, p3, p4, p5, p6, hh, p7⟩ := lc_parts (G := G) (P := P) (k := k) (n := n + 1) (elt := elt) (gs := gs) (scope := scope) (pos := pe') g tk he
                    have hl : X.env.scope.names.lookup x = some .local := by rw [g.sc]; exact k1
                    have ht : (if c.sto x && okName x then (slotOf c.N x).map Tg.nm else none) = some mt := ht
                    split at ht
                    · cases hs : slotOf c.N x with
                      | none => rw [hs] at ht; cases ht
                      | some i =>
                        rw [hs] at ht; cases ht
                        have hsc : X.env.scope.kind = .function ∨ True := .inr trivial
                        refine ⟨fun pins s σ H D I q => ?_⟩
                        refine (ps_setLc (i := i) (g.calm hh) g.nd (by rw [g.N]; exact slotOf_get hs) hl (sw_true I.ok.kind hl k2 k3) p1 p2 p3 p4 p5 p6).run pins s σ H D I ?_
                        have q := asg_ok (.nm i) me D σ H q
                        refine p7 σ H _ ?_
                        obtain ⟨ρ, env, st, rel, q⟩ := q
                        refine ⟨ρ, env, st, rel, q.imp fun d st1 ρ1 H1 e1 s1 q1 v rv => ?_⟩
                        obtain ⟨ρ2, env2, d2, env3, re, r2, hset, q2⟩ := q1 v rv
                        cases hset
                        exact q2 _ (re.set r2) fun j hj => List.getElem?_set_ne fun z => hj (by rw [z]; exact List.mem_cons_self)
                    · cases ht
                  | _ => cases hk
              | Tuple es j px =>
                have hk : (noComp e && !isTup e) = true := hc.2
                rw [Bool.and_eq_true] at hk
                exact PS.imp (ps_asg pe pt (swap_sole hk.1) (asgT_stores (by simpa using hk.2))) fun D σ H => asg_ok mt me D σ H
              | _ => cases hc.2
            · cases h
          · cases h
        · cases h
      · -- an expression
        rename_i e pos
        split at h
        · cases h
          exact PS.imp ps_doc fun D σ H ⟨ρ, env, st, rel, q⟩ => q ρ H σ Ext.refl rel
        · split at h
          · rename_i hn
            cases hr : trE n c e with
            | none => rw [hr] at h; cases h
            | some m' =>
              rw [hr] at h; cases h
              exact PS.imp (ps_expr (se X c e m' W g tk hr).1 (swap_no hn)) fun D σ H => expr_ok m' D σ H
          · cases h
      · -- return e
        rename_i e pos
        cases hr : trE n c e with
        | none => rw [hr] at h; cases h
        | some m' =>
          rw [hr] at h; cases h
          exact PS.imp (ps_ret (se X c e m' W g tk hr).1) fun D σ H => ret_ok m' D σ H
      · cases h
        exact PS.imp ps_retN fun D σ H ⟨ρ, env, st, rel, q⟩ => q ρ H .non Ext.refl rel.s .non
      · rename_i t a b pos
        split at h
        · rename_i mt ma mb ht ha hb
          cases h
          exact PS.imp (ps_if (se X c t mt W g tk ht).2 (ih2 X c a ma W g tk ha) (ih2 X c b mb W g tk hb)) fun D σ H => ite_ok mt ma mb D σ H
        · cases h
      · rename_i t iter body orelse pos
        split at h
        · split at h
          · rename_i hp
            rw [Bool.and_eq_true, Bool.not_eq_true'] at hp
            obtain ⟨hh, hp⟩ := hp
            split at h
            · rename_i mt kk src mb ht hi hb
              cases h
              exact PS.imp (ps_for g.po (g.calm hh) (si X c t iter kk src W g tk hi) ((trTg_ok (G := G) (P := P) (k := k) n).1 X c t mt g ht) (ih2 X c body mb W g tk hb) (fold_plain hp)) fun D σ H => for_ok mt kk src mb D σ H
            · cases h
          · cases h
        · cases h
      · rename_i t body orelse pos
        split at h
        · split at h
          · rename_i hh
            rw [Bool.not_eq_true'] at hh
            split at h
            · rename_i mt mb ht hb
              cases h
              exact PS.imp (ps_while g.po (se X c t mt W g tk ht).2 (ih2 X c body mb W g tk hb)) fun D σ H => while_ok mt mb D σ H
            · cases h
          · cases h
        · cases h
      · rename_i t op e pos
        split at h
        · rename_i x px
          split at h
          · rename_i hc
            simp only [Bool.and_eq_true] at hc
            obtain ⟨⟨⟨hst, hok⟩, hnc⟩, hpl⟩ := hc
            split at h
            · rename_i i m hs hm
              cases h
              exact PS.imp (ps_aug g.nd (by rw [g.N]; exact slotOf_get hs) (sto_loc g hst) (se X c e m W g tk hm).1 ip_add (sto_fn g hst)) fun D σ H => aug_ok (fun i j st => rfl) (fun d e st z => by cases d <;> cases e <;> first | rfl | exact absurd ⟨rfl, rfl⟩ (z _ _)) i m D σ H
            · rename_i i m hs hm
              cases h
              exact PS.imp (ps_aug g.nd (by rw [g.N]; exact slotOf_get hs) (sto_loc g hst) (se X c e m W g tk hm).1 ip_sub (sto_fn g hst)) fun D σ H => aug_ok (fun i j st => rfl) (fun d e st z => by cases d <;> cases e <;> first | rfl | exact absurd ⟨rfl, rfl⟩ (z _ _)) i m D σ H
            · cases h
          · cases h
        · cases h
      · cases h; exact PS.imp ps_break fun D σ H ⟨ρ, env, st, rel, q⟩ => q ρ H σ Ext.refl rel
      · cases h; exact PS.imp ps_continue fun D σ H ⟨ρ, env, st, rel, q⟩ => q ρ H σ Ext.refl rel
      · cases h; exact PS.imp ps_pass fun D σ H ⟨ρ, env, st, rel, q⟩ => q ρ H σ Ext.refl rel
      · -- raise
        rename_i r pos
        split at h
        · rename_i x px e cpos
          split at h
          · rename_i hc
            simp only [Bool.and_eq_true, Bool.not_eq_true'] at hc
            obtain ⟨hh, ⟨hok, hgl⟩, hpl⟩ := hc
            split at h
            · rename_i q m hq hm
              cases h
              have pe := (se X c e m W g tk hm).1
              obtain ⟨C, hC, hmC, _⟩ := g.ex x q hq
              obtain ⟨cl, fI, fd, iC, tI, F1, hb⟩ := g.cls _ _ hC
              have hr : Room (1 + 1) X.A := (g.room hh).mono (by omega)
              have pm := pmkN_oex (p := px) (pos := cpos) cl.oex iC tI F1 hr hb (gl_of g hgl) hmC (pa_consZ hpl pe (pa_nilZ fun env st => rfl)) (okName_dbg hok) (star_plain hpl)
              exact PS.imp (L2N.ps_raise (g.calm hh) tk pm) fun D σ H q => raise_ok (F := run P k) hC cl.oex cl.noP m D σ H q
            · cases h
          · cases h
        · cases h
      · -- try
        rename_i body hs pos
        split at h
        · rename_i x px nm b0 suite hpos
          split at h
          · rename_i hc
            simp only [Bool.and_eq_true, Bool.not_eq_true', beq_iff_eq] at hc
            obtain ⟨⟨⟨hh, hcu⟩, hdf⟩, ⟨hok, hgl⟩, hln⟩ := hc
            split at h
            · rename_i q i mb ms hq hi hb hsu
              cases h
              obtain ⟨C, hC, hmC, hex⟩ := g.ex x q hq
              obtain ⟨ht1, ht2⟩ := g.top hdf
              have hln : X.env.kindOf nm = some .local := by
                show X.env.scope.names.lookup nm = some .local
                rw [g.sc]; exact hln
              refine PS.imp (L2N.ps_try_as (i := i) (tb := fun W => tS G X.K W (xss (run P k) mb)) (ts := tSu G X.K (run P k) ms) (Wout := W) ht1 ht2 g.nd (by rw [g.N]; exact slotOf_get hi) hln ⟨gl_of g hgl, okName_dbg hok, .inl hmC⟩ tk
                (fun W' pn xe tk' po => ih2 (X.tr pn xe) c body mb W' (g.tr hh hcu po) tk' hb) (fun a oe cls d pn hz hf => ?_)) fun D σ H q => try_ok (F := run P k) (g.nocur hh) (fun j E hE => (hex j E hE).1) D σ H q
              refine ⟨fun pins s σ H D I q => ?_⟩
              obtain ⟨l, ci, dd, C', hcls, hdd, hC', q⟩ := q
              subst hcls
              subst hdd
              exact ((ihG (G.at (some ⟨l, a, ci, dd⟩))).2 (X.suite a ((a, oe) :: pn)) { c with hot := true, cur := true } (b0 :: suite) ms (fun _ _ _ _ => False) (g.suite (l := l) hdf hC' hz hf) takesN0 hsu).run pins s σ H D I q
            · cases h
          · cases h
        · cases h
      · cases h
    · unfold trSs at h
      split at h
      · cases h
        exact PSs.imp pss_nil fun D σ H ⟨ρ, env, st, rel, q⟩ => q ρ H σ Ext.refl rel
      · rename_i s r
        split at h
        · rename_i a b ha hb
          cases h
          exact PSs.imp (pss_cons (ih1 X c s a W g tk ha) (ih2 X c r b W g tk hb)) fun D σ H ⟨ρ, env, st, rel, q⟩ => ⟨ρ, env, st, rel, Ls.seq (f := fun env' st' => xss (run P k) b env' st') q⟩
        · cases h
end
end Z

set_option autoImplicit false
set_option maxHeartbeats 2000000
namespace Z
open PySem PySem.Spec PyProof.Rows L2

/-! ## a program's defs -/
structure Ent where
  x : Str
  q : Str
  st : Stmt
  N : List Str
  ps : List Str
  dvs : List D
  hot : Bool := false
  seals : List Pos := []
  opens : List Pos := []
  raw : Bool := false
def tabFrom : Nat → List Ent → List (Str × Fi)
  | _, [] => []
  | i, e :: es => (e.x, ⟨i, e.ps.length, e.dvs, e.hot, e.raw⟩) :: tabFrom (i + 1) es
theorem tab_get : ∀ {es : List Ent} {i : Nat} {x : Str} {fi : Fi}, (tabFrom i es).lookup x = some fi → ∃ e, es[fi.id - i]? = some e ∧ i ≤ fi.id ∧ e.x = x ∧ fi.np = e.ps.length ∧ fi.dvs = e.dvs ∧ fi.hot = e.hot
  | [], _, _, _, h => by cases h
  | e :: es, i, x, fi, h => by
    unfold tabFrom at h
    rw [List.lookup_cons] at h
    cases hb : x == e.x with
    | true =>
      rw [hb] at h
      cases h
      exact ⟨e, by simp, Nat.le_refl _, (by simpa using hb : x = e.x).symm, rfl, rfl, rfl⟩
    | false =>
      rw [hb] at h
      obtain ⟨e', h1, h2, h3⟩ := tab_get h
      refine ⟨e', ?_, Nat.le_of_succ_le h2, h3⟩
      have : fi.id - i = (fi.id - (i + 1)) + 1 := by omega
      rw [this, List.getElem?_cons_succ]
      exact h1
structure Pg where
  E : List Ent
  co : List (Str × D)
  blt : List Str
  ex : List (Str × (Nat × List Nat)) := []
  exb : List (Str × List Nat) := []
def Pg.ctx (p : Pg) (e : Ent) : Cc := { N := e.N, sc := defScope e.st, raw := defScope e.st, isDef := true, fn := tabFrom 0 p.E, co := p.co, blt := p.blt, ex := p.ex, exb := p.exb, seals := e.seals, opens := e.opens }
def Cc.asHot (c : Cc) : Cc := { c with hot := true }
/-- the defs as the machine runs them -/
inductive Comp (p : Pg) : List Ent → List Fd → Prop
  | nil : Comp p [] []
  | cons {e : Ent} {es : List Ent} {b : List Sx} {fs : List Fd} (n : Nat) : trSs n (p.ctx e) (defBody e.st) = some b → (if e.hot then trSs n (p.ctx e).asHot (defBody e.st) = some b else True) → Comp p es fs → Comp p (e :: es) (⟨e.N.length, e.ps.length, b⟩ :: fs)
theorem Comp.get {p : Pg} : ∀ {es : List Ent} {fs : List Fd}, Comp p es fs → ∀ {i : Nat} {e : Ent}, es[i]? = some e → ∃ n b, trSs n (p.ctx e) (defBody e.st) = some b ∧ (e.hot = true → trSs n (p.ctx e).asHot (defBody e.st) = some b) ∧ fs[i]? = some ⟨e.N.length, e.ps.length, b⟩
  | _, _, .nil, i, e, h => by simp at h
  | _, _, .cons n h1 h3 h2, 0, e, h => by simp at h; subst h; exact ⟨n, _, h1, fun z => by rw [if_pos z] at h3; exact h3, rfl⟩
  | _, _, .cons n h1 h3 h2, i + 1, e, h => by simp at h; simpa using Comp.get h2 h
/-- what of a def stands in the written part -/
structure EntOk (K : PySem.W.Frag) (mg : Str → Option Value) (e : Ent) : Prop where
  sc : FnScope e.N e.ps (defScope e.st)
  at_ : ∃ a fd, mg e.x = some (.ref a) ∧ Fun K e.x e.q e.st a fd ∧ ∀ n, ∃ vs ds, (∀ ρ H, Rvs K ρ H (e.dvs.drop n) vs) ∧ Vals vs ds ∧ Binds K fd e.ps ds
/-- an exception class's __init__: self.place = place -/
structure IniOk (K : PySem.W.Frag) (D : Addr) : Prop where
  at_ : ∃ fI fd qual st, PySem.W.findIn K (.ref D) "__init__" = some (some (.ref fI)) ∧ PySem.W.typeIn K (.ref fI) = some (.type "function") ∧ Fun K "__init__" qual st fI fd ∧ FnScope ["self", "place"] ["self", "place"] (defScope st) ∧
    (∃ p1 p2 p3 p4, defBody st = [.Assign [.Attribute (.Name "self" p1) "place" p2] (.Name "place" p3) p4]) ∧ Binds K fd ["self", "place"] []
structure PgOk (G : GC) (K : PySem.W.Frag) (mg : Str → Option Value) (p : Pg) : Prop where
  ents : ∀ e ∈ p.E, EntOk K mg e
  blt : ∀ x, p.blt.contains x = true → mg x = none
  co : ∀ x d, p.co.lookup x = some d → ∃ u, mg x = some u ∧ CVal K d u
  ex : ∀ x q, p.ex.lookup x = some q → ∃ C, G.cls[q.1]? = some C ∧ mg x = some (.ref C) ∧ ∀ (i : Nat) (D : Addr), G.cls[i]? = some D → PySem.W.exmOne K (.ref D) (.ref C) = some (q.2.contains i) ∧ PySem.W.kitOne K (.ref D) (.ref C) = some (q.2.contains i)
  exb : ∀ x tab, p.exb.lookup x = some tab → mg x = none ∧ ∃ T, bootBuiltins x = some (.type T) ∧ ∀ (i : Nat) (D : Addr), G.cls[i]? = some D → PySem.W.kitOne K (.ref D) (.type T) = some (tab.contains i)
  cls : ∀ (i : Nat) (D : Addr), G.cls[i]? = some D → ClsOk K D ∧ IniOk K D

section
variable {G : GC} {K : PySem.W.Frag} {mg : Str → Option Value} {base : Heap} {prog : Program} {w : World} {p : Pg} {P : List Fd}
theorem fin_ok {Q : VK} {E : XK} {ρ : Tk} {H : Hp} {r : SR} (h : Lf G K (fun c d H' => E c d H') ρ H r.fin fun d _ ρ' H' => ∀ v, Rv K ρ' H' d v → Q v H') :
    Ls G K (fun c d _ H' => E c d H') { nx := fun _ H' => Q .non H', rt := Q } ρ H r := by
  cases r with
  | next env st => exact fun ρ' H' σ' e rel => h ρ' H' e rel.s .non .non
  | ret d st => exact fun ρ' H' v e s rv => h ρ' H' e s v rv
  | exc c p env st => exact fun ρ' H' σ' cls dd e rel x => h ρ' H' cls dd e rel.s x
  | brk => exact h.elim
  | cnt => exact h.elim
  | bad => exact h
theorem start_re {ρ : Tk} {H : Hp} {ds : List D} {vs : List V} {N : List Str} (r : Rvs K ρ H ds vs) : Re K ρ H (ds.map some ++ List.replicate (N.length - ds.length) none) (L2.start N vs) := by
  unfold L2.start
  rw [← r.length]
  refine ⟨by simp [r.length], fun i d e => ?_⟩
  by_cases hi : i < ds.length
  · rw [List.getElem?_append_left (by simpa using hi), List.getElem?_map] at e
    rw [List.getElem?_append_left (by simpa [← r.length] using hi), List.getElem?_map]
    rw [List.getElem?_eq_getElem hi] at e
    cases e
    obtain ⟨v, hv, rv⟩ := r.get (List.getElem?_eq_getElem hi)
    rw [hv]
    exact ⟨v, rfl, rv⟩
  · exfalso
    rw [List.getElem?_append_right (by simpa using hi), List.getElem?_replicate] at e
    split at e <;> cases e
theorem ini_fn {fI : Addr} {fd : FuncData} {qual : Str} {st : Stmt} (F : Fun K "__init__" qual st fI fd) (S : FnScope ["self", "place"] ["self", "place"] (defScope st))
    (hb : ∃ p1 p2 p3 p4, defBody st = [.Assign [.Attribute (.Name "self" p1) "place" p2] (.Name "place" p3) p4]) : FnOk prog w K mg base (CXN prog w) 1 fI fd ["self", "place"] (spI K) := by
  obtain ⟨oc, od, kV, doc, pm, an, cdv, ct, osl, rfl, lk, hcd⟩ := F.ex
  refine fn_of lk hcd S (fun vs H Q E ⟨a, C, y, hv, _⟩ => by rw [hv]; rfl) fun A outer s H vs Q E hr ⟨a, C, y, hv, ha, T, hno, q⟩ => ?_
  obtain ⟨p1, p2, p3, p4, hbody⟩ := hb
  rw [hbody]
  have vis : ∀ {x : Str}, x ∈ (["self", "place"] : List Str) → Vis (cxOf (CXN prog w) prog w K mg base ["self", "place"] qual (defScope st) fI cdv A outer s H E).env.scope x := fun {x} hx => by
    rcases S.par x hx with h | h
    · exact .inl h
    · exact .inr (.inl h)
  refine ⟨_, pss_one (ps_ost (pe_var (i := 0) rfl (vis (by decide)) (by decide) (by decide)) (pe_var (i := 1) rfl (vis (by decide)) (by decide) (by decide))), ?_⟩
  subst hv
  exact ⟨y, rfl, .ref a, rfl, a, C, rfl, T, hno, .inl ⟨ha, fun dx h1 h2 => q dx h1 h2⟩⟩
theorem okXN {x qual : Str} {st : Stmt} {f : Addr} {fd : FuncData} {N ps : List Str} {k : Nat} {sp : Sp} (F : Fun K x qual st f fd) (S : FnScope N ps (defScope st)) (len : ∀ vs H Q E, sp vs H Q E → vs.length = ps.length)
    (hbody : ∀ (cdv : Value) (A : Around) (outer : List PySem.Env) (s : Shared) (H : Hp) (vs : List V) (Q : VK) (E : XK), Room k (A.deeper (envOfC qual (defScope st) s.heap.objs.size f cdv)) → sp vs H Q E →
      ∃ t, PSs (cxOf (CXN prog w) prog w K mg base N qual (defScope st) f cdv A outer s H E) (defBody st) t ∧ t { nx := fun _ H' => Q .non H', rt := Q } (L2.start N vs) H) : FnOk prog w K mg base (CXN prog w) (k + 1) f fd ps sp := by
  obtain ⟨_, _, _, _, _, _, cd, _, _, rfl, lk, hc⟩ := F.ex
  exact fn_of lk hc S len fun A outer s H vs Q E => hbody cd A outer s H vs Q E
theorem body_ok {i : Nat} {e : Ent} {ρ : Tk} {st : Store} {ds : List D} {vs : List V} {H : Hp} {Q : VK} {E : XK} {b : List Sx} {k : Nat} (hP : P[i]? = some ⟨e.N.length, e.ps.length, b⟩) (sr : Rs G K ρ st H) (r : Rvs K ρ H ds vs)
    (q : Lf G K (fun c d H' => E c d H') ρ H (run P (k + 1) i ds st) fun d _ ρ' H' => ∀ v, Rv K ρ' H' d v → Q v H') : tS G K (fun c d _ H' => E c d H') (xss (run P k) b) { nx := fun _ H' => Q .non H', rt := Q } (L2.start e.N vs) H := by
  unfold run at q
  rw [hP] at q
  obtain ⟨hl, q⟩ := of_ite q
  refine ⟨ρ, _, st, ⟨sr, start_re (N := e.N) r⟩, ?_⟩
  have q := fin_ok q
  rw [← hl] at q
  exact q
theorem fn_all (ok : PgOk G K mg p) (hc : Comp p p.E P) : ∀ (k i : Nat) (e : Ent) (a : Addr) (fd : FuncData), p.E[i]? = some e → Fun K e.x e.q e.st a fd →
    FnOk prog w K mg base (CXN prog w) (k + 2) a fd e.ps (spF (G.at none) K P k i) ∧ (e.hot = true → ∀ p cu, CurP G.cls p cu → FnHp p prog w K mg base (k + 2) a fd e.ps (spF (G.at (some cu)) K P k i))
  | 0, i, e, a, fd, he, F => by
    have no : ∀ cu vs H Q E, ¬ spF (G.at cu) K P 0 i vs H Q E := fun cu vs H Q E h => by
      obtain ⟨ρ, st, ds, _, _, q⟩ := h
      exact q
    exact ⟨⟨fun vs H Q E h => (no _ vs H Q E h).elim, fun A outer s H args us vs Q E _ _ _ _ h => (no _ vs H Q E h).elim⟩,
      fun _ p cu _ => ⟨fun vs H Q E h => (no _ vs H Q E h).elim, fun A outer s H args us vs Q E _ _ _ _ _ _ h => (no _ vs H Q E h).elim⟩⟩
  | k + 1, i, e, a, fd, he, F => by
    obtain ⟨n, b, hb, hbh, hP⟩ := hc.get he
    have eok := ok.ents e (List.mem_of_getElem? he)
    have len : ∀ cu vs H Q E, spF (G.at cu) K P (k + 1) i vs H Q E → vs.length = e.ps.length := fun cu vs H Q E h => by
      obtain ⟨ρ, st, ds, _, r, q⟩ := h
      rw [← r.length]
      unfold run at q
      rw [hP] at q
      obtain ⟨h, _⟩ := of_ite q
      exact h
    have fns : ∀ x fi, (tabFrom 0 p.E).lookup x = some fi → ∃ a fd ps, mg x = some (.ref a) ∧ PySem.W.keepIn K (.ref a) = true ∧ ps.length = fi.np ∧
        (∀ n, ∃ vs ds, (∀ ρ H, Rvs K ρ H (fi.dvs.drop n) vs) ∧ Vals vs ds ∧ Binds K fd ps ds) ∧ FnOk prog w K mg base (CXN prog w) (k + 2) a fd ps (spF (G.at none) K P k fi.id) ∧
        (fi.hot = true → ∀ p cu, CurP G.cls p cu → FnHp p prog w K mg base (k + 2) a fd ps (spF (G.at (some cu)) K P k fi.id)) := fun x fi hx => by
      obtain ⟨e', h1, _, h2, h3, h4, h5⟩ := tab_get hx
      rw [Nat.sub_zero] at h1
      obtain ⟨a', fd', m1, m2, m3⟩ := (ok.ents e' (List.mem_of_getElem? h1)).at_
      obtain ⟨f1, f2⟩ := fn_all ok hc k fi.id e' a' fd' h1 m2
      exact ⟨a', fd', e'.ps, by rw [← h2]; exact m1, m2.kp, h3.symm, by rw [h4]; exact m3, f1, fun z => f2 (by rw [← h5]; exact z)⟩
    have cls : ∀ (i : Nat) (D : Addr), G.cls[i]? = some D → ClsOk K D ∧ ∃ fI fd, PySem.W.findIn K (.ref D) "__init__" = some (some (.ref fI)) ∧ PySem.W.typeIn K (.ref fI) = some (.type "function") ∧
        FnOk prog w K mg base (CXN prog w) 1 fI fd ["self", "place"] (spI K) ∧ Binds K fd ["self", "place"] [] := fun i D h => by
      obtain ⟨c1, fI, fd, qual, st, c2, c3, c4, c5, c6, c7⟩ := ok.cls i D h
      exact ⟨c1, fI, fd, c2, c3, ini_fn c4 c5 c6, c7⟩
    refine ⟨okXN F eok.sc (len none) fun cdv A outer s H vs Q E hr h => ?_, fun hhot pp cu hcp => fnHp_of F eok.sc (len (some cu)) fun cdv A outer s H vs Q E hot hr h => ?_⟩
    · have g : XG (G.at none) P k (cxOf (CXN prog w) prog w K mg base e.N e.q (defScope e.st) a cdv A outer s H E) (p.ctx e) :=
        { N := rfl, nd := eok.sc.nd, sc := rfl, calm := fun _ => rfl, fn := .inl ⟨rfl, fun _ => rfl⟩, room := fun _ => hr, roomH := L2H.roomH_of hr, po := passes_of rfl, top := fun _ => ⟨rfl, rfl⟩, nocur := fun _ => rfl,
          hotc := fun z => Bool.noConfusion (show false = true from z), curx := fun z => Bool.noConfusion (show false = true from z), blt := ok.blt, fns := fns, co := ok.co, ex := ok.ex, exb := ok.exb, cls := cls }
      obtain ⟨ρ, st, ds, sr, r, q⟩ := h
      exact ⟨_, (soundS (P := P) (k := k) n (G.at none)).2 _ _ _ b (fun cls d _ H => E cls d H) g (L2N.takes_of rfl rfl rfl rfl) hb, body_ok hP sr r q⟩
    · have g : XG (G.at (some cu)) P k (L2H.cxH (CXN prog w) prog w K mg base e.N e.q (defScope e.st) a cdv A outer s H E pp) (p.ctx e).asHot :=
        { N := rfl, nd := eok.sc.nd, sc := rfl, calm := fun z => Bool.noConfusion (show true = false from z), fn := .inl ⟨rfl, fun _ => rfl⟩, room := fun z => Bool.noConfusion (show true = false from z), roomH := hr, po := passes_of rfl, top := fun _ => ⟨rfl, rfl⟩,
          nocur := fun z => Bool.noConfusion (show true = false from z), hotc := fun _ => ⟨pp, cu, hot, List.mem_cons_self, rfl, ⟨hcp.ad, hcp.cl, hcp.fs⟩⟩, curx := fun z => Bool.noConfusion (show false = true from z), blt := ok.blt, fns := fns, co := ok.co, ex := ok.ex, exb := ok.exb, cls := cls }
      obtain ⟨ρ, st, ds, sr, r, q⟩ := h
      exact ⟨_, (soundS (P := P) (k := k) n (G.at (some cu))).2 _ _ _ b (fun cls d _ H => E cls d H) g (L2N.takes_of rfl rfl rfl rfl) (hbh hhot), body_ok hP sr r q⟩
end

/-! ## for the table -/
theorem hot_no {h : Bool} {X : Prop} (e : h = false) : if h = true then X else True := by rw [e, if_neg Bool.false_ne_true]; trivial
theorem hot_yes {h : Bool} {X : Prop} (e : h = true) (x : X) : if h = true then X else True := by rw [e, if_pos rfl]; exact x
theorem look_cons {β : Type} {x y : Str} {v w : β} {l : List (Str × β)} (h : ((y, v) :: l).lookup x = some w) : (x = y ∧ w = v) ∨ l.lookup x = some w := by
  rw [List.lookup_cons] at h
  cases hb : x == y with
  | true => rw [hb] at h; cases h; exact .inl ⟨by simpa using hb, rfl⟩
  | false => rw [hb] at h; exact .inr h
theorem nth_cons {α : Type} {a b : α} {l : List α} {i : Nat} (h : (a :: l)[i]? = some b) : (i = 0 ∧ b = a) ∨ ∃ j, i = j + 1 ∧ l[j]? = some b := by
  cases i with
  | zero => exact .inl ⟨rfl, by simpa using h.symm⟩
  | succ j => exact .inr ⟨j, rfl, by simpa using h⟩
theorem kit_ref {K : PySem.W.Frag} {A B : Addr} {b : Bool} (h : PySem.W.subIn K (.ref A) (.ref B) = some b) (hB : PySem.W.subIn K (.ref B) (.ref B) = some true) (hd : PySem.W.hasDictIn K B = true) (ht : PySem.W.typeIn K (.ref B) = some (.type "type")) :
    PySem.W.kitOne K (.ref A) (.ref B) = some b := by
  unfold PySem.W.kitOne
  by_cases e : A = B
  · subst e
    rw [hB] at h
    cases h
    rw [if_pos (beq_self_eq_true _)]
  · have ne : ¬ (Value.ref A == Value.ref B) = true := fun z => e (Value.ref.inj (beq_iff_eq.mp z))
    rw [if_neg ne]
    obtain ⟨cd, hc, _⟩ := PySem.W.any_some hd
    show (if ((PySem.W.clsIn K B).isSome && PySem.W.typeIn K (.ref B) == some (.type "type")) = true then PySem.W.subIn K (.ref A) (.ref B) else none) = some b
    have e2 : ((some cd).isSome && some (Value.type "type") == some (Value.type "type")) = true := by rw [beq_self_eq_true]; rfl
    rw [hc, ht, if_pos e2]
    exact h
theorem kit_blt {K : PySem.W.Frag} {A : Addr} {T : String} {b : Bool} (m : PySem.W.kitMeta T = true) (h : PySem.W.subIn K (.ref A) (.type T) = some b) : PySem.W.kitOne K (.ref A) (.type T) = some b := by
  unfold PySem.W.kitOne
  rw [if_neg (show ¬ (Value.ref A == Value.type T) = true from by rw [show (Value.ref A == Value.type T) = false from rfl]; exact Bool.false_ne_true)]
  show (if PySem.W.kitMeta T = true then PySem.W.subIn K (.ref A) (.type T) else none) = some b
  rw [if_pos m]
  exact h
/-- a statement of a class's body -/
def inCls (s : Stmt) (j : Nat) : Stmt := match s with
  | .ClassDef _ _ _ b _ _ _ _ _ _ _ => b.getD j s
  | s => s
/-! ## the law -/
theorem script_rv {K : PySem.W.Frag} {H : Hp} {a : Addr} {ns : List Int} (o : Only H) (h : SqL K H a (ns.map V.int)) : Rv K [] H (.slst (ns.map D.int)) (.ref a) := by
  refine .slst (xs := ns.map V.int) ?_ ?_
  · rcases h with (h | ⟨ob, h⟩) | h
    · rcases o a with z | ⟨ob, xs, z⟩
      · rw [h] at z; cases z
      · rw [h] at z; cases z
    · exact .inl ⟨ob, h⟩
    · exact .inr h
  · clear h
    induction ns with
    | nil => exact .nil
    | cons n ns ih => exact .cons (.int n) ih
def GC0 : GC := { cls := [] }
def gcOf (K : PySem.W.Frag) (xs : List Str) : GC := { cls := xs.map (clsOf K) }
theorem law_sp {G : GC} {K : PySem.W.Frag} {P : List Fd} {k i : Nat} {H : Hp} {a : Addr} {ns : List Int} (o : Only H) (h : SqL K H a (ns.map V.int)) (hr : ∃ st', run P k i [.slst (ns.map D.int)] [] = .ok (.bl true) st') :
    spF G K P k i [.ref a] H (fun v _ => v = .bl true) fun _ _ _ => False := by
  obtain ⟨st', hr⟩ := hr
  refine ⟨[], [], [.slst (ns.map D.int)], ⟨rfl, fun l m a h => by simp at h, fun l o h => by simp at h⟩, .cons (script_rv o h) .nil, ?_⟩
  rw [hr]
  intro ρ' H' e s v rv
  cases rv
  rfl
end Z

set_option autoImplicit false
namespace Z
open PySem L2

/-! # Reasoning about runs -/
theorem run_eq {P : List Fd} {f : Nat} {d : Fd} (h : P[f]? = some d) (k : Nat) (ds : List D) (st : Store) (hl : ds.length = d.params) :
    run P (k + 1) f ds st = (xss (run P k) d.body (ds.map some ++ List.replicate (d.slots - d.params) none) st).fin := by
  show (match P[f]? with | some d => if ds.length = d.params then _ else R.bad | none => .bad) = _
  rw [h]
  exact if_pos hl
@[simp] theorem bind_ok {α β : Type} (a : α) (st : Store) (f : α → Store → R β) : (R.ok a st).bind f = f a st := rfl
@[simp] theorem bind_exc {α β : Type} (c : Nat) (p : D) (st : Store) (f : α → Store → R β) : (R.exc c p st : R α).bind f = .exc c p st := rfl
@[simp] theorem toS_ok {α : Type} (a : α) (st : Store) (env : Env) (f : α → Store → SR) : (R.ok a st).toS env f = f a st := rfl
@[simp] theorem toS_exc {α : Type} (c : Nat) (p : D) (st : Store) (env : Env) (f : α → Store → SR) : (R.exc c p st : R α).toS env f = .exc c p env st := rfl
@[simp] theorem seq_next (env : Env) (st : Store) (f : Env → Store → SR) : (SR.next env st).seq f = f env st := rfl
@[simp] theorem seq_ret (d : D) (st : Store) (f : Env → Store → SR) : (SR.ret d st).seq f = .ret d st := rfl
@[simp] theorem seq_exc (c : Nat) (p : D) (env : Env) (st : Store) (f : Env → Store → SR) : (SR.exc c p env st).seq f = .exc c p env st := rfl
@[simp] theorem fin_ret (d : D) (st : Store) : (SR.ret d st).fin = .ok d st := rfl
@[simp] theorem fin_next (env : Env) (st : Store) : (SR.next env st).fin = .ok .non st := rfl
@[simp] theorem fin_exc (c : Nat) (p : D) (env : Env) (st : Store) : (SR.exc c p env st).fin = .exc c p st := rfl
@[simp] theorem truth_bl (st : Store) (b : Bool) : truth st (.bl b) = some b := rfl
theorem truth_int (st : Store) (i : Int) : truth st (.int i) = some (i != 0) := rfl

section
variable (F : FT) (env : Env) (st : Store)
theorem ev_v (i : Nat) : ev F (.v i) env st = (match env[i]? with | some (some d) => .ok d st | _ => .bad) := rfl
theorem ev_c (d : D) : ev F (.c d) env st = .ok d st := rfl
theorem ev_op (o : Op) (es : List Ex) : ev F (.op o es) env st = (evs F es env st).bind fun ds st1 => opSem o ds st1 := rfl
theorem ev_call (f : Nat) (es : List Ex) : ev F (.call f es) env st = (evs F es env st).bind fun ds st1 => F f ds st1 := rfl
theorem ev_and (a b : Ex) : ev F (.and a b) env st = (ev F a env st).bind fun x st1 => match truth st1 x with
    | some true => ev F b env st1
    | some false => .ok x st1
    | none => .bad := rfl
theorem ev_or (a b : Ex) : ev F (.or a b) env st = (ev F a env st).bind fun x st1 => match truth st1 x with
    | some true => .ok x st1
    | some false => ev F b env st1
    | none => .bad := rfl
theorem ev_not (a : Ex) : ev F (.not a) env st = (ev F a env st).bind fun x st1 => match truth st1 x with
    | some k => .ok (.bl (!k)) st1
    | none => .bad := rfl
theorem ev_ifx (c a b : Ex) : ev F (.ifx c a b) env st = (ev F c env st).bind fun x st1 => match truth st1 x with
    | some true => ev F a env st1
    | some false => ev F b env st1
    | none => .bad := rfl
theorem evs_nil : evs F [] env st = .ok [] st := rfl
theorem evs_cons (e : Ex) (es : List Ex) : evs F (e :: es) env st = (ev F e env st).bind fun d st1 => (evs F es env st1).bind fun ds st2 => .ok (d :: ds) st2 := rfl
theorem xs_asg (t : Tg) (e : Ex) : xs F (.asg t e) env st = (ev F e env st).toS env fun d st1 => match setT t d env with
    | some env' => .next env' st1
    | none => .bad := rfl
theorem xs_expr (e : Ex) : xs F (.expr e) env st = (ev F e env st).toS env fun _ st1 => .next env st1 := rfl
theorem xs_ret (e : Ex) : xs F (.ret e) env st = (ev F e env st).toS env fun d st1 => .ret d st1 := rfl
theorem xs_ite (c : Ex) (t f : List Sx) : xs F (.ite c t f) env st = (ev F c env st).toS env fun x st1 => match truth st1 x with
    | some true => xss F t env st1
    | some false => xss F f env st1
    | none => .bad := rfl
theorem xs_brk : xs F .brk env st = .brk env st := rfl
theorem xs_cnt : xs F .cnt env st = .cnt env st := rfl
theorem xs_pass : xs F .pass env st = .next env st := rfl
theorem xss_nil : xss F [] env st = .next env st := rfl
theorem xss_cons (s : Sx) (ss : List Sx) : xss F (s :: ss) env st = (xs F s env st).seq fun env' st' => xss F ss env' st' := rfl
theorem setT_nm (i : Nat) (d : D) : setT (.nm i) d env = some (env.set i (some d)) := rfl
noncomputable def compOne (own : List Nat) (t : Tg) (ifs : List Ex) (elt : Ex) : D → Store → R (Option D) := fun x st2 => match setT t x (wipeE own env) with
  | some env' => (evTests F ifs env' st2).bind fun ok st3 => if ok then (ev F elt env' st3).bind fun d st4 => .ok (some d) st4 else .ok none st3
  | none => .bad
theorem comp_eq {own : List Nat} {t : Tg} {k : Ik} {src ifs : List Ex} {elt : Ex} {ds : List D} {st1 : Store} {S : Src} (h : evs F src env st = .ok ds st1) (hS : srcOf k ds st1 = some S) :
    ev F (.comp own t k src ifs elt) env st = evComp S.same st1.length (compOne F env own t ifs elt) S.items (st1 ++ [.lst []]) := by
  show (evs F src env st).bind _ = _
  rw [h, bind_ok]
  show (match srcOf k ds st1 with | some S => _ | none => _) = _
  rw [hS]; rfl
theorem one_eq {own : List Nat} {t : Tg} {elt : Ex} {x d : D} {env' : Env} {st' : Store} (h : setT t x (wipeE own env) = some env') (he : ev F elt env' st = .ok d st') : compOne F env own t [] elt x st = .ok (some d) st' := by
  show (match setT t x (wipeE own env) with | some env' => _ | none => _) = _
  rw [h]
  show (ev F elt env' st).bind _ = _
  rw [he]; rfl
theorem for_eq {t : Tg} {k : Ik} {src : List Ex} {body : List Sx} {ds : List D} {st1 : Store} {S : Src} (h : evs F src env st = .ok ds st1) (hS : srcOf k ds st1 = some S) :
    xs F (.for_ t k src body) env st = evFor S.same (fun x env2 st2 => match setT t x env2 with
        | some env' => xss F body env' st2
        | none => .bad) S.items env st1 := by
  show (evs F src env st).toS env _ = _
  rw [h, toS_ok]
  show (match srcOf k ds st1 with | some S => _ | none => _) = _
  rw [hS]
  try rfl
end
theorem xss_step {F : FT} {s : Sx} {ss : List Sx} {env env' : Env} {st st' : Store} {r : SR} (h : xs F s env st = .next env' st') (h2 : xss F ss env' st' = r) : xss F (s :: ss) env st = r := by
  rw [xss_cons, h, seq_next, h2]
theorem xss_append (F : FT) : ∀ (a b : List Sx) (env : Env) (st : Store), xss F (a ++ b) env st = (xss F a env st).seq fun env' st' => xss F b env' st'
  | [], b, env, st => rfl
  | s :: a, b, env, st => by
    show (xs F s env st).seq (fun env' st' => xss F (a ++ b) env' st') = ((xs F s env st).seq fun env' st' => xss F a env' st').seq _
    cases xs F s env st with
    | next env' st' => exact xss_append F a b env' st'
    | _ => rfl
theorem xss_one (F : FT) (s : Sx) (env : Env) (st : Store) : xss F [s] env st = xs F s env st := by
  show (xs F s env st).seq _ = _
  cases xs F s env st <;> rfl
/-! ### the operations, one by one -/
section
variable (st : Store) (i j : Int) (a b : D) (p q : Bool)
theorem o_addI : opSem .add [.int i, .int j] st = .ok (.int (i + j)) st := rfl
theorem o_subI : opSem .sub [.int i, .int j] st = .ok (.int (i - j)) st := rfl
theorem o_mulR (h : big64 j = true) : opSem .mul [.int i, .int j] st = .ok (.int (i * j)) st := by
  show (if (big64 i || big64 j) = true then _ else _) = _
  rw [h, Bool.or_true, if_pos rfl]
theorem o_mulL (h : big64 i = true) : opSem .mul [.int i, .int j] st = .ok (.int (i * j)) st := by
  show (if (big64 i || big64 j) = true then _ else _) = _
  rw [h, Bool.true_or, if_pos rfl]
theorem o_mod (h : 0 < j) : opSem .mod [.int i, .int j] st = .ok (.int (i % j)) st := if_pos h
theorem o_fdiv (h : 0 < j) (h2 : j < 1073741824) : opSem .fdiv [.int i, .int j] st = .ok (.int (i / j)) st := if_pos ⟨h, h2⟩
theorem o_toInt : opSem .toInt [.int i] st = .ok (.int i) st := rfl
theorem o_toIntB : opSem .toInt [.bl p] st = .ok (.int (if p then 1 else 0)) st := rfl
theorem o_asInt : opSem .asInt [.int i] st = .ok (.int i) st := rfl
theorem o_neg : opSem .neg [.int i] st = .ok (.int (-i)) st := rfl
theorem o_ltI : opSem .lt [.int i, .int j] st = .ok (.bl (decide (i < j))) st := rfl
theorem o_leI : opSem .le [.int i, .int j] st = .ok (.bl (decide (i ≤ j))) st := rfl
theorem o_gtI : opSem .gt [.int i, .int j] st = .ok (.bl (decide (j < i))) st := rfl
theorem o_geI : opSem .ge [.int i, .int j] st = .ok (.bl (decide (j ≤ i))) st := rfl
theorem o_eq : opSem .eq [a, b] st = (match eqSem a b st with | some k => .ok (.bl k) st | none => .bad) := rfl
theorem o_ne : opSem .ne [a, b] st = (match eqSem a b st with | some k => .ok (.bl (!k)) st | none => .bad) := rfl
theorem o_eqI : opSem .eq [.int i, .int j] st = .ok (.bl (i == j)) st := rfl
theorem o_neI : opSem .ne [.int i, .int j] st = .ok (.bl (!(i == j))) st := rfl
theorem o_eqB : opSem .eq [.bl p, .bl q] st = .ok (.bl (p == q)) st := rfl
theorem o_neB : opSem .ne [.bl p, .bl q] st = .ok (.bl (!(p == q))) st := rfl
theorem o_eqS (x y : List Nat) : opSem .eq [.str x, .str y] st = .ok (.bl (x == y)) st := rfl
theorem o_neS (x y : List Nat) : opSem .ne [.str x, .str y] st = .ok (.bl (!(x == y))) st := rfl
theorem o_isB : opSem .is [.bl p, .bl q] st = .ok (.bl (p == q)) st := rfl
theorem o_isnotB : opSem .isnot [.bl p, .bl q] st = .ok (.bl (p != q)) st := rfl
theorem o_len : opSem .len [a] st = lenSem a st := rfl
theorem o_ix : opSem .ix [a, .int i] st = ixSem a i st := rfl
theorem o_slF : opSem (.sl true false) [a, .int i] st = slSem a (some i) none st := rfl
theorem o_slT : opSem (.sl false true) [a, .int i] st = slSem a none (some i) st := rfl
theorem o_slFT : opSem (.sl true true) [a, .int i, .int j] st = slSem a (some i) (some j) st := rfl
theorem o_add : opSem .add [a, b] st = addSem a b st := rfl
theorem o_tup (ds : List D) (h : ds.length ≤ SZ) : opSem .tup ds st = .ok (.tup ds) st := if_pos h
theorem o_lst (ds : List D) (h : ds.length ≤ SZ) : opSem .lst ds st = .ok (.loc st.length) (st ++ [.lst ds]) := if_pos h
theorem o_toTup : opSem .toTup [a] st = (match itemsD st a with | some xs => .ok (.tup xs) st | none => .bad) := rfl
theorem o_isinB (t : Ty) : opSem (.isin t) [.bl p] st = .ok (.bl (isTy .bool t)) st := rfl
theorem o_isinI (t : Ty) : opSem (.isin t) [.int i] st = .ok (.bl (isTy .int t)) st := rfl
end
theorem at0 {α : Type} (x : α) (xs : List α) : atI (x :: xs) 0 = some x := atI_nat (j := 0) rfl
theorem at1 {α : Type} (x y : α) (xs : List α) : atI (x :: y :: xs) 1 = some y := atI_nat (j := 1) rfl
theorem at2 {α : Type} (x y z : α) (xs : List α) : atI (x :: y :: z :: xs) 2 = some z := atI_nat (j := 2) rfl
theorem ixN_nat {n j : Nat} (h : j < n) : ixN n (j : Int) = some j := by
  unfold ixN
  rw [if_pos (by omega), if_pos (by omega)]
  rfl
theorem ixN_20 (x y : D) : ixN [x, y].length 0 = some 0 := ixN_nat (n := 2) (j := 0) (by decide)
theorem ixN_21 (x y : D) : ixN [x, y].length 1 = some 1 := ixN_nat (n := 2) (j := 1) (by decide)
theorem len_flst (st : Store) (xs : List D) : lenSem (.flst xs) st = .ok (.int xs.length) st := rfl
theorem len_slst (st : Store) (xs : List D) : lenSem (.slst xs) st = .ok (.int xs.length) st := rfl
theorem len_tup (st : Store) (xs : List D) : lenSem (.tup xs) st = .ok (.int xs.length) st := rfl

/-! ### texts, names -/
def nameD (n : List (List Nat)) : D := .tup (n.map .str)
theorem derefs_strs (g : Nat → Option D) : ∀ n : List (List Nat), derefDs g (n.map D.str) = some (n.map D.str)
  | [] => rfl
  | x :: xs => by
    show (match derefD g (.str x), derefDs g (xs.map D.str) with | some y, some ys => some (y :: ys) | _, _ => none) = _
    rw [derefs_strs g xs]; rfl
theorem pure_name (st : Store) (n : List (List Nat)) : pureD st (nameD n) = some (nameD n) := by
  show (derefDs _ (n.map D.str)).map D.tup = _
  rw [derefs_strs]; rfl
theorem deep_strs : ∀ n : List (List Nat), deepDs (n.map D.str) = 0
  | [] => rfl
  | x :: xs => by show max 0 (deepDs (xs.map D.str)) = 0; rw [deep_strs xs]; rfl
theorem deep_name (n : List (List Nat)) : deepD (nameD n) = 1 := by show deepDs (n.map D.str) + 1 = 1; rw [deep_strs]
theorem eqs_strs : ∀ a b : List (List Nat), eqDs (a.map D.str) (b.map D.str) = decide (a = b)
  | [], [] => rfl
  | [], _ :: _ => by simp [eqDs]
  | _ :: _, [] => by simp [eqDs]
  | x :: xs, y :: ys => by
    show ((x == y) && eqDs (xs.map D.str) (ys.map D.str)) = _
    rw [eqs_strs xs ys]
    by_cases h1 : x = y <;> by_cases h2 : xs = ys <;> simp [h1, h2]
theorem eq_name (a b : List (List Nat)) : eqD (nameD a) (nameD b) = decide (a = b) := eqs_strs a b
theorem eqSem_name (st : Store) (a b : List (List Nat)) : eqSem (nameD a) (nameD b) st = some (decide (a = b)) := by
  unfold eqSem
  rw [pure_name, pure_name]
  simp only [deep_name, eq_name]
  rfl
theorem eqSem_int (st : Store) (a b : Int) : eqSem (.int a) (.int b) st = some (a == b) := rfl
theorem eqSem_bl (st : Store) (a b : Bool) : eqSem (.bl a) (.bl b) st = some (a == b) := rfl
theorem eqSem_str (st : Store) (a b : List Nat) : eqSem (.str a) (.str b) st = some (a == b) := rfl
theorem cut_map {α β : Type} (f : α → β) (xs : List α) (lo hi : Option Int) : cutD (xs.map f) lo hi = (cutD xs lo hi).map f := by
  unfold cutD
  rw [List.length_map, List.map_take, List.map_drop]
theorem cut_from {α : Type} (xs : List α) (i : Nat) : cutD xs (some (i : Int)) none = xs.drop i := by
  unfold cutD
  rw [HT.sIx_nat, HT.sIx_none]
  rcases Nat.le_total i xs.length with h | h
  · rw [Nat.min_eq_left h]
    exact List.take_of_length_le (by rw [List.length_drop]; exact Nat.le_refl _)
  · rw [Nat.min_eq_right h, List.drop_length, List.drop_eq_nil_of_le h]
    simp
end Z

set_option autoImplicit false
set_option maxHeartbeats 1000000
namespace Z
open PySem L2
/-- the draw that every law has -/
def drawB : List Sx :=
  [.ite (.op .eq [.op .ix [.v 0, .c (.int 1)], .c (.int 0)]) [.asg (.nm 3) (.c (.int 0)), .ite (.op .gt [.op .len [.v 1],
    .c (.int 0)]) [.asg (.nm 3) (.op .ix [.v 1, .op .mod [.op .ix [.v 0, .c (.int 0)], .op .len [.v 1]]])] [], .ite (.op .lt [.v 3,
    .c (.int 0)]) [.asg (.nm 3) (.op .sub [.c (.int 1), .op .mul [.c (.int 2), .v 3]])] [],
    .asg (.nm 4) (.op .mod [.op .toInt [.op .mul [.op .add [.op .add [.v 3, .op .mul [.op .ix [.v 0, .c (.int 0)], .c (.int 7919)]], .c (.int 1)],
    .c (.int 48271)]], .c (.int 2147483647)]), .setix (.v 0) (.c (.int 1)) (.op .mod [.op .toInt [.op .add [.op .mul [.v 4, .c (.int 69621)],
    .op .mul [.op .ix [.v 0, .c (.int 0)], .c (.int 104729)]]], .c (.int 4294967291)]), .ite (.and (.op .ge [.v 3, .op .pow [.c (.int 10),
    .c (.int 18)]]) (.op .lt [.op .ix [.v 0, .c (.int 0)], .op .len [.v 1]])) [.setix (.v 0) (.c (.int 1)) (.v 3)] [],
    .setix (.v 0) (.c (.int 0)) (.op .add [.op .ix [.v 0, .c (.int 0)], .c (.int 1)])] [], .asg (.nm 5) (.op .mod [.op .toInt [.op .ix [.v 0,
    .c (.int 1)]], .v 2]), .setix (.v 0) (.c (.int 1)) (.op .fdiv [.op .ix [.v 0, .c (.int 1)], .v 2]), .ret (.v 5)]
theorem set_same {st : Store} {a : Nat} {o o' : DO} (h : st[a]? = some o) : (st.set a o')[a]? = some o' := by
  obtain ⟨hl, _⟩ := List.getElem?_eq_some_iff.mp h
  exact List.getElem?_set_self hl
theorem set_set {st : Store} {a : Nat} {o o' : DO} : (st.set a o).set a o' = st.set a o' := List.set_set _
theorem ix_loc {st : Store} {a : Nat} {xs : List D} (h : st[a]? = some (.lst xs)) (i : Int) : ixSem (.loc a) i st = (match atI xs i with | some d => .ok d st | none => .bad) := by
  show (match (match st[a]? with | some (.lst xs) => some xs | _ => none) with | some xs => (match atI xs i with | some d => R.ok d st | none => .bad) | none => .bad) = _
  rw [h]
theorem ix_slst {st : Store} {xs : List D} (i : Int) : ixSem (.slst xs) i st = (match atI xs i with | some d => .ok d st | none => .bad) := rfl
theorem atI_lt {α : Type} {xs : List α} {j : Nat} (h : j < xs.length) : atI xs (j : Int) = some xs[j] := atI_nat (List.getElem?_eq_getElem h)
theorem draw_mid (F : FT) {st : Store} {a : Nat} {i j size : Int} (sc : D) (env3 env4 : Option D) (h : st[a]? = some (.lst [.int i, .int j])) (hi : 0 ≤ i) (hj : 0 ≤ j) (hs : 0 < size) (hs2 : size < 1073741824) :
    ∃ d i' j', (xss F (drawB.drop 1) [some (.loc a), some sc, some (.int size), env3, env4, none] st).fin = .ok (.int d) (st.set a (.lst [.int i', .int j'])) ∧ 0 ≤ d ∧ d < size ∧ 0 ≤ i' ∧ 0 ≤ j' := by
  refine ⟨j % size, i, j / size, ?_, Int.emod_nonneg _ (by omega), Int.emod_lt_of_pos _ hs, hi, Int.ediv_nonneg hj (by omega)⟩
  simp only [drawB, List.drop_succ_cons, List.drop_zero, xss, xs, ev, evs, List.getElem?_cons_zero, List.getElem?_cons_succ, bind_ok, toS_ok, o_ix, ix_loc h, at0, at1, setT, seq_next, o_toInt, o_mod _ _ _ hs,
    o_fdiv _ _ _ hs hs2, List.set_cons_succ, List.set_cons_zero, h, ixN_21, seq_ret, fin_ret]
theorem big_2 : big64 2 = true := by decide
theorem big_7919 : big64 7919 = true := by decide
theorem big_48271 : big64 48271 = true := by decide
theorem big_69621 : big64 69621 = true := by decide
theorem big_104729 : big64 104729 = true := by decide
/-- what stands in the state's second place once the first branch has run, behind the cell -/
theorem draw_cell (F : FT) {st : Store} {a : Nat} {i cell : Int} {ns : List Int} (sz : D) (env4 : Option D) (h : st[a]? = some (.lst [.int i, .int 0])) (hi : 0 ≤ i) (hc : 0 ≤ cell) (B : List Sx) (hB : B = [.asg (.nm 4) (.op .mod [.op .toInt [.op .mul [.op .add [.op .add [.v 3, .op .mul [.op .ix [.v 0, .c (.int 0)], .c (.int 7919)]], .c (.int 1)],
    .c (.int 48271)]], .c (.int 2147483647)]), .setix (.v 0) (.c (.int 1)) (.op .mod [.op .toInt [.op .add [.op .mul [.v 4, .c (.int 69621)],
    .op .mul [.op .ix [.v 0, .c (.int 0)], .c (.int 104729)]]], .c (.int 4294967291)]), .ite (.and (.op .ge [.v 3, .op .pow [.c (.int 10),
    .c (.int 18)]]) (.op .lt [.op .ix [.v 0, .c (.int 0)], .op .len [.v 1]])) [.setix (.v 0) (.c (.int 1)) (.v 3)] [],
    .setix (.v 0) (.c (.int 0)) (.op .add [.op .ix [.v 0, .c (.int 0)], .c (.int 1)])]) :
    ∃ e4 i' j', xss F B [some (.loc a), some (.slst (ns.map .int)), some sz, some (.int cell), env4, none] st = .next [some (.loc a), some (.slst (ns.map .int)), some sz, some (.int cell), e4, none] (st.set a (.lst [.int i', .int j'])) ∧ 0 ≤ i' ∧ 0 ≤ j' := by
  subst hB
  have h1 : ∀ x, (st.set a (.lst [.int i, .int x]))[a]? = some (.lst [.int i, .int x]) := fun x => set_same h
  have hp : opSem .pow [.int 10, .int 18] = fun st => .ok (.int (10 ^ 18)) st := by funext st; rfl
  generalize hm : (cell + i * 7919 + 1) * 48271 % 2147483647 = m
  generalize hn : (m * 69621 + i * 104729) % 4294967291 = n
  have hn0 : 0 ≤ n := by rw [← hn]; exact Int.emod_nonneg _ (by decide)
  by_cases hb : (10 : Int) ^ 18 ≤ cell
  · by_cases hb2 : i < (ns.map D.int).length
    · refine ⟨some (.int m), i + 1, cell, ?_, by omega, hc⟩
      simp only [xss, xs, ev, evs, List.getElem?_cons_zero, List.getElem?_cons_succ, bind_ok, toS_ok, o_ix, ix_loc h, ix_loc (h1 _), at0, at1, setT, seq_next, o_toInt, o_addI, o_mulR _ _ _ big_7919, o_mulR _ _ _ big_48271,
        o_mulR _ _ _ big_69621, o_mulR _ _ _ big_104729, o_mod _ _ 2147483647 (by decide), o_mod _ _ 4294967291 (by decide), List.set_cons_succ, List.set_cons_zero, hm, hn, h, h1, ixN_21, ixN_20, o_geI, hp, decide_eq_true hb, truth_bl,
        o_len, len_slst, o_ltI, decide_eq_true hb2, set_set]
    · refine ⟨some (.int m), i + 1, n, ?_, by omega, hn0⟩
      simp only [xss, xs, ev, evs, List.getElem?_cons_zero, List.getElem?_cons_succ, bind_ok, toS_ok, o_ix, ix_loc h, ix_loc (h1 _), at0, at1, setT, seq_next, o_toInt, o_addI, o_mulR _ _ _ big_7919, o_mulR _ _ _ big_48271,
        o_mulR _ _ _ big_69621, o_mulR _ _ _ big_104729, o_mod _ _ 2147483647 (by decide), o_mod _ _ 4294967291 (by decide), List.set_cons_succ, List.set_cons_zero, hm, hn, h, h1, ixN_21, ixN_20, o_geI, hp, decide_eq_true hb, truth_bl,
        o_len, len_slst, o_ltI, decide_eq_false hb2, set_set]
  · refine ⟨some (.int m), i + 1, n, ?_, by omega, hn0⟩
    simp only [xss, xs, ev, evs, List.getElem?_cons_zero, List.getElem?_cons_succ, bind_ok, toS_ok, o_ix, ix_loc h, ix_loc (h1 _), at0, at1, setT, seq_next, o_toInt, o_addI, o_mulR _ _ _ big_7919, o_mulR _ _ _ big_48271,
      o_mulR _ _ _ big_69621, o_mulR _ _ _ big_104729, o_mod _ _ 2147483647 (by decide), o_mod _ _ 4294967291 (by decide), List.set_cons_succ, List.set_cons_zero, hm, hn, h, h1, ixN_21, ixN_20, o_geI, hp, decide_eq_false hb, truth_bl,
      o_len, len_slst, o_ltI, set_set]
/-- THE DRAW: some digit below the size; the state is a pair of numbers that aren't negative -/
theorem draw_spec {P : List Fd} {f : Nat} (hP : P[f]? = some ⟨6, 3, drawB⟩) (k : Nat) {st : Store} {a : Nat} {i j size : Int} {ns : List Int} (h : st[a]? = some (.lst [.int i, .int j])) (hi : 0 ≤ i) (hj : 0 ≤ j) (hs : 0 < size) (hs2 : size < 1073741824) :
    ∃ d i' j', run P (k + 1) f [.loc a, .slst (ns.map .int), .int size] st = .ok (.int d) (st.set a (.lst [.int i', .int j'])) ∧ 0 ≤ d ∧ d < size ∧ 0 ≤ i' ∧ 0 ≤ j' := by
  rw [run_eq hP k _ _ rfl]
  show ∃ d i' j', (xss (run P k) drawB [some (.loc a), some (.slst (ns.map .int)), some (.int size), none, none, none] st).fin = _ ∧ _
  have cut : ∀ (env : Env) (st' : Store) (hd : Sx), drawB.head? = some hd → xs (run P k) hd [some (.loc a), some (.slst (ns.map .int)), some (.int size), none, none, none] st = .next env st' →
      xss (run P k) drawB [some (.loc a), some (.slst (ns.map .int)), some (.int size), none, none, none] st = xss (run P k) (drawB.drop 1) env st' := by
    intro env st' hd h1 h2
    have : drawB = hd :: drawB.drop 1 := by
      cases h1; rfl
    rw [this]
    show (xs _ hd _ _).seq _ = _
    rw [h2]
    rfl
  by_cases hj0 : j = 0
  · subst hj0
    obtain ⟨cell, hc, hcell⟩ : ∃ cell : Int, 0 ≤ cell ∧ xss (run P k) [.asg (.nm 3) (.c (.int 0)), .ite (.op .gt [.op .len [.v 1], .c (.int 0)]) [.asg (.nm 3) (.op .ix [.v 1, .op .mod [.op .ix [.v 0, .c (.int 0)], .op .len [.v 1]]])] [],
        .ite (.op .lt [.v 3, .c (.int 0)]) [.asg (.nm 3) (.op .sub [.c (.int 1), .op .mul [.c (.int 2), .v 3]])] []] [some (.loc a), some (.slst (ns.map .int)), some (.int size), none, none, none] st =
        .next [some (.loc a), some (.slst (ns.map .int)), some (.int size), some (.int cell), none, none] st := by
      have neg : ∀ c0 : Int, ∃ cell : Int, 0 ≤ cell ∧ xs (run P k) (.ite (.op .lt [.v 3, .c (.int 0)]) [.asg (.nm 3) (.op .sub [.c (.int 1), .op .mul [.c (.int 2), .v 3]])] []) [some (.loc a), some (.slst (ns.map .int)), some (.int size), some (.int c0), none, none] st =
          .next [some (.loc a), some (.slst (ns.map .int)), some (.int size), some (.int cell), none, none] st := by
        intro c0
        by_cases h0 : c0 < 0
        · refine ⟨1 - 2 * c0, by omega, ?_⟩
          simp only [xss, xs, ev, evs, List.getElem?_cons_zero, List.getElem?_cons_succ, bind_ok, toS_ok, o_ltI, decide_eq_true h0, truth_bl, o_mulL _ _ _ big_2, o_subI, setT, seq_next, List.set_cons_succ, List.set_cons_zero]
        · refine ⟨c0, by omega, ?_⟩
          simp only [xss, xs, ev, evs, List.getElem?_cons_zero, List.getElem?_cons_succ, bind_ok, toS_ok, o_ltI, decide_eq_false h0, truth_bl]
      by_cases hl : (0 : Int) < (ns.map D.int).length
      · have hlt : (i % ((ns.map D.int).length : Int)).toNat < (ns.map D.int).length := by
          have h1 := Int.emod_lt_of_pos i hl
          have h2 := Int.emod_nonneg i (by omega : ((ns.map D.int).length : Int) ≠ 0)
          omega
        have hat : atI (ns.map D.int) (i % ((ns.map D.int).length : Int)) = some (.int (ns[(i % ((ns.map D.int).length : Int)).toNat]'(by simpa using hlt))) := by
          have h2 := Int.emod_nonneg i (by omega : ((ns.map D.int).length : Int) ≠ 0)
          have e := atI_lt hlt
          rw [Int.toNat_of_nonneg h2] at e
          rw [e, List.getElem_map]
        obtain ⟨cell, hc, hx⟩ := neg (ns[(i % ((ns.map D.int).length : Int)).toNat]'(by simpa using hlt))
        refine ⟨cell, hc, ?_⟩
        refine Eq.trans (xss_append (run P k) [.asg (.nm 3) (.c (.int 0)), .ite (.op .gt [.op .len [.v 1], .c (.int 0)]) [.asg (.nm 3) (.op .ix [.v 1, .op .mod [.op .ix [.v 0, .c (.int 0)], .op .len [.v 1]]])] []] [_] _ _) ?_
        have e : xss (run P k) [.asg (.nm 3) (.c (.int 0)), .ite (.op .gt [.op .len [.v 1], .c (.int 0)]) [.asg (.nm 3) (.op .ix [.v 1, .op .mod [.op .ix [.v 0, .c (.int 0)], .op .len [.v 1]]])] []] [some (.loc a), some (.slst (ns.map .int)), some (.int size), none, none, none] st =
            .next [some (.loc a), some (.slst (ns.map .int)), some (.int size), some (.int (ns[(i % ((ns.map D.int).length : Int)).toNat]'(by simpa using hlt))), none, none] st := by
          simp only [xss, xs, ev, evs, List.getElem?_cons_zero, List.getElem?_cons_succ, bind_ok, toS_ok, setT, seq_next, List.set_cons_succ, List.set_cons_zero, o_len, len_slst, o_gtI, decide_eq_true hl, truth_bl, o_ix, ix_loc h, at0, o_mod _ _ _ hl, ix_slst, hat]
        rw [e, seq_next, xss_one, hx]
      · obtain ⟨cell, hc, hx⟩ := neg 0
        refine ⟨cell, hc, ?_⟩
        refine Eq.trans (xss_append (run P k) [.asg (.nm 3) (.c (.int 0)), .ite (.op .gt [.op .len [.v 1], .c (.int 0)]) [.asg (.nm 3) (.op .ix [.v 1, .op .mod [.op .ix [.v 0, .c (.int 0)], .op .len [.v 1]]])] []] [_] _ _) ?_
        have e : xss (run P k) [.asg (.nm 3) (.c (.int 0)), .ite (.op .gt [.op .len [.v 1], .c (.int 0)]) [.asg (.nm 3) (.op .ix [.v 1, .op .mod [.op .ix [.v 0, .c (.int 0)], .op .len [.v 1]]])] []] [some (.loc a), some (.slst (ns.map .int)), some (.int size), none, none, none] st =
            .next [some (.loc a), some (.slst (ns.map .int)), some (.int size), some (.int 0), none, none] st := by
          simp only [xss, xs, ev, evs, List.getElem?_cons_zero, List.getElem?_cons_succ, bind_ok, toS_ok, setT, seq_next, List.set_cons_succ, List.set_cons_zero, o_len, len_slst, o_gtI, decide_eq_false hl, truth_bl]
        rw [e, seq_next, xss_one, hx]
    have hcell : ∃ e4 i' j', xs (run P k) (drawB.head (by decide)) [some (.loc a), some (.slst (ns.map .int)), some (.int size), none, none, none] st =
        .next [some (.loc a), some (.slst (ns.map .int)), some (.int size), some (.int cell), e4, none] (st.set a (.lst [.int i', .int j'])) ∧ 0 ≤ i' ∧ 0 ≤ j' := by
      obtain ⟨e4, i', j', he, r⟩ := draw_cell (run P k) (cell := cell) (ns := ns) (.int size) none h hi hc _ rfl
      refine ⟨e4, i', j', ?_, r⟩
      show (ev _ _ _ _).toS _ _ = _
      have ht : ev (run P k) (.op .eq [.op .ix [.v 0, .c (.int 1)], .c (.int 0)]) [some (.loc a), some (.slst (ns.map .int)), some (.int size), none, none, none] st = .ok (.bl true) st := by
        simp only [ev, evs, List.getElem?_cons_zero, List.getElem?_cons_succ, bind_ok, o_ix, ix_loc h, at1, o_eqI, beq_self_eq_true]
      rw [ht]
      simp only [toS_ok, truth_bl]
      refine Eq.trans (xss_append (run P k) [.asg (.nm 3) (.c (.int 0)), .ite (.op .gt [.op .len [.v 1], .c (.int 0)]) [.asg (.nm 3) (.op .ix [.v 1, .op .mod [.op .ix [.v 0, .c (.int 0)], .op .len [.v 1]]])] [],
        .ite (.op .lt [.v 3, .c (.int 0)]) [.asg (.nm 3) (.op .sub [.c (.int 1), .op .mul [.c (.int 2), .v 3]])] []] _ _ _) ?_
      rw [hcell]
      exact he
    obtain ⟨e4, i', j', he, hi', hj'⟩ := hcell
    rw [cut _ _ _ rfl he]
    obtain ⟨d, i2, j2, hd, r⟩ := draw_mid (run P k) (.slst (ns.map .int)) (some (.int cell)) e4 (set_same (o' := .lst [.int i', .int j']) h) hi' hj' hs hs2
    rw [set_set] at hd
    exact ⟨d, i2, j2, hd, r⟩
  · have he : xs (run P k) (drawB.head (by decide)) [some (.loc a), some (.slst (ns.map .int)), some (.int size), none, none, none] st = .next [some (.loc a), some (.slst (ns.map .int)), some (.int size), none, none, none] st := by
      simp only [drawB, List.head_cons, xss, xs, ev, evs, List.getElem?_cons_zero, List.getElem?_cons_succ, bind_ok, toS_ok, o_ix, ix_loc h, at1, o_eqI, truth_bl, beq_eq_false_iff_ne.mpr hj0]
    rw [cut _ _ _ rfl he]
    exact draw_mid (run P k) _ none none h hi hj hs hs2
end Z

set_option autoImplicit false
set_option maxHeartbeats 1000000
namespace Z
open PySem L2

/-! # The law's state, loops, comprehensions -/
inductive All2 {α β : Type} (R : α → β → Prop) : List α → List β → Prop
  | nil : All2 R [] []
  | cons {a : α} {b : β} {as : List α} {bs : List β} : R a b → All2 R as bs → All2 R (a :: as) (b :: bs)
theorem All2.length {α β : Type} {R : α → β → Prop} {as : List α} {bs : List β} (h : All2 R as bs) : as.length = bs.length := by
  induction h with
  | nil => rfl
  | cons _ _ ih => rw [List.length_cons, List.length_cons, ih]
/-- the law's state stands at a -/
def StOk (a : Nat) (st : Store) : Prop := ∃ i j : Int, st[a]? = some (.lst [.int i, .int j]) ∧ 0 ≤ i ∧ 0 ≤ j
/-- all that stood stands, but what is at a -/
def Fr (a : Nat) (st st' : Store) : Prop := st.length ≤ st'.length ∧ ∀ l, l < st.length → l ≠ a → st'[l]? = st[l]?
theorem Fr.refl {a : Nat} (st : Store) : Fr a st st := ⟨Nat.le_refl _, fun _ _ _ => rfl⟩
theorem Fr.trans {a : Nat} {s1 s2 s3 : Store} (h : Fr a s1 s2) (g : Fr a s2 s3) : Fr a s1 s3 :=
  ⟨Nat.le_trans h.1 g.1, fun l hl ne => (g.2 l (Nat.lt_of_lt_of_le hl h.1) ne).trans (h.2 l hl ne)⟩
theorem Fr.set {a : Nat} {st : Store} (o : DO) : Fr a st (st.set a o) := ⟨by rw [List.length_set]; exact Nat.le_refl _, fun l _ ne => List.getElem?_set_ne (Ne.symm ne)⟩
theorem Fr.app {a : Nat} {st : Store} (g : Store) : Fr a st (st ++ g) := ⟨by rw [List.length_append]; omega, fun l hl _ => List.getElem?_append_left hl⟩
theorem Fr.at_new {a : Nat} {s0 st : Store} {l : Nat} (h : Fr a s0 st) (hl : s0.length ≤ l) (o : DO) : Fr a s0 (st.set l o) :=
  ⟨by rw [List.length_set]; exact h.1, fun m hm ne => by rw [List.getElem?_set_ne (by omega)]; exact h.2 m hm ne⟩
theorem StOk.app {a : Nat} {st : Store} (h : StOk a st) (g : Store) : StOk a (st ++ g) := by
  obtain ⟨i, j, e, r⟩ := h
  obtain ⟨hl, _⟩ := List.getElem?_eq_some_iff.mp e
  exact ⟨i, j, by rw [List.getElem?_append_left hl]; exact e, r⟩
theorem StOk.lt {a : Nat} {st : Store} (h : StOk a st) : a < st.length := by
  obtain ⟨i, j, e, r⟩ := h
  exact (List.getElem?_eq_some_iff.mp e).1
theorem StOk.set {a l : Nat} {st : Store} (h : StOk a st) (hl : l ≠ a) (o : DO) : StOk a (st.set l o) := by
  obtain ⟨i, j, e, r⟩ := h
  exact ⟨i, j, by rw [List.getElem?_set_ne hl]; exact e, r⟩
theorem draw {P : List Fd} {f : Nat} (hP : P[f]? = some ⟨6, 3, drawB⟩) (k : Nat) {st : Store} {a : Nat} {size : Int} {ns : List Int} (h : StOk a st) (hs : 0 < size) (hs2 : size < 1073741824) :
    ∃ (d : Int) (st' : Store), run P (k + 1) f [.loc a, .slst (ns.map .int), .int size] st = .ok (.int d) st' ∧ 0 ≤ d ∧ d < size ∧ StOk a st' ∧ Fr a st st' := by
  obtain ⟨i, j, e, hi, hj⟩ := h
  obtain ⟨d, i', j', hr, h1, h2, h3, h4⟩ := draw_spec hP k (ns := ns) e hi hj hs hs2
  exact ⟨d, _, hr, h1, h2, ⟨i', j', set_same e, h3, h4⟩, Fr.set _⟩

/-- a comprehension without refusals: each item gives a datum that stands in R to it -/
theorem evComp_ok {same : Store → Bool} {l : Nat} {one : D → Store → R (Option D)} (I : Store → Prop) (R : D → D → Prop) (hset : ∀ st ds, I st → I (st.set l (.lst ds))) (hsame : ∀ st, I st → same st = true) :
    ∀ (items acc : List D) (st : Store), (∀ x, x ∈ items → ∀ st, I st → l < st.length → ∃ d st', one x st = .ok (some d) st' ∧ R x d ∧ I st' ∧ st'[l]? = st[l]?) → I st → st[l]? = some (.lst acc) → acc.length + items.length ≤ SZ →
      ∃ ds st', evComp same l one items st = .ok (.loc l) st' ∧ I st' ∧ st'[l]? = some (.lst (acc ++ ds)) ∧ All2 R items ds
  | [], acc, st, _, hi, hl, _ => ⟨[], st, by rw [evComp, if_pos (hsame st hi)], hi, by rw [List.append_nil]; exact hl, .nil⟩
  | x :: xs, acc, st, h, hi, hl, hz => by
    obtain ⟨d, st1, e1, r1, i1, k1⟩ := h x List.mem_cons_self st hi (List.getElem?_eq_some_iff.mp hl).1
    have hl1 : st1[l]? = some (.lst acc) := k1.trans hl
    have hlt : acc.length < SZ := by rw [List.length_cons] at hz; omega
    obtain ⟨ds, st2, e2, i2, k2, f2⟩ := evComp_ok I R hset hsame xs (acc ++ [d]) (st1.set l (.lst (acc ++ [d]))) (fun y hy => h y (List.mem_cons_of_mem _ hy)) (hset _ _ i1) (set_same hl1) (by rw [List.length_append, List.length_singleton]; rw [List.length_cons] at hz; omega)
    refine ⟨d :: ds, st2, ?_, i2, by rw [k2, List.append_assoc]; rfl, .cons r1 f2⟩
    rw [evComp, if_pos (hsame st hi), e1]
    show (match st1[l]? with | some (.lst acc) => if acc.length < SZ then evComp same l one xs (st1.set l (.lst (acc ++ [d]))) else .bad | _ => .bad) = _
    rw [hl1]
    exact (if_pos hlt).trans e2
/-- the same of the expression: over an R of items and data, the state's word I -/
theorem comp_ok {F : FT} {env : Env} {st st1 : Store} {own : List Nat} {t : Tg} {k : Ik} {src : List Ex} {elt : Ex} {ds : List D} {S : Src} (I : Store → Prop) (R : D → D → Prop) (h : evs F src env st = .ok ds st1) (hS : srcOf k ds st1 = some S)
    (hz : S.items.length ≤ SZ) (hi : I (st1 ++ [.lst []])) (hset : ∀ s ds, I s → I (s.set st1.length (.lst ds))) (hsame : ∀ s, I s → S.same s = true)
    (turn : ∀ x, x ∈ S.items → ∀ s, I s → st1.length < s.length → ∃ env' d s', setT t x (wipeE own env) = some env' ∧ ev F elt env' s = .ok d s' ∧ R x d ∧ I s' ∧ s'[st1.length]? = s[st1.length]?) :
    ∃ rs st', ev F (.comp own t k src [] elt) env st = .ok (.loc st1.length) st' ∧ I st' ∧ st'[st1.length]? = some (.lst rs) ∧ All2 R S.items rs := by
  rw [comp_eq F env st h hS]
  obtain ⟨rs, st', e, i, g, f⟩ := evComp_ok (same := S.same) (l := st1.length) (one := compOne F env own t [] elt) I R hset hsame S.items [] (st1 ++ [.lst []]) (fun x hx s hs hl => by
    obtain ⟨env', d, s', h1, h2, h3, h4, h5⟩ := turn x hx s hs hl
    exact ⟨d, s', one_eq F env s h1 h2, h3, h4, h5⟩) hi (by rw [List.getElem?_append_right (Nat.le_refl _), Nat.sub_self]; rfl) (by show 0 + _ ≤ SZ; omega)
  exact ⟨rs, st', e, i, g, f⟩
/-- a loop by a word of the turn's number -/
theorem evFor_ix {same : Store → Bool} {one : D → Env → Store → SR} (I : Nat → Env → Store → Prop) (hsame : ∀ i env st, I i env st → same st = true) :
    ∀ (items : List D) (i : Nat) (env : Env) (st : Store), (∀ (j : Nat) (x : D), items[j]? = some x → ∀ env st, I (i + j) env st → ∃ env' st', (one x env st = .next env' st' ∨ one x env st = .cnt env' st') ∧ I (i + j + 1) env' st') → I i env st →
      ∃ env' st', evFor same one items env st = .next env' st' ∧ I (i + items.length) env' st'
  | [], i, env, st, _, h => ⟨env, st, by rw [evFor, if_pos (hsame i env st h)], h⟩
  | x :: xs, i, env, st, t, h => by
    obtain ⟨env1, st1, e1, i1⟩ := t 0 x rfl env st h
    obtain ⟨env2, st2, e2, i2⟩ := evFor_ix I hsame xs (i + 1) env1 st1 (fun j y hy env st hI => by
      have e : i + 1 + j = i + (j + 1) := by omega
      rw [e] at hI ⊢
      exact t (j + 1) y (by simpa using hy) env st hI) i1
    refine ⟨env2, st2, ?_, by rw [List.length_cons]; have e : i + (xs.length + 1) = i + 1 + xs.length := by omega
                              rw [e]; exact i2⟩
    rw [evFor, if_pos (hsame i env st h)]
    rcases e1 with e1 | e1 <;> rw [e1] <;> exact e2
theorem src_range1 (j : Int) (st : Store) (h : in62 j = true) : srcOf .range1 [.int j] st = some ⟨rangeD 0 j.toNat, fun _ => true⟩ := if_pos h
theorem src_range2 (i j : Int) (st : Store) (h : in62 i = true) (h2 : in62 j = true) : srcOf .range2 [.int i, .int j] st = some ⟨rangeD i (j - i).toNat, fun _ => true⟩ := by
  show (if (in62 i && in62 j) = true then _ else _) = _
  rw [h, h2]; rfl
theorem in62_of {i : Int} (h : 0 ≤ i) (h2 : i < 1000000000) : in62 i = true := by
  unfold in62
  rw [decide_eq_true (by omega), decide_eq_true (by omega)]; rfl
theorem range_len (lo : Int) (n : Nat) : (rangeD lo n).length = n := by unfold rangeD; rw [List.length_map, List.length_range]
theorem range_get {lo : Int} {n i : Nat} {x : D} (h : (rangeD lo n)[i]? = some x) : x = .int (lo + i) ∧ i < n := by
  unfold rangeD at h
  rw [List.getElem?_map] at h
  by_cases hi : i < n
  · rw [List.getElem?_range hi] at h
    cases h
    exact ⟨rfl, hi⟩
  · rw [List.getElem?_eq_none (by rw [List.length_range]; omega)] at h
    cases h
theorem len_name (st : Store) (n : List (List Nat)) : lenSem (nameD n) st = .ok (.int n.length) st := by
  show R.ok (D.int ((n.map D.str).length : Int)) st = _
  rw [List.length_map]
theorem sl_name (st : Store) (n : List (List Nat)) (i : Nat) : slSem (nameD n) (some (i : Int)) none st = .ok (nameD (n.drop i)) st := by
  show R.ok (D.tup (cutD (n.map D.str) (some (i : Int)) none)) st = _
  rw [cut_map, cut_from]; rfl
theorem add_name (st : Store) (m n : List (List Nat)) (h : m.length + n.length ≤ SZ) : addSem (nameD m) (nameD n) st = .ok (nameD (m ++ n)) st := by
  show (if (m.map D.str).length + (n.map D.str).length ≤ SZ then R.ok (D.tup (m.map D.str ++ n.map D.str)) st else .bad) = _
  rw [List.length_map, List.length_map, if_pos h, ← List.map_append]; rfl
theorem ix_name (st : Store) (n : List (List Nat)) (i : Nat) (h : i < n.length) : ixSem (nameD n) (i : Int) st = .ok (.str n[i]) st := by
  show (match atI (n.map D.str) (i : Int) with | some d => R.ok d st | none => .bad) = _
  rw [atI_lt (by rw [List.length_map]; exact h), List.getElem_map]
theorem items_name (st : Store) (n : List (List Nat)) : itemsD st (nameD n) = some (n.map .str) := rfl
theorem items_loc {st : Store} {l : Nat} {xs : List D} (h : st[l]? = some (.lst xs)) : itemsD st (.loc l) = some xs := by
  show (match st[l]? with | some (.lst xs) => some xs | _ => none) = _
  rw [h]
end Z

set_option autoImplicit false
set_option maxHeartbeats 1000000
namespace Z
open PySem L2

/-! # Runs that only add to the store -/
def Gr (st s : Store) : Prop := st.length ≤ s.length ∧ ∀ l, l < st.length → s[l]? = st[l]?
theorem Gr.refl (st : Store) : Gr st st := ⟨Nat.le_refl _, fun _ _ => rfl⟩
theorem Gr.trans {s1 s2 s3 : Store} (h : Gr s1 s2) (g : Gr s2 s3) : Gr s1 s3 := ⟨Nat.le_trans h.1 g.1, fun l hl => (g.2 l (Nat.lt_of_lt_of_le hl h.1)).trans (h.2 l hl)⟩
theorem Gr.app (st g : Store) : Gr st (st ++ g) := ⟨by rw [List.length_append]; omega, fun l hl => List.getElem?_append_left hl⟩
theorem Gr.set {st s : Store} {l : Nat} (h : Gr st s) (hl : st.length ≤ l) (o : DO) : Gr st (s.set l o) := ⟨by rw [List.length_set]; exact h.1, fun m hm => by rw [List.getElem?_set_ne (by omega)]; exact h.2 m hm⟩
theorem Gr.fr {a : Nat} {st s : Store} (h : Gr st s) : Fr a st s := ⟨h.1, fun l hl _ => h.2 l hl⟩
theorem StOk.gr {a : Nat} {st s : Store} (h : StOk a st) (g : Gr st s) : StOk a s := by
  have hl := h.lt
  obtain ⟨i, j, e, r⟩ := h
  exact ⟨i, j, (g.2 a hl).trans e, r⟩
theorem All2.imp {α β : Type} {R S : α → β → Prop} {as : List α} {bs : List β} (h : All2 R as bs) (f : ∀ a b, R a b → S a b) : All2 S as bs := by
  induction h with
  | nil => exact .nil
  | cons r _ ih => exact .cons (f _ _ r) ih
theorem All2.map_eq {α β : Type} {g : α → β} {as : List α} {bs : List β} (h : All2 (fun a b => b = g a) as bs) : bs = as.map g := by
  induction h with
  | nil => rfl
  | cons r _ ih => rw [r, ih]; rfl
/-- a comprehension whose turns only add to the store -/
theorem comp_gr {F : FT} {env : Env} {st st1 : Store} {own : List Nat} {t : Tg} {k : Ik} {src : List Ex} {elt : Ex} {ds : List D} {S : Src} (g : D → D) (h : evs F src env st = .ok ds st1) (hS : srcOf k ds st1 = some S)
    (hz : S.items.length ≤ SZ) (hsame : ∀ s, Gr st1 s → S.same s = true)
    (turn : ∀ x, x ∈ S.items → ∀ s, Gr st1 s → ∃ env' s', setT t x (wipeE own env) = some env' ∧ ev F elt env' s = .ok (g x) s' ∧ Gr s s') :
    ∃ s', ev F (.comp own t k src [] elt) env st = .ok (.loc st1.length) s' ∧ Gr st1 s' ∧ s'[st1.length]? = some (.lst (S.items.map g)) := by
  obtain ⟨rs, s', e, i, k1, a⟩ := comp_ok (own := own) (t := t) (elt := elt) (fun s => Gr st1 s) (fun x d => d = g x) h hS hz (Gr.app _ _) (fun s ds hs => hs.set (Nat.le_refl _) _) hsame fun x hx s hs hl => by
    obtain ⟨env', s', h1, h2, h3⟩ := turn x hx s hs
    exact ⟨env', g x, s', h1, h2, rfl, hs.trans h3, h3.2 _ hl⟩
  exact ⟨s', e, i, by rw [k1, a.map_eq]⟩

/-! ### the operations on texts, one by one -/
section
variable (st : Store)
theorem allBl_map {α : Type} (f : α → Bool) : ∀ xs : List α, allBl (xs.map fun x => D.bl (f x)) = some (xs.map f)
  | [] => rfl
  | x :: xs => by show (allBl (xs.map fun x => D.bl (f x))).map _ = _; rw [allBl_map f xs]; rfl
theorem allInt_map {α : Type} (f : α → Int) : ∀ xs : List α, allInt (xs.map fun x => D.int (f x)) = some (xs.map f)
  | [] => rfl
  | x :: xs => by show (allInt (xs.map fun x => D.int (f x))).map _ = _; rw [allInt_map f xs]; rfl
theorem allStr_map : ∀ xs : List (List Nat), allStr (xs.map D.str) = some xs
  | [] => rfl
  | x :: xs => by show (allStr (xs.map D.str)).map _ = _; rw [allStr_map xs]; rfl
theorem o_all {α : Type} {l : Nat} (f : α → Bool) (xs : List α) (h : st[l]? = some (.lst (xs.map fun x => D.bl (f x)))) : opSem (.x .all_) [.loc l] st = .ok (.bl (xs.all f)) st := by
  show (match (match st[l]? with | some (.lst xs) => some xs | _ => none) with | some xs => (match allBl xs with | some bs => R.ok (D.bl (bs.all id)) st | none => .bad) | none => .bad) = _
  rw [h]
  show (match allBl (xs.map fun x => D.bl (f x)) with | some bs => R.ok (D.bl (bs.all id)) st | none => .bad) = _
  rw [allBl_map]
  show R.ok (D.bl ((xs.map f).all id)) st = _
  rw [List.all_map]; rfl
theorem o_sum {α : Type} {l : Nat} (f : α → Int) (xs : List α) (h : st[l]? = some (.lst (xs.map fun x => D.int (f x)))) : opSem (.x .sum_) [.loc l] st = .ok (.int (xs.map f).sum) st := by
  show (match (match st[l]? with | some (.lst xs) => some xs | _ => none) with | some xs => (match allInt xs with | some bs => R.ok (D.int bs.sum) st | none => .bad) | none => .bad) = _
  rw [h]
  show (match allInt (xs.map fun x => D.int (f x)) with | some bs => R.ok (D.int bs.sum) st | none => .bad) = _
  rw [allInt_map]
theorem o_len_str {z : List Nat} (h : z.length ≤ SZ) : opSem .len [.str z] st = .ok (.int z.length) st := if_pos h
theorem o_addS {a b : List Nat} (h : a.length + b.length ≤ SZ) : opSem .add [.str a, .str b] st = .ok (.str (a ++ b)) st := if_pos h
theorem o_inS (c : Nat) (z : List Nat) : opSem (.x .inn) [.str [c], .str z] st = .ok (.bl (decide (c ∈ z))) st := rfl
theorem o_asStr (z : List Nat) : opSem (.x .asStr) [.str z] st = .ok (.str z) st := rfl
theorem o_ends (z y : List Nat) : opSem (.x (.meth .endswith)) [.str z, .str y] st = .ok (.bl (Txt.endswith (toStr z) (toStr y))) st := rfl
theorem o_ascii (z : List Nat) : opSem (.x (.meth .isascii)) [.str z] st = .ok (.bl (Txt.isascii (toStr z))) st := rfl
theorem o_lower {z : List Nat} (h : z.length ≤ 5592405) : opSem (.x (.meth .lower)) [.str z] st = .ok (.str (ofStr (Txt.lower (toStr z)))) st := if_pos h
theorem o_upper {z : List Nat} (h : z.length ≤ 5592405) : opSem (.x (.meth .upper)) [.str z] st = .ok (.str (ofStr (Txt.upper (toStr z)))) st := if_pos h
theorem o_join {sep : List Nat} {xs : List (List Nat)} {d : D} (hd : itemsD st d = some (xs.map .str)) (h : (xs.map List.length).sum + xs.length * sep.length ≤ SZ) : opSem (.x (.meth .join)) [.str sep, d] st = .ok (.str (TL.joinL sep xs)) st := by
  show (match itemsD st d with
      | some xs => match allStr xs with
        | some ys => if (ys.map List.length).sum + ys.length * sep.length ≤ SZ then R.ok (D.str (TL.joinL sep ys)) st else .bad
        | none => .bad
      | none => .bad) = _
  rw [hd]
  show (match allStr (xs.map D.str) with
        | some ys => if (ys.map List.length).sum + ys.length * sep.length ≤ SZ then R.ok (D.str (TL.joinL sep ys)) st else .bad
        | none => .bad) = _
  rw [allStr_map]
  exact if_pos h
theorem o_split {z : List Nat} {c : Nat} (hc : c < 256) (h : z.length + 2 ≤ SZ) : opSem (.x (.meth .split)) [.str z, .str [c]] st = .ok (.loc st.length) (st ++ [.lst ((TL.spl [c] 0 [] z).map .str)]) := if_pos ⟨hc, h⟩
theorem o_mulS {z : List Nat} {n : Nat} (h : z.length * n ≤ SZ) (hn : n < 1000000) : opSem .mul [.str z, .int (n : Int)] st = .ok (.str (List.replicate n z).flatten) st := by
  show (if (n : Int) < 1 then (if -9223372036854775808 ≤ (n : Int) then R.ok (D.str []) st else .bad) else if z.length * (n : Int).toNat ≤ SZ ∧ (n : Int) < 9223372036854775808 then .ok (.str (List.replicate (n : Int).toNat z).flatten) st else .bad) = _
  rw [Int.toNat_natCast]
  cases n with
  | zero => rfl
  | succ n =>
    rw [if_neg (by omega), if_pos ⟨h, by omega⟩]
theorem src_str (z : List Nat) : srcOf .seq [.str z] st = some ⟨z.map fun c => .str [c], fun _ => true⟩ := rfl
theorem src_name (n : List (List Nat)) : srcOf .seq [nameD n] st = some ⟨n.map .str, fun _ => true⟩ := rfl
theorem src_loc {l : Nat} {xs : List D} (h : st[l]? = some (.lst xs)) : srcOf .seq [.loc l] st = some ⟨xs, lstIs l xs⟩ := by
  show (match st[l]? with | some (.lst xs) => some (Src.mk xs (lstIs l xs)) | _ => none) = _
  rw [h]
theorem o_toList {d : D} {xs : List D} (h : itemsD st d = some xs) : opSem (.x .toList) [d] st = .ok (.loc st.length) (st ++ [.lst xs]) := by
  show (match itemsD st d with | some xs => R.ok (D.loc st.length) (st ++ [DO.lst xs]) | none => .bad) = _
  rw [h]
end
theorem ev_chain (F : FT) (env : Env) (st : Store) (o p : Op) (a b c : Ex) : ev F (.chain o p a b c) env st = (ev F a env st).bind fun x st1 => (ev F b env st1).bind fun y st2 => (opSem o [x, y] st2).bind fun z st3 => match z with
    | .bl true => (ev F c env st3).bind fun u st4 => opSem p [y, u] st4
    | .bl false => .ok (.bl false) st3
    | _ => .bad := rfl
theorem xs_raise (F : FT) (env : Env) (st : Store) (c : Nat) (e : Ex) : xs F (.raise_ c e) env st = (ev F e env st).toS env fun d st1 => .exc c d env st1 := rfl
theorem xs_try (F : FT) (env : Env) (st : Store) (b s : List Sx) (tab : List Nat) (i : Nat) : xs F (.try_ b tab i s) env st = catchS tab i (fun env1 st1 => xss F s env1 st1) (xss F b env st) := rfl
theorem cut_last {α : Type} (xs : List α) : cutD xs none (some (-1)) = xs.dropLast := by
  unfold cutD
  rw [HT.sIx_none, List.drop_zero, Nat.sub_zero]
  have e : HT.sIx xs.length xs.length (some (-1)) = xs.length - 1 := by
    show (if (-1 : Int) < 0 then ((-1 : Int) + xs.length).toNat else min ((-1 : Int).toNat) xs.length) = _
    rw [if_pos (by decide)]
    omega
  rw [e, List.dropLast_eq_take]
end Z

set_option autoImplicit false
set_option maxHeartbeats 1000000
namespace Z
open PySem L2

/-! # Values and closed results -/
mutual
theorem closed_mono {n m : Nat} (h : n ≤ m) : ∀ {d : D}, closedD n d = true → closedD m d = true
  | .non, _ => rfl
  | .bl _, _ => rfl
  | .int _, _ => rfl
  | .str _, _ => rfl
  | .fn _, _ => rfl
  | .tup xs, z => closeds_mono h (ds := xs) z
  | .flst xs, z => closeds_mono h (ds := xs) z
  | .slst xs, z => closeds_mono h (ds := xs) z
  | .fset xs, z => closeds_mono h (ds := xs) z
  | .fins _ _ xs, z => closeds_mono h (ds := xs) z
  | .fdct ks vs, z => by
    have z : (closedDs n ks && closedDs n vs) = true := z
    rw [Bool.and_eq_true] at z
    show (closedDs m ks && closedDs m vs) = true
    rw [closeds_mono h z.1, closeds_mono h z.2]; rfl
  | .loc l, z => by
    have z : l < n := of_decide_eq_true z
    exact decide_eq_true (Nat.lt_of_lt_of_le z h)
theorem closeds_mono {n m : Nat} (h : n ≤ m) : ∀ {ds : List D}, closedDs n ds = true → closedDs m ds = true
  | [], _ => rfl
  | x :: xs, z => by
    rw [closedDs, Bool.and_eq_true] at z
    rw [closedDs, closed_mono h z.1, closeds_mono h z.2]; rfl
end
mutual
theorem seal_closed {n : Nat} {g : Nat → Option D} : ∀ {d : D}, closedD n d = true → sealD n g d = some d
  | .non, _ => rfl
  | .bl _, _ => rfl
  | .int _, _ => rfl
  | .str _, _ => rfl
  | .fn _, _ => rfl
  | .tup xs, z => by rw [sealD, seals_closed (ds := xs) z]; rfl
  | .flst xs, z => by rw [sealD, seals_closed (ds := xs) z]; rfl
  | .fins _ _ xs, z => by rw [sealD, seals_closed (ds := xs) z]; rfl
  | .slst xs, z => if_pos z
  | .fset xs, z => if_pos z
  | .fdct ks vs, z => if_pos z
  | .loc l, z => if_pos (of_decide_eq_true z)
theorem seals_closed {n : Nat} {g : Nat → Option D} : ∀ {ds : List D}, closedDs n ds = true → sealDs n g ds = some ds
  | [], _ => rfl
  | x :: xs, z => by
    rw [closedDs, Bool.and_eq_true] at z
    rw [sealDs, seal_closed z.1, seals_closed z.2]
end
theorem closeds_append {n : Nat} {a b : List D} (h : closedDs n a = true) (g : closedDs n b = true) : closedDs n (a ++ b) = true := by
  induction a with
  | nil => exact g
  | cons x xs ih =>
    rw [closedDs, Bool.and_eq_true] at h
    rw [List.cons_append, closedDs, h.1, ih h.2]; rfl
theorem closeds_map {n : Nat} {α : Type} {f : α → D} (h : ∀ x, closedD n (f x) = true) (xs : List α) : closedDs n (xs.map f) = true := by
  induction xs with
  | nil => rfl
  | cons x xs ih => rw [List.map_cons, closedDs, h, ih]; rfl
theorem closeds_all {n : Nat} {ds : List D} (h : ∀ d ∈ ds, closedD n d = true) : closedDs n ds = true := by
  induction ds with
  | nil => rfl
  | cons x xs ih => rw [closedDs, h x List.mem_cons_self, ih fun d hd => h d (List.mem_cons_of_mem _ hd)]; rfl
theorem closeds_mem {n : Nat} {ds : List D} (h : closedDs n ds = true) {d : D} (hd : d ∈ ds) : closedD n d = true := by
  induction ds with
  | nil => cases hd
  | cons x xs ih =>
    rw [closedDs, Bool.and_eq_true] at h
    rcases List.mem_cons.mp hd with rfl | hd
    · exact h.1
    · exact ih h.2 hd
theorem closed_name (n : Nat) (x : List (List Nat)) : closedD n (nameD x) = true := closeds_map (fun _ => rfl) x
theorem closed_ints (n : Nat) (x : List Int) : closedDs n (x.map D.int) = true := closeds_map (fun _ => rfl) x
theorem closed_strs (n : Nat) (x : List (List Nat)) : closedDs n (x.map D.str) = true := closeds_map (fun _ => rfl) x

theorem Gr.take {st s : Store} (h : Gr st s) : s.take st.length = st := by
  refine List.ext_getElem? fun l => ?_
  by_cases hl : l < st.length
  · rw [List.getElem?_take_of_lt hl, h.2 l hl]
  · rw [List.getElem?_eq_none (by rw [List.length_take]; omega), List.getElem?_eq_none (by omega)]
theorem Gr.old {st s : Store} (h : Gr st s) : OldOk st s := fun l hl o ho => .inl (by rw [← h.2 l hl]; exact ho)
theorem close_of {st s : Store} {d d' : D} (h : OldOk st s) (hd : sealD st.length (sealAt st.length s 8) d = some d') : closeR st (.ok d s) = .ok d' (s.take st.length) := by
  unfold closeR
  simp only [hd]
  exact if_pos h
theorem close_gr {st s : Store} {d : D} (h : Gr st s) (hd : closedD st.length d = true) : closeR st (.ok d s) = .ok d st := by
  rw [close_of h.old (seal_closed hd), h.take]
theorem close_pd {st s : Store} {d : D} (h : Gr st s) (hd : closedD 0 d = true) : closeR st (.ok d s) = .ok d st := close_gr h (closed_mono (Nat.zero_le _) hd)
theorem close_id {st : Store} {d : D} (hd : closedD 0 d = true) : closeR st (.ok d st) = .ok d st := close_pd (Gr.refl st) hd
@[simp] theorem close_int (st : Store) (i : Int) : closeR st (.ok (.int i) st) = .ok (.int i) st := close_id rfl
@[simp] theorem close_bl (st : Store) (i : Bool) : closeR st (.ok (.bl i) st) = .ok (.bl i) st := close_id rfl
@[simp] theorem close_str (st : Store) (i : List Nat) : closeR st (.ok (.str i) st) = .ok (.str i) st := close_id rfl
@[simp] theorem close_non (st : Store) : closeR st (.ok .non st) = .ok .non st := close_id rfl
theorem close_lst {st s : Store} {l : Nat} {xs : List D} (h : Gr st s) (hl : st.length ≤ l) (hs : s[l]? = some (.lst xs)) (hx : closedDs st.length xs = true) : closeR st (.ok (.loc l) s) = .ok (.flst xs) st := by
  rw [close_of (d' := .flst xs) h.old, h.take]
  show (if l < st.length then some (D.loc l) else sealAt st.length s 8 l) = _
  rw [if_neg (by omega)]
  unfold sealAt
  rw [hs]
  show (sealDs st.length (sealAt st.length s 7) xs).map D.flst = _
  rw [seals_closed hx]; rfl
theorem close_new {st : Store} {xs : List D} (hx : closedDs 0 xs = true) : closeR st (.ok (.loc st.length) (st ++ [.lst xs])) = .ok (.flst xs) st :=
  close_lst (Gr.app _ _) (Nat.le_refl _) (by rw [List.getElem?_append_right (Nat.le_refl _), Nat.sub_self]; rfl) (closeds_mono (Nat.zero_le _) hx)
theorem close_exc_gr {st s : Store} {c : Nat} {p : D} (h : Gr st s) (hp : closedD 0 p = true) : closeR st (.exc c p s) = .exc c p st := by
  unfold closeR
  simp only
  rw [if_pos ⟨h.old, closed_mono (Nat.zero_le _) hp⟩, h.take]
@[simp] theorem close_exc_int (st : Store) (c : Nat) (i : Int) : closeR st (.exc c (.int i) st) = .exc c (.int i) st := close_exc_gr (Gr.refl _) rfl
/-- the one object at a changes -/
theorem close_at {st s : Store} {a : Nat} {o : DO} {d d' : D} (h : Fr a st s) (hs : s[a]? = some o) (ho : closedO st.length o = true) (hd : sealD st.length (sealAt st.length s 8) d = some d') : closeR st (.ok d s) = .ok d' (st.set a o) := by
  have old : OldOk st s := fun l hl o' ho' => by
    by_cases e : l = a
    · subst e; rw [hs] at ho'; cases ho'; exact .inr ho
    · exact .inl (by rw [← h.2 l hl e]; exact ho')
  rw [close_of old hd]
  congr 1
  refine List.ext_getElem? fun l => ?_
  by_cases hl : l < st.length
  · rw [List.getElem?_take_of_lt hl]
    by_cases e : l = a
    · subst e; rw [hs, List.getElem?_set_self hl]
    · rw [h.2 l hl e, List.getElem?_set_ne (Ne.symm e)]
  · rw [List.getElem?_eq_none (by rw [List.length_take]; omega), List.getElem?_eq_none (by rw [List.length_set]; omega)]

/-! ### expressions -/
theorem bind_congr {α β : Type} {r r' : R α} {f : α → Store → R β} (h : r = r') : r.bind f = r'.bind f := by rw [h]
theorem toS_congr {α : Type} {r r' : R α} {env : Env} {f : α → Store → SR} (h : r = r') : r.toS env f = r'.toS env f := by rw [h]
theorem seq_congr {r r' : SR} {f : Env → Store → SR} (h : r = r') : r.seq f = r'.seq f := by rw [h]
theorem fin_congr {r r' : SR} (h : r = r') : r.fin = r'.fin := by rw [h]
/-- the turn of a loop -/
noncomputable def forB (F : FT) (t : Tg) (body : List Sx) : D → Env → Store → SR := fun x env2 st2 => match setT t x env2 with
  | some env' => xss F body env' st2
  | none => .bad
theorem forB_nm (F : FT) (i : Nat) (body : List Sx) (x : D) (env : Env) (st : Store) : forB F (.nm i) body x env st = xss F body (env.set i (some x)) st := rfl
section
variable (F : FT) (env : Env) (st : Store)
theorem ev_seal (e : Ex) : ev F (.sealE e) env st = closeR st (ev F e env st) := rfl
theorem ev_scall (f : Nat) (es : List Ex) : ev F (.scall f es) env st = (evs F es env st).bind fun ds st1 => closeR st1 (F f ds st1) := rfl
theorem xs_for (t : Tg) (k : Ik) (src : List Ex) (body : List Sx) : xs F (.for_ t k src body) env st = (evs F src env st).toS env fun ds st1 => match srcOf k ds st1 with
    | some S => evFor S.same (forB F t body) S.items env st1
    | none => .bad := rfl
theorem xs_while (c : Ex) (body : List Sx) : xs F (.while_ c body) env st = evWhile (fun env st => ev F c env st) (fun env st => xss F body env st) WF env st := rfl
theorem xs_setix (o i e : Ex) : xs F (.setix o i e) env st = (ev F e env st).toS env fun d st1 => (ev F o env st1).toS env fun ov st2 => (ev F i env st2).toS env fun iv st3 => match ov, iv with
    | .loc l, .int k => (match st3[l]? with
      | some (.lst ys) => (match ixN ys.length k with
        | some j => .next env (st3.set l (.lst (ys.set j d)))
        | none => .bad)
      | _ => .bad)
    | _, _ => .bad := rfl
end
theorem evWhile_stop {test : Env → Store → R D} {body : Env → Store → SR} {n : Nat} {env : Env} {st st1 : Store} {x : D} (h : test env st = .ok x st1) (ht : truth st1 x = some false) : evWhile test body (n + 1) env st = .next env st1 := by
  rw [evWhile, h, toS_ok, ht]
theorem evWhile_go {test : Env → Store → R D} {body : Env → Store → SR} {n : Nat} {env env' : Env} {st st1 st' : Store} {x : D} (h : test env st = .ok x st1) (ht : truth st1 x = some true) (hb : body env st1 = .next env' st') : evWhile test body (n + 1) env st = evWhile test body n env' st' := by
  rw [evWhile, h, toS_ok, ht]
  simp only [hb]
theorem evWhile_exc {test : Env → Store → R D} {body : Env → Store → SR} {n : Nat} {env env' : Env} {st st1 st' : Store} {x p : D} {c : Nat} (h : test env st = .ok x st1) (ht : truth st1 x = some true) (hb : body env st1 = .exc c p env' st') : evWhile test body (n + 1) env st = .exc c p env' st' := by
  rw [evWhile, h, toS_ok, ht]
  simp only [hb]
/-- a comprehension whose turns leave the store -/
theorem evComp_pure {same : Store → Bool} {st : Store} {one : D → Store → R (Option D)} (h : D → Option D) (hsame : ∀ s, Gr st s → same s = true) :
    ∀ (items acc : List D), (∀ x ∈ items, ∀ s, Gr st s → one x s = .ok (h x) s) → acc.length + items.length ≤ SZ →
      evComp same st.length one items (st ++ [.lst acc]) = .ok (.loc st.length) (st ++ [.lst (acc ++ items.filterMap h)])
  | [], acc, _, _ => by rw [evComp, if_pos (hsame _ (Gr.app _ _)), List.filterMap_nil, List.append_nil]
  | x :: xs, acc, ho, hz => by
    rw [List.length_cons] at hz
    have at_ : ∀ acc : List D, (st ++ [DO.lst acc])[st.length]? = some (.lst acc) := fun acc => by rw [List.getElem?_append_right (Nat.le_refl _), Nat.sub_self]; rfl
    rw [evComp, if_pos (hsame _ (Gr.app _ _)), ho x List.mem_cons_self _ (Gr.app _ _), List.filterMap_cons]
    cases hx : h x with
    | none => exact evComp_pure h hsame xs acc (fun y hy => ho y (List.mem_cons_of_mem _ hy)) (by omega)
    | some d =>
      show (match (st ++ [DO.lst acc])[st.length]? with | some (.lst acc) => if acc.length < SZ then evComp same st.length one xs ((st ++ [DO.lst _]).set st.length (.lst (acc ++ [d]))) else .bad | _ => .bad) = _
      rw [at_]
      simp only
      rw [if_pos (by omega)]
      have e : (st ++ [DO.lst acc]).set st.length (.lst (acc ++ [d])) = st ++ [.lst (acc ++ [d])] := by
        rw [List.set_append_right _ _ (Nat.le_refl _), Nat.sub_self]; rfl
      rw [e, evComp_pure h hsame xs (acc ++ [d]) (fun y hy => ho y (List.mem_cons_of_mem _ hy)) (by rw [List.length_append, List.length_singleton]; omega), List.append_assoc]
      rfl
theorem one_pure {F : FT} {env env' : Env} {own : List Nat} {t : Tg} {ifs : List Ex} {elt : Ex} {x d : D} {s : Store} (h : setT t x (wipeE own env) = some env') (hi : evTests F ifs env' s = .ok true s) (he : ev F elt env' s = .ok d s) : compOne F env own t ifs elt x s = .ok (some d) s := by
  show (match setT t x (wipeE own env) with | some env' => _ | none => _) = _
  rw [h]
  show (evTests F ifs env' s).bind _ = _
  rw [hi]
  show (ev F elt env' s).bind _ = _
  rw [he]; rfl
theorem one_skip {F : FT} {env env' : Env} {own : List Nat} {t : Tg} {ifs : List Ex} {elt : Ex} {x : D} {s : Store} (h : setT t x (wipeE own env) = some env') (hi : evTests F ifs env' s = .ok false s) : compOne F env own t ifs elt x s = .ok none s := by
  show (match setT t x (wipeE own env) with | some env' => _ | none => _) = _
  rw [h]
  show (evTests F ifs env' s).bind _ = _
  rw [hi]; rfl
/-- a sealed comprehension is a list -/
theorem comp_pure {F : FT} {env : Env} {st : Store} {own : List Nat} {t : Tg} {k : Ik} {src ifs : List Ex} {elt : Ex} {ds : List D} {S : Src} (h : D → Option D) (hsrc : evs F src env st = .ok ds st) (hS : srcOf k ds st = some S) (hz : S.items.length ≤ SZ)
    (hsame : ∀ s, Gr st s → S.same s = true) (turn : ∀ x ∈ S.items, ∀ s, Gr st s → compOne F env own t ifs elt x s = .ok (h x) s) (hc : closedDs 0 (S.items.filterMap h) = true) :
    closeR st (ev F (.comp own t k src ifs elt) env st) = .ok (.flst (S.items.filterMap h)) st := by
  have e : ev F (.comp own t k src ifs elt) env st = evComp S.same st.length (compOne F env own t ifs elt) S.items (st ++ [.lst []]) := comp_eq F env st hsrc hS
  rw [e, evComp_pure h hsame S.items [] turn (by simpa using hz), List.nil_append]
  exact close_new hc
/-- over things that stand in a list as data -/
theorem comp_map {α : Type} {F : FT} {env : Env} {st : Store} {own : List Nat} {t : Tg} {k : Ik} {src : List Ex} {elt : Ex} {ds : List D} {S : Src} (xs : List α) (fi : α → D) (g : α → D) (hsrc : evs F src env st = .ok ds st) (hS : srcOf k ds st = some S) (hi : S.items = xs.map fi)
    (hz : xs.length ≤ SZ) (hsame : ∀ s, Gr st s → S.same s = true) (hc : ∀ x ∈ xs, closedD 0 (g x) = true)
    (turn : ∀ x ∈ xs, ∀ s, Gr st s → ∃ env', setT t (fi x) (wipeE own env) = some env' ∧ ev F elt env' s = .ok (g x) s) :
    closeR st (ev F (.comp own t k src [] elt) env st) = .ok (.flst (xs.map g)) st := by
  have e : ev F (.comp own t k src [] elt) env st = evComp S.same st.length (compOne F env own t [] elt) S.items (st ++ [.lst []]) := comp_eq F env st hsrc hS
  have go : ∀ (ys : List α) (acc : List D), (∀ y ∈ ys, y ∈ xs) → acc.length + ys.length ≤ SZ → evComp S.same st.length (compOne F env own t [] elt) (ys.map fi) (st ++ [.lst acc]) = .ok (.loc st.length) (st ++ [.lst (acc ++ ys.map g)]) := by
    intro ys
    induction ys with
    | nil => intro acc _ _; rw [List.map_nil, evComp, if_pos (hsame _ (Gr.app _ _)), List.map_nil, List.append_nil]
    | cons y ys ih =>
      intro acc hm hl
      rw [List.length_cons] at hl
      obtain ⟨env', h1, h2⟩ := turn y (hm y List.mem_cons_self) (st ++ [.lst acc]) (Gr.app _ _)
      rw [List.map_cons, evComp, if_pos (hsame _ (Gr.app _ _)), one_pure (d := g y) h1 rfl h2]
      show (match (st ++ [DO.lst acc])[st.length]? with | some (.lst acc) => if acc.length < SZ then evComp S.same st.length _ (ys.map fi) ((st ++ [DO.lst _]).set st.length (.lst (acc ++ [g y]))) else .bad | _ => .bad) = _
      rw [show (st ++ [DO.lst acc])[st.length]? = some (.lst acc) from by rw [List.getElem?_append_right (Nat.le_refl _), Nat.sub_self]; rfl]
      simp only
      rw [if_pos (by omega)]
      have e : (st ++ [DO.lst acc]).set st.length (.lst (acc ++ [g y])) = st ++ [.lst (acc ++ [g y])] := by
        rw [List.set_append_right _ _ (Nat.le_refl _), Nat.sub_self]; rfl
      rw [e, ih (acc ++ [g y]) (fun z hz => hm z (List.mem_cons_of_mem _ hz)) (by rw [List.length_append, List.length_singleton]; omega), List.append_assoc]
      rfl
  rw [e, hi, go xs [] (fun _ h => h) (by simpa using hz), List.nil_append]
  refine close_new (closeds_all fun d hd => ?_)
  obtain ⟨x, hx, rfl⟩ := List.mem_map.mp hd
  exact hc x hx
theorem evFor_nil {same : Store → Bool} {one : D → Env → Store → SR} {env : Env} {st : Store} (h : same st = true) : evFor same one [] env st = .next env st := by rw [evFor, if_pos h]
theorem evFor_next {same : Store → Bool} {one : D → Env → Store → SR} {x : D} {xs : List D} {env env' : Env} {st st' : Store} (h : same st = true) (ho : one x env st = .next env' st') : evFor same one (x :: xs) env st = evFor same one xs env' st' := by
  rw [evFor, if_pos h, ho]
theorem evFor_ret {same : Store → Bool} {one : D → Env → Store → SR} {x d : D} {xs : List D} {env : Env} {st st' : Store} (h : same st = true) (ho : one x env st = .ret d st') : evFor same one (x :: xs) env st = .ret d st' := by
  rw [evFor, if_pos h, ho]
theorem src_flst (st : Store) (xs : List D) : srcOf .seq [.flst xs] st = some ⟨xs, fun _ => true⟩ := rfl
theorem src_slst (st : Store) (xs : List D) : srcOf .seq [.slst xs] st = some ⟨xs, fun _ => true⟩ := rfl
theorem ix_flst {st : Store} {xs : List D} (i : Int) : ixSem (.flst xs) i st = (match atI xs i with | some d => .ok d st | none => .bad) := rfl
theorem new_at (st : Store) (o : DO) : (st ++ [o])[st.length]? = some o := by rw [List.getElem?_append_right (Nat.le_refl _), Nat.sub_self]; rfl
theorem new_set (st : Store) (o o' : DO) : (st ++ [o]).set st.length o' = st ++ [o'] := by rw [List.set_append_right _ _ (Nat.le_refl _), Nat.sub_self]; rfl
end Z
namespace Z
open PySem L2
section
variable (st : Store) (i j : Int) (x : List Nat)
theorem o_iadd : opSem (.x .iadd) [.int i, .int j] st = .ok (.int (i + j)) st := rfl
theorem o_isub : opSem (.x .isub) [.int i, .int j] st = .ok (.int (i - j)) st := rfl
theorem o_isNon : opSem .is [.non, .non] st = .ok (.bl true) st := rfl
theorem o_isNonI : opSem .is [.int i, .non] st = .ok (.bl false) st := rfl
theorem o_isNonS : opSem .is [.str x, .non] st = .ok (.bl false) st := rfl
theorem o_isnotNon : opSem .isnot [.non, .non] st = .ok (.bl false) st := rfl
theorem o_isnotNonI : opSem .isnot [.int i, .non] st = .ok (.bl true) st := rfl
theorem o_isnotNonS : opSem .isnot [.str x, .non] st = .ok (.bl true) st := rfl
theorem o_ord (c : Nat) : opSem (.x .ord_) [.str [c]] st = .ok (.int (c : Int)) st := rfl
end
theorem cut_nat {α : Type} (xs : List α) (p q : Nat) : cutD xs (some (p : Int)) (some (q : Int)) = (xs.drop p).take (q - p) := by
  unfold cutD
  rw [HT.sIx_nat, HT.sIx_nat]
  rcases Nat.le_total p xs.length with h | h
  · rw [Nat.min_eq_left h]
    rcases Nat.le_total q xs.length with h2 | h2
    · rw [Nat.min_eq_left h2]
    · rw [Nat.min_eq_right h2, List.take_of_length_le (by rw [List.length_drop]; exact Nat.le_refl _), List.take_of_length_le (by rw [List.length_drop]; omega)]
  · rw [Nat.min_eq_right h, List.drop_length, List.drop_eq_nil_of_le h, List.take_nil, List.take_nil]
/-- bytes, numbers as a list -/
def natsD (xs : List Nat) : D := .flst (xs.map fun (n : Nat) => D.int (n : Int))
theorem closed_nats (n : Nat) (xs : List Nat) : closedD n (natsD xs) = true := closeds_map (fun _ => rfl) xs
theorem len_nats (st : Store) (xs : List Nat) : opSem .len [natsD xs] st = .ok (.int (xs.length : Nat)) st := by
  show R.ok (D.int ((xs.map fun (n : Nat) => D.int (n : Int)).length : Nat)) st = _
  rw [List.length_map]
theorem ix_nats (st : Store) (xs : List Nat) (i : Nat) (h : i < xs.length) : opSem .ix [natsD xs, .int (i : Int)] st = .ok (.int (xs[i] : Nat)) st := by
  show (match atI (xs.map fun (n : Nat) => D.int (n : Int)) (i : Int) with | some d => R.ok d st | none => .bad) = _
  rw [atI_lt (by rw [List.length_map]; exact h), List.getElem_map]
/-- a sealed slice -/
theorem sl_nats (st : Store) (xs : List Nat) (p q : Nat) : closeR st (opSem (.sl true true) [natsD xs, .int (p : Int), .int (q : Int)] st) = .ok (natsD ((xs.drop p).take (q - p))) st := by
  show closeR st (.ok (.loc st.length) (st ++ [.lst (cutD (xs.map fun (n : Nat) => D.int (n : Int)) (some (p : Int)) (some (q : Int)))])) = _
  rw [cut_map, cut_nat]
  exact close_new (closeds_map (fun _ => rfl) _)
theorem eq_nats (st : Store) (xs ys : List Nat) : opSem .eq [natsD xs, natsD ys] st = .ok (.bl (decide (xs = ys))) st := by
  have p : ∀ zs : List Nat, pureD st (natsD zs) = some (natsD zs) := fun zs => by
    show (derefDs _ (zs.map fun (n : Nat) => D.int (n : Int))).map D.flst = _
    have : ∀ ws : List Nat, derefDs (atD st 8) (ws.map fun (n : Nat) => D.int (n : Int)) = some (ws.map fun (n : Nat) => D.int (n : Int)) := fun ws => by
      induction ws with
      | nil => rfl
      | cons w ws ih => rw [List.map_cons, derefDs, ih]; rfl
    rw [this]; rfl
  have d : ∀ zs : List Nat, deepD (natsD zs) = 1 := fun zs => by
    show deepDs (zs.map fun (n : Nat) => D.int (n : Int)) + 1 = 1
    have : ∀ ws : List Nat, deepDs (ws.map fun (n : Nat) => D.int (n : Int)) = 0 := fun ws => by
      induction ws with
      | nil => rfl
      | cons w ws ih => rw [List.map_cons, deepDs, ih]; rfl
    rw [this]
  have e : ∀ as bs : List Nat, eqDs (as.map fun (n : Nat) => D.int (n : Int)) (bs.map fun (n : Nat) => D.int (n : Int)) = decide (as = bs) := fun as => by
    induction as with
    | nil => intro bs; cases bs <;> simp [eqDs]
    | cons a as ih =>
      intro bs
      cases bs with
      | nil => simp [eqDs]
      | cons b bs =>
        rw [List.map_cons, List.map_cons, eqDs, ih]
        show (((a : Int) == (b : Int)) && decide (as = bs)) = _
        by_cases h1 : a = b <;> by_cases h2 : as = bs <;> simp [h1, h2]
        omega
  show (match eqSem (natsD xs) (natsD ys) st with | some k => R.ok (D.bl k) st | none => .bad) = _
  unfold eqSem
  rw [p, p]
  simp only [d]
  rw [if_pos (by decide)]
  show R.ok (D.bl (eqDs (xs.map fun (n : Nat) => D.int (n : Int)) (ys.map fun (n : Nat) => D.int (n : Int)))) st = _
  rw [e]
end Z
namespace Z
open PySem L2
theorem src_nats (st : Store) (xs : List Nat) : srcOf .seq [natsD xs] st = some ⟨xs.map fun (n : Nat) => D.int (n : Int), fun _ => true⟩ := rfl
theorem mul256 (st : Store) (j : Int) : opSem .mul [.int 256, .int j] st = .ok (.int (256 * j)) st := o_mulL st 256 j (by decide)
end Z


set_option autoImplicit false
namespace K6
open PySem PySem.Spec PyProof.Rows L2 Z
def topS (i : Nat) : Stmt := PySem.Challenge.pw_zoneward_k06_any_bytes_as_a_name.main.body.getD i (.Pass ⟨0, 0, 0, 0⟩)
def e0 : Ent := { x := "name_size", q := "name_size", st := topS 14, N := ["name", "label"], ps := ["name"], dvs := [], seals := [⟨25, 15, 25, 49⟩] }
def e1 : Ent := { x := "read_name", q := "read_name", st := topS 21, N := ["data", "place", "labels", "behind", "run", "at", "length"], ps := ["data", "place"], dvs := [], opens := [⟨33, 13, 33, 15⟩] }
def e2 : Ent := { x := "_check_complete", q := "_check_complete", st := topS 22, N := ["data", "end"], ps := ["data", "end"], dvs := [] }
def e3 : Ent := { x := "_number_at", q := "_number_at", st := topS 23, N := ["data", "place", "width", "number", "byte"], ps := ["data", "place", "width"], dvs := [], seals := [⟨59, 16, 59, 41⟩] }
def e4 : Ent := { x := "_target_at", q := "_target_at", st := topS 24, N := ["data", "place", "run", "target"], ps := ["data", "place", "run"], dvs := [] }
def e5 : Ent := { x := "_label_at", q := "_label_at", st := topS 25, N := ["data", "place", "length", "begin", "codes", "characters", "code"], ps := ["data", "place"], dvs := [], seals := [⟨73, 12, 73, 38⟩, ⟨76, 17, 76, 62⟩] }
def e6 : Ent := { x := "_label_character_of", q := "_label_character_of", st := topS 26, N := ["code", "character"], ps := ["code"], dvs := [] }
def e7 : Ent := { x := "_character_of", q := "_character_of", st := topS 27, N := ["code"], ps := ["code"], dvs := [] }
def e8 : Ent := { x := "_law_is_integer", q := "_law_is_integer", st := topS 29, N := ["actual"], ps := ["actual"], dvs := [], hot := true, raw := true }
def e9 : Ent := { x := "_law_draw", q := "_law_draw", st := topS 30, N := ["state", "script", "size", "cell", "mixed", "digit"], ps := ["state", "script", "size"], dvs := [], raw := true }
def e10 : Ent := { x := "_law_char", q := "_law_char", st := topS 31, N := ["code", "length"], ps := ["code", "length"], dvs := [], raw := true }
def e11 : Ent := { x := "_law_spelled", q := "_law_spelled", st := topS 32, N := ["codes", "chars", "label", "code", "char"], ps := ["codes"], dvs := [] }
def e12 : Ent := { x := "_law_read_name", q := "_law_read_name", st := topS 33, N := ["data", "place", "at", "run", "end", "labels", "size", "turn", "length", "target", "k"], ps := ["data", "place"], dvs := [], seals := [⟨153, 39, 153, 67⟩], opens := [⟨125, 13, 125, 15⟩] }
def e13 : Ent := { x := "_law_classes", q := "_law_classes", st := topS 34, N := ["error", "found"], ps := ["error"], dvs := [], hot := true, opens := [⟨160, 12, 160, 14⟩] }
def e14 : Ent := { x := "_law_parts", q := "_law_parts", st := topS 35, N := ["state", "script", "data", "k", "kind", "many", "i"], ps := ["state", "script"], dvs := [], opens := [⟨175, 11, 175, 13⟩] }
def e15 : Ent := { x := "_law_long", q := "_law_long", st := topS 36, N := ["state", "script", "data", "k", "many"], ps := ["state", "script"], dvs := [], opens := [⟨191, 11, 191, 13⟩, ⟨193, 22, 193, 26⟩, ⟨193, 29, 193, 37⟩] }
def e16 : Ent := { x := "law", q := "law", st := topS 37, N := ["script", "state", "kind", "data", "place", "name", "end", "labels", "passed", "actual", "error", "cell"], ps := ["script"], dvs := [], seals := [⟨199, 11, 199, 48⟩, ⟨199, 35, 199, 47⟩], opens := [⟨197, 12, 197, 18⟩] }
def pg : Pg := { E := [e0, e1, e2, e3, e4, e5, e6, e7, e8, e9, e10, e11, e12, e13, e14, e15, e16], co := [("POINTER", .int 49152), ("LABEL_CHARACTERS", .str [97, 98, 99, 100, 101, 102, 103, 104, 105, 106, 107, 108, 109, 110, 111, 112, 113, 114, 115, 116, 117, 118, 119, 120, 121, 122, 48, 49, 50, 51, 52, 53, 54, 55, 56, 57, 95, 45]), ("WILDCARD", .str [42]), ("MAX_LABEL_LENGTH", .int 63), ("MAX_NAME_SIZE", .int 255), ("FIRST_POINTER_BYTE", .int 192), ("CHARACTERS", .str [32, 33, 34, 35, 36, 32, 38, 39, 40, 41, 42, 43, 44, 45, 46, 47, 48, 49, 50, 51, 52, 53, 54, 55, 56, 57, 58, 59, 60, 61, 62, 63, 64, 65, 66, 67, 68, 69, 70, 71, 72, 73, 74, 75, 76, 77, 78, 79, 80, 81, 82, 83, 84, 85, 86, 87, 88, 89, 90, 91, 92, 93, 94, 95, 96, 97, 98, 99, 100, 101, 102, 103, 104, 105, 106, 107, 108, 109, 110, 111, 112, 113, 114, 115, 116, 117, 118, 119, 120, 121, 122, 123, 124, 125, 126]), ("FIRST_CODE", .int 32), ("LAST_CODE", .int 126), ("PERCENT_CODE", .int 37)], blt := ["ValueError", "bool", "int", "isinstance", "len", "list", "ord", "range", "sum", "tuple"], ex := [("ZonewardError", (0, [0, 1, 2, 3, 4, 5, 6])), ("Truncated", (1, [1])), ("ReservedValue", (2, [2])), ("InvalidForm", (3, [3])), ("InvalidPointer", (4, [4])), ("InvalidName", (5, [5])), ("InvalidText", (6, [6]))], exb := [("ValueError", [0, 1, 2, 3, 4, 5, 6])] }
/-- name_size -/
def b0 : List Sx :=
  [.ret (.op .add [.op (.x .sum_) [.sealE (.comp [1] (.nm 1) .seq [.v 0] [] (.op .add [.op .len [.v 1], .c (.int 1)]))], .c (.int 1)])]
/-- read_name -/
def b1 : List Sx :=
  [.asg (.nm 2) (.op .lst []), .asg (.nm 3) (.c .non), .asg (.nm 4) (.v 1), .asg (.nm 5) (.v 1), .asg (.nm 6) (.scall 3 [.v 0, .v 5, .c (.int 1)]),
    .while_ (.op .gt [.v 6, .c (.int 0)]) [.ite (.op .ge [.v 6, .c (.int 192)]) [.ite (.op .is [.v 3, .c .non]) [.asg (.nm 3) (.op .add [.v 5,
    .c (.int 2)])] [], .asg (.nm 4) (.scall 4 [.v 0, .v 5, .v 4]), .asg (.nm 5) (.v 4)] [.expr (.op (.x (.meth .append)) [.op (.x .asLst) [.v 2],
    .scall 5 [.v 0, .v 5]]), .ite (.op .gt [.scall 0 [.v 2], .c (.int 255)]) [.raise_ 5 (.v 1)] [], .asg (.nm 5) (.op (.x .iadd) [.v 5,
    .op .add [.c (.int 1), .v 6]])], .asg (.nm 6) (.scall 3 [.v 0, .v 5, .c (.int 1)])], .ite (.op .is [.v 3, .c .non]) [.asg (.nm 3) (.op .add [.v 5,
    .c (.int 1)])] [], .ret (.op .tup [.op .toTup [.v 2], .v 3])]
/-- _check_complete -/
def b2 : List Sx :=
  [.ite (.op .gt [.v 1, .op .len [.v 0]]) [.raise_ 1 (.op .len [.v 0])] []]
/-- _number_at -/
def b3 : List Sx :=
  [.expr (.scall 2 [.v 0, .op .add [.v 1, .v 2]]), .asg (.nm 3) (.c (.int 0)), .for_ (.nm 4) .seq [.sealE (.op (.sl true true) [.v 0,
    .op .asInt [.v 1], .op .add [.v 1, .v 2]])] [.asg (.nm 3) (.op .add [.op .mul [.c (.int 256), .v 3], .v 4])], .ret (.v 3)]
/-- _target_at -/
def b4 : List Sx :=
  [.asg (.nm 3) (.op .sub [.scall 3 [.v 0, .v 1, .c (.int 2)], .c (.int 49152)]), .ite (.op .ge [.v 3, .v 2]) [.raise_ 4 (.v 1)] [], .ret (.v 3)]
/-- _label_at -/
def b5 : List Sx :=
  [.asg (.nm 2) (.op .ix [.v 0, .v 1]), .ite (.op .gt [.v 2, .c (.int 63)]) [.raise_ 2 (.v 1)] [], .asg (.nm 3) (.op .add [.v 1, .c (.int 1)]),
    .expr (.scall 2 [.v 0, .op .add [.v 3, .v 2]]), .asg (.nm 4) (.sealE (.op (.sl true true) [.v 0, .op .asInt [.v 3], .op .add [.v 3, .v 2]])),
    .ite (.op .eq [.v 4, .op (.x .flit) [.op (.x .ord_) [.c (.str [42])]]]) [.ret (.c (.str [42]))] [], .asg (.nm 5) (.sealE (.comp [6]
    (.nm 6) .seq [.v 4] [] (.scall 6 [.v 6]))), .ite (.op (.x .inn) [.c .non, .v 5]) [.raise_ 5 (.op .add [.v 3,
    .op (.x (.meth .index)) [.op (.x .asLst) [.v 5], .c .non]])] [], .ret (.op (.x (.meth .join)) [.op (.x .asStr) [.c (.str [])], .v 5])]
/-- abcdefghijklmnopqrstuvwxyz0123456789_- -/
def s0 : List Nat := [97, 98, 99, 100, 101, 102, 103, 104, 105, 106, 107, 108, 109, 110, 111, 112, 113, 114, 115, 116, 117, 118, 119, 120, 121, 122, 48, 49, 50, 51, 52, 53, 54, 55, 56, 57, 95, 45]
/-- _label_character_of -/
def b6 : List Sx :=
  [.asg (.nm 1) (.scall 7 [.v 0]), .ite (.or (.op .is [.v 1, .c .non]) (.op (.x .notin) [.op (.x (.meth .lower)) [.op (.x .asStr) [.v 1]],
    .c (.str s0)])) [.ret (.c .non)] [], .ret (.op (.x (.meth .lower)) [.op (.x .asStr) [.v 1]])]
/--  !"#$ &'()*+,-./0123456789:;<=>?@ABCDEFGHIJKLMNOPQRSTUVWXYZ[\]^_`abcdefghijklmnopqrstuvwxyz{|}~ -/
def s1 : List Nat := [32, 33, 34, 35, 36, 32, 38, 39, 40, 41, 42, 43, 44, 45, 46, 47, 48, 49, 50, 51, 52, 53, 54, 55, 56, 57, 58, 59, 60, 61, 62, 63, 64, 65, 66, 67, 68, 69, 70, 71, 72, 73, 74, 75, 76, 77, 78, 79, 80, 81, 82, 83, 84, 85, 86, 87, 88, 89, 90, 91, 92, 93, 94, 95, 96, 97, 98, 99, 100, 101, 102, 103, 104, 105, 106, 107, 108, 109, 110, 111, 112, 113, 114, 115, 116, 117, 118, 119, 120, 121, 122, 123, 124, 125, 126]
/-- _character_of -/
def b7 : List Sx :=
  [.ite (.and (.chain .le .le (.c (.int 32)) (.v 0) (.c (.int 126))) (.op .ne [.v 0, .c (.int 37)])) [.ret (.op .ix [.c (.str s1), .op .sub [.v 0,
    .c (.int 32)]])] [], .ret (.c .non)]
/-- _law_is_integer -/
def b8 : List Sx :=
  [.ret (.and (.op (.isin .int) [.v 0]) (.not (.op (.isin .bool) [.v 0])))]
/-- _law_draw -/
def b9 : List Sx :=
  [.ite (.op .eq [.op .ix [.v 0, .c (.int 1)], .c (.int 0)]) [.asg (.nm 3) (.c (.int 0)), .ite (.op .gt [.op .len [.v 1],
    .c (.int 0)]) [.asg (.nm 3) (.op .ix [.v 1, .op .mod [.op .ix [.v 0, .c (.int 0)], .op .len [.v 1]]])] [], .ite (.op .lt [.v 3,
    .c (.int 0)]) [.asg (.nm 3) (.op .sub [.c (.int 1), .op .mul [.c (.int 2), .v 3]])] [],
    .asg (.nm 4) (.op .mod [.op .toInt [.op .mul [.op .add [.op .add [.v 3, .op .mul [.op .ix [.v 0, .c (.int 0)], .c (.int 7919)]], .c (.int 1)],
    .c (.int 48271)]], .c (.int 2147483647)]), .setix (.v 0) (.c (.int 1)) (.op .mod [.op .toInt [.op .add [.op .mul [.v 4, .c (.int 69621)],
    .op .mul [.op .ix [.v 0, .c (.int 0)], .c (.int 104729)]]], .c (.int 4294967291)]), .ite (.and (.op .ge [.v 3, .op .pow [.c (.int 10),
    .c (.int 18)]]) (.op .lt [.op .ix [.v 0, .c (.int 0)], .op .len [.v 1]])) [.setix (.v 0) (.c (.int 1)) (.v 3)] [],
    .setix (.v 0) (.c (.int 0)) (.op .add [.op .ix [.v 0, .c (.int 0)], .c (.int 1)])] [], .asg (.nm 5) (.op .mod [.op .toInt [.op .ix [.v 0,
    .c (.int 1)]], .v 2]), .setix (.v 0) (.c (.int 1)) (.op .fdiv [.op .ix [.v 0, .c (.int 1)], .v 2]), .ret (.v 5)]
/-- _law_char -/
def b10 : List Sx :=
  [.ite (.or (.chain .le .le (.c (.int 97)) (.v 0) (.c (.int 122))) (.or (.chain .le .le (.c (.int 48)) (.v 0) (.c (.int 57))) (.or (.op .eq [.v 0,
    .c (.int 45)]) (.or (.op .eq [.v 0, .c (.int 95)]) (.and (.op .eq [.v 0, .c (.int 42)]) (.op .eq [.v 1, .c (.int 1)])))))) [.ret (.c (.bl true))]
    [], .ret (.chain .le .le (.c (.int 65)) (.v 0) (.c (.int 90)))]
/-- abcdefghijklmnopqrstuvwxyz0123456789-_* -/
def s2 : List Nat := [97, 98, 99, 100, 101, 102, 103, 104, 105, 106, 107, 108, 109, 110, 111, 112, 113, 114, 115, 116, 117, 118, 119, 120, 121, 122, 48, 49, 50, 51, 52, 53, 54, 55, 56, 57, 45, 95, 42]
/-- _law_spelled -/
def b11 : List Sx :=
  [.asg (.nm 1) (.c (.str s2)), .asg (.nm 2) (.c (.str [])), .for_ (.nm 3) .seq [.v 0]
    [.ite (.chain .le .le (.c (.int 65)) (.v 3) (.c (.int 90))) [.asg (.nm 3) (.op .add [.v 3, .c (.int 32)])] [], .for_ (.nm 4) .seq [.v 1]
    [.ite (.op .eq [.op (.x .ord_) [.v 4], .v 3]) [.asg (.nm 2) (.op .add [.v 2, .v 4])] []]], .ret (.v 2)]
/-- Truncated -/
def s3 : List Nat := [84, 114, 117, 110, 99, 97, 116, 101, 100]
/-- InvalidPointer -/
def s4 : List Nat := [73, 110, 118, 97, 108, 105, 100, 80, 111, 105, 110, 116, 101, 114]
/-- ReservedValue -/
def s5 : List Nat := [82, 101, 115, 101, 114, 118, 101, 100, 86, 97, 108, 117, 101]
/-- InvalidName -/
def s6 : List Nat := [73, 110, 118, 97, 108, 105, 100, 78, 97, 109, 101]
/-- _law_read_name -/
def b12 : List Sx :=
  [.asg (.nm 2) (.v 1), .asg (.nm 3) (.v 1), .asg (.nm 4) (.op .neg [.c (.int 1)]), .asg (.nm 5) (.op .lst []), .asg (.nm 6) (.c (.int 1)),
    .for_ (.nm 7) .range1 [.op .add [.op .mul [.c (.int 2), .op .len [.v 0]], .c (.int 2)]] [.ite (.op .ge [.v 2,
    .op .len [.v 0]]) [.ret (.op .tup [.c (.str s3), .op .len [.v 0], .op .tup []])] [], .asg (.nm 8) (.op .ix [.v 0, .v 2]), .ite (.op .eq [.v 8,
    .c (.int 0)]) [.ite (.op .lt [.v 4, .c (.int 0)]) [.asg (.nm 4) (.op .add [.v 2, .c (.int 1)])] [], .ret (.op .tup [.c (.str []), .v 4,
    .op .toTup [.v 5]])] [], .ite (.op .ge [.v 8, .c (.int 192)]) [.ite (.op .gt [.op .add [.v 2, .c (.int 2)],
    .op .len [.v 0]]) [.ret (.op .tup [.c (.str s3), .op .len [.v 0], .op .tup []])] [], .asg (.nm 9) (.op .add [.op .mul [.op .sub [.v 8,
    .c (.int 192)], .c (.int 256)], .op .ix [.v 0, .op .add [.v 2, .c (.int 1)]]]), .ite (.op .ge [.v 9, .v 3]) [.ret (.op .tup [.c (.str s4), .v 2,
    .op .tup []])] [], .ite (.op .lt [.v 4, .c (.int 0)]) [.asg (.nm 4) (.op .add [.v 2, .c (.int 2)])] [], .asg (.nm 2) (.v 9), .asg (.nm 3) (.v 9)]
    [.ite (.op .ge [.v 8, .c (.int 64)]) [.ret (.op .tup [.c (.str s5), .v 2, .op .tup []])] [.ite (.op .gt [.op .add [.op .add [.v 2, .c (.int 1)],
    .v 8], .op .len [.v 0]]) [.ret (.op .tup [.c (.str s3), .op .len [.v 0], .op .tup []])] [], .for_ (.nm 10) .range1 [.v 8]
    [.ite (.not (.call 10 [.op .ix [.v 0, .op .add [.op .add [.v 2, .c (.int 1)], .v 10]], .v 8])) [.ret (.op .tup [.c (.str s6),
    .op .add [.op .add [.v 2, .c (.int 1)], .v 10], .op .tup []])] []], .expr (.op (.x (.meth .append)) [.op (.x .asLst) [.v 5],
    .scall 11 [.sealE (.op (.sl true true) [.v 0, .op .asInt [.op .add [.v 2, .c (.int 1)]], .op .add [.op .add [.v 2, .c (.int 1)], .v 8]])]]),
    .asg (.nm 6) (.op .add [.op .add [.v 6, .c (.int 1)], .v 8]), .ite (.op .gt [.v 6, .c (.int 255)]) [.ret (.op .tup [.c (.str s6), .v 1,
    .op .tup []])] [], .asg (.nm 2) (.op .add [.op .add [.v 2, .c (.int 1)], .v 8])]]], .ret (.op .tup [.c (.str [101, 110, 100, 108, 101, 115, 115]),
    .c (.int 0), .op .tup []])]
/-- InvalidForm -/
def s7 : List Nat := [73, 110, 118, 97, 108, 105, 100, 70, 111, 114, 109]
/-- InvalidText -/
def s8 : List Nat := [73, 110, 118, 97, 108, 105, 100, 84, 101, 120, 116]
/-- _law_classes -/
def b13 : List Sx :=
  [.asg (.nm 1) (.op .lst []), .ite (.op (.x (.isx [1])) [.v 0]) [.expr (.op (.x (.meth .append)) [.op (.x .asLst) [.v 1], .c (.str s3)])] [],
    .ite (.op (.x (.isx [2])) [.v 0]) [.expr (.op (.x (.meth .append)) [.op (.x .asLst) [.v 1], .c (.str s5)])] [],
    .ite (.op (.x (.isx [3])) [.v 0]) [.expr (.op (.x (.meth .append)) [.op (.x .asLst) [.v 1], .c (.str s7)])] [],
    .ite (.op (.x (.isx [4])) [.v 0]) [.expr (.op (.x (.meth .append)) [.op (.x .asLst) [.v 1], .c (.str s4)])] [],
    .ite (.op (.x (.isx [5])) [.v 0]) [.expr (.op (.x (.meth .append)) [.op (.x .asLst) [.v 1], .c (.str s6)])] [],
    .ite (.op (.x (.isx [6])) [.v 0]) [.expr (.op (.x (.meth .append)) [.op (.x .asLst) [.v 1], .c (.str s8)])] [], .ret (.v 1)]
/-- _law_parts -/
def b14 : List Sx :=
  [.asg (.nm 2) (.op .lst []), .for_ (.nm 3) .range1 [.call 9 [.v 0, .v 1, .c (.int 20)]] [.asg (.nm 4) (.call 9 [.v 0, .v 1, .c (.int 8)]),
    .ite (.op .lt [.v 4, .c (.int 4)]) [.asg (.nm 5) (.op .add [.c (.int 1), .call 9 [.v 0, .v 1, .c (.int 3)]]),
    .expr (.op (.x (.meth .append)) [.op (.x .asLst) [.v 2], .v 5]), .for_ (.nm 6) .range1 [.v 5]
    [.expr (.op (.x (.meth .append)) [.op (.x .asLst) [.v 2], .op .ix [.op (.x .flit) [.c (.int 97), .c (.int 65), .c (.int 122), .c (.int 48),
    .c (.int 57), .c (.int 45), .c (.int 95), .c (.int 90)], .call 9 [.v 0, .v 1, .c (.int 8)]]])]] [.ite (.op .lt [.v 4,
    .c (.int 6)]) [.expr (.op (.x (.meth .extend)) [.op (.x .asLst) [.v 2], .op (.x .flit) [.c (.int 192), .call 9 [.v 0, .v 1,
    .op .add [.op .len [.v 2], .c (.int 2)]]]])] [.ite (.op .eq [.v 4, .c (.int 6)]) [.expr (.op (.x (.meth .append)) [.op (.x .asLst) [.v 2],
    .c (.int 0)])] [.expr (.op (.x (.meth .extend)) [.op (.x .asLst) [.v 2], .op (.x .flit) [.c (.int 1), .op .ix [.op (.x .flit) [.c (.int 42),
    .c (.int 64), .c (.int 91), .c (.int 96), .c (.int 123), .c (.int 37), .c (.int 47), .c (.int 58)], .call 9 [.v 0, .v 1, .c (.int 8)]]]])]]]],
    .ret (.v 2)]
/-- _law_long -/
def b15 : List Sx :=
  [.asg (.nm 2) (.op .lst []), .for_ (.nm 3) .range1 [.c (.int 3)] [.asg (.nm 2) (.op .add [.op .add [.v 2, .op .lst [.c (.int 63)]],
    .op .mul [.op .lst [.op .add [.c (.int 97), .v 3]], .c (.int 63)]])], .asg (.nm 4) (.op .add [.c (.int 58), .call 9 [.v 0, .v 1, .c (.int 6)]]),
    .ret (.op .add [.op .add [.op .add [.v 2, .op (.x .flit) [.v 4]], .op .mul [.op (.x .flit) [.c (.int 100)], .v 4]], .op (.x .flit) [.c (.int 0),
    .c (.int 1), .c (.int 101), .c (.int 192), .c (.int 0)]])]
/-- law -/
def b16 : List Sx :=
  [.asg (.nm 1) (.op .lst [.c (.int 0), .c (.int 0)]), .asg (.nm 2) (.call 9 [.v 1, .v 0, .c (.int 9)]), .asg (.nm 3) (.sealE (.comp [11]
    (.nm 11) .seq [.sealE (.op (.sl true true) [.v 0, .op .asInt [.c (.int 1)], .c (.int 62)])] [] (.op .mod [.v 11, .c (.int 256)]))),
    .ite (.op .gt [.v 2, .c (.int 3)]) [.asg (.nm 3) (.scall 14 [.v 1, .v 0])] [], .asg (.nm 4) (.call 9 [.v 1, .v 0, .op .add [.op .len [.v 3],
    .c (.int 1)]]), .ite (.op .eq [.v 2, .c (.int 8)]) [.asg (.nm 3) (.scall 15 [.v 1, .v 0]), .asg (.nm 4) (.op .ix [.op (.x .flit) [.c (.int 0),
    .op .sub [.op .len [.v 3], .c (.int 4)]], .call 9 [.v 1, .v 0, .c (.int 2)]])] [], .asg (.tup [.nm 5, .nm 6, .nm 7]) (.scall 12 [.v 3, .v 4]),
    .asg (.nm 8) (.op (.x .toListF) [.v 3]), .try_ [.asg (.nm 9) (.scall 1 [.v 8, .v 4])] [0, 1, 2, 3, 4, 5, 6] 10 [.ite (.or (.op .eq [.v 5,
    .c (.str [])]) (.or (.op .ne [.scall 13 [.v 10], .op (.x .flit) [.v 5]]) (.not (.call 8 [.op (.x .place) [.v 10]])))) [.ret (.c (.bl false))] [],
    .ret (.and (.op .eq [.op (.x .place) [.v 10], .v 6]) (.and (.op (.x (.isx [0, 1, 2, 3, 4, 5, 6])) [.v 10]) (.op .eq [.v 8, .v 3])))],
    .ite (.or (.op .ne [.v 5, .c (.str [])]) (.or (.not (.op (.isin .tuple) [.v 9])) (.or (.op .ne [.op .len [.v 9],
    .c (.int 2)]) (.not (.op (.isin .tuple) [.op .ix [.v 9, .c (.int 0)]]))))) [.ret (.c (.bl false))] [], .ret (.and (.op .eq [.v 9, .op .tup [.v 7,
    .v 6]]) (.and (.call 8 [.op .ix [.v 9, .c (.int 1)]]) (.op .eq [.v 8, .v 3])))]
def P : List Fd := [⟨2, 1, b0⟩, ⟨7, 2, b1⟩, ⟨2, 2, b2⟩, ⟨5, 3, b3⟩, ⟨4, 3, b4⟩, ⟨7, 2, b5⟩, ⟨2, 1, b6⟩, ⟨1, 1, b7⟩, ⟨1, 1, b8⟩, ⟨6, 3, b9⟩, ⟨2, 2, b10⟩, ⟨5, 1, b11⟩, ⟨11, 2, b12⟩, ⟨2, 1, b13⟩, ⟨7, 2, b14⟩, ⟨5, 2, b15⟩, ⟨12, 1, b16⟩]
theorem comp : Comp pg pg.E P := .cons 200 (by rfl) (hot_no rfl) (.cons 200 (by rfl) (hot_no rfl) (.cons 200 (by rfl) (hot_no rfl) (.cons 200 (by rfl) (hot_no rfl) (.cons 200 (by rfl) (hot_no rfl) (.cons 200 (by rfl) (hot_no rfl) (.cons 200 (by rfl) (hot_no rfl) (.cons 200 (by rfl) (hot_no rfl) (.cons 200 (by rfl) (hot_yes rfl (by rfl)) (.cons 200 (by rfl) (hot_no rfl) (.cons 200 (by rfl) (hot_no rfl) (.cons 200 (by rfl) (hot_no rfl) (.cons 200 (by rfl) (hot_no rfl) (.cons 200 (by rfl) (hot_yes rfl (by rfl)) (.cons 200 (by rfl) (hot_no rfl) (.cons 200 (by rfl) (hot_no rfl) (.cons 200 (by rfl) (hot_no rfl) (.nil)))))))))))))))))
end K6

set_option autoImplicit false
set_option maxHeartbeats 1000000
namespace K6
open PySem L2 Z

/-! ## the words of the document -/
def low (c : Nat) : Nat := if 65 ≤ c ∧ c ≤ 90 then c + 32 else c
/-- the character of a label that a code stands for -/
def lc (c : Nat) : Option Nat := if low c ∈ s0 then some (low c) else none
def isTxt (c : Nat) : Bool := decide (32 ≤ c) && decide (c ≤ 126) && decide (c ≠ 37)
def optS : Option Nat → D
  | none => .non
  | some c => .str [c]
section
variable (k : Nat) (st : Store)
theorem check_complete (data : List Nat) (e : Nat) : closeR st (run P (k + 1) 2 [natsD data, .int (e : Int)] st) = if data.length < e then .exc 1 (.int (data.length : Int)) st else .ok .non st := by
  rw [run_eq (P := P) (f := 2) rfl k _ _ rfl]
  show closeR st (xss _ b2 [some (natsD data), some (.int (e : Int))] st).fin = _
  by_cases h : data.length < e
  · have h1 : decide ((data.length : Int) < (e : Int)) = true := decide_eq_true (by omega)
    rw [if_pos h]
    simp only [b2, forB_nm, ev_op, ev_v, ev_c, ev_not, ev_and, ev_or, ev_ifx, ev_chain, ev_call, ev_scall, ev_seal, evs_cons, evs_nil, xs_asg, xs_expr, xs_ret, xs_ite, xs_brk, xs_cnt, xs_pass, xs_raise, xss_cons, xss_nil, List.getElem?_cons_zero, List.getElem?_cons_succ, bind_ok, bind_exc, toS_ok, toS_exc, seq_next, seq_ret, seq_exc, fin_ret, fin_next, fin_exc, truth_bl, setT_nm, List.set_cons_succ, List.set_cons_zero, o_addI, o_subI, o_ltI, o_leI, o_gtI, o_geI, o_eqI, o_neI, o_eqS, o_neS, o_eqB, o_neB, o_isB, o_isnotB, o_toInt, o_asInt, o_neg, o_asStr, o_iadd, o_isub, o_isNon, o_isNonI, o_isNonS, o_isnotNon, o_isnotNonI, o_isnotNonS, Bool.not_true, Bool.not_false, close_int, close_bl, close_str, close_non, len_nats, h1, close_exc_int]
  · have h1 : decide ((data.length : Int) < (e : Int)) = false := decide_eq_false (by omega)
    rw [if_neg h]
    simp only [b2, forB_nm, ev_op, ev_v, ev_c, ev_not, ev_and, ev_or, ev_ifx, ev_chain, ev_call, ev_scall, ev_seal, evs_cons, evs_nil, xs_asg, xs_expr, xs_ret, xs_ite, xs_brk, xs_cnt, xs_pass, xs_raise, xss_cons, xss_nil, List.getElem?_cons_zero, List.getElem?_cons_succ, bind_ok, bind_exc, toS_ok, toS_exc, seq_next, seq_ret, seq_exc, fin_ret, fin_next, fin_exc, truth_bl, setT_nm, List.set_cons_succ, List.set_cons_zero, o_addI, o_subI, o_ltI, o_leI, o_gtI, o_geI, o_eqI, o_neI, o_eqS, o_neS, o_eqB, o_neB, o_isB, o_isnotB, o_toInt, o_asInt, o_neg, o_asStr, o_iadd, o_isub, o_isNon, o_isNonI, o_isNonS, o_isnotNon, o_isnotNonI, o_isnotNonS, Bool.not_true, Bool.not_false, close_int, close_bl, close_str, close_non, len_nats, h1]
theorem number1 (data : List Nat) (p : Nat) : closeR st (run P (k + 2) 3 [natsD data, .int (p : Int), .int 1] st) = if h : p < data.length then .ok (.int (data[p] : Nat)) st else .exc 1 (.int (data.length : Int)) st := by
  rw [run_eq (P := P) (f := 3) rfl (k + 1) _ _ rfl]
  show closeR st (xss _ b3 [some (natsD data), some (.int (p : Int)), some (.int 1), none, none] st).fin = _
  have c := check_complete k st data (p + 1)
  have e1 : (p : Int) + 1 = ((p + 1 : Nat) : Int) := by omega
  by_cases h : p < data.length
  · rw [dif_pos h]
    rw [if_neg (by omega)] at c
    have hs : (data.drop p).take (p + 1 - p) = [data[p]] := by
      rw [show p + 1 - p = 1 from by omega, List.drop_eq_getElem_cons h]; rfl
    have sl := sl_nats st data p (p + 1)
    rw [hs] at sl
    simp only [b3, forB_nm, ev_op, ev_v, ev_c, ev_not, ev_and, ev_or, ev_ifx, ev_chain, ev_call, ev_scall, ev_seal, evs_cons, evs_nil, xs_asg, xs_expr, xs_ret, xs_ite, xs_brk, xs_cnt, xs_pass, xs_raise, xss_cons, xss_nil, List.getElem?_cons_zero, List.getElem?_cons_succ, bind_ok, bind_exc, toS_ok, toS_exc, seq_next, seq_ret, seq_exc, fin_ret, fin_next, fin_exc, truth_bl, setT_nm, List.set_cons_succ, List.set_cons_zero, o_addI, o_subI, o_ltI, o_leI, o_gtI, o_geI, o_eqI, o_neI, o_eqS, o_neS, o_eqB, o_neB, o_isB, o_isnotB, o_toInt, o_asInt, o_neg, o_asStr, o_iadd, o_isub, o_isNon, o_isNonI, o_isNonS, o_isnotNon, o_isnotNonI, o_isnotNonS, Bool.not_true, Bool.not_false, close_int, close_bl, close_str, close_non, e1, c, xs_for, sl, src_nats, List.map_cons, List.map_nil, evFor, if_true, mul256]
    rw [show ((256 : Int) * 0 + (data[p] : Nat)) = (data[p] : Nat) from by omega]
  · rw [dif_neg h]
    rw [if_pos (by omega)] at c
    simp only [b3, forB_nm, ev_op, ev_v, ev_c, ev_not, ev_and, ev_or, ev_ifx, ev_chain, ev_call, ev_scall, ev_seal, evs_cons, evs_nil, xs_asg, xs_expr, xs_ret, xs_ite, xs_brk, xs_cnt, xs_pass, xs_raise, xss_cons, xss_nil, List.getElem?_cons_zero, List.getElem?_cons_succ, bind_ok, bind_exc, toS_ok, toS_exc, seq_next, seq_ret, seq_exc, fin_ret, fin_next, fin_exc, truth_bl, setT_nm, List.set_cons_succ, List.set_cons_zero, o_addI, o_subI, o_ltI, o_leI, o_gtI, o_geI, o_eqI, o_neI, o_eqS, o_neS, o_eqB, o_neB, o_isB, o_isnotB, o_toInt, o_asInt, o_neg, o_asStr, o_iadd, o_isub, o_isNon, o_isNonI, o_isNonS, o_isnotNon, o_isnotNonI, o_isnotNonS, Bool.not_true, Bool.not_false, close_int, close_bl, close_str, close_non, e1, c, close_exc_int]
theorem number2 (data : List Nat) (p : Nat) : closeR st (run P (k + 2) 3 [natsD data, .int (p : Int), .int 2] st) = if h : p + 1 < data.length then .ok (.int (256 * data[p] + data[p + 1] : Nat)) st else .exc 1 (.int (data.length : Int)) st := by
  rw [run_eq (P := P) (f := 3) rfl (k + 1) _ _ rfl]
  show closeR st (xss _ b3 [some (natsD data), some (.int (p : Int)), some (.int 2), none, none] st).fin = _
  have c := check_complete k st data (p + 2)
  have e1 : (p : Int) + 2 = ((p + 2 : Nat) : Int) := by omega
  by_cases h : p + 1 < data.length
  · rw [dif_pos h]
    rw [if_neg (by omega)] at c
    have hs : (data.drop p).take (p + 2 - p) = [data[p], data[p + 1]] := by
      rw [show p + 2 - p = 2 from by omega, List.drop_eq_getElem_cons (by omega), List.drop_eq_getElem_cons h]; rfl
    have sl := sl_nats st data p (p + 2)
    rw [hs] at sl
    simp only [b3, forB_nm, ev_op, ev_v, ev_c, ev_not, ev_and, ev_or, ev_ifx, ev_chain, ev_call, ev_scall, ev_seal, evs_cons, evs_nil, xs_asg, xs_expr, xs_ret, xs_ite, xs_brk, xs_cnt, xs_pass, xs_raise, xss_cons, xss_nil, List.getElem?_cons_zero, List.getElem?_cons_succ, bind_ok, bind_exc, toS_ok, toS_exc, seq_next, seq_ret, seq_exc, fin_ret, fin_next, fin_exc, truth_bl, setT_nm, List.set_cons_succ, List.set_cons_zero, o_addI, o_subI, o_ltI, o_leI, o_gtI, o_geI, o_eqI, o_neI, o_eqS, o_neS, o_eqB, o_neB, o_isB, o_isnotB, o_toInt, o_asInt, o_neg, o_asStr, o_iadd, o_isub, o_isNon, o_isNonI, o_isNonS, o_isnotNon, o_isnotNonI, o_isnotNonS, Bool.not_true, Bool.not_false, close_int, close_bl, close_str, close_non, e1, c, xs_for, sl, src_nats, List.map_cons, List.map_nil, evFor, if_true, mul256]
    rw [show ((256 : Int) * (256 * 0 + (data[p] : Nat)) + (data[p + 1] : Nat)) = (256 * data[p] + data[p + 1] : Nat) from by omega]
  · rw [dif_neg h]
    rw [if_pos (by omega)] at c
    simp only [b3, forB_nm, ev_op, ev_v, ev_c, ev_not, ev_and, ev_or, ev_ifx, ev_chain, ev_call, ev_scall, ev_seal, evs_cons, evs_nil, xs_asg, xs_expr, xs_ret, xs_ite, xs_brk, xs_cnt, xs_pass, xs_raise, xss_cons, xss_nil, List.getElem?_cons_zero, List.getElem?_cons_succ, bind_ok, bind_exc, toS_ok, toS_exc, seq_next, seq_ret, seq_exc, fin_ret, fin_next, fin_exc, truth_bl, setT_nm, List.set_cons_succ, List.set_cons_zero, o_addI, o_subI, o_ltI, o_leI, o_gtI, o_geI, o_eqI, o_neI, o_eqS, o_neS, o_eqB, o_neB, o_isB, o_isnotB, o_toInt, o_asInt, o_neg, o_asStr, o_iadd, o_isub, o_isNon, o_isNonI, o_isNonS, o_isnotNon, o_isnotNonI, o_isnotNonS, Bool.not_true, Bool.not_false, close_int, close_bl, close_str, close_non, e1, c, close_exc_int]
theorem target_at (data : List Nat) (p r : Nat) : closeR st (run P (k + 3) 4 [natsD data, .int (p : Int), .int (r : Int)] st) =
    if h : p + 1 < data.length then (if (r : Int) ≤ (256 * data[p] + data[p + 1] : Nat) - 49152 then .exc 4 (.int (p : Int)) st else .ok (.int ((256 * data[p] + data[p + 1] : Nat) - 49152)) st) else .exc 1 (.int (data.length : Int)) st := by
  rw [run_eq (P := P) (f := 4) rfl (k + 2) _ _ rfl]
  show closeR st (xss _ b4 [some (natsD data), some (.int (p : Int)), some (.int (r : Int)), none] st).fin = _
  have c := number2 k st data p
  by_cases h : p + 1 < data.length
  · rw [dif_pos h] at c ⊢
    by_cases h2 : (r : Int) ≤ (256 * data[p] + data[p + 1] : Nat) - 49152
    · rw [if_pos h2]
      simp only [b4, forB_nm, ev_op, ev_v, ev_c, ev_not, ev_and, ev_or, ev_ifx, ev_chain, ev_call, ev_scall, ev_seal, evs_cons, evs_nil, xs_asg, xs_expr, xs_ret, xs_ite, xs_brk, xs_cnt, xs_pass, xs_raise, xss_cons, xss_nil, List.getElem?_cons_zero, List.getElem?_cons_succ, bind_ok, bind_exc, toS_ok, toS_exc, seq_next, seq_ret, seq_exc, fin_ret, fin_next, fin_exc, truth_bl, setT_nm, List.set_cons_succ, List.set_cons_zero, o_addI, o_subI, o_ltI, o_leI, o_gtI, o_geI, o_eqI, o_neI, o_eqS, o_neS, o_eqB, o_neB, o_isB, o_isnotB, o_toInt, o_asInt, o_neg, o_asStr, o_iadd, o_isub, o_isNon, o_isNonI, o_isNonS, o_isnotNon, o_isnotNonI, o_isnotNonS, Bool.not_true, Bool.not_false, close_int, close_bl, close_str, close_non, c, decide_eq_true h2, close_exc_int]
    · rw [if_neg h2]
      simp only [b4, forB_nm, ev_op, ev_v, ev_c, ev_not, ev_and, ev_or, ev_ifx, ev_chain, ev_call, ev_scall, ev_seal, evs_cons, evs_nil, xs_asg, xs_expr, xs_ret, xs_ite, xs_brk, xs_cnt, xs_pass, xs_raise, xss_cons, xss_nil, List.getElem?_cons_zero, List.getElem?_cons_succ, bind_ok, bind_exc, toS_ok, toS_exc, seq_next, seq_ret, seq_exc, fin_ret, fin_next, fin_exc, truth_bl, setT_nm, List.set_cons_succ, List.set_cons_zero, o_addI, o_subI, o_ltI, o_leI, o_gtI, o_geI, o_eqI, o_neI, o_eqS, o_neS, o_eqB, o_neB, o_isB, o_isnotB, o_toInt, o_asInt, o_neg, o_asStr, o_iadd, o_isub, o_isNon, o_isNonI, o_isNonS, o_isnotNon, o_isnotNonI, o_isnotNonS, Bool.not_true, Bool.not_false, close_int, close_bl, close_str, close_non, c, decide_eq_false h2]
  · rw [dif_neg h] at c ⊢
    simp only [b4, forB_nm, ev_op, ev_v, ev_c, ev_not, ev_and, ev_or, ev_ifx, ev_chain, ev_call, ev_scall, ev_seal, evs_cons, evs_nil, xs_asg, xs_expr, xs_ret, xs_ite, xs_brk, xs_cnt, xs_pass, xs_raise, xss_cons, xss_nil, List.getElem?_cons_zero, List.getElem?_cons_succ, bind_ok, bind_exc, toS_ok, toS_exc, seq_next, seq_ret, seq_exc, fin_ret, fin_next, fin_exc, truth_bl, setT_nm, List.set_cons_succ, List.set_cons_zero, o_addI, o_subI, o_ltI, o_leI, o_gtI, o_geI, o_eqI, o_neI, o_eqS, o_neS, o_eqB, o_neB, o_isB, o_isnotB, o_toInt, o_asInt, o_neg, o_asStr, o_iadd, o_isub, o_isNon, o_isNonI, o_isNonS, o_isnotNon, o_isnotNonI, o_isnotNonS, Bool.not_true, Bool.not_false, close_int, close_bl, close_str, close_non, c, close_exc_int]
theorem ch_at : ∀ c : Nat, c < 127 → 32 ≤ c → c ≠ 37 → s1[c - 32]? = some c := by decide +kernel
theorem character_of (c : Nat) : closeR st (run P (k + 1) 7 [.int (c : Int)] st) = .ok (optS (if isTxt c then some c else none)) st := by
  rw [run_eq (P := P) (f := 7) rfl k _ _ rfl]
  show closeR st (xss _ b7 [some (.int (c : Int))] st).fin = _
  unfold isTxt
  by_cases h1 : 32 ≤ c
  · by_cases h2 : c ≤ 126
    · by_cases h3 : c ≠ 37
      · have i1 : decide ((32 : Int) ≤ (c : Int)) = true := decide_eq_true (by omega)
        have i2 : decide ((c : Int) ≤ 126) = true := decide_eq_true (by omega)
        have i3 : ((c : Int) == 37) = false := by simp; omega
        have i4 : (c : Int) - 32 = ((c - 32 : Nat) : Int) := by omega
        have i5 : ixSem (.str s1) ((c - 32 : Nat) : Int) st = .ok (.str [c]) st := by
          show (if s1.length ≤ SZ then (match atI s1 ((c - 32 : Nat) : Int) with | some c => R.ok (D.str [c]) st | none => .bad) else .bad) = _
          have hl : c - 32 < s1.length := by show c - 32 < 95; omega
          rw [if_pos (by decide), atI_lt hl]
          have := ch_at c (by omega) h1 h3
          rw [List.getElem?_eq_getElem hl] at this
          injection this with this
          rw [this]
        simp only [b7, forB_nm, ev_op, ev_v, ev_c, ev_not, ev_and, ev_or, ev_ifx, ev_chain, ev_call, ev_scall, ev_seal, evs_cons, evs_nil, xs_asg, xs_expr, xs_ret, xs_ite, xs_brk, xs_cnt, xs_pass, xs_raise, xss_cons, xss_nil, List.getElem?_cons_zero, List.getElem?_cons_succ, bind_ok, bind_exc, toS_ok, toS_exc, seq_next, seq_ret, seq_exc, fin_ret, fin_next, fin_exc, truth_bl, setT_nm, List.set_cons_succ, List.set_cons_zero, o_addI, o_subI, o_ltI, o_leI, o_gtI, o_geI, o_eqI, o_neI, o_eqS, o_neS, o_eqB, o_neB, o_isB, o_isnotB, o_toInt, o_asInt, o_neg, o_asStr, o_iadd, o_isub, o_isNon, o_isNonI, o_isNonS, o_isnotNon, o_isnotNonI, o_isnotNonS, Bool.not_true, Bool.not_false, close_int, close_bl, close_str, close_non, i1, i2, i3, i4, o_ix, i5, decide_eq_true h1, decide_eq_true h2, decide_eq_true h3, Bool.and_true, Bool.and_self, if_true, optS]
      · have i1 : decide ((32 : Int) ≤ (c : Int)) = true := decide_eq_true (by omega)
        have i2 : decide ((c : Int) ≤ 126) = true := decide_eq_true (by omega)
        have i3 : ((c : Int) == 37) = true := by simp; omega
        simp only [b7, forB_nm, ev_op, ev_v, ev_c, ev_not, ev_and, ev_or, ev_ifx, ev_chain, ev_call, ev_scall, ev_seal, evs_cons, evs_nil, xs_asg, xs_expr, xs_ret, xs_ite, xs_brk, xs_cnt, xs_pass, xs_raise, xss_cons, xss_nil, List.getElem?_cons_zero, List.getElem?_cons_succ, bind_ok, bind_exc, toS_ok, toS_exc, seq_next, seq_ret, seq_exc, fin_ret, fin_next, fin_exc, truth_bl, setT_nm, List.set_cons_succ, List.set_cons_zero, o_addI, o_subI, o_ltI, o_leI, o_gtI, o_geI, o_eqI, o_neI, o_eqS, o_neS, o_eqB, o_neB, o_isB, o_isnotB, o_toInt, o_asInt, o_neg, o_asStr, o_iadd, o_isub, o_isNon, o_isNonI, o_isNonS, o_isnotNon, o_isnotNonI, o_isnotNonS, Bool.not_true, Bool.not_false, close_int, close_bl, close_str, close_non, i1, i2, i3, decide_eq_false h3, Bool.and_false, if_false, Bool.false_eq_true, optS]
    · have i1 : decide ((32 : Int) ≤ (c : Int)) = true := decide_eq_true (by omega)
      have i2 : decide ((c : Int) ≤ 126) = false := decide_eq_false (by omega)
      simp only [b7, forB_nm, ev_op, ev_v, ev_c, ev_not, ev_and, ev_or, ev_ifx, ev_chain, ev_call, ev_scall, ev_seal, evs_cons, evs_nil, xs_asg, xs_expr, xs_ret, xs_ite, xs_brk, xs_cnt, xs_pass, xs_raise, xss_cons, xss_nil, List.getElem?_cons_zero, List.getElem?_cons_succ, bind_ok, bind_exc, toS_ok, toS_exc, seq_next, seq_ret, seq_exc, fin_ret, fin_next, fin_exc, truth_bl, setT_nm, List.set_cons_succ, List.set_cons_zero, o_addI, o_subI, o_ltI, o_leI, o_gtI, o_geI, o_eqI, o_neI, o_eqS, o_neS, o_eqB, o_neB, o_isB, o_isnotB, o_toInt, o_asInt, o_neg, o_asStr, o_iadd, o_isub, o_isNon, o_isNonI, o_isNonS, o_isnotNon, o_isnotNonI, o_isnotNonS, Bool.not_true, Bool.not_false, close_int, close_bl, close_str, close_non, i1, i2, decide_eq_false h2, Bool.and_false, Bool.false_and, if_false, Bool.false_eq_true, optS]
  · have i1 : decide ((32 : Int) ≤ (c : Int)) = false := decide_eq_false (by omega)
    simp only [b7, forB_nm, ev_op, ev_v, ev_c, ev_not, ev_and, ev_or, ev_ifx, ev_chain, ev_call, ev_scall, ev_seal, evs_cons, evs_nil, xs_asg, xs_expr, xs_ret, xs_ite, xs_brk, xs_cnt, xs_pass, xs_raise, xss_cons, xss_nil, List.getElem?_cons_zero, List.getElem?_cons_succ, bind_ok, bind_exc, toS_ok, toS_exc, seq_next, seq_ret, seq_exc, fin_ret, fin_next, fin_exc, truth_bl, setT_nm, List.set_cons_succ, List.set_cons_zero, o_addI, o_subI, o_ltI, o_leI, o_gtI, o_geI, o_eqI, o_neI, o_eqS, o_neS, o_eqB, o_neB, o_isB, o_isnotB, o_toInt, o_asInt, o_neg, o_asStr, o_iadd, o_isub, o_isNon, o_isNonI, o_isNonS, o_isnotNon, o_isnotNonI, o_isnotNonS, Bool.not_true, Bool.not_false, close_int, close_bl, close_str, close_non, i1, decide_eq_false h1, Bool.false_and, if_false, Bool.false_eq_true, optS]
theorem lower_one : ∀ c : Nat, c < 127 → ofStr (Txt.lower (toStr [c])) = [low c] := by decide +kernel
theorem lc_txt : ∀ c : Nat, c < 256 → isTxt c = false → lc c = none := by decide +kernel
theorem label_character (c : Nat) (hc : c < 256) : closeR st (run P (k + 2) 6 [.int (c : Int)] st) = .ok (optS (lc c)) st := by
  rw [run_eq (P := P) (f := 6) rfl (k + 1) _ _ rfl]
  show closeR st (xss _ b6 [some (.int (c : Int)), none] st).fin = _
  have e := character_of k st c
  cases h : isTxt c with
  | false =>
    rw [h, if_neg Bool.false_ne_true] at e
    have e : closeR st (run P (k + 1) 7 [.int (c : Int)] st) = .ok .non st := e
    rw [lc_txt c hc h]
    simp only [b6, forB_nm, ev_op, ev_v, ev_c, ev_not, ev_and, ev_or, ev_ifx, ev_chain, ev_call, ev_scall, ev_seal, evs_cons, evs_nil, xs_asg, xs_expr, xs_ret, xs_ite, xs_brk, xs_cnt, xs_pass, xs_raise, xss_cons, xss_nil, List.getElem?_cons_zero, List.getElem?_cons_succ, bind_ok, bind_exc, toS_ok, toS_exc, seq_next, seq_ret, seq_exc, fin_ret, fin_next, fin_exc, truth_bl, setT_nm, List.set_cons_succ, List.set_cons_zero, o_addI, o_subI, o_ltI, o_leI, o_gtI, o_geI, o_eqI, o_neI, o_eqS, o_neS, o_eqB, o_neB, o_isB, o_isnotB, o_toInt, o_asInt, o_neg, o_asStr, o_iadd, o_isub, o_isNon, o_isNonI, o_isNonS, o_isnotNon, o_isnotNonI, o_isnotNonS, Bool.not_true, Bool.not_false, close_int, close_bl, close_str, close_non, e, optS]
  | true =>
    rw [h, if_pos rfl] at e
    have e : closeR st (run P (k + 1) 7 [.int (c : Int)] st) = .ok (.str [c]) st := e
    have h1 : c < 127 := by
      unfold isTxt at h
      simp at h
      omega
    have lo : opSem (.x (.meth .lower)) [.str [c]] st = .ok (.str [low c]) st := by
      rw [o_lower st (z := [c]) (by show 1 ≤ 5592405; decide), lower_one c h1]
    have ni : opSem (.x .notin) [.str [low c], .str s0] st = .ok (.bl (!decide (low c ∈ s0))) st := rfl
    unfold lc
    by_cases h2 : low c ∈ s0
    · rw [if_pos h2]
      have h3 := decide_eq_true h2
      simp only [b6, forB_nm, ev_op, ev_v, ev_c, ev_not, ev_and, ev_or, ev_ifx, ev_chain, ev_call, ev_scall, ev_seal, evs_cons, evs_nil, xs_asg, xs_expr, xs_ret, xs_ite, xs_brk, xs_cnt, xs_pass, xs_raise, xss_cons, xss_nil, List.getElem?_cons_zero, List.getElem?_cons_succ, bind_ok, bind_exc, toS_ok, toS_exc, seq_next, seq_ret, seq_exc, fin_ret, fin_next, fin_exc, truth_bl, setT_nm, List.set_cons_succ, List.set_cons_zero, o_addI, o_subI, o_ltI, o_leI, o_gtI, o_geI, o_eqI, o_neI, o_eqS, o_neS, o_eqB, o_neB, o_isB, o_isnotB, o_toInt, o_asInt, o_neg, o_asStr, o_iadd, o_isub, o_isNon, o_isNonI, o_isNonS, o_isnotNon, o_isnotNonI, o_isnotNonS, Bool.not_true, Bool.not_false, close_int, close_bl, close_str, close_non, e, lo, ni, h3, optS]
    · rw [if_neg h2]
      have h3 := decide_eq_false h2
      simp only [b6, forB_nm, ev_op, ev_v, ev_c, ev_not, ev_and, ev_or, ev_ifx, ev_chain, ev_call, ev_scall, ev_seal, evs_cons, evs_nil, xs_asg, xs_expr, xs_ret, xs_ite, xs_brk, xs_cnt, xs_pass, xs_raise, xss_cons, xss_nil, List.getElem?_cons_zero, List.getElem?_cons_succ, bind_ok, bind_exc, toS_ok, toS_exc, seq_next, seq_ret, seq_exc, fin_ret, fin_next, fin_exc, truth_bl, setT_nm, List.set_cons_succ, List.set_cons_zero, o_addI, o_subI, o_ltI, o_leI, o_gtI, o_geI, o_eqI, o_neI, o_eqS, o_neS, o_eqB, o_neB, o_isB, o_isnotB, o_toInt, o_asInt, o_neg, o_asStr, o_iadd, o_isub, o_isNon, o_isNonI, o_isNonS, o_isnotNon, o_isnotNonI, o_isnotNonS, Bool.not_true, Bool.not_false, close_int, close_bl, close_str, close_non, e, lo, ni, h3, optS]
end
end K6

set_option autoImplicit false
set_option maxHeartbeats 1000000
namespace K6
open PySem L2 Z

/-! ## labels -/
/-- the place of the first code that is none of a label -/
def bad (codes : List Nat) : Option Nat := if codes = [42] then none else codes.findIdx? fun c => (lc c).isNone
/-- the label -/
def spell (codes : List Nat) : List Nat := codes.map low
section
variable (k : Nat) (st : Store)
def optsD (codes : List Nat) : D := .flst (codes.map fun c => optS (lc c))
theorem in_none (codes : List Nat) : opSem (.x .inn) [.non, optsD codes] st = .ok (.bl (codes.any fun c => (lc c).isNone)) st := by
  have p : pureD st (optsD codes) = some (optsD codes) := by
    show (derefDs _ (codes.map fun c => optS (lc c))).map D.flst = _
    have : ∀ ws : List Nat, derefDs (atD st 8) (ws.map fun c => optS (lc c)) = some (ws.map fun c => optS (lc c)) := fun ws => by
      induction ws with
      | nil => rfl
      | cons w ws ih =>
        rw [List.map_cons, derefDs, ih]
        cases lc w <;> rfl
    rw [this]; rfl
  have e : inSem .non (optsD codes) st = some (codes.any fun c => (lc c).isNone) := by
    have e1 : inSem .non (optsD codes) st = (match pureD st .non with
      | some x => match pureD st (optsD codes) with
        | some (.tup ys) => if deepD x ≤ 60 then some (ys.any fun y => eqD y x) else none
        | some (.flst ys) => if deepD x ≤ 60 then some (ys.any fun y => eqD y x) else none
        | _ => none
      | none => none) := rfl
    rw [e1, p]
    show (if deepD .non ≤ 60 then some ((codes.map fun c => optS (lc c)).any fun y => eqD y .non) else none) = _
    rw [if_pos (by decide), List.any_map]
    congr 2
    funext c
    show eqD (optS (lc c)) .non = _
    cases lc c <;> rfl
  show (match inSem .non (optsD codes) st with | some k => R.ok (D.bl k) st | none => .bad) = _
  rw [e]
theorem index_none (codes : List Nat) (j : Nat) (h : codes.findIdx? (fun c => (lc c).isNone) = some j) : opSem (.x (.meth .index)) [optsD codes, .non] st = .ok (.int (j : Int)) st := by
  show (if (flatD .non && (codes.map fun c => optS (lc c)).all flatD) = true then (match (codes.map fun c => optS (lc c)).findIdx? fun y => eqD y .non with
    | some j => R.ok (D.int (j : Int)) st
    | none => .bad) else .bad) = _
  have h1 : (codes.map fun c => optS (lc c)).all flatD = true := by
    rw [List.all_map, List.all_eq_true]
    intro c _
    show flatD (optS (lc c)) = true
    cases lc c <;> rfl
  have h2 : (codes.map fun c => optS (lc c)).findIdx? (fun y => eqD y .non) = some j := by
    rw [List.findIdx?_map]
    rw [← h]
    congr 1
    funext c
    show eqD (optS (lc c)) .non = _
    cases lc c <;> rfl
  rw [h1, h2]; rfl
theorem join_opts (codes : List Nat) (hl : codes.length ≤ 1000) (h : ∀ c ∈ codes, (lc c).isSome = true) : opSem (.x (.meth .join)) [.str [], optsD codes] st = .ok (.str (spell codes)) st := by
  have e : (codes.map fun c => optS (lc c)) = (codes.map fun c => [low c]).map D.str := by
    rw [List.map_map]
    refine List.map_congr_left fun c hc => ?_
    have := h c hc
    unfold lc at this ⊢
    by_cases hh : low c ∈ s0
    · rw [if_pos hh]; rfl
    · rw [if_neg hh] at this; cases this
  have hd : itemsD st (optsD codes) = some ((codes.map fun c => [low c]).map .str) := by show some (codes.map fun c => optS (lc c)) = _; rw [e]
  have hs : ∀ cs : List Nat, ((cs.map fun c => [low c]).map List.length).sum = cs.length := fun cs => by
    induction cs with
    | nil => rfl
    | cons c cs ih => rw [List.map_cons, List.map_cons, List.sum_cons, ih]; simp; omega
  rw [o_join st hd (by rw [hs]; show _ + _ * 0 ≤ SZ; have : SZ = 16777216 := rfl; omega)]
  have hj : ∀ cs : List Nat, TL.joinL [] (cs.map fun c => [low c]) = cs.map low := fun cs => by
    induction cs with
    | nil => rfl
    | cons c cs ih =>
      cases cs with
      | nil => rfl
      | cons d ds =>
        rw [List.map_cons, List.map_cons] at ih
        rw [List.map_cons, List.map_cons, List.map_cons, List.map_cons, TL.joinL, ih]
        rfl
  rw [hj]; rfl
theorem bad_none {codes : List Nat} (h : bad codes = none) (hn : codes ≠ [42]) : ∀ c ∈ codes, (lc c).isSome = true := by
  unfold bad at h
  rw [if_neg hn] at h
  intro c hc
  have := List.findIdx?_eq_none_iff.mp h c hc
  cases q : lc c with
  | none => rw [q] at this; cases this
  | some => rfl
/-- the label at a place -/
def labelR (data : List Nat) (p : Nat) (h : p < data.length) : R D :=
  if 63 < data[p] then .exc 2 (.int (p : Int)) st
  else if data.length < p + 1 + data[p] then .exc 1 (.int (data.length : Int)) st
  else match bad ((data.drop (p + 1)).take data[p]) with
    | some j => .exc 5 (.int ((p + 1 + j : Nat) : Int)) st
    | none => .ok (.str (spell ((data.drop (p + 1)).take data[p]))) st
theorem label_at (data : List Nat) (hb : ∀ c ∈ data, c < 256) (p : Nat) (h : p < data.length) : closeR st (run P (k + 3) 5 [natsD data, .int (p : Int)] st) = labelR st data p h := by
  rw [run_eq (P := P) (f := 5) rfl (k + 2) _ _ rfl]
  show closeR st (xss _ b5 [some (natsD data), some (.int (p : Int)), none, none, none, none, none] st).fin = _
  unfold labelR
  generalize hn : data[p] = n
  have ix : opSem .ix [natsD data, .int (p : Int)] st = .ok (.int (n : Nat)) st := by rw [ix_nats st data p h, hn]
  by_cases h1 : 63 < n
  · have i1 : decide ((63 : Int) < (n : Int)) = true := decide_eq_true (by omega)
    rw [if_pos h1]
    simp only [b5, forB_nm, ev_op, ev_v, ev_c, ev_not, ev_and, ev_or, ev_ifx, ev_chain, ev_call, ev_scall, ev_seal, evs_cons, evs_nil, xs_asg, xs_expr, xs_ret, xs_ite, xs_brk, xs_cnt, xs_pass, xs_raise, xss_cons, xss_nil, List.getElem?_cons_zero, List.getElem?_cons_succ, bind_ok, bind_exc, toS_ok, toS_exc, seq_next, seq_ret, seq_exc, fin_ret, fin_next, fin_exc, truth_bl, setT_nm, List.set_cons_succ, List.set_cons_zero, o_addI, o_subI, o_ltI, o_leI, o_gtI, o_geI, o_eqI, o_neI, o_eqS, o_neS, o_eqB, o_neB, o_isB, o_isnotB, o_toInt, o_asInt, o_neg, o_asStr, o_iadd, o_isub, o_isNon, o_isNonI, o_isNonS, o_isnotNon, o_isnotNonI, o_isnotNonS, Bool.not_true, Bool.not_false, close_int, close_bl, close_str, close_non, ix, i1, close_exc_int]
  have i1 : decide ((63 : Int) < (n : Int)) = false := decide_eq_false (by omega)
  rw [if_neg h1]
  have e1 : (p : Int) + 1 = ((p + 1 : Nat) : Int) := by omega
  have e2 : ((p + 1 : Nat) : Int) + (n : Int) = ((p + 1 + n : Nat) : Int) := by omega
  have c := check_complete (k + 1) st data (p + 1 + n)
  by_cases h2 : data.length < p + 1 + n
  · rw [if_pos h2] at c ⊢
    simp only [b5, forB_nm, ev_op, ev_v, ev_c, ev_not, ev_and, ev_or, ev_ifx, ev_chain, ev_call, ev_scall, ev_seal, evs_cons, evs_nil, xs_asg, xs_expr, xs_ret, xs_ite, xs_brk, xs_cnt, xs_pass, xs_raise, xss_cons, xss_nil, List.getElem?_cons_zero, List.getElem?_cons_succ, bind_ok, bind_exc, toS_ok, toS_exc, seq_next, seq_ret, seq_exc, fin_ret, fin_next, fin_exc, truth_bl, setT_nm, List.set_cons_succ, List.set_cons_zero, o_addI, o_subI, o_ltI, o_leI, o_gtI, o_geI, o_eqI, o_neI, o_eqS, o_neS, o_eqB, o_neB, o_isB, o_isnotB, o_toInt, o_asInt, o_neg, o_asStr, o_iadd, o_isub, o_isNon, o_isNonI, o_isNonS, o_isnotNon, o_isnotNonI, o_isnotNonS, Bool.not_true, Bool.not_false, close_int, close_bl, close_str, close_non, ix, i1, e1, e2, c, close_exc_int]
  rw [if_neg h2] at c ⊢
  have sl := sl_nats st data (p + 1) (p + 1 + n)
  rw [show p + 1 + n - (p + 1) = n from by omega] at sl
  generalize hcs : (data.drop (p + 1)).take n = codes at sl
  have hcl : codes.length ≤ 1000 := by rw [← hcs, List.length_take]; omega
  have hcb : ∀ c ∈ codes, c < 256 := fun c hc => hb c (by rw [← hcs] at hc; exact List.mem_of_mem_drop (List.mem_of_mem_take hc))
  have fl : opSem (.x .flit) [.int (42 : Nat)] st = .ok (natsD [42]) st := rfl
  have fl : opSem (.x .flit) [.int 42] st = .ok (natsD [42]) st := rfl
  have od : opSem (.x .ord_) [.str [42]] st = .ok (.int 42) st := rfl
  have eq := eq_nats st codes [42]
  by_cases h3 : codes = [42]
  · have i3 : decide (codes = [42]) = true := decide_eq_true h3
    rw [i3] at eq
    simp only [b5, forB_nm, ev_op, ev_v, ev_c, ev_not, ev_and, ev_or, ev_ifx, ev_chain, ev_call, ev_scall, ev_seal, evs_cons, evs_nil, xs_asg, xs_expr, xs_ret, xs_ite, xs_brk, xs_cnt, xs_pass, xs_raise, xss_cons, xss_nil, List.getElem?_cons_zero, List.getElem?_cons_succ, bind_ok, bind_exc, toS_ok, toS_exc, seq_next, seq_ret, seq_exc, fin_ret, fin_next, fin_exc, truth_bl, setT_nm, List.set_cons_succ, List.set_cons_zero, o_addI, o_subI, o_ltI, o_leI, o_gtI, o_geI, o_eqI, o_neI, o_eqS, o_neS, o_eqB, o_neB, o_isB, o_isnotB, o_toInt, o_asInt, o_neg, o_asStr, o_iadd, o_isub, o_isNon, o_isNonI, o_isNonS, o_isnotNon, o_isnotNonI, o_isnotNonS, Bool.not_true, Bool.not_false, close_int, close_bl, close_str, close_non, ix, i1, e1, e2, c, sl, od, fl, eq]
    rw [h3, show bad [42] = none from rfl]
    rfl
  have i3 : decide (codes = [42]) = false := decide_eq_false h3
  rw [i3] at eq
  have cm : closeR st (ev (run P (k + 2)) (.comp [6] (.nm 6) .seq [.v 4] [] (.scall 6 [.v 6])) [some (natsD data), some (.int (p : Int)), some (.int (n : Nat)), some (.int ((p + 1 : Nat) : Int)), some (natsD codes), none, none] st) = .ok (optsD codes) st :=
    comp_map codes (fun (c : Nat) => D.int (c : Int)) (fun c => optS (lc c)) rfl (src_nats st codes) rfl (by show codes.length ≤ 16777216; omega) (fun _ _ => rfl) (fun c _ => by cases lc c <;> rfl) fun c hc s _ =>
      ⟨_, rfl, by
        have e := label_character k s c (hcb c hc)
        simp only [forB_nm, ev_op, ev_v, ev_c, ev_not, ev_and, ev_or, ev_ifx, ev_chain, ev_call, ev_scall, ev_seal, evs_cons, evs_nil, xs_asg, xs_expr, xs_ret, xs_ite, xs_brk, xs_cnt, xs_pass, xs_raise, xss_cons, xss_nil, List.getElem?_cons_zero, List.getElem?_cons_succ, bind_ok, bind_exc, toS_ok, toS_exc, seq_next, seq_ret, seq_exc, fin_ret, fin_next, fin_exc, truth_bl, setT_nm, List.set_cons_succ, List.set_cons_zero, o_addI, o_subI, o_ltI, o_leI, o_gtI, o_geI, o_eqI, o_neI, o_eqS, o_neS, o_eqB, o_neB, o_isB, o_isnotB, o_toInt, o_asInt, o_neg, o_asStr, o_iadd, o_isub, o_isNon, o_isNonI, o_isNonS, o_isnotNon, o_isnotNonI, o_isnotNonS, Bool.not_true, Bool.not_false, close_int, close_bl, close_str, close_non, wipeE, e]⟩
  have al : opSem (.x .asLst) [optsD codes] st = .ok (optsD codes) st := rfl
  cases hbad : bad codes with
  | some j =>
    have hj : codes.findIdx? (fun c => (lc c).isNone) = some j := by
      unfold bad at hbad; rw [if_neg h3] at hbad; exact hbad
    have an : codes.any (fun c => (lc c).isNone) = true := by
      obtain ⟨hjl, p1, _⟩ := List.findIdx?_eq_some_iff_getElem.mp hj
      exact List.any_eq_true.mpr ⟨codes[j], List.getElem_mem hjl, p1⟩
    have ni := in_none st codes
    rw [an] at ni
    have ixn := index_none st codes j hj
    have e3 : ((p + 1 : Nat) : Int) + (j : Int) = ((p + 1 + j : Nat) : Int) := by omega
    simp only [b5, forB_nm, ev_op, ev_v, ev_c, ev_not, ev_and, ev_or, ev_ifx, ev_chain, ev_call, ev_scall, ev_seal, evs_cons, evs_nil, xs_asg, xs_expr, xs_ret, xs_ite, xs_brk, xs_cnt, xs_pass, xs_raise, xss_cons, xss_nil, List.getElem?_cons_zero, List.getElem?_cons_succ, bind_ok, bind_exc, toS_ok, toS_exc, seq_next, seq_ret, seq_exc, fin_ret, fin_next, fin_exc, truth_bl, setT_nm, List.set_cons_succ, List.set_cons_zero, o_addI, o_subI, o_ltI, o_leI, o_gtI, o_geI, o_eqI, o_neI, o_eqS, o_neS, o_eqB, o_neB, o_isB, o_isnotB, o_toInt, o_asInt, o_neg, o_asStr, o_iadd, o_isub, o_isNon, o_isNonI, o_isNonS, o_isnotNon, o_isnotNonI, o_isnotNonS, Bool.not_true, Bool.not_false, close_int, close_bl, close_str, close_non, ix, i1, e1, e2, c, sl, od, fl, eq, cm, ni, al, ixn, e3, close_exc_int]
  | none =>
    have hs := bad_none hbad h3
    have an : codes.any (fun c => (lc c).isNone) = false := by
      rw [List.any_eq_false]
      intro c hc
      have := hs c hc
      cases q : lc c with
      | none => rw [q] at this; cases this
      | some => simp
    have ni := in_none st codes
    rw [an] at ni
    have jo := join_opts st codes hcl hs
    simp only [b5, forB_nm, ev_op, ev_v, ev_c, ev_not, ev_and, ev_or, ev_ifx, ev_chain, ev_call, ev_scall, ev_seal, evs_cons, evs_nil, xs_asg, xs_expr, xs_ret, xs_ite, xs_brk, xs_cnt, xs_pass, xs_raise, xss_cons, xss_nil, List.getElem?_cons_zero, List.getElem?_cons_succ, bind_ok, bind_exc, toS_ok, toS_exc, seq_next, seq_ret, seq_exc, fin_ret, fin_next, fin_exc, truth_bl, setT_nm, List.set_cons_succ, List.set_cons_zero, o_addI, o_subI, o_ltI, o_leI, o_gtI, o_geI, o_eqI, o_neI, o_eqS, o_neS, o_eqB, o_neB, o_isB, o_isnotB, o_toInt, o_asInt, o_neg, o_asStr, o_iadd, o_isub, o_isNon, o_isNonI, o_isNonS, o_isnotNon, o_isnotNonI, o_isnotNonS, Bool.not_true, Bool.not_false, close_int, close_bl, close_str, close_non, ix, i1, e1, e2, c, sl, od, fl, eq, cm, ni, jo]
end
end K6

set_option autoImplicit false
set_option maxHeartbeats 2000000
namespace K6
open PySem L2 Z

/-! ## reading a name, by turns -/
inductive Out where
  | ok (ls : List (List Nat)) (en : Option Nat) (at_ : Nat)
  | err (c : Nat) (p : Nat)
  | stuck
def size (n : List (List Nat)) : Nat := (n.map fun l => l.length + 1).sum + 1
def rd (data : List Nat) (place : Nat) : Nat → Nat → Nat → Option Nat → List (List Nat) → Out
  | 0, _, _, _, _ => .stuck
  | n + 1, at_, ru, en, ls =>
    if h : at_ < data.length then
      if data[at_] = 0 then .ok ls en at_
      else if 192 ≤ data[at_] then
        if h2 : at_ + 1 < data.length then
          if ru ≤ (data[at_] - 192) * 256 + data[at_ + 1] then .err 4 at_
          else rd data place n ((data[at_] - 192) * 256 + data[at_ + 1]) ((data[at_] - 192) * 256 + data[at_ + 1]) (some (en.getD (at_ + 2))) ls
        else .err 1 data.length
      else if 63 < data[at_] then .err 2 at_
      else if data.length < at_ + 1 + data[at_] then .err 1 data.length
      else match bad ((data.drop (at_ + 1)).take data[at_]) with
        | some j => .err 5 (at_ + 1 + j)
        | none => if 255 < size (ls ++ [spell ((data.drop (at_ + 1)).take data[at_])]) then .err 5 place
          else rd data place n (at_ + 1 + data[at_]) ru en (ls ++ [spell ((data.drop (at_ + 1)).take data[at_])])
    else .err 1 data.length
theorem size_app (n : List (List Nat)) (l : List Nat) : size (n ++ [l]) = size n + l.length + 1 := by
  unfold size
  rw [List.map_append, List.sum_append]
  simp
  omega
theorem size_len (n : List (List Nat)) : n.length < size n := by
  unfold size
  induction n with
  | nil => simp
  | cons l n ih => rw [List.map_cons, List.sum_cons, List.length_cons]; omega
section
variable (k : Nat) (st : Store)
theorem name_size (ls : List (List Nat)) (hz : size ls ≤ 1000) : closeR (st ++ [.lst (ls.map .str)]) (run P (k + 1) 0 [.loc st.length] (st ++ [.lst (ls.map .str)])) = .ok (.int (size ls : Nat)) (st ++ [.lst (ls.map .str)]) := by
  rw [run_eq (P := P) (f := 0) rfl k _ _ rfl]
  generalize hs : st ++ [DO.lst (ls.map D.str)] = s
  have hl : s[st.length]? = some (.lst (ls.map .str)) := by rw [← hs]; exact new_at _ _
  show closeR s (xss _ b0 [some (.loc st.length), none] s).fin = _
  have hlen := size_len ls
  have hlb : ∀ l ∈ ls, l.length ≤ 1000 := fun l hl => by
    have : ∀ ms : List (List Nat), l ∈ ms → l.length + 1 ≤ (ms.map fun l => l.length + 1).sum := fun ms => by
      induction ms with
      | nil => intro h; cases h
      | cons m ms ih =>
        intro h
        rw [List.map_cons, List.sum_cons]
        rcases List.mem_cons.mp h with rfl | h
        · omega
        · have := ih h; omega
    have := this ls hl
    unfold size at hz
    omega
  have cm : closeR s (ev (run P k) (.comp [1] (.nm 1) .seq [.v 0] [] (.op .add [.op .len [.v 1], .c (.int 1)])) [some (.loc st.length), none] s) = .ok (.flst (ls.map fun l => D.int ((l.length : Int) + 1))) s :=
    comp_map ls D.str (fun l => D.int ((l.length : Int) + 1)) rfl (src_loc s hl) rfl (by show ls.length ≤ 16777216; omega) (fun s' g => lstIs_refl (by rw [g.2 _ (get_lt hl)]; exact hl)) (fun _ _ => rfl) fun l hlm s' _ =>
      ⟨_, rfl, by
        have e := o_len_str s' (z := l) (by show l.length ≤ 16777216; have := hlb l hlm; omega)
        simp only [forB_nm, ev_op, ev_v, ev_c, ev_not, ev_and, ev_or, ev_ifx, ev_chain, ev_call, ev_scall, ev_seal, evs_cons, evs_nil, xs_asg, xs_expr, xs_ret, xs_ite, xs_brk, xs_cnt, xs_pass, xs_raise, xss_cons, xss_nil, List.getElem?_cons_zero, List.getElem?_cons_succ, bind_ok, bind_exc, toS_ok, toS_exc, seq_next, seq_ret, seq_exc, fin_ret, fin_next, fin_exc, truth_bl, setT_nm, List.set_cons_succ, List.set_cons_zero, o_addI, o_subI, o_ltI, o_leI, o_gtI, o_geI, o_eqI, o_neI, o_eqS, o_neS, o_eqB, o_neB, o_isB, o_isnotB, o_toInt, o_asInt, o_neg, o_asStr, o_iadd, o_isub, o_isNon, o_isNonI, o_isNonS, o_isnotNon, o_isnotNonI, o_isnotNonS, Bool.not_true, Bool.not_false, close_int, close_bl, close_str, close_non, wipeE, e]⟩
  have sm : opSem (.x .sum_) [.flst (ls.map fun l => D.int ((l.length : Int) + 1))] s = .ok (.int (ls.map fun l => (l.length : Int) + 1).sum) s := by
    show (match allInt (ls.map fun l => D.int ((l.length : Int) + 1)) with | some xs => R.ok (D.int xs.sum) s | none => .bad) = _
    rw [allInt_map]
  have es : (ls.map fun l => (l.length : Int) + 1).sum + 1 = (size ls : Nat) := by
    unfold size
    clear hz hlen hlb cm sm hl hs
    induction ls with
    | nil => rfl
    | cons l ls ih => rw [List.map_cons, List.map_cons, List.sum_cons, List.sum_cons]; omega
  simp only [b0, forB_nm, ev_op, ev_v, ev_c, ev_not, ev_and, ev_or, ev_ifx, ev_chain, ev_call, ev_scall, ev_seal, evs_cons, evs_nil, xs_asg, xs_expr, xs_ret, xs_ite, xs_brk, xs_cnt, xs_pass, xs_raise, xss_cons, xss_nil, List.getElem?_cons_zero, List.getElem?_cons_succ, bind_ok, bind_exc, toS_ok, toS_exc, seq_next, seq_ret, seq_exc, fin_ret, fin_next, fin_exc, truth_bl, setT_nm, List.set_cons_succ, List.set_cons_zero, o_addI, o_subI, o_ltI, o_leI, o_gtI, o_geI, o_eqI, o_neI, o_eqS, o_neS, o_eqB, o_neB, o_isB, o_isnotB, o_toInt, o_asInt, o_neg, o_asStr, o_iadd, o_isub, o_isNon, o_isNonI, o_isNonS, o_isnotNon, o_isnotNonI, o_isnotNonS, Bool.not_true, Bool.not_false, close_int, close_bl, close_str, close_non, cm, sm, es]
def optI : Option Nat → D
  | none => .non
  | some e => .int (e : Int)
def bodyW : List Sx := [.ite (.op .ge [.v 6, .c (.int 192)]) [.ite (.op .is [.v 3, .c .non]) [.asg (.nm 3) (.op .add [.v 5,
    .c (.int 2)])] [], .asg (.nm 4) (.scall 4 [.v 0, .v 5, .v 4]), .asg (.nm 5) (.v 4)] [.expr (.op (.x (.meth .append)) [.op (.x .asLst) [.v 2],
    .scall 5 [.v 0, .v 5]]), .ite (.op .gt [.scall 0 [.v 2], .c (.int 255)]) [.raise_ 5 (.v 1)] [], .asg (.nm 5) (.op (.x .iadd) [.v 5,
    .op .add [.c (.int 1), .v 6]])], .asg (.nm 6) (.scall 3 [.v 0, .v 5, .c (.int 1)])]
def tstW : Ex := .op .gt [.v 6, .c (.int 0)]
def EnvP (data : List Nat) (place : Nat) (en : Option Nat) (ru at_ : Nat) (l : Nat) : Z.Env := [some (natsD data), some (.int (place : Int)), some (.loc st.length), some (optI en), some (.int (ru : Int)), some (.int (at_ : Int)), some (.int (l : Int))]
section
variable (data : List Nat) (place : Nat) (s : Store) (en : Option Nat) (ru at_ v : Nat)
noncomputable abbrev Fk := Z.run P (k + 3)
theorem turn_ptr_exc (h1 : 192 ≤ v) (c : Nat) (p : Int) (ta : closeR s (Fk k 4 [natsD data, .int (at_ : Int), .int (ru : Int)] s) = .exc c (.int p) s) :
    ∃ env', xss (Fk k) bodyW (EnvP st data place en ru at_ v) s = .exc c (.int p) env' s := by
  have i1 : decide ((192 : Int) ≤ (v : Int)) = true := decide_eq_true (by omega)
  cases en with
  | none => exact ⟨_, by simp only [bodyW, EnvP, optI, forB_nm, ev_op, ev_v, ev_c, ev_not, ev_and, ev_or, ev_ifx, ev_chain, ev_call, ev_scall, ev_seal, evs_cons, evs_nil, xs_asg, xs_expr, xs_ret, xs_ite, xs_brk, xs_cnt, xs_pass, xs_raise, xss_cons, xss_nil, List.getElem?_cons_zero, List.getElem?_cons_succ, bind_ok, bind_exc, toS_ok, toS_exc, seq_next, seq_ret, seq_exc, fin_ret, fin_next, fin_exc, truth_bl, setT_nm, List.set_cons_succ, List.set_cons_zero, o_addI, o_subI, o_ltI, o_leI, o_gtI, o_geI, o_eqI, o_neI, o_eqS, o_neS, o_eqB, o_neB, o_isB, o_isnotB, o_toInt, o_asInt, o_neg, o_asStr, o_iadd, o_isub, o_isNon, o_isNonI, o_isNonS, o_isnotNon, o_isnotNonI, o_isnotNonS, Bool.not_true, Bool.not_false, close_int, close_bl, close_str, close_non, i1, ta]; rfl⟩
  | some e => exact ⟨_, by simp only [bodyW, EnvP, optI, forB_nm, ev_op, ev_v, ev_c, ev_not, ev_and, ev_or, ev_ifx, ev_chain, ev_call, ev_scall, ev_seal, evs_cons, evs_nil, xs_asg, xs_expr, xs_ret, xs_ite, xs_brk, xs_cnt, xs_pass, xs_raise, xss_cons, xss_nil, List.getElem?_cons_zero, List.getElem?_cons_succ, bind_ok, bind_exc, toS_ok, toS_exc, seq_next, seq_ret, seq_exc, fin_ret, fin_next, fin_exc, truth_bl, setT_nm, List.set_cons_succ, List.set_cons_zero, o_addI, o_subI, o_ltI, o_leI, o_gtI, o_geI, o_eqI, o_neI, o_eqS, o_neS, o_eqB, o_neB, o_isB, o_isnotB, o_toInt, o_asInt, o_neg, o_asStr, o_iadd, o_isub, o_isNon, o_isNonI, o_isNonS, o_isnotNon, o_isnotNonI, o_isnotNonS, Bool.not_true, Bool.not_false, close_int, close_bl, close_str, close_non, i1, ta]; rfl⟩
theorem turn_ptr (h1 : 192 ≤ v) (t : Nat) (ta : closeR s (Fk k 4 [natsD data, .int (at_ : Int), .int (ru : Int)] s) = .ok (.int (t : Int)) s) :
    xss (Fk k) bodyW (EnvP st data place en ru at_ v) s = if h : t < data.length then .next (EnvP st data place (some (en.getD (at_ + 2))) t t data[t]) s else .exc 1 (.int (data.length : Int)) (EnvP st data place (some (en.getD (at_ + 2))) t t v) s := by
  have i1 : decide ((192 : Int) ≤ (v : Int)) = true := decide_eq_true (by omega)
  have nx : closeR s (Fk k 3 [natsD data, .int (t : Int), .int 1] s) = _ := number1 (k + 1) s data t
  have e2 : (at_ : Int) + 2 = ((at_ + 2 : Nat) : Int) := by omega
  by_cases h : t < data.length
  · rw [dif_pos h] at nx ⊢
    cases en with
    | none => simp only [bodyW, EnvP, optI, forB_nm, ev_op, ev_v, ev_c, ev_not, ev_and, ev_or, ev_ifx, ev_chain, ev_call, ev_scall, ev_seal, evs_cons, evs_nil, xs_asg, xs_expr, xs_ret, xs_ite, xs_brk, xs_cnt, xs_pass, xs_raise, xss_cons, xss_nil, List.getElem?_cons_zero, List.getElem?_cons_succ, bind_ok, bind_exc, toS_ok, toS_exc, seq_next, seq_ret, seq_exc, fin_ret, fin_next, fin_exc, truth_bl, setT_nm, List.set_cons_succ, List.set_cons_zero, o_addI, o_subI, o_ltI, o_leI, o_gtI, o_geI, o_eqI, o_neI, o_eqS, o_neS, o_eqB, o_neB, o_isB, o_isnotB, o_toInt, o_asInt, o_neg, o_asStr, o_iadd, o_isub, o_isNon, o_isNonI, o_isNonS, o_isnotNon, o_isnotNonI, o_isnotNonS, Bool.not_true, Bool.not_false, close_int, close_bl, close_str, close_non, i1, ta, nx, Option.getD_none, e2]
    | some e => simp only [bodyW, EnvP, optI, forB_nm, ev_op, ev_v, ev_c, ev_not, ev_and, ev_or, ev_ifx, ev_chain, ev_call, ev_scall, ev_seal, evs_cons, evs_nil, xs_asg, xs_expr, xs_ret, xs_ite, xs_brk, xs_cnt, xs_pass, xs_raise, xss_cons, xss_nil, List.getElem?_cons_zero, List.getElem?_cons_succ, bind_ok, bind_exc, toS_ok, toS_exc, seq_next, seq_ret, seq_exc, fin_ret, fin_next, fin_exc, truth_bl, setT_nm, List.set_cons_succ, List.set_cons_zero, o_addI, o_subI, o_ltI, o_leI, o_gtI, o_geI, o_eqI, o_neI, o_eqS, o_neS, o_eqB, o_neB, o_isB, o_isnotB, o_toInt, o_asInt, o_neg, o_asStr, o_iadd, o_isub, o_isNon, o_isNonI, o_isNonS, o_isnotNon, o_isnotNonI, o_isnotNonS, Bool.not_true, Bool.not_false, close_int, close_bl, close_str, close_non, i1, ta, nx, Option.getD_some]
  · rw [dif_neg h] at nx ⊢
    cases en with
    | none => simp only [bodyW, EnvP, optI, forB_nm, ev_op, ev_v, ev_c, ev_not, ev_and, ev_or, ev_ifx, ev_chain, ev_call, ev_scall, ev_seal, evs_cons, evs_nil, xs_asg, xs_expr, xs_ret, xs_ite, xs_brk, xs_cnt, xs_pass, xs_raise, xss_cons, xss_nil, List.getElem?_cons_zero, List.getElem?_cons_succ, bind_ok, bind_exc, toS_ok, toS_exc, seq_next, seq_ret, seq_exc, fin_ret, fin_next, fin_exc, truth_bl, setT_nm, List.set_cons_succ, List.set_cons_zero, o_addI, o_subI, o_ltI, o_leI, o_gtI, o_geI, o_eqI, o_neI, o_eqS, o_neS, o_eqB, o_neB, o_isB, o_isnotB, o_toInt, o_asInt, o_neg, o_asStr, o_iadd, o_isub, o_isNon, o_isNonI, o_isNonS, o_isnotNon, o_isnotNonI, o_isnotNonS, Bool.not_true, Bool.not_false, close_int, close_bl, close_str, close_non, i1, ta, nx, Option.getD_none, e2]
    | some e => simp only [bodyW, EnvP, optI, forB_nm, ev_op, ev_v, ev_c, ev_not, ev_and, ev_or, ev_ifx, ev_chain, ev_call, ev_scall, ev_seal, evs_cons, evs_nil, xs_asg, xs_expr, xs_ret, xs_ite, xs_brk, xs_cnt, xs_pass, xs_raise, xss_cons, xss_nil, List.getElem?_cons_zero, List.getElem?_cons_succ, bind_ok, bind_exc, toS_ok, toS_exc, seq_next, seq_ret, seq_exc, fin_ret, fin_next, fin_exc, truth_bl, setT_nm, List.set_cons_succ, List.set_cons_zero, o_addI, o_subI, o_ltI, o_leI, o_gtI, o_geI, o_eqI, o_neI, o_eqS, o_neS, o_eqB, o_neB, o_isB, o_isnotB, o_toInt, o_asInt, o_neg, o_asStr, o_iadd, o_isub, o_isNon, o_isNonI, o_isNonS, o_isnotNon, o_isnotNonI, o_isnotNonS, Bool.not_true, Bool.not_false, close_int, close_bl, close_str, close_non, i1, ta, nx, Option.getD_some]
theorem turn_lab_exc (h1 : ¬ 192 ≤ v) (ls : List (List Nat)) (c : Nat) (p : Int) (hs : s[st.length]? = some (.lst (ls.map .str))) (ta : closeR s (Fk k 5 [natsD data, .int (at_ : Int)] s) = .exc c (.int p) s) :
    ∃ env', xss (Fk k) bodyW (EnvP st data place en ru at_ v) s = .exc c (.int p) env' s := by
  have i1 : decide ((192 : Int) ≤ (v : Int)) = false := decide_eq_false (by omega)
  have al : opSem (.x .asLst) [.loc st.length] s = .ok (.loc st.length) s := by
    show (match s[st.length]? with | some (DO.lst _) => R.ok (D.loc st.length) s | _ => .bad) = _
    rw [hs]
  exact ⟨_, by simp only [bodyW, EnvP, forB_nm, ev_op, ev_v, ev_c, ev_not, ev_and, ev_or, ev_ifx, ev_chain, ev_call, ev_scall, ev_seal, evs_cons, evs_nil, xs_asg, xs_expr, xs_ret, xs_ite, xs_brk, xs_cnt, xs_pass, xs_raise, xss_cons, xss_nil, List.getElem?_cons_zero, List.getElem?_cons_succ, bind_ok, bind_exc, toS_ok, toS_exc, seq_next, seq_ret, seq_exc, fin_ret, fin_next, fin_exc, truth_bl, setT_nm, List.set_cons_succ, List.set_cons_zero, o_addI, o_subI, o_ltI, o_leI, o_gtI, o_geI, o_eqI, o_neI, o_eqS, o_neS, o_eqB, o_neB, o_isB, o_isnotB, o_toInt, o_asInt, o_neg, o_asStr, o_iadd, o_isub, o_isNon, o_isNonI, o_isNonS, o_isnotNon, o_isnotNonI, o_isnotNonS, Bool.not_true, Bool.not_false, close_int, close_bl, close_str, close_non, i1, al, ta]; rfl⟩
theorem turn_lab (h1 : ¬ 192 ≤ v) (ls : List (List Nat)) (l : List Nat) (hz : size ls ≤ 255) (hl : l.length ≤ 63) (ta : closeR (st ++ [.lst (ls.map .str)]) (Fk k 5 [natsD data, .int (at_ : Int)] (st ++ [.lst (ls.map .str)])) = .ok (.str l) (st ++ [.lst (ls.map .str)])) :
    xss (Fk k) bodyW (EnvP st data place en ru at_ v) (st ++ [.lst (ls.map .str)]) =
      if 255 < size (ls ++ [l]) then .exc 5 (.int (place : Int)) (EnvP st data place en ru at_ v) (st ++ [.lst ((ls ++ [l]).map .str)])
      else if h : at_ + 1 + v < data.length then .next (EnvP st data place en ru (at_ + 1 + v) data[at_ + 1 + v]) (st ++ [.lst ((ls ++ [l]).map .str)])
      else .exc 1 (.int (data.length : Int)) (EnvP st data place en ru (at_ + 1 + v) v) (st ++ [.lst ((ls ++ [l]).map .str)]) := by
  have i1 : decide ((192 : Int) ≤ (v : Int)) = false := decide_eq_false (by omega)
  have al : opSem (.x .asLst) [.loc st.length] (st ++ [.lst (ls.map .str)]) = .ok (.loc st.length) (st ++ [.lst (ls.map .str)]) := by
    show (match (st ++ [DO.lst (ls.map .str)])[st.length]? with | some (DO.lst _) => R.ok (D.loc st.length) _ | _ => .bad) = _
    rw [new_at]
  have ap : opSem (.x (.meth .append)) [.loc st.length, .str l] (st ++ [.lst (ls.map .str)]) = .ok .non (st ++ [.lst ((ls ++ [l]).map .str)]) := by
    show (match (st ++ [DO.lst (ls.map .str)])[st.length]? with | some (DO.lst xs) => if xs.length < SZ then R.ok D.non ((st ++ [DO.lst (ls.map .str)]).set st.length (.lst (xs ++ [D.str l]))) else .bad | _ => .bad) = _
    rw [new_at]
    have := size_len ls
    simp only
    rw [if_pos (by rw [List.length_map]; show ls.length < 16777216; omega), new_set, List.map_append]
    rfl
  have hz2 : size (ls ++ [l]) ≤ 1000 := by rw [size_app]; omega
  have ns := name_size (k + 2) st (ls ++ [l]) hz2
  have ns : closeR (st ++ [.lst ((ls ++ [l]).map .str)]) (Fk k 0 [.loc st.length] (st ++ [.lst ((ls ++ [l]).map .str)])) = _ := ns
  by_cases h2 : 255 < size (ls ++ [l])
  · rw [if_pos h2]
    have i2 : decide ((255 : Int) < (size (ls ++ [l]) : Nat)) = true := decide_eq_true (by omega)
    simp only [bodyW, EnvP, forB_nm, ev_op, ev_v, ev_c, ev_not, ev_and, ev_or, ev_ifx, ev_chain, ev_call, ev_scall, ev_seal, evs_cons, evs_nil, xs_asg, xs_expr, xs_ret, xs_ite, xs_brk, xs_cnt, xs_pass, xs_raise, xss_cons, xss_nil, List.getElem?_cons_zero, List.getElem?_cons_succ, bind_ok, bind_exc, toS_ok, toS_exc, seq_next, seq_ret, seq_exc, fin_ret, fin_next, fin_exc, truth_bl, setT_nm, List.set_cons_succ, List.set_cons_zero, o_addI, o_subI, o_ltI, o_leI, o_gtI, o_geI, o_eqI, o_neI, o_eqS, o_neS, o_eqB, o_neB, o_isB, o_isnotB, o_toInt, o_asInt, o_neg, o_asStr, o_iadd, o_isub, o_isNon, o_isNonI, o_isNonS, o_isnotNon, o_isnotNonI, o_isnotNonS, Bool.not_true, Bool.not_false, close_int, close_bl, close_str, close_non, i1, al, ta, ap, ns, i2]
  rw [if_neg h2]
  have i2 : decide ((255 : Int) < (size (ls ++ [l]) : Nat)) = false := decide_eq_false (by omega)
  have e2 : (at_ : Int) + (1 + (v : Int)) = ((at_ + 1 + v : Nat) : Int) := by omega
  have nx : closeR (st ++ [.lst ((ls ++ [l]).map .str)]) (Fk k 3 [natsD data, .int ((at_ + 1 + v : Nat) : Int), .int 1] (st ++ [.lst ((ls ++ [l]).map .str)])) = _ := number1 (k + 1) _ data (at_ + 1 + v)
  by_cases h : at_ + 1 + v < data.length
  · rw [dif_pos h] at nx ⊢
    simp only [bodyW, EnvP, forB_nm, ev_op, ev_v, ev_c, ev_not, ev_and, ev_or, ev_ifx, ev_chain, ev_call, ev_scall, ev_seal, evs_cons, evs_nil, xs_asg, xs_expr, xs_ret, xs_ite, xs_brk, xs_cnt, xs_pass, xs_raise, xss_cons, xss_nil, List.getElem?_cons_zero, List.getElem?_cons_succ, bind_ok, bind_exc, toS_ok, toS_exc, seq_next, seq_ret, seq_exc, fin_ret, fin_next, fin_exc, truth_bl, setT_nm, List.set_cons_succ, List.set_cons_zero, o_addI, o_subI, o_ltI, o_leI, o_gtI, o_geI, o_eqI, o_neI, o_eqS, o_neS, o_eqB, o_neB, o_isB, o_isnotB, o_toInt, o_asInt, o_neg, o_asStr, o_iadd, o_isub, o_isNon, o_isNonI, o_isNonS, o_isnotNon, o_isnotNonI, o_isnotNonS, Bool.not_true, Bool.not_false, close_int, close_bl, close_str, close_non, i1, al, ta, ap, ns, i2, e2, nx]
  · rw [dif_neg h] at nx ⊢
    simp only [bodyW, EnvP, forB_nm, ev_op, ev_v, ev_c, ev_not, ev_and, ev_or, ev_ifx, ev_chain, ev_call, ev_scall, ev_seal, evs_cons, evs_nil, xs_asg, xs_expr, xs_ret, xs_ite, xs_brk, xs_cnt, xs_pass, xs_raise, xss_cons, xss_nil, List.getElem?_cons_zero, List.getElem?_cons_succ, bind_ok, bind_exc, toS_ok, toS_exc, seq_next, seq_ret, seq_exc, fin_ret, fin_next, fin_exc, truth_bl, setT_nm, List.set_cons_succ, List.set_cons_zero, o_addI, o_subI, o_ltI, o_leI, o_gtI, o_geI, o_eqI, o_neI, o_eqS, o_neS, o_eqB, o_neB, o_isB, o_isnotB, o_toInt, o_asInt, o_neg, o_asStr, o_iadd, o_isub, o_isNon, o_isNonI, o_isNonS, o_isnotNon, o_isnotNonI, o_isnotNonS, Bool.not_true, Bool.not_false, close_int, close_bl, close_str, close_non, i1, al, ta, ap, ns, i2, e2, nx]
end
theorem bad_lt {codes : List Nat} {j : Nat} (h : bad codes = some j) : j < codes.length := by
  unfold bad at h
  split at h
  · cases h
  · exact (List.findIdx?_eq_some_iff_getElem.mp h).1
theorem prog_loop (data : List Nat) (hb : ∀ c ∈ data, c < 256) (place : Nat) : ∀ (n at_ ru : Nat) (en : Option Nat) (ls : List (List Nat)) (m : Nat) (h : at_ < data.length), n ≤ m → size ls ≤ 255 →
    match rd data place n at_ ru en ls with
    | .stuck => True
    | .ok ls' e a => ∃ ru', evWhile (fun env st => ev (Fk k) tstW env st) (fun env st => xss (Fk k) bodyW env st) m (EnvP st data place en ru at_ data[at_]) (st ++ [.lst (ls.map .str)]) = .next (EnvP st data place e ru' a 0) (st ++ [.lst (ls'.map .str)])
    | .err c p => ∃ env' ds, evWhile (fun env st => ev (Fk k) tstW env st) (fun env st => xss (Fk k) bodyW env st) m (EnvP st data place en ru at_ data[at_]) (st ++ [.lst (ls.map .str)]) = .exc c (.int (p : Int)) env' (st ++ [.lst ds])
  | 0, _, _, _, _, _, _, _, _ => trivial
  | n + 1, at_, ru, en, ls, m, h, hm, hsz => by
    obtain ⟨m, rfl⟩ : ∃ m', m = m' + 1 := ⟨m - 1, by omega⟩
    rw [rd, dif_pos h]
    have hd : data[at_] < 256 := hb _ (List.getElem_mem h)
    have la := label_at k (st ++ [DO.lst (ls.map D.str)]) data hb at_ h
    unfold labelR at la
    have ta := target_at k (st ++ [DO.lst (ls.map D.str)]) data at_ ru
    generalize hv : data[at_] = v at hd la ⊢
    have stuck0 : ∀ a r e l, rd data place 0 a r e l = .stuck := fun _ _ _ _ => rfl
    by_cases h0 : v = 0
    · rw [if_pos h0]
      refine ⟨ru, ?_⟩
      rw [evWhile_stop (x := .bl false) (st1 := (st ++ [DO.lst (ls.map D.str)])) (by simp only [tstW, EnvP, forB_nm, ev_op, ev_v, ev_c, ev_not, ev_and, ev_or, ev_ifx, ev_chain, ev_call, ev_scall, ev_seal, evs_cons, evs_nil, xs_asg, xs_expr, xs_ret, xs_ite, xs_brk, xs_cnt, xs_pass, xs_raise, xss_cons, xss_nil, List.getElem?_cons_zero, List.getElem?_cons_succ, bind_ok, bind_exc, toS_ok, toS_exc, seq_next, seq_ret, seq_exc, fin_ret, fin_next, fin_exc, truth_bl, setT_nm, List.set_cons_succ, List.set_cons_zero, o_addI, o_subI, o_ltI, o_leI, o_gtI, o_geI, o_eqI, o_neI, o_eqS, o_neS, o_eqB, o_neB, o_isB, o_isnotB, o_toInt, o_asInt, o_neg, o_asStr, o_iadd, o_isub, o_isNon, o_isNonI, o_isNonS, o_isnotNon, o_isnotNonI, o_isnotNonS, Bool.not_true, Bool.not_false, close_int, close_bl, close_str, close_non, h0]; rfl) rfl, h0]
    rw [if_neg h0]
    have ht : ev (Fk k) tstW (EnvP st data place en ru at_ v) (st ++ [DO.lst (ls.map D.str)]) = .ok (.bl true) (st ++ [DO.lst (ls.map D.str)]) := by
      have i0 : decide ((0 : Int) < (v : Int)) = true := decide_eq_true (by omega)
      simp only [tstW, EnvP, forB_nm, ev_op, ev_v, ev_c, ev_not, ev_and, ev_or, ev_ifx, ev_chain, ev_call, ev_scall, ev_seal, evs_cons, evs_nil, xs_asg, xs_expr, xs_ret, xs_ite, xs_brk, xs_cnt, xs_pass, xs_raise, xss_cons, xss_nil, List.getElem?_cons_zero, List.getElem?_cons_succ, bind_ok, bind_exc, toS_ok, toS_exc, seq_next, seq_ret, seq_exc, fin_ret, fin_next, fin_exc, truth_bl, setT_nm, List.set_cons_succ, List.set_cons_zero, o_addI, o_subI, o_ltI, o_leI, o_gtI, o_geI, o_eqI, o_neI, o_eqS, o_neS, o_eqB, o_neB, o_isB, o_isnotB, o_toInt, o_asInt, o_neg, o_asStr, o_iadd, o_isub, o_isNon, o_isNonI, o_isNonS, o_isnotNon, o_isnotNonI, o_isnotNonS, Bool.not_true, Bool.not_false, close_int, close_bl, close_str, close_non, i0]
    by_cases h1 : 192 ≤ v
    · rw [if_pos h1]
      by_cases h2 : at_ + 1 < data.length
      · rw [dif_pos h2]
        rw [dif_pos h2, hv] at ta
        have et : ((256 * v + data[at_ + 1] : Nat) : Int) - 49152 = (((v - 192) * 256 + data[at_ + 1] : Nat) : Int) := by omega
        rw [et] at ta
        generalize htg : (v - 192) * 256 + data[at_ + 1] = t at ta ⊢
        by_cases h3 : ru ≤ t
        · rw [if_pos h3]
          rw [if_pos (by omega)] at ta
          obtain ⟨env', e⟩ := turn_ptr_exc k st data place _ en ru at_ v h1 _ _ ta
          exact ⟨_, _, evWhile_exc ht rfl e⟩
        · rw [if_neg h3]
          rw [if_neg (by omega)] at ta
          have e := turn_ptr k st data place _ en ru at_ v h1 t ta
          by_cases h4 : t < data.length
          · rw [dif_pos h4] at e
            rw [evWhile_go ht rfl e]
            exact prog_loop data hb place n t t _ ls m h4 (by omega) hsz
          · rw [dif_neg h4] at e
            cases n with
            | zero => rw [stuck0]; trivial
            | succ n =>
              rw [rd, dif_neg h4]
              exact ⟨_, _, evWhile_exc ht rfl e⟩
      · rw [dif_neg h2]
        rw [dif_neg h2] at ta
        obtain ⟨env', e⟩ := turn_ptr_exc k st data place _ en ru at_ v h1 _ _ ta
        exact ⟨_, _, evWhile_exc ht rfl e⟩
    · rw [if_neg h1]
      by_cases h2 : 63 < v
      · rw [if_pos h2] at la ⊢
        obtain ⟨env', e⟩ := turn_lab_exc k st data place _ en ru at_ v h1 ls _ _ (new_at _ _) la
        exact ⟨_, _, evWhile_exc ht rfl e⟩
      rw [if_neg h2] at la ⊢
      by_cases h3 : data.length < at_ + 1 + v
      · rw [if_pos h3] at la ⊢
        obtain ⟨env', e⟩ := turn_lab_exc k st data place _ en ru at_ v h1 ls _ _ (new_at _ _) la
        exact ⟨_, _, evWhile_exc ht rfl e⟩
      rw [if_neg h3] at la ⊢
      generalize hcs : (data.drop (at_ + 1)).take v = codes at la ⊢
      cases hbad : bad codes with
      | some j =>
        rw [hbad] at la
        obtain ⟨env', e⟩ := turn_lab_exc k st data place _ en ru at_ v h1 ls _ _ (new_at _ _) la
        exact ⟨_, _, evWhile_exc ht rfl e⟩
      | none =>
        rw [hbad] at la
        have hl : (spell codes).length ≤ 63 := by unfold spell; rw [List.length_map, ← hcs, List.length_take]; omega
        have e := turn_lab k st data place en ru at_ v h1 ls _ hsz hl la
        simp only
        by_cases h4 : 255 < size (ls ++ [spell codes])
        · rw [if_pos h4] at e ⊢
          exact ⟨_, _, evWhile_exc ht rfl e⟩
        rw [if_neg h4] at e ⊢
        by_cases h5 : at_ + 1 + v < data.length
        · rw [dif_pos h5] at e
          rw [evWhile_go ht rfl e]
          exact prog_loop data hb place n _ ru en _ m h5 (by omega) (by omega)
        · rw [dif_neg h5] at e
          cases n with
          | zero => rw [stuck0]; trivial
          | succ n =>
            rw [rd, dif_neg h5]
            exact ⟨_, _, evWhile_exc ht rfl e⟩
/-- what read_name gives -/
def outR (data : List Nat) : Out → R D
  | .ok ls en a => .ok (.tup [nameD ls, .int ((en.getD (a + 1) : Nat) : Int)]) st
  | .err c p => .exc c (.int (p : Int)) st
  | .stuck => .bad
theorem read_name (data : List Nat) (hb : ∀ c ∈ data, c < 256) (place : Nat) (n : Nat) (hn : n ≤ WF) (hs : rd data place n place place none [] ≠ .stuck) : closeR st (Z.run P (k + 4) 1 [natsD data, .int (place : Int)] st) = outR st data (rd data place n place place none []) := by
  rw [run_eq (P := P) (f := 1) rfl (k + 3) _ _ rfl]
  show closeR st (xss (Fk k) b1 [some (natsD data), some (.int (place : Int)), none, none, none, none, none] st).fin = _
  have lst : opSem .lst [] st = .ok (.loc st.length) (st ++ [.lst []]) := rfl
  have nx : closeR (st ++ [.lst []]) (Fk k 3 [natsD data, .int (place : Int), .int 1] (st ++ [.lst []])) = _ := number1 (k + 1) _ data place
  have hb1 : b1 = [.asg (.nm 2) (.op .lst []), .asg (.nm 3) (.c .non), .asg (.nm 4) (.v 1), .asg (.nm 5) (.v 1), .asg (.nm 6) (.scall 3 [.v 0, .v 5, .c (.int 1)]), .while_ tstW bodyW,
    .ite (.op .is [.v 3, .c .non]) [.asg (.nm 3) (.op .add [.v 5, .c (.int 1)])] [], .ret (.op .tup [.op .toTup [.v 2], .v 3])] := rfl
  by_cases h : place < data.length
  · rw [dif_pos h] at nx
    have pl := prog_loop k st data hb place n place place none [] WF h hn (by decide)
    simp only [hb1, forB_nm, ev_op, ev_v, ev_c, ev_not, ev_and, ev_or, ev_ifx, ev_chain, ev_call, ev_scall, ev_seal, evs_cons, evs_nil, xs_asg, xs_expr, xs_ret, xs_ite, xs_brk, xs_cnt, xs_pass, xs_raise, xss_cons, xss_nil, List.getElem?_cons_zero, List.getElem?_cons_succ, bind_ok, bind_exc, toS_ok, toS_exc, seq_next, seq_ret, seq_exc, fin_ret, fin_next, fin_exc, truth_bl, setT_nm, List.set_cons_succ, List.set_cons_zero, o_addI, o_subI, o_ltI, o_leI, o_gtI, o_geI, o_eqI, o_neI, o_eqS, o_neS, o_eqB, o_neB, o_isB, o_isnotB, o_toInt, o_asInt, o_neg, o_asStr, o_iadd, o_isub, o_isNon, o_isNonI, o_isNonS, o_isnotNon, o_isnotNonI, o_isnotNonS, Bool.not_true, Bool.not_false, close_int, close_bl, close_str, close_non, lst, nx, xs_while]
    cases hr : rd data place n place place none [] with
    | stuck => exact absurd hr hs
    | err c p =>
      rw [hr] at pl
      obtain ⟨env', ds, e⟩ := pl
      have e : evWhile (fun env st => ev (Fk k) tstW env st) (fun env st => xss (Fk k) bodyW env st) WF [some (natsD data), some (.int (place : Int)), some (.loc st.length), some .non, some (.int (place : Int)), some (.int (place : Int)), some (.int (data[place] : Nat))] (st ++ [.lst []]) = _ := e
      simp only [e, forB_nm, ev_op, ev_v, ev_c, ev_not, ev_and, ev_or, ev_ifx, ev_chain, ev_call, ev_scall, ev_seal, evs_cons, evs_nil, xs_asg, xs_expr, xs_ret, xs_ite, xs_brk, xs_cnt, xs_pass, xs_raise, xss_cons, xss_nil, List.getElem?_cons_zero, List.getElem?_cons_succ, bind_ok, bind_exc, toS_ok, toS_exc, seq_next, seq_ret, seq_exc, fin_ret, fin_next, fin_exc, truth_bl, setT_nm, List.set_cons_succ, List.set_cons_zero, o_addI, o_subI, o_ltI, o_leI, o_gtI, o_geI, o_eqI, o_neI, o_eqS, o_neS, o_eqB, o_neB, o_isB, o_isnotB, o_toInt, o_asInt, o_neg, o_asStr, o_iadd, o_isub, o_isNon, o_isNonI, o_isNonS, o_isnotNon, o_isnotNonI, o_isnotNonS, Bool.not_true, Bool.not_false, close_int, close_bl, close_str, close_non]
      exact close_exc_gr (Gr.app _ _) rfl
    | ok ls en a =>
      rw [hr] at pl
      obtain ⟨ru', e⟩ := pl
      have e : evWhile (fun env st => ev (Fk k) tstW env st) (fun env st => xss (Fk k) bodyW env st) WF [some (natsD data), some (.int (place : Int)), some (.loc st.length), some .non, some (.int (place : Int)), some (.int (place : Int)), some (.int (data[place] : Nat))] (st ++ [.lst []]) = _ := e
      have tt : opSem .toTup [.loc st.length] (st ++ [.lst (ls.map .str)]) = .ok (nameD ls) (st ++ [.lst (ls.map .str)]) := by
        rw [o_toTup, items_loc (new_at _ _)]; rfl
      have tp : ∀ (i : Int) (s : Store), opSem .tup [nameD ls, .int i] s = .ok (.tup [nameD ls, .int i]) s := fun i s => o_tup s _ (by show 2 ≤ SZ; decide)
      have cl : ∀ i : Int, closedD 0 (.tup [nameD ls, .int i]) = true := fun i => by
        show (closedD 0 (nameD ls) && (closedD 0 (.int i) && true)) = true
        rw [closed_name]; rfl
      have e1 : (a : Int) + 1 = ((a + 1 : Nat) : Int) := by omega
      cases en with
      | none =>
        simp only [e, EnvP, optI, forB_nm, ev_op, ev_v, ev_c, ev_not, ev_and, ev_or, ev_ifx, ev_chain, ev_call, ev_scall, ev_seal, evs_cons, evs_nil, xs_asg, xs_expr, xs_ret, xs_ite, xs_brk, xs_cnt, xs_pass, xs_raise, xss_cons, xss_nil, List.getElem?_cons_zero, List.getElem?_cons_succ, bind_ok, bind_exc, toS_ok, toS_exc, seq_next, seq_ret, seq_exc, fin_ret, fin_next, fin_exc, truth_bl, setT_nm, List.set_cons_succ, List.set_cons_zero, o_addI, o_subI, o_ltI, o_leI, o_gtI, o_geI, o_eqI, o_neI, o_eqS, o_neS, o_eqB, o_neB, o_isB, o_isnotB, o_toInt, o_asInt, o_neg, o_asStr, o_iadd, o_isub, o_isNon, o_isNonI, o_isNonS, o_isnotNon, o_isnotNonI, o_isnotNonS, Bool.not_true, Bool.not_false, close_int, close_bl, close_str, close_non, tt, tp, e1]
        exact close_pd (Gr.app _ _) (cl _)
      | some en =>
        simp only [e, EnvP, optI, forB_nm, ev_op, ev_v, ev_c, ev_not, ev_and, ev_or, ev_ifx, ev_chain, ev_call, ev_scall, ev_seal, evs_cons, evs_nil, xs_asg, xs_expr, xs_ret, xs_ite, xs_brk, xs_cnt, xs_pass, xs_raise, xss_cons, xss_nil, List.getElem?_cons_zero, List.getElem?_cons_succ, bind_ok, bind_exc, toS_ok, toS_exc, seq_next, seq_ret, seq_exc, fin_ret, fin_next, fin_exc, truth_bl, setT_nm, List.set_cons_succ, List.set_cons_zero, o_addI, o_subI, o_ltI, o_leI, o_gtI, o_geI, o_eqI, o_neI, o_eqS, o_neS, o_eqB, o_neB, o_isB, o_isnotB, o_toInt, o_asInt, o_neg, o_asStr, o_iadd, o_isub, o_isNon, o_isNonI, o_isNonS, o_isnotNon, o_isnotNonI, o_isnotNonS, Bool.not_true, Bool.not_false, close_int, close_bl, close_str, close_non, tt, tp]
        exact close_pd (Gr.app _ _) (cl _)
  · rw [dif_neg h] at nx
    simp only [hb1, forB_nm, ev_op, ev_v, ev_c, ev_not, ev_and, ev_or, ev_ifx, ev_chain, ev_call, ev_scall, ev_seal, evs_cons, evs_nil, xs_asg, xs_expr, xs_ret, xs_ite, xs_brk, xs_cnt, xs_pass, xs_raise, xss_cons, xss_nil, List.getElem?_cons_zero, List.getElem?_cons_succ, bind_ok, bind_exc, toS_ok, toS_exc, seq_next, seq_ret, seq_exc, fin_ret, fin_next, fin_exc, truth_bl, setT_nm, List.set_cons_succ, List.set_cons_zero, o_addI, o_subI, o_ltI, o_leI, o_gtI, o_geI, o_eqI, o_neI, o_eqS, o_neS, o_eqB, o_neB, o_isB, o_isnotB, o_toInt, o_asInt, o_neg, o_asStr, o_iadd, o_isub, o_isNon, o_isNonI, o_isNonS, o_isnotNon, o_isnotNonI, o_isnotNonS, Bool.not_true, Bool.not_false, close_int, close_bl, close_str, close_non, lst, nx]
    cases n with
    | zero => exact absurd rfl hs
    | succ n =>
      rw [rd, dif_neg h]
      exact close_exc_gr (Gr.app _ _) rfl
end
end K6

set_option autoImplicit false
set_option maxHeartbeats 2000000
namespace K6
open PySem L2 Z

/-! ## the law's own reading -/
def okc (c n : Nat) : Bool := (lc c).isSome || (decide (c = 42) && decide (n = 1))
theorem okc_eq : ∀ c : Nat, c < 256 → (lc c).isSome = (decide ((97 ≤ c ∧ c ≤ 122) ∨ (48 ≤ c ∧ c ≤ 57) ∨ c = 45 ∨ c = 95) || decide (65 ≤ c ∧ c ≤ 90)) := by decide +kernel
section
variable (k : Nat) (st : Store)
theorem law_char (c n : Nat) (hc : c < 256) : Z.run P (k + 1) 10 [.int (c : Int), .int (n : Int)] st = .ok (.bl (okc c n)) st := by
  rw [run_eq (P := P) (f := 10) rfl k _ _ rfl]
  show (xss _ b10 [some (.int (c : Int)), some (.int (n : Int))] st).fin = _
  unfold okc
  rw [okc_eq c hc]
  by_cases a1 : 97 ≤ c ∧ c ≤ 122
  · have i1 : decide ((97 : Int) ≤ (c : Int)) = true := decide_eq_true (by omega)
    have i2 : decide ((c : Int) ≤ 122) = true := decide_eq_true (by omega)
    simp only [b10, forB_nm, ev_op, ev_v, ev_c, ev_not, ev_and, ev_or, ev_ifx, ev_chain, ev_call, ev_scall, ev_seal, evs_cons, evs_nil, xs_asg, xs_expr, xs_ret, xs_ite, xs_brk, xs_cnt, xs_pass, xs_raise, xss_cons, xss_nil, List.getElem?_cons_zero, List.getElem?_cons_succ, bind_ok, bind_exc, toS_ok, toS_exc, seq_next, seq_ret, seq_exc, fin_ret, fin_next, fin_exc, truth_bl, setT_nm, List.set_cons_succ, List.set_cons_zero, o_addI, o_subI, o_ltI, o_leI, o_gtI, o_geI, o_eqI, o_neI, o_eqS, o_neS, o_eqB, o_neB, o_isB, o_isnotB, o_toInt, o_asInt, o_neg, o_asStr, o_iadd, o_isub, o_isNon, o_isNonI, o_isNonS, o_isnotNon, o_isnotNonI, o_isnotNonS, Bool.not_true, Bool.not_false, close_int, close_bl, close_str, close_non, i1, i2]
    rw [decide_eq_true (.inl a1), Bool.true_or, Bool.true_or]
  have n1 : decide ((97 : Int) ≤ (c : Int)) = true ∧ decide ((c : Int) ≤ 122) = false ∨ decide ((97 : Int) ≤ (c : Int)) = false := by
    by_cases h : 97 ≤ c
    · exact .inl ⟨decide_eq_true (by omega), decide_eq_false (by omega)⟩
    · exact .inr (decide_eq_false (by omega))
  by_cases a2 : 48 ≤ c ∧ c ≤ 57
  · have i1 : decide ((48 : Int) ≤ (c : Int)) = true := decide_eq_true (by omega)
    have i2 : decide ((c : Int) ≤ 57) = true := decide_eq_true (by omega)
    rw [decide_eq_true (.inr (.inl a2)), Bool.true_or, Bool.true_or]
    rcases n1 with ⟨n1, n2⟩ | n1
    · simp only [b10, forB_nm, ev_op, ev_v, ev_c, ev_not, ev_and, ev_or, ev_ifx, ev_chain, ev_call, ev_scall, ev_seal, evs_cons, evs_nil, xs_asg, xs_expr, xs_ret, xs_ite, xs_brk, xs_cnt, xs_pass, xs_raise, xss_cons, xss_nil, List.getElem?_cons_zero, List.getElem?_cons_succ, bind_ok, bind_exc, toS_ok, toS_exc, seq_next, seq_ret, seq_exc, fin_ret, fin_next, fin_exc, truth_bl, setT_nm, List.set_cons_succ, List.set_cons_zero, o_addI, o_subI, o_ltI, o_leI, o_gtI, o_geI, o_eqI, o_neI, o_eqS, o_neS, o_eqB, o_neB, o_isB, o_isnotB, o_toInt, o_asInt, o_neg, o_asStr, o_iadd, o_isub, o_isNon, o_isNonI, o_isNonS, o_isnotNon, o_isnotNonI, o_isnotNonS, Bool.not_true, Bool.not_false, close_int, close_bl, close_str, close_non, n1, n2, i1, i2]
    · simp only [b10, forB_nm, ev_op, ev_v, ev_c, ev_not, ev_and, ev_or, ev_ifx, ev_chain, ev_call, ev_scall, ev_seal, evs_cons, evs_nil, xs_asg, xs_expr, xs_ret, xs_ite, xs_brk, xs_cnt, xs_pass, xs_raise, xss_cons, xss_nil, List.getElem?_cons_zero, List.getElem?_cons_succ, bind_ok, bind_exc, toS_ok, toS_exc, seq_next, seq_ret, seq_exc, fin_ret, fin_next, fin_exc, truth_bl, setT_nm, List.set_cons_succ, List.set_cons_zero, o_addI, o_subI, o_ltI, o_leI, o_gtI, o_geI, o_eqI, o_neI, o_eqS, o_neS, o_eqB, o_neB, o_isB, o_isnotB, o_toInt, o_asInt, o_neg, o_asStr, o_iadd, o_isub, o_isNon, o_isNonI, o_isNonS, o_isnotNon, o_isnotNonI, o_isnotNonS, Bool.not_true, Bool.not_false, close_int, close_bl, close_str, close_non, n1, i1, i2]
  have n2 : decide ((48 : Int) ≤ (c : Int)) = true ∧ decide ((c : Int) ≤ 57) = false ∨ decide ((48 : Int) ≤ (c : Int)) = false := by
    by_cases h : 48 ≤ c
    · exact .inl ⟨decide_eq_true (by omega), decide_eq_false (by omega)⟩
    · exact .inr (decide_eq_false (by omega))
  have key : (xss (Z.run P k) b10 [some (.int (c : Int)), some (.int (n : Int))] st).fin = .ok (.bl ((c : Int) == 45 || (c : Int) == 95 || ((c : Int) == 42 && (n : Int) == 1) || (decide ((65 : Int) ≤ c) && decide ((c : Int) ≤ 90)))) st := by
    have tail : ∀ b : Bool, (match b with | true => (SR.ret (.bl true) st : SR) | false => .bad) = .ret (.bl true) st ∨ b = false := fun b => by cases b <;> simp
    cases h3 : ((c : Int) == 45) <;> cases h4 : ((c : Int) == 95) <;> cases h5 : ((c : Int) == 42) <;> cases h6 : ((n : Int) == 1) <;> cases h7 : decide ((65 : Int) ≤ (c : Int)) <;> cases h8 : decide ((c : Int) ≤ 90) <;>
    (rcases n1 with ⟨n1, m1⟩ | n1 <;> rcases n2 with ⟨n2, m2⟩ | n2 <;> simp only [b10, forB_nm, ev_op, ev_v, ev_c, ev_not, ev_and, ev_or, ev_ifx, ev_chain, ev_call, ev_scall, ev_seal, evs_cons, evs_nil, xs_asg, xs_expr, xs_ret, xs_ite, xs_brk, xs_cnt, xs_pass, xs_raise, xss_cons, xss_nil, List.getElem?_cons_zero, List.getElem?_cons_succ, bind_ok, bind_exc, toS_ok, toS_exc, seq_next, seq_ret, seq_exc, fin_ret, fin_next, fin_exc, truth_bl, setT_nm, List.set_cons_succ, List.set_cons_zero, o_addI, o_subI, o_ltI, o_leI, o_gtI, o_geI, o_eqI, o_neI, o_eqS, o_neS, o_eqB, o_neB, o_isB, o_isnotB, o_toInt, o_asInt, o_neg, o_asStr, o_iadd, o_isub, o_isNon, o_isNonI, o_isNonS, o_isnotNon, o_isnotNonI, o_isnotNonS, Bool.not_true, Bool.not_false, close_int, close_bl, close_str, close_non, *, Bool.or_false, Bool.or_true, Bool.false_or, Bool.true_or, Bool.and_true, Bool.and_false])
  rw [key]
  congr 2
  have e1 : ((c : Int) == 45) = decide (c = 45) := by rw [Bool.eq_iff_iff]; simp; omega
  have e2 : ((c : Int) == 95) = decide (c = 95) := by rw [Bool.eq_iff_iff]; simp; omega
  have e3 : ((c : Int) == 42) = decide (c = 42) := by rw [Bool.eq_iff_iff]; simp; omega
  have e4 : ((n : Int) == 1) = decide (n = 1) := by rw [Bool.eq_iff_iff]; simp; omega
  have e5 : (decide ((65 : Int) ≤ c) && decide ((c : Int) ≤ 90)) = decide (65 ≤ c ∧ c ≤ 90) := by rw [Bool.eq_iff_iff]; simp; omega
  rw [e1, e2, e3, e4, e5]
  have e6 : decide ((97 ≤ c ∧ c ≤ 122) ∨ (48 ≤ c ∧ c ≤ 57) ∨ c = 45 ∨ c = 95) = (decide (c = 45) || decide (c = 95)) := by
    rw [Bool.eq_iff_iff]; simp; omega
  rw [e6]
  cases decide (c = 45) <;> cases decide (c = 95) <;> cases decide (c = 42) <;> cases decide (n = 1) <;> cases decide (65 ≤ c ∧ c ≤ 90) <;> rfl
/-- the inner loop: the characters that are the code -/
def bodyI : List Sx := [.ite (.op .eq [.op (.x .ord_) [.v 4], .v 3]) [.asg (.nm 2) (.op .add [.v 2, .v 4])] []]
theorem inner (c0 c1 : D) (c : Nat) : ∀ (cs lab : List Nat) (x : Option D), lab.length + cs.length ≤ 10000 →
    ∃ x', evFor (fun _ => true) (forB (Z.run P k) (.nm 4) bodyI) (cs.map fun c => .str [c]) [some c0, some c1, some (.str lab), some (.int (c : Int)), x] st =
      .next [some c0, some c1, some (.str (lab ++ cs.filter fun d => d == c)), some (.int (c : Int)), x'] st
  | [], lab, x, _ => ⟨x, by rw [List.map_nil, evFor_nil rfl, List.filter_nil, List.append_nil]⟩
  | d :: cs, lab, x, hz => by
    rw [List.length_cons] at hz
    have od : opSem (.x .ord_) [.str [d]] st = .ok (.int (d : Int)) st := rfl
    have ad := o_addS st (a := lab) (b := [d]) (by show lab.length + 1 ≤ 16777216; omega)
    rw [List.map_cons]
    by_cases h : d = c
    · have i1 : ((d : Int) == (c : Int)) = true := by simp; omega
      obtain ⟨x', e⟩ := inner c0 c1 c cs (lab ++ [d]) (some (.str [d])) (by rw [List.length_append, List.length_singleton]; omega)
      refine ⟨x', ?_⟩
      rw [evFor_next rfl (env' := [some c0, some c1, some (.str (lab ++ [d])), some (.int (c : Int)), some (.str [d])]) (st' := st) (by simp only [bodyI, forB_nm, ev_op, ev_v, ev_c, ev_not, ev_and, ev_or, ev_ifx, ev_chain, ev_call, ev_scall, ev_seal, evs_cons, evs_nil, xs_asg, xs_expr, xs_ret, xs_ite, xs_brk, xs_cnt, xs_pass, xs_raise, xss_cons, xss_nil, List.getElem?_cons_zero, List.getElem?_cons_succ, bind_ok, bind_exc, toS_ok, toS_exc, seq_next, seq_ret, seq_exc, fin_ret, fin_next, fin_exc, truth_bl, setT_nm, List.set_cons_succ, List.set_cons_zero, o_addI, o_subI, o_ltI, o_leI, o_gtI, o_geI, o_eqI, o_neI, o_eqS, o_neS, o_eqB, o_neB, o_isB, o_isnotB, o_toInt, o_asInt, o_neg, o_asStr, o_iadd, o_isub, o_isNon, o_isNonI, o_isNonS, o_isnotNon, o_isnotNonI, o_isnotNonS, Bool.not_true, Bool.not_false, close_int, close_bl, close_str, close_non, od, i1, ad]), e, List.filter_cons]
      rw [show (d == c) = true from by simpa using h, if_pos rfl, List.append_assoc]
      rfl
    · have i1 : ((d : Int) == (c : Int)) = false := by simp; omega
      obtain ⟨x', e⟩ := inner c0 c1 c cs lab (some (.str [d])) (by omega)
      refine ⟨x', ?_⟩
      rw [evFor_next rfl (env' := [some c0, some c1, some (.str lab), some (.int (c : Int)), some (.str [d])]) (st' := st) (by simp only [bodyI, forB_nm, ev_op, ev_v, ev_c, ev_not, ev_and, ev_or, ev_ifx, ev_chain, ev_call, ev_scall, ev_seal, evs_cons, evs_nil, xs_asg, xs_expr, xs_ret, xs_ite, xs_brk, xs_cnt, xs_pass, xs_raise, xss_cons, xss_nil, List.getElem?_cons_zero, List.getElem?_cons_succ, bind_ok, bind_exc, toS_ok, toS_exc, seq_next, seq_ret, seq_exc, fin_ret, fin_next, fin_exc, truth_bl, setT_nm, List.set_cons_succ, List.set_cons_zero, o_addI, o_subI, o_ltI, o_leI, o_gtI, o_geI, o_eqI, o_neI, o_eqS, o_neS, o_eqB, o_neB, o_isB, o_isnotB, o_toInt, o_asInt, o_neg, o_asStr, o_iadd, o_isub, o_isNon, o_isNonI, o_isNonS, o_isnotNon, o_isnotNonI, o_isnotNonS, Bool.not_true, Bool.not_false, close_int, close_bl, close_str, close_non, od, i1]), e, List.filter_cons]
      rw [show (d == c) = false from by simpa using h, if_neg Bool.false_ne_true]
theorem filter_s2 : ∀ c : Nat, c < 256 → low c ∈ s2 → s2.filter (fun d => d == low c) = [low c] := by decide +kernel
def bodyO : List Sx := [.ite (.chain .le .le (.c (.int 65)) (.v 3) (.c (.int 90))) [.asg (.nm 3) (.op .add [.v 3, .c (.int 32)])] [], .for_ (.nm 4) .seq [.v 1] bodyI]
theorem outer (c0 : D) : ∀ (cs lab : List Nat) (x3 x4 : Option D), lab.length + cs.length ≤ 1000 → (∀ c ∈ cs, c < 256 ∧ low c ∈ s2) →
    ∃ x3' x4', evFor (fun _ => true) (forB (Z.run P k) (.nm 3) bodyO) (cs.map fun (c : Nat) => D.int (c : Int)) [some c0, some (.str s2), some (.str lab), x3, x4] st =
      .next [some c0, some (.str s2), some (.str (lab ++ spell cs)), x3', x4'] st
  | [], lab, x3, x4, _, _ => ⟨x3, x4, by rw [List.map_nil, evFor_nil rfl]; unfold spell; rw [List.map_nil, List.append_nil]⟩
  | c :: cs, lab, x3, x4, hz, hc => by
    rw [List.length_cons] at hz
    obtain ⟨hc1, hc2⟩ := hc c List.mem_cons_self
    obtain ⟨x4', e⟩ := inner k st c0 (.str s2) (low c) s2 lab x4 (by have : s2.length = 39 := rfl; omega)
    rw [filter_s2 c hc1 hc2] at e
    obtain ⟨y3, y4, e2⟩ := outer c0 cs (lab ++ [low c]) (some (.int (low c : Nat))) x4' (by rw [List.length_append, List.length_singleton]; omega) fun d hd => hc d (List.mem_cons_of_mem _ hd)
    refine ⟨y3, y4, ?_⟩
    have sp : spell (c :: cs) = [low c] ++ spell cs := rfl
    rw [sp, ← List.append_assoc, ← e2, List.map_cons]
    refine evFor_next rfl ?_
    by_cases h : 65 ≤ c ∧ c ≤ 90
    · have i1 : decide ((65 : Int) ≤ (c : Int)) = true := decide_eq_true (by omega)
      have i2 : decide ((c : Int) ≤ 90) = true := decide_eq_true (by omega)
      have hl : low c = c + 32 := if_pos h
      have i3 : (c : Int) + 32 = ((low c : Nat) : Int) := by rw [hl]; omega
      simp only [bodyO, forB_nm, ev_op, ev_v, ev_c, ev_not, ev_and, ev_or, ev_ifx, ev_chain, ev_call, ev_scall, ev_seal, evs_cons, evs_nil, xs_asg, xs_expr, xs_ret, xs_ite, xs_brk, xs_cnt, xs_pass, xs_raise, xss_cons, xss_nil, List.getElem?_cons_zero, List.getElem?_cons_succ, bind_ok, bind_exc, toS_ok, toS_exc, seq_next, seq_ret, seq_exc, fin_ret, fin_next, fin_exc, truth_bl, setT_nm, List.set_cons_succ, List.set_cons_zero, o_addI, o_subI, o_ltI, o_leI, o_gtI, o_geI, o_eqI, o_neI, o_eqS, o_neS, o_eqB, o_neB, o_isB, o_isnotB, o_toInt, o_asInt, o_neg, o_asStr, o_iadd, o_isub, o_isNon, o_isNonI, o_isNonS, o_isnotNon, o_isnotNonI, o_isnotNonS, Bool.not_true, Bool.not_false, close_int, close_bl, close_str, close_non, i1, i2, i3, xs_for, src_str, e]
    · have hl : low c = c := if_neg h
      rw [hl] at e ⊢
      by_cases h2 : 65 ≤ c
      · have i1 : decide ((65 : Int) ≤ (c : Int)) = true := decide_eq_true (by omega)
        have i2 : decide ((c : Int) ≤ 90) = false := decide_eq_false (by omega)
        simp only [bodyO, forB_nm, ev_op, ev_v, ev_c, ev_not, ev_and, ev_or, ev_ifx, ev_chain, ev_call, ev_scall, ev_seal, evs_cons, evs_nil, xs_asg, xs_expr, xs_ret, xs_ite, xs_brk, xs_cnt, xs_pass, xs_raise, xss_cons, xss_nil, List.getElem?_cons_zero, List.getElem?_cons_succ, bind_ok, bind_exc, toS_ok, toS_exc, seq_next, seq_ret, seq_exc, fin_ret, fin_next, fin_exc, truth_bl, setT_nm, List.set_cons_succ, List.set_cons_zero, o_addI, o_subI, o_ltI, o_leI, o_gtI, o_geI, o_eqI, o_neI, o_eqS, o_neS, o_eqB, o_neB, o_isB, o_isnotB, o_toInt, o_asInt, o_neg, o_asStr, o_iadd, o_isub, o_isNon, o_isNonI, o_isNonS, o_isnotNon, o_isnotNonI, o_isnotNonS, Bool.not_true, Bool.not_false, close_int, close_bl, close_str, close_non, i1, i2, xs_for, src_str, e]
      · have i1 : decide ((65 : Int) ≤ (c : Int)) = false := decide_eq_false (by omega)
        simp only [bodyO, forB_nm, ev_op, ev_v, ev_c, ev_not, ev_and, ev_or, ev_ifx, ev_chain, ev_call, ev_scall, ev_seal, evs_cons, evs_nil, xs_asg, xs_expr, xs_ret, xs_ite, xs_brk, xs_cnt, xs_pass, xs_raise, xss_cons, xss_nil, List.getElem?_cons_zero, List.getElem?_cons_succ, bind_ok, bind_exc, toS_ok, toS_exc, seq_next, seq_ret, seq_exc, fin_ret, fin_next, fin_exc, truth_bl, setT_nm, List.set_cons_succ, List.set_cons_zero, o_addI, o_subI, o_ltI, o_leI, o_gtI, o_geI, o_eqI, o_neI, o_eqS, o_neS, o_eqB, o_neB, o_isB, o_isnotB, o_toInt, o_asInt, o_neg, o_asStr, o_iadd, o_isub, o_isNon, o_isNonI, o_isNonS, o_isnotNon, o_isnotNonI, o_isnotNonS, Bool.not_true, Bool.not_false, close_int, close_bl, close_str, close_non, i1, xs_for, src_str, e]
theorem spelled (cs : List Nat) (hz : cs.length ≤ 500) (hc : ∀ c ∈ cs, c < 256 ∧ low c ∈ s2) : closeR st (Z.run P (k + 1) 11 [natsD cs] st) = .ok (.str (spell cs)) st := by
  rw [run_eq (P := P) (f := 11) rfl k _ _ rfl]
  show closeR st (xss _ b11 [some (natsD cs), none, none, none, none] st).fin = _
  obtain ⟨x3, x4, e⟩ := outer k st (natsD cs) cs [] none none (by simp; omega) hc
  have hb : b11 = [.asg (.nm 1) (.c (.str s2)), .asg (.nm 2) (.c (.str [])), .for_ (.nm 3) .seq [.v 0] bodyO, .ret (.v 2)] := rfl
  simp only [hb, forB_nm, ev_op, ev_v, ev_c, ev_not, ev_and, ev_or, ev_ifx, ev_chain, ev_call, ev_scall, ev_seal, evs_cons, evs_nil, xs_asg, xs_expr, xs_ret, xs_ite, xs_brk, xs_cnt, xs_pass, xs_raise, xss_cons, xss_nil, List.getElem?_cons_zero, List.getElem?_cons_succ, bind_ok, bind_exc, toS_ok, toS_exc, seq_next, seq_ret, seq_exc, fin_ret, fin_next, fin_exc, truth_bl, setT_nm, List.set_cons_succ, List.set_cons_zero, o_addI, o_subI, o_ltI, o_leI, o_gtI, o_geI, o_eqI, o_neI, o_eqS, o_neS, o_eqB, o_neB, o_isB, o_isnotB, o_toInt, o_asInt, o_neg, o_asStr, o_iadd, o_isub, o_isNon, o_isNonI, o_isNonS, o_isnotNon, o_isnotNonI, o_isnotNonS, Bool.not_true, Bool.not_false, close_int, close_bl, close_str, close_non, xs_for, src_nats, e]
  rfl
end
end K6

set_option autoImplicit false
set_option maxHeartbeats 2000000
namespace K6
open PySem L2 Z

theorem range_cons (i : Int) (m : Nat) : rangeD i (m + 1) = .int i :: rangeD (i + 1) m := by
  unfold rangeD
  rw [List.range_succ_eq_map, List.map_cons, List.map_map]
  congr 1
  · simp
  · refine List.map_congr_left fun t _ => ?_
    simp
    omega
theorem bad_eq (codes : List Nat) : bad codes = codes.findIdx? fun c => !okc c codes.length := by
  unfold bad
  by_cases h : codes = [42]
  · rw [if_pos h, h]; decide
  · rw [if_neg h]
    have : ∀ c ∈ codes, (lc c).isNone = !okc c codes.length := fun c hc => by
      unfold okc
      have hn : (decide (c = 42) && decide (codes.length = 1)) = false := by
        by_cases h1 : c = 42
        · by_cases h2 : codes.length = 1
          · exfalso
            obtain ⟨d, rfl⟩ := List.length_eq_one_iff.mp h2
            rw [h1, List.mem_singleton] at hc
            rw [hc] at h
            exact h rfl
          · rw [decide_eq_false h2, Bool.and_false]
        · rw [decide_eq_false h1, Bool.false_and]
      rw [hn, Bool.or_false]
      cases lc c <;> rfl
    clear h
    have go : ∀ (p q : Nat → Bool) (cs : List Nat), (∀ c ∈ cs, p c = q c) → cs.findIdx? p = cs.findIdx? q := fun p q cs => by
      induction cs with
      | nil => intro _; rfl
      | cons c cs ih =>
        intro h
        rw [List.findIdx?_cons, List.findIdx?_cons, h c List.mem_cons_self, ih fun d hd => h d (List.mem_cons_of_mem _ hd)]
    exact go _ _ _ this
def endI : Option Nat → Int
  | none => -1
  | some e => (e : Int)
def nmX (c : Nat) : List Nat := if c = 1 then s3 else if c = 2 then s5 else if c = 4 then s4 else s6
def outL : Out → D
  | .ok ls en a => .tup [.str [], .int ((en.getD (a + 1) : Nat) : Int), nameD ls]
  | .err c p => .tup [.str (nmX c), .int (p : Int), .tup []]
  | .stuck => .non
section
variable (k : Nat) (st : Store)
def bodyC : List Sx := [.ite (.not (.call 10 [.op .ix [.v 0, .op .add [.op .add [.v 2, .c (.int 1)], .v 10]], .v 8])) [.ret (.op .tup [.c (.str s6),
    .op .add [.op .add [.v 2, .c (.int 1)], .v 10], .op .tup []])] []]
def EnvL (data : List Nat) (place at_ ru : Nat) (en : Option Nat) (sz : Nat) (x7 x8 x9 x10 : Option D) : Z.Env :=
  [some (natsD data), some (.int (place : Int)), some (.int (at_ : Int)), some (.int (ru : Int)), some (.int (endI en)), some (.loc st.length), some (.int (sz : Int)), x7, x8, x9, x10]
theorem tup0 (s : Store) : opSem .tup [] s = .ok (.tup []) s := rfl
theorem tup3 (s : Store) (a b c : D) : opSem .tup [a, b, c] s = .ok (.tup [a, b, c]) s := o_tup s _ (by show 3 ≤ SZ; decide)
theorem chars_loop (data : List Nat) (hb : ∀ c ∈ data, c < 256) (place at_ ru : Nat) (en : Option Nat) (sz v : Nat) (x7 x9 : Option D) (s : Store) : ∀ (cs : List Nat) (i : Nat) (x10 : Option D), (∀ t c, cs[t]? = some c → data[at_ + 1 + (i + t)]? = some c) →
    match cs.findIdx? (fun c => !okc c v) with
    | some j => evFor (fun _ => true) (forB (Z.run P (k + 1)) (.nm 10) bodyC) (rangeD (i : Int) cs.length) (EnvL st data place at_ ru en sz x7 (some (.int (v : Int))) x9 x10) s = .ret (.tup [.str s6, .int ((at_ + 1 + (i + j) : Nat) : Int), .tup []]) s
    | none => ∃ x', evFor (fun _ => true) (forB (Z.run P (k + 1)) (.nm 10) bodyC) (rangeD (i : Int) cs.length) (EnvL st data place at_ ru en sz x7 (some (.int (v : Int))) x9 x10) s = .next (EnvL st data place at_ ru en sz x7 (some (.int (v : Int))) x9 x') s
  | [], i, x10, _ => ⟨x10, evFor_nil rfl⟩
  | c :: cs, i, x10, h => by
    have h0 : data[at_ + 1 + i]? = some c := h 0 c rfl
    obtain ⟨hl, hv⟩ := List.getElem?_eq_some_iff.mp h0
    have hc : c < 256 := hb c (List.mem_of_getElem? h0)
    have e1 : (at_ : Int) + 1 + (i : Int) = ((at_ + 1 + i : Nat) : Int) := by omega
    have ix : opSem .ix [natsD data, .int ((at_ + 1 + i : Nat) : Int)] s = .ok (.int (c : Nat)) s := by rw [ix_nats s data _ hl, hv]
    have lw := law_char k s c v hc
    have ih := chars_loop data hb place at_ ru en sz v x7 x9 s cs (i + 1) (some (.int (i : Int))) fun t c' ht => by
      have := h (t + 1) c' (by simpa using ht)
      rw [show i + 1 + t = i + (t + 1) from by omega]; exact this
    rw [List.findIdx?_cons, List.length_cons, range_cons]
    cases ho : okc c v with
    | false =>
      rw [ho] at lw
      show evFor _ _ _ _ _ = _
      refine evFor_ret rfl ?_
      simp only [bodyC, EnvL, forB_nm, ev_op, ev_v, ev_c, ev_not, ev_and, ev_or, ev_ifx, ev_chain, ev_call, ev_scall, ev_seal, evs_cons, evs_nil, xs_asg, xs_expr, xs_ret, xs_ite, xs_brk, xs_cnt, xs_pass, xs_raise, xss_cons, xss_nil, List.getElem?_cons_zero, List.getElem?_cons_succ, bind_ok, bind_exc, toS_ok, toS_exc, seq_next, seq_ret, seq_exc, fin_ret, fin_next, fin_exc, truth_bl, setT_nm, List.set_cons_succ, List.set_cons_zero, o_addI, o_subI, o_ltI, o_leI, o_gtI, o_geI, o_eqI, o_neI, o_eqS, o_neS, o_eqB, o_neB, o_isB, o_isnotB, o_toInt, o_asInt, o_neg, o_asStr, o_iadd, o_isub, o_isNon, o_isNonI, o_isNonS, o_isnotNon, o_isnotNonI, o_isnotNonS, Bool.not_true, Bool.not_false, close_int, close_bl, close_str, close_non, e1, ix, lw, tup0, tup3]
      rfl
    | true =>
      rw [ho] at lw
      have go : xss (Z.run P (k + 1)) bodyC ((EnvL st data place at_ ru en sz x7 (some (.int (v : Int))) x9 x10).set 10 (some (.int (i : Int)))) s = .next (EnvL st data place at_ ru en sz x7 (some (.int (v : Int))) x9 (some (.int (i : Int)))) s := by
        simp only [bodyC, EnvL, forB_nm, ev_op, ev_v, ev_c, ev_not, ev_and, ev_or, ev_ifx, ev_chain, ev_call, ev_scall, ev_seal, evs_cons, evs_nil, xs_asg, xs_expr, xs_ret, xs_ite, xs_brk, xs_cnt, xs_pass, xs_raise, xss_cons, xss_nil, List.getElem?_cons_zero, List.getElem?_cons_succ, bind_ok, bind_exc, toS_ok, toS_exc, seq_next, seq_ret, seq_exc, fin_ret, fin_next, fin_exc, truth_bl, setT_nm, List.set_cons_succ, List.set_cons_zero, o_addI, o_subI, o_ltI, o_leI, o_gtI, o_geI, o_eqI, o_neI, o_eqS, o_neS, o_eqB, o_neB, o_isB, o_isnotB, o_toInt, o_asInt, o_neg, o_asStr, o_iadd, o_isub, o_isNon, o_isNonI, o_isNonS, o_isnotNon, o_isnotNonI, o_isnotNonS, Bool.not_true, Bool.not_false, close_int, close_bl, close_str, close_non, e1, ix, lw]
      rw [show ((i + 1 : Nat) : Int) = (i : Int) + 1 from by omega] at ih
      cases hf : cs.findIdx? (fun c => !okc c v) with
      | none =>
        rw [hf] at ih
        obtain ⟨x', ih⟩ := ih
        exact ⟨x', by rw [evFor_next rfl go]; exact ih⟩
      | some j =>
        rw [hf] at ih
        show evFor _ _ _ _ _ = _
        rw [evFor_next rfl go]
        simp only at ih
        rw [show at_ + 1 + (i + 1 + j) = at_ + 1 + (i + (j + 1)) from by omega] at ih
        exact ih
def brA : List Sx := [.ite (.op .gt [.op .add [.v 2, .c (.int 2)], .op .len [.v 0]]) [.ret (.op .tup [.c (.str s3), .op .len [.v 0], .op .tup []])] [], .asg (.nm 9) (.op .add [.op .mul [.op .sub [.v 8, .c (.int 192)], .c (.int 256)], .op .ix [.v 0,
    .op .add [.v 2, .c (.int 1)]]]), .ite (.op .ge [.v 9, .v 3]) [.ret (.op .tup [.c (.str s4), .v 2, .op .tup []])] [], .ite (.op .lt [.v 4, .c (.int 0)]) [.asg (.nm 4) (.op .add [.v 2, .c (.int 2)])] [], .asg (.nm 2) (.v 9),
    .asg (.nm 3) (.v 9)]
def brB2 : List Sx := [.expr (.op (.x (.meth .append)) [.op (.x .asLst) [.v 5],
    .scall 11 [.sealE (.op (.sl true true) [.v 0, .op .asInt [.op .add [.v 2, .c (.int 1)]], .op .add [.op .add [.v 2, .c (.int 1)], .v 8]])]]),
    .asg (.nm 6) (.op .add [.op .add [.v 6, .c (.int 1)], .v 8]), .ite (.op .gt [.v 6, .c (.int 255)]) [.ret (.op .tup [.c (.str s6), .v 1, .op .tup []])] [], .asg (.nm 2) (.op .add [.op .add [.v 2, .c (.int 1)], .v 8])]
def brB1 : List Sx := .ite (.op .gt [.op .add [.op .add [.v 2, .c (.int 1)], .v 8], .op .len [.v 0]]) [.ret (.op .tup [.c (.str s3), .op .len [.v 0], .op .tup []])] [] :: .for_ (.nm 10) .range1 [.v 8] bodyC :: brB2
def s4R : Sx := .ite (.op .ge [.v 8, .c (.int 192)]) brA [.ite (.op .ge [.v 8, .c (.int 64)]) [.ret (.op .tup [.c (.str s5), .v 2, .op .tup []])] brB1]
def bodyR : List Sx := [.ite (.op .ge [.v 2,
    .op .len [.v 0]]) [.ret (.op .tup [.c (.str s3), .op .len [.v 0], .op .tup []])] [],
    .asg (.nm 8) (.op .ix [.v 0, .v 2]), .ite (.op .eq [.v 8, .c (.int 0)]) [.ite (.op .lt [.v 4, .c (.int 0)]) [.asg (.nm 4) (.op .add [.v 2,
    .c (.int 1)])] [], .ret (.op .tup [.c (.str []), .v 4, .op .toTup [.v 5]])] [], s4R]
theorem b12_eq : b12 = [.asg (.nm 2) (.v 1), .asg (.nm 3) (.v 1), .asg (.nm 4) (.op .neg [.c (.int 1)]), .asg (.nm 5) (.op .lst []), .asg (.nm 6) (.c (.int 1)),
    .for_ (.nm 7) .range1 [.op .add [.op .mul [.c (.int 2), .op .len [.v 0]], .c (.int 2)]] bodyR, .ret (.op .tup [.c (.str [101, 110, 100, 108, 101, 115, 115]), .c (.int 0), .op .tup []])] := rfl
theorem mul256r (s : Store) (i : Int) : opSem .mul [.int i, .int 256] s = .ok (.int (i * 256)) s := o_mulR s i 256 (by decide)
theorem mul2 (s : Store) (i : Int) : opSem .mul [.int 2, .int i] s = .ok (.int (2 * i)) s := o_mulL s 2 i (by decide)
theorem s0_s2 : ∀ c, c ∈ s0 → c ∈ s2 := by decide +kernel
section
variable (data : List Nat) (place at_ ru : Nat) (en : Option Nat) (sz v : Nat) (x7 x8 x9 x10 : Option D) (s : Store)
noncomputable abbrev Fl := Z.run P (k + 2)
theorem tl_end (h : ¬ at_ < data.length) : xss (Fl k) bodyR (EnvL st data place at_ ru en sz x7 x8 x9 x10) s = .ret (outL (.err 1 data.length)) s := by
  have i0 : decide ((data.length : Int) ≤ (at_ : Int)) = true := decide_eq_true (by omega)
  simp only [bodyR, EnvL, forB_nm, ev_op, ev_v, ev_c, ev_not, ev_and, ev_or, ev_ifx, ev_chain, ev_call, ev_scall, ev_seal, evs_cons, evs_nil, xs_asg, xs_expr, xs_ret, xs_ite, xs_brk, xs_cnt, xs_pass, xs_raise, xss_cons, xss_nil, List.getElem?_cons_zero, List.getElem?_cons_succ, bind_ok, bind_exc, toS_ok, toS_exc, seq_next, seq_ret, seq_exc, fin_ret, fin_next, fin_exc, truth_bl, setT_nm, List.set_cons_succ, List.set_cons_zero, o_addI, o_subI, o_ltI, o_leI, o_gtI, o_geI, o_eqI, o_neI, o_eqS, o_neS, o_eqB, o_neB, o_isB, o_isnotB, o_toInt, o_asInt, o_neg, o_asStr, o_iadd, o_isub, o_isNon, o_isNonI, o_isNonS, o_isnotNon, o_isnotNonI, o_isnotNonS, Bool.not_true, Bool.not_false, close_int, close_bl, close_str, close_non, len_nats, i0, tup0, tup3]
  rfl
theorem tl_zero (h : at_ < data.length) (h0 : data[at_] = 0) (ls : List (List Nat)) (tt : opSem .toTup [.loc st.length] s = .ok (nameD ls) s) : xss (Fl k) bodyR (EnvL st data place at_ ru en sz x7 x8 x9 x10) s = .ret (outL (.ok ls en at_)) s := by
  have ix := ix_nats s data at_ h
  rw [h0] at ix
  have i0 : decide ((data.length : Int) ≤ (at_ : Int)) = false := decide_eq_false (by omega)
  have j0 : (((0 : Nat) : Int) == 0) = true := rfl
  have e1 : (at_ : Int) + 1 = ((at_ + 1 : Nat) : Int) := by omega
  cases en with
  | none =>
    have j1 : decide (endI none < 0) = true := rfl
    simp only [bodyR, EnvL, forB_nm, ev_op, ev_v, ev_c, ev_not, ev_and, ev_or, ev_ifx, ev_chain, ev_call, ev_scall, ev_seal, evs_cons, evs_nil, xs_asg, xs_expr, xs_ret, xs_ite, xs_brk, xs_cnt, xs_pass, xs_raise, xss_cons, xss_nil, List.getElem?_cons_zero, List.getElem?_cons_succ, bind_ok, bind_exc, toS_ok, toS_exc, seq_next, seq_ret, seq_exc, fin_ret, fin_next, fin_exc, truth_bl, setT_nm, List.set_cons_succ, List.set_cons_zero, o_addI, o_subI, o_ltI, o_leI, o_gtI, o_geI, o_eqI, o_neI, o_eqS, o_neS, o_eqB, o_neB, o_isB, o_isnotB, o_toInt, o_asInt, o_neg, o_asStr, o_iadd, o_isub, o_isNon, o_isNonI, o_isNonS, o_isnotNon, o_isnotNonI, o_isnotNonS, Bool.not_true, Bool.not_false, close_int, close_bl, close_str, close_non, len_nats, i0, ix, j0, j1, tt, tup3, e1]
    rfl
  | some e =>
    have j1 : decide (endI (some e) < 0) = false := decide_eq_false (by show ¬ (e : Int) < 0; omega)
    simp only [bodyR, EnvL, forB_nm, ev_op, ev_v, ev_c, ev_not, ev_and, ev_or, ev_ifx, ev_chain, ev_call, ev_scall, ev_seal, evs_cons, evs_nil, xs_asg, xs_expr, xs_ret, xs_ite, xs_brk, xs_cnt, xs_pass, xs_raise, xss_cons, xss_nil, List.getElem?_cons_zero, List.getElem?_cons_succ, bind_ok, bind_exc, toS_ok, toS_exc, seq_next, seq_ret, seq_exc, fin_ret, fin_next, fin_exc, truth_bl, setT_nm, List.set_cons_succ, List.set_cons_zero, o_addI, o_subI, o_ltI, o_leI, o_gtI, o_geI, o_eqI, o_neI, o_eqS, o_neS, o_eqB, o_neB, o_isB, o_isnotB, o_toInt, o_asInt, o_neg, o_asStr, o_iadd, o_isub, o_isNon, o_isNonI, o_isNonS, o_isnotNon, o_isnotNonI, o_isnotNonS, Bool.not_true, Bool.not_false, close_int, close_bl, close_str, close_non, len_nats, i0, ix, j0, j1, tt, tup3]
    rfl
theorem tl_head (h : at_ < data.length) (hv : data[at_] = v) (h0 : v ≠ 0) : xss (Fl k) bodyR (EnvL st data place at_ ru en sz x7 x8 x9 x10) s = xss (Fl k) [s4R] (EnvL st data place at_ ru en sz x7 (some (.int (v : Int))) x9 x10) s := by
  have ix := ix_nats s data at_ h
  rw [hv] at ix
  have i0 : decide ((data.length : Int) ≤ (at_ : Int)) = false := decide_eq_false (by omega)
  have j0 : ((v : Int) == 0) = false := by simp; omega
  have first : xs (Fl k) (.ite (.op .ge [.v 2, .op .len [.v 0]]) [.ret (.op .tup [.c (.str s3), .op .len [.v 0], .op .tup []])] []) (EnvL st data place at_ ru en sz x7 x8 x9 x10) s = .next (EnvL st data place at_ ru en sz x7 x8 x9 x10) s := by
    simp only [EnvL, forB_nm, ev_op, ev_v, ev_c, ev_not, ev_and, ev_or, ev_ifx, ev_chain, ev_call, ev_scall, ev_seal, evs_cons, evs_nil, xs_asg, xs_expr, xs_ret, xs_ite, xs_brk, xs_cnt, xs_pass, xs_raise, xss_cons, xss_nil, List.getElem?_cons_zero, List.getElem?_cons_succ, bind_ok, bind_exc, toS_ok, toS_exc, seq_next, seq_ret, seq_exc, fin_ret, fin_next, fin_exc, truth_bl, setT_nm, List.set_cons_succ, List.set_cons_zero, o_addI, o_subI, o_ltI, o_leI, o_gtI, o_geI, o_eqI, o_neI, o_eqS, o_neS, o_eqB, o_neB, o_isB, o_isnotB, o_toInt, o_asInt, o_neg, o_asStr, o_iadd, o_isub, o_isNon, o_isNonI, o_isNonS, o_isnotNon, o_isnotNonI, o_isnotNonS, Bool.not_true, Bool.not_false, close_int, close_bl, close_str, close_non, len_nats, i0]
  have second : xs (Fl k) (.asg (.nm 8) (.op .ix [.v 0, .v 2])) (EnvL st data place at_ ru en sz x7 x8 x9 x10) s = .next (EnvL st data place at_ ru en sz x7 (some (.int (v : Int))) x9 x10) s := by
    simp only [EnvL, forB_nm, ev_op, ev_v, ev_c, ev_not, ev_and, ev_or, ev_ifx, ev_chain, ev_call, ev_scall, ev_seal, evs_cons, evs_nil, xs_asg, xs_expr, xs_ret, xs_ite, xs_brk, xs_cnt, xs_pass, xs_raise, xss_cons, xss_nil, List.getElem?_cons_zero, List.getElem?_cons_succ, bind_ok, bind_exc, toS_ok, toS_exc, seq_next, seq_ret, seq_exc, fin_ret, fin_next, fin_exc, truth_bl, setT_nm, List.set_cons_succ, List.set_cons_zero, o_addI, o_subI, o_ltI, o_leI, o_gtI, o_geI, o_eqI, o_neI, o_eqS, o_neS, o_eqB, o_neB, o_isB, o_isnotB, o_toInt, o_asInt, o_neg, o_asStr, o_iadd, o_isub, o_isNon, o_isNonI, o_isNonS, o_isnotNon, o_isnotNonI, o_isnotNonS, Bool.not_true, Bool.not_false, close_int, close_bl, close_str, close_non, ix]
  refine xss_step first (xss_step second (xss_step (env' := EnvL st data place at_ ru en sz x7 (some (.int (v : Int))) x9 x10) (st' := s) ?_ rfl))
  simp only [EnvL, forB_nm, ev_op, ev_v, ev_c, ev_not, ev_and, ev_or, ev_ifx, ev_chain, ev_call, ev_scall, ev_seal, evs_cons, evs_nil, xs_asg, xs_expr, xs_ret, xs_ite, xs_brk, xs_cnt, xs_pass, xs_raise, xss_cons, xss_nil, List.getElem?_cons_zero, List.getElem?_cons_succ, bind_ok, bind_exc, toS_ok, toS_exc, seq_next, seq_ret, seq_exc, fin_ret, fin_next, fin_exc, truth_bl, setT_nm, List.set_cons_succ, List.set_cons_zero, o_addI, o_subI, o_ltI, o_leI, o_gtI, o_geI, o_eqI, o_neI, o_eqS, o_neS, o_eqB, o_neB, o_isB, o_isnotB, o_toInt, o_asInt, o_neg, o_asStr, o_iadd, o_isub, o_isNon, o_isNonI, o_isNonS, o_isnotNon, o_isnotNonI, o_isnotNonS, Bool.not_true, Bool.not_false, close_int, close_bl, close_str, close_non, j0]
theorem tl_ptr (h1 : 192 ≤ v) : xss (Fl k) [s4R] (EnvL st data place at_ ru en sz x7 (some (.int (v : Int))) x9 x10) s = xss (Fl k) brA (EnvL st data place at_ ru en sz x7 (some (.int (v : Int))) x9 x10) s := by
  have j1 : decide ((192 : Int) ≤ (v : Int)) = true := decide_eq_true (by omega)
  rw [xss_one]
  simp only [s4R, EnvL, xs_ite, ev_op, ev_v, ev_c, evs_cons, evs_nil, List.getElem?_cons_zero, List.getElem?_cons_succ, bind_ok, toS_ok, o_geI, j1, truth_bl]
theorem tl_ptr1 (h2 : ¬ at_ + 1 < data.length) : xss (Fl k) brA (EnvL st data place at_ ru en sz x7 (some (.int (v : Int))) x9 x10) s = .ret (outL (.err 1 data.length)) s := by
  have j2 : decide ((data.length : Int) < (at_ : Int) + 2) = true := decide_eq_true (by omega)
  simp only [brA, EnvL, forB_nm, ev_op, ev_v, ev_c, ev_not, ev_and, ev_or, ev_ifx, ev_chain, ev_call, ev_scall, ev_seal, evs_cons, evs_nil, xs_asg, xs_expr, xs_ret, xs_ite, xs_brk, xs_cnt, xs_pass, xs_raise, xss_cons, xss_nil, List.getElem?_cons_zero, List.getElem?_cons_succ, bind_ok, bind_exc, toS_ok, toS_exc, seq_next, seq_ret, seq_exc, fin_ret, fin_next, fin_exc, truth_bl, setT_nm, List.set_cons_succ, List.set_cons_zero, o_addI, o_subI, o_ltI, o_leI, o_gtI, o_geI, o_eqI, o_neI, o_eqS, o_neS, o_eqB, o_neB, o_isB, o_isnotB, o_toInt, o_asInt, o_neg, o_asStr, o_iadd, o_isub, o_isNon, o_isNonI, o_isNonS, o_isnotNon, o_isnotNonI, o_isnotNonS, Bool.not_true, Bool.not_false, close_int, close_bl, close_str, close_non, len_nats, j2, tup0, tup3]
  rfl
theorem tl_ptr2 (h1 : 192 ≤ v) (h2 : at_ + 1 < data.length) (t : Nat) (ht : (v - 192) * 256 + data[at_ + 1] = t) : xss (Fl k) brA (EnvL st data place at_ ru en sz x7 (some (.int (v : Int))) x9 x10) s =
    if ru ≤ t then .ret (outL (.err 4 at_)) s else .next (EnvL st data place t t (some (en.getD (at_ + 2))) sz x7 (some (.int (v : Int))) (some (.int (t : Int))) x10) s := by
  have j2 : decide ((data.length : Int) < (at_ : Int) + 2) = false := decide_eq_false (by omega)
  have e1 : (at_ : Int) + 1 = ((at_ + 1 : Nat) : Int) := by omega
  have ix2 := ix_nats s data (at_ + 1) h2
  have e2 : ((v : Int) - 192) * 256 + (data[at_ + 1] : Nat) = (t : Int) := by omega
  by_cases h3 : ru ≤ t
  · rw [if_pos h3]
    have j3 : decide ((ru : Int) ≤ (t : Int)) = true := decide_eq_true (by omega)
    simp only [brA, EnvL, forB_nm, ev_op, ev_v, ev_c, ev_not, ev_and, ev_or, ev_ifx, ev_chain, ev_call, ev_scall, ev_seal, evs_cons, evs_nil, xs_asg, xs_expr, xs_ret, xs_ite, xs_brk, xs_cnt, xs_pass, xs_raise, xss_cons, xss_nil, List.getElem?_cons_zero, List.getElem?_cons_succ, bind_ok, bind_exc, toS_ok, toS_exc, seq_next, seq_ret, seq_exc, fin_ret, fin_next, fin_exc, truth_bl, setT_nm, List.set_cons_succ, List.set_cons_zero, o_addI, o_subI, o_ltI, o_leI, o_gtI, o_geI, o_eqI, o_neI, o_eqS, o_neS, o_eqB, o_neB, o_isB, o_isnotB, o_toInt, o_asInt, o_neg, o_asStr, o_iadd, o_isub, o_isNon, o_isNonI, o_isNonS, o_isnotNon, o_isnotNonI, o_isnotNonS, Bool.not_true, Bool.not_false, close_int, close_bl, close_str, close_non, len_nats, j2, e1, ix2, mul256r, e2, j3, tup0, tup3]
    rfl
  · rw [if_neg h3]
    have j3 : decide ((ru : Int) ≤ (t : Int)) = false := decide_eq_false (by omega)
    cases en with
    | none =>
      have j4 : decide (endI none < 0) = true := rfl
      simp only [brA, EnvL, forB_nm, ev_op, ev_v, ev_c, ev_not, ev_and, ev_or, ev_ifx, ev_chain, ev_call, ev_scall, ev_seal, evs_cons, evs_nil, xs_asg, xs_expr, xs_ret, xs_ite, xs_brk, xs_cnt, xs_pass, xs_raise, xss_cons, xss_nil, List.getElem?_cons_zero, List.getElem?_cons_succ, bind_ok, bind_exc, toS_ok, toS_exc, seq_next, seq_ret, seq_exc, fin_ret, fin_next, fin_exc, truth_bl, setT_nm, List.set_cons_succ, List.set_cons_zero, o_addI, o_subI, o_ltI, o_leI, o_gtI, o_geI, o_eqI, o_neI, o_eqS, o_neS, o_eqB, o_neB, o_isB, o_isnotB, o_toInt, o_asInt, o_neg, o_asStr, o_iadd, o_isub, o_isNon, o_isNonI, o_isNonS, o_isnotNon, o_isnotNonI, o_isnotNonS, Bool.not_true, Bool.not_false, close_int, close_bl, close_str, close_non, len_nats, j2, e1, ix2, mul256r, e2, j3, j4]
      rfl
    | some e0 =>
      have j4 : decide (endI (some e0) < 0) = false := decide_eq_false (by show ¬ (e0 : Int) < 0; omega)
      simp only [brA, EnvL, forB_nm, ev_op, ev_v, ev_c, ev_not, ev_and, ev_or, ev_ifx, ev_chain, ev_call, ev_scall, ev_seal, evs_cons, evs_nil, xs_asg, xs_expr, xs_ret, xs_ite, xs_brk, xs_cnt, xs_pass, xs_raise, xss_cons, xss_nil, List.getElem?_cons_zero, List.getElem?_cons_succ, bind_ok, bind_exc, toS_ok, toS_exc, seq_next, seq_ret, seq_exc, fin_ret, fin_next, fin_exc, truth_bl, setT_nm, List.set_cons_succ, List.set_cons_zero, o_addI, o_subI, o_ltI, o_leI, o_gtI, o_geI, o_eqI, o_neI, o_eqS, o_neS, o_eqB, o_neB, o_isB, o_isnotB, o_toInt, o_asInt, o_neg, o_asStr, o_iadd, o_isub, o_isNon, o_isNonI, o_isNonS, o_isnotNon, o_isnotNonI, o_isnotNonS, Bool.not_true, Bool.not_false, close_int, close_bl, close_str, close_non, len_nats, j2, e1, ix2, mul256r, e2, j3, j4]
      rfl
theorem tl_res (h1 : ¬ 192 ≤ v) (h2 : 63 < v) : xss (Fl k) [s4R] (EnvL st data place at_ ru en sz x7 (some (.int (v : Int))) x9 x10) s = .ret (outL (.err 2 at_)) s := by
  have j1 : decide ((192 : Int) ≤ (v : Int)) = false := decide_eq_false (by omega)
  have j2 : decide ((64 : Int) ≤ (v : Int)) = true := decide_eq_true (by omega)
  rw [xss_one]
  simp only [s4R, EnvL, forB_nm, ev_op, ev_v, ev_c, ev_not, ev_and, ev_or, ev_ifx, ev_chain, ev_call, ev_scall, ev_seal, evs_cons, evs_nil, xs_asg, xs_expr, xs_ret, xs_ite, xs_brk, xs_cnt, xs_pass, xs_raise, xss_cons, xss_nil, List.getElem?_cons_zero, List.getElem?_cons_succ, bind_ok, bind_exc, toS_ok, toS_exc, seq_next, seq_ret, seq_exc, fin_ret, fin_next, fin_exc, truth_bl, setT_nm, List.set_cons_succ, List.set_cons_zero, o_addI, o_subI, o_ltI, o_leI, o_gtI, o_geI, o_eqI, o_neI, o_eqS, o_neS, o_eqB, o_neB, o_isB, o_isnotB, o_toInt, o_asInt, o_neg, o_asStr, o_iadd, o_isub, o_isNon, o_isNonI, o_isNonS, o_isnotNon, o_isnotNonI, o_isnotNonS, Bool.not_true, Bool.not_false, close_int, close_bl, close_str, close_non, j1, j2, tup0, tup3]
  rfl
theorem tl_lab (h1 : ¬ 192 ≤ v) (h2 : ¬ 63 < v) : xss (Fl k) [s4R] (EnvL st data place at_ ru en sz x7 (some (.int (v : Int))) x9 x10) s = xss (Fl k) brB1 (EnvL st data place at_ ru en sz x7 (some (.int (v : Int))) x9 x10) s := by
  have j1 : decide ((192 : Int) ≤ (v : Int)) = false := decide_eq_false (by omega)
  have j2 : decide ((64 : Int) ≤ (v : Int)) = false := decide_eq_false (by omega)
  rw [xss_one]
  simp only [s4R, EnvL, xss_one, xs_ite, ev_op, ev_v, ev_c, evs_cons, evs_nil, List.getElem?_cons_zero, List.getElem?_cons_succ, bind_ok, toS_ok, o_geI, j1, j2, truth_bl]
theorem tl_trunc (h3 : data.length < at_ + 1 + v) : xss (Fl k) brB1 (EnvL st data place at_ ru en sz x7 (some (.int (v : Int))) x9 x10) s = .ret (outL (.err 1 data.length)) s := by
  have e1 : (at_ : Int) + 1 + (v : Int) = ((at_ + 1 + v : Nat) : Int) := by omega
  have j3 : decide ((data.length : Int) < ((at_ + 1 + v : Nat) : Int)) = true := decide_eq_true (by omega)
  simp only [brB1, EnvL, forB_nm, ev_op, ev_v, ev_c, ev_not, ev_and, ev_or, ev_ifx, ev_chain, ev_call, ev_scall, ev_seal, evs_cons, evs_nil, xs_asg, xs_expr, xs_ret, xs_ite, xs_brk, xs_cnt, xs_pass, xs_raise, xss_cons, xss_nil, List.getElem?_cons_zero, List.getElem?_cons_succ, bind_ok, bind_exc, toS_ok, toS_exc, seq_next, seq_ret, seq_exc, fin_ret, fin_next, fin_exc, truth_bl, setT_nm, List.set_cons_succ, List.set_cons_zero, o_addI, o_subI, o_ltI, o_leI, o_gtI, o_geI, o_eqI, o_neI, o_eqS, o_neS, o_eqB, o_neB, o_isB, o_isnotB, o_toInt, o_asInt, o_neg, o_asStr, o_iadd, o_isub, o_isNon, o_isNonI, o_isNonS, o_isnotNon, o_isnotNonI, o_isnotNonS, Bool.not_true, Bool.not_false, close_int, close_bl, close_str, close_non, len_nats, e1, j3, tup0, tup3]
  rfl
theorem tl_chars (hb : ∀ c ∈ data, c < 256) (hv : v ≤ 63) (h3 : ¬ data.length < at_ + 1 + v) : match bad ((data.drop (at_ + 1)).take v) with
    | some j => xss (Fl k) brB1 (EnvL st data place at_ ru en sz x7 (some (.int (v : Int))) x9 x10) s = .ret (outL (.err 5 (at_ + 1 + j))) s
    | none => ∃ x', xss (Fl k) brB1 (EnvL st data place at_ ru en sz x7 (some (.int (v : Int))) x9 x10) s = xss (Fl k) brB2 (EnvL st data place at_ ru en sz x7 (some (.int (v : Int))) x9 x') s := by
  have e1 : (at_ : Int) + 1 + (v : Int) = ((at_ + 1 + v : Nat) : Int) := by omega
  have j3 : decide ((data.length : Int) < ((at_ + 1 + v : Nat) : Int)) = false := decide_eq_false (by omega)
  have hcl : ((data.drop (at_ + 1)).take v).length = v := by rw [List.length_take, List.length_drop]; omega
  have hget : ∀ t c, ((data.drop (at_ + 1)).take v)[t]? = some c → data[at_ + 1 + (0 + t)]? = some c := fun t c ht => by
    have htl := get_lt ht
    rw [hcl] at htl
    rw [List.getElem?_take_of_lt htl, List.getElem?_drop] at ht
    rw [Nat.zero_add]; exact ht
  have cl := chars_loop (k + 1) st data hb place at_ ru en sz v x7 x9 s ((data.drop (at_ + 1)).take v) 0 x10 hget
  have hbq := bad_eq ((data.drop (at_ + 1)).take v)
  have sr : srcOf .range1 [.int (v : Int)] s = some ⟨rangeD 0 v, fun _ => true⟩ := by
    rw [src_range1 _ _ (in62_of (by omega) (by omega)), Int.toNat_natCast]
  rw [hcl] at hbq cl
  have first : xs (Fl k) (.ite (.op .gt [.op .add [.op .add [.v 2, .c (.int 1)], .v 8], .op .len [.v 0]]) [.ret (.op .tup [.c (.str s3), .op .len [.v 0], .op .tup []])] []) (EnvL st data place at_ ru en sz x7 (some (.int (v : Int))) x9 x10) s = .next (EnvL st data place at_ ru en sz x7 (some (.int (v : Int))) x9 x10) s := by
    simp only [EnvL, forB_nm, ev_op, ev_v, ev_c, ev_not, ev_and, ev_or, ev_ifx, ev_chain, ev_call, ev_scall, ev_seal, evs_cons, evs_nil, xs_asg, xs_expr, xs_ret, xs_ite, xs_brk, xs_cnt, xs_pass, xs_raise, xss_cons, xss_nil, List.getElem?_cons_zero, List.getElem?_cons_succ, bind_ok, bind_exc, toS_ok, toS_exc, seq_next, seq_ret, seq_exc, fin_ret, fin_next, fin_exc, truth_bl, setT_nm, List.set_cons_succ, List.set_cons_zero, o_addI, o_subI, o_ltI, o_leI, o_gtI, o_geI, o_eqI, o_neI, o_eqS, o_neS, o_eqB, o_neB, o_isB, o_isnotB, o_toInt, o_asInt, o_neg, o_asStr, o_iadd, o_isub, o_isNon, o_isNonI, o_isNonS, o_isnotNon, o_isnotNonI, o_isnotNonS, Bool.not_true, Bool.not_false, close_int, close_bl, close_str, close_non, len_nats, e1, j3]
  have second : xs (Fl k) (.for_ (.nm 10) .range1 [.v 8] bodyC) (EnvL st data place at_ ru en sz x7 (some (.int (v : Int))) x9 x10) s = evFor (fun _ => true) (forB (Fl k) (.nm 10) bodyC) (rangeD 0 v) (EnvL st data place at_ ru en sz x7 (some (.int (v : Int))) x9 x10) s := by
    rw [xs_for]
    have : evs (Fl k) [.v 8] (EnvL st data place at_ ru en sz x7 (some (.int (v : Int))) x9 x10) s = .ok [.int (v : Int)] s := rfl
    rw [this, toS_ok, sr]
  rw [← hbq] at cl
  cases hbad : bad ((data.drop (at_ + 1)).take v) with
  | some j =>
    rw [hbad] at cl
    simp only at cl ⊢
    rw [brB1]
    refine xss_step first ?_
    rw [xss_cons, second]
    have cl : evFor (fun _ => true) (forB (Fl k) (.nm 10) bodyC) (rangeD 0 v) (EnvL st data place at_ ru en sz x7 (some (.int (v : Int))) x9 x10) s = _ := cl
    rw [cl, seq_ret, Nat.zero_add]
    rfl
  | none =>
    rw [hbad] at cl
    simp only at cl ⊢
    obtain ⟨x', cl⟩ := cl
    refine ⟨x', ?_⟩
    rw [brB1]
    refine xss_step first ?_
    rw [xss_cons, second]
    have cl : evFor (fun _ => true) (forB (Fl k) (.nm 10) bodyC) (rangeD 0 v) (EnvL st data place at_ ru en sz x7 (some (.int (v : Int))) x9 x10) s = _ := cl
    rw [cl, seq_next]
theorem tl_next (hb : ∀ c ∈ data, c < 256) (hv : v ≤ 63) (h3 : ¬ data.length < at_ + 1 + v) (hbad : bad ((data.drop (at_ + 1)).take v) = none) (ls : List (List Nat)) (hsz : size ls ≤ 255) :
    xss (Fl k) brB2 (EnvL st data place at_ ru en (size ls) x7 (some (.int (v : Int))) x9 x10) (st ++ [.lst (ls.map .str)]) =
      if 255 < size (ls ++ [spell ((data.drop (at_ + 1)).take v)]) then .ret (outL (.err 5 place)) (st ++ [.lst ((ls ++ [spell ((data.drop (at_ + 1)).take v)]).map .str)])
      else .next (EnvL st data place (at_ + 1 + v) ru en (size (ls ++ [spell ((data.drop (at_ + 1)).take v)])) x7 (some (.int (v : Int))) x9 x10) (st ++ [.lst ((ls ++ [spell ((data.drop (at_ + 1)).take v)]).map .str)]) := by
  have hcl : ((data.drop (at_ + 1)).take v).length = v := by rw [List.length_take, List.length_drop]; omega
  have sl := sl_nats (st ++ [.lst (ls.map .str)]) data (at_ + 1) (at_ + 1 + v)
  rw [show at_ + 1 + v - (at_ + 1) = v from by omega] at sl
  have hsp : ∀ c ∈ (data.drop (at_ + 1)).take v, c < 256 ∧ low c ∈ s2 := fun c hc => by
    refine ⟨hb c (List.mem_of_mem_drop (List.mem_of_mem_take hc)), ?_⟩
    by_cases h42 : (data.drop (at_ + 1)).take v = [42]
    · rw [h42, List.mem_singleton] at hc
      rw [hc]; decide +kernel
    · have := bad_none hbad h42 c hc
      unfold lc at this
      by_cases hh : low c ∈ s0
      · exact s0_s2 _ hh
      · rw [if_neg hh] at this; cases this
  generalize (data.drop (at_ + 1)).take v = codes at *
  have sp : closeR (st ++ [.lst (ls.map .str)]) (Fl k 11 [natsD codes] (st ++ [.lst (ls.map .str)])) = _ := spelled (k + 1) (st ++ [.lst (ls.map .str)]) codes (by omega) hsp
  have al : opSem (.x .asLst) [.loc st.length] (st ++ [.lst (ls.map .str)]) = .ok (.loc st.length) (st ++ [.lst (ls.map .str)]) := by
    show (match (st ++ [DO.lst (ls.map .str)])[st.length]? with | some (DO.lst _) => R.ok (D.loc st.length) _ | _ => .bad) = _
    rw [new_at]
  have ap : opSem (.x (.meth .append)) [.loc st.length, .str (spell codes)] (st ++ [.lst (ls.map .str)]) = .ok .non (st ++ [.lst ((ls ++ [spell codes]).map .str)]) := by
    show (match (st ++ [DO.lst (ls.map .str)])[st.length]? with | some (DO.lst xs) => if xs.length < SZ then R.ok D.non ((st ++ [DO.lst (ls.map .str)]).set st.length (.lst (xs ++ [D.str (spell codes)]))) else .bad | _ => .bad) = _
    rw [new_at]
    have := size_len ls
    simp only
    rw [if_pos (by rw [List.length_map]; show ls.length < 16777216; omega), new_set, List.map_append]
    rfl
  have es : (size ls : Int) + 1 + (v : Int) = (size (ls ++ [spell codes]) : Nat) := by
    rw [size_app]
    have : (spell codes).length = v := by unfold spell; rw [List.length_map]; exact hcl
    omega
  have e1 : (at_ : Int) + 1 = ((at_ + 1 : Nat) : Int) := by omega
  have e2 : ((at_ + 1 : Nat) : Int) + (v : Int) = ((at_ + 1 + v : Nat) : Int) := by omega
  by_cases h4 : 255 < size (ls ++ [spell codes])
  · rw [if_pos h4]
    have j4 : decide ((255 : Int) < (size (ls ++ [spell codes]) : Nat)) = true := decide_eq_true (by omega)
    simp only [brB2, EnvL, forB_nm, ev_op, ev_v, ev_c, ev_not, ev_and, ev_or, ev_ifx, ev_chain, ev_call, ev_scall, ev_seal, evs_cons, evs_nil, xs_asg, xs_expr, xs_ret, xs_ite, xs_brk, xs_cnt, xs_pass, xs_raise, xss_cons, xss_nil, List.getElem?_cons_zero, List.getElem?_cons_succ, bind_ok, bind_exc, toS_ok, toS_exc, seq_next, seq_ret, seq_exc, fin_ret, fin_next, fin_exc, truth_bl, setT_nm, List.set_cons_succ, List.set_cons_zero, o_addI, o_subI, o_ltI, o_leI, o_gtI, o_geI, o_eqI, o_neI, o_eqS, o_neS, o_eqB, o_neB, o_isB, o_isnotB, o_toInt, o_asInt, o_neg, o_asStr, o_iadd, o_isub, o_isNon, o_isNonI, o_isNonS, o_isnotNon, o_isnotNonI, o_isnotNonS, Bool.not_true, Bool.not_false, close_int, close_bl, close_str, close_non, al, e1, e2, sl, sp, ap]
    rw [← e1] at *
    simp only [forB_nm, ev_op, ev_v, ev_c, ev_not, ev_and, ev_or, ev_ifx, ev_chain, ev_call, ev_scall, ev_seal, evs_cons, evs_nil, xs_asg, xs_expr, xs_ret, xs_ite, xs_brk, xs_cnt, xs_pass, xs_raise, xss_cons, xss_nil, List.getElem?_cons_zero, List.getElem?_cons_succ, bind_ok, bind_exc, toS_ok, toS_exc, seq_next, seq_ret, seq_exc, fin_ret, fin_next, fin_exc, truth_bl, setT_nm, List.set_cons_succ, List.set_cons_zero, o_addI, o_subI, o_ltI, o_leI, o_gtI, o_geI, o_eqI, o_neI, o_eqS, o_neS, o_eqB, o_neB, o_isB, o_isnotB, o_toInt, o_asInt, o_neg, o_asStr, o_iadd, o_isub, o_isNon, o_isNonI, o_isNonS, o_isnotNon, o_isnotNonI, o_isnotNonS, Bool.not_true, Bool.not_false, close_int, close_bl, close_str, close_non, es, j4, tup0, tup3]
    rfl
  · rw [if_neg h4]
    have j4 : decide ((255 : Int) < (size (ls ++ [spell codes]) : Nat)) = false := decide_eq_false (by omega)
    simp only [brB2, EnvL, forB_nm, ev_op, ev_v, ev_c, ev_not, ev_and, ev_or, ev_ifx, ev_chain, ev_call, ev_scall, ev_seal, evs_cons, evs_nil, xs_asg, xs_expr, xs_ret, xs_ite, xs_brk, xs_cnt, xs_pass, xs_raise, xss_cons, xss_nil, List.getElem?_cons_zero, List.getElem?_cons_succ, bind_ok, bind_exc, toS_ok, toS_exc, seq_next, seq_ret, seq_exc, fin_ret, fin_next, fin_exc, truth_bl, setT_nm, List.set_cons_succ, List.set_cons_zero, o_addI, o_subI, o_ltI, o_leI, o_gtI, o_geI, o_eqI, o_neI, o_eqS, o_neS, o_eqB, o_neB, o_isB, o_isnotB, o_toInt, o_asInt, o_neg, o_asStr, o_iadd, o_isub, o_isNon, o_isNonI, o_isNonS, o_isnotNon, o_isnotNonI, o_isnotNonS, Bool.not_true, Bool.not_false, close_int, close_bl, close_str, close_non, al, e1, e2, sl, sp, ap, es, j4]
end
theorem law_loop (data : List Nat) (hb : ∀ c ∈ data, c < 256) (hz : data.length ≤ 1000) (place : Nat) : ∀ (n : Nat) (items : List D) (at_ ru : Nat) (en : Option Nat) (ls : List (List Nat)) (x7 x8 x9 x10 : Option D), items.length = n → size ls ≤ 255 → rd data place n at_ ru en ls ≠ .stuck →
    ∃ ds, evFor (fun _ => true) (forB (Fl k) (.nm 7) bodyR) items (EnvL st data place at_ ru en (size ls) x7 x8 x9 x10) (st ++ [.lst (ls.map .str)]) = .ret (outL (rd data place n at_ ru en ls)) (st ++ [.lst ds]) := by
  intro n
  induction n with
  | zero => intro _ _ _ _ _ _ _ _ _ _ _ h; exact absurd rfl h
  | succ n IH =>
  intro items
  cases items with
  | nil => intro _ _ _ _ _ _ _ _ h; cases h
  | cons x items =>
    intro at_ ru en ls x7 x8 x9 x10 hi hsz hs
    have hi : items.length = n := by simpa using hi
    rw [rd] at hs ⊢
    have turn : ∀ r, xss (Fl k) bodyR (EnvL st data place at_ ru en (size ls) (some x) x8 x9 x10) (st ++ [.lst (ls.map .str)]) = r → forB (Fl k) (.nm 7) bodyR x (EnvL st data place at_ ru en (size ls) x7 x8 x9 x10) (st ++ [.lst (ls.map .str)]) = r := fun r h => h
    by_cases h : at_ < data.length
    · rw [dif_pos h] at hs ⊢
      by_cases h0 : data[at_] = 0
      · rw [if_pos h0]
        exact ⟨_, evFor_ret rfl (turn _ (tl_zero k st data place at_ ru en (size ls) (some x) x8 x9 x10 _ h h0 ls (by rw [o_toTup, items_loc (new_at _ _)]; rfl)))⟩
      rw [if_neg h0] at hs ⊢
      have hd := tl_head k st data place at_ ru en (size ls) data[at_] (some x) x8 x9 x10 (st ++ [.lst (ls.map .str)]) h rfl h0
      generalize data[at_] = v at *
      by_cases h1 : 192 ≤ v
      · rw [if_pos h1] at hs ⊢
        rw [tl_ptr k st data place at_ ru en (size ls) v (some x) x9 x10 _ h1] at hd
        by_cases h2 : at_ + 1 < data.length
        · rw [dif_pos h2] at hs ⊢
          rw [tl_ptr2 k st data place at_ ru en (size ls) v (some x) x9 x10 _ h1 h2 _ rfl] at hd
          by_cases h3 : ru ≤ (v - 192) * 256 + data[at_ + 1]
          · rw [if_pos h3] at hd ⊢
            exact ⟨_, evFor_ret rfl (turn _ hd)⟩
          · rw [if_neg h3] at hs hd ⊢
            obtain ⟨ds, e⟩ := IH items _ _ (some (en.getD (at_ + 2))) ls (some x) (some (.int (v : Int))) _ x10 hi hsz hs
            exact ⟨ds, by rw [← e]; exact evFor_next rfl (turn _ hd)⟩
        · rw [dif_neg h2]
          rw [tl_ptr1 k st data place at_ ru en (size ls) v (some x) x9 x10 _ h2] at hd
          exact ⟨_, evFor_ret rfl (turn _ hd)⟩
      rw [if_neg h1] at hs ⊢
      by_cases h2 : 63 < v
      · rw [if_pos h2]
        rw [tl_res k st data place at_ ru en (size ls) v (some x) x9 x10 _ h1 h2] at hd
        exact ⟨_, evFor_ret rfl (turn _ hd)⟩
      rw [if_neg h2] at hs ⊢
      rw [tl_lab k st data place at_ ru en (size ls) v (some x) x9 x10 _ h1 h2] at hd
      by_cases h3 : data.length < at_ + 1 + v
      · rw [if_pos h3]
        rw [tl_trunc k st data place at_ ru en (size ls) v (some x) x9 x10 _ h3] at hd
        exact ⟨_, evFor_ret rfl (turn _ hd)⟩
      rw [if_neg h3] at hs ⊢
      have ch := tl_chars k st data place at_ ru en (size ls) v (some x) x9 x10 (st ++ [.lst (ls.map .str)]) hb (by omega) h3
      cases hbad : bad ((data.drop (at_ + 1)).take v) with
      | some j =>
        rw [hbad] at ch
        rw [ch] at hd
        exact ⟨_, evFor_ret rfl (turn _ hd)⟩
      | none =>
        rw [hbad] at ch hs
        obtain ⟨x', ch⟩ := ch
        rw [ch, tl_next k st data place at_ ru en v (some x) x9 x' hb (by omega) h3 hbad ls hsz] at hd
        simp only at hs ⊢
        by_cases h4 : 255 < size (ls ++ [spell ((data.drop (at_ + 1)).take v)])
        · rw [if_pos h4] at hd ⊢
          exact ⟨_, evFor_ret rfl (turn _ hd)⟩
        · rw [if_neg h4] at hs hd ⊢
          obtain ⟨ds, e⟩ := IH items (at_ + 1 + v) ru en _ (some x) (some (.int (v : Int))) x9 x' hi (by omega) hs
          exact ⟨ds, by rw [← e]; exact evFor_next rfl (turn _ hd)⟩
    · rw [dif_neg h]
      exact ⟨_, evFor_ret rfl (turn _ (tl_end k st data place at_ ru en (size ls) (some x) x8 x9 x10 _ h))⟩
theorem closed_outL (o : Out) : closedD 0 (outL o) = true := by
  cases o with
  | stuck => rfl
  | err c p => rfl
  | ok ls en a =>
    show (closedD 0 (.str []) && (true && (closedD 0 (nameD ls) && true))) = true
    rw [closed_name]; rfl
theorem law_read_name (data : List Nat) (hb : ∀ c ∈ data, c < 256) (hz : data.length ≤ 1000) (place : Nat) (hs : rd data place (2 * data.length + 2) place place none [] ≠ .stuck) :
    closeR st (Z.run P (k + 3) 12 [natsD data, .int (place : Int)] st) = .ok (outL (rd data place (2 * data.length + 2) place place none [])) st := by
  rw [run_eq (P := P) (f := 12) rfl (k + 2) _ _ rfl]
  show closeR st (xss (Z.run P (k + 2)) b12 [some (natsD data), some (.int (place : Int)), none, none, none, none, none, none, none, none, none] st).fin = _
  have ln := len_nats (st ++ [.lst []]) data
  have e1 : (2 : Int) * (data.length : Int) + 2 = ((2 * data.length + 2 : Nat) : Int) := by omega
  have sr : srcOf .range1 [.int ((2 * data.length + 2 : Nat) : Int)] (st ++ [.lst []]) = some ⟨rangeD 0 (2 * data.length + 2), fun _ => true⟩ := by
    rw [src_range1 _ _ (in62_of (by omega) (by omega)), Int.toNat_natCast]
  obtain ⟨ds, e⟩ := law_loop k st data hb hz place (2 * data.length + 2) (rangeD 0 (2 * data.length + 2)) place place none [] none none none none (range_len _ _) (by decide) hs
  have lst : opSem .lst [] st = .ok (.loc st.length) (st ++ [.lst []]) := rfl
  have ee : EnvL st data place place place none (size []) none none none none = [some (natsD data), some (.int (place : Int)), some (.int (place : Int)), some (.int (place : Int)), some (.int (-1)), some (.loc st.length), some (.int 1), none, none, none, none] := rfl
  rw [ee, List.map_nil] at e
  have h6 : xs (Fl k) (.for_ (.nm 7) .range1 [.op .add [.op .mul [.c (.int 2), .op .len [.v 0]], .c (.int 2)]] bodyR) [some (natsD data), some (.int (place : Int)), some (.int (place : Int)), some (.int (place : Int)), some (.int (-1)), some (.loc st.length), some (.int 1), none, none, none, none] (st ++ [.lst []]) = .ret (outL (rd data place (2 * data.length + 2) place place none [])) (st ++ [.lst ds]) := by
    rw [xs_for]
    have : evs (Fl k) [.op .add [.op .mul [.c (.int 2), .op .len [.v 0]], .c (.int 2)]] [some (natsD data), some (.int (place : Int)), some (.int (place : Int)), some (.int (place : Int)), some (.int (-1)), some (.loc st.length), some (.int 1), none, none, none, none] (st ++ [.lst []]) = .ok [.int ((2 * data.length + 2 : Nat) : Int)] (st ++ [.lst []]) := by
      simp only [forB_nm, ev_op, ev_v, ev_c, ev_not, ev_and, ev_or, ev_ifx, ev_chain, ev_call, ev_scall, ev_seal, evs_cons, evs_nil, xs_asg, xs_expr, xs_ret, xs_ite, xs_brk, xs_cnt, xs_pass, xs_raise, xss_cons, xss_nil, List.getElem?_cons_zero, List.getElem?_cons_succ, bind_ok, bind_exc, toS_ok, toS_exc, seq_next, seq_ret, seq_exc, fin_ret, fin_next, fin_exc, truth_bl, setT_nm, List.set_cons_succ, List.set_cons_zero, o_addI, o_subI, o_ltI, o_leI, o_gtI, o_geI, o_eqI, o_neI, o_eqS, o_neS, o_eqB, o_neB, o_isB, o_isnotB, o_toInt, o_asInt, o_neg, o_asStr, o_iadd, o_isub, o_isNon, o_isNonI, o_isNonS, o_isnotNon, o_isnotNonI, o_isnotNonS, Bool.not_true, Bool.not_false, close_int, close_bl, close_str, close_non, ln, mul2, e1]
    rw [this, toS_ok, sr]
    exact e
  have h1 : xs (Fl k) (.asg (.nm 2) (.v 1)) [some (natsD data), some (.int (place : Int)), none, none, none, none, none, none, none, none, none] st = .next [some (natsD data), some (.int (place : Int)), some (.int (place : Int)), none, none, none, none, none, none, none, none] st := rfl
  have h2 : xs (Fl k) (.asg (.nm 3) (.v 1)) [some (natsD data), some (.int (place : Int)), some (.int (place : Int)), none, none, none, none, none, none, none, none] st = .next [some (natsD data), some (.int (place : Int)), some (.int (place : Int)), some (.int (place : Int)), none, none, none, none, none, none, none] st := rfl
  have h3 : xs (Fl k) (.asg (.nm 4) (.op .neg [.c (.int 1)])) [some (natsD data), some (.int (place : Int)), some (.int (place : Int)), some (.int (place : Int)), none, none, none, none, none, none, none] st = .next [some (natsD data), some (.int (place : Int)), some (.int (place : Int)), some (.int (place : Int)), some (.int (-1)), none, none, none, none, none, none] st := rfl
  have h4 : xs (Fl k) (.asg (.nm 5) (.op .lst [])) [some (natsD data), some (.int (place : Int)), some (.int (place : Int)), some (.int (place : Int)), some (.int (-1)), none, none, none, none, none, none] st = .next [some (natsD data), some (.int (place : Int)), some (.int (place : Int)), some (.int (place : Int)), some (.int (-1)), some (.loc st.length), none, none, none, none, none] (st ++ [.lst []]) := by
    simp only [forB_nm, ev_op, ev_v, ev_c, ev_not, ev_and, ev_or, ev_ifx, ev_chain, ev_call, ev_scall, ev_seal, evs_cons, evs_nil, xs_asg, xs_expr, xs_ret, xs_ite, xs_brk, xs_cnt, xs_pass, xs_raise, xss_cons, xss_nil, List.getElem?_cons_zero, List.getElem?_cons_succ, bind_ok, bind_exc, toS_ok, toS_exc, seq_next, seq_ret, seq_exc, fin_ret, fin_next, fin_exc, truth_bl, setT_nm, List.set_cons_succ, List.set_cons_zero, o_addI, o_subI, o_ltI, o_leI, o_gtI, o_geI, o_eqI, o_neI, o_eqS, o_neS, o_eqB, o_neB, o_isB, o_isnotB, o_toInt, o_asInt, o_neg, o_asStr, o_iadd, o_isub, o_isNon, o_isNonI, o_isNonS, o_isnotNon, o_isnotNonI, o_isnotNonS, Bool.not_true, Bool.not_false, close_int, close_bl, close_str, close_non, lst]
  have h5 : xs (Fl k) (.asg (.nm 6) (.c (.int 1))) [some (natsD data), some (.int (place : Int)), some (.int (place : Int)), some (.int (place : Int)), some (.int (-1)), some (.loc st.length), none, none, none, none, none] (st ++ [.lst []]) = .next [some (natsD data), some (.int (place : Int)), some (.int (place : Int)), some (.int (place : Int)), some (.int (-1)), some (.loc st.length), some (.int 1), none, none, none, none] (st ++ [.lst []]) := rfl
  rw [b12_eq, xss_step h1 (xss_step h2 (xss_step h3 (xss_step h4 (xss_step h5 rfl)))), xss_cons, h6, seq_ret]
  exact close_pd (Gr.app _ _) (closed_outL _)
end
end K6

set_option autoImplicit false
namespace K6
/-! ## the turns are enough: no place is passed twice, but in the last run -/
/-- labels lead from a place to a pointer -/
inductive Lead (data : List Nat) (t : Nat) : Nat → Prop
  | here {p : Nat} (h : p + 1 < data.length) : 192 ≤ data[p] → (data[p] - 192) * 256 + data[p + 1] = t → Lead data t p
  | next {p : Nat} (h : p < data.length) : ¬ 192 ≤ data[p] → data[p] ≠ 0 → Lead data t (p + 1 + data[p]) → Lead data t p
theorem Lead.one {data : List Nat} {t u p : Nat} (a : Lead data t p) (b : Lead data u p) : t = u := by
  induction a with
  | here h h1 h2 =>
    cases b with
    | here _ _ h3 => rw [← h2, ← h3]
    | next _ h3 _ _ => exact absurd h1 h3
  | next h h1 _ _ ih =>
    cases b with
    | here _ h3 _ => exact absurd h3 h1
    | next _ _ _ h4 => exact ih h4
theorem nodup_lt {n : Nat} : ∀ {xs : List Nat}, xs.Nodup → (∀ x ∈ xs, x < n) → xs.length ≤ n := by
  induction n with
  | zero =>
    intro xs _ h
    cases xs with
    | nil => exact Nat.le_refl _
    | cons x xs => exact absurd (h x List.mem_cons_self) (Nat.not_lt_zero _)
  | succ n ih =>
    intro xs nd h
    have h1 : (xs.erase n).length ≤ n := ih (nd.erase n) fun x hx => by
      have h2 := h x (List.mem_of_mem_erase hx)
      have h3 : x ≠ n := fun e => by rw [e] at hx; exact (List.Nodup.not_mem_erase nd) hx
      omega
    have h4 := List.length_erase (a := n) (l := xs)
    split at h4 <;> omega
theorem rd_turns (data : List Nat) (place : Nat) : ∀ (n at_ ru : Nat) (en : Option Nat) (ls : List (List Nat)) (V W : List Nat), True →
    V.Nodup → (∀ x ∈ V, x < data.length ∧ ∃ t, ru ≤ t ∧ Lead data t x) → (∀ x ∈ W, x < data.length ∧ x < at_ ∧ ∀ t, Lead data t at_ → Lead data t x) → W.Nodup →
    2 * data.length + 1 ≤ n + V.length + W.length → 1 ≤ n → rd data place n at_ ru en ls ≠ .stuck
  | 0, _, _, _, _, _, _, _, _, _, _, _, _, h => absurd h (by decide)
  | n + 1, at_, ru, en, ls, V, W, _, hV, hv, hw, hW, hn, _ => by
    have lv := nodup_lt hV fun x hx => (hv x hx).1
    rw [rd]
    by_cases h : at_ < data.length
    · rw [dif_pos h]
      have lw := nodup_lt hW fun x hx => (hw x hx).2.1
      by_cases h0 : data[at_] = 0
      · rw [if_pos h0]; exact fun e => by cases e
      rw [if_neg h0]
      have nd1 : (at_ :: W).Nodup := List.nodup_cons.mpr ⟨fun hm => absurd (hw _ hm).2.1 (Nat.lt_irrefl _), hW⟩
      by_cases h1 : 192 ≤ data[at_]
      · rw [if_pos h1]
        by_cases h2 : at_ + 1 < data.length
        · rw [dif_pos h2]
          by_cases h3 : ru ≤ (data[at_] - 192) * 256 + data[at_ + 1]
          · rw [if_pos h3]; exact fun e => by cases e
          rw [if_neg h3]
          generalize ht : (data[at_] - 192) * 256 + data[at_ + 1] = t at h3
          have la : Lead data t at_ := .here h2 h1 ht
          have all : ∀ x ∈ at_ :: W, x < data.length ∧ Lead data t x := fun x hx => by
            rcases List.mem_cons.mp hx with rfl | hx
            · exact ⟨h, la⟩
            · exact ⟨(hw x hx).1, (hw x hx).2.2 t la⟩
          have nd2 : (V ++ (at_ :: W)).Nodup := by
            refine List.nodup_append.mpr ⟨hV, nd1, fun a ha b hb e => ?_⟩
            subst e
            obtain ⟨u, hu, lu⟩ := (hv a ha).2
            have := lu.one (all a hb).2
            omega
          have l2 := nodup_lt nd2 fun x hx => by
            rcases List.mem_append.mp hx with hx | hx
            · exact (hv x hx).1
            · exact (all x hx).1
          rw [List.length_append, List.length_cons] at l2
          refine rd_turns data place n t t _ ls (V ++ (at_ :: W)) [] trivial nd2 (fun x hx => ?_) (fun x hx => by cases hx) .nil ?_ (by omega)
          · rcases List.mem_append.mp hx with hx | hx
            · obtain ⟨q, u, hu, lu⟩ := hv x hx
              exact ⟨q, u, by omega, lu⟩
            · exact ⟨(all x hx).1, t, Nat.le_refl _, (all x hx).2⟩
          · rw [List.length_append, List.length_cons, List.length_nil]; omega
        · rw [dif_neg h2]; exact fun e => by cases e
      rw [if_neg h1]
      by_cases h2 : 63 < data[at_]
      · rw [if_pos h2]; exact fun e => by cases e
      rw [if_neg h2]
      by_cases h3 : data.length < at_ + 1 + data[at_]
      · rw [if_pos h3]; exact fun e => by cases e
      rw [if_neg h3]
      cases bad ((data.drop (at_ + 1)).take data[at_]) with
      | some j => exact fun e => by cases e
      | none =>
        simp only
        by_cases h4 : 255 < size (ls ++ [spell ((data.drop (at_ + 1)).take data[at_])])
        · rw [if_pos h4]; exact fun e => by cases e
        rw [if_neg h4]
        have l3 := nodup_lt nd1 fun x hx => by
          rcases List.mem_cons.mp hx with rfl | hx
          · exact h
          · exact (hw x hx).1
        rw [List.length_cons] at l3
        refine rd_turns data place n _ ru en _ V (at_ :: W) trivial hV hv (fun x hx => ?_) nd1 (by rw [List.length_cons]; omega) (by omega)
        rcases List.mem_cons.mp hx with rfl | hx
        · exact ⟨h, by omega, fun t l => .next h h1 h0 l⟩
        · exact ⟨(hw x hx).1, by have := (hw x hx).2.1; omega, fun t l => (hw x hx).2.2 t (.next h h1 h0 l)⟩
    · rw [dif_neg h]; exact fun e => by cases e
theorem rd_ok (data : List Nat) (place : Nat) : rd data place (2 * data.length + 2) place place none [] ≠ .stuck :=
  rd_turns data place _ place place none [] [] [] trivial .nil (fun x hx => by cases hx) (fun x hx => by cases hx) .nil (by simp) (by omega)
end K6

set_option autoImplicit false
set_option maxHeartbeats 2000000
namespace K6
open PySem L2 Z

/-! ## the drawn bytes -/
def natsL (xs : List Nat) : List D := xs.map fun (n : Nat) => D.int (n : Int)
theorem natsL_app (a b : List Nat) : natsL (a ++ b) = natsL a ++ natsL b := List.map_append
theorem natsL_len (a : List Nat) : (natsL a).length = a.length := List.length_map _
theorem asLst_at {s : Store} {l : Nat} {xs : List D} (h : s[l]? = some (.lst xs)) : opSem (.x .asLst) [.loc l] s = .ok (.loc l) s := by
  show (match s[l]? with | some (DO.lst _) => R.ok (D.loc l) s | _ => .bad) = _
  rw [h]
theorem append_at {s : Store} {l : Nat} {xs : List D} (d : D) (h : s[l]? = some (.lst xs)) (hl : xs.length < 100000) : opSem (.x (.meth .append)) [.loc l, d] s = .ok .non (s.set l (.lst (xs ++ [d]))) := by
  show (match s[l]? with | some (DO.lst xs) => if xs.length < SZ then R.ok D.non (s.set l (.lst (xs ++ [d]))) else .bad | _ => .bad) = _
  rw [h]
  exact if_pos (by show xs.length < 16777216; omega)
theorem extend_at {s : Store} {l : Nat} {xs ys : List D} (h : s[l]? = some (.lst xs)) (hl : xs.length + ys.length < 100000) : opSem (.x (.meth .extend)) [.loc l, .flst ys] s = .ok .non (s.set l (.lst (xs ++ ys))) := by
  show (match s[l]? with | some (DO.lst xs) => (match lst1 s (.flst ys) with | some ys => if xs.length + ys.length ≤ SZ then R.ok D.non (s.set l (.lst (xs ++ ys))) else .bad | none => .bad) | _ => .bad) = _
  rw [h]
  exact if_pos (by show xs.length + ys.length ≤ 16777216; omega)
theorem len_at {s : Store} {l : Nat} {xs : List D} (h : s[l]? = some (.lst xs)) : opSem .len [.loc l] s = .ok (.int (xs.length : Nat)) s := by
  show (match itemsD s (.loc l) with | some xs => R.ok (D.int (xs.length : Nat)) s | none => .bad) = _
  rw [items_loc h]
theorem ix_const (s : Store) (xs : List Nat) (d : Int) (h : 0 ≤ d) (h2 : d < xs.length) : ∃ v ∈ xs, opSem .ix [natsD xs, .int d] s = .ok (.int (v : Nat)) s := by
  have hl : d.toNat < xs.length := by omega
  refine ⟨xs[d.toNat], List.getElem_mem hl, ?_⟩
  have := ix_nats s xs d.toNat hl
  rw [Int.toNat_of_nonneg h] at this
  exact this
/-- what a part of the drawn bytes is known by -/
structure PI (a L m : Nat) (st0 : Store) (s : Store) : Prop where
  st : StOk a s
  fr : Fr a st0 s
  at_ : ∃ xs : List Nat, s[L]? = some (.lst (natsL xs)) ∧ (∀ c ∈ xs, c < 256) ∧ xs.length ≤ m
section
variable (k : Nat) {ns : List Int} {a L : Nat} {st0 : Store}
theorem PI.push {m : Nat} {s : Store} (h : PI a L m st0 s) (hL : L ≠ a) (h0 : st0.length ≤ L) (hm : m < 1000) (n : Nat) (hn : n < 256) : opSem (.x .asLst) [.loc L] s = .ok (.loc L) s ∧
    ∃ s', opSem (.x (.meth .append)) [.loc L, .int (n : Int)] s = .ok .non s' ∧ PI a L (m + 1) st0 s' := by
  obtain ⟨xs, hx, hb, hl⟩ := h.at_
  refine ⟨asLst_at hx, _, append_at _ hx (by rw [natsL_len]; omega), h.st.set hL _, h.fr.at_new h0 _, xs ++ [n], ?_, fun c hc => ?_, by simp; omega⟩
  · rw [set_same hx, natsL_app]; rfl
  · rcases List.mem_append.mp hc with hc | hc
    · exact hb c hc
    · rw [List.mem_singleton.mp hc]; exact hn
theorem PI.pushes {m : Nat} {s : Store} (h : PI a L m st0 s) (hL : L ≠ a) (h0 : st0.length ≤ L) (hm : m < 1000) (ys : List Nat) (hn : ∀ c ∈ ys, c < 256) (hy : ys.length = 2) : opSem (.x .asLst) [.loc L] s = .ok (.loc L) s ∧
    ∃ s', opSem (.x (.meth .extend)) [.loc L, natsD ys] s = .ok .non s' ∧ PI a L (m + 2) st0 s' := by
  obtain ⟨xs, hx, hb, hl⟩ := h.at_
  refine ⟨asLst_at hx, _, extend_at (ys := natsL ys) hx (by rw [natsL_len, natsL_len]; omega), h.st.set hL _, h.fr.at_new h0 _, xs ++ ys, ?_, fun c hc => ?_, by simp; omega⟩
  · rw [set_same hx, natsL_app]
  · rcases List.mem_append.mp hc with hc | hc
    · exact hb c hc
    · exact hn c hc
theorem PI.mono {m n : Nat} {s : Store} (h : PI a L m st0 s) (hm : m ≤ n) : PI a L n st0 s := by
  obtain ⟨xs, hx, hb, hl⟩ := h.at_
  exact ⟨h.st, h.fr, xs, hx, hb, by omega⟩
theorem PI.len {m : Nat} {s : Store} (h : PI a L m st0 s) : ∃ n : Nat, opSem .len [.loc L] s = .ok (.int (n : Int)) s ∧ n ≤ m := by
  obtain ⟨xs, hx, hb, hl⟩ := h.at_
  exact ⟨_, len_at hx, by rw [natsL_len]; exact hl⟩
theorem PI.draw {m : Nat} {s : Store} (h : PI a L m st0 s) (hL : L ≠ a) (h0 : st0.length ≤ L) (size : Int) (h1 : 0 < size) (h2 : size < 1000000) :
    ∃ d s', Z.run P (k + 1) 9 [.loc a, .slst (ns.map .int), .int size] s = .ok (.int d) s' ∧ 0 ≤ d ∧ d < size ∧ PI a L m st0 s' := by
  obtain ⟨xs, hx, hb, hl⟩ := h.at_
  obtain ⟨d, s', e, d0, d1, so, f⟩ := Z.draw (P := P) (f := 9) rfl k (ns := ns) h.st h1 (by omega)
  have hlt := (List.getElem?_eq_some_iff.mp hx).1
  exact ⟨d, s', e, d0, d1, so, h.fr.trans ⟨by have := f.1; have := h.fr.1; omega, fun l hl ne => f.2 l hl ne⟩, xs, by rw [f.2 L hlt hL]; exact hx, hb, hl⟩
def cs8 : List Nat := [97, 65, 122, 48, 57, 45, 95, 90]
def ds8 : List Nat := [42, 64, 91, 96, 123, 37, 47, 58]
theorem lt8 : ∀ v, v ∈ cs8 ∨ v ∈ ds8 → v < 256 := fun v h => h.elim ((by decide : ∀ v ∈ cs8, v < 256) v) ((by decide : ∀ v ∈ ds8, v < 256) v)
def bodyQ : List Sx := [.expr (.op (.x (.meth .append)) [.op (.x .asLst) [.v 2], .op .ix [.op (.x .flit) [.c (.int 97), .c (.int 65), .c (.int 122), .c (.int 48),
    .c (.int 57), .c (.int 45), .c (.int 95), .c (.int 90)], .call 9 [.v 0, .v 1, .c (.int 8)]]])]
def bodyP : List Sx := [.asg (.nm 4) (.call 9 [.v 0, .v 1, .c (.int 8)]),
    .ite (.op .lt [.v 4, .c (.int 4)]) [.asg (.nm 5) (.op .add [.c (.int 1), .call 9 [.v 0, .v 1, .c (.int 3)]]),
    .expr (.op (.x (.meth .append)) [.op (.x .asLst) [.v 2], .v 5]), .for_ (.nm 6) .range1 [.v 5] bodyQ] [.ite (.op .lt [.v 4,
    .c (.int 6)]) [.expr (.op (.x (.meth .extend)) [.op (.x .asLst) [.v 2], .op (.x .flit) [.c (.int 192), .call 9 [.v 0, .v 1,
    .op .add [.op .len [.v 2], .c (.int 2)]]]])] [.ite (.op .eq [.v 4, .c (.int 6)]) [.expr (.op (.x (.meth .append)) [.op (.x .asLst) [.v 2],
    .c (.int 0)])] [.expr (.op (.x (.meth .extend)) [.op (.x .asLst) [.v 2], .op (.x .flit) [.c (.int 1), .op .ix [.op (.x .flit) [.c (.int 42),
    .c (.int 64), .c (.int 91), .c (.int 96), .c (.int 123), .c (.int 37), .c (.int 47), .c (.int 58)], .call 9 [.v 0, .v 1, .c (.int 8)]]]])]]]]
theorem b14_eq : b14 = [.asg (.nm 2) (.op .lst []), .for_ (.nm 3) .range1 [.call 9 [.v 0, .v 1, .c (.int 20)]] bodyP, .ret (.v 2)] := rfl
def EnvQ (ns : List Int) (a L : Nat) (x3 x4 x5 x6 : Option D) : Z.Env := [some (.loc a), some (.slst (ns.map .int)), some (.loc L), x3, x4, x5, x6]
theorem lit_cs (s : Store) : opSem (.x .flit) [.int 97, .int 65, .int 122, .int 48, .int 57, .int 45, .int 95, .int 90] s = .ok (natsD cs8) s := rfl
theorem lit_ds (s : Store) : opSem (.x .flit) [.int 42, .int 64, .int 91, .int 96, .int 123, .int 37, .int 47, .int 58] s = .ok (natsD ds8) s := rfl
theorem turn_q (x3 x4 x5 x6 : Option D) {m : Nat} {s : Store} (h : PI a L m st0 s) (hL : L ≠ a) (h0 : st0.length ≤ L) (hm : m < 900) : ∃ s', xss (Z.run P (k + 1)) bodyQ (EnvQ ns a L x3 x4 x5 x6) s = .next (EnvQ ns a L x3 x4 x5 x6) s' ∧ PI a L (m + 1) st0 s' := by
  obtain ⟨al, -⟩ := h.push hL h0 (by omega) 0 (by decide)
  obtain ⟨d, s1, e1, d0, d1, h1⟩ := h.draw k (ns := ns) hL h0 8 (by decide) (by decide)
  obtain ⟨v, hv, ix⟩ := ix_const s1 cs8 d d0 (by show d < 8; omega)
  have hv2 : v < 256 := lt8 v (by first | exact .inl hv | exact .inr hv)
  obtain ⟨-, s2, ap, h2⟩ := h1.push hL h0 (by omega) v hv2
  exact ⟨s2, by simp only [bodyQ, EnvQ, forB_nm, ev_op, ev_v, ev_c, ev_not, ev_and, ev_or, ev_ifx, ev_chain, ev_call, ev_scall, ev_seal, evs_cons, evs_nil, xs_asg, xs_expr, xs_ret, xs_ite, xs_brk, xs_cnt, xs_pass, xs_raise, xss_cons, xss_nil, List.getElem?_cons_zero, List.getElem?_cons_succ, bind_ok, bind_exc, toS_ok, toS_exc, seq_next, seq_ret, seq_exc, fin_ret, fin_next, fin_exc, truth_bl, setT_nm, List.set_cons_succ, List.set_cons_zero, o_addI, o_subI, o_ltI, o_leI, o_gtI, o_geI, o_eqI, o_neI, o_eqS, o_neS, o_eqB, o_neB, o_isB, o_isnotB, o_toInt, o_asInt, o_neg, o_asStr, o_iadd, o_isub, o_isNon, o_isNonI, o_isNonS, o_isnotNon, o_isnotNonI, o_isnotNonS, Bool.not_true, Bool.not_false, close_int, close_bl, close_str, close_non, al, lit_cs, e1, ix, ap], h2⟩
theorem turn_p (x3 x4 x5 x6 : Option D) {m : Nat} {s : Store} (h : PI a L m st0 s) (hL : L ≠ a) (h0 : st0.length ≤ L) (hm : m < 240) : ∃ x4' x5' x6' s', xss (Z.run P (k + 1)) bodyP (EnvQ ns a L x3 x4 x5 x6) s = .next (EnvQ ns a L x3 x4' x5' x6') s' ∧ PI a L (m + 4) st0 s' := by
  obtain ⟨d, s1, e1, d0, d1, h1⟩ := h.draw k (ns := ns) hL h0 8 (by decide) (by decide)
  by_cases c1 : d < 4
  · have i1 : decide (d < 4) = true := decide_eq_true c1
    obtain ⟨m2, s2, e2, m0, m1, h2⟩ := h1.draw k (ns := ns) hL h0 3 (by decide) (by decide)
    obtain ⟨al, s3, ap, h3⟩ := h2.push hL h0 (by omega) (1 + m2).toNat (by omega)
    rw [Int.toNat_of_nonneg (by omega)] at ap
    have sr := src_range1 (1 + m2) s3 (in62_of (by omega) (by omega))
    obtain ⟨env', s4, e4, ⟨x6', rfl, h4⟩⟩ := evFor_ix (same := fun _ => true) (one := forB (Z.run P (k + 1)) (.nm 6) bodyQ) (fun j env s => ∃ x6', env = EnvQ ns a L x3 (some (.int d)) (some (.int (1 + m2))) x6' ∧ PI a L (m + 1 + j) st0 s) (fun _ _ _ _ => rfl)
      (rangeD 0 (1 + m2).toNat) 0 (EnvQ ns a L x3 (some (.int d)) (some (.int (1 + m2))) x6) s3 (fun j y hy env s ⟨x6', he, hs⟩ => by
        subst he
        obtain ⟨rfl, hj⟩ := range_get hy
        obtain ⟨s', e', h'⟩ := turn_q k (ns := ns) x3 (some (.int d)) (some (.int (1 + m2))) (some (.int (0 + (j : Int)))) hs hL h0 (by omega)
        exact ⟨_, s', .inl e', some (.int (0 + (j : Int))), rfl, h'.mono (by omega)⟩) ⟨x6, rfl, h3⟩
    rw [range_len] at h4
    refine ⟨some (.int d), some (.int (1 + m2)), x6', s4, ?_, h4.mono (by omega)⟩
    unfold EnvQ at e4 ⊢
    simp only [bodyP, forB_nm, ev_op, ev_v, ev_c, ev_not, ev_and, ev_or, ev_ifx, ev_chain, ev_call, ev_scall, ev_seal, evs_cons, evs_nil, xs_asg, xs_expr, xs_ret, xs_ite, xs_brk, xs_cnt, xs_pass, xs_raise, xss_cons, xss_nil, List.getElem?_cons_zero, List.getElem?_cons_succ, bind_ok, bind_exc, toS_ok, toS_exc, seq_next, seq_ret, seq_exc, fin_ret, fin_next, fin_exc, truth_bl, setT_nm, List.set_cons_succ, List.set_cons_zero, o_addI, o_subI, o_ltI, o_leI, o_gtI, o_geI, o_eqI, o_neI, o_eqS, o_neS, o_eqB, o_neB, o_isB, o_isnotB, o_toInt, o_asInt, o_neg, o_asStr, o_iadd, o_isub, o_isNon, o_isNonI, o_isNonS, o_isnotNon, o_isnotNonI, o_isnotNonS, Bool.not_true, Bool.not_false, close_int, close_bl, close_str, close_non, e1, i1, e2, al, ap, xs_for, sr, e4]
  · have i1 : decide (d < 4) = false := decide_eq_false c1
    by_cases c2 : d < 6
    · have i2 : decide (d < 6) = true := decide_eq_true c2
      obtain ⟨n, ln, hn⟩ := h1.len
      obtain ⟨al, -⟩ := h1.push hL h0 (by omega) 0 (by decide)
      obtain ⟨v, s2, e2, v0, v1, h2⟩ := h1.draw k (ns := ns) hL h0 ((n : Int) + 2) (by omega) (by omega)
      obtain ⟨-, s3, ap, h3⟩ := h2.pushes hL h0 (by omega) [192, v.toNat] (fun c hc => by simp at hc; omega) rfl
      have fl : opSem (.x .flit) [.int 192, .int v] s2 = .ok (natsD [192, v.toNat]) s2 := by
        show R.ok (D.flst [.int 192, .int v]) s2 = .ok (.flst [.int ((192 : Nat) : Int), .int ((v.toNat : Nat) : Int)]) s2
        rw [Int.toNat_of_nonneg v0]; rfl
      refine ⟨some (.int d), x5, x6, s3, ?_, h3.mono (by omega)⟩
      unfold EnvQ
      simp only [bodyP, forB_nm, ev_op, ev_v, ev_c, ev_not, ev_and, ev_or, ev_ifx, ev_chain, ev_call, ev_scall, ev_seal, evs_cons, evs_nil, xs_asg, xs_expr, xs_ret, xs_ite, xs_brk, xs_cnt, xs_pass, xs_raise, xss_cons, xss_nil, List.getElem?_cons_zero, List.getElem?_cons_succ, bind_ok, bind_exc, toS_ok, toS_exc, seq_next, seq_ret, seq_exc, fin_ret, fin_next, fin_exc, truth_bl, setT_nm, List.set_cons_succ, List.set_cons_zero, o_addI, o_subI, o_ltI, o_leI, o_gtI, o_geI, o_eqI, o_neI, o_eqS, o_neS, o_eqB, o_neB, o_isB, o_isnotB, o_toInt, o_asInt, o_neg, o_asStr, o_iadd, o_isub, o_isNon, o_isNonI, o_isNonS, o_isnotNon, o_isnotNonI, o_isnotNonS, Bool.not_true, Bool.not_false, close_int, close_bl, close_str, close_non, e1, i1, i2, al, ln, e2, fl, ap]
    · have i2 : decide (d < 6) = false := decide_eq_false c2
      by_cases c3 : d = 6
      · have i3 : (d == 6) = true := by simpa using c3
        obtain ⟨al, s3, ap, h3⟩ := h1.push hL h0 (by omega) 0 (by decide)
        have ap : opSem (.x (.meth .append)) [.loc L, .int 0] s1 = .ok .non s3 := ap
        refine ⟨some (.int d), x5, x6, s3, ?_, h3.mono (by omega)⟩
        unfold EnvQ
        simp only [bodyP, forB_nm, ev_op, ev_v, ev_c, ev_not, ev_and, ev_or, ev_ifx, ev_chain, ev_call, ev_scall, ev_seal, evs_cons, evs_nil, xs_asg, xs_expr, xs_ret, xs_ite, xs_brk, xs_cnt, xs_pass, xs_raise, xss_cons, xss_nil, List.getElem?_cons_zero, List.getElem?_cons_succ, bind_ok, bind_exc, toS_ok, toS_exc, seq_next, seq_ret, seq_exc, fin_ret, fin_next, fin_exc, truth_bl, setT_nm, List.set_cons_succ, List.set_cons_zero, o_addI, o_subI, o_ltI, o_leI, o_gtI, o_geI, o_eqI, o_neI, o_eqS, o_neS, o_eqB, o_neB, o_isB, o_isnotB, o_toInt, o_asInt, o_neg, o_asStr, o_iadd, o_isub, o_isNon, o_isNonI, o_isNonS, o_isnotNon, o_isnotNonI, o_isnotNonS, Bool.not_true, Bool.not_false, close_int, close_bl, close_str, close_non, e1, i1, i2, i3, al, ap]
      · have i3 : (d == 6) = false := by simpa using c3
        obtain ⟨al, -⟩ := h1.push hL h0 (by omega) 0 (by decide)
        obtain ⟨w, s2, e2, w0, w1, h2⟩ := h1.draw k (ns := ns) hL h0 8 (by decide) (by decide)
        obtain ⟨v, hv, ix⟩ := ix_const s2 ds8 w w0 (by show w < 8; omega)
        have hv2 : v < 256 := lt8 v (by first | exact .inl hv | exact .inr hv)
        obtain ⟨-, s3, ap, h3⟩ := h2.pushes hL h0 (by omega) [1, v] (fun c hc => by simp at hc; omega) rfl
        have fl : opSem (.x .flit) [.int 1, .int (v : Int)] s2 = .ok (natsD [1, v]) s2 := rfl
        refine ⟨some (.int d), x5, x6, s3, ?_, h3.mono (by omega)⟩
        unfold EnvQ
        simp only [bodyP, forB_nm, ev_op, ev_v, ev_c, ev_not, ev_and, ev_or, ev_ifx, ev_chain, ev_call, ev_scall, ev_seal, evs_cons, evs_nil, xs_asg, xs_expr, xs_ret, xs_ite, xs_brk, xs_cnt, xs_pass, xs_raise, xss_cons, xss_nil, List.getElem?_cons_zero, List.getElem?_cons_succ, bind_ok, bind_exc, toS_ok, toS_exc, seq_next, seq_ret, seq_exc, fin_ret, fin_next, fin_exc, truth_bl, setT_nm, List.set_cons_succ, List.set_cons_zero, o_addI, o_subI, o_ltI, o_leI, o_gtI, o_geI, o_eqI, o_neI, o_eqS, o_neS, o_eqB, o_neB, o_isB, o_isnotB, o_toInt, o_asInt, o_neg, o_asStr, o_iadd, o_isub, o_isNon, o_isNonI, o_isNonS, o_isnotNon, o_isnotNonI, o_isnotNonS, Bool.not_true, Bool.not_false, close_int, close_bl, close_str, close_non, e1, i1, i2, i3, al, lit_ds, e2, ix, fl, ap]
end
theorem stok_set {a : Nat} {st s : Store} (h : StOk a s) (hf : Fr a st s) (ha : a < st.length) : ∃ o, s[a]? = some o ∧ closedO st.length o = true ∧ StOk a (st.set a o) := by
  obtain ⟨i, j, e, r1, r2⟩ := h
  exact ⟨_, e, rfl, i, j, List.getElem?_set_self ha, r1, r2⟩
/-- a list that the run made, and the state that it left -/
theorem close_made {a l : Nat} {st s : Store} {xs : List Nat} (h : StOk a s) (hf : Fr a st s) (ha : a < st.length) (hl : st.length ≤ l) (hs : s[l]? = some (.lst (natsL xs))) : ∃ st', closeR st (.ok (.loc l) s) = .ok (natsD xs) st' ∧ StOk a st' ∧ ∃ o, st' = st.set a o := by
  obtain ⟨o, e, c, so⟩ := stok_set h hf ha
  refine ⟨_, close_at hf e c ?_, so, o, rfl⟩
  show (if l < st.length then some (D.loc l) else sealAt st.length s 8 l) = _
  rw [if_neg (by omega)]
  unfold sealAt
  rw [hs]
  show (sealDs st.length (sealAt st.length s 7) (natsL xs)).map D.flst = _
  rw [seals_closed (ds := natsL xs) (closeds_map (fun _ => rfl) _)]; rfl
theorem parts (k : Nat) {ns : List Int} {a : Nat} {st : Store} (h : StOk a st) : ∃ (data : List Nat) (st' : Store), closeR st (Z.run P (k + 2) 14 [.loc a, .slst (ns.map .int)] st) = .ok (natsD data) st' ∧ (∀ c ∈ data, c < 256) ∧ data.length ≤ 100 ∧ StOk a st' ∧ ∃ o, st' = st.set a o := by
  rw [run_eq (P := P) (f := 14) rfl (k + 1) _ _ rfl]
  show ∃ data st', closeR st (xss _ b14 [some (.loc a), some (.slst (ns.map .int)), none, none, none, none, none] st).fin = _ ∧ _
  have lst : opSem .lst [] st = .ok (.loc st.length) (st ++ [.lst []]) := rfl
  have ha := h.lt
  have p0 : PI a st.length 0 st (st ++ [.lst []]) := ⟨h.app _, Fr.app _, [], new_at _ _, (fun _ hc => by cases hc), by decide⟩
  obtain ⟨d, s1, e1, d0, d1, h1⟩ := p0.draw k (ns := ns) (by omega) (Nat.le_refl _) 20 (by decide) (by decide)
  obtain ⟨env', s2, e2, ⟨x3', x4', x5', x6', rfl, h2⟩⟩ := evFor_ix (same := fun _ => true) (one := forB (Z.run P (k + 1)) (.nm 3) bodyP) (fun j env s => ∃ x3' x4' x5' x6', env = EnvQ ns a st.length x3' x4' x5' x6' ∧ PI a st.length (4 * j) st s) (fun _ _ _ _ => rfl)
      (rangeD 0 d.toNat) 0 (EnvQ ns a st.length none none none none) s1 (fun j y hy env s ⟨x3', x4', x5', x6', he, hs⟩ => by
        subst he
        obtain ⟨rfl, hj⟩ := range_get hy
        obtain ⟨y4, y5, y6, s', e', h'⟩ := turn_p k (ns := ns) (some (.int (0 + (j : Int)))) x4' x5' x6' hs (by omega) (Nat.le_refl _) (by omega)
        exact ⟨_, s', .inl e', _, y4, y5, y6, rfl, h'.mono (by omega)⟩) ⟨_, _, _, _, rfl, h1⟩
  rw [range_len] at h2
  obtain ⟨xs, hx, hb, hl⟩ := h2.at_
  obtain ⟨st', c1, c2⟩ := close_made h2.st h2.fr ha (Nat.le_refl _) hx
  refine ⟨xs, st', ?_, hb, by omega, c2⟩
  rw [← c1]
  have sr := src_range1 d s1 (in62_of d0 (by omega))
  unfold EnvQ at e2
  simp only [b14_eq, forB_nm, ev_op, ev_v, ev_c, ev_not, ev_and, ev_or, ev_ifx, ev_chain, ev_call, ev_scall, ev_seal, evs_cons, evs_nil, xs_asg, xs_expr, xs_ret, xs_ite, xs_brk, xs_cnt, xs_pass, xs_raise, xss_cons, xss_nil, List.getElem?_cons_zero, List.getElem?_cons_succ, bind_ok, bind_exc, toS_ok, toS_exc, seq_next, seq_ret, seq_exc, fin_ret, fin_next, fin_exc, truth_bl, setT_nm, List.set_cons_succ, List.set_cons_zero, o_addI, o_subI, o_ltI, o_leI, o_gtI, o_geI, o_eqI, o_neI, o_eqS, o_neS, o_eqB, o_neB, o_isB, o_isnotB, o_toInt, o_asInt, o_neg, o_asStr, o_iadd, o_isub, o_isNon, o_isNonI, o_isNonS, o_isnotNon, o_isnotNonI, o_isnotNonS, Bool.not_true, Bool.not_false, close_int, close_bl, close_str, close_non, lst, e1, xs_for, sr, e2]
/-! ## the long ones -/
theorem add_at {s : Store} {x y : D} {xs ys : List D} (hn : ∀ i, x ≠ .int i) (hs : ∀ i, x ≠ .str i) (ht : ∀ i, x ≠ .tup i) (hx : lst1 s x = some xs) (hy : lst1 s y = some ys) (hz : xs.length + ys.length ≤ 100000) : opSem .add [x, y] s = .ok (.loc s.length) (s ++ [.lst (xs ++ ys)]) := by
  have e : addSem x y s = (match lst1 s x with
    | some s1 => match lst1 s y with
      | some t => if s1.length + t.length ≤ SZ then .ok (.loc s.length) (s ++ [.lst (s1 ++ t)]) else .bad
      | none => .bad
    | none => .bad) := by
    unfold addSem
    split
    · rename_i i j; exact absurd rfl (hn i)
    · rename_i i j; exact absurd rfl (hs i)
    · rename_i i j; exact absurd rfl (ht i)
    · rfl
  show addSem x y s = _
  rw [e, hx, hy]
  exact if_pos (by show xs.length + ys.length ≤ 16777216; omega)
theorem lst1_loc {s : Store} {l : Nat} {xs : List D} (h : s[l]? = some (.lst xs)) : lst1 s (.loc l) = some xs := by
  show (match s[l]? with | some (DO.lst xs) => some xs | _ => none) = _
  rw [h]
theorem add_loc {s : Store} {l : Nat} {xs ys : List D} {y : D} (hx : s[l]? = some (.lst xs)) (hy : lst1 s y = some ys) (hz : xs.length + ys.length ≤ 100000) : opSem .add [.loc l, y] s = .ok (.loc s.length) (s ++ [.lst (xs ++ ys)]) :=
  add_at (fun _ z => nomatch z) (fun _ z => nomatch z) (fun _ z => nomatch z) (lst1_loc hx) hy hz
theorem mul_one {s : Store} {x : D} {d : D} {n : Nat} (hs : ∀ i, x ≠ .str i) (hx : lst1 s x = some [d]) (hi : ∀ i, x ≠ .int i) (hn : n ≤ 100000) : opSem .mul [x, .int (n : Int)] s = .ok (.loc s.length) (s ++ [.lst (List.replicate n d)]) := by
  have e : opSem .mul [x, .int (n : Int)] s = mulSem x (.int (n : Int)) s := by
    cases x with
    | int i => exact absurd rfl (hi i)
    | _ => rfl
  have e2 : mulSem x (.int (n : Int)) s = (match lst1 s x with
      | some xs => if -9223372036854775808 ≤ (n : Int) ∧ (n : Int) < 9223372036854775808 ∧ xs.length * (n : Int).toNat ≤ SZ then .ok (.loc s.length) (s ++ [.lst (List.replicate (n : Int).toNat xs).flatten]) else .bad
      | none => .bad) := by
    cases x with
    | str i => exact absurd rfl (hs i)
    | _ => rfl
  rw [e, e2, hx]
  simp only
  rw [Int.toNat_natCast, if_pos ⟨by omega, by omega, by show 1 * n ≤ 16777216; omega⟩]
  have : (List.replicate n [d]).flatten = List.replicate n d := by
    clear e e2 hn
    induction n with
    | zero => rfl
    | succ n ih => rw [List.replicate_succ, List.flatten_cons, ih, List.replicate_succ]; rfl
  rw [this]
theorem at_app {s t : Store} {l : Nat} {o : DO} (h : s[l]? = some o) : (s ++ t)[l]? = some o := by
  rw [List.getElem?_append_left (List.getElem?_eq_some_iff.mp h).1]; exact h
theorem natsL_rep (n c : Nat) : natsL (List.replicate n c) = List.replicate n (.int (c : Int)) := List.map_replicate
section
variable (k : Nat) {ns : List Int} {a : Nat}
def bodyT : List Sx := [.asg (.nm 2) (.op .add [.op .add [.v 2, .op .lst [.c (.int 63)]],
    .op .mul [.op .lst [.op .add [.c (.int 97), .v 3]], .c (.int 63)]])]
theorem b15_eq : b15 = [.asg (.nm 2) (.op .lst []), .for_ (.nm 3) .range1 [.c (.int 3)] bodyT, .asg (.nm 4) (.op .add [.c (.int 58), .call 9 [.v 0, .v 1, .c (.int 6)]]),
    .ret (.op .add [.op .add [.op .add [.v 2, .op (.x .flit) [.v 4]], .op .mul [.op (.x .flit) [.c (.int 100)], .v 4]], .op (.x .flit) [.c (.int 0),
    .c (.int 1), .c (.int 101), .c (.int 192), .c (.int 0)]])] := rfl
def tri : Nat → List Nat
  | 0 => []
  | j + 1 => tri j ++ [63] ++ List.replicate 63 (97 + j)
theorem tri_len : ∀ j, (tri j).length = 64 * j
  | 0 => rfl
  | j + 1 => by rw [tri, List.length_append, List.length_append, List.length_replicate, tri_len j]; simp; omega
theorem turn_t (x0 x1 x4 : Option D) (j : Nat) (hj : j < 3) {l : Nat} {s : Store} (hs : s[l]? = some (.lst (natsL (tri j)))) : ∃ s' l', xss (Z.run P (k + 1)) bodyT [x0, x1, some (.loc l), some (.int (0 + (j : Int))), x4] s = .next [x0, x1, some (.loc l'), some (.int (0 + (j : Int))), x4] s' ∧
    s'[l']? = some (.lst (natsL (tri (j + 1)))) ∧ Gr s s' ∧ s.length ≤ l' := by
  have tl := tri_len j
  generalize h1 : s ++ [DO.lst [.int 63]] = s1
  have a1 : s1[l]? = some (.lst (natsL (tri j))) := by rw [← h1]; exact at_app hs
  have b1 : s1[s.length]? = some (.lst [.int 63]) := by rw [← h1]; exact new_at _ _
  have o1 : opSem .lst [.int 63] s = .ok (.loc s.length) s1 := by rw [← h1]; rfl
  have o2 := add_loc (y := .loc s.length) a1 (lst1_loc b1) (by rw [natsL_len]; simp; omega)
  generalize h2 : s1 ++ [DO.lst (natsL (tri j) ++ [.int 63])] = s2 at o2
  have b2 : s2[s1.length]? = some (.lst (natsL (tri j) ++ [.int 63])) := by rw [← h2]; exact new_at _ _
  generalize h3 : s2 ++ [DO.lst [.int (97 + (0 + (j : Int)))]] = s3
  have o3 : opSem .lst [.int (97 + (0 + (j : Int)))] s2 = .ok (.loc s2.length) s3 := by rw [← h3]; rfl
  have b3 : s3[s2.length]? = some (.lst [.int (97 + (0 + (j : Int)))]) := by rw [← h3]; exact new_at _ _
  have c3 : s3[s1.length]? = some (.lst (natsL (tri j) ++ [.int 63])) := by rw [← h3]; exact at_app b2
  have o4 := mul_one (n := 63) (x := .loc s2.length) (fun _ z => nomatch z) (lst1_loc b3) (fun _ z => nomatch z) (by decide)
  generalize h4 : s3 ++ [DO.lst (List.replicate 63 (.int (97 + (0 + (j : Int)))))] = s4 at o4
  have o4 : opSem .mul [.loc s2.length, .int 63] s3 = .ok (.loc s3.length) s4 := o4
  have b4 : s4[s3.length]? = some (.lst (List.replicate 63 (.int (97 + (0 + (j : Int)))))) := by rw [← h4]; exact new_at _ _
  have c4 : s4[s1.length]? = some (.lst (natsL (tri j) ++ [.int 63])) := by rw [← h4]; exact at_app c3
  have o5 := add_loc (y := .loc s3.length) c4 (lst1_loc b4) (by rw [List.length_append, natsL_len, List.length_replicate]; simp; omega)
  refine ⟨s4 ++ [DO.lst (natsL (tri j) ++ [.int 63] ++ List.replicate 63 (.int (97 + (0 + (j : Int)))))], s4.length, ?_, ?_, ?_, ?_⟩
  · simp only [bodyT, forB_nm, ev_op, ev_v, ev_c, ev_not, ev_and, ev_or, ev_ifx, ev_chain, ev_call, ev_scall, ev_seal, evs_cons, evs_nil, xs_asg, xs_expr, xs_ret, xs_ite, xs_brk, xs_cnt, xs_pass, xs_raise, xss_cons, xss_nil, List.getElem?_cons_zero, List.getElem?_cons_succ, bind_ok, bind_exc, toS_ok, toS_exc, seq_next, seq_ret, seq_exc, fin_ret, fin_next, fin_exc, truth_bl, setT_nm, List.set_cons_succ, List.set_cons_zero, o_addI, o_subI, o_ltI, o_leI, o_gtI, o_geI, o_eqI, o_neI, o_eqS, o_neS, o_eqB, o_neB, o_isB, o_isnotB, o_toInt, o_asInt, o_neg, o_asStr, o_iadd, o_isub, o_isNon, o_isNonI, o_isNonS, o_isnotNon, o_isnotNonI, o_isnotNonS, Bool.not_true, Bool.not_false, close_int, close_bl, close_str, close_non, o1, o2, o3, o4, o5]
  · rw [new_at, tri, natsL_app, natsL_app, natsL_rep]
    have : ((97 + j : Nat) : Int) = 97 + (0 + (j : Int)) := by omega
    rw [this]; rfl
  · rw [← h4, ← h3, ← h2, ← h1]
    exact ((((Gr.app _ _).trans (Gr.app _ _)).trans (Gr.app _ _)).trans (Gr.app _ _)).trans (Gr.app _ _)
  · rw [← h4, ← h3, ← h2, ← h1]; simp
def longD (T : List Nat) (n : Nat) : List Nat := T ++ [n] ++ List.replicate n 100 ++ [0, 1, 101, 192, 0]
theorem long (T : List Nat) (hT : tri 3 = T) {st : Store} (h : StOk a st) : ∃ (n : Nat) (st' : Store), closeR st (Z.run P (k + 2) 15 [.loc a, .slst (ns.map .int)] st) = .ok (natsD (longD T n)) st' ∧ 58 ≤ n ∧ n < 64 ∧ StOk a st' ∧ ∃ o, st' = st.set a o := by
  rw [run_eq (P := P) (f := 15) rfl (k + 1) _ _ rfl]
  show ∃ n st', closeR st (xss _ b15 [some (.loc a), some (.slst (ns.map .int)), none, none, none] st).fin = _ ∧ _
  have lst : opSem .lst [] st = .ok (.loc st.length) (st ++ [.lst []]) := rfl
  have ha := h.lt
  obtain ⟨env', s1, e1, ⟨x3', l, rfl, hx, hg, hll⟩⟩ := evFor_ix (same := fun _ => true) (one := forB (Z.run P (k + 1)) (.nm 3) bodyT) (fun j env s => ∃ x3' l, env = [some (.loc a), some (.slst (ns.map .int)), some (.loc l), x3', none] ∧ s[l]? = some (.lst (natsL (tri j))) ∧ Gr st s ∧ st.length ≤ l) (fun _ _ _ _ => rfl)
      (rangeD 0 3) 0 [some (.loc a), some (.slst (ns.map .int)), some (.loc st.length), none, none] (st ++ [.lst []]) (fun j y hy env s ⟨x3', l, he, hs, hg, hl⟩ => by
        subst he
        obtain ⟨rfl, hj⟩ := range_get hy
        rw [Nat.zero_add] at hs ⊢
        obtain ⟨s', l', e', h1, h2, h3⟩ := turn_t k (some (.loc a)) (some (.slst (ns.map .int))) none j hj hs
        exact ⟨_, s', .inl e', _, l', rfl, h1, hg.trans h2, by have := hg.1; omega⟩) ⟨none, st.length, rfl, new_at _ _, Gr.app _ _, Nat.le_refl _⟩
  rw [range_len] at hx
  have tl : T.length = 192 := by rw [← hT, tri_len]
  rw [Nat.zero_add, hT] at hx
  obtain ⟨d, s2, e2, d0, d1, so, f2⟩ := Z.draw (P := P) (f := 9) rfl k (ns := ns) (h.gr hg) (size := 6) (by decide) (by decide)
  have hx2 : s2[l]? = some (.lst (natsL T)) := by rw [f2.2 l (List.getElem?_eq_some_iff.mp hx).1 (by omega)]; exact hx
  obtain ⟨n, hn⟩ : ∃ n : Nat, (58 : Int) + d = (n : Int) := ⟨(58 + d).toNat, by omega⟩
  have fl1 : opSem (.x .flit) [.int (n : Int)] s2 = .ok (.flst [.int (n : Int)]) s2 := rfl
  have o1 := add_loc (y := .flst [.int (n : Int)]) hx2 rfl (by rw [natsL_len, tl]; simp)
  generalize h3 : s2 ++ [DO.lst (natsL T ++ [.int (n : Int)])] = s3 at o1
  have b3 : s3[s2.length]? = some (.lst (natsL T ++ [.int (n : Int)])) := by rw [← h3]; exact new_at _ _
  have fl2 : opSem (.x .flit) [.int 100] s3 = .ok (.flst [.int 100]) s3 := rfl
  have o2 := mul_one (s := s3) (n := n) (x := .flst [.int 100]) (fun _ z => nomatch z) rfl (fun _ z => nomatch z) (by omega)
  generalize h4 : s3 ++ [DO.lst (List.replicate n (.int 100))] = s4 at o2
  have b4 : s4[s2.length]? = some (.lst (natsL T ++ [.int (n : Int)])) := by rw [← h4]; exact at_app b3
  have c4 : s4[s3.length]? = some (.lst (List.replicate n (.int 100))) := by rw [← h4]; exact new_at _ _
  have o3 := add_loc (y := .loc s3.length) b4 (lst1_loc c4) (by rw [List.length_append, natsL_len, tl, List.length_replicate]; simp; omega)
  generalize h5 : s4 ++ [DO.lst (natsL T ++ [.int (n : Int)] ++ List.replicate n (.int 100))] = s5 at o3
  have b5 : s5[s4.length]? = some (.lst (natsL T ++ [.int (n : Int)] ++ List.replicate n (.int 100))) := by rw [← h5]; exact new_at _ _
  have fl3 : opSem (.x .flit) [.int 0, .int 1, .int 101, .int 192, .int 0] s5 = .ok (.flst [.int 0, .int 1, .int 101, .int 192, .int 0]) s5 := rfl
  have o4 := add_loc (y := .flst [.int 0, .int 1, .int 101, .int 192, .int 0]) b5 rfl (by rw [List.length_append, List.length_append, natsL_len, tl, List.length_replicate]; simp; omega)
  have eD : natsL T ++ [.int (n : Int)] ++ List.replicate n (.int 100) ++ [.int 0, .int 1, .int 101, .int 192, .int 0] = natsL (longD T n) := by
    unfold longD
    rw [natsL_app, natsL_app, natsL_app, natsL_rep]; rfl
  rw [eD] at o4
  have g5 : Fr a st (s5 ++ [DO.lst (natsL (longD T n))]) := by
    rw [← h5, ← h4, ← h3]
    exact ((((hg.fr (a := a)).trans ⟨f2.1, f2.2⟩).trans (Fr.app _)).trans ((Fr.app _).trans (Fr.app _))).trans (Fr.app _)
  have so5 : StOk a (s5 ++ [DO.lst (natsL (longD T n))]) := by
    rw [← h5, ← h4, ← h3]
    exact (((so.app _).app _).app _).app _
  obtain ⟨st', c1, c2⟩ := close_made so5 g5 ha (show st.length ≤ s5.length by rw [← h5, ← h4, ← h3]; have := hg.1; have := f2.1; simp; omega) (new_at s5 _)
  refine ⟨n, st', ?_, by omega, by omega, c2⟩
  rw [← c1]
  have x1 : xs (Z.run P (k + 1)) (.asg (.nm 2) (.op .lst [])) [some (.loc a), some (.slst (ns.map .int)), none, none, none] st = .next [some (.loc a), some (.slst (ns.map .int)), some (.loc st.length), none, none] (st ++ [.lst []]) := rfl
  have x2 : xs (Z.run P (k + 1)) (.for_ (.nm 3) .range1 [.c (.int 3)] bodyT) [some (.loc a), some (.slst (ns.map .int)), some (.loc st.length), none, none] (st ++ [.lst []]) = .next [some (.loc a), some (.slst (ns.map .int)), some (.loc l), x3', none] s1 := by
    rw [xs_for, evs_cons, ev_c, bind_ok, evs_nil, bind_ok, toS_ok, src_range1 3 _ (in62_of (by decide) (by decide))]
    exact e1
  have x3 : xs (Z.run P (k + 1)) (.asg (.nm 4) (.op .add [.c (.int 58), .call 9 [.v 0, .v 1, .c (.int 6)]])) [some (.loc a), some (.slst (ns.map .int)), some (.loc l), x3', none] s1 = .next [some (.loc a), some (.slst (ns.map .int)), some (.loc l), x3', some (.int (n : Int))] s2 := by
    simp only [forB_nm, ev_op, ev_v, ev_c, ev_not, ev_and, ev_or, ev_ifx, ev_chain, ev_call, ev_scall, ev_seal, evs_cons, evs_nil, xs_asg, xs_expr, xs_ret, xs_ite, xs_brk, xs_cnt, xs_pass, xs_raise, xss_cons, xss_nil, List.getElem?_cons_zero, List.getElem?_cons_succ, bind_ok, bind_exc, toS_ok, toS_exc, seq_next, seq_ret, seq_exc, fin_ret, fin_next, fin_exc, truth_bl, setT_nm, List.set_cons_succ, List.set_cons_zero, o_addI, o_subI, o_ltI, o_leI, o_gtI, o_geI, o_eqI, o_neI, o_eqS, o_neS, o_eqB, o_neB, o_isB, o_isnotB, o_toInt, o_asInt, o_neg, o_asStr, o_iadd, o_isub, o_isNon, o_isNonI, o_isNonS, o_isnotNon, o_isnotNonI, o_isnotNonS, Bool.not_true, Bool.not_false, close_int, close_bl, close_str, close_non, e2, hn]
  have y1 : ev (Z.run P (k + 1)) (.op .add [.v 2, .op (.x .flit) [.v 4]]) [some (.loc a), some (.slst (ns.map .int)), some (.loc l), x3', some (.int (n : Int))] s2 = .ok (.loc s2.length) s3 := by
    simp only [forB_nm, ev_op, ev_v, ev_c, ev_not, ev_and, ev_or, ev_ifx, ev_chain, ev_call, ev_scall, ev_seal, evs_cons, evs_nil, xs_asg, xs_expr, xs_ret, xs_ite, xs_brk, xs_cnt, xs_pass, xs_raise, xss_cons, xss_nil, List.getElem?_cons_zero, List.getElem?_cons_succ, bind_ok, bind_exc, toS_ok, toS_exc, seq_next, seq_ret, seq_exc, fin_ret, fin_next, fin_exc, truth_bl, setT_nm, List.set_cons_succ, List.set_cons_zero, o_addI, o_subI, o_ltI, o_leI, o_gtI, o_geI, o_eqI, o_neI, o_eqS, o_neS, o_eqB, o_neB, o_isB, o_isnotB, o_toInt, o_asInt, o_neg, o_asStr, o_iadd, o_isub, o_isNon, o_isNonI, o_isNonS, o_isnotNon, o_isnotNonI, o_isnotNonS, Bool.not_true, Bool.not_false, close_int, close_bl, close_str, close_non, fl1, o1]
  have y2 : ev (Z.run P (k + 1)) (.op .mul [.op (.x .flit) [.c (.int 100)], .v 4]) [some (.loc a), some (.slst (ns.map .int)), some (.loc l), x3', some (.int (n : Int))] s3 = .ok (.loc s3.length) s4 := by
    have z1 : ev (Z.run P (k + 1)) (.op (.x .flit) [.c (.int 100)]) [some (.loc a), some (.slst (ns.map .int)), some (.loc l), x3', some (.int (n : Int))] s3 = .ok (.flst [.int 100]) s3 := fl2
    have z2 : ev (Z.run P (k + 1)) (.v 4) [some (.loc a), some (.slst (ns.map .int)), some (.loc l), x3', some (.int (n : Int))] s3 = .ok (.int (n : Int)) s3 := rfl
    rw [ev_op, evs_cons, z1, bind_ok, evs_cons, z2, bind_ok, evs_nil, bind_ok, bind_ok, bind_ok]
    exact o2
  have y3 : ev (Z.run P (k + 1)) (.op .add [.op .add [.v 2, .op (.x .flit) [.v 4]], .op .mul [.op (.x .flit) [.c (.int 100)], .v 4]]) [some (.loc a), some (.slst (ns.map .int)), some (.loc l), x3', some (.int (n : Int))] s2 = .ok (.loc s4.length) s5 := by
    rw [ev_op, evs_cons, y1, bind_ok, evs_cons, y2, bind_ok, evs_nil, bind_ok, bind_ok, bind_ok, o3]
  have y4 : ev (Z.run P (k + 1)) (.op (.x .flit) [.c (.int 0), .c (.int 1), .c (.int 101), .c (.int 192), .c (.int 0)]) [some (.loc a), some (.slst (ns.map .int)), some (.loc l), x3', some (.int (n : Int))] s5 = .ok (.flst [.int 0, .int 1, .int 101, .int 192, .int 0]) s5 := rfl
  rw [b15_eq, xss_step x1 (xss_step x2 (xss_step x3 rfl)), xss_one, xs_ret, ev_op, evs_cons, y3, bind_ok, evs_cons, y4, bind_ok, evs_nil, bind_ok, bind_ok, bind_ok, o4, toS_ok, fin_ret]
end
end K6

set_option autoImplicit false
set_option maxHeartbeats 2000000
namespace K6
open PySem L2 Z

theorem rd_code (data : List Nat) (place : Nat) : ∀ (n at_ ru : Nat) (en : Option Nat) (ls : List (List Nat)) (c p : Nat), rd data place n at_ ru en ls = .err c p → c = 1 ∨ c = 2 ∨ c = 4 ∨ c = 5
  | 0, _, _, _, _, _, _, h => by cases h
  | n + 1, at_, ru, en, ls, c, p, h => by
    rw [rd] at h
    have fin : ∀ {a b : Nat}, Out.err a b = .err c p → (a = 1 ∨ a = 2 ∨ a = 4 ∨ a = 5) → c = 1 ∨ c = 2 ∨ c = 4 ∨ c = 5 := fun e h => by cases e; exact h
    repeat' split at h
    all_goals first
      | exact rd_code data place n _ _ _ _ c p h
      | exact fin h (by decide)
      | cases h
theorem isx_at {s : Store} {l c : Nat} {p : D} (tab : List Nat) (h : s[l]? = some (.exn c p)) : opSem (.x (.isx tab)) [.loc l] s = .ok (.bl (tab.contains c)) s := by
  show (match s[l]? with | some (.exn c _) => R.ok (D.bl (tab.contains c)) s | _ => .bad) = _
  rw [h]
theorem place_at {s : Store} {l c : Nat} {p : D} (h : s[l]? = some (.exn c p)) : opSem (.x .place) [.loc l] s = .ok p s := by
  show (match s[l]? with | some (.exn _ p) => R.ok p s | _ => .bad) = _
  rw [h]
theorem leave_bl {st s : Store} {i : Nat} {b : Bool} (h : Gr st s) : (SR.ret (.bl b) s).leave i st = .ret (.bl b) st := by
  classical
  show (if OldOk st s then SR.ret (.bl b) (s.take st.length) else .bad) = _
  rw [if_pos h.old, h.take]
theorem eq_one (st : Store) (x y : List Nat) : opSem .ne [.flst [.str x], .flst [.str y]] st = .ok (.bl (!(x == y))) st := by
  show (match eqSem (.flst [.str x]) (.flst [.str y]) st with | some k => R.ok (D.bl (!k)) st | none => .bad) = _
  have e : eqSem (.flst [.str x]) (.flst [.str y]) st = some ((x == y) && true) := rfl
  rw [e, Bool.and_true]
theorem eq_pair (st : Store) (ls : List (List Nat)) (i : Int) : opSem .eq [.tup [nameD ls, .int i], .tup [nameD ls, .int i]] st = .ok (.bl true) st := by
  show (match eqSem (.tup [nameD ls, .int i]) (.tup [nameD ls, .int i]) st with | some k => R.ok (D.bl k) st | none => .bad) = _
  have p : pureD st (.tup [nameD ls, .int i]) = some (.tup [nameD ls, .int i]) := by
    have h1 : derefD (atD st 8) (nameD ls) = some (nameD ls) := pure_name st ls
    show (derefDs (atD st 8) [nameD ls, .int i]).map D.tup = _
    rw [derefDs, h1]; rfl
  have d : deepD (.tup [nameD ls, .int i]) = 2 := by
    show max (deepD (nameD ls)) (max 0 0) + 1 = 2
    rw [deep_name]; rfl
  unfold eqSem
  rw [p]
  simp only [d]
  rw [if_pos (by decide)]
  show R.ok (D.bl (eqD (nameD ls) (nameD ls) && ((i == i) && true))) st = _
  rw [eq_name, decide_eq_true rfl, beq_self_eq_true]; rfl
theorem setT3 (a b c : Nat) (x y z : D) (env : Z.Env) : setT (.tup [.nm a, .nm b, .nm c]) (.tup [x, y, z]) env = some (((env.set a (some x)).set b (some y)).set c (some z)) := rfl
theorem asg3 {F : FT} {x0 x1 x2 : Option D} {f : Nat} {a b x y z : D} {st : Store} (h : closeR st (F f [a, b] st) = .ok (.tup [x, y, z]) st) :
    xs F (.asg (.tup [.nm 5, .nm 6, .nm 7]) (.scall f [.v 3, .v 4])) [x0, x1, x2, some a, some b, none, none, none, none, none, none, none] st = .next [x0, x1, x2, some a, some b, some x, some y, some z, none, none, none, none] st := by
  simp only [forB_nm, ev_op, ev_v, ev_c, ev_not, ev_and, ev_or, ev_ifx, ev_chain, ev_call, ev_scall, ev_seal, evs_cons, evs_nil, xs_asg, xs_expr, xs_ret, xs_ite, xs_brk, xs_cnt, xs_pass, xs_raise, xss_cons, xss_nil, List.getElem?_cons_zero, List.getElem?_cons_succ, bind_ok, bind_exc, toS_ok, toS_exc, seq_next, seq_ret, seq_exc, fin_ret, fin_next, fin_exc, truth_bl, setT_nm, List.set_cons_succ, List.set_cons_zero, o_addI, o_subI, o_ltI, o_leI, o_gtI, o_geI, o_eqI, o_neI, o_eqS, o_neS, o_eqB, o_neB, o_isB, o_isnotB, o_toInt, o_asInt, o_neg, o_asStr, o_iadd, o_isub, o_isNon, o_isNonI, o_isNonS, o_isnotNon, o_isnotNonI, o_isnotNonS, Bool.not_true, Bool.not_false, close_int, close_bl, close_str, close_non, h, setT3]
section
variable (k : Nat)
theorem is_int (i : Int) (s : Store) : Z.run P (k + 1) 8 [.int i] s = .ok (.bl true) s := by
  rw [run_eq (P := P) (f := 8) rfl k _ _ rfl]; rfl
theorem classes (c : Nat) (hc : c = 1 ∨ c = 2 ∨ c = 4 ∨ c = 5) (p : D) (st : Store) (l : Nat) (h : st[l]? = some (.exn c p)) : closeR st (Z.run P (k + 1) 13 [.loc l] st) = .ok (.flst [.str (nmX c)]) st := by
  rw [run_eq (P := P) (f := 13) rfl k _ _ rfl]
  show closeR st (xss (Z.run P k) b13 [some (.loc l), none] st).fin = _
  have lst : opSem .lst [] st = .ok (.loc st.length) (st ++ [.lst []]) := rfl
  have i0 : ∀ tab, opSem (.x (.isx tab)) [.loc l] (st ++ [.lst []]) = .ok (.bl (tab.contains c)) (st ++ [.lst []]) := fun tab => isx_at tab (at_app h)
  have i1 : ∀ tab x, opSem (.x (.isx tab)) [.loc l] (st ++ [.lst [x]]) = .ok (.bl (tab.contains c)) (st ++ [.lst [x]]) := fun tab x => isx_at tab (at_app h)
  have al : opSem (.x .asLst) [.loc st.length] (st ++ [.lst []]) = .ok (.loc st.length) (st ++ [.lst []]) := asLst_at (new_at _ _)
  have ap : ∀ x, opSem (.x (.meth .append)) [.loc st.length, x] (st ++ [.lst []]) = .ok .non (st ++ [.lst [x]]) := fun x => by
    rw [append_at x (new_at st (.lst [])) (by decide), new_set]; rfl
  have fin : ∀ x : List Nat, closeR st (.ok (.loc st.length) (st ++ [.lst [.str x]])) = .ok (.flst [.str x]) st := fun x => close_new rfl
  rcases hc with rfl | rfl | rfl | rfl
  · have d1 : ([1] : List Nat).contains 1 = true := rfl
    have d2 : ([2] : List Nat).contains 1 = false := rfl
    have d3 : ([3] : List Nat).contains 1 = false := rfl
    have d4 : ([4] : List Nat).contains 1 = false := rfl
    have d5 : ([5] : List Nat).contains 1 = false := rfl
    have d6 : ([6] : List Nat).contains 1 = false := rfl
    simp only [b13, forB_nm, ev_op, ev_v, ev_c, ev_not, ev_and, ev_or, ev_ifx, ev_chain, ev_call, ev_scall, ev_seal, evs_cons, evs_nil, xs_asg, xs_expr, xs_ret, xs_ite, xs_brk, xs_cnt, xs_pass, xs_raise, xss_cons, xss_nil, List.getElem?_cons_zero, List.getElem?_cons_succ, bind_ok, bind_exc, toS_ok, toS_exc, seq_next, seq_ret, seq_exc, fin_ret, fin_next, fin_exc, truth_bl, setT_nm, List.set_cons_succ, List.set_cons_zero, o_addI, o_subI, o_ltI, o_leI, o_gtI, o_geI, o_eqI, o_neI, o_eqS, o_neS, o_eqB, o_neB, o_isB, o_isnotB, o_toInt, o_asInt, o_neg, o_asStr, o_iadd, o_isub, o_isNon, o_isNonI, o_isNonS, o_isnotNon, o_isnotNonI, o_isnotNonS, Bool.not_true, Bool.not_false, close_int, close_bl, close_str, close_non, lst, i0, i1, d1, d2, d3, d4, d5, d6, al, ap, fin]; rfl
  · have d1 : ([1] : List Nat).contains 2 = false := rfl
    have d2 : ([2] : List Nat).contains 2 = true := rfl
    have d3 : ([3] : List Nat).contains 2 = false := rfl
    have d4 : ([4] : List Nat).contains 2 = false := rfl
    have d5 : ([5] : List Nat).contains 2 = false := rfl
    have d6 : ([6] : List Nat).contains 2 = false := rfl
    simp only [b13, forB_nm, ev_op, ev_v, ev_c, ev_not, ev_and, ev_or, ev_ifx, ev_chain, ev_call, ev_scall, ev_seal, evs_cons, evs_nil, xs_asg, xs_expr, xs_ret, xs_ite, xs_brk, xs_cnt, xs_pass, xs_raise, xss_cons, xss_nil, List.getElem?_cons_zero, List.getElem?_cons_succ, bind_ok, bind_exc, toS_ok, toS_exc, seq_next, seq_ret, seq_exc, fin_ret, fin_next, fin_exc, truth_bl, setT_nm, List.set_cons_succ, List.set_cons_zero, o_addI, o_subI, o_ltI, o_leI, o_gtI, o_geI, o_eqI, o_neI, o_eqS, o_neS, o_eqB, o_neB, o_isB, o_isnotB, o_toInt, o_asInt, o_neg, o_asStr, o_iadd, o_isub, o_isNon, o_isNonI, o_isNonS, o_isnotNon, o_isnotNonI, o_isnotNonS, Bool.not_true, Bool.not_false, close_int, close_bl, close_str, close_non, lst, i0, i1, d1, d2, d3, d4, d5, d6, al, ap, fin]; rfl
  · have d1 : ([1] : List Nat).contains 4 = false := rfl
    have d2 : ([2] : List Nat).contains 4 = false := rfl
    have d3 : ([3] : List Nat).contains 4 = false := rfl
    have d4 : ([4] : List Nat).contains 4 = true := rfl
    have d5 : ([5] : List Nat).contains 4 = false := rfl
    have d6 : ([6] : List Nat).contains 4 = false := rfl
    simp only [b13, forB_nm, ev_op, ev_v, ev_c, ev_not, ev_and, ev_or, ev_ifx, ev_chain, ev_call, ev_scall, ev_seal, evs_cons, evs_nil, xs_asg, xs_expr, xs_ret, xs_ite, xs_brk, xs_cnt, xs_pass, xs_raise, xss_cons, xss_nil, List.getElem?_cons_zero, List.getElem?_cons_succ, bind_ok, bind_exc, toS_ok, toS_exc, seq_next, seq_ret, seq_exc, fin_ret, fin_next, fin_exc, truth_bl, setT_nm, List.set_cons_succ, List.set_cons_zero, o_addI, o_subI, o_ltI, o_leI, o_gtI, o_geI, o_eqI, o_neI, o_eqS, o_neS, o_eqB, o_neB, o_isB, o_isnotB, o_toInt, o_asInt, o_neg, o_asStr, o_iadd, o_isub, o_isNon, o_isNonI, o_isNonS, o_isnotNon, o_isnotNonI, o_isnotNonS, Bool.not_true, Bool.not_false, close_int, close_bl, close_str, close_non, lst, i0, i1, d1, d2, d3, d4, d5, d6, al, ap, fin]; rfl
  · have d1 : ([1] : List Nat).contains 5 = false := rfl
    have d2 : ([2] : List Nat).contains 5 = false := rfl
    have d3 : ([3] : List Nat).contains 5 = false := rfl
    have d4 : ([4] : List Nat).contains 5 = false := rfl
    have d5 : ([5] : List Nat).contains 5 = true := rfl
    have d6 : ([6] : List Nat).contains 5 = false := rfl
    simp only [b13, forB_nm, ev_op, ev_v, ev_c, ev_not, ev_and, ev_or, ev_ifx, ev_chain, ev_call, ev_scall, ev_seal, evs_cons, evs_nil, xs_asg, xs_expr, xs_ret, xs_ite, xs_brk, xs_cnt, xs_pass, xs_raise, xss_cons, xss_nil, List.getElem?_cons_zero, List.getElem?_cons_succ, bind_ok, bind_exc, toS_ok, toS_exc, seq_next, seq_ret, seq_exc, fin_ret, fin_next, fin_exc, truth_bl, setT_nm, List.set_cons_succ, List.set_cons_zero, o_addI, o_subI, o_ltI, o_leI, o_gtI, o_geI, o_eqI, o_neI, o_eqS, o_neS, o_eqB, o_neB, o_isB, o_isnotB, o_toInt, o_asInt, o_neg, o_asStr, o_iadd, o_isub, o_isNon, o_isNonI, o_isNonS, o_isnotNon, o_isnotNonI, o_isnotNonS, Bool.not_true, Bool.not_false, close_int, close_bl, close_str, close_non, lst, i0, i1, d1, d2, d3, d4, d5, d6, al, ap, fin]; rfl
/-- behind the drawing -/
def suiteL : List Sx := [.ite (.or (.op .eq [.v 5,
    .c (.str [])]) (.or (.op .ne [.scall 13 [.v 10], .op (.x .flit) [.v 5]]) (.not (.call 8 [.op (.x .place) [.v 10]])))) [.ret (.c (.bl false))] [],
    .ret (.and (.op .eq [.op (.x .place) [.v 10], .v 6]) (.and (.op (.x (.isx [0, 1, 2, 3, 4, 5, 6])) [.v 10]) (.op .eq [.v 8, .v 3])))]
def tailL : List Sx := [.asg (.tup [.nm 5, .nm 6, .nm 7]) (.scall 12 [.v 3, .v 4]),
    .asg (.nm 8) (.op (.x .toListF) [.v 3]), .try_ [.asg (.nm 9) (.scall 1 [.v 8, .v 4])] [0, 1, 2, 3, 4, 5, 6] 10 suiteL,
    .ite (.or (.op .ne [.v 5, .c (.str [])]) (.or (.not (.op (.isin .tuple) [.v 9])) (.or (.op .ne [.op .len [.v 9],
    .c (.int 2)]) (.not (.op (.isin .tuple) [.op .ix [.v 9, .c (.int 0)]]))))) [.ret (.c (.bl false))] [], .ret (.and (.op .eq [.v 9, .op .tup [.v 7,
    .v 6]]) (.and (.call 8 [.op .ix [.v 9, .c (.int 1)]]) (.op .eq [.v 8, .v 3])))]
def headL : List Sx := [.asg (.nm 1) (.op .lst [.c (.int 0), .c (.int 0)]), .asg (.nm 2) (.call 9 [.v 1, .v 0, .c (.int 9)]), .asg (.nm 3) (.sealE (.comp [11]
    (.nm 11) .seq [.sealE (.op (.sl true true) [.v 0, .op .asInt [.c (.int 1)], .c (.int 62)])] [] (.op .mod [.v 11, .c (.int 256)]))),
    .ite (.op .gt [.v 2, .c (.int 3)]) [.asg (.nm 3) (.scall 14 [.v 1, .v 0])] [], .asg (.nm 4) (.call 9 [.v 1, .v 0, .op .add [.op .len [.v 3],
    .c (.int 1)]]), .ite (.op .eq [.v 2, .c (.int 8)]) [.asg (.nm 3) (.scall 15 [.v 1, .v 0]), .asg (.nm 4) (.op .ix [.op (.x .flit) [.c (.int 0),
    .op .sub [.op .len [.v 3], .c (.int 4)]], .call 9 [.v 1, .v 0, .c (.int 2)]])] []]
theorem b16_eq : b16 = headL ++ tailL := rfl
theorem tail (x0 x1 x2 : Option D) (data : List Nat) (hb : ∀ c ∈ data, c < 256) (hz : data.length ≤ 1000) (place : Nat) (st : Store) :
    xss (Z.run P (k + 4)) tailL [x0, x1, x2, some (natsD data), some (.int (place : Int)), none, none, none, none, none, none, none] st = .ret (.bl true) st := by
  have hs := rd_ok data place
  have lw := law_read_name (k + 1) st data hb hz place hs
  have lw : closeR st (Z.run P (k + 4) 12 [natsD data, .int (place : Int)] st) = _ := lw
  have pr := read_name k st data hb place (2 * data.length + 2) (by show _ ≤ 1000000; omega) hs
  have tl : opSem (.x .toListF) [natsD data] st = .ok (natsD data) st := rfl
  have en := eq_nats st data data
  rw [decide_eq_true rfl] at en
  have hcode := rd_code data place (2 * data.length + 2) place place none []
  generalize rd data place (2 * data.length + 2) place place none [] = o at hs lw pr hcode
  cases o with
  | stuck => exact absurd rfl hs
  | err c p =>
    have hc := hcode c p rfl
    have lw : closeR st (Z.run P (k + 4) 12 [natsD data, .int (place : Int)] st) = .ok (.tup [.str (nmX c), .int (p : Int), .tup []]) st := lw
    have pr : closeR st (Z.run P (k + 4) 1 [natsD data, .int (place : Int)] st) = .exc c (.int (p : Int)) st := pr
    have x1' : xs (Z.run P (k + 4)) (.asg (.tup [.nm 5, .nm 6, .nm 7]) (.scall 12 [.v 3, .v 4])) [x0, x1, x2, some (natsD data), some (.int (place : Int)), none, none, none, none, none, none, none] st =
        .next [x0, x1, x2, some (natsD data), some (.int (place : Int)), some (.str (nmX c)), some (.int (p : Int)), some (.tup []), none, none, none, none] st := asg3 lw
    have x2' : xs (Z.run P (k + 4)) (.asg (.nm 8) (.op (.x .toListF) [.v 3])) [x0, x1, x2, some (natsD data), some (.int (place : Int)), some (.str (nmX c)), some (.int (p : Int)), some (.tup []), none, none, none, none] st =
        .next [x0, x1, x2, some (natsD data), some (.int (place : Int)), some (.str (nmX c)), some (.int (p : Int)), some (.tup []), some (natsD data), none, none, none] st := by
      simp only [forB_nm, ev_op, ev_v, ev_c, ev_not, ev_and, ev_or, ev_ifx, ev_chain, ev_call, ev_scall, ev_seal, evs_cons, evs_nil, xs_asg, xs_expr, xs_ret, xs_ite, xs_brk, xs_cnt, xs_pass, xs_raise, xss_cons, xss_nil, List.getElem?_cons_zero, List.getElem?_cons_succ, bind_ok, bind_exc, toS_ok, toS_exc, seq_next, seq_ret, seq_exc, fin_ret, fin_next, fin_exc, truth_bl, setT_nm, List.set_cons_succ, List.set_cons_zero, o_addI, o_subI, o_ltI, o_leI, o_gtI, o_geI, o_eqI, o_neI, o_eqS, o_neS, o_eqB, o_neB, o_isB, o_isnotB, o_toInt, o_asInt, o_neg, o_asStr, o_iadd, o_isub, o_isNon, o_isNonI, o_isNonS, o_isnotNon, o_isnotNonI, o_isnotNonS, Bool.not_true, Bool.not_false, close_int, close_bl, close_str, close_non, tl]
    have hx : (st ++ [DO.exn c (.int (p : Int))])[st.length]? = some (.exn c (.int (p : Int))) := new_at _ _
    have cl := classes (k + 3) c hc _ _ _ hx
    have pl := place_at hx
    have ix := isx_at [0, 1, 2, 3, 4, 5, 6] hx
    have hct : [0, 1, 2, 3, 4, 5, 6].contains c = true := by rcases hc with rfl | rfl | rfl | rfl <;> rfl
    rw [hct] at ix
    have hn : (nmX c == []) = false := by rcases hc with rfl | rfl | rfl | rfl <;> rfl
    have eo := eq_one (st ++ [DO.exn c (.int (p : Int))]) (nmX c) (nmX c)
    rw [beq_self_eq_true] at eo
    have fl : opSem (.x .flit) [.str (nmX c)] (st ++ [DO.exn c (.int (p : Int))]) = .ok (.flst [.str (nmX c)]) (st ++ [DO.exn c (.int (p : Int))]) := rfl
    have ii := is_int (k + 3) (p : Int) (st ++ [DO.exn c (.int (p : Int))])
    have en2 := eq_nats (st ++ [DO.exn c (.int (p : Int))]) data data
    rw [decide_eq_true rfl] at en2
    have hpp : ((p : Int) == (p : Int)) = true := beq_self_eq_true _
    have su : xss (Z.run P (k + 4)) suiteL [x0, x1, x2, some (natsD data), some (.int (place : Int)), some (.str (nmX c)), some (.int (p : Int)), some (.tup []), some (natsD data), none, some (.loc st.length), none] (st ++ [DO.exn c (.int (p : Int))]) = .ret (.bl true) (st ++ [DO.exn c (.int (p : Int))]) := by
      simp only [suiteL, forB_nm, ev_op, ev_v, ev_c, ev_not, ev_and, ev_or, ev_ifx, ev_chain, ev_call, ev_scall, ev_seal, evs_cons, evs_nil, xs_asg, xs_expr, xs_ret, xs_ite, xs_brk, xs_cnt, xs_pass, xs_raise, xss_cons, xss_nil, List.getElem?_cons_zero, List.getElem?_cons_succ, bind_ok, bind_exc, toS_ok, toS_exc, seq_next, seq_ret, seq_exc, fin_ret, fin_next, fin_exc, truth_bl, setT_nm, List.set_cons_succ, List.set_cons_zero, o_addI, o_subI, o_ltI, o_leI, o_gtI, o_geI, o_eqI, o_neI, o_eqS, o_neS, o_eqB, o_neB, o_isB, o_isnotB, o_toInt, o_asInt, o_neg, o_asStr, o_iadd, o_isub, o_isNon, o_isNonI, o_isNonS, o_isnotNon, o_isnotNonI, o_isnotNonS, Bool.not_true, Bool.not_false, close_int, close_bl, close_str, close_non, hn, cl, fl, eo, pl, ii, hpp, ix, en2]
    have x3' : xs (Z.run P (k + 4)) (.try_ [.asg (.nm 9) (.scall 1 [.v 8, .v 4])] [0, 1, 2, 3, 4, 5, 6] 10 suiteL) [x0, x1, x2, some (natsD data), some (.int (place : Int)), some (.str (nmX c)), some (.int (p : Int)), some (.tup []), some (natsD data), none, none, none] st = .ret (.bl true) st := by
      rw [xs_try]
      have bd : xss (Z.run P (k + 4)) [.asg (.nm 9) (.scall 1 [.v 8, .v 4])] [x0, x1, x2, some (natsD data), some (.int (place : Int)), some (.str (nmX c)), some (.int (p : Int)), some (.tup []), some (natsD data), none, none, none] st =
          .exc c (.int (p : Int)) [x0, x1, x2, some (natsD data), some (.int (place : Int)), some (.str (nmX c)), some (.int (p : Int)), some (.tup []), some (natsD data), none, none, none] st := by
        simp only [forB_nm, ev_op, ev_v, ev_c, ev_not, ev_and, ev_or, ev_ifx, ev_chain, ev_call, ev_scall, ev_seal, evs_cons, evs_nil, xs_asg, xs_expr, xs_ret, xs_ite, xs_brk, xs_cnt, xs_pass, xs_raise, xss_cons, xss_nil, List.getElem?_cons_zero, List.getElem?_cons_succ, bind_ok, bind_exc, toS_ok, toS_exc, seq_next, seq_ret, seq_exc, fin_ret, fin_next, fin_exc, truth_bl, setT_nm, List.set_cons_succ, List.set_cons_zero, o_addI, o_subI, o_ltI, o_leI, o_gtI, o_geI, o_eqI, o_neI, o_eqS, o_neS, o_eqB, o_neB, o_isB, o_isnotB, o_toInt, o_asInt, o_neg, o_asStr, o_iadd, o_isub, o_isNon, o_isNonI, o_isNonS, o_isnotNon, o_isnotNonI, o_isnotNonS, Bool.not_true, Bool.not_false, close_int, close_bl, close_str, close_non, pr]
      rw [bd]
      show (if [0, 1, 2, 3, 4, 5, 6].contains c then (xss (Z.run P (k + 4)) suiteL [x0, x1, x2, some (natsD data), some (.int (place : Int)), some (.str (nmX c)), some (.int (p : Int)), some (.tup []), some (natsD data), none, some (.loc st.length), none] (st ++ [DO.exn c (.int (p : Int))])).leave 10 st else _) = _
      rw [hct, if_pos rfl, su, leave_bl (Gr.app _ _)]
    unfold tailL
    rw [xss_step x1' (xss_step x2' rfl), xss_cons, x3', seq_ret]
  | ok ls en' a =>
    generalize he : (((en'.getD (a + 1) : Nat)) : Int) = e
    have lw : closeR st (Z.run P (k + 4) 12 [natsD data, .int (place : Int)] st) = .ok (.tup [.str [], .int e, nameD ls]) st := by rw [lw, ← he]; rfl
    have pr : closeR st (Z.run P (k + 4) 1 [natsD data, .int (place : Int)] st) = .ok (.tup [nameD ls, .int e]) st := by rw [pr, ← he]; rfl
    have x1' : xs (Z.run P (k + 4)) (.asg (.tup [.nm 5, .nm 6, .nm 7]) (.scall 12 [.v 3, .v 4])) [x0, x1, x2, some (natsD data), some (.int (place : Int)), none, none, none, none, none, none, none] st =
        .next [x0, x1, x2, some (natsD data), some (.int (place : Int)), some (.str []), some (.int e), some (nameD ls), none, none, none, none] st := asg3 lw
    have x2' : xs (Z.run P (k + 4)) (.asg (.nm 8) (.op (.x .toListF) [.v 3])) [x0, x1, x2, some (natsD data), some (.int (place : Int)), some (.str []), some (.int e), some (nameD ls), none, none, none, none] st =
        .next [x0, x1, x2, some (natsD data), some (.int (place : Int)), some (.str []), some (.int e), some (nameD ls), some (natsD data), none, none, none] st := by
      simp only [forB_nm, ev_op, ev_v, ev_c, ev_not, ev_and, ev_or, ev_ifx, ev_chain, ev_call, ev_scall, ev_seal, evs_cons, evs_nil, xs_asg, xs_expr, xs_ret, xs_ite, xs_brk, xs_cnt, xs_pass, xs_raise, xss_cons, xss_nil, List.getElem?_cons_zero, List.getElem?_cons_succ, bind_ok, bind_exc, toS_ok, toS_exc, seq_next, seq_ret, seq_exc, fin_ret, fin_next, fin_exc, truth_bl, setT_nm, List.set_cons_succ, List.set_cons_zero, o_addI, o_subI, o_ltI, o_leI, o_gtI, o_geI, o_eqI, o_neI, o_eqS, o_neS, o_eqB, o_neB, o_isB, o_isnotB, o_toInt, o_asInt, o_neg, o_asStr, o_iadd, o_isub, o_isNon, o_isNonI, o_isNonS, o_isnotNon, o_isnotNonI, o_isnotNonS, Bool.not_true, Bool.not_false, close_int, close_bl, close_str, close_non, tl]
    have x3' : xs (Z.run P (k + 4)) (.try_ [.asg (.nm 9) (.scall 1 [.v 8, .v 4])] [0, 1, 2, 3, 4, 5, 6] 10 suiteL) [x0, x1, x2, some (natsD data), some (.int (place : Int)), some (.str []), some (.int e), some (nameD ls), some (natsD data), none, none, none] st =
        .next [x0, x1, x2, some (natsD data), some (.int (place : Int)), some (.str []), some (.int e), some (nameD ls), some (natsD data), some (.tup [nameD ls, .int e]), none, none] st := by
      rw [xs_try]
      have bd : xss (Z.run P (k + 4)) [.asg (.nm 9) (.scall 1 [.v 8, .v 4])] [x0, x1, x2, some (natsD data), some (.int (place : Int)), some (.str []), some (.int e), some (nameD ls), some (natsD data), none, none, none] st =
          .next [x0, x1, x2, some (natsD data), some (.int (place : Int)), some (.str []), some (.int e), some (nameD ls), some (natsD data), some (.tup [nameD ls, .int e]), none, none] st := by
        simp only [forB_nm, ev_op, ev_v, ev_c, ev_not, ev_and, ev_or, ev_ifx, ev_chain, ev_call, ev_scall, ev_seal, evs_cons, evs_nil, xs_asg, xs_expr, xs_ret, xs_ite, xs_brk, xs_cnt, xs_pass, xs_raise, xss_cons, xss_nil, List.getElem?_cons_zero, List.getElem?_cons_succ, bind_ok, bind_exc, toS_ok, toS_exc, seq_next, seq_ret, seq_exc, fin_ret, fin_next, fin_exc, truth_bl, setT_nm, List.set_cons_succ, List.set_cons_zero, o_addI, o_subI, o_ltI, o_leI, o_gtI, o_geI, o_eqI, o_neI, o_eqS, o_neS, o_eqB, o_neB, o_isB, o_isnotB, o_toInt, o_asInt, o_neg, o_asStr, o_iadd, o_isub, o_isNon, o_isNonI, o_isNonS, o_isnotNon, o_isnotNonI, o_isnotNonS, Bool.not_true, Bool.not_false, close_int, close_bl, close_str, close_non, pr]
      rw [bd]; rfl
    have it : opSem (.isin .tuple) [.tup [nameD ls, .int e]] st = .ok (.bl true) st := rfl
    have it2 : opSem (.isin .tuple) [nameD ls] st = .ok (.bl true) st := rfl
    have ln : opSem .len [.tup [nameD ls, .int e]] st = .ok (.int 2) st := rfl
    have i0 : opSem .ix [.tup [nameD ls, .int e], .int 0] st = .ok (nameD ls) st := rfl
    have i1 : opSem .ix [.tup [nameD ls, .int e], .int 1] st = .ok (.int e) st := rfl
    have tp : opSem .tup [nameD ls, .int e] st = .ok (.tup [nameD ls, .int e]) st := o_tup st _ (by show 2 ≤ SZ; decide)
    have ep := eq_pair st ls e
    have ii := is_int (k + 3) e st
    have h22 : ((2 : Int) == 2) = true := rfl
    have hss : (([] : List Nat) == []) = true := rfl
    have x4' : xs (Z.run P (k + 4)) (.ite (.or (.op .ne [.v 5, .c (.str [])]) (.or (.not (.op (.isin .tuple) [.v 9])) (.or (.op .ne [.op .len [.v 9],
        .c (.int 2)]) (.not (.op (.isin .tuple) [.op .ix [.v 9, .c (.int 0)]]))))) [.ret (.c (.bl false))] []) [x0, x1, x2, some (natsD data), some (.int (place : Int)), some (.str []), some (.int e), some (nameD ls), some (natsD data), some (.tup [nameD ls, .int e]), none, none] st =
        .next [x0, x1, x2, some (natsD data), some (.int (place : Int)), some (.str []), some (.int e), some (nameD ls), some (natsD data), some (.tup [nameD ls, .int e]), none, none] st := by
      simp only [forB_nm, ev_op, ev_v, ev_c, ev_not, ev_and, ev_or, ev_ifx, ev_chain, ev_call, ev_scall, ev_seal, evs_cons, evs_nil, xs_asg, xs_expr, xs_ret, xs_ite, xs_brk, xs_cnt, xs_pass, xs_raise, xss_cons, xss_nil, List.getElem?_cons_zero, List.getElem?_cons_succ, bind_ok, bind_exc, toS_ok, toS_exc, seq_next, seq_ret, seq_exc, fin_ret, fin_next, fin_exc, truth_bl, setT_nm, List.set_cons_succ, List.set_cons_zero, o_addI, o_subI, o_ltI, o_leI, o_gtI, o_geI, o_eqI, o_neI, o_eqS, o_neS, o_eqB, o_neB, o_isB, o_isnotB, o_toInt, o_asInt, o_neg, o_asStr, o_iadd, o_isub, o_isNon, o_isNonI, o_isNonS, o_isnotNon, o_isnotNonI, o_isnotNonS, Bool.not_true, Bool.not_false, close_int, close_bl, close_str, close_non, xss_nil, hss, it, ln, h22, i0, it2]
    have x5' : xs (Z.run P (k + 4)) (.ret (.and (.op .eq [.v 9, .op .tup [.v 7, .v 6]]) (.and (.call 8 [.op .ix [.v 9, .c (.int 1)]]) (.op .eq [.v 8, .v 3])))) [x0, x1, x2, some (natsD data), some (.int (place : Int)), some (.str []), some (.int e), some (nameD ls), some (natsD data), some (.tup [nameD ls, .int e]), none, none] st = .ret (.bl true) st := by
      simp only [forB_nm, ev_op, ev_v, ev_c, ev_not, ev_and, ev_or, ev_ifx, ev_chain, ev_call, ev_scall, ev_seal, evs_cons, evs_nil, xs_asg, xs_expr, xs_ret, xs_ite, xs_brk, xs_cnt, xs_pass, xs_raise, xss_cons, xss_nil, List.getElem?_cons_zero, List.getElem?_cons_succ, bind_ok, bind_exc, toS_ok, toS_exc, seq_next, seq_ret, seq_exc, fin_ret, fin_next, fin_exc, truth_bl, setT_nm, List.set_cons_succ, List.set_cons_zero, o_addI, o_subI, o_ltI, o_leI, o_gtI, o_geI, o_eqI, o_neI, o_eqS, o_neS, o_eqB, o_neB, o_isB, o_isnotB, o_toInt, o_asInt, o_neg, o_asStr, o_iadd, o_isub, o_isNon, o_isNonI, o_isNonS, o_isnotNon, o_isnotNonI, o_isnotNonS, Bool.not_true, Bool.not_false, close_int, close_bl, close_str, close_non, tp, ep, i1, ii, en]
    unfold tailL
    rw [xss_step x1' (xss_step x2' (xss_step x3' (xss_step x4' rfl))), xss_one, x5']
end
end K6

set_option autoImplicit false
set_option maxHeartbeats 2000000
namespace K6
open PySem L2 Z

section
variable {F : FT} {ns : List Int}
def scD (ns : List Int) : D := .slst (ns.map .int)
def EnH (ns : List Int) (s kind data place : Option D) : Z.Env := [some (scD ns), s, kind, data, place, none, none, none, none, none, none, none]
def HDraw (F : FT) (ns : List Int) : Prop := ∀ (st : Store) (size : Int), StOk 0 st → 0 < size → size < 1000000 → ∃ d st', F 9 [.loc 0, scD ns, .int size] st = .ok (.int d) st' ∧ 0 ≤ d ∧ d < size ∧ StOk 0 st'
theorem h_slice (st : Store) : closeR st (opSem (.sl true true) [scD ns, .int 1, .int 62] st) = .ok (.flst (((ns.drop 1).take 61).map .int)) st := by
  have e : opSem (.sl true true) [scD ns, .int 1, .int 62] st = .ok (.loc st.length) (st ++ [.lst (cutD (ns.map D.int) (some ((1 : Nat) : Int)) (some ((62 : Nat) : Int)))]) := rfl
  rw [e, cut_map, cut_nat]
  exact close_new (closeds_map (fun _ => rfl) _)
theorem h_data (x1 x2 : Option D) (st : Store) : ∃ data : List Nat, xs F (.asg (.nm 3) (.sealE (.comp [11]
    (.nm 11) .seq [.sealE (.op (.sl true true) [.v 0, .op .asInt [.c (.int 1)], .c (.int 62)])] [] (.op .mod [.v 11, .c (.int 256)])))) (EnH ns x1 x2 none none) st = .next (EnH ns x1 x2 (some (natsD data)) none) st ∧ (∀ c ∈ data, c < 256) ∧ data.length ≤ 61 := by
  have src : evs F [.sealE (.op (.sl true true) [.v 0, .op .asInt [.c (.int 1)], .c (.int 62)])] (EnH ns x1 x2 none none) st = .ok [.flst (((ns.drop 1).take 61).map .int)] st := by
    simp only [EnH, forB_nm, ev_op, ev_v, ev_c, ev_not, ev_and, ev_or, ev_ifx, ev_chain, ev_call, ev_scall, ev_seal, evs_cons, evs_nil, xs_asg, xs_expr, xs_ret, xs_ite, xs_brk, xs_cnt, xs_pass, xs_raise, xss_cons, xss_nil, List.getElem?_cons_zero, List.getElem?_cons_succ, bind_ok, bind_exc, toS_ok, toS_exc, seq_next, seq_ret, seq_exc, fin_ret, fin_next, fin_exc, truth_bl, setT_nm, List.set_cons_succ, List.set_cons_zero, o_addI, o_subI, o_ltI, o_leI, o_gtI, o_geI, o_eqI, o_neI, o_eqS, o_neS, o_eqB, o_neB, o_isB, o_isnotB, o_toInt, o_asInt, o_neg, o_asStr, o_iadd, o_isub, o_isNon, o_isNonI, o_isNonS, o_isnotNon, o_isnotNonI, o_isnotNonS, Bool.not_true, Bool.not_false, close_int, close_bl, close_str, close_non, h_slice]
  have cm : closeR st (ev F (.comp [11] (.nm 11) .seq [.sealE (.op (.sl true true) [.v 0, .op .asInt [.c (.int 1)], .c (.int 62)])] [] (.op .mod [.v 11, .c (.int 256)])) (EnH ns x1 x2 none none) st) = .ok (.flst (((ns.drop 1).take 61).map fun i => D.int (i % 256))) st :=
    comp_map ((ns.drop 1).take 61) D.int (fun i => D.int (i % 256)) src (src_flst st _) rfl (by rw [List.length_take]; show _ ≤ 16777216; omega) (fun _ _ => rfl) (fun _ _ => rfl) fun i _ s _ =>
      ⟨_, rfl, by simp only [EnH, forB_nm, ev_op, ev_v, ev_c, ev_not, ev_and, ev_or, ev_ifx, ev_chain, ev_call, ev_scall, ev_seal, evs_cons, evs_nil, xs_asg, xs_expr, xs_ret, xs_ite, xs_brk, xs_cnt, xs_pass, xs_raise, xss_cons, xss_nil, List.getElem?_cons_zero, List.getElem?_cons_succ, bind_ok, bind_exc, toS_ok, toS_exc, seq_next, seq_ret, seq_exc, fin_ret, fin_next, fin_exc, truth_bl, setT_nm, List.set_cons_succ, List.set_cons_zero, o_addI, o_subI, o_ltI, o_leI, o_gtI, o_geI, o_eqI, o_neI, o_eqS, o_neS, o_eqB, o_neB, o_isB, o_isnotB, o_toInt, o_asInt, o_neg, o_asStr, o_iadd, o_isub, o_isNon, o_isNonI, o_isNonS, o_isnotNon, o_isnotNonI, o_isnotNonS, Bool.not_true, Bool.not_false, close_int, close_bl, close_str, close_non, wipeE, o_mod s i 256 (by decide)]⟩
  refine ⟨((ns.drop 1).take 61).map fun i => (i % 256).toNat, ?_, fun c hc => ?_, by rw [List.length_map, List.length_take]; omega⟩
  · have e : natsD (((ns.drop 1).take 61).map fun i => (i % 256).toNat) = .flst (((ns.drop 1).take 61).map fun i => D.int (i % 256)) := by
      show D.flst (((((ns.drop 1).take 61).map fun i => (i % 256).toNat)).map fun (n : Nat) => D.int (n : Int)) = _
      rw [List.map_map]
      congr 1
      refine List.map_congr_left fun i _ => ?_
      show D.int (((i % 256).toNat : Nat) : Int) = D.int (i % 256)
      rw [Int.toNat_of_nonneg (Int.emod_nonneg _ (by decide))]
    rw [e, xs_asg, ev_seal, cm, toS_ok, setT_nm]; rfl
  · obtain ⟨i, _, rfl⟩ := List.mem_map.mp hc
    have := Int.emod_lt_of_pos i (show (0 : Int) < 256 by decide)
    have := Int.emod_nonneg i (show (256 : Int) ≠ 0 by decide)
    omega
theorem head (hd : HDraw F ns) (hp : ∀ st, StOk 0 st → ∃ (data : List Nat) (st' : Store), closeR st (F 14 [.loc 0, scD ns] st) = .ok (natsD data) st' ∧ (∀ c ∈ data, c < 256) ∧ data.length ≤ 100 ∧ StOk 0 st')
    (hl : ∀ st, StOk 0 st → ∃ (data : List Nat) (st' : Store), closeR st (F 15 [.loc 0, scD ns] st) = .ok (natsD data) st' ∧ (∀ c ∈ data, c < 256) ∧ (10 ≤ data.length ∧ data.length ≤ 400) ∧ StOk 0 st') :
    ∃ (kind : Int) (data : List Nat) (place : Nat) (st' : Store), xss F headL (EnH ns none none none none) [] = .next (EnH ns (some (.loc 0)) (some (.int kind)) (some (natsD data)) (some (.int (place : Int)))) st' ∧ (∀ c ∈ data, c < 256) ∧ data.length ≤ 1000 := by
  have e1 : xs F (.asg (.nm 1) (.op .lst [.c (.int 0), .c (.int 0)])) (EnH ns none none none none) [] = .next (EnH ns (some (.loc 0)) none none none) [.lst [.int 0, .int 0]] := rfl
  have h0 : StOk 0 [.lst [.int 0, .int 0]] := ⟨0, 0, rfl, by decide, by decide⟩
  obtain ⟨kind, s1, f1, k0, k1, h1⟩ := hd _ 9 h0 (by decide) (by decide)
  have e2 : xs F (.asg (.nm 2) (.call 9 [.v 1, .v 0, .c (.int 9)])) (EnH ns (some (.loc 0)) none none none) [.lst [.int 0, .int 0]] = .next (EnH ns (some (.loc 0)) (some (.int kind)) none none) s1 := by
    simp only [EnH, forB_nm, ev_op, ev_v, ev_c, ev_not, ev_and, ev_or, ev_ifx, ev_chain, ev_call, ev_scall, ev_seal, evs_cons, evs_nil, xs_asg, xs_expr, xs_ret, xs_ite, xs_brk, xs_cnt, xs_pass, xs_raise, xss_cons, xss_nil, List.getElem?_cons_zero, List.getElem?_cons_succ, bind_ok, bind_exc, toS_ok, toS_exc, seq_next, seq_ret, seq_exc, fin_ret, fin_next, fin_exc, truth_bl, setT_nm, List.set_cons_succ, List.set_cons_zero, o_addI, o_subI, o_ltI, o_leI, o_gtI, o_geI, o_eqI, o_neI, o_eqS, o_neS, o_eqB, o_neB, o_isB, o_isnotB, o_toInt, o_asInt, o_neg, o_asStr, o_iadd, o_isub, o_isNon, o_isNonI, o_isNonS, o_isnotNon, o_isnotNonI, o_isnotNonS, Bool.not_true, Bool.not_false, close_int, close_bl, close_str, close_non, f1]
  obtain ⟨data, e3, hb, hz⟩ := h_data (F := F) (ns := ns) (some (.loc 0)) (some (.int kind)) s1
  obtain ⟨data2, s2, e4, hb2, hz2, h2⟩ : ∃ (data2 : List Nat) (s2 : Store), xs F (.ite (.op .gt [.v 2, .c (.int 3)]) [.asg (.nm 3) (.scall 14 [.v 1, .v 0])] []) (EnH ns (some (.loc 0)) (some (.int kind)) (some (natsD data)) none) s1 =
      .next (EnH ns (some (.loc 0)) (some (.int kind)) (some (natsD data2)) none) s2 ∧ (∀ c ∈ data2, c < 256) ∧ data2.length ≤ 100 ∧ StOk 0 s2 := by
    by_cases hk : 3 < kind
    · obtain ⟨data2, s2, p1, p2, p3, p4⟩ := hp s1 h1
      have i1 : decide ((3 : Int) < kind) = true := decide_eq_true hk
      exact ⟨data2, s2, by simp only [EnH, forB_nm, ev_op, ev_v, ev_c, ev_not, ev_and, ev_or, ev_ifx, ev_chain, ev_call, ev_scall, ev_seal, evs_cons, evs_nil, xs_asg, xs_expr, xs_ret, xs_ite, xs_brk, xs_cnt, xs_pass, xs_raise, xss_cons, xss_nil, List.getElem?_cons_zero, List.getElem?_cons_succ, bind_ok, bind_exc, toS_ok, toS_exc, seq_next, seq_ret, seq_exc, fin_ret, fin_next, fin_exc, truth_bl, setT_nm, List.set_cons_succ, List.set_cons_zero, o_addI, o_subI, o_ltI, o_leI, o_gtI, o_geI, o_eqI, o_neI, o_eqS, o_neS, o_eqB, o_neB, o_isB, o_isnotB, o_toInt, o_asInt, o_neg, o_asStr, o_iadd, o_isub, o_isNon, o_isNonI, o_isNonS, o_isnotNon, o_isnotNonI, o_isnotNonS, Bool.not_true, Bool.not_false, close_int, close_bl, close_str, close_non, i1, p1], p2, p3, p4⟩
    · have i1 : decide ((3 : Int) < kind) = false := decide_eq_false hk
      exact ⟨data, s1, by simp only [EnH, forB_nm, ev_op, ev_v, ev_c, ev_not, ev_and, ev_or, ev_ifx, ev_chain, ev_call, ev_scall, ev_seal, evs_cons, evs_nil, xs_asg, xs_expr, xs_ret, xs_ite, xs_brk, xs_cnt, xs_pass, xs_raise, xss_cons, xss_nil, List.getElem?_cons_zero, List.getElem?_cons_succ, bind_ok, bind_exc, toS_ok, toS_exc, seq_next, seq_ret, seq_exc, fin_ret, fin_next, fin_exc, truth_bl, setT_nm, List.set_cons_succ, List.set_cons_zero, o_addI, o_subI, o_ltI, o_leI, o_gtI, o_geI, o_eqI, o_neI, o_eqS, o_neS, o_eqB, o_neB, o_isB, o_isnotB, o_toInt, o_asInt, o_neg, o_asStr, o_iadd, o_isub, o_isNon, o_isNonI, o_isNonS, o_isnotNon, o_isnotNonI, o_isnotNonS, Bool.not_true, Bool.not_false, close_int, close_bl, close_str, close_non, xss_nil, i1], hb, by omega, h1⟩
  obtain ⟨d, s3, f3, d0, d1, h3⟩ := hd s2 ((data2.length : Int) + 1) h2 (by omega) (by omega)
  obtain ⟨place, rfl⟩ : ∃ place : Nat, d = (place : Int) := ⟨d.toNat, by omega⟩
  have ln := len_nats s2 data2
  have e5 : xs F (.asg (.nm 4) (.call 9 [.v 1, .v 0, .op .add [.op .len [.v 3], .c (.int 1)]])) (EnH ns (some (.loc 0)) (some (.int kind)) (some (natsD data2)) none) s2 = .next (EnH ns (some (.loc 0)) (some (.int kind)) (some (natsD data2)) (some (.int (place : Int)))) s3 := by
    simp only [EnH, forB_nm, ev_op, ev_v, ev_c, ev_not, ev_and, ev_or, ev_ifx, ev_chain, ev_call, ev_scall, ev_seal, evs_cons, evs_nil, xs_asg, xs_expr, xs_ret, xs_ite, xs_brk, xs_cnt, xs_pass, xs_raise, xss_cons, xss_nil, List.getElem?_cons_zero, List.getElem?_cons_succ, bind_ok, bind_exc, toS_ok, toS_exc, seq_next, seq_ret, seq_exc, fin_ret, fin_next, fin_exc, truth_bl, setT_nm, List.set_cons_succ, List.set_cons_zero, o_addI, o_subI, o_ltI, o_leI, o_gtI, o_geI, o_eqI, o_neI, o_eqS, o_neS, o_eqB, o_neB, o_isB, o_isnotB, o_toInt, o_asInt, o_neg, o_asStr, o_iadd, o_isub, o_isNon, o_isNonI, o_isNonS, o_isnotNon, o_isnotNonI, o_isnotNonS, Bool.not_true, Bool.not_false, close_int, close_bl, close_str, close_non, ln, f3]
  obtain ⟨data3, place3, s4, e6, hb3, hz3⟩ : ∃ (data3 : List Nat) (place3 : Nat) (s4 : Store), xs F (.ite (.op .eq [.v 2, .c (.int 8)]) [.asg (.nm 3) (.scall 15 [.v 1, .v 0]), .asg (.nm 4) (.op .ix [.op (.x .flit) [.c (.int 0),
      .op .sub [.op .len [.v 3], .c (.int 4)]], .call 9 [.v 1, .v 0, .c (.int 2)]])] []) (EnH ns (some (.loc 0)) (some (.int kind)) (some (natsD data2)) (some (.int (place : Int)))) s3 =
      .next (EnH ns (some (.loc 0)) (some (.int kind)) (some (natsD data3)) (some (.int (place3 : Int)))) s4 ∧ (∀ c ∈ data3, c < 256) ∧ data3.length ≤ 1000 := by
    by_cases hk : kind = 8
    · obtain ⟨data3, s4, p1, p2, ⟨p3, p4⟩, p5⟩ := hl s3 h3
      have i1 : (kind == 8) = true := by simpa using hk
      obtain ⟨w, s5, f5, w0, w1, h5⟩ := hd s4 2 p5 (by decide) (by decide)
      have ln := len_nats s4 data3
      have fl : opSem (.x .flit) [.int 0, .int ((data3.length : Int) - 4)] s4 = .ok (natsD [0, data3.length - 4]) s4 := by
        have e : (data3.length : Int) - 4 = ((data3.length - 4 : Nat) : Int) := by omega
        rw [e]; rfl
      obtain ⟨v, hv, ix⟩ := ix_const s5 [0, data3.length - 4] w w0 (by show w < 2; omega)
      exact ⟨data3, v, s5, by simp only [EnH, forB_nm, ev_op, ev_v, ev_c, ev_not, ev_and, ev_or, ev_ifx, ev_chain, ev_call, ev_scall, ev_seal, evs_cons, evs_nil, xs_asg, xs_expr, xs_ret, xs_ite, xs_brk, xs_cnt, xs_pass, xs_raise, xss_cons, xss_nil, List.getElem?_cons_zero, List.getElem?_cons_succ, bind_ok, bind_exc, toS_ok, toS_exc, seq_next, seq_ret, seq_exc, fin_ret, fin_next, fin_exc, truth_bl, setT_nm, List.set_cons_succ, List.set_cons_zero, o_addI, o_subI, o_ltI, o_leI, o_gtI, o_geI, o_eqI, o_neI, o_eqS, o_neS, o_eqB, o_neB, o_isB, o_isnotB, o_toInt, o_asInt, o_neg, o_asStr, o_iadd, o_isub, o_isNon, o_isNonI, o_isNonS, o_isnotNon, o_isnotNonI, o_isnotNonS, Bool.not_true, Bool.not_false, close_int, close_bl, close_str, close_non, i1, p1, ln, fl, f5, ix], p2, by omega⟩
    · have i1 : (kind == 8) = false := by simpa using hk
      exact ⟨data2, place, s3, by simp only [EnH, forB_nm, ev_op, ev_v, ev_c, ev_not, ev_and, ev_or, ev_ifx, ev_chain, ev_call, ev_scall, ev_seal, evs_cons, evs_nil, xs_asg, xs_expr, xs_ret, xs_ite, xs_brk, xs_cnt, xs_pass, xs_raise, xss_cons, xss_nil, List.getElem?_cons_zero, List.getElem?_cons_succ, bind_ok, bind_exc, toS_ok, toS_exc, seq_next, seq_ret, seq_exc, fin_ret, fin_next, fin_exc, truth_bl, setT_nm, List.set_cons_succ, List.set_cons_zero, o_addI, o_subI, o_ltI, o_leI, o_gtI, o_geI, o_eqI, o_neI, o_eqS, o_neS, o_eqB, o_neB, o_isB, o_isnotB, o_toInt, o_asInt, o_neg, o_asStr, o_iadd, o_isub, o_isNon, o_isNonI, o_isNonS, o_isnotNon, o_isnotNonI, o_isnotNonS, Bool.not_true, Bool.not_false, close_int, close_bl, close_str, close_non, xss_nil, i1], hb2, by omega⟩
  refine ⟨kind, data3, place3, s4, ?_, hb3, hz3⟩
  unfold headL
  rw [xss_step e1 (xss_step e2 (xss_step e3 (xss_step e4 (xss_step e5 rfl)))), xss_one, e6]
end
theorem tri3 : ∀ c ∈ tri 3, c < 256 := by decide +kernel
theorem law (ns : List Int) (k : Nat) : ∃ st', Z.run P (k + 5) 16 [.slst (ns.map .int)] [] = .ok (.bl true) st' := by
  rw [run_eq (P := P) (f := 16) rfl (k + 4) _ _ rfl]
  show ∃ st', (xss (Z.run P (k + 4)) b16 (EnH ns none none none none) []).fin = _
  obtain ⟨kind, data, place, st', e, hb, hz⟩ := head (F := Z.run P (k + 4)) (ns := ns)
    (fun st size h h1 h2 => by
      obtain ⟨d, s', e, d0, d1, so, _⟩ := Z.draw (P := P) (f := 9) rfl (k + 3) (ns := ns) h h1 (by omega)
      exact ⟨d, s', e, d0, d1, so⟩)
    (fun st h => by
      obtain ⟨data, s', e, h1, h2, so, _⟩ := parts (k + 2) (ns := ns) h
      exact ⟨data, s', e, h1, h2, so⟩)
    (fun st h => by
      obtain ⟨n, s', e, h1, h2, so, _⟩ := long (k + 2) (ns := ns) (tri 3) rfl h
      refine ⟨longD (tri 3) n, s', e, fun c hc => ?_, ?_, so⟩
      · unfold longD at hc
        simp only [List.mem_append, List.mem_singleton, List.mem_replicate, List.mem_cons, List.not_mem_nil, or_false] at hc
        rcases hc with ((hc | hc) | hc) | hc
        · exact tri3 c hc
        · omega
        · omega
        · omega
      · unfold longD
        rw [List.length_append, List.length_append, List.length_append, tri_len, List.length_replicate]
        simp
        omega)
  refine ⟨st', ?_⟩
  rw [b16_eq, xss_append, e, seq_next]
  show (xss (Z.run P (k + 4)) tailL [some (scD ns), some (.loc 0), some (.int kind), some (natsD data), some (.int (place : Int)), none, none, none, none, none, none, none] st').fin = _
  rw [tail k _ _ _ data hb hz place st', fin_ret]
end K6

set_option autoImplicit false
set_option maxHeartbeats 2000000
namespace K6
open PySem PySem.Spec PyProof.Rows L2 Z
/-! ## the end: what the top has written -/
def cns : List Str := ["ZonewardError", "Truncated", "ReservedValue", "InvalidForm", "InvalidPointer", "InvalidName", "InvalidText"]
def spL (K : PySem.W.Frag) : Sp := spF ((gcOf K cns).at none) K P 5 16
def stI : Stmt := inCls (topS 1) 0
theorem all_mk {prog : Program} {w : World} {K : PySem.W.Frag} {h : Heap} {mg : Str → Option Value} {fa f0 f1 f2 f3 f4 f5 f6 f7 f8 f9 f10 f11 f12 f13 f14 f15 f16 C0 C1 C2 C3 C4 C5 C6 fI : Addr} (X : K.In h) (G : h.Ns mainGlobals mg) (hfa : mg "law" = some (.ref fa))
    {od0 an0 od1 an1 od2 an2 od3 an3 od4 an4 od5 an5 od6 an6 od7 an7 od8 an8 od9 an9 od10 an10 od11 an11 od12 an12 od13 an13 od14 an14 od15 an15 od16 an16 odI anI : Option Addr} {sl0 sl1 sl2 sl3 sl4 sl5 sl6 sl7 sl8 sl9 sl10 sl11 sl12 sl13 sl14 sl15 sl16 slI : Array (Option Value)} {oc0 kV0 dc0 pm0 cd0 ct0 oc1 kV1 dc1 pm1 cd1 ct1 oc2 kV2 dc2 pm2 cd2 ct2 oc3 kV3 dc3 pm3 cd3 ct3 oc4 kV4 dc4 pm4 cd4 ct4 oc5 kV5 dc5 pm5 cd5 ct5 oc6 kV6 dc6 pm6 cd6 ct6 oc7 kV7 dc7 pm7 cd7 ct7 oc8 kV8 dc8 pm8 cd8 ct8 oc9 kV9 dc9 pm9 cd9 ct9 oc10 kV10 dc10 pm10 cd10 ct10 oc11 kV11 dc11 pm11 cd11 ct11 oc12 kV12 dc12 pm12 cd12 ct12 oc13 kV13 dc13 pm13 cd13 ct13 oc14 kV14 dc14 pm14 cd14 ct14 oc15 kV15 dc15 pm15 cd15 ct15 oc16 kV16 dc16 pm16 cd16 ct16 ocI kVI dcI pmI cdI ctI : Value}
    {t0 t1 t2 t3 t4 t5 t6 t7 t8 t9 : Tok}
    {nm0 qn0 : Str} {NN0 : Addr} {bs0 su0 : List Value} {sn0 : List Str} {ab0 : Bool} {co0 : Option Bool} {dd0 : Option Addr} {ka0 kb0 kc0 ke0 kf0 : Option Value}
    {nm1 qn1 : Str} {NN1 : Addr} {bs1 su1 : List Value} {sn1 : List Str} {ab1 : Bool} {co1 : Option Bool} {dd1 : Option Addr} {ka1 kb1 kc1 ke1 kf1 : Option Value}
    {nm2 qn2 : Str} {NN2 : Addr} {bs2 su2 : List Value} {sn2 : List Str} {ab2 : Bool} {co2 : Option Bool} {dd2 : Option Addr} {ka2 kb2 kc2 ke2 kf2 : Option Value}
    {nm3 qn3 : Str} {NN3 : Addr} {bs3 su3 : List Value} {sn3 : List Str} {ab3 : Bool} {co3 : Option Bool} {dd3 : Option Addr} {ka3 kb3 kc3 ke3 kf3 : Option Value}
    {nm4 qn4 : Str} {NN4 : Addr} {bs4 su4 : List Value} {sn4 : List Str} {ab4 : Bool} {co4 : Option Bool} {dd4 : Option Addr} {ka4 kb4 kc4 ke4 kf4 : Option Value}
    {nm5 qn5 : Str} {NN5 : Addr} {bs5 su5 : List Value} {sn5 : List Str} {ab5 : Bool} {co5 : Option Bool} {dd5 : Option Addr} {ka5 kb5 kc5 ke5 kf5 : Option Value}
    {nm6 qn6 : Str} {NN6 : Addr} {bs6 su6 : List Value} {sn6 : List Str} {ab6 : Bool} {co6 : Option Bool} {dd6 : Option Addr} {ka6 kb6 kc6 ke6 kf6 : Option Value}
    (a0 : PySem.W.nsIn K mainGlobals "name_size" = some (some (.ref f0)))
    (l0 : K.lookup f0 = some ⟨oc0, od0, .func (PySem.W.fnOf "name_size" "name_size" (defArgs e0.st) (defBody e0.st) (defScope e0.st) .none kV0 dc0 pm0 an0 cd0 ct0), sl0⟩)
    (c0 : PySem.W.codeIn K cd0 "name_size" = true)
    (k0 : PySem.W.keepIn K (.ref f0) = true)
    (a1 : PySem.W.nsIn K mainGlobals "read_name" = some (some (.ref f1)))
    (l1 : K.lookup f1 = some ⟨oc1, od1, .func (PySem.W.fnOf "read_name" "read_name" (defArgs e1.st) (defBody e1.st) (defScope e1.st) .none kV1 dc1 pm1 an1 cd1 ct1), sl1⟩)
    (c1 : PySem.W.codeIn K cd1 "read_name" = true)
    (k1 : PySem.W.keepIn K (.ref f1) = true)
    (a2 : PySem.W.nsIn K mainGlobals "_check_complete" = some (some (.ref f2)))
    (l2 : K.lookup f2 = some ⟨oc2, od2, .func (PySem.W.fnOf "_check_complete" "_check_complete" (defArgs e2.st) (defBody e2.st) (defScope e2.st) .none kV2 dc2 pm2 an2 cd2 ct2), sl2⟩)
    (c2 : PySem.W.codeIn K cd2 "_check_complete" = true)
    (k2 : PySem.W.keepIn K (.ref f2) = true)
    (a3 : PySem.W.nsIn K mainGlobals "_number_at" = some (some (.ref f3)))
    (l3 : K.lookup f3 = some ⟨oc3, od3, .func (PySem.W.fnOf "_number_at" "_number_at" (defArgs e3.st) (defBody e3.st) (defScope e3.st) .none kV3 dc3 pm3 an3 cd3 ct3), sl3⟩)
    (c3 : PySem.W.codeIn K cd3 "_number_at" = true)
    (k3 : PySem.W.keepIn K (.ref f3) = true)
    (a4 : PySem.W.nsIn K mainGlobals "_target_at" = some (some (.ref f4)))
    (l4 : K.lookup f4 = some ⟨oc4, od4, .func (PySem.W.fnOf "_target_at" "_target_at" (defArgs e4.st) (defBody e4.st) (defScope e4.st) .none kV4 dc4 pm4 an4 cd4 ct4), sl4⟩)
    (c4 : PySem.W.codeIn K cd4 "_target_at" = true)
    (k4 : PySem.W.keepIn K (.ref f4) = true)
    (a5 : PySem.W.nsIn K mainGlobals "_label_at" = some (some (.ref f5)))
    (l5 : K.lookup f5 = some ⟨oc5, od5, .func (PySem.W.fnOf "_label_at" "_label_at" (defArgs e5.st) (defBody e5.st) (defScope e5.st) .none kV5 dc5 pm5 an5 cd5 ct5), sl5⟩)
    (c5 : PySem.W.codeIn K cd5 "_label_at" = true)
    (k5 : PySem.W.keepIn K (.ref f5) = true)
    (a6 : PySem.W.nsIn K mainGlobals "_label_character_of" = some (some (.ref f6)))
    (l6 : K.lookup f6 = some ⟨oc6, od6, .func (PySem.W.fnOf "_label_character_of" "_label_character_of" (defArgs e6.st) (defBody e6.st) (defScope e6.st) .none kV6 dc6 pm6 an6 cd6 ct6), sl6⟩)
    (c6 : PySem.W.codeIn K cd6 "_label_character_of" = true)
    (k6 : PySem.W.keepIn K (.ref f6) = true)
    (a7 : PySem.W.nsIn K mainGlobals "_character_of" = some (some (.ref f7)))
    (l7 : K.lookup f7 = some ⟨oc7, od7, .func (PySem.W.fnOf "_character_of" "_character_of" (defArgs e7.st) (defBody e7.st) (defScope e7.st) .none kV7 dc7 pm7 an7 cd7 ct7), sl7⟩)
    (c7 : PySem.W.codeIn K cd7 "_character_of" = true)
    (k7 : PySem.W.keepIn K (.ref f7) = true)
    (a8 : PySem.W.nsIn K mainGlobals "_law_is_integer" = some (some (.ref f8)))
    (l8 : K.lookup f8 = some ⟨oc8, od8, .func (PySem.W.fnOf "_law_is_integer" "_law_is_integer" (defArgs e8.st) (defBody e8.st) (defScope e8.st) .none kV8 dc8 pm8 an8 cd8 ct8), sl8⟩)
    (c8 : PySem.W.codeIn K cd8 "_law_is_integer" = true)
    (k8 : PySem.W.keepIn K (.ref f8) = true)
    (a9 : PySem.W.nsIn K mainGlobals "_law_draw" = some (some (.ref f9)))
    (l9 : K.lookup f9 = some ⟨oc9, od9, .func (PySem.W.fnOf "_law_draw" "_law_draw" (defArgs e9.st) (defBody e9.st) (defScope e9.st) .none kV9 dc9 pm9 an9 cd9 ct9), sl9⟩)
    (c9 : PySem.W.codeIn K cd9 "_law_draw" = true)
    (k9 : PySem.W.keepIn K (.ref f9) = true)
    (a10 : PySem.W.nsIn K mainGlobals "_law_char" = some (some (.ref f10)))
    (l10 : K.lookup f10 = some ⟨oc10, od10, .func (PySem.W.fnOf "_law_char" "_law_char" (defArgs e10.st) (defBody e10.st) (defScope e10.st) .none kV10 dc10 pm10 an10 cd10 ct10), sl10⟩)
    (c10 : PySem.W.codeIn K cd10 "_law_char" = true)
    (k10 : PySem.W.keepIn K (.ref f10) = true)
    (a11 : PySem.W.nsIn K mainGlobals "_law_spelled" = some (some (.ref f11)))
    (l11 : K.lookup f11 = some ⟨oc11, od11, .func (PySem.W.fnOf "_law_spelled" "_law_spelled" (defArgs e11.st) (defBody e11.st) (defScope e11.st) .none kV11 dc11 pm11 an11 cd11 ct11), sl11⟩)
    (c11 : PySem.W.codeIn K cd11 "_law_spelled" = true)
    (k11 : PySem.W.keepIn K (.ref f11) = true)
    (a12 : PySem.W.nsIn K mainGlobals "_law_read_name" = some (some (.ref f12)))
    (l12 : K.lookup f12 = some ⟨oc12, od12, .func (PySem.W.fnOf "_law_read_name" "_law_read_name" (defArgs e12.st) (defBody e12.st) (defScope e12.st) .none kV12 dc12 pm12 an12 cd12 ct12), sl12⟩)
    (c12 : PySem.W.codeIn K cd12 "_law_read_name" = true)
    (k12 : PySem.W.keepIn K (.ref f12) = true)
    (a13 : PySem.W.nsIn K mainGlobals "_law_classes" = some (some (.ref f13)))
    (l13 : K.lookup f13 = some ⟨oc13, od13, .func (PySem.W.fnOf "_law_classes" "_law_classes" (defArgs e13.st) (defBody e13.st) (defScope e13.st) .none kV13 dc13 pm13 an13 cd13 ct13), sl13⟩)
    (c13 : PySem.W.codeIn K cd13 "_law_classes" = true)
    (k13 : PySem.W.keepIn K (.ref f13) = true)
    (a14 : PySem.W.nsIn K mainGlobals "_law_parts" = some (some (.ref f14)))
    (l14 : K.lookup f14 = some ⟨oc14, od14, .func (PySem.W.fnOf "_law_parts" "_law_parts" (defArgs e14.st) (defBody e14.st) (defScope e14.st) .none kV14 dc14 pm14 an14 cd14 ct14), sl14⟩)
    (c14 : PySem.W.codeIn K cd14 "_law_parts" = true)
    (k14 : PySem.W.keepIn K (.ref f14) = true)
    (a15 : PySem.W.nsIn K mainGlobals "_law_long" = some (some (.ref f15)))
    (l15 : K.lookup f15 = some ⟨oc15, od15, .func (PySem.W.fnOf "_law_long" "_law_long" (defArgs e15.st) (defBody e15.st) (defScope e15.st) .none kV15 dc15 pm15 an15 cd15 ct15), sl15⟩)
    (c15 : PySem.W.codeIn K cd15 "_law_long" = true)
    (k15 : PySem.W.keepIn K (.ref f15) = true)
    (a16 : PySem.W.nsIn K mainGlobals "law" = some (some (.ref f16)))
    (l16 : K.lookup f16 = some ⟨oc16, od16, .func (PySem.W.fnOf "law" "law" (defArgs e16.st) (defBody e16.st) (defScope e16.st) .none kV16 dc16 pm16 an16 cd16 ct16), sl16⟩)
    (c16 : PySem.W.codeIn K cd16 "law" = true)
    (k16 : PySem.W.keepIn K (.ref f16) = true)
    (z0 : PySem.W.nsIn K mainGlobals "ValueError" = some none)
    (z1 : PySem.W.nsIn K mainGlobals "bool" = some none)
    (z2 : PySem.W.nsIn K mainGlobals "int" = some none)
    (z3 : PySem.W.nsIn K mainGlobals "isinstance" = some none)
    (z4 : PySem.W.nsIn K mainGlobals "len" = some none)
    (z5 : PySem.W.nsIn K mainGlobals "list" = some none)
    (z6 : PySem.W.nsIn K mainGlobals "ord" = some none)
    (z7 : PySem.W.nsIn K mainGlobals "range" = some none)
    (z8 : PySem.W.nsIn K mainGlobals "sum" = some none)
    (z9 : PySem.W.nsIn K mainGlobals "tuple" = some none)
    (cq0 : PySem.W.nsIn K mainGlobals "POINTER" = some (some (.int 49152 t0)))
    (cq1 : PySem.W.nsIn K mainGlobals "LABEL_CHARACTERS" = some (some (.str "abcdefghijklmnopqrstuvwxyz0123456789_-" t1)))
    (cq2 : PySem.W.nsIn K mainGlobals "WILDCARD" = some (some (.str "*" t2)))
    (cq3 : PySem.W.nsIn K mainGlobals "MAX_LABEL_LENGTH" = some (some (.int 63 t3)))
    (cq4 : PySem.W.nsIn K mainGlobals "MAX_NAME_SIZE" = some (some (.int 255 t4)))
    (cq5 : PySem.W.nsIn K mainGlobals "FIRST_POINTER_BYTE" = some (some (.int 192 t5)))
    (cq6 : PySem.W.nsIn K mainGlobals "CHARACTERS" = some (some (.str " !\"#$ &'()*+,-./0123456789:;<=>?@ABCDEFGHIJKLMNOPQRSTUVWXYZ[\\]^_`abcdefghijklmnopqrstuvwxyz{|}~" t6)))
    (cq7 : PySem.W.nsIn K mainGlobals "FIRST_CODE" = some (some (.int 32 t7)))
    (cq8 : PySem.W.nsIn K mainGlobals "LAST_CODE" = some (some (.int 126 t8)))
    (cq9 : PySem.W.nsIn K mainGlobals "PERCENT_CODE" = some (some (.int 37 t9)))
    (ac0 : PySem.W.nsIn K mainGlobals "ZonewardError" = some (some (.ref C0)))
    (ac1 : PySem.W.nsIn K mainGlobals "Truncated" = some (some (.ref C1)))
    (ac2 : PySem.W.nsIn K mainGlobals "ReservedValue" = some (some (.ref C2)))
    (ac3 : PySem.W.nsIn K mainGlobals "InvalidForm" = some (some (.ref C3)))
    (ac4 : PySem.W.nsIn K mainGlobals "InvalidPointer" = some (some (.ref C4)))
    (ac5 : PySem.W.nsIn K mainGlobals "InvalidName" = some (some (.ref C5)))
    (ac6 : PySem.W.nsIn K mainGlobals "InvalidText" = some (some (.ref C6)))
    (xl0 : K.lookup C0 = some (excClassObj nm0 qn0 C0 NN0 bs0 [.type "ValueError", .type "Exception", .type "BaseException", .type "object"] true sn0 su0 ab0 co0 dd0 ka0 kb0 kc0 ke0 kf0 "ValueError.__new__"))
    (sa0 : PySem.W.findIn K (.ref C0) "__setattr__" = some (some (.builtin "object.__setattr__")))
    (ga0 : PySem.W.findIn K (.ref C0) "__getattribute__" = some (some (.builtin "BaseException.__getattribute__")))
    (gg0 : PySem.W.findIn K (.ref C0) "__getattr__" = some none)
    (np0 : PySem.W.findIn K (.ref C0) "place" = some none)
    (ic0 : PySem.W.findIn K (.ref C0) "__init__" = some (some (.ref fI)))
    (kp0 : PySem.W.keepIn K (.ref C0) = true)
    (ec0 : PySem.W.subIn K (.ref C0) (.type "BaseException") = some true)
    (tc0 : PySem.W.typeIn K (.ref C0) = some (.type "type"))
    (hd0 : PySem.W.hasDictIn K C0 = true)
    (hc0 : PySem.W.findIn K (.ref C0) "__class__" = some (some (.builtin "object.__class__")))
    (hm0 : PySem.W.mroIn K C0 (.type "object") = some true)
    (kv0 : PySem.W.subIn K (.ref C0) (.type "ValueError") = some true)
    (su0_0 : PySem.W.subIn K (.ref C0) (.ref C0) = some true)
    (su0_1 : PySem.W.subIn K (.ref C0) (.ref C1) = some false)
    (su0_2 : PySem.W.subIn K (.ref C0) (.ref C2) = some false)
    (su0_3 : PySem.W.subIn K (.ref C0) (.ref C3) = some false)
    (su0_4 : PySem.W.subIn K (.ref C0) (.ref C4) = some false)
    (su0_5 : PySem.W.subIn K (.ref C0) (.ref C5) = some false)
    (su0_6 : PySem.W.subIn K (.ref C0) (.ref C6) = some false)
    (xl1 : K.lookup C1 = some (excClassObj nm1 qn1 C1 NN1 bs1 [.ref C0, .type "ValueError", .type "Exception", .type "BaseException", .type "object"] true sn1 su1 ab1 co1 dd1 ka1 kb1 kc1 ke1 kf1 "ValueError.__new__"))
    (sa1 : PySem.W.findIn K (.ref C1) "__setattr__" = some (some (.builtin "object.__setattr__")))
    (ga1 : PySem.W.findIn K (.ref C1) "__getattribute__" = some (some (.builtin "BaseException.__getattribute__")))
    (gg1 : PySem.W.findIn K (.ref C1) "__getattr__" = some none)
    (np1 : PySem.W.findIn K (.ref C1) "place" = some none)
    (ic1 : PySem.W.findIn K (.ref C1) "__init__" = some (some (.ref fI)))
    (kp1 : PySem.W.keepIn K (.ref C1) = true)
    (ec1 : PySem.W.subIn K (.ref C1) (.type "BaseException") = some true)
    (tc1 : PySem.W.typeIn K (.ref C1) = some (.type "type"))
    (hd1 : PySem.W.hasDictIn K C1 = true)
    (hc1 : PySem.W.findIn K (.ref C1) "__class__" = some (some (.builtin "object.__class__")))
    (hm1 : PySem.W.mroIn K C1 (.type "object") = some true)
    (kv1 : PySem.W.subIn K (.ref C1) (.type "ValueError") = some true)
    (su1_0 : PySem.W.subIn K (.ref C1) (.ref C0) = some true)
    (su1_1 : PySem.W.subIn K (.ref C1) (.ref C1) = some true)
    (su1_2 : PySem.W.subIn K (.ref C1) (.ref C2) = some false)
    (su1_3 : PySem.W.subIn K (.ref C1) (.ref C3) = some false)
    (su1_4 : PySem.W.subIn K (.ref C1) (.ref C4) = some false)
    (su1_5 : PySem.W.subIn K (.ref C1) (.ref C5) = some false)
    (su1_6 : PySem.W.subIn K (.ref C1) (.ref C6) = some false)
    (xl2 : K.lookup C2 = some (excClassObj nm2 qn2 C2 NN2 bs2 [.ref C0, .type "ValueError", .type "Exception", .type "BaseException", .type "object"] true sn2 su2 ab2 co2 dd2 ka2 kb2 kc2 ke2 kf2 "ValueError.__new__"))
    (sa2 : PySem.W.findIn K (.ref C2) "__setattr__" = some (some (.builtin "object.__setattr__")))
    (ga2 : PySem.W.findIn K (.ref C2) "__getattribute__" = some (some (.builtin "BaseException.__getattribute__")))
    (gg2 : PySem.W.findIn K (.ref C2) "__getattr__" = some none)
    (np2 : PySem.W.findIn K (.ref C2) "place" = some none)
    (ic2 : PySem.W.findIn K (.ref C2) "__init__" = some (some (.ref fI)))
    (kp2 : PySem.W.keepIn K (.ref C2) = true)
    (ec2 : PySem.W.subIn K (.ref C2) (.type "BaseException") = some true)
    (tc2 : PySem.W.typeIn K (.ref C2) = some (.type "type"))
    (hd2 : PySem.W.hasDictIn K C2 = true)
    (hc2 : PySem.W.findIn K (.ref C2) "__class__" = some (some (.builtin "object.__class__")))
    (hm2 : PySem.W.mroIn K C2 (.type "object") = some true)
    (kv2 : PySem.W.subIn K (.ref C2) (.type "ValueError") = some true)
    (su2_0 : PySem.W.subIn K (.ref C2) (.ref C0) = some true)
    (su2_1 : PySem.W.subIn K (.ref C2) (.ref C1) = some false)
    (su2_2 : PySem.W.subIn K (.ref C2) (.ref C2) = some true)
    (su2_3 : PySem.W.subIn K (.ref C2) (.ref C3) = some false)
    (su2_4 : PySem.W.subIn K (.ref C2) (.ref C4) = some false)
    (su2_5 : PySem.W.subIn K (.ref C2) (.ref C5) = some false)
    (su2_6 : PySem.W.subIn K (.ref C2) (.ref C6) = some false)
    (xl3 : K.lookup C3 = some (excClassObj nm3 qn3 C3 NN3 bs3 [.ref C0, .type "ValueError", .type "Exception", .type "BaseException", .type "object"] true sn3 su3 ab3 co3 dd3 ka3 kb3 kc3 ke3 kf3 "ValueError.__new__"))
    (sa3 : PySem.W.findIn K (.ref C3) "__setattr__" = some (some (.builtin "object.__setattr__")))
    (ga3 : PySem.W.findIn K (.ref C3) "__getattribute__" = some (some (.builtin "BaseException.__getattribute__")))
    (gg3 : PySem.W.findIn K (.ref C3) "__getattr__" = some none)
    (np3 : PySem.W.findIn K (.ref C3) "place" = some none)
    (ic3 : PySem.W.findIn K (.ref C3) "__init__" = some (some (.ref fI)))
    (kp3 : PySem.W.keepIn K (.ref C3) = true)
    (ec3 : PySem.W.subIn K (.ref C3) (.type "BaseException") = some true)
    (tc3 : PySem.W.typeIn K (.ref C3) = some (.type "type"))
    (hd3 : PySem.W.hasDictIn K C3 = true)
    (hc3 : PySem.W.findIn K (.ref C3) "__class__" = some (some (.builtin "object.__class__")))
    (hm3 : PySem.W.mroIn K C3 (.type "object") = some true)
    (kv3 : PySem.W.subIn K (.ref C3) (.type "ValueError") = some true)
    (su3_0 : PySem.W.subIn K (.ref C3) (.ref C0) = some true)
    (su3_1 : PySem.W.subIn K (.ref C3) (.ref C1) = some false)
    (su3_2 : PySem.W.subIn K (.ref C3) (.ref C2) = some false)
    (su3_3 : PySem.W.subIn K (.ref C3) (.ref C3) = some true)
    (su3_4 : PySem.W.subIn K (.ref C3) (.ref C4) = some false)
    (su3_5 : PySem.W.subIn K (.ref C3) (.ref C5) = some false)
    (su3_6 : PySem.W.subIn K (.ref C3) (.ref C6) = some false)
    (xl4 : K.lookup C4 = some (excClassObj nm4 qn4 C4 NN4 bs4 [.ref C0, .type "ValueError", .type "Exception", .type "BaseException", .type "object"] true sn4 su4 ab4 co4 dd4 ka4 kb4 kc4 ke4 kf4 "ValueError.__new__"))
    (sa4 : PySem.W.findIn K (.ref C4) "__setattr__" = some (some (.builtin "object.__setattr__")))
    (ga4 : PySem.W.findIn K (.ref C4) "__getattribute__" = some (some (.builtin "BaseException.__getattribute__")))
    (gg4 : PySem.W.findIn K (.ref C4) "__getattr__" = some none)
    (np4 : PySem.W.findIn K (.ref C4) "place" = some none)
    (ic4 : PySem.W.findIn K (.ref C4) "__init__" = some (some (.ref fI)))
    (kp4 : PySem.W.keepIn K (.ref C4) = true)
    (ec4 : PySem.W.subIn K (.ref C4) (.type "BaseException") = some true)
    (tc4 : PySem.W.typeIn K (.ref C4) = some (.type "type"))
    (hd4 : PySem.W.hasDictIn K C4 = true)
    (hc4 : PySem.W.findIn K (.ref C4) "__class__" = some (some (.builtin "object.__class__")))
    (hm4 : PySem.W.mroIn K C4 (.type "object") = some true)
    (kv4 : PySem.W.subIn K (.ref C4) (.type "ValueError") = some true)
    (su4_0 : PySem.W.subIn K (.ref C4) (.ref C0) = some true)
    (su4_1 : PySem.W.subIn K (.ref C4) (.ref C1) = some false)
    (su4_2 : PySem.W.subIn K (.ref C4) (.ref C2) = some false)
    (su4_3 : PySem.W.subIn K (.ref C4) (.ref C3) = some false)
    (su4_4 : PySem.W.subIn K (.ref C4) (.ref C4) = some true)
    (su4_5 : PySem.W.subIn K (.ref C4) (.ref C5) = some false)
    (su4_6 : PySem.W.subIn K (.ref C4) (.ref C6) = some false)
    (xl5 : K.lookup C5 = some (excClassObj nm5 qn5 C5 NN5 bs5 [.ref C0, .type "ValueError", .type "Exception", .type "BaseException", .type "object"] true sn5 su5 ab5 co5 dd5 ka5 kb5 kc5 ke5 kf5 "ValueError.__new__"))
    (sa5 : PySem.W.findIn K (.ref C5) "__setattr__" = some (some (.builtin "object.__setattr__")))
    (ga5 : PySem.W.findIn K (.ref C5) "__getattribute__" = some (some (.builtin "BaseException.__getattribute__")))
    (gg5 : PySem.W.findIn K (.ref C5) "__getattr__" = some none)
    (np5 : PySem.W.findIn K (.ref C5) "place" = some none)
    (ic5 : PySem.W.findIn K (.ref C5) "__init__" = some (some (.ref fI)))
    (kp5 : PySem.W.keepIn K (.ref C5) = true)
    (ec5 : PySem.W.subIn K (.ref C5) (.type "BaseException") = some true)
    (tc5 : PySem.W.typeIn K (.ref C5) = some (.type "type"))
    (hd5 : PySem.W.hasDictIn K C5 = true)
    (hc5 : PySem.W.findIn K (.ref C5) "__class__" = some (some (.builtin "object.__class__")))
    (hm5 : PySem.W.mroIn K C5 (.type "object") = some true)
    (kv5 : PySem.W.subIn K (.ref C5) (.type "ValueError") = some true)
    (su5_0 : PySem.W.subIn K (.ref C5) (.ref C0) = some true)
    (su5_1 : PySem.W.subIn K (.ref C5) (.ref C1) = some false)
    (su5_2 : PySem.W.subIn K (.ref C5) (.ref C2) = some false)
    (su5_3 : PySem.W.subIn K (.ref C5) (.ref C3) = some false)
    (su5_4 : PySem.W.subIn K (.ref C5) (.ref C4) = some false)
    (su5_5 : PySem.W.subIn K (.ref C5) (.ref C5) = some true)
    (su5_6 : PySem.W.subIn K (.ref C5) (.ref C6) = some false)
    (xl6 : K.lookup C6 = some (excClassObj nm6 qn6 C6 NN6 bs6 [.ref C0, .type "ValueError", .type "Exception", .type "BaseException", .type "object"] true sn6 su6 ab6 co6 dd6 ka6 kb6 kc6 ke6 kf6 "ValueError.__new__"))
    (sa6 : PySem.W.findIn K (.ref C6) "__setattr__" = some (some (.builtin "object.__setattr__")))
    (ga6 : PySem.W.findIn K (.ref C6) "__getattribute__" = some (some (.builtin "BaseException.__getattribute__")))
    (gg6 : PySem.W.findIn K (.ref C6) "__getattr__" = some none)
    (np6 : PySem.W.findIn K (.ref C6) "place" = some none)
    (ic6 : PySem.W.findIn K (.ref C6) "__init__" = some (some (.ref fI)))
    (kp6 : PySem.W.keepIn K (.ref C6) = true)
    (ec6 : PySem.W.subIn K (.ref C6) (.type "BaseException") = some true)
    (tc6 : PySem.W.typeIn K (.ref C6) = some (.type "type"))
    (hd6 : PySem.W.hasDictIn K C6 = true)
    (hc6 : PySem.W.findIn K (.ref C6) "__class__" = some (some (.builtin "object.__class__")))
    (hm6 : PySem.W.mroIn K C6 (.type "object") = some true)
    (kv6 : PySem.W.subIn K (.ref C6) (.type "ValueError") = some true)
    (su6_0 : PySem.W.subIn K (.ref C6) (.ref C0) = some true)
    (su6_1 : PySem.W.subIn K (.ref C6) (.ref C1) = some false)
    (su6_2 : PySem.W.subIn K (.ref C6) (.ref C2) = some false)
    (su6_3 : PySem.W.subIn K (.ref C6) (.ref C3) = some false)
    (su6_4 : PySem.W.subIn K (.ref C6) (.ref C4) = some false)
    (su6_5 : PySem.W.subIn K (.ref C6) (.ref C5) = some false)
    (su6_6 : PySem.W.subIn K (.ref C6) (.ref C6) = some true)
    (ti : PySem.W.typeIn K (.ref fI) = some (.type "function"))
    (li : K.lookup fI = some ⟨ocI, odI, .func (PySem.W.fnOf "__init__" "ZonewardError.__init__" (defArgs stI) (defBody stI) (defScope stI) .none kVI dcI pmI anI cdI ctI), slI⟩)
    (ci : PySem.W.codeIn K cdI "ZonewardError.__init__" = true)
    (kpi : PySem.W.keepIn K (.ref fI) = true)
    (hn : PySem.W.specialIn K (.builtin "object.__class__") "__get__" = some (some (.builtin "getset_descriptor.__get__")))
    (ht : PySem.W.takesIn K (.builtin "object.__class__") = some true) :
    ∃ fd : FuncData, (∀ (s : Shared) (v : Value), BindsTo s fd ⟨[v], []⟩ [("script", v)]) ∧ ∀ base : Heap, K.In base → base.Ns mainGlobals mg → FnOk prog w K mg base (CXN prog w) 7 fa fd ["script"] (spL K) := by
  have e := hfa.symm.trans (PySem.W.mg_of X G a16)
  cases e
  have F0 := fun_mk (st := e0.st) l0 c0 k0
  have b0 := F0.binds (ps := e0.ps) fun _ _ _ _ _ _ us hl => match us, hl with | [_], _ => rfl
  have E0 : EntOk K mg e0 := ⟨⟨rfl, rfl, rfl, by decide +kernel, rfl, by decide +kernel, by decide +kernel⟩, _, _, PySem.W.mg_of X G a0, F0, fun n => ⟨[], [], fun ρ H => (by rw [show e0.dvs = [] from rfl, List.drop_nil]; exact .nil), .nil, b0⟩⟩
  have F1 := fun_mk (st := e1.st) l1 c1 k1
  have b1 := F1.binds (ps := e1.ps) fun _ _ _ _ _ _ us hl => match us, hl with | [_, _], _ => rfl
  have E1 : EntOk K mg e1 := ⟨⟨rfl, rfl, rfl, by decide +kernel, rfl, by decide +kernel, by decide +kernel⟩, _, _, PySem.W.mg_of X G a1, F1, fun n => ⟨[], [], fun ρ H => (by rw [show e1.dvs = [] from rfl, List.drop_nil]; exact .nil), .nil, b1⟩⟩
  have F2 := fun_mk (st := e2.st) l2 c2 k2
  have b2 := F2.binds (ps := e2.ps) fun _ _ _ _ _ _ us hl => match us, hl with | [_, _], _ => rfl
  have E2 : EntOk K mg e2 := ⟨⟨rfl, rfl, rfl, by decide +kernel, rfl, by decide +kernel, by decide +kernel⟩, _, _, PySem.W.mg_of X G a2, F2, fun n => ⟨[], [], fun ρ H => (by rw [show e2.dvs = [] from rfl, List.drop_nil]; exact .nil), .nil, b2⟩⟩
  have F3 := fun_mk (st := e3.st) l3 c3 k3
  have b3 := F3.binds (ps := e3.ps) fun _ _ _ _ _ _ us hl => match us, hl with | [_, _, _], _ => rfl
  have E3 : EntOk K mg e3 := ⟨⟨rfl, rfl, rfl, by decide +kernel, rfl, by decide +kernel, by decide +kernel⟩, _, _, PySem.W.mg_of X G a3, F3, fun n => ⟨[], [], fun ρ H => (by rw [show e3.dvs = [] from rfl, List.drop_nil]; exact .nil), .nil, b3⟩⟩
  have F4 := fun_mk (st := e4.st) l4 c4 k4
  have b4 := F4.binds (ps := e4.ps) fun _ _ _ _ _ _ us hl => match us, hl with | [_, _, _], _ => rfl
  have E4 : EntOk K mg e4 := ⟨⟨rfl, rfl, rfl, by decide +kernel, rfl, by decide +kernel, by decide +kernel⟩, _, _, PySem.W.mg_of X G a4, F4, fun n => ⟨[], [], fun ρ H => (by rw [show e4.dvs = [] from rfl, List.drop_nil]; exact .nil), .nil, b4⟩⟩
  have F5 := fun_mk (st := e5.st) l5 c5 k5
  have b5 := F5.binds (ps := e5.ps) fun _ _ _ _ _ _ us hl => match us, hl with | [_, _], _ => rfl
  have E5 : EntOk K mg e5 := ⟨⟨rfl, rfl, rfl, by decide +kernel, rfl, by decide +kernel, by decide +kernel⟩, _, _, PySem.W.mg_of X G a5, F5, fun n => ⟨[], [], fun ρ H => (by rw [show e5.dvs = [] from rfl, List.drop_nil]; exact .nil), .nil, b5⟩⟩
  have F6 := fun_mk (st := e6.st) l6 c6 k6
  have b6 := F6.binds (ps := e6.ps) fun _ _ _ _ _ _ us hl => match us, hl with | [_], _ => rfl
  have E6 : EntOk K mg e6 := ⟨⟨rfl, rfl, rfl, by decide +kernel, rfl, by decide +kernel, by decide +kernel⟩, _, _, PySem.W.mg_of X G a6, F6, fun n => ⟨[], [], fun ρ H => (by rw [show e6.dvs = [] from rfl, List.drop_nil]; exact .nil), .nil, b6⟩⟩
  have F7 := fun_mk (st := e7.st) l7 c7 k7
  have b7 := F7.binds (ps := e7.ps) fun _ _ _ _ _ _ us hl => match us, hl with | [_], _ => rfl
  have E7 : EntOk K mg e7 := ⟨⟨rfl, rfl, rfl, by decide +kernel, rfl, by decide +kernel, by decide +kernel⟩, _, _, PySem.W.mg_of X G a7, F7, fun n => ⟨[], [], fun ρ H => (by rw [show e7.dvs = [] from rfl, List.drop_nil]; exact .nil), .nil, b7⟩⟩
  have F8 := fun_mk (st := e8.st) l8 c8 k8
  have b8 := F8.binds (ps := e8.ps) fun _ _ _ _ _ _ us hl => match us, hl with | [_], _ => rfl
  have E8 : EntOk K mg e8 := ⟨⟨rfl, rfl, rfl, by decide +kernel, rfl, by decide +kernel, by decide +kernel⟩, _, _, PySem.W.mg_of X G a8, F8, fun n => ⟨[], [], fun ρ H => (by rw [show e8.dvs = [] from rfl, List.drop_nil]; exact .nil), .nil, b8⟩⟩
  have F9 := fun_mk (st := e9.st) l9 c9 k9
  have b9 := F9.binds (ps := e9.ps) fun _ _ _ _ _ _ us hl => match us, hl with | [_, _, _], _ => rfl
  have E9 : EntOk K mg e9 := ⟨⟨rfl, rfl, rfl, by decide +kernel, rfl, by decide +kernel, by decide +kernel⟩, _, _, PySem.W.mg_of X G a9, F9, fun n => ⟨[], [], fun ρ H => (by rw [show e9.dvs = [] from rfl, List.drop_nil]; exact .nil), .nil, b9⟩⟩
  have F10 := fun_mk (st := e10.st) l10 c10 k10
  have b10 := F10.binds (ps := e10.ps) fun _ _ _ _ _ _ us hl => match us, hl with | [_, _], _ => rfl
  have E10 : EntOk K mg e10 := ⟨⟨rfl, rfl, rfl, by decide +kernel, rfl, by decide +kernel, by decide +kernel⟩, _, _, PySem.W.mg_of X G a10, F10, fun n => ⟨[], [], fun ρ H => (by rw [show e10.dvs = [] from rfl, List.drop_nil]; exact .nil), .nil, b10⟩⟩
  have F11 := fun_mk (st := e11.st) l11 c11 k11
  have b11 := F11.binds (ps := e11.ps) fun _ _ _ _ _ _ us hl => match us, hl with | [_], _ => rfl
  have E11 : EntOk K mg e11 := ⟨⟨rfl, rfl, rfl, by decide +kernel, rfl, by decide +kernel, by decide +kernel⟩, _, _, PySem.W.mg_of X G a11, F11, fun n => ⟨[], [], fun ρ H => (by rw [show e11.dvs = [] from rfl, List.drop_nil]; exact .nil), .nil, b11⟩⟩
  have F12 := fun_mk (st := e12.st) l12 c12 k12
  have b12 := F12.binds (ps := e12.ps) fun _ _ _ _ _ _ us hl => match us, hl with | [_, _], _ => rfl
  have E12 : EntOk K mg e12 := ⟨⟨rfl, rfl, rfl, by decide +kernel, rfl, by decide +kernel, by decide +kernel⟩, _, _, PySem.W.mg_of X G a12, F12, fun n => ⟨[], [], fun ρ H => (by rw [show e12.dvs = [] from rfl, List.drop_nil]; exact .nil), .nil, b12⟩⟩
  have F13 := fun_mk (st := e13.st) l13 c13 k13
  have b13 := F13.binds (ps := e13.ps) fun _ _ _ _ _ _ us hl => match us, hl with | [_], _ => rfl
  have E13 : EntOk K mg e13 := ⟨⟨rfl, rfl, rfl, by decide +kernel, rfl, by decide +kernel, by decide +kernel⟩, _, _, PySem.W.mg_of X G a13, F13, fun n => ⟨[], [], fun ρ H => (by rw [show e13.dvs = [] from rfl, List.drop_nil]; exact .nil), .nil, b13⟩⟩
  have F14 := fun_mk (st := e14.st) l14 c14 k14
  have b14 := F14.binds (ps := e14.ps) fun _ _ _ _ _ _ us hl => match us, hl with | [_, _], _ => rfl
  have E14 : EntOk K mg e14 := ⟨⟨rfl, rfl, rfl, by decide +kernel, rfl, by decide +kernel, by decide +kernel⟩, _, _, PySem.W.mg_of X G a14, F14, fun n => ⟨[], [], fun ρ H => (by rw [show e14.dvs = [] from rfl, List.drop_nil]; exact .nil), .nil, b14⟩⟩
  have F15 := fun_mk (st := e15.st) l15 c15 k15
  have b15 := F15.binds (ps := e15.ps) fun _ _ _ _ _ _ us hl => match us, hl with | [_, _], _ => rfl
  have E15 : EntOk K mg e15 := ⟨⟨rfl, rfl, rfl, by decide +kernel, rfl, by decide +kernel, by decide +kernel⟩, _, _, PySem.W.mg_of X G a15, F15, fun n => ⟨[], [], fun ρ H => (by rw [show e15.dvs = [] from rfl, List.drop_nil]; exact .nil), .nil, b15⟩⟩
  have F16 := fun_mk (st := e16.st) l16 c16 k16
  have b16 := F16.binds (ps := e16.ps) fun _ _ _ _ _ _ us hl => match us, hl with | [_], _ => rfl
  have E16 : EntOk K mg e16 := ⟨⟨rfl, rfl, rfl, by decide +kernel, rfl, by decide +kernel, by decide +kernel⟩, _, _, PySem.W.mg_of X G a16, F16, fun n => ⟨[], [], fun ρ H => (by rw [show e16.dvs = [] from rfl, List.drop_nil]; exact .nil), .nil, b16⟩⟩
  have FI := fun_mk (st := stI) li ci kpi
  have bI := FI.binds (ps := ["self", "place"]) fun _ _ _ _ _ _ us hl => match us, hl with | [_, _], _ => rfl
  have G0 : clsOf K "ZonewardError" = C0 := by unfold clsOf; rw [ac0]
  have O0 : ClsOk K C0 := ⟨⟨⟨nm0, qn0, NN0, bs0, _, sn0, su0, ab0, co0, dd0, ka0, kb0, kc0, ke0, kf0, xl0, by rfl⟩, sa0, ec0, tc0, kp0⟩, ⟨ga0, gg0, ec0, hd0⟩, ⟨ga0, gg0, ec0, hd0, hc0, hn, ht, hm0⟩, np0⟩
  have I0 : IniOk K C0 := ⟨_, _, _, stI, ic0, ti, FI, ⟨rfl, rfl, rfl, by decide +kernel, rfl, by decide +kernel, by decide +kernel⟩, ⟨_, _, _, _, rfl⟩, bI⟩
  have G1 : clsOf K "Truncated" = C1 := by unfold clsOf; rw [ac1]
  have O1 : ClsOk K C1 := ⟨⟨⟨nm1, qn1, NN1, bs1, _, sn1, su1, ab1, co1, dd1, ka1, kb1, kc1, ke1, kf1, xl1, by rfl⟩, sa1, ec1, tc1, kp1⟩, ⟨ga1, gg1, ec1, hd1⟩, ⟨ga1, gg1, ec1, hd1, hc1, hn, ht, hm1⟩, np1⟩
  have I1 : IniOk K C1 := ⟨_, _, _, stI, ic1, ti, FI, ⟨rfl, rfl, rfl, by decide +kernel, rfl, by decide +kernel, by decide +kernel⟩, ⟨_, _, _, _, rfl⟩, bI⟩
  have G2 : clsOf K "ReservedValue" = C2 := by unfold clsOf; rw [ac2]
  have O2 : ClsOk K C2 := ⟨⟨⟨nm2, qn2, NN2, bs2, _, sn2, su2, ab2, co2, dd2, ka2, kb2, kc2, ke2, kf2, xl2, by rfl⟩, sa2, ec2, tc2, kp2⟩, ⟨ga2, gg2, ec2, hd2⟩, ⟨ga2, gg2, ec2, hd2, hc2, hn, ht, hm2⟩, np2⟩
  have I2 : IniOk K C2 := ⟨_, _, _, stI, ic2, ti, FI, ⟨rfl, rfl, rfl, by decide +kernel, rfl, by decide +kernel, by decide +kernel⟩, ⟨_, _, _, _, rfl⟩, bI⟩
  have G3 : clsOf K "InvalidForm" = C3 := by unfold clsOf; rw [ac3]
  have O3 : ClsOk K C3 := ⟨⟨⟨nm3, qn3, NN3, bs3, _, sn3, su3, ab3, co3, dd3, ka3, kb3, kc3, ke3, kf3, xl3, by rfl⟩, sa3, ec3, tc3, kp3⟩, ⟨ga3, gg3, ec3, hd3⟩, ⟨ga3, gg3, ec3, hd3, hc3, hn, ht, hm3⟩, np3⟩
  have I3 : IniOk K C3 := ⟨_, _, _, stI, ic3, ti, FI, ⟨rfl, rfl, rfl, by decide +kernel, rfl, by decide +kernel, by decide +kernel⟩, ⟨_, _, _, _, rfl⟩, bI⟩
  have G4 : clsOf K "InvalidPointer" = C4 := by unfold clsOf; rw [ac4]
  have O4 : ClsOk K C4 := ⟨⟨⟨nm4, qn4, NN4, bs4, _, sn4, su4, ab4, co4, dd4, ka4, kb4, kc4, ke4, kf4, xl4, by rfl⟩, sa4, ec4, tc4, kp4⟩, ⟨ga4, gg4, ec4, hd4⟩, ⟨ga4, gg4, ec4, hd4, hc4, hn, ht, hm4⟩, np4⟩
  have I4 : IniOk K C4 := ⟨_, _, _, stI, ic4, ti, FI, ⟨rfl, rfl, rfl, by decide +kernel, rfl, by decide +kernel, by decide +kernel⟩, ⟨_, _, _, _, rfl⟩, bI⟩
  have G5 : clsOf K "InvalidName" = C5 := by unfold clsOf; rw [ac5]
  have O5 : ClsOk K C5 := ⟨⟨⟨nm5, qn5, NN5, bs5, _, sn5, su5, ab5, co5, dd5, ka5, kb5, kc5, ke5, kf5, xl5, by rfl⟩, sa5, ec5, tc5, kp5⟩, ⟨ga5, gg5, ec5, hd5⟩, ⟨ga5, gg5, ec5, hd5, hc5, hn, ht, hm5⟩, np5⟩
  have I5 : IniOk K C5 := ⟨_, _, _, stI, ic5, ti, FI, ⟨rfl, rfl, rfl, by decide +kernel, rfl, by decide +kernel, by decide +kernel⟩, ⟨_, _, _, _, rfl⟩, bI⟩
  have G6 : clsOf K "InvalidText" = C6 := by unfold clsOf; rw [ac6]
  have O6 : ClsOk K C6 := ⟨⟨⟨nm6, qn6, NN6, bs6, _, sn6, su6, ab6, co6, dd6, ka6, kb6, kc6, ke6, kf6, xl6, by rfl⟩, sa6, ec6, tc6, kp6⟩, ⟨ga6, gg6, ec6, hd6⟩, ⟨ga6, gg6, ec6, hd6, hc6, hn, ht, hm6⟩, np6⟩
  have I6 : IniOk K C6 := ⟨_, _, _, stI, ic6, ti, FI, ⟨rfl, rfl, rfl, by decide +kernel, rfl, by decide +kernel, by decide +kernel⟩, ⟨_, _, _, _, rfl⟩, bI⟩
  have ec : (gcOf K cns).cls = [C0, C1, C2, C3, C4, C5, C6] := by
    show [clsOf K "ZonewardError", clsOf K "Truncated", clsOf K "ReservedValue", clsOf K "InvalidForm", clsOf K "InvalidPointer", clsOf K "InvalidName", clsOf K "InvalidText"] = _
    rw [G0, G1, G2, G3, G4, G5, G6]
  have ok : PgOk (gcOf K cns) K mg pg := by
    refine ⟨fun e he => ?_, fun x hx => ?_, fun x d hx => ?_, fun x r hx => ?_, fun x tab hx => ?_, fun i D hi => ?_⟩
    · have he : e ∈ [e0, e1, e2, e3, e4, e5, e6, e7, e8, e9, e10, e11, e12, e13, e14, e15, e16] := he
      simp only [List.mem_cons, List.not_mem_nil, or_false] at he
      rcases he with rfl | rfl | rfl | rfl | rfl | rfl | rfl | rfl | rfl | rfl | rfl | rfl | rfl | rfl | rfl | rfl | rfl
      · exact E0
      · exact E1
      · exact E2
      · exact E3
      · exact E4
      · exact E5
      · exact E6
      · exact E7
      · exact E8
      · exact E9
      · exact E10
      · exact E11
      · exact E12
      · exact E13
      · exact E14
      · exact E15
      · exact E16
    · have hx : x ∈ (["ValueError", "bool", "int", "isinstance", "len", "list", "ord", "range", "sum", "tuple"] : List Str) := by simpa [pg] using hx
      simp only [List.mem_cons, List.not_mem_nil, or_false] at hx
      rcases hx with rfl | rfl | rfl | rfl | rfl | rfl | rfl | rfl | rfl | rfl
      · exact PySem.W.mg_none_of X G z0
      · exact PySem.W.mg_none_of X G z1
      · exact PySem.W.mg_none_of X G z2
      · exact PySem.W.mg_none_of X G z3
      · exact PySem.W.mg_none_of X G z4
      · exact PySem.W.mg_none_of X G z5
      · exact PySem.W.mg_none_of X G z6
      · exact PySem.W.mg_none_of X G z7
      · exact PySem.W.mg_none_of X G z8
      · exact PySem.W.mg_none_of X G z9
    · rcases look_cons hx with ⟨rfl, rfl⟩ | hx
      · exact ⟨_, PySem.W.mg_of X G cq0, .int 49152, ⟨t0, rfl⟩, fun _ _ => .int _⟩
      rcases look_cons hx with ⟨rfl, rfl⟩ | hx
      · exact ⟨_, PySem.W.mg_of X G cq1, .str ⟨([97, 98, 99, 100, 101, 102, 103, 104, 105, 106, 107, 108, 109, 110, 111, 112, 113, 114, 115, 116, 117, 118, 119, 120, 121, 122, 48, 49, 50, 51, 52, 53, 54, 55, 56, 57, 95, 45] : List Nat).toArray⟩, ⟨t1, by rfl⟩, fun _ _ => .str _⟩
      rcases look_cons hx with ⟨rfl, rfl⟩ | hx
      · exact ⟨_, PySem.W.mg_of X G cq2, .str ⟨([42] : List Nat).toArray⟩, ⟨t2, by rfl⟩, fun _ _ => .str _⟩
      rcases look_cons hx with ⟨rfl, rfl⟩ | hx
      · exact ⟨_, PySem.W.mg_of X G cq3, .int 63, ⟨t3, rfl⟩, fun _ _ => .int _⟩
      rcases look_cons hx with ⟨rfl, rfl⟩ | hx
      · exact ⟨_, PySem.W.mg_of X G cq4, .int 255, ⟨t4, rfl⟩, fun _ _ => .int _⟩
      rcases look_cons hx with ⟨rfl, rfl⟩ | hx
      · exact ⟨_, PySem.W.mg_of X G cq5, .int 192, ⟨t5, rfl⟩, fun _ _ => .int _⟩
      rcases look_cons hx with ⟨rfl, rfl⟩ | hx
      · exact ⟨_, PySem.W.mg_of X G cq6, .str ⟨([32, 33, 34, 35, 36, 32, 38, 39, 40, 41, 42, 43, 44, 45, 46, 47, 48, 49, 50, 51, 52, 53, 54, 55, 56, 57, 58, 59, 60, 61, 62, 63, 64, 65, 66, 67, 68, 69, 70, 71, 72, 73, 74, 75, 76, 77, 78, 79, 80, 81, 82, 83, 84, 85, 86, 87, 88, 89, 90, 91, 92, 93, 94, 95, 96, 97, 98, 99, 100, 101, 102, 103, 104, 105, 106, 107, 108, 109, 110, 111, 112, 113, 114, 115, 116, 117, 118, 119, 120, 121, 122, 123, 124, 125, 126] : List Nat).toArray⟩, ⟨t6, by rfl⟩, fun _ _ => .str _⟩
      rcases look_cons hx with ⟨rfl, rfl⟩ | hx
      · exact ⟨_, PySem.W.mg_of X G cq7, .int 32, ⟨t7, rfl⟩, fun _ _ => .int _⟩
      rcases look_cons hx with ⟨rfl, rfl⟩ | hx
      · exact ⟨_, PySem.W.mg_of X G cq8, .int 126, ⟨t8, rfl⟩, fun _ _ => .int _⟩
      rcases look_cons hx with ⟨rfl, rfl⟩ | hx
      · exact ⟨_, PySem.W.mg_of X G cq9, .int 37, ⟨t9, rfl⟩, fun _ _ => .int _⟩
      · cases hx
    · rw [ec]
      rcases look_cons hx with ⟨rfl, rfl⟩ | hx
      · refine ⟨C0, rfl, PySem.W.mg_of X G ac0, fun i D hi => ?_⟩
        rcases nth_cons hi with ⟨rfl, rfl⟩ | ⟨i0, rfl, hj0⟩
        · exact ⟨PySem.W.exm_ref ec0 hd0 tc0 su0_0, kit_ref su0_0 su0_0 hd0 tc0⟩
        rcases nth_cons hj0 with ⟨rfl, rfl⟩ | ⟨i1, rfl, hj1⟩
        · exact ⟨PySem.W.exm_ref ec0 hd0 tc0 su1_0, kit_ref su1_0 su0_0 hd0 tc0⟩
        rcases nth_cons hj1 with ⟨rfl, rfl⟩ | ⟨i2, rfl, hj2⟩
        · exact ⟨PySem.W.exm_ref ec0 hd0 tc0 su2_0, kit_ref su2_0 su0_0 hd0 tc0⟩
        rcases nth_cons hj2 with ⟨rfl, rfl⟩ | ⟨i3, rfl, hj3⟩
        · exact ⟨PySem.W.exm_ref ec0 hd0 tc0 su3_0, kit_ref su3_0 su0_0 hd0 tc0⟩
        rcases nth_cons hj3 with ⟨rfl, rfl⟩ | ⟨i4, rfl, hj4⟩
        · exact ⟨PySem.W.exm_ref ec0 hd0 tc0 su4_0, kit_ref su4_0 su0_0 hd0 tc0⟩
        rcases nth_cons hj4 with ⟨rfl, rfl⟩ | ⟨i5, rfl, hj5⟩
        · exact ⟨PySem.W.exm_ref ec0 hd0 tc0 su5_0, kit_ref su5_0 su0_0 hd0 tc0⟩
        rcases nth_cons hj5 with ⟨rfl, rfl⟩ | ⟨i6, rfl, hj6⟩
        · exact ⟨PySem.W.exm_ref ec0 hd0 tc0 su6_0, kit_ref su6_0 su0_0 hd0 tc0⟩
        simp at hj6
      rcases look_cons hx with ⟨rfl, rfl⟩ | hx
      · refine ⟨C1, rfl, PySem.W.mg_of X G ac1, fun i D hi => ?_⟩
        rcases nth_cons hi with ⟨rfl, rfl⟩ | ⟨i0, rfl, hj0⟩
        · exact ⟨PySem.W.exm_ref ec1 hd1 tc1 su0_1, kit_ref su0_1 su1_1 hd1 tc1⟩
        rcases nth_cons hj0 with ⟨rfl, rfl⟩ | ⟨i1, rfl, hj1⟩
        · exact ⟨PySem.W.exm_ref ec1 hd1 tc1 su1_1, kit_ref su1_1 su1_1 hd1 tc1⟩
        rcases nth_cons hj1 with ⟨rfl, rfl⟩ | ⟨i2, rfl, hj2⟩
        · exact ⟨PySem.W.exm_ref ec1 hd1 tc1 su2_1, kit_ref su2_1 su1_1 hd1 tc1⟩
        rcases nth_cons hj2 with ⟨rfl, rfl⟩ | ⟨i3, rfl, hj3⟩
        · exact ⟨PySem.W.exm_ref ec1 hd1 tc1 su3_1, kit_ref su3_1 su1_1 hd1 tc1⟩
        rcases nth_cons hj3 with ⟨rfl, rfl⟩ | ⟨i4, rfl, hj4⟩
        · exact ⟨PySem.W.exm_ref ec1 hd1 tc1 su4_1, kit_ref su4_1 su1_1 hd1 tc1⟩
        rcases nth_cons hj4 with ⟨rfl, rfl⟩ | ⟨i5, rfl, hj5⟩
        · exact ⟨PySem.W.exm_ref ec1 hd1 tc1 su5_1, kit_ref su5_1 su1_1 hd1 tc1⟩
        rcases nth_cons hj5 with ⟨rfl, rfl⟩ | ⟨i6, rfl, hj6⟩
        · exact ⟨PySem.W.exm_ref ec1 hd1 tc1 su6_1, kit_ref su6_1 su1_1 hd1 tc1⟩
        simp at hj6
      rcases look_cons hx with ⟨rfl, rfl⟩ | hx
      · refine ⟨C2, rfl, PySem.W.mg_of X G ac2, fun i D hi => ?_⟩
        rcases nth_cons hi with ⟨rfl, rfl⟩ | ⟨i0, rfl, hj0⟩
        · exact ⟨PySem.W.exm_ref ec2 hd2 tc2 su0_2, kit_ref su0_2 su2_2 hd2 tc2⟩
        rcases nth_cons hj0 with ⟨rfl, rfl⟩ | ⟨i1, rfl, hj1⟩
        · exact ⟨PySem.W.exm_ref ec2 hd2 tc2 su1_2, kit_ref su1_2 su2_2 hd2 tc2⟩
        rcases nth_cons hj1 with ⟨rfl, rfl⟩ | ⟨i2, rfl, hj2⟩
        · exact ⟨PySem.W.exm_ref ec2 hd2 tc2 su2_2, kit_ref su2_2 su2_2 hd2 tc2⟩
        rcases nth_cons hj2 with ⟨rfl, rfl⟩ | ⟨i3, rfl, hj3⟩
        · exact ⟨PySem.W.exm_ref ec2 hd2 tc2 su3_2, kit_ref su3_2 su2_2 hd2 tc2⟩
        rcases nth_cons hj3 with ⟨rfl, rfl⟩ | ⟨i4, rfl, hj4⟩
        · exact ⟨PySem.W.exm_ref ec2 hd2 tc2 su4_2, kit_ref su4_2 su2_2 hd2 tc2⟩
        rcases nth_cons hj4 with ⟨rfl, rfl⟩ | ⟨i5, rfl, hj5⟩
        · exact ⟨PySem.W.exm_ref ec2 hd2 tc2 su5_2, kit_ref su5_2 su2_2 hd2 tc2⟩
        rcases nth_cons hj5 with ⟨rfl, rfl⟩ | ⟨i6, rfl, hj6⟩
        · exact ⟨PySem.W.exm_ref ec2 hd2 tc2 su6_2, kit_ref su6_2 su2_2 hd2 tc2⟩
        simp at hj6
      rcases look_cons hx with ⟨rfl, rfl⟩ | hx
      · refine ⟨C3, rfl, PySem.W.mg_of X G ac3, fun i D hi => ?_⟩
        rcases nth_cons hi with ⟨rfl, rfl⟩ | ⟨i0, rfl, hj0⟩
        · exact ⟨PySem.W.exm_ref ec3 hd3 tc3 su0_3, kit_ref su0_3 su3_3 hd3 tc3⟩
        rcases nth_cons hj0 with ⟨rfl, rfl⟩ | ⟨i1, rfl, hj1⟩
        · exact ⟨PySem.W.exm_ref ec3 hd3 tc3 su1_3, kit_ref su1_3 su3_3 hd3 tc3⟩
        rcases nth_cons hj1 with ⟨rfl, rfl⟩ | ⟨i2, rfl, hj2⟩
        · exact ⟨PySem.W.exm_ref ec3 hd3 tc3 su2_3, kit_ref su2_3 su3_3 hd3 tc3⟩
        rcases nth_cons hj2 with ⟨rfl, rfl⟩ | ⟨i3, rfl, hj3⟩
        · exact ⟨PySem.W.exm_ref ec3 hd3 tc3 su3_3, kit_ref su3_3 su3_3 hd3 tc3⟩
        rcases nth_cons hj3 with ⟨rfl, rfl⟩ | ⟨i4, rfl, hj4⟩
        · exact ⟨PySem.W.exm_ref ec3 hd3 tc3 su4_3, kit_ref su4_3 su3_3 hd3 tc3⟩
        rcases nth_cons hj4 with ⟨rfl, rfl⟩ | ⟨i5, rfl, hj5⟩
        · exact ⟨PySem.W.exm_ref ec3 hd3 tc3 su5_3, kit_ref su5_3 su3_3 hd3 tc3⟩
        rcases nth_cons hj5 with ⟨rfl, rfl⟩ | ⟨i6, rfl, hj6⟩
        · exact ⟨PySem.W.exm_ref ec3 hd3 tc3 su6_3, kit_ref su6_3 su3_3 hd3 tc3⟩
        simp at hj6
      rcases look_cons hx with ⟨rfl, rfl⟩ | hx
      · refine ⟨C4, rfl, PySem.W.mg_of X G ac4, fun i D hi => ?_⟩
        rcases nth_cons hi with ⟨rfl, rfl⟩ | ⟨i0, rfl, hj0⟩
        · exact ⟨PySem.W.exm_ref ec4 hd4 tc4 su0_4, kit_ref su0_4 su4_4 hd4 tc4⟩
        rcases nth_cons hj0 with ⟨rfl, rfl⟩ | ⟨i1, rfl, hj1⟩
        · exact ⟨PySem.W.exm_ref ec4 hd4 tc4 su1_4, kit_ref su1_4 su4_4 hd4 tc4⟩
        rcases nth_cons hj1 with ⟨rfl, rfl⟩ | ⟨i2, rfl, hj2⟩
        · exact ⟨PySem.W.exm_ref ec4 hd4 tc4 su2_4, kit_ref su2_4 su4_4 hd4 tc4⟩
        rcases nth_cons hj2 with ⟨rfl, rfl⟩ | ⟨i3, rfl, hj3⟩
        · exact ⟨PySem.W.exm_ref ec4 hd4 tc4 su3_4, kit_ref su3_4 su4_4 hd4 tc4⟩
        rcases nth_cons hj3 with ⟨rfl, rfl⟩ | ⟨i4, rfl, hj4⟩
        · exact ⟨PySem.W.exm_ref ec4 hd4 tc4 su4_4, kit_ref su4_4 su4_4 hd4 tc4⟩
        rcases nth_cons hj4 with ⟨rfl, rfl⟩ | ⟨i5, rfl, hj5⟩
        · exact ⟨PySem.W.exm_ref ec4 hd4 tc4 su5_4, kit_ref su5_4 su4_4 hd4 tc4⟩
        rcases nth_cons hj5 with ⟨rfl, rfl⟩ | ⟨i6, rfl, hj6⟩
        · exact ⟨PySem.W.exm_ref ec4 hd4 tc4 su6_4, kit_ref su6_4 su4_4 hd4 tc4⟩
        simp at hj6
      rcases look_cons hx with ⟨rfl, rfl⟩ | hx
      · refine ⟨C5, rfl, PySem.W.mg_of X G ac5, fun i D hi => ?_⟩
        rcases nth_cons hi with ⟨rfl, rfl⟩ | ⟨i0, rfl, hj0⟩
        · exact ⟨PySem.W.exm_ref ec5 hd5 tc5 su0_5, kit_ref su0_5 su5_5 hd5 tc5⟩
        rcases nth_cons hj0 with ⟨rfl, rfl⟩ | ⟨i1, rfl, hj1⟩
        · exact ⟨PySem.W.exm_ref ec5 hd5 tc5 su1_5, kit_ref su1_5 su5_5 hd5 tc5⟩
        rcases nth_cons hj1 with ⟨rfl, rfl⟩ | ⟨i2, rfl, hj2⟩
        · exact ⟨PySem.W.exm_ref ec5 hd5 tc5 su2_5, kit_ref su2_5 su5_5 hd5 tc5⟩
        rcases nth_cons hj2 with ⟨rfl, rfl⟩ | ⟨i3, rfl, hj3⟩
        · exact ⟨PySem.W.exm_ref ec5 hd5 tc5 su3_5, kit_ref su3_5 su5_5 hd5 tc5⟩
        rcases nth_cons hj3 with ⟨rfl, rfl⟩ | ⟨i4, rfl, hj4⟩
        · exact ⟨PySem.W.exm_ref ec5 hd5 tc5 su4_5, kit_ref su4_5 su5_5 hd5 tc5⟩
        rcases nth_cons hj4 with ⟨rfl, rfl⟩ | ⟨i5, rfl, hj5⟩
        · exact ⟨PySem.W.exm_ref ec5 hd5 tc5 su5_5, kit_ref su5_5 su5_5 hd5 tc5⟩
        rcases nth_cons hj5 with ⟨rfl, rfl⟩ | ⟨i6, rfl, hj6⟩
        · exact ⟨PySem.W.exm_ref ec5 hd5 tc5 su6_5, kit_ref su6_5 su5_5 hd5 tc5⟩
        simp at hj6
      rcases look_cons hx with ⟨rfl, rfl⟩ | hx
      · refine ⟨C6, rfl, PySem.W.mg_of X G ac6, fun i D hi => ?_⟩
        rcases nth_cons hi with ⟨rfl, rfl⟩ | ⟨i0, rfl, hj0⟩
        · exact ⟨PySem.W.exm_ref ec6 hd6 tc6 su0_6, kit_ref su0_6 su6_6 hd6 tc6⟩
        rcases nth_cons hj0 with ⟨rfl, rfl⟩ | ⟨i1, rfl, hj1⟩
        · exact ⟨PySem.W.exm_ref ec6 hd6 tc6 su1_6, kit_ref su1_6 su6_6 hd6 tc6⟩
        rcases nth_cons hj1 with ⟨rfl, rfl⟩ | ⟨i2, rfl, hj2⟩
        · exact ⟨PySem.W.exm_ref ec6 hd6 tc6 su2_6, kit_ref su2_6 su6_6 hd6 tc6⟩
        rcases nth_cons hj2 with ⟨rfl, rfl⟩ | ⟨i3, rfl, hj3⟩
        · exact ⟨PySem.W.exm_ref ec6 hd6 tc6 su3_6, kit_ref su3_6 su6_6 hd6 tc6⟩
        rcases nth_cons hj3 with ⟨rfl, rfl⟩ | ⟨i4, rfl, hj4⟩
        · exact ⟨PySem.W.exm_ref ec6 hd6 tc6 su4_6, kit_ref su4_6 su6_6 hd6 tc6⟩
        rcases nth_cons hj4 with ⟨rfl, rfl⟩ | ⟨i5, rfl, hj5⟩
        · exact ⟨PySem.W.exm_ref ec6 hd6 tc6 su5_6, kit_ref su5_6 su6_6 hd6 tc6⟩
        rcases nth_cons hj5 with ⟨rfl, rfl⟩ | ⟨i6, rfl, hj6⟩
        · exact ⟨PySem.W.exm_ref ec6 hd6 tc6 su6_6, kit_ref su6_6 su6_6 hd6 tc6⟩
        simp at hj6
      cases hx
    · rw [ec]
      rcases look_cons hx with ⟨rfl, rfl⟩ | hx
      · refine ⟨PySem.W.mg_none_of X G z0, "ValueError", by decide +kernel, fun i D hi => ?_⟩
        rcases nth_cons hi with ⟨rfl, rfl⟩ | ⟨i0, rfl, hj0⟩
        · exact kit_blt (by decide +kernel) kv0
        rcases nth_cons hj0 with ⟨rfl, rfl⟩ | ⟨i1, rfl, hj1⟩
        · exact kit_blt (by decide +kernel) kv1
        rcases nth_cons hj1 with ⟨rfl, rfl⟩ | ⟨i2, rfl, hj2⟩
        · exact kit_blt (by decide +kernel) kv2
        rcases nth_cons hj2 with ⟨rfl, rfl⟩ | ⟨i3, rfl, hj3⟩
        · exact kit_blt (by decide +kernel) kv3
        rcases nth_cons hj3 with ⟨rfl, rfl⟩ | ⟨i4, rfl, hj4⟩
        · exact kit_blt (by decide +kernel) kv4
        rcases nth_cons hj4 with ⟨rfl, rfl⟩ | ⟨i5, rfl, hj5⟩
        · exact kit_blt (by decide +kernel) kv5
        rcases nth_cons hj5 with ⟨rfl, rfl⟩ | ⟨i6, rfl, hj6⟩
        · exact kit_blt (by decide +kernel) kv6
        simp at hj6
      cases hx
    · rw [ec] at hi
      rcases nth_cons hi with ⟨rfl, rfl⟩ | ⟨i0, rfl, hj0⟩
      · exact ⟨O0, I0⟩
      rcases nth_cons hj0 with ⟨rfl, rfl⟩ | ⟨i1, rfl, hj1⟩
      · exact ⟨O1, I1⟩
      rcases nth_cons hj1 with ⟨rfl, rfl⟩ | ⟨i2, rfl, hj2⟩
      · exact ⟨O2, I2⟩
      rcases nth_cons hj2 with ⟨rfl, rfl⟩ | ⟨i3, rfl, hj3⟩
      · exact ⟨O3, I3⟩
      rcases nth_cons hj3 with ⟨rfl, rfl⟩ | ⟨i4, rfl, hj4⟩
      · exact ⟨O4, I4⟩
      rcases nth_cons hj4 with ⟨rfl, rfl⟩ | ⟨i5, rfl, hj5⟩
      · exact ⟨O5, I5⟩
      rcases nth_cons hj5 with ⟨rfl, rfl⟩ | ⟨i6, rfl, hj6⟩
      · exact ⟨O6, I6⟩
      simp at hj6
  exact ⟨_, fun s v => .of_eq rfl, fun base _ _ => (fn_all ok comp 5 16 e16 _ _ rfl F16).1⟩
end K6
open PySem PySem.W PyProof.Rows
set_option maxHeartbeats 0 in
theorem PySem.Challenge.cw_zoneward_k06_any_bytes_as_a_name_holds : PySem.Challenge.rw_zoneward_k06_any_bytes_as_a_name.Holds := by
  w_on; o_law; k_head; (case hw => w_witness2)
  k_fill
  refine L2.walk_of (l := PySem.Challenge.rw_zoneward_k06_any_bytes_as_a_name) (n := 63) (k := 7) (x := "script") (CX := fun w => Z.CXN PySem.Challenge.rw_zoneward_k06_any_bytes_as_a_name.prog w) (sp := fun w => K6.spL _) rfl (by decide) rfl ⟨rfl, by decide, by decide⟩ (fun w h Y => PySem.W.kIn_of Y) ?F (fun _ _ a ns hl o hS => Z.law_sp o hS (K6.law ns 0)) (fun _ _ _ _ _ h => by obtain ⟨_, _, _, _, _, _, _, _, _, _, _, _, z⟩ := h; exact z)
  case F =>
    intro w mg fa h KX G hmg
    refine' K6.all_mk KX G hmg ?a0 ?l0 ?c0 ?k0 ?a1 ?l1 ?c1 ?k1 ?a2 ?l2 ?c2 ?k2 ?a3 ?l3 ?c3 ?k3 ?a4 ?l4 ?c4 ?k4 ?a5 ?l5 ?c5 ?k5 ?a6 ?l6 ?c6 ?k6 ?a7 ?l7 ?c7 ?k7 ?a8 ?l8 ?c8 ?k8 ?a9 ?l9 ?c9 ?k9 ?a10 ?l10 ?c10 ?k10 ?a11 ?l11 ?c11 ?k11 ?a12 ?l12 ?c12 ?k12 ?a13 ?l13 ?c13 ?k13 ?a14 ?l14 ?c14 ?k14 ?a15 ?l15 ?c15 ?k15 ?a16 ?l16 ?c16 ?k16 ?z0 ?z1 ?z2 ?z3 ?z4 ?z5 ?z6 ?z7 ?z8 ?z9 ?cq0 ?cq1 ?cq2 ?cq3 ?cq4 ?cq5 ?cq6 ?cq7 ?cq8 ?cq9 ?ac0 ?ac1 ?ac2 ?ac3 ?ac4 ?ac5 ?ac6 ?xl0 ?sa0 ?ga0 ?gg0 ?np0 ?ic0 ?kp0 ?ec0 ?tc0 ?hd0 ?hc0 ?hm0 ?kv0 ?su0_0 ?su0_1 ?su0_2 ?su0_3 ?su0_4 ?su0_5 ?su0_6 ?xl1 ?sa1 ?ga1 ?gg1 ?np1 ?ic1 ?kp1 ?ec1 ?tc1 ?hd1 ?hc1 ?hm1 ?kv1 ?su1_0 ?su1_1 ?su1_2 ?su1_3 ?su1_4 ?su1_5 ?su1_6 ?xl2 ?sa2 ?ga2 ?gg2 ?np2 ?ic2 ?kp2 ?ec2 ?tc2 ?hd2 ?hc2 ?hm2 ?kv2 ?su2_0 ?su2_1 ?su2_2 ?su2_3 ?su2_4 ?su2_5 ?su2_6 ?xl3 ?sa3 ?ga3 ?gg3 ?np3 ?ic3 ?kp3 ?ec3 ?tc3 ?hd3 ?hc3 ?hm3 ?kv3 ?su3_0 ?su3_1 ?su3_2 ?su3_3 ?su3_4 ?su3_5 ?su3_6 ?xl4 ?sa4 ?ga4 ?gg4 ?np4 ?ic4 ?kp4 ?ec4 ?tc4 ?hd4 ?hc4 ?hm4 ?kv4 ?su4_0 ?su4_1 ?su4_2 ?su4_3 ?su4_4 ?su4_5 ?su4_6 ?xl5 ?sa5 ?ga5 ?gg5 ?np5 ?ic5 ?kp5 ?ec5 ?tc5 ?hd5 ?hc5 ?hm5 ?kv5 ?su5_0 ?su5_1 ?su5_2 ?su5_3 ?su5_4 ?su5_5 ?su5_6 ?xl6 ?sa6 ?ga6 ?gg6 ?np6 ?ic6 ?kp6 ?ec6 ?tc6 ?hd6 ?hc6 ?hm6 ?kv6 ?su6_0 ?su6_1 ?su6_2 ?su6_3 ?su6_4 ?su6_5 ?su6_6 ?ti ?li ?ci ?kpi ?hn ?ht
    (case a0 => k_is); (case l0 => k_is); (case c0 => k_is); (case k0 => k_is); (case a1 => k_is); (case l1 => k_is); (case c1 => k_is); (case k1 => k_is)
    (case a2 => k_is); (case l2 => k_is); (case c2 => k_is); (case k2 => k_is); (case a3 => k_is); (case l3 => k_is); (case c3 => k_is); (case k3 => k_is)
    (case a4 => k_is); (case l4 => k_is); (case c4 => k_is); (case k4 => k_is); (case a5 => k_is); (case l5 => k_is); (case c5 => k_is); (case k5 => k_is)
    (case a6 => k_is); (case l6 => k_is); (case c6 => k_is); (case k6 => k_is); (case a7 => k_is); (case l7 => k_is); (case c7 => k_is); (case k7 => k_is)
    (case a8 => k_is); (case l8 => k_is); (case c8 => k_is); (case k8 => k_is); (case a9 => k_is); (case l9 => k_is); (case c9 => k_is); (case k9 => k_is)
    (case a10 => k_is); (case l10 => k_is); (case c10 => k_is); (case k10 => k_is); (case a11 => k_is); (case l11 => k_is); (case c11 => k_is); (case k11 => k_is)
    (case a12 => k_is); (case l12 => k_is); (case c12 => k_is); (case k12 => k_is); (case a13 => k_is); (case l13 => k_is); (case c13 => k_is); (case k13 => k_is)
    (case a14 => k_is); (case l14 => k_is); (case c14 => k_is); (case k14 => k_is); (case a15 => k_is); (case l15 => k_is); (case c15 => k_is); (case k15 => k_is)
    (case a16 => k_is); (case l16 => k_is); (case c16 => k_is); (case k16 => k_is); (case z0 => k_is); (case z1 => k_is); (case z2 => k_is); (case z3 => k_is)
    (case z4 => k_is); (case z5 => k_is); (case z6 => k_is); (case z7 => k_is); (case z8 => k_is); (case z9 => k_is); (case cq0 => k_is); (case cq1 => k_is)
    (case cq2 => k_is); (case cq3 => k_is); (case cq4 => k_is); (case cq5 => k_is); (case cq6 => k_is); (case cq7 => k_is); (case cq8 => k_is); (case cq9 => k_is)
    (case ac0 => k_is); (case ac1 => k_is); (case ac2 => k_is); (case ac3 => k_is); (case ac4 => k_is); (case ac5 => k_is); (case ac6 => k_is); (case xl0 => k_is)
    (case sa0 => k_is); (case ga0 => k_is); (case gg0 => k_is); (case np0 => k_is); (case ic0 => k_is); (case kp0 => k_is); (case ec0 => k_is); (case tc0 => k_is)
    (case hd0 => k_is); (case hc0 => k_is); (case hm0 => k_is); (case kv0 => k_is); (case su0_0 => k_is); (case su0_1 => k_is); (case su0_2 => k_is); (case su0_3 => k_is)
    (case su0_4 => k_is); (case su0_5 => k_is); (case su0_6 => k_is); (case xl1 => k_is); (case sa1 => k_is); (case ga1 => k_is); (case gg1 => k_is); (case np1 => k_is)
    (case ic1 => k_is); (case kp1 => k_is); (case ec1 => k_is); (case tc1 => k_is); (case hd1 => k_is); (case hc1 => k_is); (case hm1 => k_is); (case kv1 => k_is)
    (case su1_0 => k_is); (case su1_1 => k_is); (case su1_2 => k_is); (case su1_3 => k_is); (case su1_4 => k_is); (case su1_5 => k_is); (case su1_6 => k_is); (case xl2 => k_is)
    (case sa2 => k_is); (case ga2 => k_is); (case gg2 => k_is); (case np2 => k_is); (case ic2 => k_is); (case kp2 => k_is); (case ec2 => k_is); (case tc2 => k_is)
    (case hd2 => k_is); (case hc2 => k_is); (case hm2 => k_is); (case kv2 => k_is); (case su2_0 => k_is); (case su2_1 => k_is); (case su2_2 => k_is); (case su2_3 => k_is)
    (case su2_4 => k_is); (case su2_5 => k_is); (case su2_6 => k_is); (case xl3 => k_is); (case sa3 => k_is); (case ga3 => k_is); (case gg3 => k_is); (case np3 => k_is)
    (case ic3 => k_is); (case kp3 => k_is); (case ec3 => k_is); (case tc3 => k_is); (case hd3 => k_is); (case hc3 => k_is); (case hm3 => k_is); (case kv3 => k_is)
    (case su3_0 => k_is); (case su3_1 => k_is); (case su3_2 => k_is); (case su3_3 => k_is); (case su3_4 => k_is); (case su3_5 => k_is); (case su3_6 => k_is); (case xl4 => k_is)
    (case sa4 => k_is); (case ga4 => k_is); (case gg4 => k_is); (case np4 => k_is); (case ic4 => k_is); (case kp4 => k_is); (case ec4 => k_is); (case tc4 => k_is)
    (case hd4 => k_is); (case hc4 => k_is); (case hm4 => k_is); (case kv4 => k_is); (case su4_0 => k_is); (case su4_1 => k_is); (case su4_2 => k_is); (case su4_3 => k_is)
    (case su4_4 => k_is); (case su4_5 => k_is); (case su4_6 => k_is); (case xl5 => k_is); (case sa5 => k_is); (case ga5 => k_is); (case gg5 => k_is); (case np5 => k_is)
    (case ic5 => k_is); (case kp5 => k_is); (case ec5 => k_is); (case tc5 => k_is); (case hd5 => k_is); (case hc5 => k_is); (case hm5 => k_is); (case kv5 => k_is)
    (case su5_0 => k_is); (case su5_1 => k_is); (case su5_2 => k_is); (case su5_3 => k_is); (case su5_4 => k_is); (case su5_5 => k_is); (case su5_6 => k_is); (case xl6 => k_is)
    (case sa6 => k_is); (case ga6 => k_is); (case gg6 => k_is); (case np6 => k_is); (case ic6 => k_is); (case kp6 => k_is); (case ec6 => k_is); (case tc6 => k_is)
    (case hd6 => k_is); (case hc6 => k_is); (case hm6 => k_is); (case kv6 => k_is); (case su6_0 => k_is); (case su6_1 => k_is); (case su6_2 => k_is); (case su6_3 => k_is)
    (case su6_4 => k_is); (case su6_5 => k_is); (case su6_6 => k_is); (case ti => k_is); (case li => k_is); (case ci => k_is); (case kpi => k_is); (case hn => k_is)
    (case ht => k_is)

