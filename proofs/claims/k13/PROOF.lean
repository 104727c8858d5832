import PyProof.Rows.All
import Wide.All
import OpenK.AllK
import Wide.FinOn
import HandS.ForMost
import HandS.ForExc
import HandS.TupAny
import HandS.Style
import HandS.Flow
import HandS.IsInst
import HandS.CallSlots
import HandS.StrMore
import KE.KExcIs
import HandS.ExcInit
import HandS.ExcField
import HandS.ExcIs
import HandS.TryOnly
import HandS.HotCalls
import HandS.SortInts
import KE.SortData
import HandS.Wide
import PyProof.InstNe
import PySem.Challenge.RW_zoneward_k13_serials
set_option Elab.async false
set_option linter.all false
set_option maxRecDepth 100000
set_option autoImplicit false
namespace Z
open PySem PySem.Spec PyProof.Rows L2

/-! ## data, objects, results -/
inductive D where
  | non
  | bl (b : Bool)
  | int (i : Int)
  | str (s : List Nat)
  | tup (xs : List D)
  | flst (xs : List D)
  | slst (xs : List D)
  | fdct (ks vs : List D)
  | fset (ks : List D)
  | fins (c : Nat) (ns : List Nat) (ds : List D)
  | fn (f : Nat)
  | loc (l : Nat)
  deriving Repr

inductive DO where
  | lst (xs : List D)
  | dct (p : Bool) (ks vs : List D)
  | ins (c : Nat) (ns : List Nat) (ds : List D)
  | exn (c : Nat) (p : D)
/-- an object that is tracked on the heap -/
def DO.mut : DO → Bool
  | .exn _ _ => false
  | _ => true

abbrev Env := List (Option D)
abbrev Store := List DO

inductive R (α : Type) where
  | ok (a : α) (st : Store)
  | exc (c : Nat) (p : D) (st : Store)
  | bad

def R.bind {α β : Type} (r : R α) (f : α → Store → R β) : R β := match r with
  | .ok a st => f a st
  | .exc c p st => .exc c p st
  | .bad => .bad

inductive SR where
  | next (env : Env) (st : Store)
  | ret (d : D) (st : Store)
  | brk (env : Env) (st : Store)
  | cnt (env : Env) (st : Store)
  | exc (c : Nat) (p : D) (env : Env) (st : Store)
  | bad

/-! ## the relation to values and heaps -/
/-- places of the store: the address, and whether the object may change -/
abbrev Tk := List (Addr × Bool)
def Utr (ρ : Tk) (a : Addr) : Prop := ∀ l : Nat, ρ[l]? ≠ some (a, true)
/-- a list that no name of the machine's may change -/
def SqF (K : PySem.W.Frag) (ρ : Tk) (H : Hp) (a : Addr) (xs : List V) : Prop := Utr ρ a ∧ H a = some (.lst xs)
theorem SqF.sq {K : PySem.W.Frag} {ρ : Tk} {H : Hp} {a : Addr} {xs : List V} (h : SqF K ρ H a xs) : SqL K H a xs := .inl (.inl h.2)
/-- a list that stood before: the script, a constant -/
def SqS (K : PySem.W.Frag) (H : Hp) (a : Addr) (xs : List V) : Prop :=
  (∃ o, H a = some (.frz o (.lst xs))) ∨
    ∃ (o : Obj) (its : Array Value) (n : Nat), K.lookup a = some o ∧ o.cls = .type "list" ∧ o.dict = none ∧ o.data = .seq its n ∧ its.size ≤ sizeLine ∧ Vals xs its.toList
theorem SqS.sq {K : PySem.W.Frag} {H : Hp} {a : Addr} {xs : List V} (h : SqS K H a xs) : SqL K H a xs := by
  rcases h with ⟨o, h⟩ | h
  · exact .inl (.inr ⟨o, h⟩)
  · exact .inr h

/-! ## names of attributes and classes, by number -/
def attrNm : List Str := (["place", "number", "question", "response", "authoritative", "recursion", "code", "answer", "authority", "additional", "data", "places", "origin", "sets"] : List Str) ++ (["find_set", "soa", "serial", "negative_set", "exists", "fields", "__eq__", "holders", "zone", "changes", "master", "expires", "next_time", "served"] : List Str) ++ (["due", "receive", "edit", "holder_of", "limit", "entries", "put", "put_negative", "find", "find_negative", "size", "cache", "roots", "tasks"] : List Str) ++ (["ask", "now", "sent", "replies", "hosts", "fates", "messages", "add_authority", "add_resolver", "pass_second", "run"] : List Str)
def clsNm : List Str := ["Message", "Writer", "Reader", "Zone", "Primary", "Secondary", "Authority", "Cache", "Resolver", "World"]
theorem attr_nodup : attrNm.Nodup := by decide +kernel
theorem nodup_get {α : Type} : ∀ {xs : List α} {n a : Nat} {x : α}, xs.Nodup → xs[n]? = some x → xs[a]? = some x → n = a
  | [], _, _, _, _, h, _ => by simp at h
  | y :: ys, 0, 0, _, _, _, _ => rfl
  | y :: ys, 0, a + 1, x, nd, h, g => by
    simp at h g
    subst h
    exact absurd (List.mem_of_getElem? g) (List.nodup_cons.mp nd).1
  | y :: ys, n + 1, 0, x, nd, h, g => by
    simp at h g
    subst g
    exact absurd (List.mem_of_getElem? h) (List.nodup_cons.mp nd).1
  | y :: ys, n + 1, a + 1, x, nd, h, g => by
    simp at h g
    rw [nodup_get (List.nodup_cons.mp nd).2 h g]
theorem attr_inj {n a : Nat} {x : Str} (h : attrNm[n]? = some x) (g : attrNm[a]? = some x) : n = a := nodup_get attr_nodup h g
/-- the address of a class by its name at the top -/
def clsOf (K : PySem.W.Frag) (x : Str) : Addr := match PySem.W.nsIn K mainGlobals x with
  | some (some (.ref a)) => a
  | _ => 0
def clsA (K : PySem.W.Frag) (c : Nat) : Addr := clsOf K (clsNm.getD c "")
mutual
inductive Rv (K : PySem.W.Frag) (ρ : Tk) (H : Hp) : D → V → Prop
  | non : Rv K ρ H .non .non
  | bl (b : Bool) : Rv K ρ H (.bl b) (.bl b)
  | int (i : Int) : Rv K ρ H (.int i) (.int i)
  | str (x : List Nat) : Rv K ρ H (.str x) (.str ⟨x.toArray⟩)
  | tup {a : Addr} {xs : List V} {ds : List D} : SqT K H a xs → Rvs K ρ H ds xs → Rv K ρ H (.tup ds) (.ref a)
  | flst {a : Addr} {xs : List V} {ds : List D} : SqF K ρ H a xs → Rvs K ρ H ds xs → Rv K ρ H (.flst ds) (.ref a)
  | slst {a : Addr} {xs : List V} {ds : List D} : SqS K H a xs → Rvs K ρ H ds xs → Rv K ρ H (.slst ds) (.ref a)
  | fins {a dx : Addr} {c : Nat} {ns : List Nat} {vs : List (Str × V)} {ds : List D} : Utr ρ a → H a = some (.ins (clsA K c) dx vs) → vs.map (fun p => some p.1) = ns.map (fun n => attrNm[n]?) → Rvs K ρ H ds (vs.map (·.2)) → Rv K ρ H (.fins c ns ds) (.ref a)
  | loc {l : Nat} {a : Addr} {b : Bool} : ρ[l]? = some (a, b) → Rv K ρ H (.loc l) (.ref a)
inductive Rvs (K : PySem.W.Frag) (ρ : Tk) (H : Hp) : List D → List V → Prop
  | nil : Rvs K ρ H [] []
  | cons {d : D} {ds : List D} {v : V} {vs : List V} : Rv K ρ H d v → Rvs K ρ H ds vs → Rvs K ρ H (d :: ds) (v :: vs)
end

def mutO : HO → Prop
  | .lst _ => True
  | .dK _ => True
  | .dT _ => True
  | .ins _ _ _ => True
  | .ext _ => True
  | _ => False
/-- what lasts: tuples and frozen lists; the places of objects -/
structure Ext (K : PySem.W.Frag) (ρ ρ' : Tk) (H H' : Hp) : Prop where
  pre : ρ <+: ρ'
  fr : ∀ a o u, H a = some (.frz o u) → H' a = some (.frz o u)
  tup : ∀ a xs, SqT K H a xs → SqT K H' a xs
  un : ∀ a o, Utr ρ a → H a = some o → mutO o → H' a = some o ∧ Utr ρ' a
  xd : ∀ a fs, H a = some (.xd fs) → H' a = some (.xd fs)
theorem Ext.refl {K : PySem.W.Frag} {ρ : Tk} {H : Hp} : Ext K ρ ρ H H := ⟨List.prefix_rfl, fun _ _ _ h => h, fun _ _ h => h, fun _ _ u h _ => ⟨h, u⟩, fun _ _ h => h⟩
theorem Ext.trans {K : PySem.W.Frag} {ρ ρ1 ρ2 : Tk} {H H1 H2 : Hp} (a : Ext K ρ ρ1 H H1) (b : Ext K ρ1 ρ2 H1 H2) : Ext K ρ ρ2 H H2 :=
  ⟨a.pre.trans b.pre, fun x o u h => b.fr x o u (a.fr x o u h), fun x xs h => b.tup x xs (a.tup x xs h), fun x o u h m => let ⟨h1, u1⟩ := a.un x o u h m; b.un x o u1 h1 m, fun x fs h => b.xd x fs (a.xd x fs h)⟩
theorem pre_get {ρ ρ' : Tk} (p : ρ <+: ρ') {l : Nat} {a : Addr × Bool} (h : ρ[l]? = some a) : ρ'[l]? = some a := by
  obtain ⟨t, rfl⟩ := p
  obtain ⟨hl, _⟩ := List.getElem?_eq_some_iff.mp h
  rw [List.getElem?_append_left hl]
  exact h
section
variable {K : PySem.W.Frag} {ρ ρ' : Tk} {H H' : Hp}
theorem SqF.ext (e : Ext K ρ ρ' H H') {a : Addr} {xs : List V} (h : SqF K ρ H a xs) : SqF K ρ' H' a xs := ⟨(e.un a _ h.1 h.2 trivial).2, (e.un a _ h.1 h.2 trivial).1⟩
theorem SqS.ext (e : Ext K ρ ρ' H H') {a : Addr} {xs : List V} (h : SqS K H a xs) : SqS K H' a xs := by
  rcases h with ⟨o, h⟩ | h
  · exact .inl ⟨o, e.fr _ _ _ h⟩
  · exact .inr h
mutual
theorem Rv.ext (e : Ext K ρ ρ' H H') : ∀ {d : D} {v : V}, Rv K ρ H d v → Rv K ρ' H' d v
  | _, _, .non => .non
  | _, _, .bl b => .bl b
  | _, _, .int i => .int i
  | _, _, .str x => .str x
  | _, _, .tup h t => .tup (e.tup _ _ h) (Rvs.ext e t)
  | _, _, .flst h t => .flst (h.ext e) (Rvs.ext e t)
  | _, _, .slst h t => .slst (h.ext e) (Rvs.ext e t)
  | _, _, .fins u h n t => .fins (e.un _ _ u h trivial).2 (e.un _ _ u h trivial).1 n (Rvs.ext e t)
  | _, _, .loc h => .loc (pre_get e.pre h)
theorem Rvs.ext (e : Ext K ρ ρ' H H') : ∀ {ds : List D} {vs : List V}, Rvs K ρ H ds vs → Rvs K ρ' H' ds vs
  | _, _, .nil => .nil
  | _, _, .cons h t => .cons (Rv.ext e h) (Rvs.ext e t)
end
theorem Rvs.length {ds : List D} {vs : List V} (h : Rvs K ρ H ds vs) : ds.length = vs.length := by
  induction ds generalizing vs with
  | nil => cases h; rfl
  | cons d ds ih => cases h with | cons a b => rw [List.length_cons, List.length_cons, ih b]
theorem Rvs.get {ds : List D} {vs : List V} (h : Rvs K ρ H ds vs) {i : Nat} {d : D} (e : ds[i]? = some d) : ∃ v, vs[i]? = some v ∧ Rv K ρ H d v := by
  induction ds generalizing vs i with
  | nil => simp at e
  | cons x ds ih =>
    cases h with
    | cons a b =>
      cases i with
      | zero => simp at e; subst e; exact ⟨_, rfl, a⟩
      | succ i => simp at e; simpa using ih b e
theorem Rvs.getV {ds : List D} {vs : List V} (h : Rvs K ρ H ds vs) {i : Nat} {v : V} (e : vs[i]? = some v) : ∃ d, ds[i]? = some d ∧ Rv K ρ H d v := by
  induction ds generalizing vs i with
  | nil => cases h; simp at e
  | cons x ds ih =>
    cases h with
    | cons a b =>
      cases i with
      | zero => simp at e; subst e; exact ⟨_, rfl, a⟩
      | succ i => simp at e; simpa using ih b e
theorem Rvs.append {ds es : List D} {vs us : List V} (h : Rvs K ρ H ds vs) (g : Rvs K ρ H es us) : Rvs K ρ H (ds ++ es) (vs ++ us) := by
  induction ds generalizing vs with
  | nil => cases h; exact g
  | cons x ds ih => cases h with | cons a b => exact .cons a (ih b)
theorem Rvs.take {ds : List D} {vs : List V} (h : Rvs K ρ H ds vs) (n : Nat) : Rvs K ρ H (ds.take n) (vs.take n) := by
  induction n generalizing ds vs with
  | zero => simp; exact .nil
  | succ n ih => cases h with
    | nil => simp; exact .nil
    | cons a b => simp; exact .cons a (ih b)
theorem Rvs.drop {ds : List D} {vs : List V} (h : Rvs K ρ H ds vs) (n : Nat) : Rvs K ρ H (ds.drop n) (vs.drop n) := by
  induction n generalizing ds vs with
  | zero => simpa using h
  | succ n ih => cases h with
    | nil => simp; exact .nil
    | cons a b => simp; exact ih b
theorem Rvs.set {ds : List D} {vs : List V} (h : Rvs K ρ H ds vs) {d : D} {v : V} (g : Rv K ρ H d v) (n : Nat) : Rvs K ρ H (ds.set n d) (vs.set n v) := by
  induction n generalizing ds vs with
  | zero => cases h with
    | nil => simp; exact .nil
    | cons a b => simp; exact .cons g b
  | succ n ih => cases h with
    | nil => simp; exact .nil
    | cons a b => simp; exact .cons a (ih b)
theorem Rvs.one {d : D} {vs : List V} (h : Rvs K ρ H [d] vs) : ∃ v, vs = [v] ∧ Rv K ρ H d v := by
  cases h with | cons a b => cases b; exact ⟨_, rfl, a⟩
theorem Rvs.two {d e : D} {vs : List V} (h : Rvs K ρ H [d, e] vs) : ∃ v u, vs = [v, u] ∧ Rv K ρ H d v ∧ Rv K ρ H e u := by
  cases h with | cons a b => cases b with | cons c b => cases b; exact ⟨_, _, rfl, a, c⟩
theorem Rvs.three {d e f : D} {vs : List V} (h : Rvs K ρ H [d, e, f] vs) : ∃ v u w, vs = [v, u, w] ∧ Rv K ρ H d v ∧ Rv K ρ H e u ∧ Rv K ρ H f w := by
  cases h with | cons a b => cases b with | cons c b => cases b with | cons f b => cases b; exact ⟨_, _, _, rfl, a, c, f⟩
end

/-- the exception that a suite holds: its place in the store, its address, its class, its dict -/
structure Cur where
  l : Nat
  a : Addr
  c : Nat
  dd : Addr
/-- the keys of dicts: flat tuples of ints and texts; pairs of such a tuple and an int or a text -/
def atomD : D → Bool
  | .int _ => true
  | .str _ => true
  | _ => false
def keyD : Bool → D → Bool
  | false, .tup xs => xs.all atomD
  | true, .tup [.tup xs, d] => xs.all atomD && atomD d
  | _, _ => false
/-- the exception classes: by number the address -/
structure GC where
  cls : List Addr
  cur : Option Cur := none
  /-- what is true of the object of a dict with such entries; the flag tells the kind of its keys -/
  dh : Bool → Addr → List (D × Addr × V) → Heap → Prop := fun _ _ _ _ => False
def GC.at (G : GC) (cu : Option Cur) : GC := { G with cur := cu }
/-- an instance: its class, its attributes -/
def InsAt (K : PySem.W.Frag) (ρ : Tk) (H : Hp) (a : Addr) (c : Nat) (ns : List Nat) (ds : List D) : Prop :=
  ∃ dx vs, H a = some (.ins (clsA K c) dx vs) ∧ Rvs K ρ H ds (vs.map (·.2)) ∧ vs.map (fun p => some p.1) = ns.map fun n => attrNm[n]?
/-- what stands at an address -/
def RO (G : GC) (K : PySem.W.Frag) (ρ : Tk) (H : Hp) (l : Nat) (a : Addr) : DO → Prop
  | .lst ds => ∃ vs, H a = some (.lst vs) ∧ Rvs K ρ H ds vs
  | .dct p ks vs => ∃ es : List (D × Addr × V), H a = some (.ext (G.dh p a es)) ∧ es.map (·.1) = ks ∧ ks.all (keyD p) = true ∧ Rvs K ρ H ks (es.map fun e => .ref e.2.1) ∧ Rvs K ρ H vs (es.map fun e => e.2.2)
  | .ins c ns ds => InsAt K ρ H a c ns ds
  | .exn c p => ∃ cu v, G.cur = some cu ∧ cu.l = l ∧ cu.a = a ∧ cu.c = c ∧ H cu.dd = some (.xd [(("place" : Str), v)]) ∧ Rv K ρ H p v
structure Rs (G : GC) (K : PySem.W.Frag) (ρ : Tk) (st : Store) (H : Hp) : Prop where
  len : ρ.length = st.length
  nd : ∀ (l m : Nat) (a : Addr), ρ[l]? = some (a, true) → ρ[m]? = some (a, true) → l = m
  obj : ∀ (l : Nat) (o : DO), st[l]? = some o → ∃ a, ρ[l]? = some (a, o.mut) ∧ RO G K ρ H l a o
structure Re (K : PySem.W.Frag) (ρ : Tk) (H : Hp) (env : Env) (σ : L2.St) : Prop where
  len : σ.length = env.length
  at_ : ∀ (i : Nat) (d : D), env[i]? = some (some d) → ∃ v, σ[i]? = some (some v) ∧ Rv K ρ H d v
/-- the state: slots, objects -/
structure Rel (G : GC) (K : PySem.W.Frag) (ρ : Tk) (env : Env) (st : Store) (σ : L2.St) (H : Hp) : Prop where
  s : Rs G K ρ st H
  e : Re K ρ H env σ
section
variable {G : GC} {K : PySem.W.Frag} {ρ ρ' : Tk} {H H' : Hp} {env : Env} {st st' : Store} {σ : L2.St}
theorem Re.ext (e : Ext K ρ ρ' H H') (h : Re K ρ H env σ) : Re K ρ' H' env σ :=
  ⟨h.len, fun i d q => let ⟨v, a, b⟩ := h.at_ i d q; ⟨v, a, b.ext e⟩⟩
theorem Re.set {i : Nat} {d : D} {v : V} (h : Re K ρ H env σ) (r : Rv K ρ H d v) : Re K ρ H (env.set i (some d)) (σ.set i (some v)) := by
  refine ⟨by rw [List.length_set, List.length_set]; exact h.len, fun j x q => ?_⟩
  by_cases hj : i = j
  · subst hj
    rw [List.getElem?_set] at q ⊢
    rw [if_pos rfl] at q ⊢
    rw [h.len]
    split at q
    · cases q
      rename_i hl
      rw [if_pos hl]
      exact ⟨v, rfl, r⟩
    · cases q
  · rw [List.getElem?_set_ne hj] at q ⊢
    exact h.at_ j x q
/-- what is tracked -/
theorem RO.mut {o : DO} {l : Nat} {a : Addr} (h : RO G K ρ H l a o) (hm : o.mut = true) : ∃ u, H a = some u ∧ mutO u := by
  cases o with
  | lst ds => obtain ⟨vs, h, _⟩ := h; exact ⟨_, h, trivial⟩
  | dct p ks vs => obtain ⟨es, h, _⟩ := h; exact ⟨_, h, trivial⟩
  | ins c ns ds => obtain ⟨dx, vs, h, _⟩ := h; exact ⟨_, h, trivial⟩
  | exn c p => cases hm
end
end Z

set_option autoImplicit false
namespace Z
open PySem L2

inductive Ty where
  | bool | int | str | list | tuple
  deriving Repr
/-- methods of built-in types -/
inductive Mt where
  | join | split | lower | upper | endswith | startswith | isascii | isdigit | append | extend | index
  deriving Repr
inductive Op2 where
  | inn | notin | all_ | any_ | sum_ | min2 | max2 | toList | asStr | asLst | meth (m : Mt) | place | isx (tab : List Nat) | ord_ | flit | toListF | iadd | isub | fld (a : Nat) (tab : List Nat) | isc (c : Nat) (tab : List Nat) | sorted_ | toStr
  deriving Repr
inductive Op where
  | add | sub | mul | mod | fdiv | pow | neg
  | eq | ne | lt | le | gt | ge | is | isnot
  | asInt | len | ix | sl (lo hi : Bool) | tup | lst | toTup | toInt | isin (t : Ty) | x (o : Op2)
  deriving Repr
/-- what a for goes over -/
inductive Ik where
  | seq | range1 | range2
  deriving Repr
inductive Tg where
  | nm (i : Nat)
  | tup (ts : List Tg)
  deriving Repr
inductive Ex where
  | v (i : Nat)
  | c (d : D)
  | op (o : Op) (es : List Ex)
  | call (f : Nat) (es : List Ex)
  | and (a b : Ex)
  | or (a b : Ex)
  | not (a : Ex)
  | ifx (c a b : Ex)
  | chain (o p : Op) (a b c : Ex)
  | comp (own : List Nat) (t : Tg) (k : Ik) (src : List Ex) (ifs : List Ex) (elt : Ex)
  | sealE (e : Ex)
  | scall (f : Nat) (es : List Ex)
  | make (c f : Nat) (es : List Ex)
  | meth (c f m : Nat) (o : Ex) (es : List Ex)
  | eqo (neg : Bool) (c f : Nat) (a b : Ex)
  deriving Repr
inductive Sx where
  | asg (t : Tg) (e : Ex)
  | setix (o i e : Ex)
  | setfld (a : Nat) (tab : List Nat) (o e : Ex)
  | expr (e : Ex)
  | ret (e : Ex)
  | ite (c : Ex) (t f : List Sx)
  | for_ (t : Tg) (k : Ik) (src : List Ex) (body : List Sx)
  | while_ (c : Ex) (body : List Sx)
  | brk
  | cnt
  | pass
  | raise_ (c : Nat) (e : Ex)
  | try_ (body : List Sx) (tab : List Nat) (i : Nat) (suite : List Sx)
  deriving Repr

def SZ : Nat := 16777216
def big64 (i : Int) : Bool := decide (-(2 ^ 64) < i) && decide (i < 2 ^ 64)
abbrev FT := Nat → List D → Store → R D

/-! ## data -/
def b2i (b : Bool) : Int := if b then 1 else 0
/-- what the model's data has no word for (never asked) -/
def nonish : D → Bool
  | .bl _ => false
  | .int _ => false
  | .str _ => false
  | .tup _ => false
  | .flst _ => false
  | _ => true
mutual
/-- == of pure data -/
def eqD : D → D → Bool
  | .non, .non => true
  | .bl a, .bl b => a == b
  | .bl a, .int b => b2i a == b
  | .int a, .bl b => a == b2i b
  | .int a, .int b => a == b
  | .str a, .str b => a == b
  | .tup a, .tup b => eqDs a b
  | .flst a, .flst b => eqDs a b
  | a, b => nonish a && nonish b
def eqDs : List D → List D → Bool
  | [], [] => true
  | a :: as, b :: bs => eqD a b && eqDs as bs
  | _, _ => false
end
mutual
/-- data without objects: g says what stands at a place -/
def derefD (g : Nat → Option D) : D → Option D
  | .non => some .non
  | .bl b => some (.bl b)
  | .int i => some (.int i)
  | .str s => some (.str s)
  | .tup xs => (derefDs g xs).map .tup
  | .flst xs => (derefDs g xs).map .flst
  | .slst xs => (derefDs g xs).map .flst
  | .loc l => g l
  | _ => none
def derefDs (g : Nat → Option D) : List D → Option (List D)
  | [] => some []
  | x :: xs => match derefD g x, derefDs g xs with
    | some y, some ys => some (y :: ys)
    | _, _ => none
end
/-- a list that stands in the store becomes a frozen one, its lists too, to the depth n -/
def atD (st : Store) : Nat → Nat → Option D
  | 0, _ => none
  | n + 1, l => match st[l]? with
    | some (.lst xs) => (derefDs (atD st n) xs).map .flst
    | _ => none
def pureD (st : Store) (d : D) : Option D := derefD (atD st 8) d
mutual
def deepD : D → Nat
  | .tup xs => deepDs xs + 1
  | .flst xs => deepDs xs + 1
  | _ => 0
def deepDs : List D → Nat
  | [] => 0
  | x :: xs => max (deepD x) (deepDs xs)
end
/-- the items of a list, a tuple -/
def itemsD (st : Store) : D → Option (List D)
  | .tup xs => some xs
  | .flst xs => some xs
  | .slst xs => some xs
  | .loc l => match st[l]? with
    | some (.lst xs) => some xs
    | _ => none
  | _ => none
def cutD {α : Type} (xs : List α) (lo hi : Option Int) : List α :=
  (xs.drop (HT.sIx xs.length 0 lo)).take (HT.sIx xs.length xs.length hi - HT.sIx xs.length 0 lo)
def eqSem (a b : D) (st : Store) : Option Bool := match pureD st a, pureD st b with
  | some x, some y => if min (deepD x) (deepD y) ≤ 60 then some (eqD x y) else none
  | _, _ => none
def tyD (st : Store) : D → Option Ty
  | .bl _ => some .bool
  | .int _ => some .int
  | .str _ => some .str
  | .tup _ => some .tuple
  | .flst _ => some .list
  | .loc l => match st[l]? with
    | some (.lst _) => some .list
    | _ => none
  | _ => none
def isTy : Ty → Ty → Bool
  | .bool, .bool => true
  | .bool, .int => true
  | .int, .int => true
  | .str, .str => true
  | .list, .list => true
  | .tuple, .tuple => true
  | _, _ => false
def cmpI (o : Op) (i j : Int) : Option Bool := match o with
  | .lt => some (decide (i < j))
  | .le => some (decide (i ≤ j))
  | .gt => some (decide (j < i))
  | .ge => some (decide (j ≤ i))
  | _ => none
def slSem (a : D) (lo hi : Option Int) (st : Store) : R D := match a with
  | .tup xs => .ok (.tup (cutD xs lo hi)) st
  | .str s => if s.length ≤ SZ then .ok (.str (cutD s lo hi)) st else .bad
  | .loc l => match st[l]? with
    | some (.lst xs) => .ok (.loc st.length) (st ++ [.lst (cutD xs lo hi)])
    | _ => .bad
  | .flst xs => .ok (.loc st.length) (st ++ [.lst (cutD xs lo hi)])
  | .slst xs => .ok (.loc st.length) (st ++ [.lst (cutD xs lo hi)])
  | _ => .bad
/-- the items of a list that was made by the program -/
def lst1 (st : Store) : D → Option (List D)
  | .flst xs => some xs
  | .loc l => match st[l]? with
    | some (.lst xs) => some xs
    | _ => none
  | _ => none
def addSem (a b : D) (st : Store) : R D := match a, b with
  | .int i, .int j => .ok (.int (i + j)) st
  | .str s, .str t => if s.length + t.length ≤ SZ then .ok (.str (s ++ t)) st else .bad
  | .tup s, .tup t => if s.length + t.length ≤ SZ then .ok (.tup (s ++ t)) st else .bad
  | a, b => match lst1 st a with
    | some s => match lst1 st b with
      | some t => if s.length + t.length ≤ SZ then .ok (.loc st.length) (st ++ [.lst (s ++ t)]) else .bad
      | none => .bad
    | none => .bad
def ixSem (a : D) (i : Int) (st : Store) : R D := match a with
  | .str s => if s.length ≤ SZ then (match atI s i with
    | some c => .ok (.str [c]) st
    | none => .bad) else .bad
  | _ => match itemsD st a with
    | some xs => (match atI xs i with
      | some d => .ok d st
      | none => .bad)
    | none => .bad
def lenSem (a : D) (st : Store) : R D := match a with
  | .str s => if s.length ≤ SZ then .ok (.int s.length) st else .bad
  | _ => match itemsD st a with
    | some xs => .ok (.int xs.length) st
    | none => .bad
def allBl : List D → Option (List Bool)
  | [] => some []
  | .bl b :: r => (allBl r).map (b :: ·)
  | _ :: _ => none
def allInt : List D → Option (List Int)
  | [] => some []
  | .int b :: r => (allInt r).map (b :: ·)
  | _ :: _ => none
def allStr : List D → Option (List (List Nat))
  | [] => some []
  | .str b :: r => (allStr r).map (b :: ·)
  | _ :: _ => none
mutual
/-- a datum as a row of signs, for < -/
def toksD : D → List (Int ⊕ List Nat)
  | .bl b => [.inl (if b = true then 1 else 0)]
  | .int n => [.inl n]
  | .str x => [.inr x]
  | .tup xs => toksDs xs
  | .flst xs => toksDs xs
  | _ => []
def toksDs : List D → List (Int ⊕ List Nat)
  | [] => [.inl 0]
  | x :: xs => .inl 1 :: (toksD x ++ toksDs xs)
end
mutual
/-- may be compared, place by place -/
def alikeD : D → D → Bool
  | .bl _, .bl _ => true
  | .int _, .int _ => true
  | .str _, .str _ => true
  | .tup xs, .tup ys => alikeDs xs ys
  | .flst xs, .flst ys => alikeDs xs ys
  | a, b => nonish a && nonish b
def alikeDs : List D → List D → Bool
  | x :: xs, y :: ys => alikeD x y && alikeDs xs ys
  | [], _ => true
  | _ :: _, [] => true
end
mutual
/-- nothing but data -/
def litD : D → Bool
  | .non => true
  | .bl _ => true
  | .int _ => true
  | .str _ => true
  | .tup xs => litDs xs
  | .flst xs => litDs xs
  | _ => false
def litDs : List D → Bool
  | [] => true
  | x :: xs => litD x && litDs xs
end
def ltD (a b : D) : Bool := PyProof.Rows.lexLt PyProof.Rows.itemOrd (toksD a) (toksD b)
/-- rows that may be compared up to the place where they differ -/
def lexOk : List D → List D → Bool
  | x :: xs, y :: ys => alikeD x y && (!eqD x y || lexOk xs ys)
  | _, _ => true
def rowOk : D → D → Bool
  | .tup (x :: xs), .tup (y :: ys) => lexOk (x :: xs) (y :: ys)
  | _, _ => false
def isI : D → Bool
  | .int _ => true
  | _ => false
def isS : D → Bool
  | .str _ => true
  | _ => false
def okSort (xs : List D) : Bool := xs.all isI || xs.all isS || xs.all fun a => xs.all fun b => rowOk a b
def sortD (xs : List D) : List D := xs.mergeSort fun a b => !ltD b a
/-- the items of a list that may be walked as one -/
def listD (st : Store) : D → Option (List D)
  | .tup _ => none
  | d => itemsD st d
def mulSem (a b : D) (st : Store) : R D := match b with
  | .int n => match a with
    | .str s => if n < 1 then (if -9223372036854775808 ≤ n then .ok (.str []) st else .bad) else if s.length * n.toNat ≤ SZ ∧ n < 9223372036854775808 then .ok (.str (List.replicate n.toNat s).flatten) st else .bad
    | a => match lst1 st a with
      | some xs => if -9223372036854775808 ≤ n ∧ n < 9223372036854775808 ∧ xs.length * n.toNat ≤ SZ then .ok (.loc st.length) (st ++ [.lst (List.replicate n.toNat xs).flatten]) else .bad
      | none => .bad
  | _ => .bad
/-- x in y -/
def inSem (a b : D) (st : Store) : Option Bool := match b with
  | .str z => match a with
    | .str [c] => some (decide (c ∈ z))
    | _ => none
  | b => match pureD st a with
    | some x => match pureD st b with
      | some (.tup ys) => if deepD x ≤ 60 then some (ys.any fun y => eqD y x) else none
      | some (.flst ys) => if deepD x ≤ 60 then some (ys.any fun y => eqD y x) else none
      | _ => none
    | none => none
def toStr (s : List Nat) : Str := ⟨s.toArray⟩
def ofStr (s : Str) : List Nat := s.cps.toList
def flatD : D → Bool
  | .non => true
  | .bl _ => true
  | .int _ => true
  | .str _ => true
  | _ => false
def methSem (m : Mt) (ds : List D) (st : Store) : R D := match m with
  | .join => match ds with
    | [.str sep, d] => match itemsD st d with
      | some xs => match allStr xs with
        | some ys => if (ys.map List.length).sum + ys.length * sep.length ≤ SZ then .ok (.str (TL.joinL sep ys)) st else .bad
        | none => .bad
      | none => .bad
    | _ => .bad
  | .split => match ds with
    | [.str s, .str [c]] => if c < 256 ∧ s.length + 2 ≤ SZ then .ok (.loc st.length) (st ++ [.lst ((TL.spl [c] 0 [] s).map .str)]) else .bad
    | _ => .bad
  | .lower => match ds with
    | [.str s] => if s.length ≤ 5592405 then .ok (.str (ofStr (Txt.lower (toStr s)))) st else .bad
    | _ => .bad
  | .upper => match ds with
    | [.str s] => if s.length ≤ 5592405 then .ok (.str (ofStr (Txt.upper (toStr s)))) st else .bad
    | _ => .bad
  | .endswith => match ds with
    | [.str s, .str t] => .ok (.bl (Txt.endswith (toStr s) (toStr t))) st
    | _ => .bad
  | .startswith => match ds with
    | [.str s, .str t] => .ok (.bl (Txt.startswith (toStr s) (toStr t))) st
    | _ => .bad
  | .isascii => match ds with
    | [.str s] => .ok (.bl (Txt.isascii (toStr s))) st
    | _ => .bad
  | .isdigit => match ds with
    | [.str s] => .ok (.bl (Txt.isdigit (toStr s))) st
    | _ => .bad
  | .append => match ds with
    | [.loc l, d] => match st[l]? with
      | some (.lst xs) => if xs.length < SZ then .ok .non (st.set l (.lst (xs ++ [d]))) else .bad
      | _ => .bad
    | _ => .bad
  | .index => match ds with
    | [d, x] => match listD st d with
      | some xs => if flatD x && xs.all flatD then (match xs.findIdx? fun y => eqD y x with
        | some j => .ok (.int (j : Int)) st
        | none => .bad) else .bad
      | none => .bad
    | _ => .bad
  | .extend => match ds with
    | [.loc l, d] => match st[l]? with
      | some (.lst xs) => match lst1 st d with
        | some ys => if xs.length + ys.length ≤ SZ then .ok .non (st.set l (.lst (xs ++ ys))) else .bad
        | none => .bad
      | _ => .bad
    | _ => .bad
/-- an attribute by its number -/
def atNm : List Nat → List D → Nat → Option D
  | n :: ns, d :: ds, a => if n = a then some d else atNm ns ds a
  | _, _, _ => none
/-- an instance: its class, the names and the values of its attributes -/
def insD (st : Store) : D → Option (Nat × List Nat × List D)
  | .fins c ns ds => some (c, ns, ds)
  | .loc l => match st[l]? with
    | some (.ins c ns ds) => some (c, ns, ds)
    | _ => none
  | _ => none
/-- what may stand beside an instance of c for == -/
def okY (st : Store) (c : Nat) : D → Bool
  | .tup _ => true
  | e => match insD st e with
    | some (j, _, _) => j == c
    | none => false
def negR (neg : Bool) : R D → R D
  | .ok (.bl k) st => .ok (.bl (if neg then !k else k)) st
  | _ => .bad
/-- o.a = d -/
def putN (a : Nat) : List Nat → List Nat
  | [] => [a]
  | n :: r => if n = a then n :: r else n :: putN a r
def putV (a : Nat) (d : D) : List Nat → List D → List D
  | n :: r, x :: xs => if n = a then d :: xs else x :: putV a d r xs
  | _, _ => [d]
def fldSem (a : Nat) (ns : List Nat) (ds : List D) (st : Store) : R D := match atNm ns ds a with
  | some d => .ok d st
  | none => .bad
def op2Sem (o : Op2) (ds : List D) (st : Store) : R D := match o with
  | .inn => match ds with
    | [a, b] => (match inSem a b st with | some k => .ok (.bl k) st | none => .bad)
    | _ => .bad
  | .notin => match ds with
    | [a, b] => (match inSem a b st with | some k => .ok (.bl (!k)) st | none => .bad)
    | _ => .bad
  | .all_ => match ds with
    | [a] => match listD st a with
      | some xs => match allBl xs with
        | some bs => .ok (.bl (bs.all id)) st
        | none => .bad
      | none => .bad
    | _ => .bad
  | .any_ => match ds with
    | [a] => match listD st a with
      | some xs => match allBl xs with
        | some bs => .ok (.bl (bs.any id)) st
        | none => .bad
      | none => .bad
    | _ => .bad
  | .sum_ => match ds with
    | [a] => match listD st a with
      | some xs => match allInt xs with
        | some ns => .ok (.int ns.sum) st
        | none => .bad
      | none => .bad
    | _ => .bad
  | .min2 => match ds with
    | [.int i, .int j] => .ok (.int (if j < i then j else i)) st
    | _ => .bad
  | .max2 => match ds with
    | [.int i, .int j] => .ok (.int (if j > i then j else i)) st
    | _ => .bad
  | .toList => match ds with
    | [a] => match itemsD st a with
      | some xs => .ok (.loc st.length) (st ++ [.lst xs])
      | none => .bad
    | _ => .bad
  | .flit => if ds.length ≤ SZ then .ok (.flst ds) st else .bad
  | .toListF => match ds with
    | [a] => match itemsD st a with
      | some xs => .ok (.flst xs) st
      | none => .bad
    | _ => .bad
  | .asStr => match ds with
    | [.str s] => .ok (.str s) st
    | _ => .bad
  | .asLst => match ds with
    | [.flst xs] => .ok (.flst xs) st
    | [.loc l] => match st[l]? with
      | some (.lst _) => .ok (.loc l) st
      | _ => .bad
    | _ => .bad
  | .meth m => methSem m ds st
  | .place => match ds with
    | [.loc l] => match st[l]? with
      | some (.exn _ p) => .ok p st
      | _ => .bad
    | _ => .bad
  | .ord_ => match ds with
    | [.str [c]] => .ok (.int (c : Int)) st
    | _ => .bad
  | .iadd => match ds with
    | [.int i, .int j] => .ok (.int (i + j)) st
    | _ => .bad
  | .isub => match ds with
    | [.int i, .int j] => .ok (.int (i - j)) st
    | _ => .bad
  | .fld a tab => match ds with
    | [d] => match insD st d with
      | some (c, ns, fs) => if tab.contains c then fldSem a ns fs st else .bad
      | none => .bad
    | _ => .bad
  | .sorted_ => match ds with
    | [a] => match listD st a with
      | some xs => if (litDs xs && okSort xs && decide (deepDs xs ≤ 50)) = true then .ok (.loc st.length) (st ++ [.lst (sortD xs)]) else .bad
      | none => .bad
    | _ => .bad
  | .toStr => match ds with
    | [.int i] => if i.natAbs.log2 < 1920 then .ok (.str (ofStr (toString i : String))) st else .bad
    | _ => .bad
  | .isc c tab => match ds with
    | [d] => match insD st d with
      | some (e, _, _) => if tab.contains e then .ok (.bl (e == c)) st else .bad
      | none => if tab.isEmpty then .bad else match tyD st d with
        | some _ => .ok (.bl false) st
        | none => .bad
    | _ => .bad
  | .isx tab => match ds with
    | [.loc l] => match st[l]? with
      | some (.exn c _) => .ok (.bl (tab.contains c)) st
      | _ => .bad
    | _ => .bad
def opSem (o : Op) (ds : List D) (st : Store) : R D := match o, ds with
  | .add, [a, b] => addSem a b st
  | .sub, [.int i, .int j] => .ok (.int (i - j)) st
  | .mul, [.int i, .int j] => if big64 i || big64 j then .ok (.int (i * j)) st else .bad
  | .mul, [a, b] => mulSem a b st
  | .x o, ds => op2Sem o ds st
  | .mod, [.int i, .int j] => if 0 < j then .ok (.int (i % j)) st else .bad
  | .fdiv, [.int i, .int j] => if 0 < j ∧ j < 4611686018427387904 then .ok (.int (i / j)) st else .bad
  | .pow, [.int i, .int j] => if (0 ≤ j ∧ j ≤ 1000000) ∧ i.natAbs < 2 ^ 64 then .ok (.int (i ^ j.toNat)) st else .bad
  | .neg, [.int i] => .ok (.int (-i)) st
  | .asInt, [.int i] => .ok (.int i) st
  | .eq, [a, b] => (match eqSem a b st with | some k => .ok (.bl k) st | none => .bad)
  | .ne, [a, b] => (match eqSem a b st with | some k => .ok (.bl (!k)) st | none => .bad)
  | .is, [a, .non] => (match a with | .non => .ok (.bl true) st | _ => .ok (.bl false) st)
  | .isnot, [a, .non] => (match a with | .non => .ok (.bl false) st | _ => .ok (.bl true) st)
  | .is, [.bl a, .bl b] => .ok (.bl (a == b)) st
  | .isnot, [.bl a, .bl b] => .ok (.bl (a != b)) st
  | .len, [a] => lenSem a st
  | .ix, [a, .int i] => ixSem a i st
  | .sl true true, [a, .int i, .int j] => slSem a (some i) (some j) st
  | .sl true false, [a, .int i] => slSem a (some i) none st
  | .sl false true, [a, .int j] => slSem a none (some j) st
  | .sl false false, [a] => slSem a none none st
  | .tup, ds => if ds.length ≤ SZ then .ok (.tup ds) st else .bad
  | .lst, ds => if ds.length ≤ SZ then .ok (.loc st.length) (st ++ [.lst ds]) else .bad
  | .toTup, [a] => (match itemsD st a with | some xs => .ok (.tup xs) st | none => .bad)
  | .toInt, [.int i] => .ok (.int i) st
  | .toInt, [.bl b] => .ok (.int (if b then 1 else 0)) st
  | .isin t, [a] => (match tyD st a with | some u => .ok (.bl (isTy u t)) st | none => .bad)
  | .lt, [.int i, .int j] => .ok (.bl (decide (i < j))) st
  | .le, [.int i, .int j] => .ok (.bl (decide (i ≤ j))) st
  | .gt, [.int i, .int j] => .ok (.bl (decide (j < i))) st
  | .ge, [.int i, .int j] => .ok (.bl (decide (j ≤ i))) st
  | _, _ => .bad

/-! ## targets and what is gone over -/
mutual
def setT : Tg → D → Env → Option Env
  | .nm i, d, env => some (env.set i (some d))
  | .tup ts, d, env => match d with
    | .tup xs => setTs ts xs env
    | _ => none
def setTs : List Tg → List D → Env → Option Env
  | [], [], env => some env
  | t :: ts, d :: ds, env => match setT t d env with
    | some env' => setTs ts ds env'
    | none => none
  | _, _, _ => none
end
mutual
def slotsT : Tg → List Nat
  | .nm i => [i]
  | .tup ts => slotsTs ts
def slotsTs : List Tg → List Nat
  | [] => []
  | t :: ts => slotsT t ++ slotsTs ts
end
/-- the items, and what must stand as it stood -/
structure Src where
  items : List D
  same : Store → Bool
def rangeD (lo : Int) (n : Nat) : List D := (List.range n).map fun (i : Nat) => D.int (lo + (i : Int))
def in62 (i : Int) : Bool := decide (-(2 ^ 62) ≤ i) && decide (i < 2 ^ 62)
mutual
def beqD : D → D → Bool
  | .non, .non => true
  | .bl a, .bl b => a == b
  | .int a, .int b => a == b
  | .str a, .str b => a == b
  | .tup a, .tup b => beqDs a b
  | .flst a, .flst b => beqDs a b
  | .slst a, .slst b => beqDs a b
  | .fdct a b, .fdct c d => beqDs a c && beqDs b d
  | .fset a, .fset b => beqDs a b
  | .fins c n a, .fins d m b => c == d && n == m && beqDs a b
  | .fn a, .fn b => a == b
  | .loc a, .loc b => a == b
  | _, _ => false
def beqDs : List D → List D → Bool
  | [], [] => true
  | a :: as, b :: bs => beqD a b && beqDs as bs
  | _, _ => false
end
def lstIs (l : Nat) (xs : List D) (st : Store) : Bool := match st[l]? with
  | some (.lst ys) => beqDs ys xs
  | _ => false
def seqSrc (d : D) (st : Store) : Option Src := match d with
  | .tup xs => some ⟨xs, fun _ => true⟩
  | .flst xs => some ⟨xs, fun _ => true⟩
  | .slst xs => some ⟨xs, fun _ => true⟩
  | .str s => some ⟨s.map fun c => .str [c], fun _ => true⟩
  | .loc l => match st[l]? with
    | some (.lst xs) => some ⟨xs, lstIs l xs⟩
    | _ => none
  | _ => none
def rngSrc (d e : D) : Option Src := match d with
  | .int i => match e with
    | .int j => if in62 i && in62 j then some ⟨rangeD i (j - i).toNat, fun _ => true⟩ else none
    | _ => none
  | _ => none
def rng1Src (d : D) : Option Src := match d with
  | .int j => if in62 j then some ⟨rangeD 0 j.toNat, fun _ => true⟩ else none
  | _ => none
def srcOf (k : Ik) (ds : List D) (st : Store) : Option Src := match k with
  | .seq => match ds with
    | [d] => seqSrc d st
    | _ => none
  | .range1 => match ds with
    | [d] => rng1Src d
    | _ => none
  | .range2 => match ds with
    | [d, e] => rngSrc d e
    | _ => none
def wipeE : List Nat → Env → Env
  | [], env => env
  | v :: vs, env => (wipeE vs env).set v none
def truth (st : Store) (d : D) : Option Bool := match d with
  | .non => some false
  | .bl b => some b
  | .int i => some (i != 0)
  | .str s => if s.length ≤ SZ then some ((s.length : Int) != 0) else none
  | d => (itemsD st d).map fun xs => !xs.isEmpty

/-! ## what an expression made becomes a value -/
mutual
def closedD (n : Nat) : D → Bool
  | .tup xs => closedDs n xs
  | .flst xs => closedDs n xs
  | .slst xs => closedDs n xs
  | .fdct ks vs => closedDs n ks && closedDs n vs
  | .fset ks => closedDs n ks
  | .fins _ _ ds => closedDs n ds
  | .loc l => decide (l < n)
  | _ => true
def closedDs (n : Nat) : List D → Bool
  | [] => true
  | x :: xs => closedD n x && closedDs n xs
end
def closedO (n : Nat) : DO → Bool
  | .lst xs => closedDs n xs
  | .dct _ ks vs => closedDs n ks && closedDs n vs
  | .ins _ _ ds => closedDs n ds
  | .exn _ p => closedD n p
mutual
def sealD (n : Nat) (g : Nat → Option D) : D → Option D
  | .tup xs => (sealDs n g xs).map .tup
  | .flst xs => (sealDs n g xs).map .flst
  | .fins c ns ds => (sealDs n g ds).map (.fins c ns)
  | .loc l => if l < n then some (.loc l) else g l
  | d => if closedD n d then some d else none
def sealDs (n : Nat) (g : Nat → Option D) : List D → Option (List D)
  | [] => some []
  | x :: xs => match sealD n g x, sealDs n g xs with
    | some y, some ys => some (y :: ys)
    | _, _ => none
end
def sealAt (n : Nat) (st : Store) : Nat → Nat → Option D
  | 0, _ => none
  | k + 1, l => match st[l]? with
    | some (.lst xs) => (sealDs n (sealAt n st k) xs).map .flst
    | some (.ins c ns ds) => (sealDs n (sealAt n st k) ds).map (.fins c ns)
    | _ => none
/-- what stood before knows nothing of what is new -/
def OldOk (st st' : Store) : Prop := ∀ l, l < st.length → ∀ o, st'[l]? = some o → st[l]? = some o ∨ closedO st.length o = true
open Classical in
noncomputable def closeR (st : Store) : R D → R D
  | .ok d st' => match sealD st.length (sealAt st.length st' 8) d with
    | some d' => if OldOk st st' then .ok d' (st'.take st.length) else .bad
    | none => .bad
  | .exc c p st' => if OldOk st st' ∧ closedD st.length p = true then .exc c p (st'.take st.length) else .bad
  | .bad => .bad

/-- what a comprehension's turn gives: onto the list at l, then on -/
def compTail (l : Nat) (r : R (Option D)) (next : Store → R D) : R D := match r with
  | .ok (some d) st1 => (match st1[l]? with
    | some (.lst acc) => if acc.length < SZ then next (st1.set l (.lst (acc ++ [d]))) else .bad
    | _ => .bad)
  | .ok none st1 => next st1
  | _ => .bad
/-- the turns of a comprehension: the list so far stands at l -/
def evComp (same : Store → Bool) (l : Nat) (one : D → Store → R (Option D)) : List D → Store → R D
  | [], st => if same st then .ok (.loc l) st else .bad
  | x :: xs, st => if same st then compTail l (one x st) (evComp same l one xs) else .bad
mutual
noncomputable def ev (F : FT) : Ex → Env → Store → R D
  | .v i, env, st => match env[i]? with
    | some (some d) => .ok d st
    | _ => .bad
  | .c d, _, st => .ok d st
  | .op o es, env, st => (evs F es env st).bind fun ds st1 => opSem o ds st1
  | .call f es, env, st => (evs F es env st).bind fun ds st1 => F f ds st1
  | .and a b, env, st => (ev F a env st).bind fun x st1 => match truth st1 x with
    | some true => ev F b env st1
    | some false => .ok x st1
    | none => .bad
  | .or a b, env, st => (ev F a env st).bind fun x st1 => match truth st1 x with
    | some true => .ok x st1
    | some false => ev F b env st1
    | none => .bad
  | .not a, env, st => (ev F a env st).bind fun x st1 => match truth st1 x with
    | some k => .ok (.bl (!k)) st1
    | none => .bad
  | .ifx c a b, env, st => (ev F c env st).bind fun x st1 => match truth st1 x with
    | some true => ev F a env st1
    | some false => ev F b env st1
    | none => .bad
  | .chain o p a b c, env, st => (ev F a env st).bind fun x st1 => (ev F b env st1).bind fun y st2 => (opSem o [x, y] st2).bind fun z st3 => match z with
    | .bl true => (ev F c env st3).bind fun u st4 => opSem p [y, u] st4
    | .bl false => .ok (.bl false) st3
    | _ => .bad
  | .comp own t k src ifs elt, env, st => (evs F src env st).bind fun ds st1 => match srcOf k ds st1 with
    | some S => evComp S.same st1.length (fun x st2 => match setT t x (wipeE own env) with
        | some env' => (evTests F ifs env' st2).bind fun ok st3 => if ok then (ev F elt env' st3).bind fun d st4 => .ok (some d) st4 else .ok none st3
        | none => .bad) S.items (st1 ++ [.lst []])
    | none => .bad
  | .sealE e, env, st => closeR st (ev F e env st)
  | .make c f es, env, st => (evs F es env st).bind fun ds st1 => (F f (.loc st1.length :: ds) (st1 ++ [.ins c [] []])).bind fun d st2 => match d with
    | .non => .ok (.loc st1.length) st2
    | _ => .bad
  | .eqo neg c f a b, env, st => (ev F a env st).bind fun d st1 => (ev F b env st1).bind fun e st2 => match insD st2 d with
    | some (i, _, _) => if (i == c && okY st2 c e) = true then negR neg (F f [d, e] st2) else .bad
    | none => .bad
  | .meth c f m o es, env, st => (ev F o env st).bind fun d st1 => match insD st1 d with
    | some (e, ns, _) => if (e == c && !ns.contains m) = true then (evs F es env st1).bind fun ds st2 => F f (d :: ds) st2 else .bad
    | none => .bad
  | .scall f es, env, st => (evs F es env st).bind fun ds st1 => closeR st1 (F f ds st1)
noncomputable def evs (F : FT) : List Ex → Env → Store → R (List D)
  | [], _, st => .ok [] st
  | e :: es, env, st => (ev F e env st).bind fun d st1 => (evs F es env st1).bind fun ds st2 => .ok (d :: ds) st2
noncomputable def evTests (F : FT) : List Ex → Env → Store → R Bool
  | [], _, st => .ok true st
  | e :: es, env, st => (ev F e env st).bind fun x st1 => match truth st1 x with
    | some true => evTests F es env st1
    | some false => .ok false st1
    | none => .bad
end

def SR.seq (r : SR) (f : Env → Store → SR) : SR := match r with
  | .next env st => f env st
  | r => r
def R.toS {α : Type} (r : R α) (env : Env) (f : α → Store → SR) : SR := match r with
  | .ok a st => f a st
  | .exc c p st => .exc c p env st
  | .bad => .bad
def closedE (n : Nat) (env : Env) : Bool := env.all fun o => match o with | some d => closedD n d | none => true
open Classical in
/-- behind an except suite: its name, its exception and what came after it are gone -/
noncomputable def SR.leave (i : Nat) (st0 : Store) : SR → SR
  | .next env st => if closedE st0.length (env.set i none) = true ∧ OldOk st0 st then .next (env.set i none) (st.take st0.length) else .bad
  | .ret d st => match sealD st0.length (sealAt st0.length st 8) d with
    | some d' => if OldOk st0 st then .ret d' (st.take st0.length) else .bad
    | none => .bad
  | .brk env st => if closedE st0.length (env.set i none) = true ∧ OldOk st0 st then .brk (env.set i none) (st.take st0.length) else .bad
  | .cnt env st => if closedE st0.length (env.set i none) = true ∧ OldOk st0 st then .cnt (env.set i none) (st.take st0.length) else .bad
  | _ => .bad
/-- try: body, except classes of tab as i: suite -/
noncomputable def catchS (tab : List Nat) (i : Nat) (suite : Env → Store → SR) (r : SR) : SR := match r with
  | .exc c p env st => if tab.contains c then (suite (env.set i (some (.loc st.length))) (st ++ [.exn c p])).leave i st else .exc c p env st
  | r => r
/-- while: the turns that are left -/
def WF : Nat := 1000000
def evWhile (test : Env → Store → R D) (body : Env → Store → SR) : Nat → Env → Store → SR
  | 0, _, _ => .bad
  | n + 1, env, st => (test env st).toS env fun x st1 => match truth st1 x with
    | some true => (match body env st1 with
      | .next env' st' => evWhile test body n env' st'
      | .cnt env' st' => evWhile test body n env' st'
      | .brk env' st' => .next env' st'
      | r => r)
    | some false => .next env st1
    | none => .bad
def evFor (same : Store → Bool) (one : D → Env → Store → SR) : List D → Env → Store → SR
  | [], env, st => if same st then .next env st else .bad
  | x :: xs, env, st => if same st then (match one x env st with
    | .next env' st' => evFor same one xs env' st'
    | .cnt env' st' => evFor same one xs env' st'
    | .brk env' st' => .next env' st'
    | r => r) else .bad
mutual
noncomputable def xs (F : FT) : Sx → Env → Store → SR
  | .asg t e, env, st => (ev F e env st).toS env fun d st1 => match setT t d env with
    | some env' => .next env' st1
    | none => .bad
  | .setix o i e, env, st => (ev F e env st).toS env fun d st1 => (ev F o env st1).toS env fun ov st2 => (ev F i env st2).toS env fun iv st3 => match ov, iv with
    | .loc l, .int k => (match st3[l]? with
      | some (.lst ys) => (match ixN ys.length k with
        | some j => .next env (st3.set l (.lst (ys.set j d)))
        | none => .bad)
      | _ => .bad)
    | _, _ => .bad
  | .setfld a tab o e, env, st => (ev F e env st).toS env fun d st1 => (ev F o env st1).toS env fun ov st2 => match ov with
    | .loc l => (match st2[l]? with
      | some (.ins c ns fs) => if (tab.contains c && decide (ns.length < 1000)) = true then .next env (st2.set l (.ins c (putN a ns) (putV a d ns fs))) else .bad
      | _ => .bad)
    | _ => .bad
  | .expr e, env, st => (ev F e env st).toS env fun _ st1 => .next env st1
  | .ret e, env, st => (ev F e env st).toS env fun d st1 => .ret d st1
  | .ite c t f, env, st => (ev F c env st).toS env fun x st1 => match truth st1 x with
    | some true => xss F t env st1
    | some false => xss F f env st1
    | none => .bad
  | .for_ t k src body, env, st => (evs F src env st).toS env fun ds st1 => match srcOf k ds st1 with
    | some S => evFor S.same (fun x env2 st2 => match setT t x env2 with
        | some env' => xss F body env' st2
        | none => .bad) S.items env st1
    | none => .bad
  | .while_ c body, env, st => evWhile (fun env st => ev F c env st) (fun env st => xss F body env st) WF env st
  | .brk, env, st => .brk env st
  | .cnt, env, st => .cnt env st
  | .pass, env, st => .next env st
  | .raise_ c e, env, st => (ev F e env st).toS env fun d st1 => .exc c d env st1
  | .try_ body tab i suite, env, st => catchS tab i (fun env1 st1 => xss F suite env1 st1) (xss F body env st)
noncomputable def xss (F : FT) : List Sx → Env → Store → SR
  | [], env, st => .next env st
  | s :: ss, env, st => (xs F s env st).seq fun env' st' => xss F ss env' st'
end

structure Fd where
  slots : Nat
  params : Nat
  body : List Sx
def SR.fin : SR → R D
  | .next _ st => .ok .non st
  | .ret d st => .ok d st
  | .exc c p _ st => .exc c p st
  | _ => .bad
/-- a call of the f-th def, to the depth k -/
noncomputable def run (P : List Fd) : Nat → FT
  | 0, _, _, _ => .bad
  | k + 1, f, ds, st => match P[f]? with
    | some d => if ds.length = d.params then (xss (run P k) d.body (ds.map some ++ List.replicate (d.slots - d.params) none) st).fin else .bad
    | none => .bad
end Z

set_option autoImplicit false
namespace Z
open PySem L2

structure Fi where
  id : Nat
  np : Nat
  dvs : List D
  hot : Bool := false
  raw : Bool := false
structure Cc where
  N : List Str
  sc : Scope
  raw : Scope
  isDef : Bool
  fn : List (Str × Fi)
  co : List (Str × D)
  blt : List Str
  ex : List (Str × (Nat × List Nat)) := []
  exb : List (Str × List Nat) := []
  hot : Bool := false
  cur : Bool := false
  seals : List Pos := []
  opens : List Pos := []
  cl : List (Str × (Nat × Nat × Nat)) := []
  me : List (Str × (Nat × Nat × Nat)) := []
  fa : List (Nat × Nat) := []
  ic : List (Nat × Nat) := []
  eqs : List (Pos × (Nat × Nat)) := []

def slotOf (N : List Str) (x : Str) : Option Nat := match N.findIdx? (fun y => y == x) with
  | some i => if N[i]? = some x then some i else none
  | none => none
theorem slotOf_get {N : List Str} {x : Str} {i : Nat} (h : slotOf N x = some i) : N[i]? = some x := by
  unfold slotOf at h
  split at h
  · split at h
    · cases h; assumption
    · cases h
  · cases h
def okName (x : Str) : Bool := !(x == ("__debug__" : Str)) && !(x == ("__classdict__" : Str)) && !(x == ("__name__" : Str))
def Cc.vis (c : Cc) (x : Str) : Bool := match c.sc.names.lookup x with
  | some .local => true
  | some .cell => true
  | some .free => true
  | _ => false
def Cc.gl (c : Cc) (x : Str) : Bool := match c.sc.names.lookup x with
  | some .globalImplicit => true
  | _ => false
/-- a name that may be stored -/
def Cc.sto (c : Cc) (x : Str) : Bool := match c.sc.names.lookup x with
  | some .local => true
  | some .cell => c.isDef || (c.raw.names.lookup x == some .cell)
  | _ => false
def Cc.bl (c : Cc) (x : Str) : Bool := c.gl x && c.blt.contains x && okName x
def opBin : Operator → Option Op
  | .Add => some .add
  | .Sub => some .sub
  | .Mult => some .mul
  | .Mod => some .mod
  | .FloorDiv => some .fdiv
  | .Pow => some .pow
  | _ => none
def opCmp : CmpOp → Option Op
  | .Eq => some .eq
  | .NotEq => some .ne
  | .Lt => some .lt
  | .LtE => some .le
  | .Gt => some .gt
  | .GtE => some .ge
  | .Is => some .is
  | .IsNot => some .isnot
  | .In => some (.x .inn)
  | .NotIn => some (.x .notin)
def ordCmp : CmpOp → Bool
  | .Lt => true
  | .LtE => true
  | .Gt => true
  | .GtE => true
  | _ => false
/-- a method of a built-in type, by its name and the number of its arguments -/
def mtOf (x : Str) (n : Nat) : Option Mt :=
  if x == ("join" : Str) && n == 1 then some .join
  else if x == ("split" : Str) && n == 1 then some .split
  else if x == ("lower" : Str) && n == 0 then some .lower
  else if x == ("upper" : Str) && n == 0 then some .upper
  else if x == ("endswith" : Str) && n == 1 then some .endswith
  else if x == ("startswith" : Str) && n == 1 then some .startswith
  else if x == ("isascii" : Str) && n == 0 then some .isascii
  else if x == ("isdigit" : Str) && n == 0 then some .isdigit
  else if x == ("append" : Str) && n == 1 then some .append
  else if x == ("extend" : Str) && n == 1 then some .extend
  else if x == ("index" : Str) && n == 1 then some .index
  else none
def mtL : Mt → Bool
  | .append => true
  | .extend => true
  | .index => true
  | _ => false
def noSuper : Expr → Bool
  | .Call (.Name x _) _ _ _ => x != ("super" : Str)
  | _ => true
def constD : Const → Option D
  | .none => some .non
  | .bool b => some (.bl b)
  | .int i => some (.int i)
  | .str s => some (.str s.cps.toList)
  | _ => none
def tyOf (x : Str) : Option Ty :=
  if x == ("int" : Str) then some .int
  else if x == ("bool" : Str) then some .bool
  else if x == ("str" : Str) then some .str
  else if x == ("list" : Str) then some .list
  else if x == ("tuple" : Str) then some .tuple
  else none
def bltOp2 (x : Str) (n : Nat) : Option Op :=
  if x == ("str" : Str) && n == 1 then some (.x .toStr)
  else if x == ("sorted" : Str) && n == 1 then some (.x .sorted_)
  else none
/-- a built-in call by name -/
def bltOp (x : Str) (n : Nat) (fr : Bool) : Option Op :=
  if x == ("len" : Str) && n == 1 then some .len
  else if x == ("tuple" : Str) && n == 1 then some .toTup
  else if x == ("int" : Str) && n == 1 then some .toInt
  else if x == ("list" : Str) && n == 1 then some (.x (if fr then .toListF else .toList))
  else if x == ("all" : Str) && n == 1 then some (.x .all_)
  else if x == ("any" : Str) && n == 1 then some (.x .any_)
  else if x == ("sum" : Str) && n == 1 then some (.x .sum_)
  else if x == ("min" : Str) && n == 2 then some (.x .min2)
  else if x == ("max" : Str) && n == 2 then some (.x .max2)
  else if x == ("ord" : Str) && n == 1 then some (.x .ord_)
  else bltOp2 x n
/-- needs that no exception is handled -/
def calmOp : Op → Bool
  | .x .all_ => true
  | .x .any_ => true
  | .x .sum_ => true
  | .x .min2 => true
  | .x .max2 => true
  | _ => false
/-- an attribute's number -/
def attrOf (x : Str) : Option Nat := match attrNm.findIdx? (fun y => y == x) with
  | some i => if attrNm[i]? = some x then some i else none
  | none => none
/-- the classes whose instances may have it -/
def Cc.tab (c : Cc) (a : Nat) : List Nat := (c.fa.filter fun p => p.2 == a).map (·.1)
/-- the classes whose instances are told from those of c -/
def Cc.ict (cc : Cc) (c : Nat) : List Nat := (cc.ic.filter fun p => p.2 == c).map (·.1)
/-- not starred, no slice -/
def plain : Expr → Bool
  | .Starred _ _ => false
  | .Slice _ _ _ _ => false
  | .Set _ _ _ => false
  | _ => true
/-- nothing that is stored within the comprehension's frame -/
def noComp : Expr → Bool
  | .ListComp _ _ _ _ => false
  | .SetComp _ _ _ _ => false
  | .DictComp _ _ _ _ _ => false
  | _ => true
def isTup : Expr → Bool
  | .Tuple _ _ _ => true
  | .List _ _ => true
  | _ => false
/-- an assignment in its plain form -/
def asgOk (sc : Scope) (t e : Expr) : Bool := match t with
  | .Name x p => noComp e || (match e with
    | .ListComp _ _ s _ => (sc.names.lookup x == some .local) && (p.line == e.pos.line) && !(s.names.any fun (n, k) => n == x && (k == .local || k == .cell))
    | _ => false)
  | .Tuple _ _ _ => noComp e && !isTup e
  | _ => false
def ownOf (N : List Str) : List (Str × NameKind) → List (Str × Nat)
  | [] => []
  | (x, k) :: r => match k with
    | .local => (match slotOf N x with | some i => (x, i) :: ownOf N r | none => ownOf N r)
    | .cell => (match slotOf N x with | some i => (x, i) :: ownOf N r | none => ownOf N r)
    | _ => ownOf N r
def Cc.blk (c : Cc) (scope : Scope) : Cc := { c with sc := relS scope c.sc, raw := scope, isDef := false, hot := false, cur := false }
mutual
def trTg (c : Cc) : Nat → Expr → Option Tg
  | 0, _ => none
  | n + 1, e => match e with
    | .Name x _ => if c.sto x && okName x then (slotOf c.N x).map .nm else none
    | .Tuple es _ _ => if !c.hot && es.all plain then (trTgs c n es).map .tup else none
    | _ => none
def trTgs (c : Cc) : Nat → List Expr → Option (List Tg)
  | 0, _ => none
  | n + 1, es => match es with
    | [] => some []
    | e :: r => match trTg c n e, trTgs c n r with
      | some a, some b => some (a :: b)
      | _, _ => none
end
def isV : Ex → Bool
  | .v _ => true
  | _ => false
def mkCall (raw : Bool) (f : Nat) (es : List Ex) : Ex := if raw then .call f es else .scall f es
mutual
def trE : Nat → Cc → Expr → Option Ex
  | 0, _, _ => none
  | n + 1, c, e => if c.seals.contains e.pos then (trE1 n c e).map .sealE else trE1 n c e
def trE1 : Nat → Cc → Expr → Option Ex
  | 0, _, _ => none
  | n + 1, c, e => match e with
    | .Name x _ => if okName x then (if c.vis x then (slotOf c.N x).map .v else if c.gl x then (c.co.lookup x).map .c else none) else none
    | .Constant k _ _ => (constD k).map .c
    | .BinOp a op b _ => match opBin op, trE n c a, trE n c b with
      | some o, some ma, some mb => some (.op o [ma, mb])
      | _, _, _ => none
    | .UnaryOp op a _ => match op, trE n c a with
      | .USub, some ma => some (.op .neg [ma])
      | .Not, some ma => some (.not ma)
      | _, _ => none
    | .BoolOp op vs pos => match vs with
      | [] => none
      | [a] => trE n c a
      | a :: b :: r => match op, trE n c a, trE n c (.BoolOp op (b :: r) pos) with
        | .And, some ma, some mb => some (.and ma mb)
        | .Or, some ma, some mb => some (.or ma mb)
        | _, _, _ => none
    | .Compare a ops bs pos => match ops, bs with
      | [op], [b] => (match c.eqs.lookup pos with
        | some q => (match op, trE n c a, trE n c b with
          | .Eq, some ma, some mb => if !c.hot then some (.eqo false q.1 q.2 ma mb) else none
          | .NotEq, some ma, some mb => if !c.hot then some (.eqo true q.1 q.2 ma mb) else none
          | _, _, _ => none)
        | none => match opCmp op, trE n c a, trE n c b with
          | some o, some ma, some mb => some (.op o [ma, mb])
          | _, _, _ => none)
      | [op, op'], [b, d] => if ordCmp op && ordCmp op' then (match opCmp op, opCmp op', trE n c a, trE n c b, trE n c d with
        | some o, some p, some ma, some mb, some md => some (.chain o p ma mb md)
        | _, _, _, _, _ => none) else none
      | _, _ => none
    | .IfExp t a b _ => match trE n c t, trE n c a, trE n c b with
      | some mt, some ma, some mb => some (.ifx mt ma mb)
      | _, _, _ => none
    | .Call f args kws pos => match f, kws with
      | .Name x _, [] => if okName x && c.gl x && args.all plain then (match c.fn.lookup x with
        | some fi => (match args, trEs n c args with
          | _ :: _, some ms => if (args.length ≤ fi.np ∧ fi.np ≤ args.length + fi.dvs.length) ∧ (!c.hot || (fi.hot && fi.dvs.isEmpty)) = true then some (mkCall fi.raw fi.id (ms ++ (fi.dvs.drop (args.length + fi.dvs.length - fi.np)).map .c)) else none
          | _, _ => none)
        | none => if c.blt.contains x then (if x == ("isinstance" : Str) then (match args with
            | [a, .Name y _] => if okName y && c.gl y then (match c.cl.lookup y with
            | some q => if !c.hot then (trE n c a).map fun ma => .op (.x (.isc q.1 (c.ict q.1))) [ma] else none
            | none => match c.blt.contains y with
              | true => (match tyOf y, trE n c a with
                | some t, some ma => some (.op (.isin t) [ma])
                | none, some ma => if c.hot || isV ma then (c.exb.lookup y).map fun tab => .op (.x (.isx tab)) [ma] else none
                | _, _ => none)
              | false => (match c.ex.lookup y, trE n c a with
                | some q, some ma => if c.hot || isV ma then some (.op (.x (.isx q.2)) [ma]) else none
                | _, _ => none)) else none
            | _ => none)
          else (match bltOp x args.length (!c.opens.contains pos), trEs n c args with
            | some o, some ms => if !c.hot || !calmOp o then some (.op o ms) else none
            | _, _ => none)) else (match c.cl.lookup x with
          | some q => (match args, trEs n c args with
            | _ :: _, some ms => if !c.hot && (args.length + 1 == q.2.2) then some (.make q.1 q.2.1 ms) else none
            | _, _ => none)
          | none => none)) else none
      | .Attribute o x ap, [] => if (c.me.lookup x).isSome then (match c.me.lookup x, attrOf x, trE n c o, trEs n c args with
        | some q, some a, some mo, some ms => if !c.hot && (args.all plain && noSuper o && (ap.endLine == pos.line) && decide (args.length < 30) && (args.length + 1 == q.2.2)) then some (.meth q.1 q.2.1 a mo ms) else none
        | _, _, _, _ => none) else if noSuper o && (ap.endLine == pos.line) && args.all plain && decide (args.length < 30) then (match mtOf x args.length, trE n c o, trEs n c args with
        | some m, some mo, some ms => some (.op (.x (.meth m)) (.op (.x (if mtL m then .asLst else .asStr)) [mo] :: ms))
        | _, _, _ => none) else none
      | _, _ => none
    | .Subscript a i _ => match i with
      | .Slice lo hi st _ => match st, lo, hi with
        | none, none, none => (trE n c a).map fun ma => .op (.sl false false) [ma]
        | none, some l, none => match trE n c a, trE n c l with
          | some ma, some ml => some (.op (.sl true false) [ma, ml])
          | _, _ => none
        | none, none, some h => match trE n c a, trE n c h with
          | some ma, some mh => some (.op (.sl false true) [ma, mh])
          | _, _ => none
        | none, some l, some h => match trE n c a, trE n c l, trE n c h with
          | some ma, some ml, some mh => some (.op (.sl true true) [ma, .op .asInt [ml], mh])
          | _, _, _ => none
        | _, _, _ => none
      | i => if plain i then (match trE n c a, trE n c i with
        | some ma, some mi => some (.op .ix [ma, mi])
        | _, _ => none) else none
    | .Tuple es _ _ => if es.all plain then (trEs n c es).map (.op .tup) else none
    | .List es pos => if es.all plain then (trEs n c es).map (.op (if c.opens.contains pos then .lst else .x .flit)) else none
    | .ListComp elt gs scope _ => match gs with
      | [⟨t, iter, ifs, 0⟩] => if !c.hot && (blkC c.N c.sc scope (ownOf c.N scope.names) && plain iter) then
          (match trTg (c.blk scope) n t, trIt n c iter, trEs n (c.blk scope) ifs, trE n (c.blk scope) elt with
          | some mt, some (k, src), some mi, some me => if (slotsT mt).all (((ownOf c.N scope.names).map (·.2)).contains ·) && decide (mi.length ≤ 1) then some (.comp ((ownOf c.N scope.names).map (·.2)) mt k src mi me) else none
          | _, _, _, _ => none) else none
      | _ => none
    | .Attribute o x _ => if c.cur && (x == ("place" : Str)) && noSuper o then (trE n c o).map fun m => .op (.x .place) [m] else (match attrOf x, trE n c o with
      | some a, some m => if noSuper o then some (.op (.x (.fld a (c.tab a))) [m]) else none
      | _, _ => none)
    | _ => none
def trEs : Nat → Cc → List Expr → Option (List Ex)
  | 0, _, _ => none
  | n + 1, c, es => match es with
    | [] => some []
    | e :: r => match trE n c e, trEs n c r with
      | some a, some b => some (a :: b)
      | _, _ => none
/-- what a for goes over -/
def trIt : Nat → Cc → Expr → Option (Ik × List Ex)
  | 0, _, _ => none
  | n + 1, c, e => match e with
    | .Call (.Name x p) args [] pos => if x == ("range" : Str) then (if c.bl x && args.all plain then (match args with
        | [a] => (trE n c a).map fun m => (.range1, [m])
        | [a, b] => (match trE n c a, trE n c b with | some ma, some mb => some (.range2, [ma, mb]) | _, _ => none)
        | _ => none) else none) else (trE n c (.Call (.Name x p) args [] pos)).map fun m => (.seq, [m])
    | e => (trE n c e).map fun m => (.seq, [m])
end
mutual
def trS : Nat → Cc → Stmt → Option Sx
  | 0, _, _ => none
  | n + 1, c, s => match s with
    | .Assign ts e _ => match ts with
      | [.Subscript o i _] => if plain i && noComp e && plain e then (match trE n c o, trE n c i, trE n c e with
        | some mo, some mi, some me => some (.setix mo mi me)
        | _, _, _ => none) else none
      | [.Attribute o x _] => if noComp e && plain e then (match attrOf x, trE n c o, trE n c e with
        | some a, some mo, some me => some (.setfld a (c.tab a) mo me)
        | _, _, _ => none) else none
      | [t] => match trTg c n t, trE n c e with
        | some mt, some me => if plain e && asgOk c.sc t e then some (.asg mt me) else none
        | _, _ => none
      | _ => none
    | .Expr e _ => match e with
      | .Constant (.str _) _ _ => some .pass
      | e => if noComp e then (trE n c e).map .expr else none
    | .Return (some e) _ => (trE n c e).map .ret
    | .Return none _ => some (.ret (.c .non))
    | .If t a b _ => match trE n c t, trSs n c a, trSs n c b with
      | some mt, some ma, some mb => some (.ite mt ma mb)
      | _, _, _ => none
    | .For t iter body orelse _ => match orelse with
      | [] => if !c.hot && plain iter then (match trTg c n t, trIt n c iter, trSs n c body with
        | some mt, some (k, src), some mb => some (.for_ mt k src mb)
        | _, _, _ => none) else none
      | _ => none
    | .While t body orelse _ => match orelse with
      | [] => if !c.hot then (match trE n c t, trSs n c body with
        | some mt, some mb => some (.while_ mt mb)
        | _, _ => none) else none
      | _ => none
    | .AugAssign t op e _ => match t with
      | .Name x _ => if c.sto x && okName x && noComp e && plain e then (match op, slotOf c.N x, trE n c e with
        | .Add, some i, some m => some (.asg (.nm i) (.op (.x .iadd) [.v i, m]))
        | .Sub, some i, some m => some (.asg (.nm i) (.op (.x .isub) [.v i, m]))
        | _, _, _ => none) else none
      | _ => none
    | .Break _ => some .brk
    | .Continue _ => some .cnt
    | .Pass _ => some .pass
    | .Raise r none _ => match r with
      | some (.Call (.Name x _) [e] [] _) => if !c.hot && (okName x && c.gl x && plain e) then (match c.ex.lookup x, trE n c e with
        | some q, some m => some (.raise_ q.1 m)
        | _, _ => none) else none
      | _ => none
    | .Try body hs [] [] _ => match hs with
      | [.ExceptHandler (some (.Name x _)) (some nm) (b0 :: suite) _] => if (!c.hot && !c.cur && c.isDef) && (okName x && c.gl x && (c.sc.names.lookup nm == some .local)) then (match c.ex.lookup x, slotOf c.N nm, trSs n c body, trSs n { c with hot := true, cur := true } (b0 :: suite) with
        | some q, some i, some mb, some ms => some (.try_ mb q.2 i ms)
        | _, _, _, _ => none) else none
      | _ => none
    | _ => none
def trSs : Nat → Cc → List Stmt → Option (List Sx)
  | 0, _, _ => none
  | n + 1, c, ss => match ss with
    | [] => some []
    | s :: r => match trS n c s, trSs n c r with
      | some a, some b => some (a :: b)
      | _, _ => none
end
end Z

set_option autoImplicit false
namespace Z
open PySem PySem.Spec PyProof.Rows L2

/-! ## a def that is called while the one exception at p is handled -/
abbrev CXN (prog : Program) (w : World) : CXT := L2N.CX prog w
structure CurP (cls : List Addr) (p : Addr × Obj) (cu : Cur) : Prop where
  ad : cu.a = p.1
  cl : ∃ C, cls[cu.c]? = some C ∧ Zc (.ref C) (some cu.dd) p.2
  fs : ∃ vs, p.2.data = .fields vs
structure FnHp (p : Addr × Obj) (prog : Program) (w : World) (K : PySem.W.Frag) (mg : Str → Option Value) (base : Heap) (k : Nat) (f : Addr) (fd : FuncData) (ps : List Str) (sp : Sp) : Prop where
  len : ∀ vs H Q E, sp vs H Q E → vs.length = ps.length
  run : ∀ (A : Around) (outer : List PySem.Env) (s : Shared) (H : Hp) (as : Args) (us : List Value) (vs : List V) (Q : VK) (E : XK),
    L2H.RoomH k A → L2H.Hot1 A p → L2H.PinOk outer H s p → Env0 prog w K mg base A outer s H → BindsTo s fd as (ps.zip us) → Vals vs us → sp vs H Q E →
      codeAny (model prog w) A (.call (.ref f) as) (CR (CXN prog w) outer prog w H s Q E) s
section
variable {prog : Program} {w : World} {K : PySem.W.Frag} {mg : Str → Option Value} {base : Heap} {p : Addr × Obj}
theorem fnHp_of {x qual : Str} {st : Stmt} {f : Addr} {fd : FuncData} {N ps : List Str} {k : Nat} {sp : Sp} (F : Fun K x qual st f fd) (S : FnScope N ps (defScope st)) (len : ∀ vs H Q E, sp vs H Q E → vs.length = ps.length)
    (body : ∀ (cdv : Value) (A : Around) (outer : List PySem.Env) (s : Shared) (H : Hp) (vs : List V) (Q : VK) (E : XK), L2H.Hot1 A p → L2H.RoomH k (A.deeper (envOfC qual (defScope st) s.heap.objs.size f cdv)) → sp vs H Q E →
      ∃ t, PSs (L2H.cxH (CXN prog w) prog w K mg base N qual (defScope st) f cdv A outer s H E p) (defBody st) t ∧ t { nx := fun _ H' => Q .non H', rt := Q } (L2.start N vs) H) : FnHp p prog w K mg base (k + 1) f fd ps sp := by
  obtain ⟨oc, od, kV, doc, pm, an, cd, ct, osl, rfl, lk, hc⟩ := F.ex
  constructor
  · exact len
  intro A outer s H as us vs Q E room hot pin e0 bd rel hsp
  have nvs := len _ _ _ _ hsp
  have inK : K.In s.heap := e0.mod.kin.keeps (fun b o q => (e0.bs b o q).1)
  have noLim : s.heap.NoLimit := e0.mod.nolimit.keeps (fun b o q => (e0.bs b o q).1)
  have kinds : ∀ z, z ∈ ps.zip us → (defScope st).names.lookup z.1 = some .local ∨ ((defScope st).names.lookup z.1 = some .cell ∧
      ((cellsFrom (s.heap.objs.size + 1) (defScope st).names []).lookup z.1).isSome = true) := by
    intro z hz
    have hz1 : z.1 ∈ ps := (List.of_mem_zip (a := z.1) (b := z.2) hz).1
    exact (S.par z.1 hz1).imp id fun q => ⟨q, PySem.W.cellsFrom_some _ _ _ (.inl q)⟩
  refine codeAny_call_function room.depth (inK _ _ lk) rfl S.co S.gen rfl (PySem.W.codeRec_of inK hc) (bd _ _ _ _ ?_)
  refine wpAny_newFunctionEnv_cells S.kind kinds ?_
  rintro env rfl s1 x
  refine ⟨noLim.keeps x.toInCall.keep, codeAny_func ?_⟩
  obtain ⟨t, ht, hq⟩ := body cd A outer s H vs Q E hot (room.deeper _) hsp
  have I0 := L2H.inv_startH (CX := CXN prog w) (E := E) S pin e0 nvs rel x
  refine wpAny_mono (ht.run [] s1 _ H _ I0 hq) ?_ fun e s' hs => hs
  intro fl s' hs
  match fl, hs with
  | .ret u, ⟨v, _, H', J, rv, q⟩ => exact ⟨v, H', J.os, J.bare, J.base, J.hok, rv, q⟩
  | .next, ⟨_, H', J, q⟩ => exact ⟨.non, H', J.os, J.bare, J.base, J.hok, rfl, q⟩
  | .brk, ⟨_, _, _, q⟩ => exact q.elim
  | .cont, ⟨_, _, _, q⟩ => exact q.elim
end
section
variable {X : Cx} {p : Addr × Obj} {k : Nat} {f : Addr} {fd : FuncData} {ps : List Str} {sp : Sp} {E : L2.St → XK}
theorem pe_callHp {x : Str} {px pos : Pos} {e : Expr} {es : List Expr} {t : TA} (F : FnHp p X.prog X.w X.K X.mg X.base k f fd ps sp) (room : L2H.RoomH k X.A) (hot : L2H.Hot1 X.A p) (hp : p ∈ X.pn) (hg : Gl X x) (hm : X.mg x = some (.ref f)) (hk : PySem.W.keepIn X.K (.ref f) = true)
    (hb : Binds X.K fd ps []) (hx : ∀ σ, PassesAt (CXN X.prog X.w) X σ (E σ)) (ha : PA X (e :: es) t) (hdb : (x == ("__debug__" : Str)) = false) (he : starEach (e :: es) X.env = (false, eval e X.env) :: starEach es X.env)
    (hpl : (backTo pos (starEach es X.env)).any (·.1) = false) : PE X (.Call (.Name x px) (e :: es) [] pos) (tCallS sp E t) := by
  constructor
  intro pins s σ H Q I h
  refine wpAny_Call_Name_kw (ld_glob I hg hm ?_ hdb)
  refine PySem.W.callWith_K (h₀ := X.base) I.ok.mod.kin hk (thn (ha.run pos pins s σ H _ I h) ?_) he hpl
  rintro us s1 ⟨vs, H1, I1, r, q⟩
  refine ⟨I1.kIn, ?_⟩
  have nus : us.length = ps.length := r.length.symm.trans (F.len _ _ _ _ q)
  have bd := hb s1 us I1.kIn (by rw [List.append_nil]; exact nus)
  rw [List.append_nil] at bd
  obtain ⟨g1, g2, g3, g4, g5⟩ := I1.pin p (List.mem_append_left _ hp)
  have pin : L2H.PinOk X.stack H1 s1 p := ⟨g1, g2, fun z => by
    rcases List.mem_cons.mp (I1.stkSub p.1 z) with z | z
    · exact g3 z
    · exact g4 z, g5⟩
  refine wpAny_call (codeAny_mono (F.run X.A X.stack s1 H1 ⟨us, []⟩ us vs Q (E σ) room hot pin I1.env0 bd r q) ?_)
  intro r s' hq
  match r, hq with
  | .error er, hq => exact hx σ pins H1 s1 er s' I1 hq
  | .ok (.ret u), hq => exact I1.after hq
  | .ok .next, hq => exact False.elim hq
  | .ok .brk, hq => exact False.elim hq
  | .ok .cont, hq => exact False.elim hq
end
end Z

set_option autoImplicit false
namespace Z
open PySem PySem.Spec PyProof.Rows L2

/-! ## readings of the machine's steps -/
def XRel (G : GC) (K : PySem.W.Frag) (ρ : Tk) (H : Hp) (c : Nat) (p : D) (cls : Value) (d : Option Addr) : Prop :=
  ∃ C dd v, G.cls[c]? = some C ∧ cls = .ref C ∧ d = some dd ∧ H dd = some (.xd [(("place" : Str), v)]) ∧ Rv K ρ H p v
section
variable (G : GC) (K : PySem.W.Frag)
/-- a result from ρ, H on: what is wanted of a value, W' of an exception -/
def Lf (W' : Value → Option Addr → Hp → Prop) (ρ : Tk) (H : Hp) {α : Type} (r : R α) (P : α → Store → Tk → Hp → Prop) : Prop := match r with
  | .ok a st' => ∀ ρ' H', Ext K ρ ρ' H H' → Rs G K ρ' st' H' → P a st' ρ' H'
  | .exc c p st' => ∀ ρ' H' cls dd, Ext K ρ ρ' H H' → Rs G K ρ' st' H' → XRel G K ρ' H' c p cls dd → W' cls dd H'
  | .bad => False
def tE (W : WX) (r : Env → Store → R D) : TE := fun σ H Q => ∃ ρ env st, Rel G K ρ env st σ H ∧ Lf G K (fun c d H' => W c d σ H') ρ H (r env st) fun d _ ρ' H' => ∀ v, Rv K ρ' H' d v → Q v H'
def tT (W : WX) (r : Env → Store → R D) : TT := fun σ H Q => ∃ ρ env st, Rel G K ρ env st σ H ∧ Lf G K (fun c d H' => W c d σ H') ρ H (r env st) fun d st' ρ' H' => ∃ k, truth st' d = some k ∧ Q k H'
def tA (W : WX) (r : Env → Store → R (List D)) : TA := fun σ H Q => ∃ ρ env st, Rel G K ρ env st σ H ∧ Lf G K (fun c d H' => W c d σ H') ρ H (r env st) fun ds _ ρ' H' => ∀ vs, Rvs K ρ' H' ds vs → Q vs H'
end
section
variable {G : GC} {K : PySem.W.Frag} {W' : Value → Option Addr → Hp → Prop} {ρ : Tk} {H : Hp} {α β : Type}
theorem Lf.imp {r : R α} {P P' : α → Store → Tk → Hp → Prop} (h : Lf G K W' ρ H r P) (f : ∀ a st' ρ' H', Ext K ρ ρ' H H' → Rs G K ρ' st' H' → P a st' ρ' H' → P' a st' ρ' H') : Lf G K W' ρ H r P' := by
  cases r with
  | ok a st => exact fun ρ' H' e s => f _ _ _ _ e s (h ρ' H' e s)
  | exc c p st => exact h
  | bad => exact h
theorem Lf.bind {r : R α} {f : α → Store → R β} {P : β → Store → Tk → Hp → Prop} (h : Lf G K W' ρ H (r.bind f) P) :
    Lf G K W' ρ H r fun a st' ρ' H' => Lf G K W' ρ' H' (f a st') P := by
  cases r with
  | ok a st =>
    intro ρ' H' e s
    have h : Lf G K W' ρ H (f a st) P := h
    cases hf : f a st with
    | ok b st2 =>
      rw [hf] at h
      exact fun ρ2 H2 e2 s2 => h ρ2 H2 (e.trans e2) s2
    | exc c p st2 =>
      rw [hf] at h
      exact fun ρ2 H2 cls dd e2 s2 x => h ρ2 H2 cls dd (e.trans e2) s2 x
    | bad =>
      rw [hf] at h
      exact h
  | exc c p st => exact h
  | bad => exact h
theorem Lf.ext {ρ' : Tk} {H' : Hp} {r : R α} {P : α → Store → Tk → Hp → Prop} (e : Ext K ρ ρ' H H') (h : Lf G K W' ρ H r P) : Lf G K W' ρ' H' r P := by
  cases r with
  | ok a st => exact fun ρ2 H2 e2 s2 => h ρ2 H2 (e.trans e2) s2
  | exc c p st => exact fun ρ2 H2 cls dd e2 s2 x => h ρ2 H2 cls dd (e.trans e2) s2 x
  | bad => exact h
theorem Lf.ok {a : α} {st : Store} {P : α → Store → Tk → Hp → Prop} (h : Lf G K W' ρ H (R.ok a st) P) (s : Rs G K ρ st H) : P a st ρ H := h ρ H Ext.refl s
end
theorem PE.imp {X : Cx} {e : Expr} {t t' : TE} (h : PE X e t) (f : ∀ σ H Q, t' σ H Q → t σ H Q) : PE X e t' := ⟨fun pins s σ H Q I q => h.run pins s σ H Q I (f σ H Q q)⟩
theorem PT.imp {X : Cx} {e : Expr} {t t' : TT} (h : PT X e t) (f : ∀ σ H Q, t' σ H Q → t σ H Q) : PT X e t' := ⟨fun pins s σ H Q I q => h.run pins s σ H Q I (f σ H Q q)⟩
theorem PA.imp {X : Cx} {e : List Expr} {t t' : TA} (h : PA X e t) (f : ∀ σ H Q, t' σ H Q → t σ H Q) : PA X e t' := ⟨fun pos pins s σ H Q I q => h.run pos pins s σ H Q I (f σ H Q q)⟩
theorem PS.imp {X : Cx} {e : Stmt} {t t' : TS} (h : PS X e t) (f : ∀ D σ H, t' D σ H → t D σ H) : PS X e t' := ⟨fun pins s σ H D I q => h.run pins s σ H D I (f D σ H q)⟩
theorem PSs.imp {X : Cx} {e : List Stmt} {t t' : TS} (h : PSs X e t) (f : ∀ D σ H, t' D σ H → t D σ H) : PSs X e t' := ⟨fun pins s σ H D I q => h.run pins s σ H D I (f D σ H q)⟩

/-! ## the context -/
/-- a def's promise: the machine's own run -/
def spF (G : GC) (K : PySem.W.Frag) (P : List Fd) (k f : Nat) : Sp := fun vs H Q E => ∃ ρ st ds, Rs G K ρ st H ∧ Rvs K ρ H ds vs ∧ Lf G K (fun c d H' => E c d H') ρ H (run P k f ds st) fun d _ ρ' H' => ∀ v, Rv K ρ' H' d v → Q v H'
/-- a constant's value, known to the written part -/
def CVal (K : PySem.W.Frag) (d : D) (u : Value) : Prop := ∃ v, RelV v u ∧ ∀ ρ H, Rv K ρ H d v
/-- what the written part says of an exception class with an attribute place -/
structure ClsOk (K : PySem.W.Frag) (C : Addr) : Prop where
  oex : OexC K C
  xf : XfC K C
  is_ : ExcC K C
  noP : PySem.W.findIn K (.ref C) "place" = some none
/-- its __init__ -/
def spI (K : PySem.W.Frag) : Sp := fun vs H Q _ => ∃ (a C : Addr) (y : V), vs = [.ref a, y] ∧ H a = some (exo a C none) ∧ OexC K C ∧ PySem.W.findIn K (.ref C) "place" = some none ∧
  ∀ dx, H dx = none → dx ≠ a → Q .non (upd (upd H dx (exd dx [(("place" : Str), y)])) a (exo a C (some dx)))
def tyName : Ty → String
  | .bool => "bool"
  | .int => "int"
  | .str => "str"
  | .list => "list"
  | .tuple => "tuple"
/-- what the written part says of the type of an instance -/
structure InsTy (K : PySem.W.Frag) (C : Addr) : Prop where
  cl : Cls K C
  ha : PySem.W.findIn K (.ref C) "__class__" = some (some (.builtin "object.__class__"))
  hn : PySem.W.specialIn K (.builtin "object.__class__") "__get__" = some (some (.builtin "getset_descriptor.__get__"))
  tk : PySem.W.takesIn K (.builtin "object.__class__") = some true
  hm : PySem.W.mroIn K C (.type "object") = some true
structure XG (G : GC) (P : List Fd) (k : Nat) (X : Cx) (c : Cc) : Prop where
  N : X.N = c.N
  nd : X.N.Nodup
  sc : X.env.scope = c.sc
  calm : c.hot = false → X.calm = true
  fn : (c.isDef = true ∧ ∀ x, X.fn x = true) ∨ (c.isDef = false ∧ ∀ x, X.fn x = (c.raw.names.lookup x == some .cell))
  room : c.hot = false → Room (2 * k + 3) X.A
  roomH : L2H.RoomH (2 * k + 3) X.A
  po : PassesOwn (model X.prog X.w) X.A X.env X.xe
  top : c.isDef = true → X.stack = X.env :: X.outer ∧ X.env.frame = some X.env.locals
  nocur : c.hot = false → G.cur = none
  hotc : c.hot = true → ∃ p cu, L2H.Hot1 X.A p ∧ p ∈ X.pn ∧ G.cur = some cu ∧ CurP G.cls p cu
  curx : c.cur = true → ∃ X0 oe pn cu C, X = Cx.suite X0 cu.a ((cu.a, oe) :: pn) ∧ G.cur = some cu ∧ G.cls[cu.c]? = some C ∧ Zc (.ref C) (some cu.dd) oe ∧ ∃ vs, oe.data = .fields vs
  blt : ∀ x, c.blt.contains x = true → X.mg x = none
  fns : ∀ x fi, c.fn.lookup x = some fi → ∃ a fd ps, X.mg x = some (.ref a) ∧ PySem.W.keepIn X.K (.ref a) = true ∧ ps.length = fi.np ∧
    (∀ n, ∃ vs ds, (∀ ρ H, Rvs X.K ρ H (fi.dvs.drop n) vs) ∧ Vals vs ds ∧ Binds X.K fd ps ds) ∧
    FnOk X.prog X.w X.K X.mg X.base (CXN X.prog X.w) (2 * k + 2) a fd ps (spF (G.at none) X.K P k fi.id) ∧
    (fi.hot = true → ∀ p cu, CurP G.cls p cu → FnHp p X.prog X.w X.K X.mg X.base (2 * k + 2) a fd ps (spF (G.at (some cu)) X.K P k fi.id))
  co : ∀ x d, c.co.lookup x = some d → ∃ u, X.mg x = some u ∧ CVal X.K d u
  ex : ∀ x q, c.ex.lookup x = some q → ∃ C, G.cls[q.1]? = some C ∧ X.mg x = some (.ref C) ∧ ∀ (i : Nat) (D : Addr), G.cls[i]? = some D → PySem.W.exmOne X.K (.ref D) (.ref C) = some (q.2.contains i) ∧ PySem.W.kitOne X.K (.ref D) (.ref C) = some (q.2.contains i)
  exb : ∀ x tab, c.exb.lookup x = some tab → X.mg x = none ∧ ∃ T, bootBuiltins x = some (.type T) ∧ ∀ (i : Nat) (D : Addr), G.cls[i]? = some D → PySem.W.kitOne X.K (.ref D) (.type T) = some (tab.contains i)
  cls : ∀ (i : Nat) (D : Addr), G.cls[i]? = some D → ClsOk X.K D ∧ ∃ fI fd, PySem.W.findIn X.K (.ref D) "__init__" = some (some (.ref fI)) ∧ PySem.W.typeIn X.K (.ref fI) = some (.type "function") ∧
    FnOk X.prog X.w X.K X.mg X.base (CXN X.prog X.w) 1 fI fd ["self", "place"] (spI X.K) ∧ Binds X.K fd ["self", "place"] []
  clz : ∀ x q, c.cl.lookup x = some q → X.mg x = some (.ref (clsA X.K q.1)) ∧ ∃ f fd ps, Mk X.K (clsA X.K q.1) f ∧ ps.length = q.2.2 ∧ Binds X.K fd ps [] ∧ FnOk X.prog X.w X.K X.mg X.base (CXN X.prog X.w) (2 * k + 2) f fd ps (spF (G.at none) X.K P k q.2.1)
  mez : ∀ m q, c.me.lookup m = some q → ∃ f fd ps, Cls X.K (clsA X.K q.1) ∧ Meth X.K (clsA X.K q.1) m f ∧ ps.length = q.2.2 ∧ Binds X.K fd ps [] ∧ FnOk X.prog X.w X.K X.mg X.base (CXN X.prog X.w) (2 * k + 2) f fd ps (spF (G.at none) X.K P k q.2.1)
  faz : ∀ j a, (j, a) ∈ c.fa → ∃ x, attrNm[a]? = some x ∧ Cls X.K (clsA X.K j) ∧ NoAttr X.K (clsA X.K j) x
  icz : ∀ j i, (j, i) ∈ c.ic → InsTy X.K (clsA X.K j) ∧ PySem.W.kitOne X.K (.ref (clsA X.K j)) (.ref (clsA X.K i)) = some (j == i) ∧ ∀ t : Ty, PySem.W.kitOne X.K (.type (tyName t)) (.ref (clsA X.K i)) = some false
  eqz : ∀ pos q, c.eqs.lookup pos = some q → ∃ f fd ps, Meth X.K (clsA X.K q.1) "__eq__" f ∧ ps.length = 2 ∧ Binds X.K fd ps [] ∧ FnOk X.prog X.w X.K X.mg X.base (CXN X.prog X.w) (2 * k + 2) f fd ps (spF (G.at none) X.K P k q.2) ∧
    PySem.W.findIn X.K (.ref (clsA X.K q.1)) "__ne__" = some (some (.builtin "object.__ne__")) ∧ PySem.W.mroIn X.K (clsA X.K q.1) (.type "object") = some true ∧ PySem.W.notFirst X.K (clsA X.K q.1) (.type "tuple") = true
theorem GC.at_none {G : GC} (h : G.cur = none) : G.at none = G := by
  obtain ⟨c, u, dh⟩ := G
  have h : u = none := h
  subst h
  rfl
theorem takesN0 {X : Cx} : L2N.Takes X (fun _ _ _ _ => False) := fun _ _ x => by
  obtain ⟨_, _, _, _, _, _, _, _, _, _, _, _, _, _, _, _, z⟩ := x
  exact z.elim

section
variable {G : GC} {P : List Fd} {k : Nat} {X : Cx} {c : Cc}
theorem gl_of (g : XG G P k X c) {x : Str} (h : c.gl x = true) : Gl X x := by
  unfold Cc.gl at h
  show X.env.scope.names.lookup x = some .globalImplicit
  rw [g.sc]
  split at h
  · assumption
  · cases h
theorem vis_of (g : XG G P k X c) {x : Str} (h : c.vis x = true) : Vis X.env.scope x := by
  unfold Cc.vis at h
  unfold Vis
  rw [g.sc]
  split at h
  · exact .inl ‹_›
  · exact .inr (.inl ‹_›)
  · exact .inr (.inr ‹_›)
  · cases h
theorem okName_dbg {x : Str} (h : okName x = true) : (x == ("__debug__" : Str)) = false := by
  unfold okName at h
  simp only [Bool.and_eq_true, Bool.not_eq_true'] at h
  exact h.1.1
theorem okName_cd {x : Str} (h : okName x = true) : (x == ("__classdict__" : Str)) = false := by
  unfold okName at h
  simp only [Bool.and_eq_true, Bool.not_eq_true'] at h
  exact h.1.2
theorem okName_nm {x : Str} (h : okName x = true) : x ≠ ("__name__" : Str) := by
  unfold okName at h
  simp only [Bool.and_eq_true, Bool.not_eq_true'] at h
  exact fun e => by rw [e] at h; simp at h
theorem sto_loc (g : XG G P k X c) {x : Str} (h : c.sto x = true) : L2.Loc X.env.scope x := by
  unfold Cc.sto at h
  unfold L2.Loc
  rw [g.sc]
  split at h
  · exact .inl ‹_›
  · exact .inr ‹_›
  · cases h
theorem sto_fn (g : XG G P k X c) {x : Str} (h : c.sto x = true) : X.fn x = true ∨ X.env.scope.names.lookup x = some .local := by
  unfold Cc.sto at h
  rw [g.sc]
  split at h
  · exact .inr ‹_›
  · rcases g.fn with ⟨_, f⟩ | ⟨d, f⟩
    · exact .inl (f x)
    · rw [d] at h
      exact .inl (by rw [f]; simpa using h)
  · cases h
theorem star_plain {e : Expr} {es : List Expr} {env : PySem.Env} (h : plain e = true) : starEach (e :: es) env = (false, eval e env) :: starEach es env := by
  cases e <;> first | rfl | (cases h)
theorem ix_plain {e : Expr} (h : plain e = true) : PlainIx e := by
  intro o i
  cases e <;> first | rfl | (cases h)
theorem any_plain {es : List Expr} {env : PySem.Env} {pos : Pos} (h : es.all plain = true) : (backTo pos (starEach es env)).any (·.1) = false := by
  induction es with
  | nil => rfl
  | cons e es ih =>
    rw [List.all_cons, Bool.and_eq_true] at h
    rw [star_plain h.1]
    show (false || _) = false
    rw [Bool.false_or]
    exact ih h.2
theorem nomark_plain {op : CmpOp} {b : Expr} (h : plain b = true) : behindInMarks op b = false := by
  cases b <;> first | rfl | (cases h)

/-! ## arguments -/
variable {W : WX}
theorem pa_nilZ {r : Env → Store → R (List D)} (h : ∀ env st, r env st = .ok [] st) : PA X [] (tA G X.K W r) :=
  PA.imp pa_nil fun σ H Q ⟨ρ, env, st, rel, q⟩ => by
    rw [h] at q
    exact q.ok rel.s [] .nil
theorem pa_consZ {e : Expr} {es : List Expr} {a : Env → Store → R D} {b : Env → Store → R (List D)} (hp : plain e = true) (ha : PE X e (tE G X.K W a)) (hb : PA X es (tA G X.K W b)) :
    PA X (e :: es) (tA G X.K W fun env st => (a env st).bind fun d st1 => (b env st1).bind fun ds st2 => .ok (d :: ds) st2) :=
  PA.imp (pa_cons ha hb (star_plain hp)) fun σ H Q ⟨ρ, env, st, rel, q⟩ => by
    refine ⟨ρ, env, st, rel, q.bind.imp fun d st1 ρ1 H1 e1 s1 q1 v rv => ?_⟩
    refine ⟨ρ1, env, st1, ⟨s1, rel.e.ext e1⟩, q1.bind.imp fun ds st2 ρ2 H2 e2 s2 q2 vs rvs => ?_⟩
    exact q2.ok s2 _ (.cons (rv.ext e2) rvs)

/-- no operation raises -/
def NoX {α : Type} (r : R α) : Prop := ∀ c p st, r ≠ .exc c p st
theorem Lf.nox {K : PySem.W.Frag} {α : Type} {W' W2 : Value → Option Addr → Hp → Prop} {ρ : Tk} {H : Hp} {r : R α} {P : α → Store → Tk → Hp → Prop} (n : NoX r) (h : Lf G K W' ρ H r P) : Lf G K W2 ρ H r P := by
  cases r with
  | ok a st => exact h
  | exc c p st => exact absurd rfl (n c p st)
  | bad => exact h
end
end Z

set_option autoImplicit false
set_option maxHeartbeats 1000000
namespace Z
open PySem PySem.Spec PyProof.Rows L2

/-! ## == of data, whatever the signs of its texts -/
mutual
def nd : PyData → Bool
  | .dict _ => false
  | .list xs => nds xs
  | .tuple xs => nds xs
  | _ => true
def nds : List PyData → Bool
  | [] => true
  | x :: xs => nd x && nds xs
end
mutual
def py : D → PyData
  | .non => .none
  | .bl b => .bool b
  | .int i => .int i
  | .str s => .str ⟨s.toArray⟩
  | .tup xs => .tuple (pys xs)
  | .flst xs => .list (pys xs)
  | .loc _ => .none
  | _ => .none
def pys : List D → List PyData
  | [] => []
  | x :: xs => py x :: pys xs
end
mutual
theorem nd_py : ∀ d : D, nd (py d) = true
  | .non => rfl
  | .bl _ => rfl
  | .int _ => rfl
  | .str _ => rfl
  | .tup xs => nds_pys xs
  | .flst xs => nds_pys xs
  | .loc _ => rfl
  | .slst _ => rfl
  | .fdct _ _ => rfl
  | .fset _ => rfl
  | .fins _ _ _ => rfl
  | .fn _ => rfl
theorem nds_pys : ∀ ds : List D, nds (pys ds) = true
  | [] => rfl
  | x :: xs => by show (nd (py x) && nds (pys xs)) = true; rw [nd_py x, nds_pys xs]; rfl
end
mutual
theorem deep_py : ∀ d : D, (py d).depth = deepD d
  | .non => rfl
  | .bl _ => rfl
  | .int _ => rfl
  | .str _ => rfl
  | .tup xs => by show PyData.depthAll (pys xs) + 1 = deepDs xs + 1; rw [deep_pys xs]
  | .flst xs => by show PyData.depthAll (pys xs) + 1 = deepDs xs + 1; rw [deep_pys xs]
  | .loc _ => rfl
  | .slst _ => rfl
  | .fdct _ _ => rfl
  | .fset _ => rfl
  | .fins _ _ _ => rfl
  | .fn _ => rfl
theorem deep_pys : ∀ ds : List D, PyData.depthAll (pys ds) = deepDs ds
  | [] => rfl
  | x :: xs => by show max (py x).depth (PyData.depthAll (pys xs)) = max (deepD x) (deepDs xs); rw [deep_py x, deep_pys xs]
end
theorem beq_arr (a b : List Nat) : ((⟨a.toArray⟩ : Str) == ⟨b.toArray⟩) = (a == b) := by
  by_cases h : a = b
  · subst h; rw [beq_self_eq_true, beq_self_eq_true]
  · have h1 : (a == b) = false := by simpa using h
    have h2 : ((⟨a.toArray⟩ : Str) == ⟨b.toArray⟩) = false := by
      refine beq_eq_false_iff_ne.mpr fun e => h ?_
      injection e with e
      simpa using congrArg Array.toList e
    rw [h1, h2]
mutual
/-- what the model's == says is eqD -/
theorem eqv_py : ∀ d e : D, PyData.eqv (py d) (py e) = eqD d e
  | .non, e => by cases e <;> rfl
  | .bl a, e => by cases e <;> rfl
  | .int i, e => by cases e <;> rfl
  | .str s, e => by
    cases e with
    | str t => exact beq_arr s t
    | _ => rfl
  | .tup xs, e => by
    cases e with
    | tup ys => exact eqvs_pys xs ys
    | _ => rfl
  | .flst xs, e => by
    cases e with
    | flst ys => exact eqvs_pys xs ys
    | _ => rfl
  | .loc _, e => by cases e <;> rfl
  | .slst _, e => by cases e <;> rfl
  | .fdct _ _, e => by cases e <;> rfl
  | .fset _, e => by cases e <;> rfl
  | .fins _ _ _, e => by cases e <;> rfl
  | .fn _, e => by cases e <;> rfl
theorem eqvs_pys : ∀ ds es : List D, PyData.eqvAll (pys ds) (pys es) = eqDs ds es
  | [], [] => rfl
  | [], _ :: _ => rfl
  | _ :: _, [] => rfl
  | x :: xs, y :: ys => by
    show (PyData.eqv (py x) (py y) && PyData.eqvAll (pys xs) (pys ys)) = (eqD x y && eqDs xs ys)
    rw [eqv_py x y, eqvs_pys xs ys]
end

section
open PySem.SeqAt
mutual
theorem same_nd {h : Heap} : ∀ (d e : PyData) (u : Value) (p q : List Addr), nd d = true → Reads h u d p → Reads h u e q → d = e
  | .none, _, _, _, _, _, x, y => by cases x; cases y; rfl
  | .bool _, _, _, _, _, _, x, y => by cases x; cases y; rfl
  | .int _, _, _, _, _, _, x, y => by cases x; cases y; rfl
  | .str _, _, _, _, _, _, x, y => by cases x; cases y; rfl
  | .list ds, e, _, _, _, hn, x, y => by
    cases x with
    | list a1 a2 a3 a4 =>
      cases y with
      | list b1 b2 b3 b4 =>
        rw [a1] at b1; cases b1
        rw [a3] at b3; cases b3
        rw [sames_nd ds _ _ _ _ hn a4 b4]
      | tuple b1 b2 b3 b4 => rw [a1] at b1; cases b1; rw [a2] at b2; exact absurd b2 (by decide)
      | dict b1 b2 b3 b4 b5 => rw [a1] at b1; cases b1; rw [a2] at b2; exact absurd b2 (by decide)
  | .tuple ds, e, _, _, _, hn, x, y => by
    cases x with
    | tuple a1 a2 a3 a4 =>
      cases y with
      | tuple b1 b2 b3 b4 =>
        rw [a1] at b1; cases b1
        rw [a3] at b3; cases b3
        rw [sames_nd ds _ _ _ _ hn a4 b4]
      | list b1 b2 b3 b4 => rw [a1] at b1; cases b1; rw [a2] at b2; exact absurd b2 (by decide)
      | dict b1 b2 b3 b4 b5 => rw [a1] at b1; cases b1; rw [a2] at b2; exact absurd b2 (by decide)
  | .dict _, _, _, _, _, hn, _, _ => by cases hn
theorem sames_nd {h : Heap} : ∀ (ds es : List PyData) (us : List Value) (p q : List Addr), nds ds = true → ReadsAll h us ds p → ReadsAll h us es q → ds = es
  | [], _, _, _, _, _, x, y => by cases x; cases y; rfl
  | d :: ds, _, _, _, _, hn, x, y => by
    have hn2 : (nd d && nds ds) = true := hn
    rw [Bool.and_eq_true] at hn2
    cases x with
    | cons a1 a2 =>
      cases y with
      | cons b1 b2 => rw [same_nd d _ _ _ _ hn2.1 a1 b1, sames_nd ds _ _ _ _ hn2.2 a2 b2]
end
mutual
theorem refl_nd : ∀ d : PyData, nd d = true → PyData.eqv d d = true
  | .none, _ => rfl
  | .bool _, _ => by rw [PyData.eqv]; exact beq_self_eq_true _
  | .int _, _ => by rw [PyData.eqv]; exact beq_self_eq_true _
  | .str _, _ => by rw [PyData.eqv]; exact beq_self_eq_true _
  | .list xs, hn => by rw [PyData.eqv]; exact refls_nd xs hn
  | .tuple xs, hn => by rw [PyData.eqv]; exact refls_nd xs hn
  | .dict _, hn => by cases hn
theorem refls_nd : ∀ ds : List PyData, nds ds = true → PyData.eqvAll ds ds = true
  | [], _ => rfl
  | d :: ds, hn => by
    have hn2 : (nd d && nds ds) = true := hn
    rw [Bool.and_eq_true] at hn2
    rw [PyData.eqvAll, refl_nd d hn2.1, refls_nd ds hn2.2]; rfl
end
/-- both words of == -/
def EqBoth (A : Around) (s : Shared) (u v : Value) (b : Bool) : Prop := EqAt A s u v b ∧ RcAt A s u v b
mutual
theorem both_nd : ∀ (d e : PyData) (A : Around) (s : Shared) (u v : Value) (p q : List Addr), Reads s.heap u d p → Reads s.heap v e q → nd d = true → nd e = true →
    A.units + min d.depth e.depth < cLine → EqBoth A s u v (PyData.eqv d e)
  | .none, _, A, s, _, _, _, _, x, y, _, hn, hu => by
    cases x
    cases y with
    | none => exact ⟨EqAt.same _, RcAt.none_none⟩
    | bool b => exact ⟨EqAt.none_bool b, RcAt.none_bool b⟩
    | int b u => exact ⟨EqAt.none_int b u, RcAt.none_int b u⟩
    | str b u => exact ⟨EqAt.none_str b u, RcAt.none_str b u⟩
    | list b1 b2 b3 b4 => exact ⟨EqAt.none_list ⟨_, b1, b2, _, b3⟩ (room_here hu), RcAt.none_list ⟨_, b1, b2, _, b3⟩ (room_here hu)⟩
    | tuple b1 b2 b3 b4 => exact ⟨EqAt.none_tuple ⟨_, b1, b2, _, b3⟩ (room_here hu), RcAt.none_tuple ⟨_, b1, b2, _, b3⟩ (room_here hu)⟩
    | dict => cases hn
  | .bool a, _, A, s, _, _, _, _, x, y, _, hn, hu => by
    cases x
    cases y with
    | none => exact ⟨EqAt.bool_none a, RcAt.bool_none a⟩
    | bool b => exact ⟨EqAt.bool_bool a b, RcAt.bool_bool a b⟩
    | int b u => exact ⟨EqAt.bool_int a b u, RcAt.bool_int a b u⟩
    | str b u => exact ⟨EqAt.bool_str a b u, RcAt.bool_str a b u⟩
    | list b1 b2 b3 b4 => exact ⟨EqAt.bool_list a ⟨_, b1, b2, _, b3⟩ (room_here hu), RcAt.bool_list a ⟨_, b1, b2, _, b3⟩ (room_here hu)⟩
    | tuple b1 b2 b3 b4 => exact ⟨EqAt.bool_tuple a ⟨_, b1, b2, _, b3⟩ (room_here hu), RcAt.bool_tuple a ⟨_, b1, b2, _, b3⟩ (room_here hu)⟩
    | dict => cases hn
  | .int a, _, A, s, _, _, _, _, x, y, _, hn, hu => by
    cases x with
    | int _ t =>
      cases y with
      | none => exact ⟨EqAt.int_none a t, RcAt.int_none a t⟩
      | bool b => exact ⟨EqAt.int_bool a t b, RcAt.int_bool a t b⟩
      | int b u => exact ⟨EqAt.int_int a t b u, RcAt.int_int a t b u⟩
      | str b u => exact ⟨EqAt.int_str a t b u, RcAt.int_str a t b u⟩
      | list b1 b2 b3 b4 => exact ⟨EqAt.int_list a t ⟨_, b1, b2, _, b3⟩ (room_here hu), RcAt.int_list a t ⟨_, b1, b2, _, b3⟩ (room_here hu)⟩
      | tuple b1 b2 b3 b4 => exact ⟨EqAt.int_tuple a t ⟨_, b1, b2, _, b3⟩ (room_here hu), RcAt.int_tuple a t ⟨_, b1, b2, _, b3⟩ (room_here hu)⟩
      | dict => cases hn
  | .str a, _, A, s, _, _, _, _, x, y, _, hn, hu => by
    cases x with
    | str _ t =>
      cases y with
      | none => exact ⟨EqAt.str_none a t, RcAt.str_none a t⟩
      | bool b => exact ⟨EqAt.str_bool a t b, RcAt.str_bool a t b⟩
      | int b u => exact ⟨EqAt.str_int a t b u, RcAt.str_int a t b u⟩
      | str b u => exact ⟨EqAt.str_str a t b u, RcAt.str_str a t b u⟩
      | list b1 b2 b3 b4 => exact ⟨EqAt.str_list a t ⟨_, b1, b2, _, b3⟩ (room_here hu), RcAt.str_list a t ⟨_, b1, b2, _, b3⟩ (room_here hu)⟩
      | tuple b1 b2 b3 b4 => exact ⟨EqAt.str_tuple a t ⟨_, b1, b2, _, b3⟩ (room_here hu), RcAt.str_tuple a t ⟨_, b1, b2, _, b3⟩ (room_here hu)⟩
      | dict => cases hn
  | .list ds, e, A, s, _, _, _, _, x, y, hm, hn, hu => by
    cases x with
    | @list l o us n _ p a1 a2 a3 a4 =>
      have hl : s.heap.IsList l us := ⟨_, a1, a2, _, a3⟩
      cases y with
      | none => exact ⟨EqAt.list_none hl (room_here hu), RcAt.list_none hl (room_here hu)⟩
      | bool b => exact ⟨EqAt.list_bool b hl (room_here hu), RcAt.list_bool b hl (room_here hu)⟩
      | int b u => exact ⟨EqAt.list_int b u hl (room_here hu), RcAt.list_int b u hl (room_here hu)⟩
      | str b u => exact ⟨EqAt.list_str b u hl (room_here hu), RcAt.list_str b u hl (room_here hu)⟩
      | tuple b1 b2 b3 b4 => exact ⟨EqAt.list_tuple hl ⟨_, b1, b2, _, b3⟩ (room_here hu), RcAt.list_tuple hl ⟨_, b1, b2, _, b3⟩ (room_here hu)⟩
      | dict => cases hn
      | @list m o' ws n' es q b1 b2 b3 b4 =>
        have hr : s.heap.IsList m ws := ⟨_, b1, b2, _, b3⟩
        have k1 : us.size = ds.length := by simpa using ReadsAll.length _ _ _ a4
        have k2 : ws.size = es.length := by simpa using ReadsAll.length _ _ _ b4
        have r : RcAt A s (.ref l) (.ref m) (PyData.eqvAll ds es) := by
          by_cases hz : us.size = ws.size
          · rw [← eqvAll_same_length (by omega : ds.length = es.length), ← k1]
            refine RcAt.lists hl hr hz (room_here hu) fun j j1 j2 => ?_
            have z := boths_nd ds es A.in1 s us.toList ws.toList _ _ a4 b4 hm hn (room_in hu) j (by simpa using j1) (by simpa using j2)
            rw [Array.getElem_toList, Array.getElem_toList] at z
            exact z
          · rw [eqvAll_other_length (by omega : ds.length ≠ es.length)]
            exact RcAt.lists_lengths hl hr (by simpa using hz) (room_here hu)
        refine ⟨?_, r⟩
        by_cases hlm : l = m
        · subst hlm
          have z : PyData.list ds = PyData.list es := same_nd _ _ _ _ _ hm (.list a1 a2 a3 a4) (.list b1 b2 b3 b4)
          injection z with z
          subst z
          show EqAt A s _ _ (PyData.eqvAll ds ds)
          rw [refls_nd ds hm]
          exact EqAt.same _
        · exact EqAt.of_refs hlm r
  | .tuple ds, e, A, s, _, _, _, _, x, y, hm, hn, hu => by
    cases x with
    | @tuple l o us n _ p a1 a2 a3 a4 =>
      have hl : s.heap.IsTuple l us := ⟨_, a1, a2, _, a3⟩
      cases y with
      | none => exact ⟨EqAt.tuple_none hl (room_here hu), RcAt.tuple_none hl (room_here hu)⟩
      | bool b => exact ⟨EqAt.tuple_bool b hl (room_here hu), RcAt.tuple_bool b hl (room_here hu)⟩
      | int b u => exact ⟨EqAt.tuple_int b u hl (room_here hu), RcAt.tuple_int b u hl (room_here hu)⟩
      | str b u => exact ⟨EqAt.tuple_str b u hl (room_here hu), RcAt.tuple_str b u hl (room_here hu)⟩
      | list b1 b2 b3 b4 => exact ⟨EqAt.tuple_list hl ⟨_, b1, b2, _, b3⟩ (room_here hu), RcAt.tuple_list hl ⟨_, b1, b2, _, b3⟩ (room_here hu)⟩
      | dict => cases hn
      | @tuple m o' ws n' es q b1 b2 b3 b4 =>
        have hr : s.heap.IsTuple m ws := ⟨_, b1, b2, _, b3⟩
        have k1 : us.size = ds.length := by simpa using ReadsAll.length _ _ _ a4
        have k2 : ws.size = es.length := by simpa using ReadsAll.length _ _ _ b4
        have r : RcAt A s (.ref l) (.ref m) (PyData.eqvAll ds es) := by
          rw [← eqvAll_eq ds es, ← k1, ← k2]
          refine RcAt.tuples hl hr (room_here hu) fun j j1 j2 => ?_
          have z := boths_nd ds es A.in1 s us.toList ws.toList _ _ a4 b4 hm hn (room_in hu) j (by simpa using j1) (by simpa using j2)
          rw [Array.getElem_toList, Array.getElem_toList] at z
          exact z
        refine ⟨?_, r⟩
        by_cases hlm : l = m
        · subst hlm
          have z : PyData.tuple ds = PyData.tuple es := same_nd _ _ _ _ _ hm (.tuple a1 a2 a3 a4) (.tuple b1 b2 b3 b4)
          injection z with z
          subst z
          show EqAt A s _ _ (PyData.eqvAll ds ds)
          rw [refls_nd ds hm]
          exact EqAt.same _
        · exact EqAt.of_refs hlm r
  | .dict _, _, _, _, _, _, _, _, _, _, hm, _, _ => by cases hm
theorem boths_nd : ∀ (ds es : List PyData) (A : Around) (s : Shared) (us vs : List Value) (p q : List Addr), ReadsAll s.heap us ds p → ReadsAll s.heap vs es q → nds ds = true → nds es = true →
    A.units + min (PyData.depthAll ds) (PyData.depthAll es) < cLine → ∀ j (h1 : j < us.length) (h2 : j < vs.length), EqAt A s us[j] vs[j] (pairEq ds es j)
  | [], _, _, _, _, _, _, _, x, _, _, _, _, j, h1, _ => by cases x; exact absurd h1 (Nat.not_lt_zero _)
  | _ :: _, [], _, _, _, _, _, _, _, y, _, _, _, j, _, h2 => by cases y; exact absurd h2 (Nat.not_lt_zero _)
  | d :: ds, e :: es, A, s, _, _, _, _, x, y, hm, hn, hu, j, h1, h2 => by
    have hm2 : (nd d && nds ds) = true := hm
    have hn2 : (nd e && nds es) = true := hn
    rw [Bool.and_eq_true] at hm2 hn2
    cases x with
    | cons x1 x2 =>
      cases y with
      | cons y1 y2 =>
        cases j with
        | zero => exact (both_nd d e A s _ _ _ _ x1 y1 hm2.1 hn2.1 (room_head hu)).1
        | succ j => exact boths_nd ds es A s _ _ _ _ x2 y2 hm2.2 hn2.2 (room_tail hu) j (Nat.lt_of_succ_lt_succ h1) (Nat.lt_of_succ_lt_succ h2)
end
theorem ne_nd {d e : PyData} {A : Around} {s : Shared} {u v : Value} {p q : List Addr} (x : Reads s.heap u d p) (y : Reads s.heap v e q) (hm : nd d = true) (hn : nd e = true)
    (hu : A.units + min d.depth e.depth < cLine) : RcNeAt A s u v (!PyData.eqv d e) := by
  cases x with
  | none =>
    cases y with
    | list b1 b2 b3 b4 => exact RcNeAt.none_list ⟨_, b1, b2, _, b3⟩ (room_here hu)
    | tuple b1 b2 b3 b4 => exact RcNeAt.none_tuple ⟨_, b1, b2, _, b3⟩ (room_here hu)
    | dict => cases hn
    | none => exact RcNeAt.none_none
    | bool b => exact RcNeAt.none_bool b
    | int b u => exact RcNeAt.none_int b u
    | str b u => exact RcNeAt.none_str b u
  | bool a =>
    cases y with
    | list b1 b2 b3 b4 => exact RcNeAt.bool_list a ⟨_, b1, b2, _, b3⟩ (room_here hu)
    | tuple b1 b2 b3 b4 => exact RcNeAt.bool_tuple a ⟨_, b1, b2, _, b3⟩ (room_here hu)
    | dict => cases hn
    | none => exact RcNeAt.bool_none a
    | bool b => exact RcNeAt.bool_bool a b
    | int b u => exact RcNeAt.bool_int a b u
    | str b u => exact RcNeAt.bool_str a b u
  | int a t =>
    cases y with
    | list b1 b2 b3 b4 => exact RcNeAt.int_list a t ⟨_, b1, b2, _, b3⟩ (room_here hu)
    | tuple b1 b2 b3 b4 => exact RcNeAt.int_tuple a t ⟨_, b1, b2, _, b3⟩ (room_here hu)
    | dict => cases hn
    | none => exact RcNeAt.int_none a t
    | bool b => exact RcNeAt.int_bool a t b
    | int b u => exact RcNeAt.int_int a t b u
    | str b u => exact RcNeAt.int_str a t b u
  | str a t =>
    cases y with
    | list b1 b2 b3 b4 => exact RcNeAt.str_list a t ⟨_, b1, b2, _, b3⟩ (room_here hu)
    | tuple b1 b2 b3 b4 => exact RcNeAt.str_tuple a t ⟨_, b1, b2, _, b3⟩ (room_here hu)
    | dict => cases hn
    | none => exact RcNeAt.str_none a t
    | bool b => exact RcNeAt.str_bool a t b
    | int b u => exact RcNeAt.str_int a t b u
    | str b u => exact RcNeAt.str_str a t b u
  | @list l o us n ds p a1 a2 a3 a4 =>
    have hl : s.heap.IsList l us := ⟨_, a1, a2, _, a3⟩
    cases y with
    | @list m o' ws n' es q b1 b2 b3 b4 =>
      have hr : s.heap.IsList m ws := ⟨_, b1, b2, _, b3⟩
      have k1 : us.size = ds.length := by simpa using ReadsAll.length _ _ _ a4
      have k2 : ws.size = es.length := by simpa using ReadsAll.length _ _ _ b4
      show RcNeAt A s _ _ (!PyData.eqvAll ds es)
      by_cases hz : us.size = ws.size
      · rw [← eqvAll_same_length (by omega : ds.length = es.length), ← k1]
        refine RcNeAt.lists hl hr hz (room_here hu) fun j j1 j2 => ?_
        have z := boths_nd ds es A.in1 s us.toList ws.toList _ _ a4 b4 hm hn (room_in hu) j (by simpa using j1) (by simpa using j2)
        rw [Array.getElem_toList, Array.getElem_toList] at z
        exact z
      · rw [eqvAll_other_length (by omega : ds.length ≠ es.length)]
        exact RcNeAt.lists_lengths hl hr (by simpa using hz) (room_here hu)
    | tuple b1 b2 b3 b4 => exact RcNeAt.list_tuple hl ⟨_, b1, b2, _, b3⟩ (room_here hu)
    | dict => cases hn
    | none => exact RcNeAt.list_none hl (room_here hu)
    | bool b => exact RcNeAt.list_bool b hl (room_here hu)
    | int b u => exact RcNeAt.list_int b u hl (room_here hu)
    | str b u => exact RcNeAt.list_str b u hl (room_here hu)
  | @tuple l o us n ds p a1 a2 a3 a4 =>
    have hl : s.heap.IsTuple l us := ⟨_, a1, a2, _, a3⟩
    cases y with
    | @tuple m o' ws n' es q b1 b2 b3 b4 =>
      have hr : s.heap.IsTuple m ws := ⟨_, b1, b2, _, b3⟩
      have k1 : us.size = ds.length := by simpa using ReadsAll.length _ _ _ a4
      have k2 : ws.size = es.length := by simpa using ReadsAll.length _ _ _ b4
      show RcNeAt A s _ _ (!PyData.eqvAll ds es)
      rw [← eqvAll_eq ds es, ← k1, ← k2]
      refine RcNeAt.tuples hl hr (room_here hu) fun j j1 j2 => ?_
      have z := boths_nd ds es A.in1 s us.toList ws.toList _ _ a4 b4 hm hn (room_in hu) j (by simpa using j1) (by simpa using j2)
      rw [Array.getElem_toList, Array.getElem_toList] at z
      exact z
    | list b1 b2 b3 b4 => exact RcNeAt.tuple_list hl ⟨_, b1, b2, _, b3⟩ (room_here hu)
    | dict => cases hn
    | none => exact RcNeAt.tuple_none hl (room_here hu)
    | bool b => exact RcNeAt.tuple_bool b hl (room_here hu)
    | int b u => exact RcNeAt.tuple_int b u hl (room_here hu)
    | str b u => exact RcNeAt.tuple_str b u hl (room_here hu)
  | dict => cases hm
end

/-! ## data as the heap holds it -/
section
variable {G : GC} {K : PySem.W.Frag} {ρ : Tk} {H : Hp} {st : Store}
theorem dpAll_of {xs : List V} {ds : List PyData} (h : DpAll K H xs ds) : DpAll K H xs ds := h
mutual
theorem dp_deref (g : Nat → Option D) (hg : ∀ l a b d, ρ[l]? = some (a, b) → g l = some d → Dp K H (.ref a) (py d)) : ∀ {d d' : D} {v : V}, Rv K ρ H d v → derefD g d = some d' → Dp K H v (py d')
  | .non, _, _, .non, e => by cases e; exact .non
  | .bl _, _, _, .bl b, e => by cases e; exact .bl b
  | .int _, _, _, .int i, e => by cases e; exact .int i
  | .str _, _, _, .str x, e => by cases e; exact .str _
  | .tup xs, d', _, .tup h t, e => by
    cases q : derefDs g xs with
    | none => rw [derefD, q] at e; cases e
    | some ys => rw [derefD, q] at e; cases e; exact .tup h (dps_deref g hg t q)
  | .flst xs, d', _, .flst h t, e => by
    cases q : derefDs g xs with
    | none => rw [derefD, q] at e; cases e
    | some ys => rw [derefD, q] at e; cases e; exact .lst h.sq (dps_deref g hg t q)
  | .slst xs, d', _, .slst h t, e => by
    cases q : derefDs g xs with
    | none => rw [derefD, q] at e; cases e
    | some ys => rw [derefD, q] at e; cases e; exact .lst h.sq (dps_deref g hg t q)
  | .loc l, d', _, .loc h, e => hg l _ _ d' h e
theorem dps_deref (g : Nat → Option D) (hg : ∀ l a b d, ρ[l]? = some (a, b) → g l = some d → Dp K H (.ref a) (py d)) : ∀ {ds ds' : List D} {vs : List V}, Rvs K ρ H ds vs → derefDs g ds = some ds' → DpAll K H vs (pys ds')
  | [], _, _, .nil, e => by cases e; exact .nil
  | d :: ds, ds', _, .cons h t, e => by
    cases q : derefD g d with
    | none => rw [derefDs, q] at e; cases e
    | some y =>
      cases q2 : derefDs g ds with
      | none => rw [derefDs, q, q2] at e; cases e
      | some ys => rw [derefDs, q, q2] at e; cases e; exact .cons (dp_deref g hg h q) (dps_deref g hg t q2)
end
theorem dp_at (s : Rs G K ρ st H) : ∀ (n l : Nat) (a : Addr) (b : Bool) (d : D), ρ[l]? = some (a, b) → atD st n l = some d → Dp K H (.ref a) (py d)
  | 0, _, _, _, _, _, e => by cases e
  | n + 1, l, a, b, d, ha, e => by
    unfold atD at e
    split at e
    · rename_i xs hl
      obtain ⟨a', h1, vs, h2, h3⟩ := s.obj l _ hl
      rw [ha] at h1; cases h1
      cases q : derefDs (atD st n) xs with
      | none => rw [q] at e; cases e
      | some ys =>
        rw [q] at e; cases e
        exact .lst (.inl (.inl h2)) (dps_deref _ (fun l a b d h1 h2 => dp_at s n l a b d h1 h2) h3 q)
    · cases e
theorem dp_pure (s : Rs G K ρ st H) {d d' : D} {v : V} (r : Rv K ρ H d v) (e : pureD st d = some d') : Dp K H v (py d') := dp_deref _ (fun l a b d h1 h2 => dp_at s 8 l a b d h1 h2) r e
end
end Z

set_option autoImplicit false
namespace Z
open PySem PySem.Spec PyProof.Rows L2

/-! ## what happens to the heap -/
section
variable {G : GC} {K : PySem.W.Frag} {ρ : Tk} {H : Hp} {st : Store} {p : Addr} {o : HO}
theorem Ext.new (hp : H p = none) : Ext K ρ ρ H (upd H p o) := by
  refine ⟨List.prefix_rfl, fun a o u h => by rw [upd_ne (ne_of_none h hp)]; exact h, fun a xs h => ?_, fun a o u h _ => ⟨by rw [upd_ne (ne_of_none h hp)]; exact h, u⟩, fun a fs h => by rw [upd_ne (ne_of_none h hp)]; exact h⟩
  rcases h with (h | ⟨ob, h⟩) | h
  · exact .inl (.inl (by rw [upd_ne (ne_of_none h hp)]; exact h))
  · exact .inl (.inr ⟨ob, by rw [upd_ne (ne_of_none h hp)]; exact h⟩)
  · exact .inr h
theorem Utr.app {a p : Addr} {b : Bool} (h : Utr ρ a) (n : b = true → a ≠ p) : Utr (ρ ++ [(p, b)]) a := fun l e => by
  by_cases hl : l < ρ.length
  · rw [List.getElem?_append_left hl] at e; exact h l e
  · rw [List.getElem?_append_right (Nat.le_of_not_lt hl)] at e
    obtain ⟨hz, e2⟩ := List.getElem?_eq_some_iff.mp e
    have hz : l - ρ.length = 0 := by simp at hz; omega
    simp only [hz, List.getElem_cons_zero, Prod.mk.injEq] at e2
    exact n e2.2 e2.1.symm
theorem Utr.pre {ρ' : Tk} {a : Addr} (e : ρ <+: ρ') (h : Utr ρ' a) : Utr ρ a := fun l q => h l (pre_get e q)
theorem Ext.alloc (hp : H p = none) : Ext K ρ (ρ ++ [(p, true)]) H (upd H p o) :=
  have e : Ext K ρ ρ H (upd H p o) := Ext.new hp
  ⟨List.prefix_append _ _, e.fr, e.tup, fun a o u h m => ⟨(e.un a o u h m).1, u.app fun _ => ne_of_none h hp⟩, e.xd⟩
theorem Ext.wr {u : HO} {l : Nat} (hl : ρ[l]? = some (p, true)) (hu : H p = some u) (hm : mutO u) : Ext K ρ ρ H (upd H p o) := by
  have ne : ∀ {a : Addr} {w : HO}, H a = some w → ¬ mutO w → a ≠ p := fun {a w} h n e => by
    subst e
    rw [hu] at h; cases h
    exact n hm
  refine ⟨List.prefix_rfl, fun a o u h => by rw [upd_ne (ne h fun z => z)]; exact h, fun a xs h => ?_, fun a o u h _ => ⟨by rw [upd_ne (fun z => u l (by rw [z]; exact hl))]; exact h, u⟩, fun a fs h => by rw [upd_ne (ne h fun z => z)]; exact h⟩
  rcases h with (h | ⟨ob, h⟩) | h
  · exact .inl (.inl (by rw [upd_ne (ne h fun z => z)]; exact h))
  · exact .inl (.inr ⟨ob, by rw [upd_ne (ne h fun z => z)]; exact h⟩)
  · exact .inr h
theorem RO.keep {ρ' : Tk} {H' : Hp} {l : Nat} {a : Addr} {O : DO} (e : Ext K ρ ρ' H H') (h : RO G K ρ H l a O) (k : O.mut = true → ∀ u, H a = some u → mutO u → H' a = some u) : RO G K ρ' H' l a O := by
  cases O with
  | lst ds => obtain ⟨vs, h, r⟩ := h; exact ⟨vs, k rfl _ h trivial, r.ext e⟩
  | dct p ks vs => obtain ⟨es, h, e1, e2, r1, r2⟩ := h; exact ⟨es, k rfl _ h trivial, e1, e2, r1.ext e, r2.ext e⟩
  | ins c ns ds => obtain ⟨dx, vs, h, r, n⟩ := h; exact ⟨dx, vs, k rfl _ h trivial, r.ext e, n⟩
  | exn c p => obtain ⟨cu, v, h1, h2, h3, h4, h5, h6⟩ := h; exact ⟨cu, v, h1, h2, h3, h4, e.xd _ _ h5, h6.ext e⟩
theorem Rs.lt (s : Rs G K ρ st H) {l : Nat} {a : Addr × Bool} (h : ρ[l]? = some a) : l < st.length := by
  obtain ⟨hl, _⟩ := List.getElem?_eq_some_iff.mp h
  rw [s.len] at hl
  exact hl
theorem Rs.tracked (s : Rs G K ρ st H) {l : Nat} {a : Addr} (h : ρ[l]? = some (a, true)) : ∃ u, H a = some u ∧ mutO u := by
  have hl := s.lt h
  obtain ⟨a', h1, r⟩ := s.obj l _ (List.getElem?_eq_getElem hl)
  rw [h] at h1
  injection h1 with h1
  injection h1 with e1 e2
  subst e1
  exact r.mut e2.symm
theorem Rs.new (s : Rs G K ρ st H) (hp : H p = none) : Rs G K ρ st (upd H p o) := by
  refine ⟨s.len, s.nd, fun l O h => ?_⟩
  obtain ⟨a, h1, r⟩ := s.obj l O h
  exact ⟨a, h1, r.keep (Ext.new hp) fun _ u hu _ => by rw [upd_ne (ne_of_none hu hp)]; exact hu⟩
theorem last_of {α : Type} {xs : List α} {x y : α} {l : Nat} (h : (xs ++ [x])[l]? = some y) (hl : ¬ l < xs.length) : l = xs.length ∧ y = x := by
  rw [List.getElem?_append_right (Nat.le_of_not_lt hl)] at h
  have hz : l - xs.length = 0 := by
    cases q : l - xs.length with
    | zero => rfl
    | succ n => rw [q] at h; simp at h
  rw [hz] at h
  exact ⟨by omega, by simpa using h.symm⟩
theorem Rs.allocB {O : DO} {b : Bool} {H' : Hp} (s : Rs G K ρ st H) (e : Ext K ρ (ρ ++ [(p, b)]) H H') (kp : ∀ a u, H a = some u → mutO u → H' a = some u) (np : b = true → ∀ l : Nat, ρ[l]? ≠ some (p, true)) (hb : O.mut = b) (h : RO G K (ρ ++ [(p, b)]) H' st.length p O) : Rs G K (ρ ++ [(p, b)]) (st ++ [O]) H' := by
  refine ⟨by rw [List.length_append, List.length_append, s.len]; rfl, fun l m a al am => ?_, fun l O' h' => ?_⟩
  · by_cases c1 : l < ρ.length
    · rw [List.getElem?_append_left c1] at al
      by_cases c2 : m < ρ.length
      · rw [List.getElem?_append_left c2] at am
        exact s.nd l m a al am
      · obtain ⟨_, e⟩ := last_of am c2
        injection e with e1 e2
        subst e1
        exact absurd al (np e2.symm l)
    · obtain ⟨e1, e⟩ := last_of al c1
      by_cases c2 : m < ρ.length
      · rw [List.getElem?_append_left c2] at am
        injection e with e2 e3
        subst e2
        exact absurd am (np e3.symm m)
      · obtain ⟨e2, _⟩ := last_of am c2
        rw [e1, e2]
  · by_cases hl : l < st.length
    · rw [List.getElem?_append_left hl] at h'
      obtain ⟨a, h1, r⟩ := s.obj l O' h'
      exact ⟨a, pre_get (List.prefix_append _ _) h1, r.keep e fun _ u hu m => kp a u hu m⟩
    · obtain ⟨e1, e2⟩ := last_of h' hl
      subst e1
      subst e2
      refine ⟨p, ?_, h⟩
      rw [List.getElem?_append_right (by rw [s.len]; exact Nat.le_refl _), s.len, Nat.sub_self, hb]
      rfl
theorem Rs.fresh (s : Rs G K ρ st H) (hp : H p = none) (l : Nat) : ρ[l]? ≠ some (p, true) := fun h => by
  obtain ⟨u, hu, _⟩ := s.tracked h
  rw [hp] at hu; cases hu
theorem Rs.alloc {O : DO} (s : Rs G K ρ st H) (hp : H p = none) (hm : O.mut = true) (h : RO G K (ρ ++ [(p, true)]) (upd H p o) st.length p O) : Rs G K (ρ ++ [(p, true)]) (st ++ [O]) (upd H p o) :=
  s.allocB (Ext.alloc hp) (fun a u hu _ => by rw [upd_ne (ne_of_none hu hp)]; exact hu) (fun _ => s.fresh hp) hm h
theorem Rs.wr {O : DO} {l : Nat} {u : HO} (s : Rs G K ρ st H) (hl : ρ[l]? = some (p, true)) (hu : H p = some u) (hm : mutO u) (hO : O.mut = true) (h : RO G K ρ (upd H p o) l p O) : Rs G K ρ (st.set l O) (upd H p o) := by
  have hlt := s.lt hl
  refine ⟨by rw [List.length_set]; exact s.len, s.nd, fun m O' h' => ?_⟩
  by_cases e : l = m
  · subst e
    rw [List.getElem?_set_self hlt] at h'
    cases h'
    exact ⟨p, by rw [hO]; exact hl, h⟩
  · rw [List.getElem?_set_ne e] at h'
    obtain ⟨a, h1, r⟩ := s.obj m O' h'
    refine ⟨a, h1, r.keep (Ext.wr hl hu hm) fun mm w hw _ => ?_⟩
    have ne : a ≠ p := fun z => by
      subst z
      rw [mm] at h1
      exact e (s.nd l m a hl h1)
    rw [upd_ne ne]; exact hw
/-- a tracked list -/
theorem Rs.lst (s : Rs G K ρ st H) {l : Nat} {a : Addr} {b : Bool} {xs : List D} (hl : ρ[l]? = some (a, b)) (h : st[l]? = some (.lst xs)) : ρ[l]? = some (a, true) ∧ ∃ vs, H a = some (.lst vs) ∧ Rvs K ρ H xs vs := by
  obtain ⟨a', h1, r⟩ := s.obj l _ h
  have h2 := h1
  rw [hl] at h1
  injection h1 with h1
  injection h1 with e1 e2
  subst e1
  exact ⟨h2, r⟩
theorem Rs.lst1 (s : Rs G K ρ st H) {d : D} {v : V} {xs : List D} (r : Rv K ρ H d v) (h : Z.lst1 st d = some xs) : ∃ a vs, v = .ref a ∧ H a = some (.lst vs) ∧ Rvs K ρ H xs vs := by
  cases r with
  | flst t q => cases h; exact ⟨_, _, rfl, t.2, q⟩
  | loc hl =>
    have h : (match st[_]? with | some (DO.lst xs) => some xs | _ => none) = some xs := h
    split at h
    · rename_i ys hx
      cases h
      obtain ⟨_, vs, g1, g2⟩ := s.lst hl hx
      exact ⟨_, vs, rfl, g1, g2⟩
    · cases h
  | _ => cases h
end

/-! ## the operations -/
section
variable {G : GC} {X : Cx} {ρ : Tk} {H : Hp} {st : Store} {W : Value → Option Addr → Hp → Prop}
abbrev Val1 (K : PySem.W.Frag) (Q : VK) : D → Store → Tk → Hp → Prop := fun d _ ρ' H' => ∀ v, Rv K ρ' H' d v → Q v H'
/-- a two-place operation by data -/
def OpD (G : GC) (X : Cx) (o : Op) (r : R2) : Prop := ∀ (W : Value → Option Addr → Hp → Prop) (ρ : Tk) (st : Store) (H : Hp) (d e : D) (x y : V) (Q : VK), Rs G X.K ρ st H → Rv X.K ρ H d x → Rv X.K ρ H e y →
  Lf G X.K W ρ H (opSem o [d, e] st) (Val1 X.K Q) → r x y H Q
theorem sz_eq : SZ = sizeLine := by rw [sizeLine_eq]; rfl
theorem okv {K : PySem.W.Frag} {d : D} {v : V} {Q : VK} (h : Lf G K W ρ H (R.ok d st) (Val1 K Q)) (s : Rs G K ρ st H) (r : Rv K ρ H d v) : Q v H := h ρ H Ext.refl s v r
theorem okt {K : PySem.W.Frag} {ds : List D} {vs : List V} {p : Addr} {Q : VK} (h : Lf G K W ρ H (R.ok (.tup ds) st) (Val1 K Q)) (s : Rs G K ρ st H) (r : Rvs K ρ H ds vs) (hp : H p = none) : Q (.ref p) (upd H p (.tup vs)) :=
  h ρ _ (Ext.new hp) (s.new hp) _ (.tup (.inl (.inl upd_same)) (r.ext (Ext.new hp)))
theorem okl {K : PySem.W.Frag} {ds : List D} {vs : List V} {p : Addr} {Q : VK} (h : Lf G K W ρ H (R.ok (.loc st.length) (st ++ [.lst ds])) (Val1 K Q)) (s : Rs G K ρ st H) (r : Rvs K ρ H ds vs) (hp : H p = none) : Q (.ref p) (upd H p (.lst vs)) := by
  refine h (ρ ++ [(p, true)]) _ (Ext.alloc hp) (s.alloc hp rfl ⟨vs, upd_same, r.ext (Ext.alloc hp)⟩) _ (.loc (b := true) ?_)
  rw [← s.len, List.getElem?_append_right (Nat.le_refl _), Nat.sub_self]
  rfl
theorem okf {K : PySem.W.Frag} {ds : List D} {vs : List V} {p : Addr} {Q : VK} (h : Lf G K W ρ H (R.ok (.flst ds) st) (Val1 K Q)) (s : Rs G K ρ st H) (r : Rvs K ρ H ds vs) (hp : H p = none) : Q (.ref p) (upd H p (.lst vs)) :=
  h ρ _ (Ext.new hp) (s.new hp) _ (.flst ⟨s.fresh hp, upd_same⟩ (r.ext (Ext.new hp)))
theorem od_add : OpD G X .add (fun x y H Q => (∃ i j, x = .int i ∧ y = .int j ∧ Q (.int (i + j)) H) ∨ (∃ i j, x = .str i ∧ y = .str j ∧ i.length + j.length ≤ sizeLine ∧ Q (.str (i ++ j)) H) ∨ rCatA X.K x y H Q ∨ rCat x y H Q) := by
  intro W ρ st H d e x y Q s rx ry h0
  have h : Lf G X.K W ρ H (addSem d e st) (Val1 X.K Q) := h0
  clear h0
  unfold addSem at h
  split at h
  · cases rx; cases ry
    exact .inl ⟨_, _, rfl, rfl, okv h s (.int _)⟩
  · rename_i a b
    cases rx; cases ry
    by_cases hz : a.length + b.length ≤ SZ
    · rw [if_pos hz] at h
      refine .inr (.inl ⟨_, _, rfl, rfl, ?_, ?_⟩)
      · show a.toArray.size + b.toArray.size ≤ sizeLine
        rw [← sz_eq]; simpa using hz
      · have e : (⟨a.toArray⟩ : Str) ++ ⟨b.toArray⟩ = ⟨(a ++ b).toArray⟩ := by
          show (⟨a.toArray ++ b.toArray⟩ : Str) = _
          simp
        rw [e]
        exact okv h s (.str _)
    · rw [if_neg hz] at h
      exact h.elim
  · rename_i ds es
    cases rx with
    | @tup a xs _ t1 r1 =>
    cases ry with
    | @tup b ys _ t2 r2 =>
    by_cases hz : ds.length + es.length ≤ SZ
    · rw [if_pos hz] at h
      refine .inr (.inr (.inl ⟨a, b, xs, ys, rfl, rfl, t1, t2, by rw [← r1.length, ← r2.length, ← sz_eq]; exact hz, fun e => ?_, fun _ e => ?_, fun _ _ p hp => okt h s (r1.append r2) hp⟩))
      · subst e
        cases r1
        exact okv h s (.tup t2 r2)
      · subst e
        cases r2
        rw [List.append_nil] at h
        exact okv h s (.tup t1 r1)
    · rw [if_neg hz] at h
      exact h.elim
  · split at h
    · rename_i xs e1
      split at h
      · rename_i ys e2
        by_cases hz : xs.length + ys.length ≤ SZ
        · rw [if_pos hz] at h
          obtain ⟨a, vs, rfl, g1, g2⟩ := s.lst1 rx e1
          obtain ⟨b, us, rfl, g3, g4⟩ := s.lst1 ry e2
          exact .inr (.inr (.inr ⟨a, b, vs, us, rfl, rfl, g1, g3, by rw [← g2.length, ← g4.length, ← sz_eq]; exact hz, fun p hp => okl h s (g2.append g4) hp⟩))
        · rw [if_neg hz] at h
          exact h.elim
      · exact h.elim
    · exact h.elim
theorem op_addZ : OpR X (binaryOp .Add) (fun x y H Q => (∃ i j, x = .int i ∧ y = .int j ∧ Q (.int (i + j)) H) ∨ (∃ i j, x = .str i ∧ y = .str j ∧ i.length + j.length ≤ sizeLine ∧ Q (.str (i ++ j)) H) ∨ rCatA X.K x y H Q ∨ rCat x y H Q) :=
  OpR.or op_add (OpR.or op_add_str (OpR.or op_catA op_cat))
theorem od_int {o : Op} {C : Int → Int → Prop} {g : Int → Int → D} {gv : Int → Int → V} (hg : ∀ i j ρ H, Rv X.K ρ H (g i j) (gv i j)) (hn : ∀ d e st, (∀ i j, ¬ (d = .int i ∧ e = .int j)) → opSem o [d, e] st = .bad)
    (hi : ∀ i j st, (C i j ∧ opSem o [.int i, .int j] st = .ok (g i j) st) ∨ opSem o [.int i, .int j] st = .bad) : OpD G X o (rI C gv) := by
  intro W ρ st H d e x y Q s rx ry h
  by_cases q : ∃ i j, d = .int i ∧ e = .int j
  · obtain ⟨i, j, rfl, rfl⟩ := q
    cases rx; cases ry
    rcases hi i j st with ⟨c, z⟩ | z
    · rw [z] at h
      exact ⟨i, j, rfl, rfl, c, okv h s (hg i j ρ H)⟩
    · rw [z] at h
      exact h.elim
  · rw [hn d e st fun i j z => q ⟨i, j, z⟩] at h
    exact h.elim
theorem od_sub : OpD G X .sub (rI (fun _ _ => True) fun i j => .int (i - j)) :=
  od_int (g := fun i j => .int (i - j)) (fun _ _ _ _ => .int _) (fun d e st h => by cases d <;> cases e <;> first | rfl | exact absurd ⟨rfl, rfl⟩ (h _ _)) fun i j st => .inl ⟨trivial, rfl⟩
theorem op_subZ : OpR X (binaryOp .Sub) (rI (fun _ _ => True) fun i j => .int (i - j)) := fun pins s σ H x y v u Q I rx ry ⟨i, j, hx, hy, _, q⟩ => op_sub pins s σ H x y v u Q I rx ry ⟨i, j, hx, hy, q⟩
theorem rep_cps (x : Array Nat) (n : Nat) : (List.replicate n x).foldl (· ++ ·) #[] = ((List.replicate n x.toList).flatten).toArray := by
  have : ∀ (n : Nat) (acc : Array Nat), (List.replicate n x).foldl (· ++ ·) acc = acc ++ ((List.replicate n x.toList).flatten).toArray := by
    intro n
    induction n with
    | zero => intro acc; simp
    | succ n ih =>
      intro acc
      rw [List.replicate_succ, List.foldl_cons, ih, List.replicate_succ, List.flatten_cons]
      apply Array.toList_inj.mp
      simp
  rw [this]; simp
def rMulS : R2 := fun x y H Q => ∃ (s : List Nat) (n : Int), x = .str ⟨s.toArray⟩ ∧ y = .int n ∧ ((n < 1 ∧ -9223372036854775808 ≤ n ∧ Q (.str ⟨([] : List Nat).toArray⟩) H) ∨ (¬ n < 1 ∧ s.length * n.toNat ≤ sizeLine ∧ n < 9223372036854775808 ∧ Q (.str ⟨((List.replicate n.toNat s).flatten).toArray⟩) H))
theorem op_mulS : OpR X (binaryOp .Mult) rMulS := by
  intro pins s σ H x y v u Q I rx ry ⟨z, n, hx, hy, q⟩
  subst hx hy
  obtain ⟨t, rfl⟩ := rx
  obtain ⟨t', rfl⟩ := ry
  rcases q with ⟨h1, h2, q⟩ | ⟨h1, h2, h3, q⟩
  · exact P.mul_str_none h1 (by omega) ⟨.str ⟨([] : List Nat).toArray⟩, H, I.tok _, ⟨_, rfl⟩, q⟩
  · have hz : (⟨z.toArray⟩ : Str).length = z.length := List.size_toArray
    have hb2 : (decide (n < -(2 ^ 63 : Int)) || decide (n ≥ 2 ^ 63)) = false := by
      have g1 : ¬ n < -(2 ^ 63 : Int) := by omega
      have g2 : ¬ n ≥ 2 ^ 63 := by omega
      rw [decide_eq_false g1, decide_eq_false g2]; rfl
    refine P.mul_str hb2 (fun _ _ => ?_) (fun _ _ => ?_) ?_
    · rw [hz]
      have h4 : z.length * n.toNat ≤ 16777216 := by rw [sizeLine_eq] at h2; exact h2
      have h5 : (z.length : Int) * n ≤ 16777216 := by
        have e : (z.length : Int) * n = ((z.length * n.toNat : Nat) : Int) := by
          rw [Int.natCast_mul, Int.toNat_of_nonneg (by omega)]
        rw [e]
        exact (Int.ofNat_le (n := 16777216)).mpr h4
      have h6 : (z.length : Int) ≤ (2 ^ 63 - 1) / n := (Int.le_ediv_iff_mul_le (by omega)).mpr (by omega)
      omega
    · rw [hz]
      unfold Builtin.Str.tooLong
      rw [decide_eq_false (Nat.not_lt.mpr h2)]
    · rw [if_neg h1]
      by_cases hc : (n == 1 || (⟨z.toArray⟩ : Str).length == 0) = true
      · rw [if_pos hc]
        have e : (List.replicate n.toNat z).flatten = z := by
          rw [Bool.or_eq_true, beq_iff_eq, beq_iff_eq, hz] at hc
          rcases hc with rfl | hc
          · simp
          · have : z = [] := List.length_eq_zero_iff.mp hc
            subst this; simp
        rw [e] at q
        exact ⟨.str ⟨z.toArray⟩, H, I, ⟨_, rfl⟩, q⟩
      · rw [if_neg hc, rep_cps]
        refine ⟨?_, .str ⟨((List.replicate n.toNat z).flatten).toArray⟩, H, I.tok _, ⟨_, rfl⟩, q⟩
        show ((List.replicate n.toNat z).flatten.toArray).size ≤ sizeLine
        rw [List.size_toArray, List.length_flatten, List.map_replicate, List.sum_replicate_nat, Nat.mul_comm]
        exact h2
def rMulZ : R2 := fun x y H Q => rI CMul (fun i j => .int (i * j)) x y H Q ∨ rMulS x y H Q ∨ rRep x y H Q
theorem op_mulZ : OpR X (binaryOp .Mult) rMulZ := OpR.or op_mul (OpR.or op_mulS op_rep)
theorem rvs_rep {K : PySem.W.Frag} {xs : List D} {vs : List V} (h : Rvs K ρ H xs vs) : ∀ n : Nat, Rvs K ρ H (List.replicate n xs).flatten (List.replicate n vs).flatten
  | 0 => .nil
  | n + 1 => by
    rw [List.replicate_succ, List.replicate_succ, List.flatten_cons, List.flatten_cons]
    exact h.append (rvs_rep h n)
theorem od_mul : OpD G X .mul rMulZ := by
  intro W ρ st H d e x y Q s rx ry h
  have lsts : ∀ {d : D} {x : V} {n : Int}, Rv X.K ρ H d x → Lf G X.K W ρ H (match lst1 st d with | some xs => if -9223372036854775808 ≤ n ∧ n < 9223372036854775808 ∧ xs.length * n.toNat ≤ SZ then .ok (.loc st.length) (st ++ [.lst (List.replicate n.toNat xs).flatten]) else .bad | none => .bad) (Val1 X.K Q) → rRep x (.int n) H Q := fun {d x n} rx h => by
    split at h
    · rename_i xs hx
      by_cases h2 : -9223372036854775808 ≤ n ∧ n < 9223372036854775808 ∧ xs.length * n.toNat ≤ SZ
      · rw [if_pos h2] at h
        obtain ⟨a, vs, rfl, h3, h4⟩ := s.lst1 rx hx
        exact ⟨a, n, vs, rfl, rfl, h3, h2.1, h2.2.1, by rw [← h4.length, ← sz_eq]; exact h2.2.2, fun p hp => okl h s (rvs_rep h4 _) hp⟩
      · rw [if_neg h2] at h; exact h.elim
    · exact h.elim
  cases ry with
  | int n =>
    cases d with
    | int i =>
      cases rx
      have h : Lf G X.K W ρ H (if (big64 i || big64 n) = true then R.ok (D.int (i * n)) st else .bad) (Val1 X.K Q) := h
      by_cases hb : (big64 i || big64 n) = true
      · rw [if_pos hb] at h
        unfold big64 at hb
        rw [Bool.or_eq_true, Bool.and_eq_true, Bool.and_eq_true] at hb
        simp only [decide_eq_true_eq] at hb
        exact .inl ⟨i, n, rfl, rfl, hb, okv h s (.int _)⟩
      · rw [if_neg hb] at h; exact h.elim
    | str z =>
      cases rx
      have h : Lf G X.K W ρ H (if n < 1 then (if -9223372036854775808 ≤ n then .ok (.str []) st else .bad) else if z.length * n.toNat ≤ SZ ∧ n < 9223372036854775808 then .ok (.str (List.replicate n.toNat z).flatten) st else .bad) (Val1 X.K Q) := h
      refine .inr (.inl ⟨z, n, rfl, rfl, ?_⟩)
      by_cases h1 : n < 1
      · rw [if_pos h1] at h
        by_cases h2 : -9223372036854775808 ≤ n
        · rw [if_pos h2] at h
          exact .inl ⟨h1, h2, okv h s (.str _)⟩
        · rw [if_neg h2] at h; exact h.elim
      · rw [if_neg h1] at h
        by_cases h2 : z.length * n.toNat ≤ SZ ∧ n < 9223372036854775808
        · rw [if_pos h2] at h
          exact .inr ⟨h1, by rw [← sz_eq]; exact h2.1, h2.2, okv h s (.str _)⟩
        · rw [if_neg h2] at h; exact h.elim
    | _ => exact .inr (.inr (lsts rx h))
  | _ => cases d <;> exact h.elim
theorem od_mod : OpD G X .mod (rI (fun _ j => 0 < j) fun i j => .int (i % j)) :=
  od_int (g := fun i j => .int (i % j)) (fun _ _ _ _ => .int _) (fun d e st h => by cases d <;> cases e <;> first | rfl | exact absurd ⟨rfl, rfl⟩ (h _ _)) fun i j st => by
    show (0 < j ∧ (if 0 < j then R.ok (D.int (i % j)) st else .bad) = _) ∨ (if 0 < j then R.ok (D.int (i % j)) st else .bad) = _
    by_cases hb : 0 < j
    · exact .inl ⟨hb, if_pos hb⟩
    · exact .inr (if_neg hb)
def CDivB (_ j : Int) : Prop := 0 < j ∧ j < 4611686018427387904
theorem op_fdivB {X : Cx} : OpR X (binaryOp .FloorDiv) (rI CDivB fun i j => .int (i / j)) := by
  intro pins s σ H x y v u Q I rx ry h
  obtain ⟨i, j, e1, e2, c, q⟩ := h
  exact op_fdivW pins s σ H x y v u Q I rx ry ⟨i, j, e1, e2, wide_div (b := 62) c.1 (by have := c.1; have := c.2; omega) (by decide) (by decide), q⟩
theorem od_fdiv : OpD G X .fdiv (rI CDivB fun i j => .int (i / j)) :=
  od_int (g := fun i j => .int (i / j)) (fun _ _ _ _ => .int _) (fun d e st h => by cases d <;> cases e <;> first | rfl | exact absurd ⟨rfl, rfl⟩ (h _ _)) fun i j st => by
    show (CDivB i j ∧ (if 0 < j ∧ j < 4611686018427387904 then R.ok (D.int (i / j)) st else .bad) = _) ∨ (if 0 < j ∧ j < 4611686018427387904 then R.ok (D.int (i / j)) st else .bad) = _
    by_cases hb : 0 < j ∧ j < 4611686018427387904
    · exact .inl ⟨hb, if_pos hb⟩
    · exact .inr (if_neg hb)
theorem od_pow : OpD G X .pow (rI CPow fun i j => .int (i ^ j.toNat)) :=
  od_int (g := fun i j => .int (i ^ j.toNat)) (fun _ _ _ _ => .int _) (fun d e st h => by cases d <;> cases e <;> first | rfl | exact absurd ⟨rfl, rfl⟩ (h _ _)) fun i j st => by
    show (CPow i j ∧ (if (0 ≤ j ∧ j ≤ 1000000) ∧ i.natAbs < 2 ^ 64 then R.ok (D.int (i ^ j.toNat)) st else .bad) = _) ∨ (if (0 ≤ j ∧ j ≤ 1000000) ∧ i.natAbs < 2 ^ 64 then R.ok (D.int (i ^ j.toNat)) st else .bad) = _
    by_cases hb : (0 ≤ j ∧ j ≤ 1000000) ∧ i.natAbs < 2 ^ 64
    · exact .inl ⟨⟨hb.1.1, hb.1.2, hb.2⟩, if_pos hb⟩
    · exact .inr (if_neg hb)
def rCmpI (o : Op) : R2 := rI (fun _ _ => True) fun i j => .bl ((cmpI o i j).getD false)
theorem od_cmp {o : Op} (ho : o = .lt ∨ o = .le ∨ o = .gt ∨ o = .ge) : OpD G X o (rCmpI o) := by
  rcases ho with rfl | rfl | rfl | rfl <;>
  exact od_int (g := fun i j => .bl ((cmpI _ i j).getD false)) (fun _ _ _ _ => .bl _) (fun d e st h => by cases d <;> cases e <;> first | rfl | exact absurd ⟨rfl, rfl⟩ (h _ _)) fun i j st => .inl ⟨trivial, rfl⟩
theorem op_cmpZ {op : CmpOp} {o : Op} (h : opCmp op = some o) (ho : o = .lt ∨ o = .le ∨ o = .gt ∨ o = .ge) : OpR X (compareOp op) (rCmpI o) := by
  intro pins s σ H x y v u Q I rx ry ⟨i, j, hx, hy, _, q⟩
  cases op <;> cases h <;> first
    | exact op_lt pins s σ H x y v u Q I rx ry ⟨i, j, hx, hy, q⟩
    | exact op_le pins s σ H x y v u Q I rx ry ⟨i, j, hx, hy, q⟩
    | exact op_gt pins s σ H x y v u Q I rx ry ⟨i, j, hx, hy, q⟩
    | exact op_ge pins s σ H x y v u Q I rx ry ⟨i, j, hx, hy, q⟩
    | (rcases ho with z | z | z | z <;> cases z)

/-! ### == and is -/
def rEqZ (K : PySem.W.Frag) (neg : Bool) : R2 := fun x y H Q => ∃ d e, Dp K H x (py d) ∧ Dp K H y (py e) ∧ min (deepD d) (deepD e) ≤ 60 ∧ Q (.bl (if neg then !eqD d e else eqD d e)) H
theorem od_eq : OpD G X .eq (rEqZ X.K false) := by
  intro W ρ st H d e x y Q s rx ry h
  have h : Lf G X.K W ρ H (match eqSem d e st with | some k => R.ok (D.bl k) st | none => .bad) (Val1 X.K Q) := h
  unfold eqSem at h
  cases hd : pureD st d with
  | none => rw [hd] at h; exact h.elim
  | some d' =>
    cases he : pureD st e with
    | none => rw [hd, he] at h; exact h.elim
    | some e' =>
      rw [hd, he] at h
      by_cases hz : min (deepD d') (deepD e') ≤ 60
      · simp only [if_pos hz] at h
        exact ⟨d', e', dp_pure s rx hd, dp_pure s ry he, hz, okv h s (.bl _)⟩
      · simp only [if_neg hz] at h
        exact h.elim
theorem od_ne : OpD G X .ne (rEqZ X.K true) := by
  intro W ρ st H d e x y Q s rx ry h
  have h : Lf G X.K W ρ H (match eqSem d e st with | some k => R.ok (D.bl (!k)) st | none => .bad) (Val1 X.K Q) := h
  unfold eqSem at h
  cases hd : pureD st d with
  | none => rw [hd] at h; exact h.elim
  | some d' =>
    cases he : pureD st e with
    | none => rw [hd, he] at h; exact h.elim
    | some e' =>
      rw [hd, he] at h
      by_cases hz : min (deepD d') (deepD e') ≤ 60
      · simp only [if_pos hz] at h
        exact ⟨d', e', dp_pure s rx hd, dp_pure s ry he, hz, okv h s (.bl _)⟩
      · simp only [if_neg hz] at h
        exact h.elim
theorem op_eqZ (hu : X.A.units + 64 < cLine) : OpR X (compareOp .Eq) (rEqZ X.K false) := by
  intro pins s σ H x y v u Q I rx ry ⟨d, e, hd, he, hz, q⟩
  obtain ⟨as, ra⟩ := Dp.reads I _ _ _ hd rx
  obtain ⟨bs, rb⟩ := Dp.reads I _ _ _ he ry
  have hb := (both_nd (py d) (py e) X.A s v u _ _ ra rb (nd_py d) (nd_py e) (by rw [deep_py, deep_py]; omega)).2
  rw [eqv_py] at hb
  exact hb X.prog X.w X.xe _ ⟨.bl (eqD d e), H, I, rfl, q⟩
theorem op_neZ (hu : X.A.units + 64 < cLine) : OpR X (compareOp .NotEq) (rEqZ X.K true) := by
  intro pins s σ H x y v u Q I rx ry ⟨d, e, hd, he, hz, q⟩
  obtain ⟨as, ra⟩ := Dp.reads I _ _ _ hd rx
  obtain ⟨bs, rb⟩ := Dp.reads I _ _ _ he ry
  have hb := ne_nd (A := X.A) ra rb (nd_py d) (nd_py e) (by rw [deep_py, deep_py]; omega)
  rw [eqv_py] at hb
  exact hb X.prog X.w X.xe _ ⟨.bl (!eqD d e), H, I, rfl, q⟩
end
end Z

set_option autoImplicit false
set_option maxHeartbeats 1000000
namespace Z
open PySem PySem.Spec PyProof.Rows L2

section
variable {G : GC} {X : Cx} {ρ : Tk} {H : Hp} {st : Store} {W : Value → Option Addr → Hp → Prop}
/-! ### is -/
def rIsZ (neg : Bool) : R2 := fun x y H Q => (y = .non ∧ Q (.bl (if neg then !decide (x = .non) else decide (x = .non))) H) ∨ ∃ a b : Bool, x = .bl a ∧ y = .bl b ∧ Q (.bl (if neg then !decide (a = b) else decide (a = b))) H
theorem od_is : OpD G X .is (rIsZ false) := by
  intro W ρ st H d e x y Q s rx ry h
  cases ry with
  | non =>
    refine .inl ⟨rfl, ?_⟩
    cases rx <;> exact okv h s (.bl _)
  | bl b =>
    cases rx with
    | bl a =>
      refine .inr ⟨a, b, rfl, rfl, ?_⟩
      have e : (if false = true then !decide (a = b) else decide (a = b)) = (a == b) := by cases a <;> cases b <;> rfl
      rw [e]
      exact okv h s (.bl _)
    | _ => exact h.elim
  | _ => cases rx <;> exact h.elim
theorem od_isnot : OpD G X .isnot (rIsZ true) := by
  intro W ρ st H d e x y Q s rx ry h
  cases ry with
  | non =>
    refine .inl ⟨rfl, ?_⟩
    cases rx <;> exact okv h s (.bl _)
  | bl b =>
    cases rx with
    | bl a =>
      refine .inr ⟨a, b, rfl, rfl, ?_⟩
      have e : (if true = true then !decide (a = b) else decide (a = b)) = (a != b) := by cases a <;> cases b <;> rfl
      rw [e]
      exact okv h s (.bl _)
    | _ => exact h.elim
  | _ => cases rx <;> exact h.elim
theorem op_isZ : OpR X (compareOp .Is) (rIsZ false) := OpR.or op_isN op_isBl
theorem op_isnotZ : OpR X (compareOp .IsNot) (rIsZ true) := OpR.or op_notN op_notBl

/-! ### items -/
theorem items_seq {K : PySem.W.Frag} (s : Rs G K ρ st H) {d : D} {v : V} {xs : List D} (r : Rv K ρ H d v) (e : itemsD st d = some xs) : ∃ a vs, v = .ref a ∧ (SqL K H a vs ∨ SqT K H a vs) ∧ Rvs K ρ H xs vs := by
  cases r with
  | tup t q => cases e; exact ⟨_, _, rfl, .inr t, q⟩
  | flst t q => cases e; exact ⟨_, _, rfl, .inl t.sq, q⟩
  | slst t q => cases e; exact ⟨_, _, rfl, .inl t.sq, q⟩
  | @loc l a b h =>
    have e : (match st[l]? with | some (.lst xs) => some xs | _ => none) = some xs := e
    split at e
    · rename_i ys hl
      cases e
      obtain ⟨_, vs, h2, h3⟩ := s.lst h hl
      exact ⟨a, vs, rfl, .inl (.inl (.inl h2)), h3⟩
    · cases e
  | _ => cases e
/-- a call by values -/
def OpV (G : GC) (X : Cx) (o : Op) (r : List V → Hp → VK → Prop) : Prop := ∀ (W : Value → Option Addr → Hp → Prop) (ρ : Tk) (st : Store) (H : Hp) (ds : List D) (vs : List V) (Q : VK), Rs G X.K ρ st H → Rvs X.K ρ H ds vs →
  Lf G X.K W ρ H (opSem o ds st) (Val1 X.K Q) → r vs H Q
theorem of_match_items {K : PySem.W.Frag} {xs : Option (List D)} {f : List D → R D} {P : D → Store → Tk → Hp → Prop} (h : Lf G K W ρ H (match xs with | some ys => f ys | none => .bad) P) : ∃ ys, xs = some ys ∧ Lf G K W ρ H (f ys) P := by
  cases xs with
  | none => exact h.elim
  | some ys => exact ⟨ys, rfl, h⟩
theorem of_ite {K : PySem.W.Frag} {c : Prop} [Decidable c] {r : R D} {P : D → Store → Tk → Hp → Prop} (h : Lf G K W ρ H (if c then r else .bad) P) : c ∧ Lf G K W ρ H r P := by
  by_cases q : c
  · rw [if_pos q] at h; exact ⟨q, h⟩
  · rw [if_neg q] at h; exact h.elim
theorem ov_len : OpV G X .len (fun xs H Q => ∃ x n, xs = [x] ∧ LenV X.K x H n ∧ Q (.int n) H) := by
  intro W ρ st H ds vs Q s r h
  match ds, vs, r with
  | [d], [v], .cons rd .nil =>
    have h : Lf G X.K W ρ H (lenSem d st) (Val1 X.K Q) := h
    cases rd with
    | str z =>
      have h : Lf G X.K W ρ H (if z.length ≤ SZ then .ok (.int z.length) st else .bad) (Val1 X.K Q) := h
      obtain ⟨hz, h⟩ := of_ite h
      exact ⟨_, z.length, rfl, ⟨by rw [← sz_eq]; simpa [Str.length] using hz, by simp [Str.length]⟩, okv h s (.int _)⟩
    | tup t q =>
      exact ⟨_, _, rfl, .inr ⟨_, t, rfl⟩, by rw [← q.length]; exact okv h s (.int _)⟩
    | slst t q =>
      exact ⟨_, _, rfl, .inl ⟨_, t.sq, rfl⟩, by rw [← q.length]; exact okv h s (.int _)⟩
    | flst t q =>
      exact ⟨_, _, rfl, .inl ⟨_, t.sq, rfl⟩, by rw [← q.length]; exact okv h s (.int _)⟩
    | @loc l a b hl =>
      obtain ⟨ys, e, h⟩ := of_match_items (xs := itemsD st (.loc l)) (f := fun ys => .ok (.int ys.length) st) h
      obtain ⟨a', us, ea, sq, q⟩ := items_seq s (.loc hl) e
      cases ea
      refine ⟨_, us.length, rfl, ?_, by rw [← q.length]; exact okv h s (.int _)⟩
      rcases sq with sq | sq
      · exact .inl ⟨us, sq, rfl⟩
      · exact .inr ⟨us, sq, rfl⟩
    | _ => exact h.elim
  | [], _, _ => exact h.elim
  | _ :: _ :: _, _, _ => exact h.elim
theorem ov_toTup : OpV G X .toTup (fun xs H Q => ∃ p ys, xs = [.ref p] ∧ ((SqL X.K H p ys ∧ ∀ l, H l = none → Q (.ref l) (upd H l (.tup ys))) ∨ (SqT X.K H p ys ∧ Q (.ref p) H))) := by
  intro W ρ st H ds vs Q s r h
  match ds, vs, r with
  | [d], [v], .cons rd .nil =>
    obtain ⟨ys, e, h⟩ := of_match_items (xs := itemsD st d) (f := fun ys => .ok (.tup ys) st) h
    obtain ⟨a', us, ea, sq, q⟩ := items_seq s rd e
    cases ea
    refine ⟨a', us, rfl, ?_⟩
    rcases sq with sq | sq
    · exact .inl ⟨sq, fun l hl => okt h s q hl⟩
    · exact .inr ⟨sq, okv h s (.tup sq q)⟩
  | [], _, _ => exact h.elim
  | _ :: _ :: _, _, _ => exact h.elim
theorem ov_toInt : OpV G X .toInt (fun xs H Q => (∃ i, xs = [.int i] ∧ Q (.int i) H) ∨ ∃ k, xs = [.bl k] ∧ Q (.int (if k then 1 else 0)) H) := by
  intro W ρ st H ds vs Q s r h
  match ds, vs, r with
  | [d], [v], .cons rd .nil =>
    cases rd with
    | int i => exact .inl ⟨i, rfl, okv h s (.int _)⟩
    | bl b => exact .inr ⟨b, rfl, okv h s (.int _)⟩
    | _ => exact h.elim
  | [], _, _ => exact h.elim
  | d :: _ :: _, _, _ => revert h; cases d <;> exact fun h => h.elim
theorem kit_all (a b : Ty) : kitB (tyName a) (tyName b) = some (isTy a b) := by cases a <;> cases b <;> decide +kernel
theorem ty_of {K : PySem.W.Frag} (s : Rs G K ρ st H) {d : D} {v : V} {t : Ty} (r : Rv K ρ H d v) (e : tyD st d = some t) : TyX K H v (.type (tyName t)) := by
  cases r with
  | bl b => cases e; exact .base (.bl b)
  | int i => cases e; exact .base (.int i)
  | str x => cases e; exact .base (.str _)
  | tup h q =>
    cases e
    rcases h with (h | ⟨o, h⟩) | ⟨o, its, n, h, c, _⟩
    · exact .base (.tup h)
    · exact .fTuple h
    · exact .kTuple h c
  | flst h q => cases e; exact .base (.lst h.2)
  | @loc l a b h =>
    have e : (match st[l]? with | some (.lst _) => some Ty.list | _ => none) = some t := e
    split at e
    · rename_i ys hl
      cases e
      obtain ⟨_, vs, h2, h3⟩ := s.lst h hl
      exact .base (.lst h2)
    · cases e
  | _ => cases e
/-! ### a[i], a[lo:hi] -/
theorem atI_rv {K : PySem.W.Frag} {xs : List D} {vs : List V} {i : Int} {d : D} (q : Rvs K ρ H xs vs) (e : atI xs i = some d) : ∃ v, atI vs i = some v ∧ Rv K ρ H d v := by
  unfold atI at e ⊢
  rw [← q.length]
  cases h : ixN xs.length i with
  | none => rw [h] at e; cases e
  | some j =>
    rw [h] at e
    exact q.get e
theorem od_ix : OpD G X .ix (rIx X.K) := by
  intro W ρ st H d e x y Q s rx ry h
  cases ry with
  | int i =>
    have h : Lf G X.K W ρ H (ixSem d i st) (Val1 X.K Q) := h
    have sq : ∀ {f : List D → R D}, (∀ ys, f ys = (match atI ys i with | some z => .ok z st | none => .bad)) → Lf G X.K W ρ H (match itemsD st d with | some ys => f ys | none => .bad) (Val1 X.K Q) → rIx X.K x (.int i) H Q := fun {f} hf h => by
      obtain ⟨ys, e, h⟩ := of_match_items h
      rw [hf] at h
      obtain ⟨a', us, ea, sq, q⟩ := items_seq s rx e
      subst ea
      cases z : atI ys i with
      | none => rw [z] at h; exact h.elim
      | some d' =>
        rw [z] at h
        obtain ⟨v, ev, rv⟩ := atI_rv q z
        rcases sq with sq | sq
        · exact .inl ⟨a', us, i, v, rfl, rfl, sq, ev, okv h s rv⟩
        · exact .inr (.inl ⟨a', us, i, v, rfl, rfl, sq, ev, okv h s rv⟩)
    cases d with
    | str z =>
      cases rx
      have h : Lf G X.K W ρ H (if z.length ≤ SZ then (match atI z i with | some c => .ok (.str [c]) st | none => .bad) else .bad) (Val1 X.K Q) := h
      obtain ⟨hz, h⟩ := of_ite h
      cases q : atI z i with
      | none => rw [q] at h; exact h.elim
      | some c =>
        rw [q] at h
        exact .inr (.inr ⟨⟨z.toArray⟩, i, c, rfl, rfl, by rw [← sz_eq]; simpa [Str.length] using hz, q, okv h s (.str [c])⟩)
    | _ => exact sq (fun _ => rfl) h
  | _ => cases rx <;> exact h.elim
theorem cut_rv {K : PySem.W.Frag} {xs : List D} {vs : List V} {lo hi : Option Int} (q : Rvs K ρ H xs vs) : Rvs K ρ H (cutD xs lo hi) (cutV vs lo hi) := by
  unfold cutD cutV
  rw [← q.length]
  exact (q.drop _).take _
def rSlZ (K : PySem.W.Frag) : V → Option Int → Option Int → Hp → VK → Prop := fun x lo hi H Q => (∃ z, x = .str z ∧ z.length ≤ sizeLine ∧ Q (.str (cutS z lo hi)) H) ∨ rSlA K x lo hi H Q ∨ rSlL K x lo hi H Q
theorem sl_Z : SlR X (rSlZ X.K) := SlR.or sl_str (SlR.or sl_tupA sl_list)
theorem od_sl {d : D} {x : V} {lo hi : Option Int} {Q : VK} (s : Rs G X.K ρ st H) (rx : Rv X.K ρ H d x) (h : Lf G X.K W ρ H (slSem d lo hi st) (Val1 X.K Q)) : rSlZ X.K x lo hi H Q := by
  cases rx with
  | str z =>
    have h : Lf G X.K W ρ H (if z.length ≤ SZ then .ok (.str (cutD z lo hi)) st else .bad) (Val1 X.K Q) := h
    obtain ⟨hz, h⟩ := of_ite h
    refine .inl ⟨_, rfl, by rw [← sz_eq]; simpa [Str.length] using hz, ?_⟩
    have e : cutS ⟨z.toArray⟩ lo hi = ⟨(cutD z lo hi).toArray⟩ := by
      unfold cutS cutD
      simp [Str.length]
    rw [e]
    exact okv h s (.str _)
  | @tup a vs ds t q =>
    refine .inr (.inl ⟨a, vs, rfl, t, fun hw => ?_, fun _ p hp => okt h s (cut_rv q) hp⟩)
    have e : cutD ds lo hi = ds := by
      unfold cutD
      rw [q.length, hw.1, hw.2, List.drop_zero, Nat.sub_zero, ← q.length, List.take_length]
    have h : Lf G X.K W ρ H (.ok (.tup (cutD ds lo hi)) st) (Val1 X.K Q) := h
    rw [e] at h
    exact okv h s (.tup t q)
  | @loc l a b hl =>
    have h : Lf G X.K W ρ H (match st[l]? with | some (.lst xs) => .ok (.loc st.length) (st ++ [.lst (cutD xs lo hi)]) | _ => .bad) (Val1 X.K Q) := h
    split at h
    · rename_i ys hy
      obtain ⟨_, vs, h2, h3⟩ := s.lst hl hy
      exact .inr (.inr ⟨a, vs, rfl, .inl (.inl h2), fun p hp => okl h s (cut_rv h3) hp⟩)
    · exact h.elim
  | @flst a vs ds t q => exact .inr (.inr ⟨a, vs, rfl, t.sq, fun p hp => okl h s (cut_rv q) hp⟩)
  | @slst a vs ds t q => exact .inr (.inr ⟨a, vs, rfl, t.sq, fun p hp => okl h s (cut_rv q) hp⟩)
  | _ => exact h.elim
end
end Z

set_option autoImplicit false
set_option maxHeartbeats 1000000
namespace Z
open PySem PySem.Spec PyProof.Rows L2

section
variable {G : GC} {P : List Fd} {k : Nat} {X : Cx} {c : Cc} {W : WX} {F : FT}
/-! ## expressions -/
theorem bin_ok {f : Value → Value → Sem Value} {r : R2} {o : Op} (hd : OpD G X o r) (a b : Ex) (σ : L2.St) (H : Hp) (Q : VK) (h : tE G X.K W (ev F (.op o [a, b])) σ H Q) : tOp r (tE G X.K W (ev F a)) (tE G X.K W (ev F b)) σ H Q := by
  obtain ⟨ρ, env, st, rel, q⟩ := h
  have q : Lf G X.K (fun c d H' => W c d σ H') ρ H (((ev F a env st).bind fun d st1 => ((ev F b env st1).bind fun e st2 => R.ok [e] st2).bind fun ds st2 => R.ok (d :: ds) st2).bind fun ds st1 => opSem o ds st1) (fun d _ ρ' H' => ∀ v, Rv X.K ρ' H' d v → Q v H') := by
    have e : ((ev F a env st).bind fun d st1 => ((ev F b env st1).bind fun e st2 => R.ok [e] st2).bind fun ds st2 => R.ok (d :: ds) st2) = evs F [a, b] env st := by
      show _ = (ev F a env st).bind fun d st1 => ((ev F b env st1).bind fun e st2 => (R.ok [] st2).bind fun ds st3 => R.ok (e :: ds) st3).bind fun ds st2 => R.ok (d :: ds) st2
      rfl
    rw [e]
    exact q
  refine ⟨ρ, env, st, rel, q.bind.bind.imp fun d st1 ρ1 H1 e1 s1 q1 x rx => ?_⟩
  refine ⟨ρ1, env, st1, ⟨s1, rel.e.ext e1⟩, q1.bind.bind.imp fun e st2 ρ2 H2 e2 s2 q2 y ry => ?_⟩
  exact hd _ ρ2 st2 H2 d e x y Q s2 (rx.ext e2) ry ((q2.ok s2).ok s2)
theorem un_ok {r : V → Hp → VK → Prop} {o : Op} (hd : ∀ (W : Value → Option Addr → Hp → Prop) (ρ : Tk) (st : Store) (H : Hp) (d : D) (x : V) (Q : VK), Rs G X.K ρ st H → Rv X.K ρ H d x → Lf G X.K W ρ H (opSem o [d] st) (Val1 X.K Q) → r x H Q)
    (a : Ex) (σ : L2.St) (H : Hp) (Q : VK) (h : tE G X.K W (ev F (.op o [a])) σ H Q) : tUn r (tE G X.K W (ev F a)) σ H Q := by
  obtain ⟨ρ, env, st, rel, q⟩ := h
  have q : Lf G X.K (fun c d H' => W c d σ H') ρ H (((ev F a env st).bind fun d st1 => R.ok [d] st1).bind fun ds st1 => opSem o ds st1) (fun d _ ρ' H' => ∀ v, Rv X.K ρ' H' d v → Q v H') := q
  refine ⟨ρ, env, st, rel, q.bind.bind.imp fun d st1 ρ1 H1 e1 s1 q1 x rx => ?_⟩
  exact hd _ ρ1 st1 H1 d x Q s1 rx (q1.ok s1)
/-- a call of a built-in -/
theorem blt_ok {r : List V → Hp → VK → Prop} {o : Op} (hd : OpV G X o r) (es : List Ex) (σ : L2.St) (H : Hp) (Q : VK) (h : tE G X.K W (ev F (.op o es)) σ H Q) : tCB r (tA G X.K W (evs F es)) σ H Q := by
  obtain ⟨ρ, env, st, rel, q⟩ := h
  have q : Lf G X.K (fun c d H' => W c d σ H') ρ H ((evs F es env st).bind fun ds st1 => opSem o ds st1) (fun d _ ρ' H' => ∀ v, Rv X.K ρ' H' d v → Q v H') := q
  exact ⟨ρ, env, st, rel, q.bind.imp fun ds st1 ρ1 H1 e1 s1 q1 vs rvs => hd _ ρ1 st1 H1 ds vs Q s1 rvs q1⟩
theorem tup_ok (es : List Ex) (σ : L2.St) (H : Hp) (Q : VK) (h : tE G X.K W (ev F (.op .tup es)) σ H Q) : tTup (tA G X.K W (evs F es)) σ H Q := by
  obtain ⟨ρ, env, st, rel, q⟩ := h
  have q : Lf G X.K (fun c d H' => W c d σ H') ρ H ((evs F es env st).bind fun ds st1 => opSem .tup ds st1) (fun d _ ρ' H' => ∀ v, Rv X.K ρ' H' d v → Q v H') := q
  refine ⟨ρ, env, st, rel, q.bind.imp fun ds st1 ρ1 H1 e1 s1 q1 vs rvs => ?_⟩
  have q1 : Lf G X.K (fun c d H' => W c d σ H') ρ1 H1 (if ds.length ≤ SZ then .ok (.tup ds) st1 else .bad) (fun d _ ρ' H' => ∀ v, Rv X.K ρ' H' d v → Q v H') := q1
  obtain ⟨hz, q1⟩ := of_ite q1
  exact ⟨by rw [← rvs.length, ← sz_eq]; exact hz, fun p hp => okt q1 s1 rvs hp⟩
theorem lst_ok (es : List Ex) (σ : L2.St) (H : Hp) (Q : VK) (h : tE G X.K W (ev F (.op .lst es)) σ H Q) : tLst (tA G X.K W (evs F es)) σ H Q := by
  obtain ⟨ρ, env, st, rel, q⟩ := h
  have q : Lf G X.K (fun c d H' => W c d σ H') ρ H ((evs F es env st).bind fun ds st1 => opSem .lst ds st1) (fun d _ ρ' H' => ∀ v, Rv X.K ρ' H' d v → Q v H') := q
  refine ⟨ρ, env, st, rel, q.bind.imp fun ds st1 ρ1 H1 e1 s1 q1 vs rvs => ?_⟩
  have q1 : Lf G X.K (fun c d H' => W c d σ H') ρ1 H1 (if ds.length ≤ SZ then .ok (.loc st1.length) (st1 ++ [.lst ds]) else .bad) (fun d _ ρ' H' => ∀ v, Rv X.K ρ' H' d v → Q v H') := q1
  obtain ⟨hz, q1⟩ := of_ite q1
  exact ⟨by rw [← rvs.length, ← sz_eq]; exact hz, fun p hp => okl q1 s1 rvs hp⟩
theorem flit_ok (es : List Ex) (σ : L2.St) (H : Hp) (Q : VK) (h : tE G X.K W (ev F (.op (.x .flit) es)) σ H Q) : tLst (tA G X.K W (evs F es)) σ H Q := by
  obtain ⟨ρ, env, st, rel, q⟩ := h
  have q : Lf G X.K (fun c d H' => W c d σ H') ρ H ((evs F es env st).bind fun ds st1 => opSem (.x .flit) ds st1) (fun d _ ρ' H' => ∀ v, Rv X.K ρ' H' d v → Q v H') := q
  refine ⟨ρ, env, st, rel, q.bind.imp fun ds st1 ρ1 H1 e1 s1 q1 vs rvs => ?_⟩
  have q1 : Lf G X.K (fun c d H' => W c d σ H') ρ1 H1 (if ds.length ≤ SZ then .ok (.flst ds) st1 else .bad) (fun d _ ρ' H' => ∀ v, Rv X.K ρ' H' d v → Q v H') := q1
  obtain ⟨hz, q1⟩ := of_ite q1
  exact ⟨by rw [← rvs.length, ← sz_eq]; exact hz, fun p hp => okf q1 s1 rvs hp⟩
theorem isin_ok (t : Ty) (a : Ex) (σ : L2.St) (H : Hp) (Q : VK) (h : tE G X.K W (ev F (.op (.isin t) [a])) σ H Q) : tCB (rIsi X.K) (tCons (tE G X.K W (ev F a)) (tCons (tC (.ty (tyName t))) tNil)) σ H Q := by
  obtain ⟨ρ, env, st, rel, q⟩ := h
  have q : Lf G X.K (fun c d H' => W c d σ H') ρ H (((ev F a env st).bind fun d st1 => R.ok [d] st1).bind fun ds st1 => opSem (.isin t) ds st1) (fun d _ ρ' H' => ∀ v, Rv X.K ρ' H' d v → Q v H') := q
  refine ⟨ρ, env, st, rel, q.bind.bind.imp fun d st1 ρ1 H1 e1 s1 q1 x rx => ?_⟩
  have q1 : Lf G X.K (fun c d H' => W c d σ H') ρ1 H1 (match tyD st1 d with | some u => .ok (.bl (isTy u t)) st1 | none => .bad) (fun d _ ρ' H' => ∀ v, Rv X.K ρ' H' d v → Q v H') := q1.ok s1
  cases hu : tyD st1 d with
  | none => rw [hu] at q1; exact q1.elim
  | some u =>
    rw [hu] at q1
    exact ⟨x, _, _, _, isTy u t, rfl, .ty _, ty_of s1 rx hu, kit_ty (kit_all u t), okv q1 s1 (.bl _)⟩
theorem truV_of {K : PySem.W.Frag} {ρ : Tk} {st : Store} {H : Hp} {d : D} {v : V} {b : Bool} (s : Rs G K ρ st H) (r : Rv K ρ H d v) (e : truth st d = some b) : TruV K v H b := by
  have em : ∀ {xs : List D} {vs : List V}, Rvs K ρ H xs vs → (!xs.isEmpty) = !vs.isEmpty := fun {xs vs} q => by
    cases q <;> rfl
  have sq : ∀ {d : D}, Rv K ρ H d v → (itemsD st d).map (fun xs => !xs.isEmpty) = some b → TruV K v H b := fun {d} r e => by
    cases hi : itemsD st d with
    | none => rw [hi] at e; cases e
    | some xs =>
      rw [hi] at e
      cases e
      obtain ⟨a, vs, rfl, q1, q2⟩ := items_seq s r hi
      rcases q1 with q1 | q1
      · exact .inl ⟨vs, q1, em q2⟩
      · exact .inr (.inl ⟨vs, q1, em q2⟩)
  cases d with
  | non => cases r; cases e; exact rfl
  | bl x => cases r; cases e; exact rfl
  | int i => cases r; cases e; exact rfl
  | str z =>
    cases r
    have e : (if z.length ≤ SZ then some ((z.length : Int) != 0) else none) = some b := e
    split at e
    · rename_i hz
      cases e
      exact ⟨by rw [← sz_eq]; simpa [Str.length] using hz, by simp [Str.length]⟩
    · cases e
  | _ => exact sq r e
theorem tT_of {e : Expr} {r : Env → Store → R D} (h : PE X e (tE G X.K W r)) (he : ∀ whole, isTrue e X.env whole = (do let v ← whole; standAt e.pos; holding [v] (truthy v))) : PT X e (tT G X.K W r) :=
  PT.imp (pt_truth h he) fun σ H Q ⟨ρ, env, st, rel, q⟩ => by
    refine ⟨ρ, env, st, rel, q.imp fun d st1 ρ1 H1 e1 s1 q1 v rv => ?_⟩
    obtain ⟨k, hk, q⟩ := q1
    exact ⟨k, truV_of s1 rv hk, q⟩
/-- an operation that gives a truth value, as a test -/
theorem tT_bin {r : R2} {o : Op} (hd : OpD G X o r) (a b : Ex) (σ : L2.St) (H : Hp) (Q : Bool → Hp → Prop) (hb : ∀ d e st z st', opSem o [d, e] st = .ok z st' → ∃ k, z = .bl k) (h : tT G X.K W (ev F (.op o [a, b])) σ H Q) :
    tTest (tOp r (tE G X.K W (ev F a)) (tE G X.K W (ev F b))) σ H Q := by
  refine bin_ok (f := fun _ _ => pure .none) hd a b σ H _ ?_
  obtain ⟨ρ, env, st, rel, q⟩ := h
  refine ⟨ρ, env, st, rel, ?_⟩
  have hz : ∀ z st', ev F (.op o [a, b]) env st = .ok z st' → ∃ k, z = .bl k := fun z st' e => by
    have e : (evs F [a, b] env st).bind (fun ds st1 => opSem o ds st1) = .ok z st' := e
    have ev2 : evs F [a, b] env st = (ev F a env st).bind fun d st1 => ((ev F b env st1).bind fun e st2 => (R.ok [] st2).bind fun ds st3 => R.ok (e :: ds) st3).bind fun ds st2 => R.ok (d :: ds) st2 := rfl
    rw [ev2] at e
    cases ha : ev F a env st with
    | ok d st1 =>
      rw [ha] at e
      cases hb2 : ev F b env st1 with
      | ok d2 st2 =>
        have e : ((R.bind (ev F b env st1) fun e st2 => (R.ok [] st2).bind fun ds st3 => R.ok (e :: ds) st3).bind fun ds st2 => R.ok (d :: ds) st2).bind (fun ds st1 => opSem o ds st1) = .ok z st' := e
        rw [hb2] at e
        exact hb d d2 st2 z st' e
      | exc => have e : ((R.bind (ev F b env st1) fun e st2 => (R.ok [] st2).bind fun ds st3 => R.ok (e :: ds) st3).bind fun ds st2 => R.ok (d :: ds) st2).bind (fun ds st1 => opSem o ds st1) = .ok z st' := e
               rw [hb2] at e; cases e
      | bad => have e : ((R.bind (ev F b env st1) fun e st2 => (R.ok [] st2).bind fun ds st3 => R.ok (e :: ds) st3).bind fun ds st2 => R.ok (d :: ds) st2).bind (fun ds st1 => opSem o ds st1) = .ok z st' := e
               rw [hb2] at e; cases e
    | exc => rw [ha] at e; cases e
    | bad => rw [ha] at e; cases e
  cases hr : ev F (.op o [a, b]) env st with
  | ok z st' =>
    obtain ⟨k, rfl⟩ := hz z st' hr
    rw [hr] at q
    intro ρ' H' e s v rv
    cases rv
    obtain ⟨k', hk, q⟩ := q ρ' H' e s
    cases hk
    exact ⟨k, rfl, q⟩
  | exc => rw [hr] at q; exact q
  | bad => rw [hr] at q; exact q
end
end Z

set_option autoImplicit false
set_option maxHeartbeats 1000000
namespace Z
open PySem PySem.Spec PyProof.Rows L2

/-! ## in, of data -/
section
open PySem.SeqAt
noncomputable def eOf (h : Heap) (d : PyData) (u : Value) : Bool := @decide (∃ d' p, nd d' = true ∧ Reads h u d' p ∧ PyData.eqv d' d = true) (Classical.propDecidable _)
theorem eOf_eq {h : Heap} {d d' : PyData} {u : Value} {p : List Addr} (hn : nd d' = true) (r : Reads h u d' p) : eOf h d u = PyData.eqv d' d := by
  unfold eOf
  cases hb : PyData.eqv d' d with
  | true => exact @decide_eq_true _ (Classical.propDecidable _) ⟨d', p, hn, r, hb⟩
  | false =>
    refine @decide_eq_false _ (Classical.propDecidable _) fun ⟨d2, p2, hn2, r2, hb2⟩ => ?_
    rw [same_nd d' d2 u p p2 hn r r2, hb2] at hb
    cases hb
theorem eOf_any {h : Heap} {d : PyData} : ∀ (ds : List PyData) (us : List Value) (p : List Addr), nds ds = true → ReadsAll h us ds p → us.any (eOf h d) = ds.any fun z => PyData.eqv z d
  | [], _, _, _, r => by cases r; rfl
  | x :: xs, _, _, hn, r => by
    have hn2 : (nd x && nds xs) = true := hn
    rw [Bool.and_eq_true] at hn2
    cases r with
    | cons r1 r2 => rw [List.any_cons, List.any_cons, eOf_eq hn2.1 r1, eOf_any xs _ _ hn2.2 r2]
theorem eOf_at {A : Around} {s : Shared} {d : PyData} {v : Value} {q : List Addr} (hv : Reads s.heap v d q) (hd : nd d = true) (hu : A.units + d.depth < cLine) :
    ∀ (ds : List PyData) (us : List Value) (p : List Addr), nds ds = true → ReadsAll s.heap us ds p → ∀ u, u ∈ us → EqAt A s u v (eOf s.heap d u)
  | [], _, _, _, r, u, hm => by cases r; cases hm
  | x :: xs, _, _, hn, r, u, hm => by
    have hn2 : (nd x && nds xs) = true := hn
    rw [Bool.and_eq_true] at hn2
    cases r with
    | cons r1 r2 =>
      rcases List.mem_cons.mp hm with rfl | hm
      · rw [eOf_eq hn2.1 r1]
        exact (both_nd x d A s _ _ _ _ r1 hv hn2.1 hd (by omega)).1
      · exact eOf_at hv hd hu xs _ _ hn2.2 r2 u hm
theorem any_eqv (d : D) : ∀ ds : List D, ((pys ds).any fun z => PyData.eqv z (py d)) = ds.any fun z => eqD z d
  | [] => rfl
  | x :: xs => by
    show (PyData.eqv (py x) (py d) || (pys xs).any fun z => PyData.eqv z (py d)) = _
    rw [List.any_cons, eqv_py, any_eqv d xs]
end
section
variable {G : GC} {X : Cx} {ρ : Tk} {H : Hp} {st : Store} {W : Value → Option Addr → Hp → Prop}
def rInS (neg : Bool) : R2 := fun x y H Q => ∃ (c : Nat) (z : Str), x = .str ⟨#[c]⟩ ∧ y = .str z ∧ Q (.bl (if neg then !decide (c ∈ z.cps.toList) else decide (c ∈ z.cps.toList))) H
def rInDs (K : PySem.W.Frag) (neg : Bool) : R2 := fun x y H Q => ∃ d ds, Dp K H x (py d) ∧ (Dp K H y (.list (pys ds)) ∨ Dp K H y (.tuple (pys ds))) ∧ deepD d ≤ 60 ∧ Q (.bl (if neg then !(ds.any fun z => eqD z d) else ds.any fun z => eqD z d)) H
def rInZ (K : PySem.W.Frag) (neg : Bool) : R2 := fun x y H Q => rInS neg x y H Q ∨ rInDs K neg x y H Q
theorem op_inDs (hu : X.A.units + 64 < cLine) : OpR X (compareOp .In) (rInDs X.K false) := by
  intro pins s σ H x y v u Q I rx ry ⟨d, ds, hd, he, hz, q⟩
  obtain ⟨as, ra⟩ := Dp.reads I _ _ _ hd rx
  have hn := nds_pys ds
  have hu1 : X.A.in1.units + (py d).depth < cLine := by
    rw [deep_py]
    have : X.A.in1.units = X.A.units + 1 := rfl
    omega
  rcases he with he | he
  · obtain ⟨bs, rb⟩ := Dp.reads I _ _ _ he ry
    cases rb with
    | @list m o' ws n' es q' b1 b2 b3 b4 =>
      refine SeqAt.in_listAt (eOf s.heap (py d)) ⟨_, b1, b2, _, b3⟩ (fun w hw => eOf_at ra (nd_py d) hu1 _ _ _ hn b4 w (by simpa using hw)) ⟨.bl (ds.any fun z => eqD z d), H, I, ?_, q⟩
      have e : ws.any (eOf s.heap (py d)) = ws.toList.any (eOf s.heap (py d)) := by simp
      rw [e, eOf_any _ _ _ hn b4, any_eqv]
      rfl
  · obtain ⟨bs, rb⟩ := Dp.reads I _ _ _ he ry
    cases rb with
    | @tuple m o' ws n' es q' b1 b2 b3 b4 =>
      refine SeqAt.in_tupleAt (eOf s.heap (py d)) ⟨_, b1, b2, _, b3⟩ (fun w hw => eOf_at ra (nd_py d) hu1 _ _ _ hn b4 w (by simpa using hw)) ⟨.bl (ds.any fun z => eqD z d), H, I, ?_, q⟩
      have e : ws.any (eOf s.heap (py d)) = ws.toList.any (eOf s.heap (py d)) := by simp
      rw [e, eOf_any _ _ _ hn b4, any_eqv]
      rfl
theorem op_notinDs (hu : X.A.units + 64 < cLine) : OpR X (compareOp .NotIn) (rInDs X.K true) := by
  intro pins s σ H x y v u Q I rx ry ⟨d, ds, hd, he, hz, q⟩
  obtain ⟨as, ra⟩ := Dp.reads I _ _ _ hd rx
  have hn := nds_pys ds
  have hu1 : X.A.in1.units + (py d).depth < cLine := by
    rw [deep_py]
    have : X.A.in1.units = X.A.units + 1 := rfl
    omega
  rcases he with he | he
  · obtain ⟨bs, rb⟩ := Dp.reads I _ _ _ he ry
    cases rb with
    | @list m o' ws n' es q' b1 b2 b3 b4 =>
      refine SeqAt.notIn_listAt (eOf s.heap (py d)) ⟨_, b1, b2, _, b3⟩ (fun w hw => eOf_at ra (nd_py d) hu1 _ _ _ hn b4 w (by simpa using hw)) ⟨.bl (!(ds.any fun z => eqD z d)), H, I, ?_, q⟩
      have e : ws.any (eOf s.heap (py d)) = ws.toList.any (eOf s.heap (py d)) := by simp
      rw [e, eOf_any _ _ _ hn b4, any_eqv]
      rfl
  · obtain ⟨bs, rb⟩ := Dp.reads I _ _ _ he ry
    cases rb with
    | @tuple m o' ws n' es q' b1 b2 b3 b4 =>
      refine SeqAt.notIn_tupleAt (eOf s.heap (py d)) ⟨_, b1, b2, _, b3⟩ (fun w hw => eOf_at ra (nd_py d) hu1 _ _ _ hn b4 w (by simpa using hw)) ⟨.bl (!(ds.any fun z => eqD z d)), H, I, ?_, q⟩
      have e : ws.any (eOf s.heap (py d)) = ws.toList.any (eOf s.heap (py d)) := by simp
      rw [e, eOf_any _ _ _ hn b4, any_eqv]
      rfl
theorem op_inZ (hu : X.A.units + 64 < cLine) : OpR X (compareOp .In) (rInZ X.K false) := OpR.or op_in_sign (op_inDs hu)
theorem op_notinZ (hu : X.A.units + 64 < cLine) : OpR X (compareOp .NotIn) (rInZ X.K true) := OpR.or op_notIn_sign (op_notinDs hu)
theorem in_sem (neg : Bool) (s : Rs G X.K ρ st H) {d e : D} {x y : V} {Q : VK} {k : Bool} (rx : Rv X.K ρ H d x) (ry : Rv X.K ρ H e y) (h : inSem d e st = some k) (q : Q (.bl (if neg then !k else k)) H) : rInZ X.K neg x y H Q := by
  have dat : ∀ e, (match pureD st d with
      | some x => match pureD st e with
        | some (.tup ys) => if deepD x ≤ 60 then some (ys.any fun y => eqD y x) else none
        | some (.flst ys) => if deepD x ≤ 60 then some (ys.any fun y => eqD y x) else none
        | _ => none
      | none => none) = some k → Rv X.K ρ H e y → rInZ X.K neg x y H Q := by
    intro e h ry
    split at h
    · rename_i d' hd
      split at h
      · rename_i ys he
        split at h
        · rename_i hz
          cases h
          exact .inr ⟨d', ys, dp_pure s rx hd, .inr (dp_pure s ry he), hz, q⟩
        · cases h
      · rename_i ys he
        split at h
        · rename_i hz
          cases h
          exact .inr ⟨d', ys, dp_pure s rx hd, .inl (dp_pure s ry he), hz, q⟩
        · cases h
      · cases h
    · cases h
  cases ry with
  | str z =>
    unfold inSem at h
    split at h
    · rename_i z' hz
      cases hz
      split at h
      · rename_i c
        cases h
        cases rx
        exact .inl ⟨c, ⟨z.toArray⟩, rfl, rfl, q⟩
      · cases h
    · rename_i hne
      exact absurd rfl (hne z)
  | non => exact dat .non h .non
  | bl b => exact dat (.bl b) h (.bl b)
  | int i => exact dat (.int i) h (.int i)
  | tup a b => exact dat (.tup _) h (.tup a b)
  | flst a b => exact dat (.flst _) h (.flst a b)
  | slst a b => exact dat (.slst _) h (.slst a b)
  | fins a b c e => exact dat (.fins _ _ _) h (.fins a b c e)
  | loc a => exact dat (.loc _) h (.loc a)
theorem od_in : OpD G X (.x .inn) (rInZ X.K false) := by
  intro W ρ st H d e x y Q s rx ry h
  have h : Lf G X.K W ρ H (match inSem d e st with | some k => R.ok (D.bl k) st | none => .bad) (Val1 X.K Q) := h
  cases hk : inSem d e st with
  | none => rw [hk] at h; exact h.elim
  | some k => rw [hk] at h; exact in_sem false s rx ry hk (okv h s (.bl _))
theorem od_notin : OpD G X (.x .notin) (rInZ X.K true) := by
  intro W ρ st H d e x y Q s rx ry h
  have h : Lf G X.K W ρ H (match inSem d e st with | some k => R.ok (D.bl (!k)) st | none => .bad) (Val1 X.K Q) := h
  cases hk : inSem d e st with
  | none => rw [hk] at h; exact h.elim
  | some k => rw [hk] at h; exact in_sem true s rx ry hk (okv h s (.bl _))

/-! ## calls of built-ins that take lists -/
theorem listD_seq {K : PySem.W.Frag} (s : Rs G K ρ st H) {d : D} {v : V} {xs : List D} (r : Rv K ρ H d v) (e : listD st d = some xs) : ∃ a vs, v = .ref a ∧ SqL K H a vs ∧ Rvs K ρ H xs vs := by
  cases r with
  | tup t q => cases e
  | flst t q => cases e; exact ⟨_, _, rfl, t.sq, q⟩
  | slst t q => cases e; exact ⟨_, _, rfl, t.sq, q⟩
  | @loc l a b h =>
    have e : (match st[l]? with | some (.lst xs) => some xs | _ => none) = some xs := e
    split at e
    · rename_i ys hl
      cases e
      obtain ⟨_, vs, h2, h3⟩ := s.lst h hl
      exact ⟨a, vs, rfl, .inl (.inl h2), h3⟩
    · cases e
  | _ => cases e
theorem vals_bl {K : PySem.W.Frag} : ∀ {xs : List D} {vs : List V} {bs : List Bool}, Rvs K ρ H xs vs → allBl xs = some bs → vs = bs.map V.bl
  | [], _, _, .nil, e => by cases e; rfl
  | d :: ds, _, _, .cons h t, e => by
    cases d <;> first | (cases e; done) | skip
    case bl b =>
      cases h
      cases q : allBl ds with
      | none => rw [allBl, q] at e; cases e
      | some ys => rw [allBl, q] at e; cases e; rw [vals_bl t q]; rfl
theorem vals_int {K : PySem.W.Frag} : ∀ {xs : List D} {vs : List V} {bs : List Int}, Rvs K ρ H xs vs → allInt xs = some bs → vs = bs.map V.int
  | [], _, _, .nil, e => by cases e; rfl
  | d :: ds, _, _, .cons h t, e => by
    cases d <;> first | (cases e; done) | skip
    case int b =>
      cases h
      cases q : allInt ds with
      | none => rw [allInt, q] at e; cases e
      | some ys => rw [allInt, q] at e; cases e; rw [vals_int t q]; rfl
theorem vals_str {K : PySem.W.Frag} : ∀ {xs : List D} {vs : List V} {bs : List (List Nat)}, Rvs K ρ H xs vs → allStr xs = some bs → vs = (bs.map fun z => (⟨z.toArray⟩ : Str)).map V.str
  | [], _, _, .nil, e => by cases e; rfl
  | d :: ds, _, _, .cons h t, e => by
    cases d <;> first | (cases e; done) | skip
    case str b =>
      cases h
      cases q : allStr ds with
      | none => rw [allStr, q] at e; cases e
      | some ys => rw [allStr, q] at e; cases e; rw [vals_str t q]; rfl
theorem of_match_opt {K : PySem.W.Frag} {α : Type} {xs : Option α} {f : α → R D} {P : D → Store → Tk → Hp → Prop} (h : Lf G K W ρ H (match xs with | some ys => f ys | none => .bad) P) : ∃ ys, xs = some ys ∧ Lf G K W ρ H (f ys) P := by
  cases xs with
  | none => exact h.elim
  | some ys => exact ⟨ys, rfl, h⟩
theorem ov_all : OpV G X (.x .all_) (rAll X.K) := by
  intro W ρ st H ds vs Q s r h
  match ds, vs, r with
  | [d], [v], .cons rd .nil =>
    have h : Lf G X.K W ρ H (match listD st d with | some ys => (match allBl ys with | some xs => .ok (.bl (xs.all id)) st | none => .bad) | none => .bad) (Val1 X.K Q) := h
    cases e : listD st d with
    | none => rw [e] at h; exact h.elim
    | some ys =>
      rw [e] at h
      have h : Lf G X.K W ρ H (match allBl ys with | some xs => .ok (.bl (xs.all id)) st | none => .bad) (Val1 X.K Q) := h
      cases e2 : allBl ys with
      | none => rw [e2] at h; exact h.elim
      | some bs =>
        rw [e2] at h
        obtain ⟨a', us, ea, sq, q⟩ := listD_seq s rd e
        cases ea
        have hv := vals_bl q e2
        subst hv
        exact ⟨a', bs, rfl, sq, okv h s (.bl _)⟩
  | [], _, _ => exact h.elim
  | _ :: _ :: _, _, _ => exact h.elim
theorem ov_any : OpV G X (.x .any_) (rAny X.K) := by
  intro W ρ st H ds vs Q s r h
  match ds, vs, r with
  | [d], [v], .cons rd .nil =>
    have h : Lf G X.K W ρ H (match listD st d with | some ys => (match allBl ys with | some xs => .ok (.bl (xs.any id)) st | none => .bad) | none => .bad) (Val1 X.K Q) := h
    cases e : listD st d with
    | none => rw [e] at h; exact h.elim
    | some ys =>
      rw [e] at h
      have h : Lf G X.K W ρ H (match allBl ys with | some xs => .ok (.bl (xs.any id)) st | none => .bad) (Val1 X.K Q) := h
      cases e2 : allBl ys with
      | none => rw [e2] at h; exact h.elim
      | some bs =>
        rw [e2] at h
        obtain ⟨a', us, ea, sq, q⟩ := listD_seq s rd e
        cases ea
        have hv := vals_bl q e2
        subst hv
        exact ⟨a', bs, rfl, sq, okv h s (.bl _)⟩
  | [], _, _ => exact h.elim
  | _ :: _ :: _, _, _ => exact h.elim
theorem ov_sum : OpV G X (.x .sum_) (rSum X.K) := by
  intro W ρ st H ds vs Q s r h
  match ds, vs, r with
  | [d], [v], .cons rd .nil =>
    have h : Lf G X.K W ρ H (match listD st d with | some ys => (match allInt ys with | some xs => .ok (.int xs.sum) st | none => .bad) | none => .bad) (Val1 X.K Q) := h
    cases e : listD st d with
    | none => rw [e] at h; exact h.elim
    | some ys =>
      rw [e] at h
      have h : Lf G X.K W ρ H (match allInt ys with | some xs => .ok (.int xs.sum) st | none => .bad) (Val1 X.K Q) := h
      cases e2 : allInt ys with
      | none => rw [e2] at h; exact h.elim
      | some bs =>
        rw [e2] at h
        obtain ⟨a', us, ea, sq, q⟩ := listD_seq s rd e
        cases ea
        have hv := vals_int q e2
        subst hv
        exact ⟨a', bs, rfl, sq, okv h s (.int _)⟩
  | [], _, _ => exact h.elim
  | _ :: _ :: _, _, _ => exact h.elim
theorem ov_min2 : OpV G X (.x .min2) (fun xs H Q => ∃ i j, xs = [.int i, .int j] ∧ Q (.int (if j < i then j else i)) H) := by
  intro W ρ st H ds vs Q s r h
  match ds, vs, r with
  | [d, e], [v, u], .cons rd (.cons re .nil) =>
    cases rd <;> first | exact h.elim | skip
    cases re <;> first | exact h.elim | skip
    exact ⟨_, _, rfl, okv h s (.int _)⟩
  | [], _, _ => exact h.elim
  | [d], _, _ => revert h; cases d <;> exact fun h => h.elim
  | d :: e :: _ :: _, _, _ => revert h; cases d <;> cases e <;> exact fun h => h.elim
theorem ov_max2 : OpV G X (.x .max2) (fun xs H Q => ∃ i j, xs = [.int i, .int j] ∧ Q (.int (if j > i then j else i)) H) := by
  intro W ρ st H ds vs Q s r h
  match ds, vs, r with
  | [d, e], [v, u], .cons rd (.cons re .nil) =>
    cases rd <;> first | exact h.elim | skip
    cases re <;> first | exact h.elim | skip
    exact ⟨_, _, rfl, okv h s (.int _)⟩
  | [], _, _ => exact h.elim
  | [d], _, _ => revert h; cases d <;> exact fun h => h.elim
  | d :: e :: _ :: _, _, _ => revert h; cases d <;> cases e <;> exact fun h => h.elim
theorem ov_ord : OpV G X (.x .ord_) (fun xs H Q => ∃ x : Str, xs = [.str x] ∧ x.length = 1 ∧ Q (.int (x.cps.getD 0 0 : Nat)) H) := by
  intro W ρ st H ds vs Q s r h
  match ds, vs, r with
  | [.str [c]], [v], .cons rd .nil =>
    cases rd
    exact ⟨_, rfl, rfl, okv h s (.int _)⟩
  | [.str []], _, _ => exact h.elim
  | [.str (_ :: _ :: _)], _, _ => exact h.elim
  | [.non], _, _ => exact h.elim
  | [.bl _], _, _ => exact h.elim
  | [.int _], _, _ => exact h.elim
  | [.tup _], _, _ => exact h.elim
  | [.flst _], _, _ => exact h.elim
  | [.slst _], _, _ => exact h.elim
  | [.fdct _ _], _, _ => exact h.elim
  | [.fset _], _, _ => exact h.elim
  | [.fins _ _ _], _, _ => exact h.elim
  | [.fn _], _, _ => exact h.elim
  | [.loc _], _, _ => exact h.elim
  | [], _, _ => exact h.elim
  | d :: _ :: _, _, _ =>
    revert h
    cases d with
    | str z => rcases z with _ | ⟨c, _ | ⟨_, _⟩⟩ <;> exact fun h => h.elim
    | _ => exact fun h => h.elim
theorem ov_toList : OpV G X (.x .toList) (fun xs H Q => ∃ p ys, xs = [.ref p] ∧ (SqL X.K H p ys ∨ SqT X.K H p ys) ∧ ∀ l, H l = none → Q (.ref l) (upd H l (.lst ys))) := by
  intro W ρ st H ds vs Q s r h
  match ds, vs, r with
  | [d], [v], .cons rd .nil =>
    have h : Lf G X.K W ρ H (match itemsD st d with | some ys => .ok (.loc st.length) (st ++ [.lst ys]) | none => .bad) (Val1 X.K Q) := h
    obtain ⟨ys, e, h⟩ := of_match_items (xs := itemsD st d) (f := fun ys => .ok (.loc st.length) (st ++ [.lst ys])) h
    obtain ⟨a', us, ea, sq, q⟩ := items_seq s rd e
    cases ea
    exact ⟨a', us, rfl, sq, fun l hl => okl h s q hl⟩
  | [], _, _ => exact h.elim
  | _ :: _ :: _, _, _ => exact h.elim
theorem ov_toListF : OpV G X (.x .toListF) (fun xs H Q => ∃ p ys, xs = [.ref p] ∧ (SqL X.K H p ys ∨ SqT X.K H p ys) ∧ ∀ l, H l = none → Q (.ref l) (upd H l (.lst ys))) := by
  intro W ρ st H ds vs Q s r h
  match ds, vs, r with
  | [d], [v], .cons rd .nil =>
    have h : Lf G X.K W ρ H (match itemsD st d with | some ys => .ok (.flst ys) st | none => .bad) (Val1 X.K Q) := h
    obtain ⟨ys, e, h⟩ := of_match_items (xs := itemsD st d) (f := fun ys => .ok (.flst ys) st) h
    obtain ⟨a', us, ea, sq, q⟩ := items_seq s rd e
    cases ea
    exact ⟨a', us, rfl, sq, fun l hl => okf h s q hl⟩
  | [], _, _ => exact h.elim
  | _ :: _ :: _, _, _ => exact h.elim
end
end Z

set_option autoImplicit false
set_option maxHeartbeats 2000000
namespace Z
open PySem PySem.Spec PyProof.Rows L2

/-! # sorted(xs), xs data -/
mutual
theorem toks_py : ∀ d : D, PySem.W.keyToks (py d) = toksD d
  | .non => rfl
  | .bl b => rfl
  | .int i => rfl
  | .str s => rfl
  | .tup xs => by rw [py, PySem.W.keyToks, toks_pys xs]; rfl
  | .flst xs => by rw [py, PySem.W.keyToks, toks_pys xs]; rfl
  | .slst _ => rfl
  | .fdct _ _ => rfl
  | .fset _ => rfl
  | .fins _ _ _ => rfl
  | .fn _ => rfl
  | .loc _ => rfl
theorem toks_pys : ∀ ds : List D, PySem.W.keyToksAll (pys ds) = toksDs ds
  | [] => rfl
  | d :: ds => by rw [pys, PySem.W.keyToksAll, toks_py d, toks_pys ds]; rfl
end
theorem lt_py (a b : D) : PySem.W.dataLt (py a) (py b) = ltD a b := by
  unfold PySem.W.dataLt ltD
  rw [toks_py, toks_py]
theorem al_non (a : PyData) (h : a ≠ .none) : PySem.W.alike a .none = false ∧ PySem.W.alike .none a = false := by
  cases a <;> first | exact absurd rfl h | (constructor <;> simp [PySem.W.alike])
mutual
theorem alike_py : ∀ a b : D, alikeD a b = true → PySem.W.alike (py a) (py b) = true
  | .bl x, b, h => by cases b <;> first | (cases h; done) | rfl
  | .int x, b, h => by cases b <;> first | (cases h; done) | rfl
  | .str x, b, h => by cases b <;> first | (cases h; done) | rfl
  | .tup xs, b, h => by
    cases b with
    | tup ys => rw [py, py, PySem.W.alike]; exact alikes_py xs ys h
    | _ => cases h
  | .flst xs, b, h => by
    cases b with
    | flst ys => rw [py, py, PySem.W.alike]; exact alikes_py xs ys h
    | _ => cases h
  | .non, b, h => by cases b <;> first | (cases h; done) | rfl
  | .slst _, b, h => by cases b <;> first | (cases h; done) | rfl
  | .fdct _ _, b, h => by cases b <;> first | (cases h; done) | rfl
  | .fset _, b, h => by cases b <;> first | (cases h; done) | rfl
  | .fins _ _ _, b, h => by cases b <;> first | (cases h; done) | rfl
  | .fn _, b, h => by cases b <;> first | (cases h; done) | rfl
  | .loc _, b, h => by cases b <;> first | (cases h; done) | rfl
theorem alikes_py : ∀ as bs : List D, alikeDs as bs = true → PySem.W.alikeAll (pys as) (pys bs) = true
  | [], [], h => rfl
  | [], b :: bs, h => rfl
  | a :: as, [], h => rfl
  | a :: as, b :: bs, h => by
    have h : (alikeD a b && alikeDs as bs) = true := h
    rw [Bool.and_eq_true] at h
    rw [pys, pys, PySem.W.alikeAll, alike_py a b h.1, alikes_py as bs h.2]; rfl
end
mutual
theorem lit_deref (g : Nat → Option D) : ∀ d : D, litD d = true → derefD g d = some d
  | .non, _ => rfl
  | .bl _, _ => rfl
  | .int _, _ => rfl
  | .str _, _ => rfl
  | .tup xs, h => by rw [derefD, lits_deref g xs h]; rfl
  | .flst xs, h => by rw [derefD, lits_deref g xs h]; rfl
  | .slst _, h => by cases h
  | .fdct _ _, h => by cases h
  | .fset _, h => by cases h
  | .fins _ _ _, h => by cases h
  | .fn _, h => by cases h
  | .loc _, h => by cases h
theorem lits_deref (g : Nat → Option D) : ∀ ds : List D, litDs ds = true → derefDs g ds = some ds
  | [], _ => rfl
  | d :: ds, h => by
    have h : (litD d && litDs ds) = true := h
    rw [Bool.and_eq_true] at h
    rw [derefDs, lit_deref g d h.1, lits_deref g ds h.2]
end

/-! ## the order of the machine's data -/
theorem ltD_swo : SrtO.Swo ltD := by
  refine ⟨fun x y h => ?_, fun x y z h1 h2 => ?_⟩
  · cases q : ltD y x with
    | false => rfl
    | true =>
      have := lex_trans (O := itemOrd) _ _ _ h q
      rw [lex_irrefl] at this
      cases this
  · cases q : ltD z x with
    | false => rfl
    | true =>
      rcases lex_negTrans (O := itemOrd) _ (toksD y) _ q with h | h
      · have h : ltD z y = true := h
        rw [h2] at h; cases h
      · have h : ltD y x = true := h
        rw [h1] at h; cases h
theorem le_trans (a b c : D) (h : (!ltD b a) = true) (g : (!ltD c b) = true) : (!ltD c a) = true := by
  rw [Bool.not_eq_true'] at h g ⊢
  exact ltD_swo.tr a b c h g
theorem le_total (a b : D) : ((!ltD b a) || (!ltD a b)) = true := by
  cases q : ltD b a with
  | false => rfl
  | true => rw [ltD_swo.asym _ _ q]; rfl
/-! ## merge sort is the stable one -/
theorem sort_srtd {α : Type} {lt : α → α → Bool} (O : SrtO.Swo lt) (l : List α) : SrtO.Srtd lt (l.mergeSort fun a b => !lt b a) := by
  have := List.pairwise_mergeSort (le := fun a b => !lt b a) (fun a b c h g => by
    simp only [Bool.not_eq_true'] at h g ⊢
    exact O.tr a b c h g) (fun a b => by
    cases q : lt b a with
    | false => simp
    | true => simp [O.asym _ _ q]) l
  exact this.imp fun {a b} h => by simpa using h
theorem pw_all {α : Type} {r : α → α → Prop} : ∀ {l : List α}, (∀ a ∈ l, ∀ b ∈ l, r a b) → l.Pairwise r
  | [], _ => .nil
  | x :: l, h => .cons (fun b hb => h x List.mem_cons_self b (List.mem_cons_of_mem _ hb)) (pw_all fun a ha b hb => h a (List.mem_cons_of_mem _ ha) b (List.mem_cons_of_mem _ hb))
theorem sort_stb {α : Type} {lt : α → α → Bool} (O : SrtO.Swo lt) (l : List α) : SrtO.Stb lt (l.mergeSort fun a b => !lt b a) l := by
  refine ⟨List.mergeSort_perm _ _, fun x => ?_⟩
  have tr : ∀ a b c : α, (!lt b a) = true → (!lt c b) = true → (!lt c a) = true := fun a b c h g => by
    simp only [Bool.not_eq_true'] at h g ⊢
    exact O.tr a b c h g
  have tot : ∀ a b : α, ((!lt b a) || (!lt a b)) = true := fun a b => by
    cases q : lt b a with
    | false => simp
    | true => simp [O.asym _ _ q]
  have pw : (l.filter (SrtO.eqv lt x)).Pairwise fun a b => (!lt b a) = true := by
    refine pw_all fun a ha b hb => ?_
    have h1 := SrtO.eqv_iff.mp (List.mem_filter.mp ha).2
    have h2 := SrtO.eqv_iff.mp (List.mem_filter.mp hb).2
    rw [Bool.not_eq_true']
    exact O.tr a x b h1.1 h2.2
  have sub := List.sublist_mergeSort (le := fun a b => !lt b a) tr tot pw List.filter_sublist
  have sub2 := sub.filter (SrtO.eqv lt x)
  rw [List.filter_filter] at sub2
  simp only [Bool.and_self] at sub2
  exact (sub2.eq_of_length ((List.mergeSort_perm l fun a b => !lt b a).filter (SrtO.eqv lt x)).length_eq.symm).symm

/-! ## the comparisons -/
section
variable {prog : Program} {w : World} {A : Around} {s : Shared}
/-- what a value reads as -/
def RdsD (h : Heap) (v : Value) (d : D) : Prop := ∃ p, Reads h v (py d) p
theorem rds_one {h : Heap} {v : Value} {d e : D} (a : RdsD h v d) (b : RdsD h v e) : py d = py e := by
  obtain ⟨p, a⟩ := a
  obtain ⟨q, b⟩ := b
  exact same_nd _ _ _ _ _ (nd_py d) a b
open Classical in
noncomputable def dv (h : Heap) (xs : List D) (v : Value) : D := if q : ∃ d, d ∈ xs ∧ RdsD h v d then q.choose else .non
theorem dv_eq {h : Heap} {xs : List D} {v : Value} {d : D} (hd : d ∈ xs) (r : RdsD h v d) : py (dv h xs v) = py d := by
  have q : ∃ d, d ∈ xs ∧ RdsD h v d := ⟨d, hd, r⟩
  have e : dv h xs v = q.choose := dif_pos q
  rw [e]
  exact rds_one q.choose_spec.2 r
theorem dv_lt {h : Heap} {xs : List D} {v u : Value} {d e : D} (hd : d ∈ xs) (he : e ∈ xs) (r : RdsD h v d) (t : RdsD h u e) : ltD (dv h xs v) (dv h xs u) = ltD d e := by
  rw [← lt_py, ← lt_py, dv_eq hd r, dv_eq he t]
theorem swo_dv (h : Heap) (xs : List D) : SrtO.Swo fun v u => ltD (dv h xs v) (dv h xs u) := ⟨fun x y q => ltD_swo.asym _ _ q, fun x y z q r => ltD_swo.tr _ _ _ q r⟩
/-- rows, item by item, up to the place where they differ -/
theorem lex_rows {b fin : Bool} {Q : Bool → Shared → Prop} : ∀ (xs ys : List D) (i : Nat) (vs ws : List Value) (p q : List Addr), ReadsAll s.heap vs (pys xs) p → ReadsAll s.heap ws (pys ys) q → lexOk xs ys = true →
    A.units + min (PyData.depthAll (pys xs)) (PyData.depthAll (pys ys)) < cLine → (b = true → i = 0 → ∀ x r t, xs = x :: r → py x ≠ .tuple t) → fin = decide (xs.length < ys.length) →
    Q (lexLt itemOrd (toksDs xs) (toksDs ys)) s → PySem.W.KatLex prog w A b fin Q (vs.zip ws) i s
  | [], [], i, vs, ws, p, q, ra, rb, _, _, _, hf, hq => by
    cases ra; cases rb
    rw [lex_irrefl] at hq
    have : fin = false := hf
    rw [← this] at hq
    exact PySem.W.kat_nil hq
  | [], y :: ys, i, vs, ws, p, q, ra, rb, _, _, _, hf, hq => by
    cases ra
    have : fin = true := by rw [hf]; exact decide_eq_true (Nat.succ_pos _)
    have e : lexLt itemOrd (toksDs []) (toksDs (y :: ys)) = true := by
      show lexLt itemOrd [.inl 0] (.inl 1 :: (toksD y ++ toksDs ys)) = true
      rw [lex_diff (O := itemOrd) (by simp)]; rfl
    rw [e, ← this] at hq
    rw [List.zip_nil_left]
    exact PySem.W.kat_nil hq
  | x :: xs, [], i, vs, ws, p, q, ra, rb, _, _, _, hf, hq => by
    cases rb
    have : fin = false := by rw [hf]; exact decide_eq_false (Nat.not_lt_zero _)
    have e : lexLt itemOrd (toksDs (x :: xs)) (toksDs []) = false := by
      show lexLt itemOrd (.inl 1 :: (toksD x ++ toksDs xs)) [.inl 0] = false
      rw [lex_diff (O := itemOrd) (by simp)]; rfl
    rw [e, ← this] at hq
    rw [List.zip_nil_right]
    exact PySem.W.kat_nil hq
  | x :: xs, y :: ys, i, vs, ws, p, q, ra, rb, h, hu, hb, hf, hq => by
    have h : (alikeD x y && (!eqD x y || lexOk xs ys)) = true := h
    rw [Bool.and_eq_true] at h
    have al := alike_py x y h.1
    have tx : toksDs (x :: xs) = PySem.W.keyToksAll (py x :: pys xs) := (toks_pys (x :: xs)).symm
    have ty : toksDs (y :: ys) = PySem.W.keyToksAll (py y :: pys ys) := (toks_pys (y :: ys)).symm
    rw [tx, ty] at hq
    have ra : ReadsAll s.heap vs (py x :: pys xs) p := ra
    have rb : ReadsAll s.heap ws (py y :: pys ys) q := rb
    have hu : A.units + min (max (py x).depth (PyData.depthAll (pys xs))) (max (py y).depth (PyData.depthAll (pys ys))) < cLine := hu
    cases ra with
    | cons r rs =>
      cases rb with
      | cons r' rs' =>
        rw [List.zip_cons_cons]
        refine PySem.W.kat_cons (PySem.W.eqAt_alike (py x) (py y) A s _ _ _ _ r r' al (SeqAt.room_head hu) prog w _ _ ?_)
        cases hx : PyData.eqv (py x) (py y) with
        | true =>
          rw [PySem.W.dataLt_all_yes al hx, toks_pys, toks_pys] at hq
          have hxy : eqD x y = true := by rw [← eqv_py]; exact hx
          have h2 : lexOk xs ys = true := by have := h.2; rw [hxy] at this; exact this
          refine PySem.W.kat_yes (lex_rows xs ys (i + 1) _ _ _ _ rs rs' h2 (SeqAt.room_tail hu) (fun _ hi => absurd hi (Nat.succ_ne_zero i)) ?_ hq)
          rw [hf]
          simp only [List.length_cons, Nat.add_lt_add_iff_right]
        | false =>
          rw [PySem.W.dataLt_all_no al hx] at hq
          refine PySem.W.kat_no (PySem.W.oneLt_alike (fun hbi t => ?_) r r' al (PySem.W.ne_none_of al hx) (SeqAt.room_head hu) hq)
          rw [Bool.and_eq_true] at hbi
          exact hb hbi.1 (by simpa using hbi.2) x xs t rfl
theorem pys_map : ∀ xs : List D, pys xs = xs.map py
  | [] => rfl
  | x :: xs => by rw [pys, pys_map xs, List.map_cons]
theorem deep_mem {d : D} : ∀ {xs : List D}, d ∈ xs → deepD d ≤ deepDs xs
  | x :: xs, h => by
    have e : deepDs (x :: xs) = max (deepD x) (deepDs xs) := rfl
    rw [e]
    rcases List.mem_cons.mp h with rfl | h
    · exact Nat.le_max_left _ _
    · exact Nat.le_trans (deep_mem h) (Nat.le_max_right _ _)
section
variable {a : Addr} {vs : List Value} {xs : List D} {h0 : Heap}
theorem each_in (hr : PySem.W.EachIs (RdsD h0) vs xs) {v : Value} (hv : v ∈ vs) : ∃ d, d ∈ xs ∧ RdsD h0 v d := by
  obtain ⟨d, hd, r⟩ := hr.left v hv
  exact ⟨d, hd, r⟩
theorem one_sortable (hr : PySem.W.EachIs (RdsD h0) vs xs) (T : Value) (hT : (T != Value.type "tuple") = true) (hT2 : (T == T) = true) (hd : ∀ d ∈ xs, PySem.W.dataType (py d) = T ∧ py d ≠ .none ∧ ∀ t, py d ≠ .tuple t) (ha : ∀ d ∈ xs, ∀ e ∈ xs, PySem.W.alike (py d) (py e) = true)
    (hz : deepDs xs ≤ 50) (hu : A.units + 60 < cLine) (h2 : 2 ≤ vs.length) (hk : ∀ b o, h0.get? b = some o → b ≠ a ∧ s.heap.get? b = some o) : SrtO.SortableO prog w A s a vs (fun v u => ltD (dv h0 xs v) (dv h0 xs u)) := by
  intro h' keep
  have k2 : ∀ b o, h0.get? b = some o → h'.get? b = some o := fun b o q => keep b o (hk b o q).1 (hk b o q).2
  have up : ∀ {v : Value} {d : D}, RdsD h0 v d → ∃ p, Reads h' v (py d) p := fun {v d} ⟨p, r⟩ => ⟨p, PyProof.Rows.Reads.keeps k2 r⟩
  refine ⟨oneType', fun Q E hq => PySem.W.kas_kind (T := T) h2 (fun v hv => ?_) hT hT2 hq, fun p q hp hq => ?_⟩
  · obtain ⟨d, hd1, r⟩ := each_in hr hv
    obtain ⟨as, r'⟩ := up r
    rw [← (hd d hd1).1]
    exact PySem.W.looks_reads r'
  · obtain ⟨d, hd1, r⟩ := each_in hr hp
    obtain ⟨e, he1, t⟩ := each_in hr hq
    obtain ⟨as, r'⟩ := up r
    obtain ⟨bs, t'⟩ := up t
    rw [keyLt'_oneType]
    have dz := deep_mem hd1
    exact PySem.W.oneLt_alike (fun _ => (hd d hd1).2.2) r' t' (ha d hd1 e he1) (hd d hd1).2.1 (by rw [deep_py, deep_py]; omega) ⟨rfl, by show PySem.W.dataLt (py d) (py e) = ltD (dv h0 xs p.1) (dv h0 xs q.1); rw [lt_py, dv_lt hd1 he1 r t]⟩
theorem row_cases {d e : D} (h : rowOk d e = true) : ∃ x r y t, d = .tup (x :: r) ∧ e = .tup (y :: t) ∧ lexOk (x :: r) (y :: t) = true := by
  cases d with
  | tup ds =>
    cases ds with
    | nil => cases h
    | cons x r =>
      cases e with
      | tup es =>
        cases es with
        | nil => cases h
        | cons y t => exact ⟨x, r, y, t, rfl, rfl, h⟩
      | _ => cases h
  | _ => cases h
theorem rows_sortable (hr : PySem.W.EachIs (RdsD h0) vs xs) (ha : ∀ d ∈ xs, ∀ e ∈ xs, rowOk d e = true) (hz : deepDs xs ≤ 50) (hu : A.units + 60 < cLine) (h2 : 2 ≤ vs.length) (hk : ∀ b o, h0.get? b = some o → b ≠ a ∧ s.heap.get? b = some o) :
    SrtO.SortableO prog w A s a vs (fun v u => ltD (dv h0 xs v) (dv h0 xs u)) := by
  intro h' keep
  have k2 : ∀ b o, h0.get? b = some o → h'.get? b = some o := fun b o q => keep b o (hk b o q).1 (hk b o q).2
  have up : ∀ {v : Value} {d : D}, RdsD h0 v d → ∃ p, Reads h' v (py d) p := fun {v d} ⟨p, r⟩ => ⟨p, PyProof.Rows.Reads.keeps k2 r⟩
  obtain ⟨d0, hd0⟩ : ∃ d0, d0 ∈ xs := by
    have := hr.length
    cases xs with
    | nil => rw [this] at h2; simp at h2
    | cons d ds => exact ⟨d, List.mem_cons_self⟩
  obtain ⟨x0, r0, _, _, e0, _, _⟩ := row_cases (ha d0 hd0 d0 hd0)
  have hfirst : ∀ x r, D.tup (x :: r) ∈ xs → PySem.W.alike (py x) (py x0) = true := fun x r hm => by
    have q := ha _ hm d0 hd0
    rw [e0] at q
    have q : (alikeD x x0 && (!eqD x x0 || lexOk r r0)) = true := q
    rw [Bool.and_eq_true] at q
    exact alike_py _ _ q.1
  refine ⟨tuples' (PySem.W.dataType (py x0) != Value.type "tuple"), fun Q E hq => ?_, fun p q hp hq => ?_⟩
  · have er : PySem.W.EachIs (fun v d => ∃ as, Reads h' v d as) vs (pys xs) := by
      rw [pys_map]
      exact PySem.W.each_map (R := fun v d => ∃ as, Reads h' v d as) py (hr.mono fun v d r => up r)
    obtain ⟨fs, t1, t2, t3⟩ := PySem.W.each_katTups er fun d hd => by
      rw [pys_map, List.mem_map] at hd
      obtain ⟨e, he, rfl⟩ := hd
      obtain ⟨x, r, _, _, rfl, _, _⟩ := row_cases (ha e he e he)
      exact ⟨py x, pys r, rfl⟩
    refine PySem.W.kat_kind (T := PySem.W.dataType (py x0)) t1 (by omega) (fun f hf => ?_) (beq_self_eq_true _) hq
    obtain ⟨x, r, as, m1, m2⟩ := t3 f hf
    rw [pys_map, List.mem_map] at m1
    obtain ⟨e, he, h5⟩ := m1
    obtain ⟨y, t, _, _, rfl, _, _⟩ := row_cases (ha e he e he)
    have h5 : PyData.tuple (py y :: pys t) = .tuple (x :: r) := h5
    injection h5 with h5
    injection h5 with h5 h6
    subst h5
    rw [← PySem.W.dataType_alike (hfirst y t he)]
    exact PySem.W.looks_reads m2
  · obtain ⟨pv, pw⟩ := p
    obtain ⟨qv, qw⟩ := q
    have hp : pv ∈ vs := hp
    have hq : qv ∈ vs := hq
    show wpAny (model prog w) A (keyLt' (tuples' (PySem.W.dataType (py x0) != Value.type "tuple")) pv qv) (fun r s' => s' = _ ∧ r = ltD (dv h0 xs pv) (dv h0 xs qv)) _ _
    obtain ⟨d, hd1, r⟩ := each_in hr hp
    obtain ⟨e, he1, t⟩ := each_in hr hq
    obtain ⟨as, r'⟩ := up r
    obtain ⟨bs, t'⟩ := up t
    have hlt := dv_lt hd1 he1 r t
    have dz := deep_mem hd1
    have hde := ha d hd1 e he1
    obtain ⟨x, dr, y, er, rfl, rfl, hl⟩ := row_cases hde
    have r' : Reads h' pv (.tuple (pys (x :: dr))) as := r'
    have t' : Reads h' qv (.tuple (pys (y :: er))) bs := t'
    cases r' with
    | @tuple l o zs n _ _ h1 h2 h3 h4 =>
      cases t' with
      | @tuple l' o' zs' n' _ _ k1 k2' k3 k4 =>
        have n1 : zs.size = (x :: dr).length := by
          have := SeqAt.ReadsAll.length _ _ _ h4
          rw [pys_map, List.length_map] at this
          simpa using this
        have n2 : zs'.size = (y :: er).length := by
          have := SeqAt.ReadsAll.length _ _ _ k4
          rw [pys_map, List.length_map] at this
          simpa using this
        have dd : deepDs (x :: dr) ≤ 50 := by
          have e1 : deepD (.tup (x :: dr)) = deepDs (x :: dr) + 1 := rfl
          omega
        refine PySem.W.kat_lt h1 h3 k1 k3 (lex_rows (s := { s with heap := h' }) (x :: dr) (y :: er) 0 _ _ _ _ h4 k4 hl (by rw [deep_pys, deep_pys]; omega) (fun hb _ x' r' t ex => ?_) (by rw [n1, n2]) ⟨rfl, hlt.symm⟩)
        obtain ⟨rfl, rfl⟩ := List.cons.inj ex
        have hq := PySem.W.dataType_alike (hfirst _ _ hd1)
        rw [← hq] at hb
        exact PySem.W.dataType_tuple hb t
end
end

/-! ## as a rule -/
def rSortZ (K : PySem.W.Frag) : List V → Hp → VK → Prop := fun us H Q => ∃ (a : Addr) (vs : List V) (xs : List D), us = [.ref a] ∧ SqL K H a vs ∧ DpAll K H vs (pys xs) ∧ okSort xs = true ∧ deepDs xs ≤ 50 ∧
  ∀ p, H p = none → Q (.ref p) (upd H p (.lst (((vs.zip xs).mergeSort fun p q => !ltD q.2 p.2).map (·.1))))
theorem isI_ok {xs : List D} (h : xs.all isI = true) : ∀ d ∈ xs, ∃ i, d = .int i := fun d hd => by
  have := List.all_eq_true.mp h d hd
  cases d <;> first | exact ⟨_, rfl⟩ | cases this
theorem isS_ok {xs : List D} (h : xs.all isS = true) : ∀ d ∈ xs, ∃ i, d = .str i := fun d hd => by
  have := List.all_eq_true.mp h d hd
  cases d <;> first | exact ⟨_, rfl⟩ | cases this
theorem vals_map {L : List (V × Value × D)} (h : ∀ t ∈ L, RelV t.1 t.2.1) : Vals (L.map (·.1)) (L.map (·.2.1)) := by
  induction L with
  | nil => exact .nil
  | cons t L ih => exact .cons (h t List.mem_cons_self) (ih fun u hu => h u (List.mem_cons_of_mem _ hu))
theorem zip_vals {vs : List V} {its : List Value} (r : Vals vs its) : ∀ {xs : List D}, ∀ t ∈ vs.zip (its.zip xs), RelV t.1 t.2.1 := by
  induction vs generalizing its with
  | nil => intro xs t ht; simp at ht
  | cons v vs ih =>
    cases r with
    | cons r1 r2 =>
      intro xs t ht
      cases xs with
      | nil => simp at ht
      | cons x xs =>
        rw [List.zip_cons_cons, List.zip_cons_cons] at ht
        rcases List.mem_cons.mp ht with rfl | ht
        · exact r1
        · exact ih r2 t ht
theorem zip3_f {α β γ : Type} : ∀ (a : List α) (b : List β) (c : List γ), a.length = b.length → b.length = c.length → (a.zip (b.zip c)).map (fun t => (t.1, t.2.2)) = a.zip c
  | [], _, c, _, _ => by simp
  | x :: a, [], c, h, _ => by simp at h
  | x :: a, y :: b, [], _, h => by simp at h
  | x :: a, y :: b, z :: c, h1, h2 => by
    rw [List.zip_cons_cons, List.zip_cons_cons, List.map_cons, zip3_f a b c (by simpa using h1) (by simpa using h2), List.zip_cons_cons]
theorem zip_snd {α β : Type} {a : List α} {b : List β} (h : a.length = b.length) : (a.zip b).map (·.2) = b := by
  induction a generalizing b with
  | nil => cases b with
    | nil => rfl
    | cons => simp at h
  | cons x a ih => cases b with
    | nil => simp at h
    | cons y b => rw [List.zip_cons_cons, List.map_cons, ih (by simpa using h)]
theorem zip_fst {α β : Type} {a : List α} {b : List β} (h : a.length = b.length) : (a.zip b).map (·.1) = a := by
  induction a generalizing b with
  | nil => rfl
  | cons x a ih => cases b with
    | nil => simp at h
    | cons y b => rw [List.zip_cons_cons, List.map_cons, ih (by simpa using h)]
theorem each_zip {h : Heap} {xs : List D} {its : List Value} (e : PySem.W.EachIs (RdsD h) its xs) : ∀ p ∈ its.zip xs, p.2 ∈ xs ∧ RdsD h p.1 p.2 := by
  induction e with
  | nil => intro p hp; simp at hp
  | cons r _ ih =>
    intro p hp
    rw [List.zip_cons_cons] at hp
    rcases List.mem_cons.mp hp with rfl | hp
    · exact ⟨List.mem_cons_self, r⟩
    · exact ⟨List.mem_cons_of_mem _ (ih p hp).1, (ih p hp).2⟩
section
variable {X : Cx}
theorem cr_sortZ (hu : X.A.units + 64 < cLine) : CallR X (.builtin "sorted") (rSortZ X.K) := by
  intro pins s σ H us' us Q I r h
  obtain ⟨a, vs, xs, rfl, hs, hd, ok, hz, q⟩ := h
  obtain ⟨its, rv, hl, hlen⟩ := I.list hs
  rw [Vals.ref1 r]
  obtain ⟨as, ra⟩ := Dp.readsAll I (pys xs) vs its hd rv
  have er : PySem.W.EachIs (RdsD s.heap) its xs := by
    rw [pys_map] at ra
    exact PySem.W.readsAll_each py ra
  have l1 := rv.length
  have l2 := er.length
  have hu2 : X.A.in1.in1.units + 60 < cLine := by
    have : X.A.in1.in1.units = X.A.units + 1 + 1 := rfl
    omega
  refine SrtO.sorted_ord (ltv := fun v u => ltD (dv s.heap xs v) (dv s.heap xs u)) (swo_dv _ _) hl.isList (by rw [← l1]; exact hlen) (fun h2 h1 a' _ hb => ?_) fun out h1 h2 => ?_
  · unfold okSort at ok
    rw [Bool.or_eq_true, Bool.or_eq_true] at ok
    rcases ok with (ok | ok) | ok
    · have hi := isI_ok ok
      refine one_sortable (s := { s with heap := h1 }) er (.type "int") (by decide) (by decide) (fun d hd => ?_) (fun d hd e he => ?_) hz hu2 h2 hb
      · obtain ⟨i, rfl⟩ := hi d hd
        exact ⟨rfl, fun z => (by cases z), fun t z => (by cases z)⟩
      · obtain ⟨i, rfl⟩ := hi d hd
        obtain ⟨j, rfl⟩ := hi e he
        rfl
    · have hi := isS_ok ok
      refine one_sortable (s := { s with heap := h1 }) er (.type "str") (by decide) (by decide) (fun d hd => ?_) (fun d hd e he => ?_) hz hu2 h2 hb
      · obtain ⟨i, rfl⟩ := hi d hd
        exact ⟨rfl, fun z => (by cases z), fun t z => (by cases z)⟩
      · obtain ⟨i, rfl⟩ := hi d hd
        obtain ⟨j, rfl⟩ := hi e he
        rfl
    · exact rows_sortable (s := { s with heap := h1 }) er (fun d hd e he => List.all_eq_true.mp (List.all_eq_true.mp ok d hd) e he) hz hu2 h2 hb
  · have e1 : out = its.mergeSort fun v u => !ltD (dv s.heap xs u) (dv s.heap xs v) := by
      have s1 := sort_srtd (swo_dv s.heap xs) its
      have s2 := sort_stb (swo_dv s.heap xs) its
      exact SrtO.stb_uniq (swo_dv s.heap xs) h1 s1 ⟨h2.perm.trans s2.perm.symm, fun x => (h2.cls x).trans (s2.cls x).symm⟩
    have e2 : ((its.zip xs).mergeSort fun p q => !ltD q.2 p.2).map (·.1) = out := by
      rw [e1, List.map_mergeSort (s := fun v u => !ltD (dv s.heap xs u) (dv s.heap xs v)) fun p hp t ht => ?_, zip_fst l2]
      obtain ⟨p1, p2⟩ := each_zip er p hp
      obtain ⟨t1, t2⟩ := each_zip er t ht
      rw [dv_lt t1 p1 t2 p2]
    have l0 : vs.length = its.length := l1
    have e3 : (vs.zip xs).mergeSort (fun p q => !ltD q.2 p.2) = ((vs.zip (its.zip xs)).mergeSort fun p q => !ltD q.2.2 p.2.2).map fun t => (t.1, t.2.2) := by
      have m := List.map_mergeSort (l := vs.zip (its.zip xs)) (f := fun t : V × Value × D => (t.1, t.2.2)) (r := fun p q : V × Value × D => !ltD q.2.2 p.2.2) (s := fun p q : V × D => !ltD q.2 p.2) (fun _ _ _ _ => rfl)
      rw [zip3_f _ _ _ l0 l2] at m
      exact m.symm
    have e4 : (its.zip xs).mergeSort (fun p q => !ltD q.2 p.2) = ((vs.zip (its.zip xs)).mergeSort fun p q => !ltD q.2.2 p.2.2).map (·.2) := by
      have m := List.map_mergeSort (l := vs.zip (its.zip xs)) (f := fun t : V × Value × D => t.2) (r := fun p q : V × Value × D => !ltD q.2.2 p.2.2) (s := fun p q : Value × D => !ltD q.2 p.2) (fun _ _ _ _ => rfl)
      rw [zip_snd (by rw [List.length_zip, ← l2, Nat.min_self]; exact l0)] at m
      exact m.symm
    have vr : Vals (((vs.zip xs).mergeSort fun p q => !ltD q.2 p.2).map (·.1)) out := by
      rw [← e2, e3, e4, List.map_map, List.map_map]
      exact vals_map fun t ht => zip_vals rv t ((List.mergeSort_perm _ _).mem_iff.mp ht)
    obtain ⟨ep, he'⟩ := PyProof.Rows.sortedAll_at s.heap its out.toArray
    have hn : (((vs.zip xs).mergeSort fun p q => !ltD q.2 p.2).map (·.1)).length ≤ sizeLine := by
      rw [vr.length, h2.perm.length_eq, ← l1]
      exact hlen
    exact ⟨.ref _, upd H (s.heap.objs.size + 1) (.lst (((vs.zip xs).mergeSort fun p q => !ltD q.2 p.2).map (·.1))), I.laid (t' := s.toks) (fun _ _ => PyProof.Rows.sortedAll_old) (Nat.le_succ _) ⟨hn, out, ep, vr, he'⟩, rfl, q _ (I.hok.fresh (Nat.le_succ _))⟩
end
theorem rvs_map {K : PySem.W.Frag} {ρ : Tk} {H : Hp} {L : List (V × D)} (h : ∀ t ∈ L, Rv K ρ H t.2 t.1) : Rvs K ρ H (L.map (·.2)) (L.map (·.1)) := by
  induction L with
  | nil => exact .nil
  | cons t L ih => exact .cons (h t List.mem_cons_self) (ih fun u hu => h u (List.mem_cons_of_mem _ hu))
theorem zip_rvs {K : PySem.W.Frag} {ρ : Tk} {H : Hp} {ds : List D} {vs : List V} (r : Rvs K ρ H ds vs) : ∀ t ∈ vs.zip ds, Rv K ρ H t.2 t.1 := by
  induction ds generalizing vs with
  | nil => intro t ht; simp at ht
  | cons d ds ih =>
    cases r with
    | cons r1 r2 =>
      intro t ht
      rw [List.zip_cons_cons] at ht
      rcases List.mem_cons.mp ht with rfl | ht
      · exact r1
      · exact ih r2 t ht
section
variable {G : GC} {X : Cx}
theorem ov_sorted : OpV G X (.x .sorted_) (rSortZ X.K) := by
  intro W ρ st H ds vs Q s r h
  match ds, r with
  | [], _ => exact h.elim
  | [d], .cons (v := v) rd .nil =>
    have h : Lf G X.K W ρ H (match listD st d with
      | some xs => if (litDs xs && okSort xs && decide (deepDs xs ≤ 50)) = true then .ok (.loc st.length) (st ++ [.lst (sortD xs)]) else .bad
      | none => .bad) (Val1 X.K Q) := h
    cases hx : listD st d with
    | none => rw [hx] at h; exact h.elim
    | some xs =>
    rw [hx] at h
    obtain ⟨hc, h⟩ := of_ite h
    simp only [Bool.and_eq_true, decide_eq_true_eq] at hc
    obtain ⟨⟨hlit, hok⟩, hdep⟩ := hc
    obtain ⟨a, us, rfl, h1, h2⟩ := listD_seq s rd hx
    refine ⟨a, us, xs, rfl, h1, dps_deref (fun _ => none) (fun _ _ _ _ _ z => by cases z) h2 (lits_deref _ xs hlit), hok, hdep, fun p hp => ?_⟩
    have e : sortD xs = ((us.zip xs).mergeSort fun p q => !ltD q.2 p.2).map (·.2) := by
      rw [List.map_mergeSort (s := fun a b => !ltD b a) fun p _ t _ => rfl, zip_snd h2.length.symm]; rfl
    rw [e] at h
    exact okl h s (rvs_map fun t ht => zip_rvs h2 t ((List.mergeSort_perm _ _).mem_iff.mp ht)) hp
  | d :: _ :: _, _ => exact h.elim
theorem ov_str : OpV G X (.x .toStr) (fun xs H Q => ∃ i, xs = [.int i] ∧ i.natAbs.log2 < 1920 ∧ Q (.str (toString i)) H) := by
  intro W ρ st H ds vs Q s r h
  match ds, r with
  | [], _ => exact h.elim
  | [.int i], .cons rd .nil =>
    cases rd
    have h : Lf G X.K W ρ H (if i.natAbs.log2 < 1920 then .ok (.str (ofStr (toString i : String))) st else .bad) (Val1 X.K Q) := h
    obtain ⟨hc, h⟩ := of_ite h
    refine ⟨i, rfl, hc, ?_⟩
    have r : Rv X.K ρ H (.str (ofStr (toString i : String))) (.str ⟨(ofStr (toString i : String)).toArray⟩) := .str _
    have e : (⟨(ofStr (toString i : String)).toArray⟩ : Str) = ((toString i : String) : Str) := by
      unfold ofStr
      simp
    rw [e] at r
    exact okv h s r
  | [.non], _ => exact h.elim
  | [.bl _], _ => exact h.elim
  | [.str _], _ => exact h.elim
  | [.tup _], _ => exact h.elim
  | [.flst _], _ => exact h.elim
  | [.slst _], _ => exact h.elim
  | [.fdct _ _], _ => exact h.elim
  | [.fset _], _ => exact h.elim
  | [.fins _ _ _], _ => exact h.elim
  | [.fn _], _ => exact h.elim
  | [.loc _], _ => exact h.elim
  | d :: _ :: _, _ => revert h; cases d <;> exact fun h => h.elim
end
end Z

set_option autoImplicit false
set_option maxHeartbeats 1000000
namespace Z
open PySem PySem.Spec PyProof.Rows L2

/-! ## methods of built-in types -/
section
variable {G : GC} {X : Cx} {ρ : Tk} {H : Hp} {st : Store} {W : Value → Option Addr → Hp → Prop}
/-- a method by data -/
def OpM (G : GC) (X : Cx) (m : Mt) (r : V → List V → Hp → VK → Prop) : Prop := ∀ (W : Value → Option Addr → Hp → Prop) (ρ : Tk) (st : Store) (H : Hp) (d : D) (ds : List D) (x : V) (vs : List V) (Q : VK), Rs G X.K ρ st H → Rv X.K ρ H d x → Rvs X.K ρ H ds vs →
  Lf G X.K W ρ H (methSem m (d :: ds) st) (Val1 X.K Q) → r x vs H Q
theorem om_ascii : OpM G X .isascii (fun x xs H Q => ∃ a, x = .str a ∧ xs = [] ∧ True ∧ Q (.bl (Txt.isascii a)) H) := by
  intro W ρ st H d ds x vs Q s rd rs h
  cases rd <;> cases rs <;> first | exact h.elim | skip
  exact ⟨_, rfl, rfl, trivial, okv h s (.bl _)⟩
theorem om_digit : OpM G X .isdigit (fun x xs H Q => ∃ a, x = .str a ∧ xs = [] ∧ True ∧ Q (.bl (Txt.isdigit a)) H) := by
  intro W ρ st H d ds x vs Q s rd rs h
  cases rd <;> cases rs <;> first | exact h.elim | skip
  exact ⟨_, rfl, rfl, trivial, okv h s (.bl _)⟩
theorem om_lower : OpM G X .lower (fun x xs H Q => ∃ a, x = .str a ∧ xs = [] ∧ a.length ≤ 5592405 ∧ Q (.str (Txt.lower a)) H) := by
  intro W ρ st H d ds x vs Q s rd rs h
  cases rd <;> cases rs <;> first | exact h.elim | skip
  case str.nil z =>
    have h : Lf G X.K W ρ H (if z.length ≤ 5592405 then .ok (.str (ofStr (Txt.lower (toStr z)))) st else .bad) (Val1 X.K Q) := h
    obtain ⟨hz, h⟩ := of_ite h
    exact ⟨_, rfl, rfl, by show z.toArray.size ≤ _; rw [List.size_toArray]; exact hz, okv h s (.str _)⟩
theorem om_upper : OpM G X .upper (fun x xs H Q => ∃ a, x = .str a ∧ xs = [] ∧ a.length ≤ 5592405 ∧ Q (.str (Txt.upper a)) H) := by
  intro W ρ st H d ds x vs Q s rd rs h
  cases rd <;> cases rs <;> first | exact h.elim | skip
  case str.nil z =>
    have h : Lf G X.K W ρ H (if z.length ≤ 5592405 then .ok (.str (ofStr (Txt.upper (toStr z)))) st else .bad) (Val1 X.K Q) := h
    obtain ⟨hz, h⟩ := of_ite h
    exact ⟨_, rfl, rfl, by show z.toArray.size ≤ _; rw [List.size_toArray]; exact hz, okv h s (.str _)⟩
theorem om_ends : OpM G X .endswith (fun x xs H Q => ∃ a b, x = .str a ∧ xs = [.str b] ∧ Q (.bl (Txt.endswith a b)) H) := by
  intro W ρ st H d ds x vs Q s rd rs h
  match ds, vs, rs with
  | [e], [u], .cons re .nil =>
    cases rd <;> first | exact h.elim | skip
    cases re <;> first | exact h.elim | skip
    exact ⟨_, _, rfl, rfl, okv h s (.bl _)⟩
  | [], _, _ => revert h; cases d <;> exact fun h => h.elim
  | e :: _ :: _, _, _ => revert h; cases d <;> cases e <;> exact fun h => h.elim
theorem om_starts : OpM G X .startswith (fun x xs H Q => ∃ a b, x = .str a ∧ xs = [.str b] ∧ Q (.bl (Txt.startswith a b)) H) := by
  intro W ρ st H d ds x vs Q s rd rs h
  match ds, vs, rs with
  | [e], [u], .cons re .nil =>
    cases rd <;> first | exact h.elim | skip
    cases re <;> first | exact h.elim | skip
    exact ⟨_, _, rfl, rfl, okv h s (.bl _)⟩
  | [], _, _ => revert h; cases d <;> exact fun h => h.elim
  | e :: _ :: _, _, _ => revert h; cases d <;> cases e <;> exact fun h => h.elim
theorem str_of_tl {a : Str} {l : List Nat} (h : TL.tl a = l) : a = ⟨l.toArray⟩ := TL.ext_tl (by rw [h])
theorem map_tl_mk (ys : List (List Nat)) : (ys.map fun z => (⟨z.toArray⟩ : Str)).map TL.tl = ys := by
  rw [List.map_map]
  exact List.map_id' ys
theorem map_len_mk (ys : List (List Nat)) : (ys.map fun z => (⟨z.toArray⟩ : Str)).map (·.length) = ys.map List.length := by
  rw [List.map_map]
  exact List.map_congr_left fun z _ => List.size_toArray
theorem om_join : OpM G X .join (fun x xs H Q => ∃ a p, ∃ ys : List Str, x = .str a ∧ xs = [.ref p] ∧ (SqL X.K H p (ys.map V.str) ∨ SqT X.K H p (ys.map V.str)) ∧
      (ys.map (·.length)).sum + ys.length * a.length ≤ 16777216 ∧ Q (.str (Txt.join a ys)) H) := by
  intro W ρ st H d ds x vs Q s rd rs h
  match ds, vs, rs with
  | [e], [u], .cons re .nil =>
    cases rd <;> first | exact h.elim | skip
    rename_i sep
    have h : Lf G X.K W ρ H (match itemsD st e with
      | some xs => match allStr xs with
        | some ys => if (ys.map List.length).sum + ys.length * sep.length ≤ SZ then .ok (.str (TL.joinL sep ys)) st else .bad
        | none => .bad
      | none => .bad) (Val1 X.K Q) := h
    cases e1 : itemsD st e with
    | none => rw [e1] at h; exact h.elim
    | some ys =>
      rw [e1] at h
      have h : Lf G X.K W ρ H (match allStr ys with
        | some ys => if (ys.map List.length).sum + ys.length * sep.length ≤ SZ then .ok (.str (TL.joinL sep ys)) st else .bad
        | none => .bad) (Val1 X.K Q) := h
      cases e2 : allStr ys with
      | none => rw [e2] at h; exact h.elim
      | some zs =>
        rw [e2] at h
        have h : Lf G X.K W ρ H (if (zs.map List.length).sum + zs.length * sep.length ≤ SZ then .ok (.str (TL.joinL sep zs)) st else .bad) (Val1 X.K Q) := h
        obtain ⟨hz, h⟩ := of_ite h
        obtain ⟨a', us, ea, sq, q⟩ := items_seq s re e1
        cases ea
        have hv := vals_str q e2
        subst hv
        refine ⟨_, a', zs.map fun z => ⟨z.toArray⟩, rfl, rfl, sq, ?_, ?_⟩
        · rw [map_len_mk, List.length_map]
          show _ + _ * sep.toArray.size ≤ _
          rw [List.size_toArray]
          exact hz
        · have e3 : Txt.join ⟨sep.toArray⟩ (zs.map fun z => ⟨z.toArray⟩) = ⟨(TL.joinL sep zs).toArray⟩ := by
            rw [TL.join_eq]
            refine str_of_tl ?_
            rw [TL.tl_join, map_tl_mk]
          rw [e3]
          exact okv h s (.str _)
  | [], _, _ => revert h; cases d <;> exact fun h => h.elim
  | e :: _ :: _, _, _ => revert h; cases d <;> exact fun h => h.elim
theorem rvs_strs {K : PySem.W.Frag} : ∀ zs : List (List Nat), Rvs K ρ H (zs.map D.str) ((zs.map fun z => (⟨z.toArray⟩ : Str)).map V.str)
  | [] => .nil
  | z :: zs => .cons (.str z) (rvs_strs zs)
theorem om_split : OpM G X .split (fun x xs H Q => ∃ a b, x = .str a ∧ xs = [.str b] ∧ (b.length == 0) = false ∧ a.length + 2 ≤ sizeLine ∧ rNewStrs (Txt.split a b) H Q) := by
  intro W ρ st H d ds x vs Q s rd rs h
  match ds, vs, rs with
  | [e], [u], .cons re .nil =>
    cases rd <;> first | exact h.elim | skip
    rename_i z
    cases re <;> first | exact h.elim | skip
    rename_i y
    match y, h with
    | [c], h =>
      have h : Lf G X.K W ρ H (if c < 256 ∧ z.length + 2 ≤ SZ then .ok (.loc st.length) (st ++ [.lst ((TL.spl [c] 0 [] z).map .str)]) else .bad) (Val1 X.K Q) := h
      obtain ⟨hz, h⟩ := of_ite h
      refine ⟨_, _, rfl, rfl, rfl, by show z.toArray.size + 2 ≤ _; rw [List.size_toArray, ← sz_eq]; exact hz.2, fun p hp => ?_⟩
      have e1 : Txt.split ⟨z.toArray⟩ ⟨[c].toArray⟩ = (TL.spl [c] 0 [] z).map fun w => (⟨w.toArray⟩ : Str) := by
        refine TL.map_tl_inj ?_
        rw [map_tl_mk, TL.split_spl _ _ (by show [c] ≠ []; simp) (TL.kind_ok (by show (#[c].all (· < 256)) = true; simpa using hz.1))]
      rw [e1]
      exact okl h s (rvs_strs _) hp
    | [], h => exact h.elim
    | _ :: _ :: _, h => exact h.elim
  | [], _, _ => revert h; cases d <;> exact fun h => h.elim
  | e :: _ :: _, _, _ =>
    cases d <;> first | exact h.elim | skip
    cases e with
    | str y => rcases y with _ | ⟨c, _ | ⟨_, _⟩⟩ <;> exact h.elim
    | _ => exact h.elim
theorem om_append : OpM G X .append rAppend := by
  intro W ρ st H d ds x vs Q s rd rs h
  match ds, vs, rs with
  | [e], [u], .cons re .nil =>
    cases rd <;> first | exact h.elim | skip
    rename_i l a b hl
    have h : Lf G X.K W ρ H (match st[l]? with
      | some (.lst xs) => if xs.length < SZ then .ok .non (st.set l (.lst (xs ++ [e]))) else .bad
      | _ => .bad) (Val1 X.K Q) := h
    split at h
    · rename_i xs hx
      obtain ⟨hz, h⟩ := of_ite h
      obtain ⟨hl, ys, h2, h3⟩ := s.lst hl hx
      refine ⟨a, ys, u, rfl, rfl, h2, by rw [← h3.length, ← sz_eq]; exact hz, ?_⟩
      have E : Ext X.K ρ ρ H (upd H a (.lst (ys ++ [u]))) := Ext.wr hl h2 trivial
      exact h ρ _ E (s.wr hl (O := .lst (xs ++ [e])) h2 trivial rfl ⟨_, upd_same, (h3.append (.cons re .nil)).ext E⟩) .non .non
    · exact h.elim
  | [], _, _ => revert h; cases d <;> exact fun h => h.elim
  | e :: _ :: _, _, _ => revert h; cases d <;> exact fun h => h.elim
theorem om_extend : OpM G X .extend rExtend := by
  intro W ρ st H d ds x vs Q s rd rs h
  match ds, vs, rs with
  | [e], [u], .cons re .nil =>
    cases rd <;> first | exact h.elim | skip
    rename_i l a b hl
    have h : Lf G X.K W ρ H (match st[l]? with
      | some (.lst xs) => match lst1 st e with
        | some ys => if xs.length + ys.length ≤ SZ then .ok .non (st.set l (.lst (xs ++ ys))) else .bad
        | none => .bad
      | _ => .bad) (Val1 X.K Q) := h
    split at h
    · rename_i xs hx
      split at h
      · rename_i ys hy
        obtain ⟨hz, h⟩ := of_ite h
        obtain ⟨hl, us, h2, h3⟩ := s.lst hl hx
        obtain ⟨b', ws, rfl, g2, g3⟩ := s.lst1 re hy
        refine ⟨a, b', us, ws, rfl, rfl, h2, g2, by rw [← h3.length, ← g3.length, ← sz_eq]; exact hz, ?_⟩
        have E : Ext X.K ρ ρ H (upd H a (.lst (us ++ ws))) := Ext.wr hl h2 trivial
        exact h ρ _ E (s.wr hl (O := .lst (xs ++ ys)) h2 trivial rfl ⟨_, upd_same, (h3.append g3).ext E⟩) .non .non
      · exact h.elim
    · exact h.elim
  | [], _, _ => revert h; cases d <;> exact fun h => h.elim
  | e :: _ :: _, _, _ => revert h; cases d <;> exact fun h => h.elim
theorem eqV_flat {e d : D} {x y : V} (rx : Rv X.K ρ H e x) (ry : Rv X.K ρ H d y) (hx : flatD e = true) (hy : flatD d = true) : eqV x y = eqD e d := by
  cases rx <;> first | (cases hx; done) | skip
  all_goals
    cases ry <;> first | (cases hy; done) | skip
  all_goals first | rfl | skip
  all_goals exact beq_arr _ _
theorem flatV_of {e : D} {x : V} (rx : Rv X.K ρ H e x) (hx : flatD e = true) : flatV x = true := by
  cases rx <;> first | rfl | (cases hx; done)
theorem flatVs_of : ∀ {xs : List D} {vs : List V}, Rvs X.K ρ H xs vs → xs.all flatD = true → vs.all flatV = true
  | [], _, .nil, _ => rfl
  | x :: xs, _, .cons r t, h => by
    rw [List.all_cons, Bool.and_eq_true] at h
    rw [List.all_cons, flatV_of r h.1, flatVs_of t h.2]; rfl
theorem om_index : OpM G X .index (rIndex X.K) := by
  intro W ρ st H d ds x vs Q s rd rs h
  match ds, vs, rs with
  | [e], [u], .cons re .nil =>
    have h : Lf G X.K W ρ H (match listD st d with
      | some xs => if (flatD e && xs.all flatD) = true then (match xs.findIdx? fun y => eqD y e with
        | some j => R.ok (.int (j : Int)) st
        | none => .bad) else .bad
      | none => .bad) (Val1 X.K Q) := h
    obtain ⟨xs, hx, h⟩ := of_match_items (xs := listD st d) (f := fun xs => if (flatD e && xs.all flatD) = true then (match xs.findIdx? fun y => eqD y e with
        | some j => R.ok (.int (j : Int)) st
        | none => .bad) else .bad) h
    obtain ⟨hf, h⟩ := of_ite h
    rw [Bool.and_eq_true] at hf
    cases hj : xs.findIdx? fun y => eqD y e with
    | none => rw [hj] at h; exact h.elim
    | some j =>
      rw [hj] at h
      obtain ⟨a, ys, rfl, sq, q⟩ := listD_seq s rd hx
      · obtain ⟨hjl, p1, p2⟩ := List.findIdx?_eq_some_iff_getElem.mp hj
        obtain ⟨z, hz, rz⟩ := q.get (List.getElem?_eq_getElem hjl)
        have fl : ∀ (m : Nat) (w : D), xs[m]? = some w → flatD w = true := fun m w hw => List.all_eq_true.mp hf.2 w (List.mem_of_getElem? hw)
        refine ⟨a, ys, u, j, z, rfl, rfl, sq, flatV_of re hf.1, flatVs_of q hf.2, hz, ?_, fun m z' hm hz' => ?_, okv h s (.int _)⟩
        · rw [eqV_flat rz re (fl j _ (List.getElem?_eq_getElem hjl)) hf.1]; exact p1
        · obtain ⟨w, hw, rw'⟩ := q.getV hz'
          rw [eqV_flat rw' re (fl m _ hw) hf.1]
          have := p2 m hm
          obtain ⟨hml, e1⟩ := List.getElem?_eq_some_iff.mp hw
          rw [e1] at this
          simpa using this
  | [], _, _ => revert h; exact fun h => h.elim
  | e :: _ :: _, _, _ => revert h; exact fun h => h.elim

/-! ## a call of a method -/
variable {F : FT} {W2 : WX}
theorem str_wrap (d : D) {K : PySem.W.Frag} {P : D → Store → Tk → Hp → Prop} (h : Lf G K W ρ H (opSem (.x .asStr) [d] st) P) : ∃ z, d = .str z ∧ Lf G K W ρ H (.ok (.str z) st) P := by
  cases d <;> first | exact h.elim | exact ⟨_, rfl, h⟩
theorem lst_wrap {K : PySem.W.Frag} (s : Rs G K ρ st H) (d : D) {x : V} (r : Rv K ρ H d x) {P : D → Store → Tk → Hp → Prop} (h : Lf G K W ρ H (opSem (.x .asLst) [d] st) P) : (∃ a xs, x = .ref a ∧ H a = some (.lst xs)) ∧ Lf G K W ρ H (.ok d st) P := by
  cases d <;> first | exact h.elim | skip
  · cases r with
    | flst t q => exact ⟨⟨_, _, rfl, t.2⟩, h⟩
  · rename_i l
    have h : Lf G K W ρ H (match st[l]? with | some (.lst _) => .ok (.loc l) st | _ => .bad) P := h
    split at h
    · rename_i xs hx
      cases r with
      | loc hl =>
        obtain ⟨_, us, h2, h3⟩ := s.lst hl hx
        exact ⟨⟨_, _, rfl, h2⟩, h⟩
    · exact h.elim
theorem tyV_wrap {K : PySem.W.Frag} {b : Bool} {d : D} {x : V} {P : D → Store → Tk → Hp → Prop} (s : Rs G K ρ st H) (r : Rv K ρ H d x) (h : Lf G K W ρ H (opSem (.x (if b then .asLst else .asStr)) [d] st) P) : tyV K (if b then "list" else "str") x H ∧ P d st ρ H := by
  cases b with
  | false =>
    obtain ⟨z, rfl, h⟩ := str_wrap d h
    cases r
    exact ⟨rfl, h.ok s⟩
  | true =>
    obtain ⟨⟨a, xs, rfl, h2⟩, h⟩ := lst_wrap s d r h
    exact ⟨.inl ⟨rfl, xs, .inl (.inl h2)⟩, h.ok s⟩
theorem evs_head (a : Ex) (es : List Ex) (env : Env) (st : Store) : evs F (a :: es) env st = (ev F a env st).bind fun d st1 => (evs F es env st1).bind fun ds st2 => .ok (d :: ds) st2 := rfl
theorem meth_ok {m : Mt} {r : V → List V → Hp → VK → Prop} {b : Bool} (hm : OpM G X m r) (o : Ex) (ms : List Ex) (σ : L2.St) (H : Hp) (Q : VK) (h : tE G X.K W2 (ev F (.op (.x (.meth m)) (.op (.x (if b then .asLst else .asStr)) [o] :: ms))) σ H Q) :
    tBM X.K (if b then "list" else "str") r (tE G X.K W2 (ev F o)) (tA G X.K W2 (evs F ms)) σ H Q := by
  obtain ⟨ρ, env, st, rel, q⟩ := h
  have q : Lf G X.K (fun c d H' => W2 c d σ H') ρ H ((((((ev F o env st).bind fun d st1 => R.ok [d] st1).bind fun ds st1 => opSem (.x (if b then .asLst else .asStr)) ds st1)).bind fun d st1 => (evs F ms env st1).bind fun ds st2 => .ok (d :: ds) st2).bind fun ds st1 => opSem (.x (.meth m)) ds st1) (fun d _ ρ' H' => ∀ v, Rv X.K ρ' H' d v → Q v H') := q
  refine ⟨ρ, env, st, rel, q.bind.bind.bind.bind.imp fun d st1 ρ1 H1 e1 s1 q1 x rx => ?_⟩
  obtain ⟨t, q2⟩ := tyV_wrap s1 rx (q1.ok s1)
  refine ⟨t, ρ1, env, st1, ⟨s1, rel.e.ext e1⟩, q2.bind.imp fun ds st2 ρ2 H2 e2 s2 q3 vs rvs => ?_⟩
  exact hm _ ρ2 st2 H2 d ds x vs Q s2 (rx.ext e2) rvs (q3.ok s2)
theorem meth0_ok {m : Mt} {r : V → List V → Hp → VK → Prop} {b : Bool} (hm : OpM G X m r) (o : Ex) (σ : L2.St) (H : Hp) (Q : VK) (h : tE G X.K W2 (ev F (.op (.x (.meth m)) [.op (.x (if b then .asLst else .asStr)) [o]])) σ H Q) :
    tBM0 X.K (if b then "list" else "str") r (tE G X.K W2 (ev F o)) σ H Q := by
  have h := meth_ok hm o [] σ H Q h
  obtain ⟨ρ, env, st, rel, q⟩ := h
  refine ⟨ρ, env, st, rel, q.imp fun d st1 ρ1 H1 e1 s1 q1 x rx => ?_⟩
  obtain ⟨t, ρ2, env2, st2, rel2, q2⟩ := q1 x rx
  exact ⟨t, q2.ok rel2.s [] .nil⟩
/-! ## a op b op' c -/
theorem chain_ok {r r' : R2} {o p : Op} (hd : OpD G X o r) (hp : OpD G X p r') (a b c : Ex) (σ : L2.St) (H : Hp) (Q : VK) (h : tE G X.K W2 (ev F (.chain o p a b c)) σ H Q) :
    tChain r r' (tE G X.K W2 (ev F a)) (tE G X.K W2 (ev F b)) (tE G X.K W2 (ev F c)) σ H Q := by
  obtain ⟨ρ, env, st, rel, q⟩ := h
  have q : Lf G X.K (fun c d H' => W2 c d σ H') ρ H ((ev F a env st).bind fun x st1 => (ev F b env st1).bind fun y st2 => (opSem o [x, y] st2).bind fun z st3 => match z with
    | .bl true => (ev F c env st3).bind fun u st4 => opSem p [y, u] st4
    | .bl false => .ok (.bl false) st3
    | _ => .bad) (fun d _ ρ' H' => ∀ v, Rv X.K ρ' H' d v → Q v H') := q
  refine ⟨ρ, env, st, rel, q.bind.imp fun d st1 ρ1 H1 e1 s1 q1 x rx => ?_⟩
  refine ⟨ρ1, env, st1, ⟨s1, rel.e.ext e1⟩, q1.bind.imp fun e st2 ρ2 H2 e2 s2 q2 y ry => ?_⟩
  refine hd _ ρ2 st2 H2 d e x y _ s2 (rx.ext e2) ry (q2.bind.imp fun z st3 ρ3 H3 e3 s3 q3 v rv => ?_)
  cases z <;> first | exact q3.elim | skip
  rename_i k
  cases rv
  refine ⟨k, rfl, ?_⟩
  cases k with
  | true =>
    rw [if_pos rfl]
    have q3 : Lf G X.K (fun c d H' => W2 c d σ H') ρ3 H3 ((ev F c env st3).bind fun u st4 => opSem p [e, u] st4) (fun d _ ρ' H' => ∀ v, Rv X.K ρ' H' d v → Q v H') := q3
    refine ⟨ρ3, env, st3, ⟨s3, (rel.e.ext e1).ext (e2.trans e3)⟩, q3.bind.imp fun u st4 ρ4 H4 e4 s4 q4 w rw' => ?_⟩
    exact hp _ ρ4 st4 H4 e u y w Q s4 (ry.ext (e3.trans e4)) rw' q4
  | false =>
    rw [if_neg Bool.false_ne_true]
    exact okv q3 s3 (.bl _)
end
end Z

set_option autoImplicit false
set_option maxHeartbeats 1000000
namespace Z
open PySem PySem.Spec PyProof.Rows L2

/-! ## what is gone over -/
structure Walk (G : GC) (K : PySem.W.Frag) (S : Src) (J : L2.It) (ρ0 : Tk) (H0 : Hp) : Prop where
  go : ∀ (i : Nat) (ρ : Tk) (st : Store) (H : Hp), Ext K ρ0 ρ H0 H → Rs G K ρ st H → S.same st = true → i < S.items.length → J.go i H
  stop : ∀ (i : Nat) (ρ : Tk) (st : Store) (H : Hp), Ext K ρ0 ρ H0 H → Rs G K ρ st H → S.same st = true → S.items.length ≤ i → J.stop i H
  yld : ∀ (i : Nat) (ρ : Tk) (st : Store) (H : Hp) (x : V) (H' : Hp), Ext K ρ0 ρ H0 H → Rs G K ρ st H → S.same st = true → i < S.items.length → J.yld i H x H' →
    ∃ d, S.items[i]? = some d ∧ Ext K ρ ρ H H' ∧ Rs G K ρ st H' ∧ Rv K ρ H' d x
def tI (G : GC) (K : PySem.W.Frag) (W : WX) (k : Ik) (r : Env → Store → R (List D)) : TI := fun σ H R => ∃ ρ env st, Rel G K ρ env st σ H ∧ Lf G K (fun c d H' => W c d σ H') ρ H (r env st) fun ds st1 ρ1 H1 => ∃ S, srcOf k ds st1 = some S ∧ ∀ J, Walk G K S J ρ1 H1 → R J H1

mutual
theorem beqD_eq : ∀ {a b : D}, beqD a b = true → a = b
  | .non, b, h => by cases b <;> first | rfl | cases h
  | .bl x, b, h => by
    cases b <;> first | (cases h; done) | skip
    case bl y => rw [show x = y from by simpa [beqD] using h]
  | .int x, b, h => by
    cases b <;> first | (cases h; done) | skip
    case int y => rw [show x = y from by simpa [beqD] using h]
  | .str x, b, h => by
    cases b <;> first | (cases h; done) | skip
    case str y => rw [show x = y from by simpa [beqD] using h]
  | .tup x, b, h => by
    cases b <;> first | (cases h; done) | skip
    case tup y => rw [beqDs_eq (a := x) (b := y) h]
  | .flst x, b, h => by
    cases b <;> first | (cases h; done) | skip
    case flst y => rw [beqDs_eq (a := x) (b := y) h]
  | .loc x, b, h => by
    cases b <;> first | (cases h; done) | skip
    case loc y => rw [show x = y from by simpa [beqD] using h]
  | .slst x, b, h => by
    cases b <;> first | (cases h; done) | skip
    case slst y => rw [beqDs_eq (a := x) (b := y) h]
  | .fset x, b, h => by
    cases b <;> first | (cases h; done) | skip
    case fset y => rw [beqDs_eq (a := x) (b := y) h]
  | .fn x, b, h => by
    cases b <;> first | (cases h; done) | skip
    case fn y => rw [show x = y from by simpa [beqD] using h]
  | .fdct x x2, b, h => by
    cases b <;> first | (cases h; done) | skip
    case fdct y y2 =>
      have h : (beqDs x y && beqDs x2 y2) = true := h
      rw [Bool.and_eq_true] at h
      rw [beqDs_eq h.1, beqDs_eq h.2]
  | .fins c n x, b, h => by
    cases b <;> first | (cases h; done) | skip
    case fins d m y =>
      have h : (c == d && n == m && beqDs x y) = true := h
      rw [Bool.and_eq_true, Bool.and_eq_true] at h
      rw [beqDs_eq h.2, show c = d from by simpa using h.1.1, show n = m from by simpa using h.1.2]
theorem beqDs_eq : ∀ {a b : List D}, beqDs a b = true → a = b
  | [], [], _ => rfl
  | [], _ :: _, h => by cases h
  | _ :: _, [], h => by cases h
  | x :: xs, y :: ys, h => by
    have h : (beqD x y && beqDs xs ys) = true := h
    rw [Bool.and_eq_true] at h
    rw [beqD_eq h.1, beqDs_eq h.2]
end
mutual
theorem beqD_refl : ∀ a : D, beqD a a = true
  | .non => rfl
  | .bl x => by show (x == x) = true; exact beq_self_eq_true _
  | .int x => by show (x == x) = true; exact beq_self_eq_true _
  | .str x => by show (x == x) = true; exact beq_self_eq_true _
  | .tup x => beqDs_refl x
  | .flst x => beqDs_refl x
  | .loc x => by show (x == x) = true; exact beq_self_eq_true _
  | .slst x => beqDs_refl x
  | .fset x => beqDs_refl x
  | .fn x => by show (x == x) = true; exact beq_self_eq_true _
  | .fdct x y => by show (beqDs x x && beqDs y y) = true; rw [beqDs_refl x, beqDs_refl y]; rfl
  | .fins c n x => by show (c == c && n == n && beqDs x x) = true; rw [beqDs_refl x, beq_self_eq_true, beq_self_eq_true]; rfl
theorem beqDs_refl : ∀ a : List D, beqDs a a = true
  | [] => rfl
  | x :: xs => by show (beqD x x && beqDs xs xs) = true; rw [beqD_refl x, beqDs_refl xs]; rfl
end
theorem lstIs_eq {l : Nat} {xs : List D} {st : Store} (h : lstIs l xs st = true) : st[l]? = some (.lst xs) := by
  unfold lstIs at h
  split at h
  · rename_i ys hy
    rw [hy, beqDs_eq h]
  · cases h
theorem lstIs_refl {l : Nat} {xs : List D} {st : Store} (h : st[l]? = some (.lst xs)) : lstIs l xs st = true := by
  unfold lstIs
  rw [h]
  exact beqDs_refl xs

section
variable {G : GC} {K : PySem.W.Frag} {ρ0 : Tk} {H0 : Hp}
theorem walk_seqL {xs : List D} {a : Addr} {same : Store → Bool} (h : ∀ (ρ : Tk) (st : Store) (H : Hp), Ext K ρ0 ρ H0 H → Rs G K ρ st H → same st = true → ∃ vs, SqL K H a vs ∧ Rvs K ρ H xs vs) : Walk G K ⟨xs, same⟩ (Itl K a) ρ0 H0 := by
  refine ⟨fun i ρ st H e s m hi => ?_, fun i ρ st H e s m hi => ?_, fun i ρ st H x H' e s m hi y => ?_⟩
  · obtain ⟨vs, sq, q⟩ := h ρ st H e s m
    obtain ⟨v, hv, _⟩ := q.get (List.getElem?_eq_getElem hi)
    exact ⟨vs, v, sq, hv⟩
  · obtain ⟨vs, sq, q⟩ := h ρ st H e s m
    exact ⟨vs, sq, by rw [← q.length]; exact hi⟩
  · obtain ⟨vs, sq, q⟩ := h ρ st H e s m
    obtain ⟨rfl, f⟩ := y
    obtain ⟨d, hd, r⟩ := q.getV (f vs sq)
    exact ⟨d, hd, Ext.refl, s, r⟩
theorem walk_seqT {xs : List D} {vs : List V} {a : Addr} {same : Store → Bool} (sq : SqT K H0 a vs) (q : Rvs K ρ0 H0 xs vs) : Walk G K ⟨xs, same⟩ (Itt K a) ρ0 H0 := by
  refine ⟨fun i ρ st H e s m hi => ?_, fun i ρ st H e s m hi => ?_, fun i ρ st H x H' e s m hi y => ?_⟩
  · obtain ⟨v, hv, _⟩ := (q.ext e).get (List.getElem?_eq_getElem hi)
    exact ⟨vs, v, e.tup _ _ sq, hv⟩
  · exact ⟨vs, e.tup _ _ sq, by rw [← q.length]; exact hi⟩
  · obtain ⟨rfl, f⟩ := y
    obtain ⟨d, hd, r⟩ := (q.ext e).getV (f vs (e.tup _ _ sq))
    exact ⟨d, hd, Ext.refl, s, r⟩
theorem walk_str {z : List Nat} {same : Store → Bool} : Walk G K ⟨z.map fun c => .str [c], same⟩ (Its ⟨z.toArray⟩) ρ0 H0 := by
  have hl : (⟨z.toArray⟩ : Str).cps.size = z.length := List.size_toArray
  refine ⟨fun i ρ st H e s m hi => ?_, fun i ρ st H e s m hi => ?_, fun i ρ st H x H' e s m hi y => ?_⟩
  · have hi : i < (z.map fun c => D.str [c]).length := hi
    rw [List.length_map] at hi
    show i < (⟨z.toArray⟩ : Str).cps.size
    rw [hl]; exact hi
  · have hi : (z.map fun c => D.str [c]).length ≤ i := hi
    rw [List.length_map] at hi
    show (⟨z.toArray⟩ : Str).cps.size ≤ i
    rw [hl]; exact hi
  · obtain ⟨rfl, ch, hc, rfl⟩ := y
    refine ⟨.str [ch], ?_, Ext.refl, s, .str [ch]⟩
    show (z.map fun c => D.str [c])[i]? = _
    have hc : z.toArray[i]? = some ch := hc
    rw [List.getElem?_toArray] at hc
    rw [List.getElem?_map, hc]
    rfl
theorem walk_range {lo : Int} {n : Nat} {same : Store → Bool} : Walk G K ⟨rangeD lo n, same⟩ (Itr lo n) ρ0 H0 := by
  have hl : (rangeD lo n).length = n := by unfold rangeD; rw [List.length_map, List.length_range]
  refine ⟨fun i ρ st H e s m hi => ?_, fun i ρ st H e s m hi => ?_, fun i ρ st H x H' e s m hi y => ?_⟩
  · have hi : i < (rangeD lo n).length := hi
    rw [hl] at hi; exact hi
  · have hi : (rangeD lo n).length ≤ i := hi
    rw [hl] at hi; exact hi
  · obtain ⟨rfl, rfl⟩ := y
    have hi : i < (rangeD lo n).length := hi
    rw [hl] at hi
    refine ⟨.int (lo + i), ?_, Ext.refl, s, .int _⟩
    show (rangeD lo n)[i]? = _
    unfold rangeD
    rw [List.getElem?_map, List.getElem?_range hi]
    rfl
end

section
variable {G : GC} {P : List Fd} {k : Nat} {X : Cx} {c : Cc} {W : WX} {F : FT}
theorem PI.imp {tg e : Expr} {t t' : TI} (h : PI X tg e t) (f : ∀ σ H Q, t' σ H Q → t σ H Q) : PI X tg e t' := ⟨fun pins s σ H Q I q => h.run pins s σ H Q I (f σ H Q q)⟩
theorem PI.or {tg e : Expr} {t t' : TI} (h : PI X tg e t) (h' : PI X tg e t') : PI X tg e fun σ H Q => t σ H Q ∨ t' σ H Q := ⟨fun pins s σ H Q I q => q.elim (h.run pins s σ H Q I) (h'.run pins s σ H Q I)⟩
theorem pi_seq {tg e : Expr} {a : Ex} (h : PE X e (tE G X.K W (ev F a))) : PI X tg e (tI G X.K W .seq (evs F [a])) := by
  refine PI.imp (PI.or (PI.or (pi_list h) (pi_tup h)) (pi_str h)) fun σ H Q ⟨ρ, env, st, rel, q⟩ => ?_
  have q : Lf G X.K (fun c d H' => W c d σ H') ρ H ((ev F a env st).bind fun d st1 => R.ok [d] st1) _ := q
  cases hr : ev F a env st with
  | bad => rw [hr] at q; exact q.elim
  | exc c p st' =>
    rw [hr] at q
    refine .inl (.inl ⟨ρ, env, st, rel, ?_⟩)
    rw [hr]
    exact q
  | ok d st1 =>
    rw [hr] at q
    have q : ∀ ρ' H', Ext X.K ρ ρ' H H' → Rs G X.K ρ' st1 H' → ∃ S, srcOf .seq [d] st1 = some S ∧ ∀ J, Walk G X.K S J ρ' H' → Q J H' := q
    cases d with
    | tup xs =>
      refine .inl (.inr ⟨ρ, env, st, rel, ?_⟩)
      rw [hr]
      intro ρ' H' e s v rv
      obtain ⟨S, hS, f⟩ := q ρ' H' e s
      cases hS
      cases rv with
      | tup t r => exact ⟨_, rfl, ⟨_, t⟩, f _ (walk_seqT t r)⟩
    | flst xs =>
      refine .inl (.inl ⟨ρ, env, st, rel, ?_⟩)
      rw [hr]
      intro ρ' H' e s v rv
      obtain ⟨S, hS, f⟩ := q ρ' H' e s
      cases hS
      cases rv with
      | flst t r => exact ⟨_, rfl, ⟨_, t.sq⟩, f _ (walk_seqL fun ρ2 st2 H2 e2 s2 _ => ⟨_, (t.ext e2).sq, r.ext e2⟩)⟩
    | slst xs =>
      refine .inl (.inl ⟨ρ, env, st, rel, ?_⟩)
      rw [hr]
      intro ρ' H' e s v rv
      obtain ⟨S, hS, f⟩ := q ρ' H' e s
      cases hS
      cases rv with
      | slst t r => exact ⟨_, rfl, ⟨_, t.sq⟩, f _ (walk_seqL fun ρ2 st2 H2 e2 s2 _ => ⟨_, (t.ext e2).sq, r.ext e2⟩)⟩
    | loc l =>
      refine .inl (.inl ⟨ρ, env, st, rel, ?_⟩)
      rw [hr]
      intro ρ' H' e s v rv
      obtain ⟨S, hS, f⟩ := q ρ' H' e s
      have hS : (match st1[l]? with | some (.lst xs) => some (Src.mk xs (lstIs l xs)) | _ => none) = some S := hS
      split at hS
      · rename_i xs hx
        cases hS
        cases rv with
        | loc hl =>
          obtain ⟨_, vs, h2, h3⟩ := s.lst hl hx
          refine ⟨_, rfl, ⟨vs, .inl (.inl h2)⟩, f _ (walk_seqL fun ρ2 st2 H2 e2 s2 m => ?_)⟩
          obtain ⟨_, ws, g2, g3⟩ := s2.lst (pre_get e2.pre hl) (lstIs_eq m)
          exact ⟨ws, .inl (.inl g2), g3⟩
      · cases hS
    | str z =>
      refine .inr ⟨ρ, env, st, rel, ?_⟩
      rw [hr]
      intro ρ' H' e s v rv
      obtain ⟨S, hS, f⟩ := q ρ' H' e s
      cases hS
      cases rv with
      | str _ => exact ⟨_, rfl, f _ walk_str⟩
    | _ =>
      refine .inl (.inl ⟨ρ, env, st, rel, ?_⟩)
      rw [hr]
      intro ρ' H' e s v rv
      obtain ⟨S, hS, f⟩ := q ρ' H' e s
      cases hS
theorem pi_rng1 {tg a : Expr} {m : Ex} {p pos : Pos} (hg : Gl X "range") (hm : X.mg "range" = none) (hp : plain a = true) (h : PA X [a] (tA G X.K W (evs F [m]))) : PI X tg (.Call (.Name "range" p) [a] [] pos) (tI G X.K W .range1 (evs F [m])) := by
  refine PI.imp (pi_range1 hg hm h (star_plain hp)) fun σ H Q ⟨ρ, env, st, rel, q⟩ => ⟨ρ, env, st, rel, q.imp fun ds st1 ρ1 H1 e1 s1 q1 vs rvs => ?_⟩
  obtain ⟨S, hS, f⟩ := q1
  have hds : ∃ j, ds = [.int j] := by
    match ds with
    | [d] =>
      have hS : rng1Src d = some S := hS
      cases d <;> first | (cases hS; done) | skip
      exact ⟨_, rfl⟩
    | [] => cases hS
    | _ :: _ :: _ => cases hS
  obtain ⟨j, rfl⟩ := hds
  obtain ⟨u, rfl, r1⟩ := rvs.one
  cases r1
  have hS : (if in62 j = true then some (Src.mk (rangeD 0 j.toNat) fun _ => true) else none) = some S := hS
  split at hS
  · rename_i hj
    cases hS
    unfold in62 at hj
    simp only [Bool.and_eq_true, decide_eq_true_eq] at hj
    exact ⟨j, rfl, hj.1, hj.2, f _ walk_range⟩
  · cases hS
theorem pi_rng2 {tg a b : Expr} {ma mb : Ex} {p pos : Pos} (hg : Gl X "range") (hm : X.mg "range" = none) (hp : plain a = true) (hp2 : plain b = true) (h : PA X [a, b] (tA G X.K W (evs F [ma, mb]))) : PI X tg (.Call (.Name "range" p) [a, b] [] pos) (tI G X.K W .range2 (evs F [ma, mb])) := by
  refine PI.imp (pi_range2 hg hm h (by rw [star_plain hp, star_plain hp2]; rfl) (by rw [star_plain hp2]; rfl)) fun σ H Q ⟨ρ, env, st, rel, q⟩ => ⟨ρ, env, st, rel, q.imp fun ds st1 ρ1 H1 e1 s1 q1 vs rvs => ?_⟩
  obtain ⟨S, hS, f⟩ := q1
  have hds : ∃ i j, ds = [.int i, .int j] := by
    match ds with
    | [d, e] =>
      have hS : rngSrc d e = some S := hS
      cases d <;> first | (cases hS; done) | skip
      cases e <;> first | (cases hS; done) | skip
      exact ⟨_, _, rfl⟩
    | [] => cases hS
    | [_] => cases hS
    | _ :: _ :: _ :: _ => cases hS
  obtain ⟨i, j, rfl⟩ := hds
  obtain ⟨u, v, rfl, r1, r2⟩ := rvs.two
  cases r1; cases r2
  have hS : (if (in62 i && in62 j) = true then some (Src.mk (rangeD i (j - i).toNat) fun _ => true) else none) = some S := hS
  split at hS
  · rename_i hj
    cases hS
    unfold in62 at hj
    simp only [Bool.and_eq_true, decide_eq_true_eq] at hj
    exact ⟨i, j, rfl, ⟨hj.1.1, hj.1.2, hj.2.1, hj.2.2⟩, f _ walk_range⟩
  · cases hS
end
end Z

set_option autoImplicit false
set_option maxHeartbeats 1000000
namespace Z
open PySem PySem.Spec PyProof.Rows L2

/-! ## targets -/
def tG (G : GC) (K : PySem.W.Frag) (t : Tg) : TG := fun v σ H Q => ∃ ρ env d env', Re K ρ H env σ ∧ Rv K ρ H d v ∧ setT t d env = some env' ∧
  ∀ σ', Re K ρ H env' σ' → (∀ j, j ∉ slotsT t → σ'[j]? = σ[j]?) → Q σ' H
def tGs (G : GC) (K : PySem.W.Frag) (ts : List Tg) : TGs := fun vs σ H Q => ∃ ρ env ds env', Re K ρ H env σ ∧ Rvs K ρ H ds vs ∧ setTs ts ds env = some env' ∧
  ∀ σ', Re K ρ H env' σ' → (∀ j, j ∉ slotsTs ts → σ'[j]? = σ[j]?) → Q σ' H
theorem PG.imp {X : Cx} {e : Expr} {t t' : TG} (h : PG X e t) (f : ∀ v σ H Q, t' v σ H Q → t v σ H Q) : PG X e t' := ⟨fun pins s σ H v u Q I r q => h.run pins s σ H v u Q I r (f _ σ H Q q)⟩
theorem PGs.imp {X : Cx} {e : List Expr} {t t' : TGs} (h : PGs X e t) (f : ∀ v σ H Q, t' v σ H Q → t v σ H Q) : PGs X e t' := ⟨fun pins s σ H v u Q I r q => h.run pins s σ H v u Q I r (f _ σ H Q q)⟩

theorem each_len {es : List Expr} {env : PySem.Env} : (assignEach es env).length = es.length := by
  induction es with
  | nil => rfl
  | cons e es ih => cases e <;> (show (assignEach es env).length + 1 = es.length + 1; rw [ih])
theorem each_cons {e : Expr} {es : List Expr} {env : PySem.Env} (h : plain e = true) : assignEach (e :: es) env = (false, assign e env) :: assignEach es env := by
  cases e <;> first | rfl | (cases h)
theorem each_star {es : List Expr} {env : PySem.Env} (h : es.all plain = true) : (assignEach es env).findIdx? (·.1) = none := by
  induction es with
  | nil => rfl
  | cons e es ih =>
    rw [List.all_cons, Bool.and_eq_true] at h
    rw [each_cons h.1, List.findIdx?_cons, ih h.2]
    rfl
theorem trTg_ok {G : GC} {P : List Fd} {k : Nat} : ∀ (n : Nat), (∀ (X : Cx) (c : Cc) (e : Expr) (t : Tg), XG G P k X c → trTg c n e = some t → PG X e (tG G X.K t)) ∧
    (∀ (X : Cx) (c : Cc) (es : List Expr) (ts : List Tg), XG G P k X c → es.all plain = true → trTgs c n es = some ts → PGs X es (tGs G X.K ts) ∧ ts.length = es.length)
  | 0 => ⟨fun X c e t g h => (by cases h), fun X c es ts g hp h => (by cases h)⟩
  | n + 1 => by
    obtain ⟨ih1, ih2⟩ := trTg_ok (G := G) (P := P) (k := k) n
    refine ⟨fun X c e t g h => ?_, fun X c es ts g hp h => ?_⟩
    · unfold trTg at h
      split at h
      · rename_i x pos
        split at h
        · rename_i hx
          rw [Bool.and_eq_true] at hx
          cases hs : slotOf c.N x with
          | none => rw [hs] at h; cases h
          | some i =>
            rw [hs] at h; cases h
            refine PG.imp (pg_name (i := i) g.nd (by rw [g.N]; exact slotOf_get hs) (sto_loc g hx.1) (sto_fn g hx.1)) fun v σ H Q ⟨ρ, env, d, env', re, rv, he, q⟩ => ?_
            cases he
            refine q _ (re.set rv) fun j hj => ?_
            have hj : i ≠ j := fun z => hj (by rw [z]; exact List.mem_cons_self)
            exact List.getElem?_set_ne hj
        · cases h
      · rename_i es kk pos
        split at h
        · rename_i hp
          rw [Bool.and_eq_true, Bool.not_eq_true'] at hp
          obtain ⟨hh, hp⟩ := hp
          cases hs : trTgs c n es with
          | none => rw [hs] at h; cases h
          | some ts =>
            rw [hs] at h; cases h
            obtain ⟨p1, p2⟩ := ih2 X c es ts g hp hs
            refine PG.imp (pg_tup (n := es.length) (g.calm hh) p1 each_len (each_star hp)) fun v σ H Q ⟨ρ, env, d, env', re, rv, he, q⟩ => ?_
            cases rv with
            | @tup a vs ds t r =>
              have he : setTs ts ds env = some env' := he
              refine ⟨a, vs, rfl, t, ?_, ρ, env, ds, env', re, r, he, q⟩
              have : ∀ (ts : List Tg) (ds : List D) (env env' : Env), setTs ts ds env = some env' → ts.length = ds.length := by
                intro ts
                induction ts with
                | nil => intro ds env env' h; cases ds with
                  | nil => rfl
                  | cons => cases h
                | cons t ts ih => intro ds env env' h; cases ds with
                  | nil => cases h
                  | cons d ds =>
                    rw [setTs] at h
                    cases q : setT t d env with
                    | none => rw [q] at h; cases h
                    | some e2 => rw [q] at h; rw [List.length_cons, List.length_cons, ih _ _ _ h]
              rw [← r.length, ← this ts ds env env' he, p2]
            | _ => cases he
        · cases h
      · cases h
    · unfold trTgs at h
      split at h
      · cases h
        refine ⟨PGs.imp pgs_nil fun v σ H Q ⟨ρ, env, d, env', re, rv, he, q⟩ => ?_, rfl⟩
        cases d with
        | nil => cases rv; cases he; exact ⟨rfl, q σ re fun _ _ => rfl⟩
        | cons => cases he
      · rename_i e r
        rw [List.all_cons, Bool.and_eq_true] at hp
        cases hs : trTg c n e with
        | none => rw [hs] at h; cases h
        | some t =>
          cases hs2 : trTgs c n r with
          | none => rw [hs, hs2] at h; cases h
          | some ts =>
            rw [hs, hs2] at h; cases h
            obtain ⟨p1, p2⟩ := ih2 X c r ts g hp.2 hs2
            refine ⟨PGs.imp (pgs_cons (ih1 X c e t g hs) p1 (by rw [each_cons hp.1]; rfl)) fun v σ H Q ⟨ρ, env, d, env', re, rv, he, q⟩ => ?_, by rw [List.length_cons, List.length_cons, p2]⟩
            cases d with
            | nil => cases he
            | cons d ds =>
              rw [setTs] at he
              cases q1 : setT t d env with
              | none => rw [q1] at he; cases he
              | some env1 =>
                rw [q1] at he
                cases rv with
                | @cons _ _ v vs r1 r2 =>
                  refine ⟨v, vs, rfl, ρ, env, d, env1, re, r1, q1, fun σ1 re1 k1 => ⟨ρ, env1, ds, env', re1, r2, he, fun σ2 re2 k2 => q σ2 re2 fun j hj => ?_⟩⟩
                  have hj1 : j ∉ slotsT t := fun z => hj (List.mem_append_left _ z)
                  have hj2 : j ∉ slotsTs ts := fun z => hj (List.mem_append_right _ z)
                  rw [k2 j hj2, k1 j hj1]

mutual
theorem setT_len : ∀ {t : Tg} {d : D} {env env' : Env}, setT t d env = some env' → env'.length = env.length
  | .nm i, d, env, env', h => by cases h; exact List.length_set
  | .tup ts, d, env, env', h => by
    cases d with
    | tup xs => exact setTs_len (ts := ts) (ds := xs) h
    | _ => cases h
theorem setTs_len : ∀ {ts : List Tg} {ds : List D} {env env' : Env}, setTs ts ds env = some env' → env'.length = env.length
  | [], [], _, _, h => by cases h; rfl
  | [], _ :: _, _, _, h => by cases h
  | _ :: _, [], _, _, h => by cases h
  | t :: ts, d :: ds, env, env', h => by
    rw [setTs] at h
    cases q : setT t d env with
    | none => rw [q] at h; cases h
    | some e2 =>
      rw [q] at h
      rw [setTs_len h, setT_len q]
end
/-! ## comprehensions -/
theorem wipe_at {σ : L2.St} {i : Nat} : ∀ {vs : List Nat}, i ∈ vs → i < σ.length → (wipe σ vs)[i]? = some none
  | [], h, _ => by cases h
  | v :: vs, h, hi => by
    show ((wipe σ vs).set v none)[i]? = _
    by_cases e : v = i
    · subst e
      rw [List.getElem?_set_self (by rw [wipe_length]; exact hi)]
    · rw [List.getElem?_set_ne e]
      rcases List.mem_cons.mp h with z | z
      · exact absurd z.symm e
      · exact wipe_at z hi
theorem wipe_ext {σ τ : L2.St} {vs : List Nat} (hl : σ.length = τ.length) (h : ∀ j, j ∉ vs → σ[j]? = τ[j]?) : wipe σ vs = wipe τ vs := by
  apply List.ext_getElem?
  intro i
  by_cases hi : i ∈ vs
  · by_cases hlt : i < σ.length
    · rw [wipe_at hi hlt, wipe_at hi (by rw [← hl]; exact hlt)]
    · rw [List.getElem?_eq_none (by rw [wipe_length]; omega), List.getElem?_eq_none (by rw [wipe_length]; omega)]
  · rw [wipe_out hi, wipe_out hi]; exact h i hi
theorem wipe_wipe (σ : L2.St) (vs : List Nat) : wipe (wipe σ vs) vs = wipe σ vs := wipe_ext (wipe_length σ vs) fun j hj => wipe_out hj
section
variable {G : GC} {K : PySem.W.Frag} {ρ : Tk} {H : Hp} {env : Env} {σ : L2.St}
theorem Re.wipe (h : Re K ρ H env σ) : ∀ vs : List Nat, Re K ρ H (wipeE vs env) (wipe σ vs)
  | [] => h
  | v :: vs => by
    have ih := Re.wipe h vs
    refine ⟨by show ((L2.wipe σ vs).set v none).length = ((wipeE vs env).set v none).length; rw [List.length_set, List.length_set]; exact ih.len, fun i d e => ?_⟩
    have e : ((wipeE vs env).set v none)[i]? = some (some d) := e
    by_cases q : v = i
    · subst q
      rw [List.getElem?_set] at e
      rw [if_pos rfl] at e
      split at e <;> cases e
    · rw [List.getElem?_set_ne q] at e
      obtain ⟨x, a, b⟩ := ih.at_ i d e
      refine ⟨x, ?_, b⟩
      show ((L2.wipe σ vs).set v none)[i]? = _
      rw [List.getElem?_set_ne q]
      exact a
end
abbrev W0 : WX := fun _ _ _ _ => False
def tTs (G : GC) (K : PySem.W.Frag) (F : FT) : List Ex → TT
  | [] => tYes
  | [e] => tT G K W0 (ev F e)
  | _ => fun _ _ _ => False
theorem evTests_one {F : FT} {e : Ex} {env : Env} {st st' : Store} {b : Bool} (h : evTests F [e] env st = .ok b st') : ∃ d, ev F e env st = .ok d st' ∧ truth st' d = some b := by
  have h : (ev F e env st).bind (fun x st1 => match truth st1 x with | some true => R.ok true st1 | some false => .ok false st1 | none => .bad) = .ok b st' := h
  cases hr : ev F e env st with
  | ok d st1 =>
    rw [hr] at h
    have h : (match truth st1 d with | some true => R.ok true st1 | some false => .ok false st1 | none => .bad) = R.ok b st' := h
    split at h
    · cases h; exact ⟨d, rfl, by assumption⟩
    · cases h; exact ⟨d, rfl, by assumption⟩
    · cases h
  | exc => rw [hr] at h; cases h
  | bad => rw [hr] at h; cases h
section
variable {G : GC} {K : PySem.W.Frag} {W : WX} {F : FT}
theorem lc_ok {own : List Nat} {t : Tg} {kk : Ik} {src ifs : List Ex} {elt : Ex} (hs : ∀ j ∈ slotsT t, j ∈ own) (hif : ifs.length ≤ 1) (σ : L2.St) (H : Hp) (Q : VK)
    (h : tE G K W (ev F (.comp own t kk src ifs elt)) σ H Q) : tLc (tI G K W kk (evs F src)) (tG G K t) (tTs G K F ifs) (tE G K W0 (ev F elt)) own σ H Q := by
  obtain ⟨ρ, env, st, rel, q⟩ := h
  have q := Lf.bind (f := fun ds st1 => match srcOf kk ds st1 with
    | some S => evComp S.same st1.length (fun x st2 => match setT t x (wipeE own env) with
        | some env' => (evTests F ifs env' st2).bind fun ok st3 => if ok then (ev F elt env' st3).bind fun d st4 => .ok (some d) st4 else .ok none st3
        | none => .bad) S.items (st1 ++ [.lst []])
    | none => .bad) q
  refine ⟨ρ, env, st, rel, q.imp fun ds st1 ρ1 H1 e1 s1 q1 => ?_⟩
  cases hS : srcOf kk ds st1 with
  | none => rw [hS] at q1; exact q1.elim
  | some S =>
    rw [hS] at q1
    refine ⟨S, rfl, fun J wk D hD => ?_⟩
    generalize hone : (fun x st2 => match setT t x (wipeE own env) with
        | some env' => (evTests F ifs env' st2).bind fun ok st3 => if ok then (ev F elt env' st3).bind fun d st4 => R.ok (some d) st4 else .ok none st3
        | none => .bad) = one at q1
    have q1 : Lf G K (fun c d H' => W c d σ H') ρ1 H1 (evComp S.same st1.length one S.items (st1 ++ [.lst []])) (fun d _ ρ' H' => ∀ v, Rv K ρ' H' d v → Q v H') := q1
    have ea : Ext K ρ1 (ρ1 ++ [(D, true)]) H1 (upd H1 D (.lst [])) := Ext.alloc hD
    have sa : Rs G K (ρ1 ++ [(D, true)]) (st1 ++ [.lst []]) (upd H1 D (.lst [])) := s1.alloc hD rfl ⟨[], upd_same, .nil⟩
    have hl : (ρ1 ++ [(D, true)])[st1.length]? = some (D, true) := by rw [← s1.len, List.getElem?_append_right (Nat.le_refl _), Nat.sub_self]; rfl
    refine ⟨fun i m H' => ∃ ρ' st', Ext K ρ1 ρ' H1 H' ∧ ρ'[st1.length]? = some (D, true) ∧ Rs G K ρ' st' H' ∧ i + m = S.items.length ∧
        Lf G K (fun c d H' => W c d σ H') ρ' H' (evComp S.same st1.length one (S.items.drop i) st') (fun d _ ρ' H' => ∀ v, Rv K ρ' H' d v → Q v H'),
      ⟨S.items.length, ρ1 ++ [(D, true)], st1 ++ [.lst []], ea, hl, sa, Nat.zero_add _, ?_⟩, fun i m H2 hW => ?_⟩
    · rw [List.drop_zero]
      exact q1.ext ea
    · obtain ⟨ρ2, st2, e2, hl2, s2, him, q2⟩ := hW
      by_cases hi : i < S.items.length
      · refine .inr ?_
        rw [List.drop_eq_getElem_cons hi, evComp] at q2
        by_cases hsame : S.same st2 = true
        · rw [if_pos hsame] at q2
          refine ⟨wk.go i ρ2 st2 H2 e2 s2 hsame hi, fun H' => ∃ m', m' < m ∧ ∃ ρ' st', Ext K ρ1 ρ' H1 H' ∧ ρ'[st1.length]? = some (D, true) ∧ Rs G K ρ' st' H' ∧ (i + 1) + m' = S.items.length ∧
            Lf G K (fun c d H' => W c d σ H') ρ' H' (evComp S.same st1.length one (S.items.drop (i + 1)) st') (fun d _ ρ' H' => ∀ v, Rv K ρ' H' d v → Q v H'), fun H' hn => hn, fun x H3 hy => ?_⟩
          obtain ⟨d, hd, e3, s3, r3⟩ := wk.yld i ρ2 st2 H2 x H3 e2 s2 hsame hi hy
          rw [List.getElem?_eq_getElem hi] at hd
          have hd : S.items[i] = d := Option.some.inj hd
          rw [hd] at q2
          have q2 := q2.ext e3
          have e13 : Ext K ρ1 ρ2 H1 H3 := e2.trans e3
          rw [← hone] at q2
          cases hset : setT t d (wipeE own env) with
          | none => simp only [hset] at q2; exact q2.elim
          | some env' =>
            simp only [hset] at q2
            rw [hone] at q2
            refine ⟨ρ2, wipeE own env, d, env', ((rel.e.ext e1).ext e13).wipe own, r3, hset, fun σ2 re2 k2 => ⟨?_, ?_⟩⟩
            · refine (wipe_ext ?_ fun j hj => k2 j fun z => hj (hs j z)).trans (wipe_wipe σ own)
              rw [re2.len, setT_len hset, ← (rel.e.wipe own).len]
            · have fin : ∀ (ρ4 : Tk) (st3 : Store) (H4 : Hp), Ext K ρ2 ρ4 H3 H4 → Rs G K ρ4 st3 H4 →
                  Lf G K (fun c d H' => W c d σ H') ρ4 H4 (compTail st1.length ((ev F elt env' st3).bind fun d st4 => .ok (some d) st4) (evComp S.same st1.length one (S.items.drop (i + 1)))) (fun d _ ρ' H' => ∀ v, Rv K ρ' H' d v → Q v H') →
                  tE G K W0 (ev F elt) σ2 H4 fun y H6 => ∃ acc, H6 D = some (.lst acc) ∧ acc.length < sizeLine ∧ ∃ m', m' < m ∧ ∃ ρ' st', Ext K ρ1 ρ' H1 (upd H6 D (.lst (acc ++ [y]))) ∧ ρ'[st1.length]? = some (D, true) ∧ Rs G K ρ' st' (upd H6 D (.lst (acc ++ [y]))) ∧ (i + 1) + m' = S.items.length ∧
                    Lf G K (fun c d H' => W c d σ H') ρ' (upd H6 D (.lst (acc ++ [y]))) (evComp S.same st1.length one (S.items.drop (i + 1)) st') (fun d _ ρ' H' => ∀ v, Rv K ρ' H' d v → Q v H') := by
                intro ρ4 st3 H4 e4 s4 q4
                refine ⟨ρ4, env', st3, ⟨s4, re2.ext e4⟩, ?_⟩
                cases hr : ev F elt env' st3 with
                | bad => rw [hr] at q4; exact q4.elim
                | exc => rw [hr] at q4; exact q4.elim
                | ok y st4 =>
                  rw [hr] at q4
                  intro ρ5 H5 e5 s5 v rv
                  have q4 : Lf G K (fun c d H' => W c d σ H') ρ4 H4 (match st4[st1.length]? with
                    | some (.lst acc) => if acc.length < SZ then evComp S.same st1.length one (S.items.drop (i + 1)) (st4.set st1.length (.lst (acc ++ [y]))) else .bad
                    | _ => .bad) (fun d _ ρ' H' => ∀ v, Rv K ρ' H' d v → Q v H') := q4
                  split at q4
                  · rename_i acc hacc
                    obtain ⟨hz, q4⟩ := of_ite q4
                    have hl5 : ρ5[st1.length]? = some (D, true) := pre_get (e4.trans e5).pre hl2
                    obtain ⟨_, vs, g2, g3⟩ := s5.lst hl5 hacc
                    have ew : Ext K ρ5 ρ5 H5 (upd H5 D (.lst (vs ++ [v]))) := Ext.wr hl5 g2 trivial
                    exact ⟨vs, g2, by rw [← g3.length, ← sz_eq]; exact hz, m - 1, by omega, ρ5, _, ((e13.trans e4).trans e5).trans ew, hl5,
                      s5.wr (O := .lst (acc ++ [y])) hl5 g2 trivial rfl ⟨_, upd_same, (g3.ext ew).append (.cons (rv.ext ew) .nil)⟩, by omega, q4.ext (e5.trans ew)⟩
                  · exact q4.elim
              match ifs, hif with
              | [], _ =>
                exact fin ρ2 st2 H3 Ext.refl s3 q2
              | [e], _ =>
                refine ⟨ρ2, env', st2, ⟨s3, re2⟩, ?_⟩
                cases hr : ev F e env' st2 with
                | bad =>
                  have ht : evTests F [e] env' st2 = .bad := by rw [evTests, hr]; rfl
                  rw [ht] at q2; exact q2.elim
                | exc cc pp st' =>
                  have ht : evTests F [e] env' st2 = .exc cc pp st' := by rw [evTests, hr]; rfl
                  rw [ht] at q2; exact q2.elim
                | ok z st3 =>
                  intro ρ4 H4 e4 s4
                  cases htr : truth st3 z with
                  | none =>
                    have ht : evTests F [e] env' st2 = .bad := by rw [evTests, hr]; simp only [R.bind, htr]
                    rw [ht] at q2; exact q2.elim
                  | some b =>
                    refine ⟨b, rfl, ?_⟩
                    have ht : evTests F [e] env' st2 = .ok b st3 := by
                      rw [evTests, hr]; simp only [R.bind, htr]
                      cases b <;> rfl
                    rw [ht] at q2
                    cases b with
                    | true =>
                      show (if true = true then _ else _)
                      rw [if_pos rfl]
                      exact fin ρ4 st3 H4 e4 s4 (q2.ext e4)
                    | false =>
                      show (if false = true then _ else _)
                      rw [if_neg Bool.false_ne_true]
                      exact ⟨m - 1, by omega, ρ4, st3, e13.trans e4, pre_get e4.pre hl2, s4, by omega, q2.ext e4⟩
              | _ :: _ :: _, hz => exact absurd hz (by simp)
        · rw [if_neg hsame] at q2; exact q2.elim
      · refine .inl ?_
        rw [List.drop_eq_nil_of_le (Nat.le_of_not_lt hi), evComp] at q2
        by_cases hsame : S.same st2 = true
        · rw [if_pos hsame] at q2
          exact ⟨wk.stop i ρ2 st2 H2 e2 s2 hsame (Nat.le_of_not_lt hi), q2.ok s2 _ (.loc hl2)⟩
        · rw [if_neg hsame] at q2; exact q2.elim
end
end Z

set_option autoImplicit false
set_option maxHeartbeats 2000000
namespace Z
open PySem PySem.Spec PyProof.Rows L2

section
variable {G : GC} {P : List Fd} {k : Nat} {X : Cx} {c : Cc} {W : WX} {F : FT}
theorem args1 {α : Type} {l : List α} (h : l.length = 1) : ∃ a, l = [a] := by
  match l, h with
  | [a], _ => exact ⟨a, rfl⟩
theorem args2 {α : Type} {l : List α} (h : l.length = 2) : ∃ a b, l = [a, b] := by
  match l, h with
  | [a, b], _ => exact ⟨a, b, rfl⟩
theorem args0 {α : Type} {l : List α} (h : l.length = 0) : l = [] := List.length_eq_zero_iff.mp h
theorem blt2_sound {x : Str} {px pos : Pos} {args : List Expr} {ms : List Ex} {o : Op} (hu : X.A.units + 64 < cLine) (ho : bltOp2 x args.length = some o) (hg : Gl X x) (hm : X.mg x = none) (hok : okName x = true) (hpl : args.all plain = true) (pa : PA X args (tA G X.K W (evs F ms))) :
    PE X (.Call (.Name x px) args [] pos) (tE G X.K W (ev F (.op o ms))) := by
  unfold bltOp2 at ho
  split at ho
  · rename_i hx
    cases ho
    simp only [Bool.and_eq_true, beq_iff_eq] at hx
    obtain ⟨rfl, hl⟩ := hx
    obtain ⟨e, rfl⟩ := args1 hl
    rw [List.all_cons, Bool.and_eq_true] at hpl
    exact PE.imp (pe_callTy (pos := pos) (p := px) call_str_int hg hm (by decide +kernel) pa (okName_nm hok) (okName_dbg hok) (star_plain hpl.1)) fun σ H Q => blt_ok ov_str ms σ H Q
  split at ho
  · rename_i hx
    cases ho
    simp only [Bool.and_eq_true, beq_iff_eq] at hx
    obtain ⟨rfl, hl⟩ := hx
    obtain ⟨e, rfl⟩ := args1 hl
    rw [List.all_cons, Bool.and_eq_true] at hpl
    exact PE.imp (pe_callB (pos := pos) (p := px) (cr_sortZ hu) hg hm (by decide +kernel) pa (okName_nm hok) (okName_dbg hok) (star_plain hpl.1)) fun σ H Q => blt_ok ov_sorted ms σ H Q
  · cases ho
/-- a call of a built-in by name -/
theorem blt_sound {x : Str} {px pos : Pos} {args : List Expr} {ms : List Ex} {o : Op} {fr : Bool} (hu : X.A.units + 64 < cLine) (hc : calmOp o = true → X.calm = true) (ho : bltOp x args.length fr = some o) (hg : Gl X x) (hm : X.mg x = none) (hok : okName x = true) (hpl : args.all plain = true) (pa : PA X args (tA G X.K W (evs F ms))) :
    PE X (.Call (.Name x px) args [] pos) (tE G X.K W (ev F (.op o ms))) := by
  unfold bltOp at ho
  split at ho
  · rename_i hx
    cases ho
    simp only [Bool.and_eq_true, beq_iff_eq] at hx
    obtain ⟨rfl, hl⟩ := hx
    obtain ⟨e, rfl⟩ := args1 hl
    rw [List.all_cons, Bool.and_eq_true] at hpl
    exact PE.imp (pe_callB (pos := pos) (p := px) call_len hg hm PySem.boot_len pa (okName_nm hok) (okName_dbg hok) (star_plain hpl.1)) fun σ H Q => blt_ok ov_len ms σ H Q
  split at ho
  · rename_i hx
    cases ho
    simp only [Bool.and_eq_true, beq_iff_eq] at hx
    obtain ⟨rfl, hl⟩ := hx
    obtain ⟨e, rfl⟩ := args1 hl
    rw [List.all_cons, Bool.and_eq_true] at hpl
    exact PE.imp (pe_callTy (pos := pos) (p := px) call_tuple_of hg hm (by decide +kernel) pa (okName_nm hok) (okName_dbg hok) (star_plain hpl.1)) fun σ H Q => blt_ok ov_toTup ms σ H Q
  split at ho
  · rename_i hx
    cases ho
    simp only [Bool.and_eq_true, beq_iff_eq] at hx
    obtain ⟨rfl, hl⟩ := hx
    obtain ⟨e, rfl⟩ := args1 hl
    rw [List.all_cons, Bool.and_eq_true] at hpl
    exact PE.imp (pe_callTy (pos := pos) (p := px) call_int1 hg hm (by decide +kernel) pa (okName_nm hok) (okName_dbg hok) (star_plain hpl.1)) fun σ H Q => blt_ok ov_toInt ms σ H Q
  split at ho
  · rename_i hx
    cases ho
    simp only [Bool.and_eq_true, beq_iff_eq] at hx
    obtain ⟨rfl, hl⟩ := hx
    obtain ⟨e, rfl⟩ := args1 hl
    rw [List.all_cons, Bool.and_eq_true] at hpl
    cases fr with
    | false => exact PE.imp (pe_callTy (pos := pos) (p := px) call_list_of hg hm (by decide +kernel) pa (okName_nm hok) (okName_dbg hok) (star_plain hpl.1)) fun σ H Q => blt_ok ov_toList ms σ H Q
    | true => exact PE.imp (pe_callTy (pos := pos) (p := px) call_list_of hg hm (by decide +kernel) pa (okName_nm hok) (okName_dbg hok) (star_plain hpl.1)) fun σ H Q => blt_ok ov_toListF ms σ H Q
  split at ho
  · rename_i hx
    cases ho
    simp only [Bool.and_eq_true, beq_iff_eq] at hx
    obtain ⟨rfl, hl⟩ := hx
    obtain ⟨e, rfl⟩ := args1 hl
    rw [List.all_cons, Bool.and_eq_true] at hpl
    exact PE.imp (pe_callB (pos := pos) (p := px) (cr_all (hc rfl)) hg hm (by decide +kernel) pa (okName_nm hok) (okName_dbg hok) (star_plain hpl.1)) fun σ H Q => blt_ok ov_all ms σ H Q
  split at ho
  · rename_i hx
    cases ho
    simp only [Bool.and_eq_true, beq_iff_eq] at hx
    obtain ⟨rfl, hl⟩ := hx
    obtain ⟨e, rfl⟩ := args1 hl
    rw [List.all_cons, Bool.and_eq_true] at hpl
    exact PE.imp (pe_callB (pos := pos) (p := px) (cr_any (hc rfl)) hg hm (by decide +kernel) pa (okName_nm hok) (okName_dbg hok) (star_plain hpl.1)) fun σ H Q => blt_ok ov_any ms σ H Q
  split at ho
  · rename_i hx
    cases ho
    simp only [Bool.and_eq_true, beq_iff_eq] at hx
    obtain ⟨rfl, hl⟩ := hx
    obtain ⟨e, rfl⟩ := args1 hl
    rw [List.all_cons, Bool.and_eq_true] at hpl
    exact PE.imp (pe_callB (pos := pos) (p := px) (cr_sum (hc rfl)) hg hm (by decide +kernel) pa (okName_nm hok) (okName_dbg hok) (star_plain hpl.1)) fun σ H Q => blt_ok ov_sum ms σ H Q
  split at ho
  · rename_i hx
    cases ho
    simp only [Bool.and_eq_true, beq_iff_eq] at hx
    obtain ⟨rfl, hl⟩ := hx
    obtain ⟨e, e2, rfl⟩ := args2 hl
    rw [List.all_cons, Bool.and_eq_true] at hpl
    exact PE.imp (pe_callB (pos := pos) (p := px) (call_min2 (hc rfl)) hg hm (by decide +kernel) pa (okName_nm hok) (okName_dbg hok) (star_plain hpl.1) (any_plain hpl.2)) fun σ H Q => blt_ok ov_min2 ms σ H Q
  split at ho
  · rename_i hx
    cases ho
    simp only [Bool.and_eq_true, beq_iff_eq] at hx
    obtain ⟨rfl, hl⟩ := hx
    obtain ⟨e, e2, rfl⟩ := args2 hl
    rw [List.all_cons, Bool.and_eq_true] at hpl
    exact PE.imp (pe_callB (pos := pos) (p := px) (call_max2 (hc rfl)) hg hm (by decide +kernel) pa (okName_nm hok) (okName_dbg hok) (star_plain hpl.1) (any_plain hpl.2)) fun σ H Q => blt_ok ov_max2 ms σ H Q
  split at ho
  · rename_i hx
    cases ho
    simp only [Bool.and_eq_true, beq_iff_eq] at hx
    obtain ⟨rfl, hl⟩ := hx
    obtain ⟨e, rfl⟩ := args1 hl
    rw [List.all_cons, Bool.and_eq_true] at hpl
    exact PE.imp (pe_callB (pos := pos) (p := px) call_ord hg hm (by decide +kernel) pa (okName_nm hok) (okName_dbg hok) (star_plain hpl.1)) fun σ H Q => blt_ok ov_ord ms σ H Q
  · exact blt2_sound hu ho hg hm hok hpl pa

theorem base_plain {o : Expr} {name : Str} {env : PySem.Env} (h : noSuper o = true) : attributeBase o name env (eval o env) = eval o env := by
  unfold attributeBase
  split
  · rename_i id p pos
    have h : (id != ("super" : Str)) = true := h
    rw [h]
    rfl
  · rfl
theorem few_plain {e : Expr} {es : List Expr} {env : PySem.Env} {cpos : Pos} (h : (e :: es).all plain = true) (hl : (e :: es).length < 30) : ((backTo cpos (starEach (e :: es) env)).all (fun x => !x.1) && (backToKw cpos (keywordEach [] env)).all (fun x => x.1.isSome)
      && decide ((e :: es).length + ([] : List Keyword).length + (if ([] : List Keyword).isEmpty then 0 else 1) < 30)) = true := by
  have h1 : (backTo cpos (starEach (e :: es) env)).all (fun x => !x.1) = true := by
    rw [List.all_eq_true]
    intro x hx
    have h2 := any_plain (env := env) (pos := cpos) h
    rw [List.any_eq_false] at h2
    have h3 := h2 x hx
    simpa using h3
  have h2 : (backToKw cpos (keywordEach [] env)).all (fun x => x.1.isSome) = true := rfl
  rw [h1, h2]
  show (true && decide ((e :: es).length + 0 + 0 < 30)) = true
  rw [decide_eq_true (by omega)]
  rfl
/-- a call of a method -/
theorem mt_sound {o : Expr} {x : Str} {ap pos : Pos} {args : List Expr} {mo : Ex} {ms : List Ex} {m : Mt} (hm : mtOf x args.length = some m) (hs : noSuper o = true) (hline : (ap.endLine == pos.line) = true) (hpl : args.all plain = true) (hl : args.length < 30)
    (po : PE X o (tE G X.K W (ev F mo))) (pa : PA X args (tA G X.K W (evs F ms))) (hlen : ms.length = args.length) :
    PE X (.Call (.Attribute o x ap) args [] pos) (tE G X.K W (ev F (.op (.x (.meth m)) (.op (.x (if mtL m then .asLst else .asStr)) [mo] :: ms)))) := by
  unfold mtOf at hm
  split at hm
  · rename_i hx
    cases hm
    simp only [Bool.and_eq_true, beq_iff_eq] at hx
    obtain ⟨rfl, hz⟩ := hx
    obtain ⟨e, rfl⟩ := args1 hz
    exact PE.imp (pe_bm PySem.F.plainAttrs_str PySem.F.slot_str_join PySem.F.type_str_join mt_join po pa (base_plain hs) (few_plain hpl hl) hline (star_plain (by simpa using hpl))) fun σ H Q => meth_ok (b := false) om_join mo ms σ H Q
  split at hm
  · rename_i hx
    cases hm
    simp only [Bool.and_eq_true, beq_iff_eq] at hx
    obtain ⟨rfl, hz⟩ := hx
    obtain ⟨e, rfl⟩ := args1 hz
    exact PE.imp (pe_bm PySem.F.plainAttrs_str PySem.F.slot_str_split PySem.F.type_str_split mt_split po pa (base_plain hs) (few_plain hpl hl) hline (star_plain (by simpa using hpl))) fun σ H Q => meth_ok (b := false) om_split mo ms σ H Q
  split at hm
  · rename_i hx
    cases hm
    simp only [Bool.and_eq_true, beq_iff_eq] at hx
    obtain ⟨rfl, hz⟩ := hx
    obtain rfl := args0 hz
    obtain rfl := args0 hlen
    exact PE.imp (pe_bm0 PySem.F.plainAttrs_str PySem.F.slot_str_lower PySem.F.type_str_lower mt_lower po (base_plain hs) hline) fun σ H Q => meth0_ok (b := false) om_lower mo σ H Q
  split at hm
  · rename_i hx
    cases hm
    simp only [Bool.and_eq_true, beq_iff_eq] at hx
    obtain ⟨rfl, hz⟩ := hx
    obtain rfl := args0 hz
    obtain rfl := args0 hlen
    exact PE.imp (pe_bm0 PySem.F.plainAttrs_str PySem.F.slot_str_upper PySem.F.type_str_upper mt_upper po (base_plain hs) hline) fun σ H Q => meth0_ok (b := false) om_upper mo σ H Q
  split at hm
  · rename_i hx
    cases hm
    simp only [Bool.and_eq_true, beq_iff_eq] at hx
    obtain ⟨rfl, hz⟩ := hx
    obtain ⟨e, rfl⟩ := args1 hz
    exact PE.imp (pe_bm PySem.F.plainAttrs_str PySem.F.slot_str_endswith PySem.F.type_str_endswith mt_endswith po pa (base_plain hs) (few_plain hpl hl) hline (star_plain (by simpa using hpl))) fun σ H Q => meth_ok (b := false) om_ends mo ms σ H Q
  split at hm
  · rename_i hx
    cases hm
    simp only [Bool.and_eq_true, beq_iff_eq] at hx
    obtain ⟨rfl, hz⟩ := hx
    obtain ⟨e, rfl⟩ := args1 hz
    exact PE.imp (pe_bm PySem.F.plainAttrs_str PySem.F.slot_str_startswith PySem.F.type_str_startswith mt_startswith po pa (base_plain hs) (few_plain hpl hl) hline (star_plain (by simpa using hpl))) fun σ H Q => meth_ok (b := false) om_starts mo ms σ H Q
  split at hm
  · rename_i hx
    cases hm
    simp only [Bool.and_eq_true, beq_iff_eq] at hx
    obtain ⟨rfl, hz⟩ := hx
    obtain rfl := args0 hz
    obtain rfl := args0 hlen
    exact PE.imp (pe_bm0 PySem.F.plainAttrs_str PySem.F.slot_str_isascii PySem.F.type_str_isascii mt_isascii po (base_plain hs) hline) fun σ H Q => meth0_ok (b := false) om_ascii mo σ H Q
  split at hm
  · rename_i hx
    cases hm
    simp only [Bool.and_eq_true, beq_iff_eq] at hx
    obtain ⟨rfl, hz⟩ := hx
    obtain rfl := args0 hz
    obtain rfl := args0 hlen
    exact PE.imp (pe_bm0 PySem.F.plainAttrs_str PySem.F.slot_str_isdigit PySem.F.type_str_isdigit mt_isdigit po (base_plain hs) hline) fun σ H Q => meth0_ok (b := false) om_digit mo σ H Q
  split at hm
  · rename_i hx
    cases hm
    simp only [Bool.and_eq_true, beq_iff_eq] at hx
    obtain ⟨rfl, hz⟩ := hx
    obtain ⟨e, rfl⟩ := args1 hz
    exact PE.imp (pe_bm PySem.F.plainAttrs_list PySem.F.slot_list_append PySem.F.type_list_append mt_append po pa (base_plain hs) (few_plain hpl hl) hline (star_plain (by simpa using hpl))) fun σ H Q => meth_ok (b := true) om_append mo ms σ H Q
  split at hm
  · rename_i hx
    cases hm
    simp only [Bool.and_eq_true, beq_iff_eq] at hx
    obtain ⟨rfl, hz⟩ := hx
    obtain ⟨e, rfl⟩ := args1 hz
    exact PE.imp (pe_bm PySem.F.plainAttrs_list PySem.F.slot_list_extend PySem.F.type_list_extend mt_extend po pa (base_plain hs) (few_plain hpl hl) hline (star_plain (by simpa using hpl))) fun σ H Q => meth_ok (b := true) om_extend mo ms σ H Q
  split at hm
  · rename_i hx
    cases hm
    simp only [Bool.and_eq_true, beq_iff_eq] at hx
    obtain ⟨rfl, hz⟩ := hx
    obtain ⟨e, rfl⟩ := args1 hz
    exact PE.imp (pe_bm PySem.F.plainAttrs_list PySem.F.slot_list_index PySem.F.type_list_index mt_index po pa (base_plain hs) (few_plain hpl hl) hline (star_plain (by simpa using hpl))) fun σ H Q => meth_ok (b := true) om_index mo ms σ H Q
  · cases hm
/-! ## a op b op' c, as a test -/
theorem tT_blE {m : Ex} {σ : L2.St} {H : Hp} {Q : Bool → Hp → Prop} (hz : ∀ env st z st', ev F m env st = .ok z st' → ∃ k, z = .bl k) (h : tT G X.K W (ev F m) σ H Q) : tE G X.K W (ev F m) σ H (fun v H' => ∃ k, v = .bl k ∧ Q k H') := by
  obtain ⟨ρ, env, st, rel, q⟩ := h
  refine ⟨ρ, env, st, rel, ?_⟩
  cases hr : ev F m env st with
  | ok z st' =>
    obtain ⟨k, rfl⟩ := hz env st z st' hr
    rw [hr] at q
    intro ρ' H' e s v rv
    cases rv
    obtain ⟨k', hk, q⟩ := q ρ' H' e s
    cases hk
    exact ⟨k, rfl, q⟩
  | exc => rw [hr] at q; exact q
  | bad => rw [hr] at q; exact q
theorem ord_ok {op : CmpOp} {o : Op} (h : opCmp op = some o) (hord : ordCmp op = true) : o = .lt ∨ o = .le ∨ o = .gt ∨ o = .ge := by
  cases op <;> first | (cases hord; done) | (cases h; simp)
theorem ord_bl {o : Op} (h : o = .lt ∨ o = .le ∨ o = .gt ∨ o = .ge) : ∀ d e st z st', opSem o [d, e] st = .ok z st' → ∃ k, z = .bl k := by
  intro d e st z st' q
  rcases h with rfl | rfl | rfl | rfl <;> (cases d <;> cases e <;> cases q <;> exact ⟨_, rfl⟩)
theorem chain_bl {o p : Op} (hp : ∀ d e st z st', opSem p [d, e] st = .ok z st' → ∃ k, z = .bl k) (a b d : Ex) : ∀ env st z st', ev F (.chain o p a b d) env st = .ok z st' → ∃ k, z = .bl k := by
  intro env st z st' h
  have h : ((ev F a env st).bind fun x st1 => (ev F b env st1).bind fun y st2 => (opSem o [x, y] st2).bind fun z st3 => match z with
    | .bl true => (ev F d env st3).bind fun u st4 => opSem p [y, u] st4
    | .bl false => .ok (.bl false) st3
    | _ => .bad) = .ok z st' := h
  cases h1 : ev F a env st with
  | exc => rw [h1] at h; cases h
  | bad => rw [h1] at h; cases h
  | ok x st1 =>
    rw [h1] at h
    have h : ((ev F b env st1).bind fun y st2 => (opSem o [x, y] st2).bind fun z st3 => match z with
      | .bl true => (ev F d env st3).bind fun u st4 => opSem p [y, u] st4
      | .bl false => .ok (.bl false) st3
      | _ => .bad) = .ok z st' := h
    cases h2 : ev F b env st1 with
    | exc => rw [h2] at h; cases h
    | bad => rw [h2] at h; cases h
    | ok y st2 =>
      rw [h2] at h
      have h : ((opSem o [x, y] st2).bind fun z st3 => match z with
        | .bl true => (ev F d env st3).bind fun u st4 => opSem p [y, u] st4
        | .bl false => .ok (.bl false) st3
        | _ => .bad) = .ok z st' := h
      cases h3 : opSem o [x, y] st2 with
      | exc => rw [h3] at h; cases h
      | bad => rw [h3] at h; cases h
      | ok w st3 =>
        rw [h3] at h
        cases w with
        | bl k =>
          cases k with
          | false => cases h; exact ⟨_, rfl⟩
          | true =>
            have h : ((ev F d env st3).bind fun u st4 => opSem p [y, u] st4) = .ok z st' := h
            cases h4 : ev F d env st3 with
            | exc => rw [h4] at h; cases h
            | bad => rw [h4] at h; cases h
            | ok u st4 => rw [h4] at h; exact hp _ _ _ _ _ h
        | _ => cases h
theorem chain_sound {a b d : Expr} {op op' : CmpOp} {pos : Pos} {o p : Op} {ma mb md : Ex} (h1 : opCmp op = some o) (h2 : opCmp op' = some p) (k1 : ordCmp op = true) (k2 : ordCmp op' = true) (hd : plain d = true)
    (pa : PE X a (tE G X.K W (ev F ma))) (pb : PE X b (tE G X.K W (ev F mb))) (pd : PE X d (tE G X.K W (ev F md))) :
    PE X (.Compare a [op, op'] [b, d] pos) (tE G X.K W (ev F (.chain o p ma mb md))) ∧ PT X (.Compare a [op, op'] [b, d] pos) (tT G X.K W (ev F (.chain o p ma mb md))) := by
  have o1 := ord_ok h1 k1
  have o2 := ord_ok h2 k2
  have hm : lastMarks [op, op'] [b, d] = false := nomark_plain (op := op') hd
  refine ⟨PE.imp (pe_chain (op_cmpZ h1 o1) (op_cmpZ h2 o2) pa pb pd hm) fun σ H Q => chain_ok (od_cmp o1) (od_cmp o2) ma mb md σ H Q, PT.imp (pt_chain (op_cmpZ h1 o1) (op_cmpZ h2 o2) pa pb pd hm) fun σ H Q h => ?_⟩
  exact chain_ok (od_cmp o1) (od_cmp o2) ma mb md σ H _ (tT_blE (chain_bl (ord_bl o2) ma mb md) h)
end
end Z

set_option autoImplicit false
set_option maxHeartbeats 1000000
namespace Z
open PySem PySem.Spec PyProof.Rows L2

/-! ## what an expression made becomes a value -/
section
variable {G : GC} {K : PySem.W.Frag} {ρ ρ1 : Tk} {H H0 : Hp} {st st1 : Store}
theorem get_lt {α : Type} {xs : List α} {l : Nat} {a : α} (h : xs[l]? = some a) : l < xs.length := (List.getElem?_eq_some_iff.mp h).1
theorem get_back (p : ρ <+: ρ1) {l : Nat} {a : Addr × Bool} (hl : l < ρ.length) (h : ρ1[l]? = some a) : ρ[l]? = some a := by
  obtain ⟨t, rfl⟩ := p
  rw [List.getElem?_append_left hl] at h
  exact h
mutual
theorem Rv.closed : ∀ {d : D} {v : V}, Rv K ρ H d v → closedD ρ.length d = true
  | _, _, .non => rfl
  | _, _, .bl _ => rfl
  | _, _, .int _ => rfl
  | _, _, .str _ => rfl
  | _, _, .tup _ t => Rvs.closed t
  | _, _, .flst _ t => Rvs.closed t
  | _, _, .slst _ t => Rvs.closed t
  | _, _, .fins _ _ _ t => Rvs.closed t
  | _, _, .loc h => decide_eq_true (get_lt h)
theorem Rvs.closed : ∀ {ds : List D} {vs : List V}, Rvs K ρ H ds vs → closedDs ρ.length ds = true
  | _, _, .nil => rfl
  | _, _, .cons r t => by rw [closedDs, r.closed, Rvs.closed t]; rfl
end
mutual
theorem Rv.back (p : ρ <+: ρ1) : ∀ {d : D} {v : V}, closedD ρ.length d = true → Rv K ρ1 H d v → Rv K ρ H d v
  | _, _, _, .non => .non
  | _, _, _, .bl b => .bl b
  | _, _, _, .int i => .int i
  | _, _, _, .str s => .str s
  | _, _, h, .tup a t => .tup a (Rvs.back p h t)
  | _, _, h, .flst a t => .flst ⟨a.1.pre p, a.2⟩ (Rvs.back p h t)
  | _, _, h, .slst a t => .slst a (Rvs.back p h t)
  | _, _, h, .fins u a n t => .fins (u.pre p) a n (Rvs.back p h t)
  | _, _, h, .loc a => .loc (get_back p (of_decide_eq_true h) a)
theorem Rvs.back (p : ρ <+: ρ1) : ∀ {ds : List D} {vs : List V}, closedDs ρ.length ds = true → Rvs K ρ1 H ds vs → Rvs K ρ H ds vs
  | _, _, _, .nil => .nil
  | _, _, h, .cons r t => by
    rw [closedDs, Bool.and_eq_true] at h
    exact .cons (Rv.back p h.1 r) (Rvs.back p h.2 t)
end
theorem RO.closed {l : Nat} {a : Addr} {o : DO} (h : RO G K ρ H l a o) : closedO ρ.length o = true := by
  cases o with
  | lst ds => obtain ⟨_, _, r⟩ := h; exact r.closed
  | dct p ks vs =>
    obtain ⟨_, _, _, _, r1, r2⟩ := h
    show (closedDs _ ks && closedDs _ vs) = true
    rw [r1.closed, r2.closed]; rfl
  | ins c ns ds => obtain ⟨_, _, _, r, _⟩ := h; exact r.closed
  | exn c p => obtain ⟨_, _, _, _, _, _, _, r⟩ := h; exact r.closed
theorem RO.back (p : ρ <+: ρ1) {l : Nat} {a : Addr} {o : DO} (hc : closedO ρ.length o = true) (h : RO G K ρ1 H l a o) : RO G K ρ H l a o := by
  cases o with
  | lst ds => obtain ⟨vs, h1, r⟩ := h; exact ⟨vs, h1, r.back p hc⟩
  | dct q ks vs =>
    obtain ⟨es, h1, e1, e2, r1, r2⟩ := h
    have hc : (closedDs ρ.length ks && closedDs ρ.length vs) = true := hc
    rw [Bool.and_eq_true] at hc
    exact ⟨es, h1, e1, e2, r1.back p hc.1, r2.back p hc.2⟩
  | ins c ns ds => obtain ⟨dx, vs, h1, r, n⟩ := h; exact ⟨dx, vs, h1, r.back p hc, n⟩
  | exn c q => obtain ⟨cu, v, h1, h2, h3, h4, h5, r⟩ := h; exact ⟨cu, v, h1, h2, h3, h4, h5, r.back p hc⟩
theorem Rs.back (old : Rs G K ρ st H0) (e : Ext K ρ ρ1 H0 H) (s : Rs G K ρ1 st1 H) (ok : OldOk st st1) : Rs G K ρ (st1.take st.length) H := by
  have hle : st.length ≤ st1.length := by
    rw [← old.len, ← s.len]; exact e.pre.length_le
  refine ⟨by rw [List.length_take, Nat.min_eq_left hle]; exact old.len, old.nd, fun l o h => ?_⟩
  have hl : l < st.length := by
    have := get_lt h
    rw [List.length_take] at this
    omega
  rw [List.getElem?_take_of_lt hl] at h
  obtain ⟨a, h1, r⟩ := s.obj l o h
  refine ⟨a, get_back e.pre (by rw [old.len]; exact hl) h1, r.back e.pre ?_⟩
  rcases ok l hl o h with h2 | h2
  · obtain ⟨_, _, r0⟩ := old.obj l o h2
    exact r0.closed
  · rw [old.len]; exact h2
theorem Ext.back (e : Ext K ρ ρ1 H0 H) : Ext K ρ ρ H0 H := ⟨List.prefix_rfl, e.fr, e.tup, fun a o u h m => ⟨(e.un a o u h m).1, u⟩, e.xd⟩
mutual
theorem seal_rv (p : ρ <+: ρ1) (g : Nat → Option D) (hg : ∀ (l : Nat) (a : Addr) (b : Bool) (d : D), ¬ l < ρ.length → ρ1[l]? = some (a, b) → g l = some d → Rv K ρ H d (.ref a)) :
    ∀ {d d' : D} {v : V}, Rv K ρ1 H d v → sealD ρ.length g d = some d' → Rv K ρ H d' v
  | _, _, _, .non, e => by cases e; exact .non
  | _, _, _, .bl b, e => by cases e; exact .bl b
  | _, _, _, .int i, e => by cases e; exact .int i
  | _, _, _, .str s, e => by cases e; exact .str s
  | .tup xs, _, _, .tup a t, e => by
    cases q : sealDs ρ.length g xs with
    | none => rw [sealD, q] at e; cases e
    | some ys => rw [sealD, q] at e; cases e; exact .tup a (seal_rvs p g hg t q)
  | .flst xs, _, _, .flst a t, e => by
    cases q : sealDs ρ.length g xs with
    | none => rw [sealD, q] at e; cases e
    | some ys => rw [sealD, q] at e; cases e; exact .flst ⟨a.1.pre p, a.2⟩ (seal_rvs p g hg t q)
  | .fins c ns xs, _, _, .fins u a n t, e => by
    cases q : sealDs ρ.length g xs with
    | none => rw [sealD, q] at e; cases e
    | some ys => rw [sealD, q] at e; cases e; exact .fins (u.pre p) a n (seal_rvs p g hg t q)
  | .slst xs, _, _, .slst a t, e => by
    have e : (if closedDs ρ.length xs = true then some (D.slst xs) else none) = some _ := e
    split at e
    · rename_i h; cases e; exact .slst a (t.back p h)
    · cases e
  | .loc l, _, _, .loc a, e => by
    have e : (if l < ρ.length then some (.loc l) else g l) = some _ := e
    split at e
    · rename_i h; cases e; exact .loc (get_back p h a)
    · rename_i h; exact hg l _ _ _ h a e
theorem seal_rvs (p : ρ <+: ρ1) (g : Nat → Option D) (hg : ∀ (l : Nat) (a : Addr) (b : Bool) (d : D), ¬ l < ρ.length → ρ1[l]? = some (a, b) → g l = some d → Rv K ρ H d (.ref a)) :
    ∀ {ds ds' : List D} {vs : List V}, Rvs K ρ1 H ds vs → sealDs ρ.length g ds = some ds' → Rvs K ρ H ds' vs
  | _, _, _, .nil, e => by cases e; exact .nil
  | d :: ds, _, _, .cons r t, e => by
    cases q : sealD ρ.length g d with
    | none => rw [sealDs, q] at e; cases e
    | some y =>
      cases q2 : sealDs ρ.length g ds with
      | none => rw [sealDs, q, q2] at e; cases e
      | some ys => rw [sealDs, q, q2] at e; cases e; exact .cons (seal_rv p g hg r q) (seal_rvs p g hg t q2)
end
theorem utr_new (s : Rs G K ρ1 st1 H) (p : ρ <+: ρ1) {l : Nat} {a : Addr} (hl : ¬ l < ρ.length) (h : ρ1[l]? = some (a, true)) : Utr ρ a := fun m hm => hl (by
  rw [← s.nd m l a (pre_get p hm) h]; exact get_lt hm)
theorem sealAt_rv (s : Rs G K ρ1 st1 H) (p : ρ <+: ρ1) : ∀ (k l : Nat) (a : Addr) (b : Bool) (d : D), ¬ l < ρ.length → ρ1[l]? = some (a, b) → sealAt ρ.length st1 k l = some d → Rv K ρ H d (.ref a)
  | 0, _, _, _, _, _, _, e => by cases e
  | k + 1, l, a, b, d, hl, h, e => by
    unfold sealAt at e
    split at e
    · rename_i xs hx
      obtain ⟨h2, vs, g1, g2⟩ := s.lst h hx
      cases q : sealDs ρ.length (sealAt ρ.length st1 k) xs with
      | none => rw [q] at e; cases e
      | some ys =>
        rw [q] at e; cases e
        exact .flst ⟨utr_new s p hl h2, g1⟩ (seal_rvs p _ (fun l a b d => sealAt_rv s p k l a b d) g2 q)
    · rename_i c ns xs hx
      obtain ⟨a', h2, dx, vs, g1, g2, g3⟩ := s.obj l _ hx
      have h3 := h2
      rw [h] at h2
      injection h2 with h2
      injection h2 with e1 e2
      subst e1
      cases q : sealDs ρ.length (sealAt ρ.length st1 k) xs with
      | none => rw [q] at e; cases e
      | some ys =>
        rw [q] at e; cases e
        exact .fins (utr_new s p hl h3) g1 g3 (seal_rvs p _ (fun l a b d => sealAt_rv s p k l a b d) g2 q)
    · cases e
theorem sealed_rv (hl : ρ.length = st.length) (s : Rs G K ρ1 st1 H) (p : ρ <+: ρ1) {d d' : D} {v : V} (r : Rv K ρ1 H d v) (e : sealD st.length (sealAt st.length st1 8) d = some d') : Rv K ρ H d' v := by
  rw [← hl] at e
  exact seal_rv p _ (fun l a b d => sealAt_rv s p 8 l a b d) r e
theorem close_cases (d : D) (st1 : Store) : (∃ d', sealD st.length (sealAt st.length st1 8) d = some d' ∧ OldOk st st1 ∧ closeR st (.ok d st1) = .ok d' (st1.take st.length)) ∨ closeR st (.ok d st1) = .bad := by
  unfold closeR
  cases h : sealD st.length (sealAt st.length st1 8) d with
  | none => exact .inr (by simp only [h])
  | some d' =>
    simp only [h]
    by_cases ho : OldOk st st1
    · rw [if_pos ho]; exact .inl ⟨d', rfl, ho, rfl⟩
    · rw [if_neg ho]; exact .inr rfl
theorem close_exc (c : Nat) (p : D) (st1 : Store) : (OldOk st st1 ∧ closedD st.length p = true ∧ closeR st (.exc c p st1) = .exc c p (st1.take st.length)) ∨ closeR st (.exc c p st1) = .bad := by
  unfold closeR
  by_cases ho : OldOk st st1 ∧ closedD st.length p = true
  · simp only; rw [if_pos ho]; exact .inl ⟨ho.1, ho.2, rfl⟩
  · simp only; rw [if_neg ho]; exact .inr rfl
theorem XRel.back (p : ρ <+: ρ1) {c : Nat} {d : D} {cls : Value} {dd : Option Addr} (hc : closedD ρ.length d = true) (h : XRel G K ρ1 H c d cls dd) : XRel G K ρ H c d cls dd := by
  obtain ⟨C, d1, v, h1, h2, h3, h4, h5⟩ := h
  exact ⟨C, d1, v, h1, h2, h3, h4, h5.back p hc⟩
/-- closing a result -/
theorem close_ok {W' : Value → Option Addr → Hp → Prop} {r : R D} {P P' : D → Store → Tk → Hp → Prop} (old : Rs G K ρ st H0) (h : Lf G K W' ρ H0 (closeR st r) P)
    (f : ∀ d d' st1 ρ1 H1, Ext K ρ ρ1 H0 H1 → Rs G K ρ1 st1 H1 → sealD st.length (sealAt st.length st1 8) d = some d' → (∀ v, Rv K ρ1 H1 d v → Rv K ρ H1 d' v) → P d' (st1.take st.length) ρ H1 → P' d st1 ρ1 H1) : Lf G K W' ρ H0 r P' := by
  cases r with
  | bad => exact h
  | ok d st1 =>
    rcases close_cases d st1 with ⟨d', e1, e2, e3⟩ | e3
    · rw [e3] at h
      intro ρ1 H1 e s
      exact f d d' st1 ρ1 H1 e s e1 (fun v r => sealed_rv old.len s e.pre r e1) (h ρ H1 e.back (old.back e s e2))
    · rw [e3] at h; exact h.elim
  | exc c p st1 =>
    rcases close_exc c p st1 with ⟨e1, e2, e3⟩ | e3
    · rw [e3] at h
      intro ρ1 H1 cls dd e s x
      rw [← old.len] at e2
      exact h ρ H1 cls dd e.back (old.back e s e1) (x.back e.pre e2)
    · rw [e3] at h; exact h.elim
theorem truth_seal {n : Nat} {d d' : D} {b : Bool} (e : sealD n (sealAt n st1 8) d = some d') (h : truth (st1.take n) d' = some b) : truth st1 d = some b := by
  have em : ∀ {g : Nat → Option D} {xs ys : List D}, sealDs n g xs = some ys → ys.isEmpty = xs.isEmpty := fun {g xs ys} e => by
    cases xs with
    | nil => cases e; rfl
    | cons x xs =>
      rw [sealDs] at e
      split at e
      · cases e; rfl
      · cases e
  cases d with
  | non => cases e; exact h
  | bl => cases e; exact h
  | int => cases e; exact h
  | str => cases e; exact h
  | tup xs =>
    cases q : sealDs n (sealAt n st1 8) xs with
    | none => rw [sealD, q] at e; cases e
    | some ys =>
      rw [sealD, q] at e; cases e
      have h : some (!ys.isEmpty) = some b := h
      rw [em q] at h; exact h
  | flst xs =>
    cases q : sealDs n (sealAt n st1 8) xs with
    | none => rw [sealD, q] at e; cases e
    | some ys =>
      rw [sealD, q] at e; cases e
      have h : some (!ys.isEmpty) = some b := h
      rw [em q] at h; exact h
  | slst xs =>
    have e : (if closedDs n xs = true then some (D.slst xs) else none) = some _ := e
    split at e
    · cases e; exact h
    · cases e
  | fdct xs ys =>
    have e : (if closedD n (.fdct xs ys) = true then some (D.fdct xs ys) else none) = some _ := e
    split at e
    · cases e; exact h
    · cases e
  | fset xs =>
    have e : (if closedD n (.fset xs) = true then some (D.fset xs) else none) = some _ := e
    split at e
    · cases e; exact h
    · cases e
  | fn f => cases e; exact h
  | fins c ns xs =>
    cases q : sealDs n (sealAt n st1 8) xs with
    | none => rw [sealD, q] at e; cases e
    | some ys => rw [sealD, q] at e; cases e; cases h
  | loc l =>
    have e : (if l < n then some (.loc l) else sealAt n st1 8 l) = some _ := e
    split at e
    · rename_i hl
      cases e
      have h : ((match (st1.take n)[l]? with | some (DO.lst xs) => some xs | _ => none).map fun (xs : List D) => !xs.isEmpty) = some b := h
      rw [List.getElem?_take_of_lt hl] at h
      exact h
    · unfold sealAt at e
      split at e
      · rename_i xs hx
        cases q : sealDs n (sealAt n st1 7) xs with
        | none => rw [q] at e; cases e
        | some ys =>
          rw [q] at e; cases e
          have h : some (!ys.isEmpty) = some b := h
          rw [em q] at h
          show ((match st1[l]? with | some (DO.lst xs) => some xs | _ => none).map fun (xs : List D) => !xs.isEmpty) = some b
          rw [hx]; exact h
      · rename_i c ns xs hx
        cases q : sealDs n (sealAt n st1 7) xs with
        | none => rw [q] at e; cases e
        | some ys => rw [q] at e; cases e; cases h
      · cases e
variable {F : FT} {W : WX}
theorem seal_ok (m : Ex) (σ : L2.St) (H : Hp) (Q : VK) (h : tE G K W (ev F (.sealE m)) σ H Q) : tE G K W (ev F m) σ H Q := by
  obtain ⟨ρ, env, st, rel, q⟩ := h
  exact ⟨ρ, env, st, rel, close_ok rel.s q fun d d' st1 ρ1 H1 e s h1 h2 h3 v rv => h3 v (h2 v rv)⟩
theorem sealT_ok (m : Ex) (σ : L2.St) (H : Hp) (Q : Bool → Hp → Prop) (h : tT G K W (ev F (.sealE m)) σ H Q) : tT G K W (ev F m) σ H Q := by
  obtain ⟨ρ, env, st, rel, q⟩ := h
  refine ⟨ρ, env, st, rel, close_ok rel.s q fun d d' st1 ρ1 H1 e s h1 h2 h3 => ?_⟩
  obtain ⟨k, hk, h3⟩ := h3
  exact ⟨k, truth_seal h1 hk, h3⟩
end
end Z

set_option autoImplicit false
set_option maxHeartbeats 2000000
namespace Z
open PySem PySem.Spec PyProof.Rows L2

section
variable {G : GC} {P : List Fd} {k : Nat} {X : Cx} {c : Cc} {W : WX} {F : FT}
/-! ## a call within a suite -/
theorem callH_ok {f : Nat} {es : List Ex} (σ : L2.St) (H : Hp) (Q : VK) (h : tE G X.K W (ev (run P k) (.call f es)) σ H Q) : tCallS (spF G X.K P k f) (WE W) (tA G X.K W (evs (run P k) es)) σ H Q := by
  obtain ⟨ρ, env, st, rel, q⟩ := h
  have q : Lf G X.K (fun c d H' => W c d σ H') ρ H ((evs (run P k) es env st).bind fun xs st1 => run P k f xs st1) (Val1 X.K Q) := q
  refine ⟨ρ, env, st, rel, q.bind.imp fun xs st1 ρ1 H1 e1 s1 q1 us rus => ?_⟩
  exact ⟨ρ1, st1, xs, s1, rus, q1⟩
theorem callH_ok' {raw : Bool} {f : Nat} {es : List Ex} (σ : L2.St) (H : Hp) (Q : VK) (h : tE G X.K W (ev (run P k) (mkCall raw f es)) σ H Q) : tCallS (spF G X.K P k f) (WE W) (tA G X.K W (evs (run P k) es)) σ H Q := by
  cases raw with
  | true => exact callH_ok σ H Q h
  | false =>
    obtain ⟨ρ, env, st, rel, q⟩ := h
    have q : Lf G X.K (fun c d H' => W c d σ H') ρ H ((evs (run P k) es env st).bind fun xs st1 => closeR st1 (run P k f xs st1)) (Val1 X.K Q) := q
    refine ⟨ρ, env, st, rel, q.bind.imp fun xs st1 ρ1 H1 e1 s1 q1 us rus => ?_⟩
    exact ⟨ρ1, st1, xs, s1, rus, close_ok s1 q1 fun d d' st2 ρ2 H2 e s h1 h2 h3 v rv => h3 v (h2 v rv)⟩
/-! ## the exception that a suite holds -/
theorem exn_at {K : PySem.W.Frag} {ρ : Tk} {st : Store} {H : Hp} {l c : Nat} {p : D} {x : V} {cu : Cur} (hcur : G.cur = some cu) (s : Rs G K ρ st H) (r : Rv K ρ H (.loc l) x) (h : st[l]? = some (.exn c p)) :
    x = .ref cu.a ∧ c = cu.c ∧ ∃ v, H cu.dd = some (.xd [(("place" : Str), v)]) ∧ Rv K ρ H p v := by
  cases r with
  | loc hl =>
    obtain ⟨a, h1, cu', v, h2, h3, h4, h5, h6, h7⟩ := s.obj l _ h
    rw [hl] at h1; cases h1
    rw [hcur] at h2; cases h2
    exact ⟨by rw [h4], h5.symm, v, h6, h7⟩
theorem place_ok {K : PySem.W.Frag} {cu : Cur} {C : Addr} (hcur : G.cur = some cu) (m : Ex) (σ : L2.St) (H : Hp) (Q : VK) (h : tE G K W (ev F (.op (.x .place) [m])) σ H Q) : tXf cu.a (.ref C) (some cu.dd) C "place" (tE G K W (ev F m)) σ H Q := by
  obtain ⟨ρ, env, st, rel, q⟩ := h
  have q : Lf G K (fun c d H' => W c d σ H') ρ H (((ev F m env st).bind fun d st1 => R.ok [d] st1).bind fun ds st1 => opSem (.x .place) ds st1) (Val1 K Q) := q
  refine ⟨ρ, env, st, rel, q.bind.bind.imp fun d st1 ρ1 H1 e1 s1 q1 x rx => ?_⟩
  have q1 := q1.ok s1
  cases d with
  | loc l =>
    have q1 : Lf G K (fun c d H' => W c d σ H') ρ1 H1 (match st1[l]? with | some (.exn _ p) => .ok p st1 | _ => .bad) (Val1 K Q) := q1
    split at q1
    · rename_i c p hx
      obtain ⟨hx1, hx2, v, hx3, hx4⟩ := exn_at hcur s1 rx hx
      exact ⟨hx1, rfl, cu.dd, _, v, rfl, hx3, by simp [List.lookup], okv q1 s1 hx4⟩
    · exact q1.elim
  | _ => exact q1.elim
/-- isinstance(e, c), e the exception that the suite holds, with its dict -/
def rIsX (K : PySem.W.Frag) (D a dd : Addr) : List V → Hp → VK → Prop := fun xs H Q => ∃ (c : V) (cv : Value) (b : Bool) (fs : List (Str × V)), xs = [.ref a, c] ∧ (∀ u, RelV c u → u = cv) ∧ PySem.W.kitOne K (.ref D) cv = some b ∧ H dd = some (.xd fs) ∧ Q (.bl b) H
theorem call_isX {X0 : Cx} {D dd : Addr} {p : Addr × Obj} (C : ExcC X0.K D) (hp : p ∈ X0.pn) (hz : Zc (.ref D) (some dd) p.2) (hf : ∃ vs, p.2.data = .fields vs) : CallR X0 (.builtin "isinstance") (rIsX X0.K D p.1 dd) := by
  intro pins s σ H xs us Q I r ⟨c, cv, b, fs, hxs, hcv, e, hd, q⟩
  subst hxs
  obtain ⟨u1, u2, rfl, r1, r2⟩ := Vals.two r
  obtain rfl : u1 = Value.ref p.1 := r1
  have ec := hcv _ r2
  subst ec
  have pin := (I.pin p (List.mem_append_left _ hp)).1
  obtain ⟨mA, hns, hr⟩ : ObjOk X0.prog X0.w H s.heap dd (.xd fs) := I.hok dd _ hd
  obtain ⟨od, ho, hl⟩ := lookIn_ns hns
  obtain ⟨vs, hv⟩ := hf
  have J : PySem.W.InstAt s.heap p.1 p.2 D (some od) := ⟨pin, hz.1, by unfold PySem.W.notCls; rw [hv] <;> rfl, by rw [hz.2]; exact ho⟩
  have hcl : (PySem.W.clsIn X0.K D).isSome = true := by
    obtain ⟨cd, hc, _⟩ := PySem.W.any_some C.hd
    rw [hc]; rfl
  exact PySem.W.kia_one (PySem.W.kitx_exc hcl C.hg C.hk C.hs C.ha C.hn C.ht C.hm) I.kIn J e (fun z => nomatch z) fun tk => ⟨.bl b, H, I.tok _, rfl, q⟩
theorem isx_ok {K : PySem.W.Frag} {cu : Cur} {C : Addr} {tab : List Nat} {cy : V} {cv : Value} (hcur : G.cur = some cu) (hy : ∀ u, RelV cy u → u = cv) (hk : PySem.W.kitOne K (.ref C) cv = some (tab.contains cu.c)) (m : Ex) (σ : L2.St) (H : Hp) (Q : VK)
    (h : tE G K W (ev F (.op (.x (.isx tab)) [m])) σ H Q) : tCB (rIsX K C cu.a cu.dd) (tCons (tE G K W (ev F m)) (tCons (tC cy) tNil)) σ H Q := by
  obtain ⟨ρ, env, st, rel, q⟩ := h
  have q : Lf G K (fun c d H' => W c d σ H') ρ H (((ev F m env st).bind fun d st1 => R.ok [d] st1).bind fun ds st1 => opSem (.x (.isx tab)) ds st1) (Val1 K Q) := q
  refine ⟨ρ, env, st, rel, q.bind.bind.imp fun d st1 ρ1 H1 e1 s1 q1 x rx => ?_⟩
  have q1 := q1.ok s1
  cases d with
  | loc l =>
    have q1 : Lf G K (fun c d H' => W c d σ H') ρ1 H1 (match st1[l]? with | some (.exn c _) => .ok (.bl (tab.contains c)) st1 | _ => .bad) (Val1 K Q) := q1
    split at q1
    · rename_i c p hx
      obtain ⟨hx1, hx2, v, hx3, hx4⟩ := exn_at hcur s1 rx hx
      subst hx1
      subst hx2
      exact ⟨cy, cv, tab.contains cu.c, _, rfl, hy, hk, hx3, okv q1 s1 (.bl _)⟩
    · exact q1.elim
  | _ => exact q1.elim
/-- no exception is held: nothing to ask -/
theorem isx_dead {K : PySem.W.Frag} {tab : List Nat} {m : Ex} (hv : isV m = true) (hcur : G.cur = none) (σ : L2.St) (H : Hp) (Q : VK) (h : tE G K W (ev F (.op (.x (.isx tab)) [m])) σ H Q) : False := by
  cases m <;> first | (cases hv; done) | skip
  rename_i i
  obtain ⟨ρ, env, st, rel, q⟩ := h
  have q : Lf G K (fun c d H' => W c d σ H') ρ H (((match env[i]? with | some (some d) => R.ok d st | _ => .bad).bind fun d st1 => R.ok [d] st1).bind fun ds st1 => opSem (.x (.isx tab)) ds st1) (Val1 K Q) := q
  split at q
  · rename_i d hd
    cases d with
    | loc l =>
      have q : Lf G K (fun c d H' => W c d σ H') ρ H (match st[l]? with | some (.exn c _) => .ok (.bl (tab.contains c)) st | _ => .bad) (Val1 K Q) := q
      split at q
      · rename_i c p hx
        obtain ⟨_, _, cu, _, z, _⟩ := rel.s.obj l _ hx
        rw [hcur] at z; cases z
      · exact q.elim
    | _ => exact q.elim
  · exact q.elim
end

/-! ## raise C(e) -/
section
variable {X : Cx} {pins : List (Addr × Obj)} {σ : L2.St} {Q : XK}
theorem mkN_end {H1 H2 : Hp} {s1 : Shared} {h1 h2 : Heap} {g2 : Array GenState} {d2 : Drawn} {t2 : Nat} {os2 : OsState} {a C d : Addr} {fs : List (Str × V)} (T : Raises X (.ref C)) (I1 : Inv X pins σ H1 s1) (ha : s1.heap.objs.size ≤ a)
    (k : ∀ b o, s1.heap.get? b = some o → h1.get? b = some o) (un : Un (frs X.stack) [] (upd H1 a (exo a C none)) H2 h1 h2) (hok : HOk X.prog X.w H2 h2) (ho : os2 = s1.os) (hb : AllBare g2) (ea : H2 a = some (exo a C (some d)))
    (ed : H2 d = some (exd d fs)) (hd1 : H1 d = none) (q : Q (.ref C) (some d) (upd (del H2 a) d (.xd fs))) : L2N.MkP X pins σ Q (.ref a) ⟨h2, g2, d2, t2, os2⟩ := by
  obtain ⟨hp, g1, d1, t1, os1⟩ := s1
  obtain ⟨tt, GG, J, kG, ge, hoe, na⟩ := mk_end0 (d2 := d2) (t2 := t2) I1 ha k un hok ho hb ea ed hd1
  have zn : L2N.Zn (.ref C) (some d) ({ cls := .ref C, dict := some d, data := .fields #[.ref tt, .none, .none, .none, .bool false, .none] } : Obj) := ⟨rfl, rfl, fun vs e => by cases e; rfl⟩
  exact ⟨a, _, _, ⟨GG, g2, d2, t2, os2⟩, _, .ref C, some d, rfl, J, kG, ge, hoe, zn, rfl, rfl, na, rfl, hb, T, q⟩
theorem pmkN_oex {x : Str} {C fI : Addr} {fd : FuncData} {ps : List Str} {sp : Sp} {n : Nat} {e : Expr} {ta : TA} {p pos : Pos} (T : OexC X.K C) (iC : PySem.W.findIn X.K (.ref C) "__init__" = some (some (.ref fI)))
    (tI : PySem.W.typeIn X.K (.ref fI) = some (.type "function")) (F1 : FnOk X.prog X.w X.K X.mg X.base (CXN X.prog X.w) n fI fd ps sp) (hr : Room (n + 1) X.A) (hb : Binds X.K fd ps []) (hg : Gl X x) (hm : X.mg x = some (.ref C)) (ha : PA X [e] ta)
    (hdb : (x == ("__debug__" : Str)) = false) (he : starEach [e] X.env = (false, eval e X.env) :: starEach [] X.env) : L2N.PMk X (.Call (.Name x p) [e] [] pos) (tMkO C sp [] ta) := by
  intro pins s σ H Q I h
  obtain ⟨nm, qn, NN, bs, bm, sn, sub, ab, col, dd, m0, m1, m2, m3, m5, hC, hbm⟩ := T.cls
  refine wpAny_Call_Name_kw (ld_glob I hg hm ?_ hdb)
  refine PySem.W.callWith_K (h₀ := X.base) I.ok.mod.kin T.kC (thn (ha.run pos pins s σ H _ I h) ?_) he rfl
  intro us s1 ⟨vs, H1, I1, r1, hz, q1⟩
  refine ⟨I1.kIn, ?_⟩
  show wpAny _ _ (call (.ref C) us) _ _ _
  obtain ⟨h0, g0, w0, t0, os0⟩ := s1
  have step : h0.objs.size ≤ h0.objs.size + 1 := Nat.le_succ _
  have hq := q1 (h0.objs.size + 1) (I1.hok.fresh step)
  have old : ∀ b o, h0.get? b = some o → ((h0.push (PySem.W.kdv_tup us)).push (PySem.HandSPX.excO C h0.objs.size)).get? b = some o := fun _ _ z => Heap.get?_push_of_some _ (Heap.get?_push_of_some _ z)
  have new : ((h0.push (PySem.W.kdv_tup us)).push (PySem.HandSPX.excO C h0.objs.size)).get? (h0.objs.size + 1) = some (PySem.HandSPX.excO C h0.objs.size) := by heap_get
  have I2 := I1.laid (t' := t0) (a := h0.objs.size + 1) (o := exo (h0.objs.size + 1) C none) old step (exo_ok new)
  have r2 : Vals (V.ref (h0.objs.size + 1) :: vs) (Value.ref (h0.objs.size + 1) :: us) := .cons rfl r1
  rw [List.append_nil] at hq
  have hl : (Value.ref (h0.objs.size + 1) :: us).length = ps.length := r2.length.symm.trans (F1.len _ _ _ _ hq)
  have hus : us.length ≤ sizeLine := by
    have : vs.length = us.length := Paired.length r1
    rw [sizeLine_eq]; omega
  have bd := hb _ (Value.ref (h0.objs.size + 1) :: us) I2.kIn (by rw [List.append_nil]; exact hl)
  rw [List.append_nil] at bd
  have go := F1.run _ X.stack _ _ ⟨Value.ref (h0.objs.size + 1) :: us, []⟩ _ _ _ (fun _ _ _ => False) (hr.make C us []) (I2.env0.make C us []) bd r2 hq
  refine wpAny_call (PySem.HandSPX.call_own F.excBase_ValueError (fun Y => PySem.HandSPX.refsVE_contains Y bm hbm) (I1.kIn _ _ hC) (PySem.W.looks_findIn I1.kIn iC) (fun self => PySem.W.bind_fn I1.kIn self tI) hus (codeAny_mono go ?_))
  intro r s' hq'
  match r, hq' with
  | .error er, hq' =>
    obtain ⟨_, _, _, _, _, _, _, _, _, _, _, _, z⟩ := hq'
    exact z.elim
  | .ok (.ret u), hq' =>
    obtain ⟨v, H2, os2, bare2, un2, hok2, rv, ev, d, fs, ea, ed, hd1, q2⟩ := hq'
    subst ev
    obtain ⟨h2, g2, d2, t2, os'⟩ := s'
    exact ⟨rv, mkN_end (raises_own T.exC T.tyC) I1 step old un2 hok2 os2 bare2 ea ed hd1 q2⟩
end
end Z

set_option autoImplicit false
set_option maxHeartbeats 2000000
namespace Z
open PySem PySem.Spec PyProof.Rows L2

/-! # Instances -/
/-- names and attributes go together -/
def NmOk (vs : List (Str × V)) (ns : List Nat) : Prop := vs.map (fun p => some p.1) = ns.map fun n => attrNm[n]?
theorem NmOk.look {K : PySem.W.Frag} {ρ : Tk} {H : Hp} {a : Nat} {x : Str} (hx : attrNm[a]? = some x) : ∀ {vs : List (Str × V)} {ns : List Nat} {ds : List D} {d : D}, NmOk vs ns → Rvs K ρ H ds (vs.map (·.2)) → atNm ns ds a = some d → ∃ v, vs.lookup x = some v ∧ Rv K ρ H d v
  | [], [], _, _, _, _, h => by cases h
  | [], _ :: _, _, _, n, _, _ => by cases n
  | _ :: _, [], _, _, n, _, _ => by cases n
  | (y, v) :: vs, m :: ns, [], _, _, _, h => by cases h
  | (y, v) :: vs, m :: ns, e :: ds, d, n, r, h => by
    have n : some y :: vs.map (fun p => some p.1) = attrNm[m]? :: ns.map fun n => attrNm[n]? := n
    injection n with n1 n2
    cases r with
    | cons r1 r2 =>
      have h : (if m = a then some e else atNm ns ds a) = some d := h
      rw [List.lookup_cons]
      by_cases hm : m = a
      · rw [if_pos hm] at h
        cases h
        rw [hm, hx] at n1
        cases n1
        rw [beq_self_eq_true]
        exact ⟨v, rfl, r1⟩
      · rw [if_neg hm] at h
        have ne : (x == y) = false := by
          rw [beq_eq_false_iff_ne]
          intro e
          subst e
          exact hm (attr_inj n1.symm hx)
        rw [ne]
        exact NmOk.look hx n2 r2 h
theorem NmOk.no {a : Nat} {x : Str} (hx : attrNm[a]? = some x) : ∀ {vs : List (Str × V)} {ns : List Nat}, NmOk vs ns → ns.contains a = false → vs.lookup x = none
  | [], _, _, _ => rfl
  | _ :: _, [], n, _ => by cases n
  | (y, v) :: vs, m :: ns, n, h => by
    have n : some y :: vs.map (fun p => some p.1) = attrNm[m]? :: ns.map fun n => attrNm[n]? := n
    injection n with n1 n2
    rw [List.contains_cons, Bool.or_eq_false_iff] at h
    rw [List.lookup_cons]
    have ne : (x == y) = false := by
      rw [beq_eq_false_iff_ne]
      intro e
      subst e
      have := attr_inj n1.symm hx
      rw [this] at h
      simp at h
    rw [ne]
    exact NmOk.no hx n2 h.2
theorem NmOk.put {K : PySem.W.Frag} {ρ : Tk} {H : Hp} {a : Nat} {x : Str} {d : D} {v : V} (hx : attrNm[a]? = some x) (rv : Rv K ρ H d v) : ∀ {vs : List (Str × V)} {ns : List Nat} {ds : List D}, NmOk vs ns → Rvs K ρ H ds (vs.map (·.2)) →
    NmOk (putF x v vs) (putN a ns) ∧ Rvs K ρ H (putV a d ns ds) ((putF x v vs).map (·.2))
  | [], [], ds, _, r => by
    cases r
    refine ⟨?_, .cons rv .nil⟩
    show [some x] = [attrNm[a]?]
    rw [hx]
  | [], _ :: _, _, n, _ => by cases n
  | _ :: _, [], _, n, _ => by cases n
  | (y, u) :: vs, m :: ns, [], _, r => by cases r
  | (y, u) :: vs, m :: ns, e :: ds, n, r => by
    have n : some y :: vs.map (fun p => some p.1) = attrNm[m]? :: ns.map fun n => attrNm[n]? := n
    injection n with n1 n2
    cases r with
    | cons r1 r2 =>
      have e1 : putF x v ((y, u) :: vs) = if y = x then (y, v) :: vs else (y, u) :: putF x v vs := rfl
      have e2 : putN a (m :: ns) = if m = a then m :: ns else m :: putN a ns := rfl
      have e3 : putV a d (m :: ns) (e :: ds) = if m = a then d :: ds else e :: putV a d ns ds := rfl
      rw [e1, e2, e3]
      by_cases hm : m = a
      · have hy : y = x := by
          rw [hm, hx] at n1
          exact Option.some.inj n1
        rw [if_pos hm, if_pos hy, if_pos hm]
        refine ⟨?_, .cons rv r2⟩
        show some y :: vs.map (fun p => some p.1) = attrNm[m]? :: ns.map fun n => attrNm[n]?
        rw [n1, n2]
      · have hy : y ≠ x := fun e => hm (by subst e; exact attr_inj n1.symm hx)
        rw [if_neg hm, if_neg hy, if_neg hm]
        obtain ⟨q1, q2⟩ := NmOk.put hx rv n2 r2
        refine ⟨?_, .cons r1 q2⟩
        show some y :: (putF x v vs).map (fun p => some p.1) = attrNm[m]? :: (putN a ns).map fun n => attrNm[n]?
        rw [n1, q1]
section
variable {G : GC} {K : PySem.W.Frag} {ρ : Tk} {H : Hp} {st : Store}
theorem insD_rv (s : Rs G K ρ st H) {d : D} {v : V} {c : Nat} {ns : List Nat} {ds : List D} (r : Rv K ρ H d v) (e : insD st d = some (c, ns, ds)) :
    ∃ a dx vs, v = .ref a ∧ H a = some (.ins (clsA K c) dx vs) ∧ NmOk vs ns ∧ Rvs K ρ H ds (vs.map (·.2)) := by
  cases r with
  | fins u h n t => cases e; exact ⟨_, _, _, rfl, h, n, t⟩
  | @loc l a b hl =>
    have e : (match st[l]? with | some (DO.ins c ns ds) => some (c, ns, ds) | _ => none) = some (c, ns, ds) := e
    split at e
    · rename_i hx
      cases e
      obtain ⟨a', h1, dx, vs, h2, h3, h4⟩ := s.obj l _ hx
      rw [hl] at h1
      cases h1
      exact ⟨_, _, _, rfl, h2, h4, h3⟩
    · cases e
  | _ => cases e
end
section
variable {G : GC} {P : List Fd} {k : Nat} {X : Cx} {c : Cc} {W : WX} {F : FT}
/-! ## e.a -/
theorem fld_ok {a : Nat} {x : Str} {tab : List Nat} (hx : attrNm[a]? = some x) (hf : ∀ j, tab.contains j = true → Cls X.K (clsA X.K j) ∧ NoAttr X.K (clsA X.K j) x) (m : Ex) (σ : L2.St) (H : Hp) (Q : VK)
    (h : tE G X.K W (ev F (.op (.x (.fld a tab)) [m])) σ H Q) : tFld X.K (tE G X.K W (ev F m)) x σ H Q := by
  obtain ⟨ρ, env, st, rel, q⟩ := h
  have q : Lf G X.K (fun c d H' => W c d σ H') ρ H (((ev F m env st).bind fun d st1 => R.ok [d] st1).bind fun ds st1 => opSem (.x (.fld a tab)) ds st1) (Val1 X.K Q) := q
  refine ⟨ρ, env, st, rel, q.bind.bind.imp fun d st1 ρ1 H1 e1 s1 q1 v rv => ?_⟩
  have q1 := q1.ok s1
  have q1 : Lf G X.K (fun c d H' => W c d σ H') ρ1 H1 (match insD st1 d with | some (c, ns, fs) => if tab.contains c then fldSem a ns fs st1 else .bad | none => .bad) (Val1 X.K Q) := q1
  cases hi : insD st1 d with
  | none => rw [hi] at q1; exact q1.elim
  | some z =>
    obtain ⟨c, ns, fs⟩ := z
    rw [hi] at q1
    obtain ⟨hc, q1⟩ := of_ite q1
    obtain ⟨ad, dx, vs, rfl, h1, h2, h3⟩ := insD_rv s1 rv hi
    have q1 : Lf G X.K (fun c d H' => W c d σ H') ρ1 H1 (match atNm ns fs a with | some d => .ok d st1 | none => .bad) (Val1 X.K Q) := q1
    cases ha : atNm ns fs a with
    | none => rw [ha] at q1; exact q1.elim
    | some d2 =>
      rw [ha] at q1
      obtain ⟨v2, h4, h5⟩ := h2.look hx h3 ha
      exact ⟨ad, _, dx, vs, v2, rfl, h1, (hf c hc).1, (hf c hc).2, h4, okv q1 s1 h5⟩
/-! ## isinstance(e, C) -/
theorem isc_ok {i : Nat} {tab : List Nat} (hf : ∀ j, tab.contains j = true → InsTy X.K (clsA X.K j) ∧ PySem.W.kitOne X.K (.ref (clsA X.K j)) (.ref (clsA X.K i)) = some (j == i) ∧ ∀ t : Ty, PySem.W.kitOne X.K (.type (tyName t)) (.ref (clsA X.K i)) = some false)
    (m : Ex) (σ : L2.St) (H : Hp) (Q : VK) (h : tE G X.K W (ev F (.op (.x (.isc i tab)) [m])) σ H Q) : tCB (rIsi X.K) (tCons (tE G X.K W (ev F m)) (tCons (tC (.ref (clsA X.K i))) tNil)) σ H Q := by
  obtain ⟨ρ, env, st, rel, q⟩ := h
  have q : Lf G X.K (fun c d H' => W c d σ H') ρ H (((ev F m env st).bind fun d st1 => R.ok [d] st1).bind fun ds st1 => opSem (.x (.isc i tab)) ds st1) (Val1 X.K Q) := q
  refine ⟨ρ, env, st, rel, q.bind.bind.imp fun d st1 ρ1 H1 e1 s1 q1 v rv => ?_⟩
  have q1 := q1.ok s1
  have q1 : Lf G X.K (fun c d H' => W c d σ H') ρ1 H1 (match insD st1 d with
      | some (e, _, _) => if tab.contains e then .ok (.bl (e == i)) st1 else .bad
      | none => if tab.isEmpty then .bad else match tyD st1 d with
        | some _ => .ok (.bl false) st1
        | none => .bad) (Val1 X.K Q) := q1
  cases hi : insD st1 d with
  | some z =>
    obtain ⟨c, ns, fs⟩ := z
    rw [hi] at q1
    obtain ⟨hc, q1⟩ := of_ite q1
    obtain ⟨ad, dx, vs, rfl, h1, h2, h3⟩ := insD_rv s1 rv hi
    obtain ⟨t1, t2, t3⟩ := hf c hc
    exact ⟨_, _, _, _, _, rfl, .own _, .base (.ins h1 t1.cl t1.ha t1.hn t1.tk t1.hm), t2, okv q1 s1 (.bl _)⟩
  | none =>
    rw [hi] at q1
    cases tab with
    | nil => exact q1.elim
    | cons j js =>
      have q1 : Lf G X.K (fun c d H' => W c d σ H') ρ1 H1 (match tyD st1 d with
        | some _ => .ok (.bl false) st1
        | none => .bad) (Val1 X.K Q) := q1
      cases ht : tyD st1 d with
      | none => rw [ht] at q1; exact q1.elim
      | some t =>
        rw [ht] at q1
        exact ⟨_, _, _, _, _, rfl, .own _, ty_of s1 rv ht, (hf j (by simp)).2.2 t, okv q1 s1 (.bl _)⟩
/-! ## C(..) -/
def tMakeZ (C : Addr) (sp : Sp) (E : L2.St → XK) (t : TA) : TE := fun σ H Q => t σ H fun vs H1 => ∀ x dx, H1 x = none → H1 dx = none → dx ≠ x →
  sp (.ref x :: vs) (upd (upd H1 dx (.own x)) x (.ins C dx [])) (fun v H2 => v = .non ∧ Q (.ref x) H2) (E σ)
theorem pe_makeZ {kk : Nat} {x : Str} {px pos : Pos} {e : Expr} {es : List Expr} {t : TA} {E : L2.St → XK} {f C : Addr} {fd : FuncData} {ps : List Str} {sp : Sp} (M : Mk X.K C f) (fo : FnOk X.prog X.w X.K X.mg X.base (CXN X.prog X.w) kk f fd ps sp)
    (room : Room (kk + 1) X.A) (hg : Gl X x) (hm : X.mg x = some (.ref C)) (hb : Binds X.K fd ps []) (hx : ∀ σ, PassesAt (CXN X.prog X.w) X σ (E σ)) (ha : PA X (e :: es) t) (hdb : (x == ("__debug__" : Str)) = false)
    (he : starEach (e :: es) X.env = (false, eval e X.env) :: starEach es X.env) (hpl : (backTo pos (starEach es X.env)).any (·.1) = false) : PE X (.Call (.Name x px) (e :: es) [] pos) (tMakeZ C sp E t) := by
  constructor
  intro pins s0 σ H0 Q I0 h
  refine wpAny_Call_Name_kw (ld_glob I0 hg hm ?_ hdb)
  refine PySem.W.callWith_K (h₀ := X.base) I0.ok.mod.kin M.kp (thn (ha.run pos pins s0 σ H0 _ I0 h) ?_) he hpl
  rintro us s ⟨vs, H, I, r, q⟩
  refine ⟨I.kIn, ?_⟩
  have hq := q (s.heap.objs.size + 1) s.heap.objs.size (I.hok.fresh (Nat.le_succ _)) (I.hok.fresh (Nat.le_refl _)) (Nat.ne_of_lt (Nat.lt_succ_self _))
  have I2 := Inv.made (C := C) I
  have nus : (Value.ref (s.heap.objs.size + 1) :: us).length = ps.length := by
    have e1 := r.length
    have e2 := fo.len _ _ _ _ hq
    rw [List.length_cons] at e2 ⊢
    omega
  have bd := hb _ (Value.ref (s.heap.objs.size + 1) :: us) I2.kIn (by rw [List.append_nil]; exact nus)
  rw [List.append_nil] at bd
  have rr : Vals (V.ref (s.heap.objs.size + 1) :: vs) (Value.ref (s.heap.objs.size + 1) :: us) := .cons rfl r
  refine wpAny_call (make_map (f := f) I.kIn M.makes M.init (beq_iff_eq.mp M.fn) (codeAny_mono (fo.run _ X.stack _ _ ⟨Value.ref (s.heap.objs.size + 1) :: us, []⟩ _ _ _ (E σ) (room.make C us []) (I2.env0.make C us []) bd rr hq) ?_))
  intro r s' hq'
  match r, hq' with
  | .error er, hq' => exact hx σ pins _ _ er s' I2 hq'
  | .ok (.ret u), hq' =>
    obtain ⟨v, H', I3, rv, ev, q3⟩ := I2.after hq'
    subst ev
    exact ⟨rv, V.ref (s.heap.objs.size + 1), H', I3, rfl, q3⟩
  | .ok .next, hq' => exact False.elim hq'
  | .ok .brk, hq' => exact False.elim hq'
  | .ok .cont, hq' => exact False.elim hq'
theorem make_ok {i f : Nat} {es : List Ex} (σ : L2.St) (H : Hp) (Q : VK) (h : tE G X.K W (ev (run P k) (.make i f es)) σ H Q) : tMakeZ (clsA X.K i) (spF G X.K P k f) (WE W) (tA G X.K W (evs (run P k) es)) σ H Q := by
  obtain ⟨ρ, env, st, rel, q⟩ := h
  have q : Lf G X.K (fun c d H' => W c d σ H') ρ H ((evs (run P k) es env st).bind fun ds st1 => (run P k f (.loc st1.length :: ds) (st1 ++ [.ins i [] []])).bind fun d st2 => match d with
    | .non => .ok (.loc st1.length) st2
    | _ => .bad) (Val1 X.K Q) := q
  refine ⟨ρ, env, st, rel, q.bind.imp fun ds st1 ρ1 H1 e1 s1 q1 vs rvs x dx hx hdx ne => ?_⟩
  have s2 : Rs G X.K ρ1 st1 (upd H1 dx (.own x)) := s1.new hdx
  have hx2 : (upd H1 dx (.own x)) x = none := by rw [upd_ne (Ne.symm ne)]; exact hx
  have s3 : Rs G X.K (ρ1 ++ [(x, true)]) (st1 ++ [.ins i [] []]) (upd (upd H1 dx (.own x)) x (.ins (clsA X.K i) dx [])) := s2.alloc hx2 rfl ⟨dx, [], upd_same, .nil, rfl⟩
  have ee : Ext X.K ρ1 (ρ1 ++ [(x, true)]) H1 (upd (upd H1 dx (.own x)) x (.ins (clsA X.K i) dx [])) := (Ext.new hdx).trans (Ext.alloc hx2)
  have hl : (ρ1 ++ [(x, true)])[st1.length]? = some (x, true) := by rw [← s1.len, List.getElem?_append_right (Nat.le_refl _), Nat.sub_self]; rfl
  refine ⟨_, _, _, s3, .cons (.loc hl) (rvs.ext ee), (q1.ext ee).bind.imp fun d st2 ρ2 H2 e2 s4 q2 v rv => ?_⟩
  cases rv with
  | non => exact ⟨rfl, okv q2 s4 (.loc (pre_get e2.pre hl))⟩
  | _ => exact q2.elim
/-! ## o.m(..) -/
def tMethZ (C : Addr) (m : Str) (sp : Sp) (E : L2.St → XK) (ta : TE) (t : TA) : TE := fun σ H Q => ta σ H fun x H1 => ∃ a dx fs, x = .ref a ∧ H1 a = some (.ins C dx fs) ∧ fs.lookup m = none ∧ t σ H1 fun vs H2 => sp (x :: vs) H2 Q (E σ)
theorem pe_methZ {kk : Nat} {m : Str} {apos pos : Pos} {o e : Expr} {es : List Expr} {ta : TE} {t : TA} {E : L2.St → XK} {f C : Addr} {fd : FuncData} {ps : List Str} {sp : Sp} {pl : Sem Bool} (he : PE X o ta) (c : Cls X.K C) (hm : Meth X.K C m f)
    (fo : FnOk X.prog X.w X.K X.mg X.base (CXN X.prog X.w) kk f fd ps sp) (room : Room kk X.A) (hb : Binds X.K fd ps []) (hx : ∀ σ, PassesAt (CXN X.prog X.w) X σ (E σ)) (ha : PA X (e :: es) t) (hst : starEach (e :: es) X.env = (false, eval e X.env) :: starEach es X.env)
    (hpl : (backTo pos (starEach es X.env)).any (·.1) = false)
    (ht : eval (.Call (.Attribute o m apos) (e :: es) [] pos) X.env = (do
      let ov ← eval o X.env; standAt apos.atName
      let (g, first) ← holding [ov] (getMethod ov m pl)
      callWith pos g first (backTo pos (starEach (e :: es) X.env)) (backToKw pos (keywordEach [] X.env)))) : PE X (.Call (.Attribute o m apos) (e :: es) [] pos) (tMethZ C m sp E ta t) := by
  constructor
  intro pins s0 σ H0 Q I0 h
  refine PySem.W.methodCall_KW (pl := pl) (thn (he.run pins s0 σ H0 _ I0 h) ?_) ht
  rintro u s1 ⟨x, H1, I1, rx, a, dx, fs, rfl, ea, l, q⟩
  obtain rfl : u = Value.ref a := rx
  refine getmeth_ok I1 ea c hm l ?_
  refine PySem.W.callWith_K (first := [.ref a]) (h₀ := X.base) I1.ok.mod.kin hm.kp (thn (ha.run pos pins s1 σ H1 _ I1 q) ?_) hst hpl
  rintro us s2 ⟨vs, H2, I2, r, q2⟩
  refine ⟨I2.kIn, ?_⟩
  refine run_fnSD (ds := []) (dvs := []) (us := .ref a :: us) (vs := .ref a :: vs) fo room hb .nil (hx σ) I2 (.cons rfl r) ?_
  rw [List.append_nil]
  exact q2
theorem pe_methZ0 {kk : Nat} {m : Str} {apos pos : Pos} {o : Expr} {ta : TE} {E : L2.St → XK} {f C : Addr} {fd : FuncData} {ps : List Str} {sp : Sp} {pl : Sem Bool} (he : PE X o ta) (c : Cls X.K C) (hm : Meth X.K C m f)
    (fo : FnOk X.prog X.w X.K X.mg X.base (CXN X.prog X.w) kk f fd ps sp) (room : Room kk X.A) (hb : Binds X.K fd ps []) (hx : ∀ σ, PassesAt (CXN X.prog X.w) X σ (E σ))
    (ht : eval (.Call (.Attribute o m apos) [] [] pos) X.env = (do
      let ov ← eval o X.env; standAt apos.atName
      let (g, first) ← holding [ov] (getMethod ov m pl)
      callWith pos g first (backTo pos (starEach [] X.env)) (backToKw pos (keywordEach [] X.env)))) : PE X (.Call (.Attribute o m apos) [] [] pos) (tMethZ C m sp E ta tNil) := by
  constructor
  intro pins s0 σ H0 Q I0 h
  refine PySem.W.methodCall_KW (pl := pl) (thn (he.run pins s0 σ H0 _ I0 h) ?_) ht
  rintro u s1 ⟨x, H1, I1, rx, a, dx, fs, rfl, ea, l, q⟩
  obtain rfl : u = Value.ref a := rx
  refine getmeth_ok I1 ea c hm l ?_
  exact PySem.W.callWith_K0 (first := [.ref a]) I1.kIn hm.kp (run_fnSD (ds := []) (dvs := []) (us := [.ref a]) (vs := [.ref a]) fo room hb .nil (hx σ) I1 (.cons rfl .nil) q)
theorem imeth_ok {i f a : Nat} {x : Str} (hx : attrNm[a]? = some x) (o : Ex) {es : List Ex} (σ : L2.St) (H : Hp) (Q : VK) (h : tE G X.K W (ev (run P k) (.meth i f a o es)) σ H Q) :
    tMethZ (clsA X.K i) x (spF G X.K P k f) (WE W) (tE G X.K W (ev (run P k) o)) (tA G X.K W (evs (run P k) es)) σ H Q := by
  obtain ⟨ρ, env, st, rel, q⟩ := h
  have q : Lf G X.K (fun c d H' => W c d σ H') ρ H ((ev (run P k) o env st).bind fun d st1 => match insD st1 d with
    | some (e, ns, _) => if (e == i && !ns.contains a) = true then (evs (run P k) es env st1).bind fun ds st2 => run P k f (d :: ds) st2 else .bad
    | none => .bad) (Val1 X.K Q) := q
  refine ⟨ρ, env, st, rel, q.bind.imp fun d st1 ρ1 H1 e1 s1 q1 v rv => ?_⟩
  cases hi : insD st1 d with
  | none => rw [hi] at q1; exact q1.elim
  | some z =>
    obtain ⟨c, ns, fs⟩ := z
    rw [hi] at q1
    have q3 : Lf G X.K (fun c d H' => W c d σ H') ρ1 H1 (if (c == i && !ns.contains a) = true then (evs (run P k) es env st1).bind fun ds st2 => run P k f (d :: ds) st2 else .bad) (Val1 X.K Q) := q1
    obtain ⟨hc, q4⟩ := of_ite q3
    clear q1 q3
    rw [Bool.and_eq_true, beq_iff_eq, Bool.not_eq_true'] at hc
    obtain ⟨hc1, hc⟩ := hc
    subst hc1
    obtain ⟨ad, dx, vs, rfl, h1, h2, h3⟩ := insD_rv s1 rv hi
    refine ⟨ad, dx, vs, rfl, h1, h2.no hx hc, ρ1, env, st1, ⟨s1, rel.e.ext e1⟩, q4.bind.imp fun ds st2 ρ2 H2 e2 s2 q2 us rus => ?_⟩
    exact ⟨ρ2, st2, d :: ds, s2, .cons (rv.ext e2) rus, q2⟩
theorem tA_nil {F : FT} (σ : L2.St) (H : Hp) (Q : List V → Hp → Prop) (h : tA G X.K W (evs F []) σ H Q) : tNil σ H Q := by
  obtain ⟨ρ, env, st, rel, q⟩ := h
  exact q ρ H Ext.refl rel.s [] .nil
theorem imeth0_ok {i f a : Nat} {x : Str} (hx : attrNm[a]? = some x) (o : Ex) (σ : L2.St) (H : Hp) (Q : VK) (h : tE G X.K W (ev (run P k) (.meth i f a o [])) σ H Q) :
    tMethZ (clsA X.K i) x (spF G X.K P k f) (WE W) (tE G X.K W (ev (run P k) o)) tNil σ H Q := by
  obtain ⟨ρ, env, st, rel, q⟩ := imeth_ok hx o σ H Q h
  refine ⟨ρ, env, st, rel, q.imp fun d st1 ρ1 H1 e1 s1 q1 v rv => ?_⟩
  obtain ⟨ad, dx, vs, h1, h2, h3, h4⟩ := q1 v rv
  exact ⟨ad, dx, vs, h1, h2, h3, tA_nil _ _ _ h4⟩
end
end Z

set_option autoImplicit false
set_option maxHeartbeats 2000000
namespace PySem.Zo
open PySem PySem.Calls PySem.W
section
variable {prog : Program} {w : World} {A : Around} {E : Value → Shared → Prop} {s : Shared} {K : Frag} {x C f : Addr} {ox : Obj} {od : Option Obj} {b tb : Value}
theorem ne_body (hu : A.units < cLine) (kin : K.In s.heap) (ia : InstAt s.heap x ox C od) (he : findIn K (.ref C) "__eq__" = some (some (.ref f))) (hf : isFn K (.ref f) = true) {Q : PySem.Fin → Shared → Prop}
    (h : wpAny (model prog w) A (call (.ref f) [.ref x, b]) (fun v s' => ∃ k, v = .bool k ∧ Q (.done (.ret (.bool (!k)))) s') E s) : wpAny (model prog w) A (Builtin.«object.__ne__» ⟨[.ref x, b], []⟩) Q E s := by
  unfold Builtin.«object.__ne__»
  repeat (first
    | with_reducible refine wpAny_cRoomFor hu ?_
    | (refine wpAny_bind (m := callSpecialIfBound? (.ref x) (Str.ofString "__eq__") [b])
        (ifBound_K kin ia he hf (wpAny_mono h (fun r s' hr => by
          obtain ⟨k, rfl, hq⟩ := hr
          repeat (first | exact hq | exact wpAny_pure hq | exact wpAny_truthy_bool hq | (refine wpAny_bind (m := truthy (.bool _)) (wpAny_truthy_bool ?_)) | wp_step)) fun _ _ e => e)))
    | wp_step)
theorem ne_bound {args : List Value} {M : Model} {Q : Option Value → Shared → Prop} (kin : K.In s.heap) (ia : InstAt s.heap x ox C od) (hs : findIn K (.ref C) "__ne__" = some (some (.builtin "object.__ne__")))
    (h : wpAny M A (call (.builtin "object.__ne__") (.ref x :: args)) (fun v => Q (some v)) E s) : wpAny M A (callSpecialIfBound? (.ref x) "__ne__" args) Q E s := by
  simp only [callSpecialIfBound?, bindSpecialIfBound?]
  refine wpAny_holding (wpAny_bind (wpAny_bind (wpAny_bind (ia.type.here ((looks_findIn kin hs).here ?_)))))
  refine wpAny_bind (wpAny_askSetting (wpAny_ite ?_))
  have last : wpAny M A (call (.builtin "object.__ne__") ([.ref x] ++ args) >>= fun v => pure (some v)) Q E s := wpAny_bind (wpAny_mono h (fun v s' z => wpAny_pure z) fun _ _ z => z)
  split
  · exact wpAny_bind (wpAny_of_eq (F.cmp_object.ne.bind _) (wpAny_pure (by exact last)))
  · exact wpAny_tryCatch (wpAny_bind (wpAny_of_eq (F.cmp_object.ne.bind _) (wpAny_pure (by exact last))))
theorem ne_call (hu : A.in1.units < cLine) (kin : K.In s.heap) (ia : InstAt s.heap x ox C od) (hm : mroIn K C (.type "object") = some true) (he : findIn K (.ref C) "__eq__" = some (some (.ref f))) (hf : isFn K (.ref f) = true) {Q : Value → Shared → Prop}
    (h : wpAny (model prog w) A.in1 (call (.ref f) [.ref x, b]) (fun v s' => ∃ k, v = .bool k ∧ Q (.bool (!k)) s') E s) : wpAny (model prog w) A (call (.builtin "object.__ne__") [.ref x, b]) Q E s :=
  wpAny_call (codeAny_call_builtin F.cmp_object.ne.plain F.cmpEntry_ne (check_slot F.cmpKind_ne F.cmpSplit_ne (ia.type.andThen (looks_mroIn kin hm)) (F.cmpArgs_ne _ _) (ne_body hu kin ia he hf (wpAny_mono h (fun v s' ⟨k, hv, q⟩ => ⟨k, hv, q⟩) fun _ _ z => z))))
theorem ne_rich (hu : A.units + 2 < cLine) (kin : K.In s.heap) (ia : InstAt s.heap x ox C od) (hb : Looks (model prog w) s.heap (typeOf b) tb) (hn : notFirst K C tb = true) (hm : mroIn K C (.type "object") = some true)
    (hs : findIn K (.ref C) "__ne__" = some (some (.builtin "object.__ne__"))) (he : findIn K (.ref C) "__eq__" = some (some (.ref f))) (hf : isFn K (.ref f) = true) {Q : Value → Shared → Prop}
    (h : wpAny (model prog w) A.in1 (call (.ref f) [.ref x, b]) (fun v s' => ∃ k, v = .bool k ∧ Q (.bool (!k)) s') E s) : wpAny (model prog w) A (richCompare .NotEq (.ref x) b) Q E s := by
  have u1 : A.in1.units = A.units + 1 := rfl
  have one : wpAny (model prog w) A (tryCompare (.ref x) (cmpInfo .NotEq).2.1 b) (fun r s' => ∃ k, r = some (.bool (!k)) ∧ Q (.bool (!k)) s') E s := by
    unfold tryCompare
    refine wpAny_bind (ne_bound kin ia hs (ne_call (by omega) kin ia hm he hf (wpAny_mono h (fun v s' ⟨k, hv, q⟩ => ⟨k, hv, ?_⟩) fun _ _ z => z)))
    exact wpAny_pure ⟨k, rfl, q⟩
  unfold richCompare
  simp only [oneThing_ref]
  refine wpAny_holding (wpAny_bind (wpAny_cRoomFor (by omega) ?_))
  refine wpAny_bind (ia.type.here (wpAny_bind (hb.here ?_)))
  split
  · rename_i q
    have e : subIn K tb (.ref C) = some false := by
      rcases Bool.or_eq_true_iff.mp hn with e | e
      · rw [beq_iff_eq.mp e] at q; simp at q
      · exact beq_iff_eq.mp e
    refine wpAny_bind ((looks_subIn kin e).here ?_)
    simp only [Bool.false_eq_true, if_false]
    refine wpAny_bind (wpAny_mono one (fun r s' z => ?_) fun _ _ z => z)
    obtain ⟨k, rfl, hq⟩ := z
    exact wpAny_pure hq
  · refine wpAny_bind (wpAny_pure ?_)
    simp only [Bool.false_eq_true, if_false]
    refine wpAny_bind (wpAny_mono one (fun r s' z => ?_) fun _ _ z => z)
    obtain ⟨k, rfl, hq⟩ := z
    exact wpAny_pure hq
end
end PySem.Zo

namespace Z
open PySem PySem.Spec PyProof.Rows L2

/-- the type of what stands beside an instance for == -/
def YTy (K : PySem.W.Frag) (H : Hp) (y : V) (tb : Value) : Prop := ∃ b, y = .ref b ∧ ((∃ C' dy ws, H b = some (.ins C' dy ws) ∧ tb = .ref C') ∨ (∃ xs, SqT K H b xs ∧ tb = .type "tuple"))
/-- == and != by an own __eq__ that does not raise -/
def rOwnZ (K : PySem.W.Frag) (C : Addr) (sp : Sp) (neg : Bool) : R2 := fun x y H Q => ∃ a dx fs tb, x = .ref a ∧ H a = some (.ins C dx fs) ∧ YTy K H y tb ∧ PySem.W.notFirst K C tb = true ∧ sp [x, y] H (fun v H' => ∃ b, v = .bl b ∧ Q (.bl (if neg then !b else b)) H') (fun _ _ _ => False)
section
variable {X : Cx} {C f : Addr} {kk : Nat} {fd : FuncData} {ps : List Str} {sp : Sp}
theorem yty_looks {pins : List (Addr × Obj)} {σ : L2.St} {H : Hp} {s : Shared} {y : V} {u tb : Value} (I : Inv X pins σ H s) (r : RelV y u) (h : YTy X.K H y tb) : PySem.W.Looks (model X.prog X.w) s.heap (typeOf u) tb := by
  obtain ⟨b, rfl, h⟩ := h
  obtain rfl : u = Value.ref b := r
  rcases h with ⟨C', dy, ws, h, rfl⟩ | ⟨xs, h, rfl⟩
  · obtain ⟨mA, O, _⟩ := ins_get I.hok h
    obtain ⟨od, J, _⟩ := O.look
    exact J.type
  · obtain ⟨its, _, ⟨o, ho, hc, _⟩, _⟩ := I.tuple h
    show PySem.W.Looks _ s.heap (typeOf (Value.ref b)) (Value.type "tuple")
    exact hc ▸ (PySem.W.Looks.ld ho).andThen .now
theorem own_ins {pins : List (Addr × Obj)} {σ : L2.St} {H : Hp} {s : Shared} {a dx : Addr} {fs : List (Str × V)} (I : Inv X pins σ H s) (h : H a = some (.ins C dx fs)) : ∃ ox od, PySem.W.InstAt s.heap a ox C od := by
  obtain ⟨mA, O, _⟩ := ins_get I.hok h
  obtain ⟨od, J, _⟩ := O.look
  exact ⟨_, _, J⟩
theorem no_exc {pins : List (Addr × Obj)} {H : Hp} {s s' : Shared} {e : Value} (h : CXN X.prog X.w X.stack H s (fun _ _ _ => False) e s') : X.xe e s' := by
  obtain ⟨_, _, _, _, _, _, _, _, _, _, _, _, _, _, _, _, z⟩ := h
theorem op_ownEq (M : Meth X.K C "__eq__" f) (fo : FnOk X.prog X.w X.K X.mg X.base (CXN X.prog X.w) kk f fd ps sp) (room : Room kk X.A) (hb : Binds X.K fd ps []) : OpR X (compareOp .Eq) (rOwnZ X.K C sp false) := by
  intro pins s σ H x y v u Q I rx ry h
  obtain ⟨a, dx, fs, tb, rfl, ha, hy, hn, q⟩ := h
  obtain rfl : v = Value.ref a := rx
  obtain ⟨ox, od, J⟩ := own_ins I ha
  obtain ⟨m, hF⟩ := I.fr
  refine PySem.W.cmp_K (op := .Eq) (tb := tb) room.units0 hF I.ok.mod.kin J (yty_looks I ry hy) hn M.at_ M.fn ?_
  have hl : [Value.ref a, u].length = ps.length := (fo.len _ _ _ _ q : [V.ref a, y].length = ps.length)
  have bd := hb s [Value.ref a, u] I.kIn (by rw [List.append_nil]; exact hl)
  rw [List.append_nil] at bd
  refine wpAny_call (codeAny_mono (fo.run X.A X.stack s H ⟨[Value.ref a, u], []⟩ _ [V.ref a, y] _ _ room I.env0 bd (.cons rfl (.cons ry .nil)) q) ?_)
  intro r s' hq
  match r, hq with
  | .error er, hq => exact no_exc (pins := pins) hq
  | .ok (.ret z), hq =>
    obtain ⟨v', H', I', rv, b, rfl, qz⟩ := I.after hq
    obtain rfl : z = .bool b := rv
    exact ⟨.bl b, H', I', rfl, qz⟩
  | .ok .next, hq => exact False.elim hq
  | .ok .brk, hq => exact False.elim hq
  | .ok .cont, hq => exact False.elim hq
theorem op_ownNe (M : Meth X.K C "__eq__" f) (hne : PySem.W.findIn X.K (.ref C) "__ne__" = some (some (.builtin "object.__ne__"))) (hm : PySem.W.mroIn X.K C (.type "object") = some true)
    (fo : FnOk X.prog X.w X.K X.mg X.base (CXN X.prog X.w) kk f fd ps sp) (room : Room (kk + 1) X.A) (hb : Binds X.K fd ps []) : OpR X (compareOp .NotEq) (rOwnZ X.K C sp true) := by
  intro pins s σ H x y v u Q I rx ry h
  obtain ⟨a, dx, fs, tb, rfl, ha, hy, hn, q⟩ := h
  obtain rfl : v = Value.ref a := rx
  obtain ⟨ox, od, J⟩ := own_ins I ha
  refine PySem.Zo.ne_rich (by have := room.units; omega) I.kIn J (yty_looks I ry hy) hn hm hne M.at_ M.fn ?_
  have hl : [Value.ref a, u].length = ps.length := (fo.len _ _ _ _ q : [V.ref a, y].length = ps.length)
  have bd := hb s [Value.ref a, u] I.kIn (by rw [List.append_nil]; exact hl)
  rw [List.append_nil] at bd
  refine wpAny_call (codeAny_mono (fo.run X.A.in1 X.stack s H ⟨[Value.ref a, u], []⟩ _ [V.ref a, y] _ _ room.in1 I.env0.in1 bd (.cons rfl (.cons ry .nil)) q) ?_)
  intro r s' hq
  match r, hq with
  | .error er, hq => exact no_exc (pins := pins) hq
  | .ok (.ret z), hq =>
    obtain ⟨v', H', I', rv, b, rfl, qz⟩ := I.after hq
    obtain rfl : z = .bool b := rv
    exact ⟨b, rfl, .bl (!b), H', I', rfl, qz⟩
  | .ok .next, hq => exact False.elim hq
  | .ok .brk, hq => exact False.elim hq
  | .ok .cont, hq => exact False.elim hq
end
section
variable {G : GC} {P : List Fd} {k : Nat} {X : Cx} {W : WX}
theorem okY_yty {ρ : Tk} {st : Store} {H : Hp} (s : Rs G X.K ρ st H) {c : Nat} {d : D} {y : V} (ry : Rv X.K ρ H d y) (h : okY st c d = true) (ht : PySem.W.notFirst X.K (clsA X.K c) (.type "tuple") = true) : ∃ tb, YTy X.K H y tb ∧ PySem.W.notFirst X.K (clsA X.K c) tb = true := by
  have ins : (match insD st d with | some (j, _, _) => j == c | none => false) = true → ∃ tb, YTy X.K H y tb ∧ PySem.W.notFirst X.K (clsA X.K c) tb = true := fun h => by
    cases hi : insD st d with
    | none => rw [hi] at h; cases h
    | some z =>
      obtain ⟨j, ns, fs⟩ := z
      rw [hi] at h
      have h : (j == c) = true := h
      rw [beq_iff_eq] at h
      subst h
      obtain ⟨b, dx, ws, rfl, h1, _, _⟩ := insD_rv s ry hi
      refine ⟨_, ⟨b, rfl, .inl ⟨_, _, _, h1, rfl⟩⟩, ?_⟩
      unfold PySem.W.notFirst
      rw [beq_self_eq_true]; rfl
  cases ry with
  | tup h1 h2 => exact ⟨_, ⟨_, rfl, .inr ⟨_, h1, rfl⟩⟩, ht⟩
  | fins a1 a2 a3 a4 => exact ins h
  | loc a1 => exact ins h
  | _ => cases h
theorem eqo_ok {neg : Bool} {c f : Nat} (ht : PySem.W.notFirst X.K (clsA X.K c) (.type "tuple") = true) (a b : Ex) (σ : L2.St) (H : Hp) (Q : VK) (h : tE G X.K W (ev (run P k) (.eqo neg c f a b)) σ H Q) :
    tOp (rOwnZ X.K (clsA X.K c) (spF G X.K P k f) neg) (tE G X.K W (ev (run P k) a)) (tE G X.K W (ev (run P k) b)) σ H Q := by
  obtain ⟨ρ, env, st, rel, q⟩ := h
  have q : Lf G X.K (fun c d H' => W c d σ H') ρ H ((ev (run P k) a env st).bind fun d st1 => (ev (run P k) b env st1).bind fun e st2 => match insD st2 d with
    | some (i, _, _) => if (i == c && okY st2 c e) = true then negR neg (run P k f [d, e] st2) else .bad
    | none => .bad) (Val1 X.K Q) := q
  refine ⟨ρ, env, st, rel, q.bind.imp fun d st1 ρ1 H1 e1 s1 q1 x rx => ?_⟩
  refine ⟨ρ1, env, st1, ⟨s1, rel.e.ext e1⟩, q1.bind.imp fun e st2 ρ2 H2 e2 s2 q2 y ry => ?_⟩
  cases hi : insD st2 d with
  | none => rw [hi] at q2; exact q2.elim
  | some z =>
    obtain ⟨i, ns, fs⟩ := z
    rw [hi] at q2
    have q3 : Lf G X.K (fun c d H' => W c d σ H') ρ2 H2 (if (i == c && okY st2 c e) = true then negR neg (run P k f [d, e] st2) else .bad) (Val1 X.K Q) := q2
    obtain ⟨hc, q4⟩ := of_ite q3
    clear q2 q3
    rw [Bool.and_eq_true, beq_iff_eq] at hc
    obtain ⟨hc1, hc⟩ := hc
    subst hc1
    obtain ⟨ad, dx, vs, rfl, h1, h2, h3⟩ := insD_rv s2 (rx.ext e2) hi
    obtain ⟨tb, y1, y2⟩ := okY_yty s2 ry hc ht
    refine ⟨ad, dx, vs, tb, rfl, h1, y1, y2, ρ2, st2, [d, e], s2, .cons (rx.ext e2) (.cons ry .nil), ?_⟩
    cases hr : run P k f [d, e] st2 with
    | bad => rw [hr] at q4; exact q4.elim
    | exc => rw [hr] at q4; exact q4.elim
    | ok z st3 =>
      rw [hr] at q4
      cases z with
      | bl b =>
        intro ρ3 H3 e3 s3 v rv
        cases rv
        exact ⟨b, rfl, q4 ρ3 H3 e3 s3 _ (.bl _)⟩
      | _ => exact q4.elim
theorem eqo_bl {neg : Bool} {c f : Nat} {a b : Ex} {F : FT} {env : Env} {st st' : Store} {z : D} (h : ev F (.eqo neg c f a b) env st = .ok z st') : ∃ k, z = .bl k := by
  have h : ((ev F a env st).bind fun d st1 => (ev F b env st1).bind fun e st2 => match insD st2 d with
    | some (i, _, _) => if (i == c && okY st2 c e) = true then negR neg (F f [d, e] st2) else .bad
    | none => .bad) = .ok z st' := h
  cases h1 : ev F a env st with
  | bad => rw [h1] at h; cases h
  | exc => rw [h1] at h; cases h
  | ok d st1 =>
    rw [h1] at h
    have h : ((ev F b env st1).bind fun e st2 => match insD st2 d with
      | some (i, _, _) => if (i == c && okY st2 c e) = true then negR neg (F f [d, e] st2) else .bad
      | none => .bad) = .ok z st' := h
    cases h2 : ev F b env st1 with
    | bad => rw [h2] at h; cases h
    | exc => rw [h2] at h; cases h
    | ok e st2 =>
      rw [h2] at h
      have h : (match insD st2 d with
        | some (i, _, _) => if (i == c && okY st2 c e) = true then negR neg (F f [d, e] st2) else .bad
        | none => .bad) = .ok z st' := h
      cases hi : insD st2 d with
      | none => rw [hi] at h; cases h
      | some zz =>
        rw [hi] at h
        simp only at h
        split at h
        · cases h3 : F f [d, e] st2 with
          | bad => rw [h3] at h; cases h
          | exc => rw [h3] at h; cases h
          | ok y st3 =>
            rw [h3] at h
            cases y with
            | bl b => cases h; exact ⟨_, rfl⟩
            | _ => cases h
        · cases h
theorem eqoT_ok {neg : Bool} {c f : Nat} (ht : PySem.W.notFirst X.K (clsA X.K c) (.type "tuple") = true) (a b : Ex) (σ : L2.St) (H : Hp) (Q : Bool → Hp → Prop) (h : tT G X.K W (ev (run P k) (.eqo neg c f a b)) σ H Q) :
    tTest (tOp (rOwnZ X.K (clsA X.K c) (spF G X.K P k f) neg) (tE G X.K W (ev (run P k) a)) (tE G X.K W (ev (run P k) b))) σ H Q := by
  refine eqo_ok ht a b σ H _ ?_
  obtain ⟨ρ, env, st, rel, q⟩ := h
  refine ⟨ρ, env, st, rel, ?_⟩
  cases hr : ev (run P k) (.eqo neg c f a b) env st with
  | ok z st' =>
    obtain ⟨b, rfl⟩ := eqo_bl hr
    rw [hr] at q
    intro ρ' H' e s v rv
    cases rv
    obtain ⟨b', hb, q⟩ := q ρ' H' e s
    cases hb
    exact ⟨b, rfl, q⟩
  | exc => rw [hr] at q; exact q
  | bad => rw [hr] at q; exact q
end
end Z

set_option autoImplicit false
set_option maxHeartbeats 2000000
namespace Z
open PySem PySem.Spec PyProof.Rows L2

section
variable {G : GC} {P : List Fd} {k : Nat} {X : Cx} {c : Cc} {W : WX} {F : FT}
theorem XG.blk (g : XG G P k X c) (hh : c.hot = false) {s : Shared} {H : Hp} {scope : Scope} {cl : List (Str × Addr)} {C : Addr} {fp : List Addr} : XG G P k (X.blk s H scope (compEnvC scope cl C X.env) fp) (c.blk scope) where
  N := g.N
  nd := g.nd
  sc := by
    show relS scope X.env.scope = relS scope c.sc
    rw [g.sc]
  calm := fun _ => g.calm hh
  fn := .inr ⟨rfl, fun _ => rfl⟩
  room := fun _ => g.room hh
  roomH := g.roomH
  po := PassesOwn.never
  top := fun z => Bool.noConfusion z
  nocur := fun _ => g.nocur hh
  hotc := fun z => Bool.noConfusion z
  curx := fun z => Bool.noConfusion z
  blt := g.blt
  fns := g.fns
  co := g.co
  ex := g.ex
  exb := g.exb
  cls := g.cls
  clz := g.clz
  mez := g.mez
  faz := g.faz
  icz := g.icz
  eqz := g.eqz
theorem bl_of (g : XG G P k X c) {x : Str} (h : c.bl x = true) : Gl X x ∧ X.mg x = none ∧ okName x = true := by
  unfold Cc.bl at h
  rw [Bool.and_eq_true, Bool.and_eq_true] at h
  exact ⟨gl_of g h.1.1, g.blt x h.1.2, h.2⟩
theorem plain_of1 {n : Nat} {e : Expr} {m : Ex} (h : trE1 n c e = some m) : plain e = true := by
  cases n with
  | zero => cases h
  | succ n => cases e <;> first | rfl | (unfold trE1 at h; cases h)
/-- sealed or not -/
theorem trE_cases {n : Nat} {e : Expr} {m : Ex} (h : trE (n + 1) c e = some m) : (∃ m', trE1 n c e = some m' ∧ m = .sealE m') ∨ trE1 n c e = some m := by
  unfold trE at h
  split at h
  · cases q : trE1 n c e with
    | none => rw [q] at h; cases h
    | some m' => rw [q] at h; cases h; exact .inl ⟨m', rfl, rfl⟩
  · exact .inr h
theorem plain_of {n : Nat} {e : Expr} {m : Ex} (h : trE n c e = some m) : plain e = true := by
  cases n with
  | zero => cases h
  | succ n => rcases trE_cases h with ⟨m', h, _⟩ | h <;> exact plain_of1 h

/-! ### readings of the machine's parts -/
theorem var_ok {i : Nat} (σ : L2.St) (H : Hp) (Q : VK) (h : tE G X.K W (ev F (.v i)) σ H Q) : tVar i σ H Q := by
  obtain ⟨ρ, env, st, rel, q⟩ := h
  have q : Lf G X.K (fun c d H' => W c d σ H') ρ H (match env[i]? with | some (some d) => .ok d st | _ => .bad) (Val1 X.K Q) := q
  split at q
  · rename_i d hd
    obtain ⟨v, hv, rv⟩ := rel.e.at_ i d hd
    exact ⟨v, hv, okv q rel.s rv⟩
  · exact q.elim
theorem cst_ok {d : D} {v : V} (hv : ∀ ρ H, Rv X.K ρ H d v) (σ : L2.St) (H : Hp) (Q : VK) (h : tE G X.K W (ev F (.c d)) σ H Q) : tC v σ H Q := by
  obtain ⟨ρ, env, st, rel, q⟩ := h
  exact okv q rel.s (hv ρ H)
theorem not_ok (a : Ex) (σ : L2.St) (H : Hp) (Q : VK) (h : tE G X.K W (ev F (.not a)) σ H Q) : tNotT X.K (tE G X.K W (ev F a)) σ H Q := by
  obtain ⟨ρ, env, st, rel, q⟩ := h
  have q := Lf.bind (f := fun x st1 => match truth st1 x with | some k => R.ok (D.bl (!k)) st1 | none => .bad) q
  refine ⟨ρ, env, st, rel, q.imp fun d st1 ρ1 H1 e1 s1 q1 v rv => ?_⟩
  cases ht : truth st1 d with
  | none => rw [ht] at q1; exact q1.elim
  | some b => rw [ht] at q1; exact ⟨b, truV_of s1 rv ht, okv q1 s1 (.bl _)⟩
theorem notT_ok (a : Ex) (σ : L2.St) (H : Hp) (Q : Bool → Hp → Prop) (h : tT G X.K W (ev F (.not a)) σ H Q) : tNot (tT G X.K W (ev F a)) σ H Q := by
  obtain ⟨ρ, env, st, rel, q⟩ := h
  have q := Lf.bind (f := fun x st1 => match truth st1 x with | some k => R.ok (D.bl (!k)) st1 | none => .bad) q
  refine ⟨ρ, env, st, rel, q.imp fun d st1 ρ1 H1 e1 s1 q1 => ?_⟩
  cases ht : truth st1 d with
  | none => rw [ht] at q1; exact q1.elim
  | some b =>
    rw [ht] at q1
    obtain ⟨k, hk, q1⟩ := q1.ok s1
    cases hk
    exact ⟨b, rfl, q1⟩
theorem and_ok (a b : Ex) (σ : L2.St) (H : Hp) (Q : VK) (h : tE G X.K W (ev F (.and a b)) σ H Q) : tAndT X.K (tE G X.K W (ev F a)) (tE G X.K W (ev F b)) σ H Q := by
  obtain ⟨ρ, env, st, rel, q⟩ := h
  have q := Lf.bind (f := fun x st1 => match truth st1 x with | some true => ev F b env st1 | some false => .ok x st1 | none => .bad) q
  refine ⟨ρ, env, st, rel, q.imp fun d st1 ρ1 H1 e1 s1 q1 v rv => ?_⟩
  cases ht : truth st1 d with
  | none => rw [ht] at q1; exact q1.elim
  | some k =>
    rw [ht] at q1
    refine ⟨k, truV_of s1 rv ht, ?_⟩
    cases k with
    | true => rw [if_pos rfl]; exact ⟨ρ1, env, st1, ⟨s1, rel.e.ext e1⟩, q1⟩
    | false => rw [if_neg Bool.false_ne_true]; exact okv q1 s1 rv
theorem or_ok (a b : Ex) (σ : L2.St) (H : Hp) (Q : VK) (h : tE G X.K W (ev F (.or a b)) σ H Q) : tOrT X.K (tE G X.K W (ev F a)) (tE G X.K W (ev F b)) σ H Q := by
  obtain ⟨ρ, env, st, rel, q⟩ := h
  have q := Lf.bind (f := fun x st1 => match truth st1 x with | some true => .ok x st1 | some false => ev F b env st1 | none => .bad) q
  refine ⟨ρ, env, st, rel, q.imp fun d st1 ρ1 H1 e1 s1 q1 v rv => ?_⟩
  cases ht : truth st1 d with
  | none => rw [ht] at q1; exact q1.elim
  | some k =>
    rw [ht] at q1
    refine ⟨k, truV_of s1 rv ht, ?_⟩
    cases k with
    | true => rw [if_pos rfl]; exact okv q1 s1 rv
    | false => rw [if_neg Bool.false_ne_true]; exact ⟨ρ1, env, st1, ⟨s1, rel.e.ext e1⟩, q1⟩
theorem andT_ok (a b : Ex) (σ : L2.St) (H : Hp) (Q : Bool → Hp → Prop) (h : tT G X.K W (ev F (.and a b)) σ H Q) : tAnd (tT G X.K W (ev F a)) (tT G X.K W (ev F b)) σ H Q := by
  obtain ⟨ρ, env, st, rel, q⟩ := h
  have q := Lf.bind (f := fun x st1 => match truth st1 x with | some true => ev F b env st1 | some false => .ok x st1 | none => .bad) q
  refine ⟨ρ, env, st, rel, q.imp fun d st1 ρ1 H1 e1 s1 q1 => ?_⟩
  cases ht : truth st1 d with
  | none => rw [ht] at q1; exact q1.elim
  | some k =>
    rw [ht] at q1
    refine ⟨k, rfl, ?_⟩
    cases k with
    | true => rw [if_pos rfl]; exact ⟨ρ1, env, st1, ⟨s1, rel.e.ext e1⟩, q1⟩
    | false =>
      rw [if_neg Bool.false_ne_true]
      obtain ⟨k, hk, q1⟩ := q1.ok s1
      rw [ht] at hk; cases hk
      exact q1
theorem orT_ok (a b : Ex) (σ : L2.St) (H : Hp) (Q : Bool → Hp → Prop) (h : tT G X.K W (ev F (.or a b)) σ H Q) : tOr (tT G X.K W (ev F a)) (tT G X.K W (ev F b)) σ H Q := by
  obtain ⟨ρ, env, st, rel, q⟩ := h
  have q := Lf.bind (f := fun x st1 => match truth st1 x with | some true => .ok x st1 | some false => ev F b env st1 | none => .bad) q
  refine ⟨ρ, env, st, rel, q.imp fun d st1 ρ1 H1 e1 s1 q1 => ?_⟩
  cases ht : truth st1 d with
  | none => rw [ht] at q1; exact q1.elim
  | some k =>
    rw [ht] at q1
    refine ⟨k, rfl, ?_⟩
    cases k with
    | true =>
      rw [if_pos rfl]
      obtain ⟨k, hk, q1⟩ := q1.ok s1
      rw [ht] at hk; cases hk
      exact q1
    | false => rw [if_neg Bool.false_ne_true]; exact ⟨ρ1, env, st1, ⟨s1, rel.e.ext e1⟩, q1⟩
theorem ifx_ok (t a b : Ex) (σ : L2.St) (H : Hp) (Q : VK) (h : tE G X.K W (ev F (.ifx t a b)) σ H Q) : tIf (tT G X.K W (ev F t)) (tE G X.K W (ev F a)) (tE G X.K W (ev F b)) σ H Q := by
  obtain ⟨ρ, env, st, rel, q⟩ := h
  have q := Lf.bind (f := fun x st1 => match truth st1 x with | some true => ev F a env st1 | some false => ev F b env st1 | none => .bad) q
  refine ⟨ρ, env, st, rel, q.imp fun d st1 ρ1 H1 e1 s1 q1 => ?_⟩
  cases ht : truth st1 d with
  | none => rw [ht] at q1; exact q1.elim
  | some k =>
    rw [ht] at q1
    refine ⟨k, rfl, ?_⟩
    cases k with
    | true => rw [if_pos rfl]; exact ⟨ρ1, env, st1, ⟨s1, rel.e.ext e1⟩, q1⟩
    | false => rw [if_neg Bool.false_ne_true]; exact ⟨ρ1, env, st1, ⟨s1, rel.e.ext e1⟩, q1⟩
theorem ifxT_ok (t a b : Ex) (σ : L2.St) (H : Hp) (Q : Bool → Hp → Prop) (h : tT G X.K W (ev F (.ifx t a b)) σ H Q) : tT G X.K W (ev F t) σ H fun k H1 => if k = true then tT G X.K W (ev F a) σ H1 Q else tT G X.K W (ev F b) σ H1 Q := by
  obtain ⟨ρ, env, st, rel, q⟩ := h
  have q := Lf.bind (f := fun x st1 => match truth st1 x with | some true => ev F a env st1 | some false => ev F b env st1 | none => .bad) q
  refine ⟨ρ, env, st, rel, q.imp fun d st1 ρ1 H1 e1 s1 q1 => ?_⟩
  cases ht : truth st1 d with
  | none => rw [ht] at q1; exact q1.elim
  | some k =>
    rw [ht] at q1
    refine ⟨k, rfl, ?_⟩
    cases k with
    | true => rw [if_pos rfl]; exact ⟨ρ1, env, st1, ⟨s1, rel.e.ext e1⟩, q1⟩
    | false => rw [if_neg Bool.false_ne_true]; exact ⟨ρ1, env, st1, ⟨s1, rel.e.ext e1⟩, q1⟩
theorem pt_ifExp {t a b : Expr} {pos : Pos} {tt ta tb : TT} (hc : PT X t tt) (ha : PT X a ta) (hb : PT X b tb) : PT X (.IfExp t a b pos) fun σ H Q => tt σ H fun k H1 => if k = true then ta σ H1 Q else tb σ H1 Q := by
  refine ⟨fun pins s σ H Q I h => ?_⟩
  show wpAny _ _ (do if ← isTrue t X.env (eval t X.env) then isTrue a X.env (eval a X.env) else isTrue b X.env (eval b X.env)) _ _ _
  refine wpAny_bind (thn (hc.run pins s σ H _ I h) fun d s1 ⟨H1, I1, q1⟩ => ?_)
  cases d with
  | true => exact ha.run pins s1 σ H1 Q I1 q1
  | false => exact hb.run pins s1 σ H1 Q I1 q1
theorem pw_bool {op : BoolOp} {vs : List Expr} {pos : Pos} {t : TT} (h : PT X (.BoolOp op vs pos) t) : PW X (.BoolOp op vs pos) t := ⟨fun wh pins s σ H Q I q => h.run pins s σ H Q I q⟩

/-! ### slices -/
def slArgs (a : Ex) (lo hi : Option Ex) : List Ex := match lo, hi with
  | none, none => [a]
  | some l, none => [a, l]
  | none, some h => [a, h]
  | some l, some h => [a, .op .asInt [l], h]
theorem sl_ok (a : Ex) (lo hi : Option Ex) (σ : L2.St) (H : Hp) (Q : VK) (h : tE G X.K W (ev F (.op (.sl lo.isSome hi.isSome) (slArgs a lo hi))) σ H Q) :
    tSl (rSlZ X.K) (tE G X.K W (ev F a)) (match lo with | none => tNoPart | some l => tPart (tE G X.K W (ev F l))) (match hi with | none => tNoPart | some l => tPart (tE G X.K W (ev F l))) σ H Q := by
  obtain ⟨ρ, env, st, rel, q⟩ := h
  match lo, hi with
  | none, none =>
    have q : Lf G X.K (fun c d H' => W c d σ H') ρ H (((ev F a env st).bind fun d st1 => R.ok [d] st1).bind fun ds st1 => opSem (.sl false false) ds st1) (Val1 X.K Q) := q
    refine ⟨ρ, env, st, rel, q.bind.bind.imp fun d st1 ρ1 H1 e1 s1 q1 x rx => ?_⟩
    exact od_sl s1 rx (q1.ok s1)
  | some l, none =>
    have q : Lf G X.K (fun c d H' => W c d σ H') ρ H (((ev F a env st).bind fun d st1 => ((ev F l env st1).bind fun e st2 => R.ok [e] st2).bind fun ds st2 => R.ok (d :: ds) st2).bind fun ds st1 => opSem (.sl true false) ds st1) (Val1 X.K Q) := q
    refine ⟨ρ, env, st, rel, q.bind.bind.imp fun d st1 ρ1 H1 e1 s1 q1 x rx => ?_⟩
    refine ⟨ρ1, env, st1, ⟨s1, rel.e.ext e1⟩, q1.bind.bind.imp fun e st2 ρ2 H2 e2 s2 q2 y ry => ?_⟩
    have q2 := (q2.ok s2).ok s2
    cases ry with
    | int i => exact ⟨i, rfl, od_sl s2 (rx.ext e2) q2⟩
    | _ => exact q2.elim
  | none, some l =>
    have q : Lf G X.K (fun c d H' => W c d σ H') ρ H (((ev F a env st).bind fun d st1 => ((ev F l env st1).bind fun e st2 => R.ok [e] st2).bind fun ds st2 => R.ok (d :: ds) st2).bind fun ds st1 => opSem (.sl false true) ds st1) (Val1 X.K Q) := q
    refine ⟨ρ, env, st, rel, q.bind.bind.imp fun d st1 ρ1 H1 e1 s1 q1 x rx => ?_⟩
    refine ⟨ρ1, env, st1, ⟨s1, rel.e.ext e1⟩, q1.bind.bind.imp fun e st2 ρ2 H2 e2 s2 q2 y ry => ?_⟩
    have q2 := (q2.ok s2).ok s2
    cases ry with
    | int i => exact ⟨i, rfl, od_sl s2 (rx.ext e2) q2⟩
    | _ => exact q2.elim
  | some l, some m =>
    have q : Lf G X.K (fun c d H' => W c d σ H') ρ H (((ev F a env st).bind fun d st1 => ((((ev F l env st1).bind fun e st2 => R.ok [e] st2).bind fun ds st2 => opSem .asInt ds st2).bind fun e st2 => ((ev F m env st2).bind fun f st3 => R.ok [f] st3).bind fun ds st3 => R.ok (e :: ds) st3).bind fun ds st2 => R.ok (d :: ds) st2).bind fun ds st1 => opSem (.sl true true) ds st1) (Val1 X.K Q) := q
    refine ⟨ρ, env, st, rel, q.bind.bind.imp fun d st1 ρ1 H1 e1 s1 q1 x rx => ?_⟩
    refine ⟨ρ1, env, st1, ⟨s1, rel.e.ext e1⟩, q1.bind.bind.bind.bind.imp fun e st2 ρ2 H2 e2 s2 q2 y ry => ?_⟩
    have q2 := q2.ok s2
    cases ry with
    | int i =>
      refine ⟨i, rfl, ρ2, env, st2, ⟨s2, rel.e.ext (e1.trans e2)⟩, ((q2.ok s2).bind.bind).imp fun f st3 ρ3 H3 e3 s3 q4 z rz => ?_⟩
      have q4 := ((q4.ok s3).ok s3).ok s3
      cases rz with
      | int j => exact ⟨j, rfl, od_sl s3 (rx.ext (e2.trans e3)) q4⟩
      | _ => exact q4.elim
    | _ => exact q2.elim

/-! ### calls -/
theorem evs_app {es : List Ex} {ds : List D} {env : Env} : ∀ {st : Store}, evs F (es ++ ds.map Ex.c) env st = (evs F es env st).bind fun xs st1 => .ok (xs ++ ds) st1 := by
  induction es with
  | nil =>
    intro st
    show evs F (ds.map Ex.c) env st = .ok ds st
    induction ds with
    | nil => rfl
    | cons d ds ih =>
      show (evs F (ds.map Ex.c) env st).bind (fun xs st2 => R.ok (d :: xs) st2) = _
      rw [ih]; rfl
  | cons e es ih =>
    intro st
    show (ev F e env st).bind (fun d st1 => (evs F (es ++ ds.map Ex.c) env st1).bind fun xs st2 => R.ok (d :: xs) st2) = ((ev F e env st).bind fun d st1 => (evs F es env st1).bind fun xs st2 => R.ok (d :: xs) st2).bind fun xs st1 => .ok (xs ++ ds) st1
    cases ev F e env st with
    | ok d st1 =>
      show (evs F (es ++ ds.map Ex.c) env st1).bind _ = ((evs F es env st1).bind _).bind _
      rw [ih]
      cases evs F es env st1 <;> rfl
    | exc => rfl
    | bad => rfl
theorem call_ok {f : Nat} {es : List Ex} {ds : List D} {vs : List V} (hv : ∀ ρ H, Rvs X.K ρ H ds vs) (σ : L2.St) (H : Hp) (Q : VK) (h : tE G X.K W (ev (run P k) (.call f (es ++ ds.map Ex.c))) σ H Q) :
    tCallSD (spF G X.K P k f) vs (WE W) (tA G X.K W (evs (run P k) es)) σ H Q := by
  obtain ⟨ρ, env, st, rel, q⟩ := h
  have q : Lf G X.K (fun c d H' => W c d σ H') ρ H ((evs (run P k) (es ++ ds.map Ex.c) env st).bind fun xs st1 => run P k f xs st1) (Val1 X.K Q) := q
  rw [evs_app] at q
  refine ⟨ρ, env, st, rel, q.bind.bind.imp fun xs st1 ρ1 H1 e1 s1 q1 us rus => ?_⟩
  exact ⟨ρ1, st1, xs ++ ds, s1, rus.append (hv ρ1 H1), q1.ok s1⟩
theorem call_ok' {raw : Bool} {f : Nat} {es : List Ex} {ds : List D} {vs : List V} (hv : ∀ ρ H, Rvs X.K ρ H ds vs) (σ : L2.St) (H : Hp) (Q : VK) (h : tE G X.K W (ev (run P k) (mkCall raw f (es ++ ds.map Ex.c))) σ H Q) :
    tCallSD (spF G X.K P k f) vs (WE W) (tA G X.K W (evs (run P k) es)) σ H Q := by
  cases raw with
  | true => exact call_ok hv σ H Q h
  | false =>
    obtain ⟨ρ, env, st, rel, q⟩ := h
    have q : Lf G X.K (fun c d H' => W c d σ H') ρ H ((evs (run P k) (es ++ ds.map Ex.c) env st).bind fun xs st1 => closeR st1 (run P k f xs st1)) (Val1 X.K Q) := q
    rw [evs_app] at q
    have e2 : ((evs (run P k) es env st).bind fun xs st1 => R.ok (xs ++ ds) st1).bind (fun xs st1 => closeR st1 (run P k f xs st1)) = (evs (run P k) es env st).bind fun xs st1 => closeR st1 (run P k f (xs ++ ds) st1) := by
      cases evs (run P k) es env st <;> rfl
    rw [e2] at q
    refine ⟨ρ, env, st, rel, q.bind.imp fun xs st1 ρ1 H1 e1 s1 q1 us rus => ?_⟩
    exact ⟨ρ1, st1, xs ++ ds, s1, rus.append (hv _ _), close_ok s1 q1 fun d d' st2 ρ2 H2 e s h1 h2 h3 v rv => h3 v (h2 v rv)⟩
end

section
variable {G : GC} {P : List Fd} {k : Nat}
theorem cmp_bl {op : CmpOp} {o : Op} (ho : opCmp op = some o) : ∀ d e st z st', opSem o [d, e] st = .ok z st' → ∃ k, z = .bl k := by
  intro d e st z st' h
  cases op <;> first | (cases ho; done) | skip
  all_goals cases ho
  · have h : (match eqSem d e st with | some k => R.ok (D.bl k) st | none => .bad) = .ok z st' := h
    split at h <;> cases h
    exact ⟨_, rfl⟩
  · have h : (match eqSem d e st with | some k => R.ok (D.bl (!k)) st | none => .bad) = .ok z st' := h
    split at h <;> cases h
    exact ⟨_, rfl⟩
  · (cases d <;> cases e <;> cases h <;> exact ⟨_, rfl⟩)
  · (cases d <;> cases e <;> cases h <;> exact ⟨_, rfl⟩)
  · (cases d <;> cases e <;> cases h <;> exact ⟨_, rfl⟩)
  · (cases d <;> cases e <;> cases h <;> exact ⟨_, rfl⟩)
  · (cases d <;> cases e <;> cases h <;> exact ⟨_, rfl⟩)
  · (cases d <;> cases e <;> cases h <;> exact ⟨_, rfl⟩)
  · have h : (match inSem d e st with | some k => R.ok (D.bl k) st | none => .bad) = .ok z st' := h
    split at h <;> cases h
    exact ⟨_, rfl⟩
  · have h : (match inSem d e st with | some k => R.ok (D.bl (!k)) st | none => .bad) = .ok z st' := h
    split at h <;> cases h
    exact ⟨_, rfl⟩
theorem tyOf_boot {y : Str} {t : Ty} (h : tyOf y = some t) : bootBuiltins y = some (.type (tyName t)) := by
  unfold tyOf at h
  split at h
  · rename_i e
    cases h
    rw [show y = "int" by simpa using e]; decide +kernel
  · split at h
    · rename_i e
      cases h
      rw [show y = "bool" by simpa using e]; decide +kernel
    · split at h
      · rename_i e
        cases h
        rw [show y = "str" by simpa using e]; decide +kernel
      · split at h
        · rename_i e
          cases h
          rw [show y = "list" by simpa using e]; decide +kernel
        · split at h
          · rename_i e
            cases h
            rw [show y = "tuple" by simpa using e]; decide +kernel
          · cases h
theorem fold_plain {e : Expr} {env : PySem.Env} (h : plain e = true) : ∀ x, foldedSetIterable e env x = pure x := by
  intro x
  cases e <;> first | rfl | (cases h)
theorem str_eta (x : Str) : (⟨x.cps.toList.toArray⟩ : Str) = x := by cases x; simp
def SProp (G : GC) (P : List Fd) (k n : Nat) : Prop :=
    (∀ (X : Cx) (c : Cc) (e : Expr) (m : Ex) (W : WX), XG G P k X c → L2N.Takes X W → trE n c e = some m → PE X e (tE G X.K W (ev (run P k) m)) ∧ PT X e (tT G X.K W (ev (run P k) m))) ∧
    (∀ (X : Cx) (c : Cc) (es : List Expr) (ms : List Ex) (W : WX), XG G P k X c → L2N.Takes X W → es.all plain = true → trEs n c es = some ms → PA X es (tA G X.K W (evs (run P k) ms)) ∧ ms.length = es.length ∧ ∀ e m, es = [e] → ms = [m] → PT X e (tT G X.K W (ev (run P k) m))) ∧
    (∀ (X : Cx) (c : Cc) (tg e : Expr) (kk : Ik) (ms : List Ex) (W : WX), XG G P k X c → L2N.Takes X W → trIt n c e = some (kk, ms) → PI X tg e (tI G X.K W kk (evs (run P k) ms))) ∧
    (∀ (X : Cx) (c : Cc) (e : Expr) (m : Ex) (W : WX), XG G P k X c → L2N.Takes X W → trE1 n c e = some m → PE X e (tE G X.K W (ev (run P k) m)) ∧ PT X e (tT G X.K W (ev (run P k) m)))
theorem lc_parts1 {n : Nat} (ih : SProp G P k n) {X : Cx} {c : Cc} {elt : Expr} {gs : List Comprehension} {scope : Scope} {pos : Pos} {m : Ex} {W : WX} (g : XG G P k X c) (tk : L2N.Takes X W) (h : trE1 (n + 1) c (.ListComp elt gs scope pos) = some m) :
    ∃ (t iter : Expr) (ifs : List Expr) (own : List (Str × Nat)) (wi : TI) (tg : TG) (tt : TT) (te : TE), gs = [⟨t, iter, ifs, 0⟩] ∧ PI X t iter wi ∧ BlkOk X.N X.env.scope scope own ∧
      (∀ (s : Shared) (H : Hp) (C : Addr) (cl : List (Str × Addr)) (fp : List Addr), PG (X.blk s H scope (compEnvC scope cl C X.env) fp) t tg) ∧
      (∀ (s : Shared) (H : Hp) (C : Addr) (cl : List (Str × Addr)) (fp : List Addr), PTs (X.blk s H scope (compEnvC scope cl C X.env) fp) ifs tt) ∧
      (∀ (s : Shared) (H : Hp) (C : Addr) (cl : List (Str × Addr)) (fp : List Addr), PE (X.blk s H scope (compEnvC scope cl C X.env) fp) elt te) ∧
      (∀ x, foldedSetIterable iter X.env x = pure x) ∧ c.hot = false ∧ ∀ σ H Q, tE G X.K W (ev (run P k) m) σ H Q → tLc wi tg tt te (own.map (·.2)) σ H Q := by
  obtain ⟨ih1, ih2, ih3, ih4⟩ := ih
  have h : (match (generalizing := false) gs with
      | [⟨t, iter, ifs, 0⟩] => if !c.hot && (blkC c.N c.sc scope (ownOf c.N scope.names) && plain iter) then
          (match trTg (c.blk scope) n t, trIt n c iter, trEs n (c.blk scope) ifs, trE n (c.blk scope) elt with
          | some mt, some (k, src), some mi, some me => if (slotsT mt).all (((ownOf c.N scope.names).map (·.2)).contains ·) && decide (mi.length ≤ 1) then some (.comp ((ownOf c.N scope.names).map (·.2)) mt k src mi me) else none
          | _, _, _, _ => none) else none
      | _ => none) = some m := h
  split at h
  · rename_i t iter ifs _
    split at h
    · rename_i hc
      rw [Bool.and_eq_true, Bool.and_eq_true, Bool.not_eq_true'] at hc
      obtain ⟨hh, hc⟩ := hc
      split at h
      · rename_i mt kk src mi me ht hi hif he
        split at h
        · rename_i hs
          cases h
          rw [Bool.and_eq_true, List.all_eq_true, decide_eq_true_eq] at hs
          obtain ⟨q1, q2, q3⟩ : (∀ (s : Shared) (H : Hp) (C : Addr) (cl : List (Str × Addr)) (fp : List Addr), PTs (X.blk s H scope (compEnvC scope cl C X.env) fp) ifs (tTs G X.K (run P k) mi)) ∧ True ∧ True := by
            refine ⟨fun s H C cl fp => ?_, trivial, trivial⟩
            match ifs, mi, hs.2, hif with
            | [], mi, hz, hif =>
              cases n with
              | zero => cases hif
              | succ n => cases hif; exact pts_nil
            | [e], mi, hz, hif =>
              have hpe : [e].all plain = true := by
                cases n with
                | zero => cases hif
                | succ n =>
                  have hif : (match trE n (c.blk scope) e, trEs n (c.blk scope) [] with | some a, some b => some (a :: b) | _, _ => none) = some mi := hif
                  split at hif
                  · rename_i a b ha hb
                    rw [List.all_cons, plain_of ha]; rfl
                  · cases hif
              obtain ⟨_, p2, p3⟩ := ih2 _ (c.blk scope) [e] mi W0 (g.blk hh (s := s) (H := H) (scope := scope) (cl := cl) (C := C) (fp := fp)) takesN0 hpe hif
              match mi, p2 with
              | [m], _ => exact pts_one (p3 e m rfl rfl)
            | e1 :: e2 :: r, mi, hz, hif =>
              exfalso
              cases n with
              | zero => cases hif
              | succ n =>
                have hif : (match trE n (c.blk scope) e1, trEs n (c.blk scope) (e2 :: r) with | some a, some b => some (a :: b) | _, _ => none) = some mi := hif
                split at hif
                · rename_i a b ha hb
                  cases hif
                  cases n with
                  | zero => cases hb
                  | succ n =>
                    have hb : (match trE n (c.blk scope) e2, trEs n (c.blk scope) r with | some a, some b => some (a :: b) | _, _ => none) = some b := hb
                    split at hb
                    · cases hb
                      simp at hz
                    · cases hb
                · cases hif
          exact ⟨t, iter, ifs, ownOf c.N scope.names, _, _, _, _, rfl, ih3 X c t iter kk src W g tk hi, by rw [g.N, g.sc]; exact blkOk_by hc.1,
          fun s H C cl fp => (trTg_ok n).1 _ (c.blk scope) t mt (g.blk hh (s := s) (H := H) (scope := scope) (cl := cl) (C := C) (fp := fp)) ht, q1,
          fun s H C cl fp => (ih1 _ (c.blk scope) elt me W0 (g.blk hh (s := s) (H := H) (scope := scope) (cl := cl) (C := C) (fp := fp)) takesN0 he).1, fold_plain hc.2, hh, fun σ H Q => lc_ok (fun j hj => by simpa using hs.1 j hj) hs.2 σ H Q⟩
        · cases h
      · cases h
    · cases h
  · cases h
theorem attrOf_get {x : Str} {a : Nat} (h : attrOf x = some a) : attrNm[a]? = some x := by
  unfold attrOf at h
  split at h
  · split at h
    · cases h; assumption
    · cases h
  · cases h
theorem tab_mem {c : Cc} {a j : Nat} (h : (c.tab a).contains j = true) : (j, a) ∈ c.fa := by
  unfold Cc.tab at h
  rw [List.contains_iff_mem, List.mem_map] at h
  obtain ⟨⟨j', a'⟩, h1, h2⟩ := h
  rw [List.mem_filter] at h1
  obtain ⟨h1, h3⟩ := h1
  have h3 : a' = a := by simpa using h3
  have h2 : j' = j := h2
  rw [← h3, ← h2]; exact h1
theorem ict_mem {cc : Cc} {c j : Nat} (h : (cc.ict c).contains j = true) : (j, c) ∈ cc.ic := by
  unfold Cc.ict at h
  rw [List.contains_iff_mem, List.mem_map] at h
  obtain ⟨⟨j', a'⟩, h1, h2⟩ := h
  rw [List.mem_filter] at h1
  obtain ⟨h1, h3⟩ := h1
  have h3 : a' = c := by simpa using h3
  have h2 : j' = j := h2
  rw [← h3, ← h2]; exact h1
theorem own_call {o : Expr} {m : Str} {ap pos : Pos} {es : List Expr} {env : PySem.Env} (h : noSuper o = true) (hline : (ap.endLine == pos.line) = true) (hpl : es.all plain = true) (hl : es.length < 30) : eval (.Call (.Attribute o m ap) es [] pos) env = (do
      let ov ← eval o env; standAt ap.atName
      let (g, first) ← holding [ov] (getMethod ov m (do return (← importBound o env).getD true))
      callWith pos g first (backTo pos (starEach es env)) (backToKw pos (keywordEach [] env))) := by
  have hform : methodCallForm (es.length + ([] : List Keyword).length) (backTo pos (starEach es env)) (backToKw pos (keywordEach [] env)) = true := by
    cases es with
    | nil => rfl
    | cons e es => exact few_plain hpl hl
  have hpos : methodCallPos true o env ap pos = pure pos := by unfold methodCallPos; simp [hline]
  rw [arm_eval_Call, base_plain h]
  unfold methodCall
  rw [hform]
  unfold calleeOf
  simp only [if_true, hpos, pure_bind]
theorem sound : ∀ n : Nat, SProp G P k n
  | 0 => ⟨fun X c e m W g tk h => (by cases h), fun X c es ms W g tk hp h => (by cases h), fun X c tg e kk ms W g tk h => (by cases h), fun X c e m W g tk h => (by cases h)⟩
  | n + 1 => by
    have ihn := sound n
    obtain ⟨ih1, ih2, ih3, ih4⟩ := id ihn
    refine (fun (z : _ ∧ _ ∧ _ ∧ _) => ⟨z.2.1, z.2.2.1, z.2.2.2, z.1⟩) ⟨fun X c e m W g tk h => ?_, fun X c e m W g tk h => ?_, fun X c es ms W g tk hp h => ?_, fun X c tg e kk ms W g tk h => ?_⟩
    · have hu : X.A.units + 64 < cLine := by have := g.roomH.un; omega
      unfold trE1 at h
      split at h
      · -- a name
        rename_i x pos
        split at h
        · rename_i hok
          split at h
          · rename_i hv
            cases hs : slotOf c.N x with
            | none => rw [hs] at h; cases h
            | some i =>
              rw [hs] at h; cases h
              have p : PE X (.Name x pos) (tE G X.K W (ev (run P k) (.v i))) := PE.imp (pe_var (i := i) (by rw [g.N]; exact slotOf_get hs) (vis_of g hv) (okName_dbg hok) (okName_cd hok)) fun σ H Q => var_ok σ H Q
              exact ⟨p, tT_of p fun _ => rfl⟩
          · split at h
            · rename_i hgl
              cases hs : c.co.lookup x with
              | none => rw [hs] at h; cases h
              | some d =>
                rw [hs] at h; cases h
                obtain ⟨u, hm, v, r, hv⟩ := g.co x d hs
                have p : PE X (.Name x pos) (tE G X.K W (ev (run P k) (.c d))) := PE.imp (pe_glob (gl_of g hgl) hm r (okName_dbg hok)) fun σ H Q => cst_ok hv σ H Q
                exact ⟨p, tT_of p fun _ => rfl⟩
            · cases h
        · cases h
      · -- a constant
        rename_i kc j pos
        cases kc with
        | none =>
          cases h
          have p : PE X (.Constant .none j pos) (tE G X.K W (ev (run P k) (.c .non))) := PE.imp pe_non fun σ H Q => cst_ok (fun _ _ => .non) σ H Q
          exact ⟨p, tT_of p fun _ => rfl⟩
        | bool b =>
          cases h
          have p : PE X (.Constant (.bool b) j pos) (tE G X.K W (ev (run P k) (.c (.bl b)))) := PE.imp pe_bl fun σ H Q => cst_ok (fun _ _ => .bl b) σ H Q
          exact ⟨p, tT_of p fun _ => rfl⟩
        | int i =>
          cases h
          have p : PE X (.Constant (.int i) j pos) (tE G X.K W (ev (run P k) (.c (.int i)))) := PE.imp pe_int fun σ H Q => cst_ok (fun _ _ => .int i) σ H Q
          exact ⟨p, tT_of p fun _ => rfl⟩
        | str s =>
          cases h
          have p : PE X (.Constant (.str s) j pos) (tE G X.K W (ev (run P k) (.c (.str s.cps.toList)))) := PE.imp pe_str fun σ H Q => cst_ok (fun ρ H => by
            have r : Rv X.K ρ H (.str s.cps.toList) (.str ⟨s.cps.toList.toArray⟩) := .str _
            rw [str_eta] at r
            exact r) σ H Q
          exact ⟨p, tT_of p fun _ => rfl⟩
        | _ => cases h
      · -- a op b
        rename_i a op b pos
        split at h
        · rename_i o ma mb ho ha hb
          cases h
          have pa := (ih1 X c a ma W g tk ha).1
          have pb := (ih1 X c b mb W g tk hb).1
          have p : PE X (.BinOp a op b pos) (tE G X.K W (ev (run P k) (.op o [ma, mb]))) := by
            cases op <;> first | (cases ho; done) | skip
            all_goals cases ho
            · exact PE.imp (pe_op op_addZ pa pb) fun σ H Q => bin_ok (f := binaryOp .Add) od_add ma mb σ H Q
            · exact PE.imp (pe_op op_subZ pa pb) fun σ H Q => bin_ok (f := binaryOp .Sub) od_sub ma mb σ H Q
            · exact PE.imp (pe_op op_mulZ pa pb) fun σ H Q => bin_ok (f := binaryOp .Mult) od_mul ma mb σ H Q
            · exact PE.imp (pe_op op_mod pa pb) fun σ H Q => bin_ok (f := binaryOp .Mod) od_mod ma mb σ H Q
            · exact PE.imp (pe_op op_pow pa pb) fun σ H Q => bin_ok (f := binaryOp .Pow) od_pow ma mb σ H Q
            · exact PE.imp (pe_op op_fdivB pa pb) fun σ H Q => bin_ok (f := binaryOp .FloorDiv) od_fdiv ma mb σ H Q
          exact ⟨p, tT_of p fun _ => rfl⟩
        · cases h
      · -- op a
        rename_i op a pos
        split at h
        · rename_i ma ha
          cases h
          have pa := (ih1 X c a ma W g tk ha).1
          have p : PE X (.UnaryOp .USub a pos) (tE G X.K W (ev (run P k) (.op .neg [ma]))) := PE.imp (pe_un un_neg pa) fun σ H Q => un_ok (o := .neg) (fun W ρ st H d x Q s r h => by
            cases r with
            | int i => exact ⟨i, rfl, okv h s (.int _)⟩
            | _ => exact h.elim) ma σ H Q
          exact ⟨p, tT_of p fun _ => rfl⟩
        · rename_i ma ha
          cases h
          obtain ⟨pa, qa⟩ := ih1 X c a ma W g tk ha
          exact ⟨PE.imp (pe_notT pa) fun σ H Q => not_ok ma σ H Q, PT.imp (pt_not qa) fun σ H Q => notT_ok ma σ H Q⟩
        · cases h
      · -- and, or
        rename_i op vs pos
        split at h
        · cases h
        · rename_i a
          obtain ⟨pa, qa⟩ := ih1 X c a m W g tk h
          refine ⟨pe_one pa, ?_⟩
          cases op with
          | And => exact (pw_and1 qa).pt
          | Or => exact (pw_or1 qa).pt
        · rename_i a b r
          split at h
          · rename_i ma mb ha hb
            cases h
            obtain ⟨pa, qa⟩ := ih1 X c a ma W g tk ha
            obtain ⟨pb, qb⟩ := ih1 X c _ mb W g tk hb
            exact ⟨PE.imp (pe_andT pa pb) fun σ H Q => and_ok ma mb σ H Q, PT.imp (pw_and qa (pw_bool qb)).pt fun σ H Q => andT_ok ma mb σ H Q⟩
          · rename_i ma mb ha hb
            cases h
            obtain ⟨pa, qa⟩ := ih1 X c a ma W g tk ha
            obtain ⟨pb, qb⟩ := ih1 X c _ mb W g tk hb
            exact ⟨PE.imp (pe_orT pa pb) fun σ H Q => or_ok ma mb σ H Q, PT.imp (pw_or qa (pw_bool qb)).pt fun σ H Q => orT_ok ma mb σ H Q⟩
          · cases h
      · -- a comparison
        rename_i a ops bs pos
        split at h
        · rename_i op b
          split at h
          · rename_i q hq
            split at h
            · rename_i ma mb ha hb
              split at h
              · rename_i hh
                cases h
                have hh : c.hot = false := by simpa using hh
                obtain ⟨f, fd, ps, hM, hps, hbn, hF, hne, hmr, hnf⟩ := g.eqz pos q hq
                rw [GC.at_none (g.nocur hh)] at hF
                have pa := (ih1 X c a ma W g tk ha).1
                have pb := (ih1 X c b mb W g tk hb).1
                have hm := nomark_plain (op := .Eq) (plain_of hb)
                have ho := op_ownEq hM hF ((g.room hh).mono (by omega)) hbn
                exact ⟨PE.imp (pe_cmpR ho pa pb hm) fun σ H Q => eqo_ok hnf ma mb σ H Q, PT.imp (pt_cmpR ho pa pb hm) fun σ H Q => eqoT_ok hnf ma mb σ H Q⟩
              · cases h
            · rename_i ma mb ha hb
              split at h
              · rename_i hh
                cases h
                have hh : c.hot = false := by simpa using hh
                obtain ⟨f, fd, ps, hM, hps, hbn, hF, hne, hmr, hnf⟩ := g.eqz pos q hq
                rw [GC.at_none (g.nocur hh)] at hF
                have pa := (ih1 X c a ma W g tk ha).1
                have pb := (ih1 X c b mb W g tk hb).1
                have hm := nomark_plain (op := .NotEq) (plain_of hb)
                have ho := op_ownNe hM hne hmr hF ((g.room hh).mono (by omega)) hbn
                exact ⟨PE.imp (pe_cmpR ho pa pb hm) fun σ H Q => eqo_ok hnf ma mb σ H Q, PT.imp (pt_cmpR ho pa pb hm) fun σ H Q => eqoT_ok hnf ma mb σ H Q⟩
              · cases h
            · cases h
          split at h
          · rename_i o ma mb ho ha hb
            cases h
            have pa := (ih1 X c a ma W g tk ha).1
            have pb := (ih1 X c b mb W g tk hb).1
            have hm := nomark_plain (op := op) (plain_of hb)
            have hbl : ∀ d e st z st', opSem o [d, e] st = .ok z st' → ∃ k, z = .bl k := cmp_bl ho
            cases op <;> first | (cases ho; done) | skip
            all_goals cases ho
            · exact ⟨PE.imp (pe_cmpR (op_eqZ hu) pa pb hm) fun σ H Q => bin_ok (f := compareOp .Eq) od_eq ma mb σ H Q, PT.imp (pt_cmpR (op_eqZ hu) pa pb hm) fun σ H Q => tT_bin od_eq ma mb σ H Q hbl⟩
            · exact ⟨PE.imp (pe_cmpR (op_neZ hu) pa pb hm) fun σ H Q => bin_ok (f := compareOp .NotEq) od_ne ma mb σ H Q, PT.imp (pt_cmpR (op_neZ hu) pa pb hm) fun σ H Q => tT_bin od_ne ma mb σ H Q hbl⟩
            · exact ⟨PE.imp (pe_cmpR (op_cmpZ rfl (.inl rfl)) pa pb hm) fun σ H Q => bin_ok (f := compareOp .Lt) (od_cmp (.inl rfl)) ma mb σ H Q, PT.imp (pt_cmpR (op_cmpZ rfl (.inl rfl)) pa pb hm) fun σ H Q => tT_bin (od_cmp (.inl rfl)) ma mb σ H Q hbl⟩
            · exact ⟨PE.imp (pe_cmpR (op_cmpZ rfl (.inr (.inl rfl))) pa pb hm) fun σ H Q => bin_ok (f := compareOp .LtE) (od_cmp (.inr (.inl rfl))) ma mb σ H Q, PT.imp (pt_cmpR (op_cmpZ rfl (.inr (.inl rfl))) pa pb hm) fun σ H Q => tT_bin (od_cmp (.inr (.inl rfl))) ma mb σ H Q hbl⟩
            · exact ⟨PE.imp (pe_cmpR (op_cmpZ rfl (.inr (.inr (.inl rfl)))) pa pb hm) fun σ H Q => bin_ok (f := compareOp .Gt) (od_cmp (.inr (.inr (.inl rfl)))) ma mb σ H Q, PT.imp (pt_cmpR (op_cmpZ rfl (.inr (.inr (.inl rfl)))) pa pb hm) fun σ H Q => tT_bin (od_cmp (.inr (.inr (.inl rfl)))) ma mb σ H Q hbl⟩
            · exact ⟨PE.imp (pe_cmpR (op_cmpZ rfl (.inr (.inr (.inr rfl)))) pa pb hm) fun σ H Q => bin_ok (f := compareOp .GtE) (od_cmp (.inr (.inr (.inr rfl)))) ma mb σ H Q, PT.imp (pt_cmpR (op_cmpZ rfl (.inr (.inr (.inr rfl)))) pa pb hm) fun σ H Q => tT_bin (od_cmp (.inr (.inr (.inr rfl)))) ma mb σ H Q hbl⟩
            · exact ⟨PE.imp (pe_cmpR op_isZ pa pb hm) fun σ H Q => bin_ok (f := compareOp .Is) od_is ma mb σ H Q, PT.imp (pt_cmpR op_isZ pa pb hm) fun σ H Q => tT_bin od_is ma mb σ H Q hbl⟩
            · exact ⟨PE.imp (pe_cmpR op_isnotZ pa pb hm) fun σ H Q => bin_ok (f := compareOp .IsNot) od_isnot ma mb σ H Q, PT.imp (pt_cmpR op_isnotZ pa pb hm) fun σ H Q => tT_bin od_isnot ma mb σ H Q hbl⟩
            · exact ⟨PE.imp (pe_cmpR (op_inZ hu) pa pb hm) fun σ H Q => bin_ok (f := compareOp .In) od_in ma mb σ H Q, PT.imp (pt_cmpR (op_inZ hu) pa pb hm) fun σ H Q => tT_bin od_in ma mb σ H Q hbl⟩
            · exact ⟨PE.imp (pe_cmpR (op_notinZ hu) pa pb hm) fun σ H Q => bin_ok (f := compareOp .NotIn) od_notin ma mb σ H Q, PT.imp (pt_cmpR (op_notinZ hu) pa pb hm) fun σ H Q => tT_bin od_notin ma mb σ H Q hbl⟩
          · cases h
        · rename_i op op' b d
          split at h
          · rename_i hord
            rw [Bool.and_eq_true] at hord
            split at h
            · rename_i o p ma mb md ho hp ha hb hd
              cases h
              exact chain_sound ho hp hord.1 hord.2 (plain_of hd) (ih1 X c a ma W g tk ha).1 (ih1 X c b mb W g tk hb).1 (ih1 X c d md W g tk hd).1
            · cases h
          · cases h
        · cases h
      · -- a if t else b
        rename_i t a b pos
        split at h
        · rename_i mt ma mb ht ha hb
          cases h
          obtain ⟨pt, qt⟩ := ih1 X c t mt W g tk ht
          obtain ⟨pa, qa⟩ := ih1 X c a ma W g tk ha
          obtain ⟨pb, qb⟩ := ih1 X c b mb W g tk hb
          exact ⟨PE.imp (pe_ifExp qt pa pb) fun σ H Q => ifx_ok mt ma mb σ H Q, PT.imp (pt_ifExp qt qa qb) fun σ H Q => ifxT_ok mt ma mb σ H Q⟩
        · cases h
      · -- a call
        rename_i f args kws pos
        split at h
        · rename_i x px
          split at h
          · rename_i hc
            simp only [Bool.and_eq_true] at hc
            obtain ⟨⟨hok, hgl⟩, hpl⟩ := hc
            have hgl := gl_of g hgl
            split at h
            · rename_i fi hfi
              split at h
              · rename_i e es ms hms
                split at h
                · rename_i hargs
                  cases h
                  obtain ⟨ad, fd, ps, hm, hk, hlen, hdef, hF, hFH⟩ := g.fns x fi hfi
                  obtain ⟨vs, ds, hv, hvd, hb⟩ := hdef ((e :: es).length + fi.dvs.length - fi.np)
                  rw [List.all_cons, Bool.and_eq_true] at hpl
                  have pa := (ih2 X c (e :: es) ms W g tk (by rw [List.all_cons, hpl.1, hpl.2]; rfl) hms).1
                  have p : PE X (.Call (.Name x px) (e :: es) [] pos) (tE G X.K W (ev (run P k) (mkCall fi.raw fi.id (ms ++ (fi.dvs.drop ((e :: es).length + fi.dvs.length - fi.np)).map .c)))) := by
                    cases hhot : c.hot with
                    | false =>
                      rw [GC.at_none (g.nocur hhot)] at hF
                      exact PE.imp (pe_callSD (dvs := vs) hF ((g.room hhot).mono (by omega)) hgl hm hk hb hvd (fun σ => L2N.passAt tk σ) pa (okName_dbg hok) (star_plain hpl.1) (any_plain hpl.2)) fun σ H Q => call_ok' hv σ H Q
                    | true =>
                      have h3 : (!c.hot || (fi.hot && fi.dvs.isEmpty)) = true := hargs.2
                      rw [hhot] at h3
                      have h3 : (fi.hot && fi.dvs.isEmpty) = true := h3
                      rw [Bool.and_eq_true, List.isEmpty_iff] at h3
                      have e0 : ms ++ (fi.dvs.drop ((e :: es).length + fi.dvs.length - fi.np)).map Ex.c = ms := by rw [h3.2, List.drop_nil]; exact List.append_nil _
                      rw [e0]
                      have hd0 : ds = [] := by
                        have hv := hv [] (fun _ => none)
                        rw [h3.2, List.drop_nil] at hv
                        cases hv
                        exact Vals.zero hvd
                      subst hd0
                      obtain ⟨pp, cu, hot1, hpn, hG, hcp⟩ := g.hotc hhot
                      have hF2 := hFH h3.1 pp cu hcp
                      have eG : G.at (some cu) = G := by
                        obtain ⟨gc, gu⟩ := G
                        have hG : gu = some cu := hG
                        subst hG; rfl
                      rw [eG] at hF2
                      exact PE.imp (pe_callHp hF2 (g.roomH.mono (by omega)) hot1 hpn hgl hm hk hb (fun σ => L2N.passAt tk σ) pa (okName_dbg hok) (star_plain hpl.1) (any_plain hpl.2)) fun σ H Q => callH_ok' σ H Q
                  exact ⟨p, tT_of p fun _ => rfl⟩
                · cases h
              · cases h
            · split at h
              · rename_i hfn hbl
                have hm := g.blt x hbl
                split at h
                · rename_i hx
                  have hx : x = "isinstance" := by simpa using hx
                  subst hx
                  split at h
                  · rename_i a y py
                    simp only [List.all_cons, Bool.and_eq_true] at hpl
                    split at h
                    · rename_i hy
                      simp only [Bool.and_eq_true] at hy
                      obtain ⟨hy1, hy2⟩ := hy
                      split at h
                      · rename_i q hq
                        split at h
                        · rename_i hnh
                          have hnh : c.hot = false := by simpa using hnh
                          cases ha : trE n c a with
                          | none => rw [ha] at h; cases h
                          | some ma =>
                            rw [ha] at h; cases h
                            have pa := (ih1 X c a ma W g tk ha).1
                            have p : PE X (.Call (.Name "isinstance" px) [a, .Name y py] [] pos) (tE G X.K W (ev (run P k) (.op (.x (.isc q.1 (c.ict q.1))) [ma]))) :=
                              PE.imp (pe_callB call_isi hgl hm (by decide +kernel) (pa_cons pa (pa_cons (pe_glob (v := .ref (clsA X.K q.1)) (gl_of g hy2) (g.clz y q hq).1 rfl (okName_dbg hy1)) pa_nil) (star_plain hpl.1)) (okName_nm hok) (okName_dbg hok) (star_plain hpl.1)) fun σ H Q => isc_ok (fun j hj => g.icz j q.1 (ict_mem hj)) ma σ H Q
                            exact ⟨p, tT_of p fun _ => rfl⟩
                        · cases h
                      split at h
                      · rename_i hy3
                        split at h
                        · rename_i t ma ht ha
                          cases h
                          have pa := (ih1 X c a ma W g tk ha).1
                          have hty : bootBuiltins y = some (.type (tyName t)) := tyOf_boot ht
                          have p : PE X (.Call (.Name "isinstance" px) [a, .Name y py] [] pos) (tE G X.K W (ev (run P k) (.op (.isin t) [ma]))) :=
                            PE.imp (pe_callB call_isi hgl hm (by decide +kernel) (pa_cons pa (pa_cons (pe_bltn (v := .ty (tyName t)) (gl_of g hy2) (g.blt y hy3) hty rfl (okName_nm hy1) (okName_dbg hy1)) pa_nil) (star_plain hpl.1)) (okName_nm hok) (okName_dbg hok) (star_plain hpl.1)) fun σ H Q => isin_ok t ma σ H Q
                          exact ⟨p, tT_of p fun _ => rfl⟩
                        · rename_i ma ht ha
                          split at h
                          · rename_i hcur
                            cases hb : c.exb.lookup y with
                            | none => rw [hb] at h; cases h
                            | some tab =>
                              rw [hb] at h; cases h
                              cases hhot : c.hot with
                              | false =>
                                have hv : isV ma = true := by rw [hhot] at hcur; exact hcur
                                have p : PE X (.Call (.Name "isinstance" px) [a, .Name y py] [] pos) (tE G X.K W (ev (run P k) (.op (.x (.isx tab)) [ma]))) := ⟨fun pins s σ H Q I q => (isx_dead hv (g.nocur hhot) σ H Q q).elim⟩
                                exact ⟨p, tT_of p fun _ => rfl⟩
                              | true =>
                              have hcur := hhot
                              have pa := (ih1 X c a ma W g tk ha).1
                              obtain ⟨_, T, hT, hk⟩ := g.exb y tab hb
                              obtain ⟨pp, cu, hot1, hpn, hG, had, ⟨C, hC, hz⟩, hf⟩ := g.hotc hcur
                              have p : PE X (.Call (.Name "isinstance" px) [a, .Name y py] [] pos) (tE G X.K W (ev (run P k) (.op (.x (.isx tab)) [ma]))) := by
                                have py' : PE X (.Name y py) (tC (.ty T)) := pe_bltn (v := .ty T) (gl_of g hy2) (g.blt y hy3) hT rfl (okName_nm hy1) (okName_dbg hy1)
                                have cl := (g.cls cu.c C hC).1
                                have hk2 := hk cu.c C hC
                                exact PE.imp (pe_callB (call_isX cl.is_ hpn hz hf) hgl hm (by decide +kernel) (pa_cons pa (pa_cons py' pa_nil) (star_plain hpl.1)) (okName_nm hok) (okName_dbg hok) (star_plain hpl.1)) fun σ H Q => by rw [← had]; exact isx_ok (cy := .ty T) (cv := .type T) hG (fun u r => r) hk2 ma σ H Q
                              exact ⟨p, tT_of p fun _ => rfl⟩
                          · cases h
                        · cases h
                      · split at h
                        · rename_i q ma hq ha
                          split at h
                          · rename_i hcur
                            cases h
                            cases hhot : c.hot with
                            | false =>
                              have hv : isV ma = true := by rw [hhot] at hcur; exact hcur
                              have p : PE X (.Call (.Name "isinstance" px) [a, .Name y py] [] pos) (tE G X.K W (ev (run P k) (.op (.x (.isx q.2)) [ma]))) := ⟨fun pins s σ H Q I q => (isx_dead hv (g.nocur hhot) σ H Q q).elim⟩
                              exact ⟨p, tT_of p fun _ => rfl⟩
                            | true =>
                            have hcur := hhot
                            have pa := (ih1 X c a ma W g tk ha).1
                            obtain ⟨D, hD, hmD, hk⟩ := g.ex y q hq
                            obtain ⟨pp, cu, hot1, hpn, hG, had, ⟨C, hC, hz⟩, hf⟩ := g.hotc hcur
                            have p : PE X (.Call (.Name "isinstance" px) [a, .Name y py] [] pos) (tE G X.K W (ev (run P k) (.op (.x (.isx q.2)) [ma]))) := by
                              have py' : PE X (.Name y py) (tC (.ref D)) := pe_glob (v := .ref D) (gl_of g hy2) hmD rfl (okName_dbg hy1)
                              have cl := (g.cls cu.c C hC).1
                              have hk2 := (hk cu.c C hC).2
                              exact PE.imp (pe_callB (call_isX cl.is_ hpn hz hf) hgl hm (by decide +kernel) (pa_cons pa (pa_cons py' pa_nil) (star_plain hpl.1)) (okName_nm hok) (okName_dbg hok) (star_plain hpl.1)) fun σ H Q => by rw [← had]; exact isx_ok (cy := .ref D) (cv := .ref D) hG (fun u r => r) hk2 ma σ H Q
                            exact ⟨p, tT_of p fun _ => rfl⟩
                          · cases h
                        · cases h
                    · cases h
                  · cases h
                · split at h
                  · rename_i o ms ho hms
                    split at h
                    · rename_i hco
                      cases h
                      have p := blt_sound (px := px) (pos := pos) hu (fun z => g.calm (by rw [z] at hco; simpa using hco)) ho hgl hm hok hpl (ih2 X c args ms W g tk hpl hms).1
                      exact ⟨p, tT_of p fun _ => rfl⟩
                    · cases h
                  · cases h
              · split at h
                · rename_i q hq
                  split at h
                  · rename_i e es ms hms
                    split at h
                    · rename_i hc2
                      cases h
                      rw [Bool.and_eq_true, Bool.not_eq_true', beq_iff_eq] at hc2
                      obtain ⟨hm, f, fd, ps, M, hlen, hb, hF⟩ := g.clz x q hq
                      rw [GC.at_none (g.nocur hc2.1)] at hF
                      rw [List.all_cons, Bool.and_eq_true] at hpl
                      have pa := (ih2 X c (e :: es) ms W g tk (by rw [List.all_cons, hpl.1, hpl.2]; rfl) hms).1
                      have p : PE X (.Call (.Name x px) (e :: es) [] pos) (tE G X.K W (ev (run P k) (.make q.1 q.2.1 ms))) :=
                        PE.imp (pe_makeZ M hF ((g.room hc2.1).mono (by omega)) hgl hm hb (fun σ => L2N.passAt tk σ) pa (okName_dbg hok) (star_plain hpl.1) (any_plain hpl.2)) fun σ H Q => make_ok σ H Q
                      exact ⟨p, tT_of p fun _ => rfl⟩
                    · cases h
                  · cases h
                · cases h
          · cases h
        · rename_i o x ap
          split at h
          · split at h
            · rename_i q a mo ms hq ha ho hms
              split at h
              · rename_i hc2
                cases h
                simp only [Bool.and_eq_true, Bool.not_eq_true', beq_iff_eq] at hc2
                obtain ⟨hnh, ⟨⟨⟨hpl, hs⟩, hline⟩, hl30⟩, hlen⟩ := hc2
                have hline : (ap.endLine == pos.line) = true := by simpa using hline
                have hl30 : args.length < 30 := of_decide_eq_true hl30
                obtain ⟨f, fd, ps, hC, hM, hps, hb, hF⟩ := g.mez x q hq
                rw [GC.at_none (g.nocur hnh)] at hF
                have hax := attrOf_get ha
                obtain ⟨pa, hl2, _⟩ := ih2 X c args ms W g tk hpl hms
                have po := (ih1 X c o mo W g tk ho).1
                have p : PE X (.Call (.Attribute o x ap) args [] pos) (tE G X.K W (ev (run P k) (.meth q.1 q.2.1 a mo ms))) := by
                  cases args with
                  | nil =>
                    have e0 : ms = [] := List.length_eq_zero_iff.mp hl2
                    subst e0
                    exact PE.imp (pe_methZ0 po hC hM hF ((g.room hnh).mono (by omega)) hb (fun σ => L2N.passAt tk σ) (own_call hs hline rfl (by decide))) fun σ H Q => imeth0_ok hax mo σ H Q
                  | cons e es =>
                    rw [List.all_cons, Bool.and_eq_true] at hpl
                    exact PE.imp (pe_methZ po hC hM hF ((g.room hnh).mono (by omega)) hb (fun σ => L2N.passAt tk σ) pa (star_plain hpl.1) (any_plain hpl.2) (own_call hs hline (by rw [List.all_cons, hpl.1, hpl.2]; rfl) hl30)) fun σ H Q => imeth_ok hax mo σ H Q
                exact ⟨p, tT_of p fun _ => rfl⟩
              · cases h
            · cases h
          split at h
          · rename_i hc
            simp only [Bool.and_eq_true, decide_eq_true_eq] at hc
            obtain ⟨⟨⟨hs, hline⟩, hpl⟩, hl⟩ := hc
            split at h
            · rename_i mt mo ms hmt ho hms
              cases h
              obtain ⟨pa, hlen, _⟩ := ih2 X c args ms W g tk hpl hms
              have p := mt_sound (pos := pos) hmt hs hline hpl hl (ih1 X c o mo W g tk ho).1 pa hlen
              exact ⟨p, tT_of p fun _ => rfl⟩
            · cases h
          · cases h
        · cases h
      · -- a[..]
        rename_i a i pos
        split at h
        · rename_i lo hi st' ps
          split at h
          · cases hr : trE n c a with
            | none => rw [hr] at h; cases h
            | some ma =>
              rw [hr] at h; cases h
              have pa := (ih1 X c a ma W g tk hr).1
              have p := PE.imp (pe_slice (pos := pos) (p2 := ps) sl_Z pa po_none po_none) fun σ H Q => sl_ok (F := run P k) (W := W) (G := G) ma none none σ H Q
              exact ⟨p, tT_of p fun _ => rfl⟩
          · rename_i l
            split at h
            · rename_i ma ml ha hl
              cases h
              have pa := (ih1 X c a ma W g tk ha).1
              have pl := (ih1 X c l ml W g tk hl).1
              have p := PE.imp (pe_slice (pos := pos) (p2 := ps) sl_Z pa (po_some pl) po_none) fun σ H Q => sl_ok (F := run P k) (W := W) (G := G) ma (some ml) none σ H Q
              exact ⟨p, tT_of p fun _ => rfl⟩
            · cases h
          · rename_i l
            split at h
            · rename_i ma ml ha hl
              cases h
              have pa := (ih1 X c a ma W g tk ha).1
              have pl := (ih1 X c l ml W g tk hl).1
              have p := PE.imp (pe_slice (pos := pos) (p2 := ps) sl_Z pa po_none (po_some pl)) fun σ H Q => sl_ok (F := run P k) (W := W) (G := G) ma none (some ml) σ H Q
              exact ⟨p, tT_of p fun _ => rfl⟩
            · cases h
          · rename_i l hh
            split at h
            · rename_i ma ml mh ha hl hhh
              cases h
              have pa := (ih1 X c a ma W g tk ha).1
              have pl := (ih1 X c l ml W g tk hl).1
              have ph := (ih1 X c hh mh W g tk hhh).1
              have p := PE.imp (pe_slice (pos := pos) (p2 := ps) sl_Z pa (po_some pl) (po_some ph)) fun σ H Q => sl_ok (F := run P k) (W := W) (G := G) ma (some ml) (some mh) σ H Q
              exact ⟨p, tT_of p fun _ => rfl⟩
            · cases h
          · cases h
        · split at h
          · rename_i hp
            split at h
            · rename_i ma mi ha hi
              cases h
              have pa := (ih1 X c a ma W g tk ha).1
              have pi := (ih1 X c i mi W g tk hi).1
              have p := PE.imp (pe_ix (pos := pos) ix_seq pa pi (ix_plain hp)) fun σ H Q => bin_ok (f := fun _ _ => pure .none) (F := run P k) (W := W) (G := G) od_ix ma mi σ H Q
              exact ⟨p, tT_of p fun _ => rfl⟩
            · cases h
          · cases h
      · -- a tuple
        rename_i es kk pos
        split at h
        · rename_i hp
          cases hr : trEs n c es with
          | none => rw [hr] at h; cases h
          | some ms =>
            rw [hr] at h; cases h
            have p := PE.imp (pe_tup (x1 := kk) (pos := pos) (ih2 X c es ms W g tk hp hr).1) fun σ H Q => tup_ok (X := X) ms σ H Q
            exact ⟨p, tT_of p fun _ => rfl⟩
        · cases h
      · -- a list
        rename_i es pos
        split at h
        · rename_i hp
          cases hr : trEs n c es with
          | none => rw [hr] at h; cases h
          | some ms =>
            rw [hr] at h; cases h
            have p0 := pe_lst (pos := pos) (ih2 X c es ms W g tk hp hr).1
            cases c.opens.contains pos with
            | true =>
              have p := PE.imp p0 fun σ H Q => lst_ok (X := X) ms σ H Q
              exact ⟨p, tT_of p fun _ => rfl⟩
            | false =>
              have p := PE.imp p0 fun σ H Q => flit_ok (X := X) ms σ H Q
              exact ⟨p, tT_of p fun _ => rfl⟩
        · cases h
      · -- a list comprehension
        rename_i elt gs scope pos
        obtain ⟨t, iter, ifs, own, wi, tg, tt, te, rfl, p1, p2, p3, p4, p5, p6, hh, p7⟩ := lc_parts1 ihn (elt := elt) (gs := gs) (scope := scope) (pos := pos) g tk h
        have p : PE X (.ListComp elt [⟨t, iter, ifs, 0⟩] scope pos) (tE G X.K W (ev (run P k) m)) := PE.imp (pe_lc (g.calm hh) g.nd p1 p2 p3 p4 p5 p6) p7
        exact ⟨p, tT_of p fun _ => rfl⟩
      · -- an attribute of the exception
        rename_i o x pos
        split at h
        · rename_i hc
          simp only [Bool.and_eq_true, beq_iff_eq] at hc
          obtain ⟨⟨hcur, hx⟩, hs⟩ := hc
          subst hx
          cases hr : trE n c o with
          | none => rw [hr] at h; cases h
          | some mo =>
            rw [hr] at h; cases h
            have po := (ih1 X c o mo W g tk hr).1
            obtain ⟨X0, oe, pn, cu, C, hX, hG, hC, hz, hf⟩ := g.curx hcur
            have p : PE X (.Attribute o "place" pos) (tE G X.K W (ev (run P k) (.op (.x .place) [mo]))) := by
              have cl := (g.cls cu.c C hC).1
              subst hX
              exact PE.imp (pe_xf cl.xf cl.noP hz hf po (base_plain hs)) fun σ H Q => place_ok hG mo σ H Q
            exact ⟨p, tT_of p fun _ => rfl⟩
        · split at h
          · rename_i a mo ha ho
            split at h
            · rename_i hs
              cases h
              have po := (ih1 X c o mo W g tk ho).1
              have p : PE X (.Attribute o x pos) (tE G X.K W (ev (run P k) (.op (.x (.fld a (c.tab a))) [mo]))) :=
                PE.imp (pe_fld po (base_plain hs)) fun σ H Q => fld_ok (attrOf_get ha) (fun j hj => by
                  obtain ⟨x', h1, h2, h3⟩ := g.faz j a (tab_mem hj)
                  rw [attrOf_get ha] at h1
                  cases h1
                  exact ⟨h2, h3⟩) mo σ H Q
              exact ⟨p, tT_of p fun _ => rfl⟩
            · cases h
          · cases h
      · cases h
    · rcases trE_cases h with ⟨m', h2, rfl⟩ | h2
      · obtain ⟨p, q⟩ := ih4 X c e m' W g tk h2
        exact ⟨PE.imp p fun σ H Q z => seal_ok m' σ H Q z, PT.imp q fun σ H Q z => sealT_ok m' σ H Q z⟩
      · exact ih4 X c e m W g tk h2
    · unfold trEs at h
      split at h
      · cases h
        exact ⟨pa_nilZ fun env st => rfl, rfl, fun e m h => by cases h⟩
      · rename_i e r
        rw [List.all_cons, Bool.and_eq_true] at hp
        split at h
        · rename_i a b ha hb
          cases h
          obtain ⟨p1, q1⟩ := ih1 X c e a W g tk ha
          obtain ⟨p2, q2, _⟩ := ih2 X c r b W g tk hp.2 hb
          refine ⟨pa_consZ hp.1 p1 p2, by rw [List.length_cons, List.length_cons, q2], fun e' m' h1 h2 => ?_⟩
          cases h1; cases h2
          exact q1
        · cases h
    · unfold trIt at h
      split at h
      · rename_i x px args pos
        split at h
        · rename_i hx
          have hx : x = "range" := by simpa using hx
          subst hx
          split at h
          · rename_i hc
            rw [Bool.and_eq_true] at hc
            obtain ⟨hg, hm, hok⟩ := bl_of g hc.1
            have hpl := hc.2
            split at h
            · rename_i a
              rw [List.all_cons, Bool.and_eq_true] at hpl
              cases hr : trE n c a with
              | none => rw [hr] at h; cases h
              | some m =>
                rw [hr] at h; cases h
                exact pi_rng1 hg hm hpl.1 (pa_consZ hpl.1 (ih1 X c a m W g tk hr).1 (pa_nilZ fun env st => rfl))
            · rename_i a b
              rw [List.all_cons, List.all_cons, Bool.and_eq_true, Bool.and_eq_true] at hpl
              split at h
              · rename_i ma mb ha hb
                cases h
                exact pi_rng2 hg hm hpl.1 hpl.2.1 (pa_consZ hpl.1 (ih1 X c a ma W g tk ha).1 (pa_consZ hpl.2.1 (ih1 X c b mb W g tk hb).1 (pa_nilZ fun env st => rfl)))
              · cases h
            · cases h
          · cases h
        · cases hr : trE n c (.Call (.Name x px) args [] pos) with
          | none => rw [hr] at h; cases h
          | some m => rw [hr] at h; cases h; exact pi_seq (ih1 X c _ m W g tk hr).1
      · cases hr : trE n c e with
        | none => rw [hr] at h; cases h
        | some m => rw [hr] at h; cases h; exact pi_seq (ih1 X c e m W g tk hr).1
theorem lc_parts {n : Nat} {X : Cx} {c : Cc} {elt : Expr} {gs : List Comprehension} {scope : Scope} {pos : Pos} {m : Ex} {W : WX} (g : XG G P k X c) (tk : L2N.Takes X W) (h : trE n c (.ListComp elt gs scope pos) = some m) :
    ∃ (t iter : Expr) (ifs : List Expr) (own : List (Str × Nat)) (wi : TI) (tg : TG) (tt : TT) (te : TE), gs = [⟨t, iter, ifs, 0⟩] ∧ PI X t iter wi ∧ BlkOk X.N X.env.scope scope own ∧
      (∀ (s : Shared) (H : Hp) (C : Addr) (cl : List (Str × Addr)) (fp : List Addr), PG (X.blk s H scope (compEnvC scope cl C X.env) fp) t tg) ∧
      (∀ (s : Shared) (H : Hp) (C : Addr) (cl : List (Str × Addr)) (fp : List Addr), PTs (X.blk s H scope (compEnvC scope cl C X.env) fp) ifs tt) ∧
      (∀ (s : Shared) (H : Hp) (C : Addr) (cl : List (Str × Addr)) (fp : List Addr), PE (X.blk s H scope (compEnvC scope cl C X.env) fp) elt te) ∧
      (∀ x, foldedSetIterable iter X.env x = pure x) ∧ c.hot = false ∧ ∀ σ H Q, tE G X.K W (ev (run P k) m) σ H Q → tLc wi tg tt te (own.map (·.2)) σ H Q := by
  cases n with
  | zero => cases h
  | succ n =>
    rcases trE_cases h with ⟨m', h2, rfl⟩ | h2
    · cases n with
      | zero => cases h2
      | succ n =>
        obtain ⟨t, iter, ifs, own, wi, tg, tt, te, a1, p1, p2, p3, p4, p5, p6, hh, p7⟩ := lc_parts1 (sound n) g tk h2
        exact ⟨t, iter, ifs, own, wi, tg, tt, te, a1, p1, p2, p3, p4, p5, p6, hh, fun σ H Q z => p7 σ H Q (seal_ok m' σ H Q z)⟩
    · cases n with
      | zero => cases h2
      | succ n => exact lc_parts1 (sound n) g tk h2
end
end Z

set_option autoImplicit false
set_option maxHeartbeats 2000000
namespace Z
open PySem PySem.Spec PyProof.Rows L2

/-! ## statements -/
def Ls (G : GC) (K : PySem.W.Frag) (W : WX) (D : Ends) (ρ : Tk) (H : Hp) (r : SR) : Prop := match r with
  | .next env' st' => ∀ ρ' H' σ', Ext K ρ ρ' H H' → Rel G K ρ' env' st' σ' H' → D.nx σ' H'
  | .brk env' st' => ∀ ρ' H' σ', Ext K ρ ρ' H H' → Rel G K ρ' env' st' σ' H' → D.bk σ' H'
  | .cnt env' st' => ∀ ρ' H' σ', Ext K ρ ρ' H H' → Rel G K ρ' env' st' σ' H' → D.ct σ' H'
  | .ret d st' => ∀ ρ' H' v, Ext K ρ ρ' H H' → Rs G K ρ' st' H' → Rv K ρ' H' d v → D.rt v H'
  | .exc c p env' st' => ∀ ρ' H' σ' cls dd, Ext K ρ ρ' H H' → Rel G K ρ' env' st' σ' H' → XRel G K ρ' H' c p cls dd → W cls dd σ' H'
  | .bad => False
def tS (G : GC) (K : PySem.W.Frag) (W : WX) (r : Env → Store → SR) : TS := fun D σ H => ∃ ρ env st, Rel G K ρ env st σ H ∧ Ls G K W D ρ H (r env st)
section
variable {G : GC} {K : PySem.W.Frag} {W : WX} {D : Ends} {ρ ρ' : Tk} {H H' : Hp} {r : SR} {F : FT}
theorem Ls.ext (e : Ext K ρ ρ' H H') (h : Ls G K W D ρ H r) : Ls G K W D ρ' H' r := by
  cases r with
  | next => exact fun ρ2 H2 σ2 e2 s2 => h ρ2 H2 σ2 (e.trans e2) s2
  | brk => exact fun ρ2 H2 σ2 e2 s2 => h ρ2 H2 σ2 (e.trans e2) s2
  | cnt => exact fun ρ2 H2 σ2 e2 s2 => h ρ2 H2 σ2 (e.trans e2) s2
  | ret => exact fun ρ2 H2 v e2 s2 => h ρ2 H2 v (e.trans e2) s2
  | exc => exact fun ρ2 H2 σ2 cls dd e2 s2 => h ρ2 H2 σ2 cls dd (e.trans e2) s2
  | bad => exact h
theorem Ls.toS {α : Type} {a : R α} {env : Env} {σ : L2.St} {f : α → Store → SR} (re : Re K ρ H env σ) (h : Ls G K W D ρ H (a.toS env f)) : Lf G K (fun c d H' => W c d σ H') ρ H a fun x st' ρ' H' => Ls G K W D ρ' H' (f x st') := by
  cases a with
  | ok x st' => exact fun ρ' H' e s => Ls.ext (r := f x st') e h
  | exc c p st' => exact fun ρ' H' cls dd e s x => h ρ' H' σ cls dd e ⟨s, re.ext e⟩ x
  | bad => exact h
theorem Ls.seq {f : Env → Store → SR} (h : Ls G K W D ρ H (r.seq f)) : Ls G K W { D with nx := tS G K W f D } ρ H r := by
  cases r with
  | next env' st' => exact fun ρ' H' σ' e rel => ⟨ρ', env', st', rel, Ls.ext (r := f env' st') e h⟩
  | _ => exact h
theorem asg_ok (t : Tg) (e : Ex) (D : Ends) (σ : L2.St) (H : Hp) (h : tS G K W (xs F (.asg t e)) D σ H) : tAsg (tE G K W (ev F e)) (tG G K t) D σ H := by
  obtain ⟨ρ, env, st, rel, q⟩ := h
  have q := Ls.toS (f := fun d st1 => match setT t d env with | some env' => .next env' st1 | none => .bad) rel.e q
  refine ⟨ρ, env, st, rel, q.imp fun d st1 ρ1 H1 e1 s1 q1 v rv => ?_⟩
  cases ht : setT t d env with
  | none => rw [ht] at q1; exact q1.elim
  | some env' =>
    rw [ht] at q1
    exact ⟨ρ1, env, d, env', rel.e.ext e1, rv, ht, fun σ' re' _ => q1 ρ1 H1 σ' Ext.refl ⟨s1, re'⟩⟩
theorem setix_ok (o i e : Ex) (D : Ends) (σ : L2.St) (H : Hp) (h : tS G K W (xs F (.setix o i e)) D σ H) : tAsg (tE G K W (ev F e)) (gSub (tE G K W (ev F o)) (tE G K W (ev F i)) rSetL) D σ H := by
  obtain ⟨ρ, env, st, rel, q⟩ := h
  have q : Ls G K W D ρ H ((ev F e env st).toS env fun d st1 => (ev F o env st1).toS env fun ov st2 => (ev F i env st2).toS env fun iv st3 => match ov, iv with
    | .loc l, .int k => (match st3[l]? with
      | some (.lst ys) => (match ixN ys.length k with
        | some j => .next env (st3.set l (.lst (ys.set j d)))
        | none => .bad)
      | _ => .bad)
    | _, _ => .bad) := q
  refine ⟨ρ, env, st, rel, (q.toS rel.e).imp fun d st1 ρ1 H1 e1 s1 q1 v rv => ?_⟩
  refine ⟨ρ1, env, st1, ⟨s1, rel.e.ext e1⟩, (q1.toS (rel.e.ext e1)).imp fun ov st2 ρ2 H2 e2 s2 q2 x rx => ?_⟩
  refine ⟨ρ2, env, st2, ⟨s2, rel.e.ext (e1.trans e2)⟩, (q2.toS (rel.e.ext (e1.trans e2))).imp fun iv st3 ρ3 H3 e3 s3 q3 y ry => ?_⟩
  cases ov with
  | loc l =>
    cases iv with
    | int k =>
      cases rx with
      | @loc _ a b hl =>
      cases ry
      have q3 : Ls G K W D ρ3 H3 (match st3[l]? with
        | some (.lst ys) => (match ixN ys.length k with
          | some j => .next env (st3.set l (.lst (ys.set j d)))
          | none => .bad)
        | _ => .bad) := q3
      split at q3
      · rename_i ys hy
        obtain ⟨hl3, vs, g2, g3⟩ := s3.lst (pre_get e3.pre hl) hy
        cases hj : ixN ys.length k with
        | none => rw [hj] at q3; exact q3.elim
        | some j =>
          rw [hj] at q3
          have ew : Ext K ρ3 ρ3 H3 (upd H3 a (.lst (vs.set j v))) := Ext.wr hl3 g2 trivial
          refine ⟨a, vs, k, j, rfl, rfl, g2, by rw [← g3.length]; exact hj, q3 ρ3 _ σ ew ⟨s3.wr (O := .lst (ys.set j d)) hl3 g2 trivial rfl ⟨_, upd_same, (g3.ext ew).set (rv.ext ((e2.trans e3).trans ew)) j⟩, rel.e.ext (((e1.trans e2).trans e3).trans ew)⟩⟩
      · exact q3.elim
    | _ => exact q3.elim
  | _ => exact q3.elim
theorem setfld_ok {a : Nat} {x : Str} {tab : List Nat} (hx : attrNm[a]? = some x) (hf : ∀ j, tab.contains j = true → Cls K (clsA K j) ∧ NoAttr K (clsA K j) x) (o e : Ex) (D : Ends) (σ : L2.St) (H : Hp) (h : tS G K W (xs F (.setfld a tab o e)) D σ H) :
    sFld K (tE G K W (ev F o)) (tE G K W (ev F e)) x D σ H := by
  obtain ⟨ρ, env, st, rel, q⟩ := h
  have q : Ls G K W D ρ H ((ev F e env st).toS env fun d st1 => (ev F o env st1).toS env fun ov st2 => match ov with
    | .loc l => (match st2[l]? with
      | some (.ins c ns fs) => if (tab.contains c && decide (ns.length < 1000)) = true then .next env (st2.set l (.ins c (putN a ns) (putV a d ns fs))) else .bad
      | _ => .bad)
    | _ => .bad) := q
  refine ⟨ρ, env, st, rel, (q.toS rel.e).imp fun d st1 ρ1 H1 e1 s1 q1 v rv => ?_⟩
  refine ⟨ρ1, env, st1, ⟨s1, rel.e.ext e1⟩, (q1.toS (rel.e.ext e1)).imp fun ov st2 ρ2 H2 e2 s2 q2 y ry => ?_⟩
  cases ov with
  | loc l =>
    cases ry with
    | @loc _ ad b hl =>
    have q2 : Ls G K W D ρ2 H2 (match st2[l]? with
      | some (.ins c ns fs) => if (tab.contains c && decide (ns.length < 1000)) = true then .next env (st2.set l (.ins c (putN a ns) (putV a d ns fs))) else .bad
      | _ => .bad) := q2
    split at q2
    · rename_i c ns fs hy
      split at q2
      · rename_i hc
        rw [Bool.and_eq_true, decide_eq_true_eq] at hc
        obtain ⟨a', h1, dx, vs, h2, h3, h4⟩ := s2.obj l _ hy
        have h1' := h1
        rw [hl] at h1
        injection h1 with h1
        injection h1 with e3 e4
        subst e3
        rw [e4] at hl
        have ew : Ext K ρ2 ρ2 H2 (upd H2 ad (.ins (clsA K c) dx (putF x v vs))) := Ext.wr hl h2 trivial
        have hlen : vs.length < 1000 := by
          have := congrArg List.length h4
          rw [List.length_map, List.length_map] at this
          omega
        obtain ⟨p1, p2⟩ := NmOk.put hx (rv.ext (e2.trans ew)) h4 (h3.ext ew)
        exact ⟨ad, _, dx, vs, rfl, h2, (hf c hc.1).1, (hf c hc.1).2, hlen, q2 ρ2 _ σ ew ⟨s2.wr (O := .ins c (putN a ns) (putV a d ns fs)) hl h2 trivial rfl ⟨dx, _, upd_same, p2, p1⟩, rel.e.ext ((e1.trans e2).trans ew)⟩⟩
      · exact q2.elim
    · exact q2.elim
  | _ => exact q2.elim
theorem expr_ok (e : Ex) (D : Ends) (σ : L2.St) (H : Hp) (h : tS G K W (xs F (.expr e)) D σ H) : tDrop (tE G K W (ev F e)) D σ H := by
  obtain ⟨ρ, env, st, rel, q⟩ := h
  have q : Ls G K W D ρ H ((ev F e env st).toS env fun _ st1 => .next env st1) := q
  exact ⟨ρ, env, st, rel, (q.toS rel.e).imp fun d st1 ρ1 H1 e1 s1 q1 v rv => q1 ρ1 H1 σ Ext.refl ⟨s1, rel.e.ext e1⟩⟩
theorem ret_ok (e : Ex) (D : Ends) (σ : L2.St) (H : Hp) (h : tS G K W (xs F (.ret e)) D σ H) : tRet (tE G K W (ev F e)) D σ H := by
  obtain ⟨ρ, env, st, rel, q⟩ := h
  have q : Ls G K W D ρ H ((ev F e env st).toS env fun d st1 => .ret d st1) := q
  exact ⟨ρ, env, st, rel, (q.toS rel.e).imp fun d st1 ρ1 H1 e1 s1 q1 v rv => q1 ρ1 H1 v Ext.refl s1 rv⟩
theorem ite_ok (c : Ex) (t f : List Sx) (D : Ends) (σ : L2.St) (H : Hp) (h : tS G K W (xs F (.ite c t f)) D σ H) : tIfS (tT G K W (ev F c)) (tS G K W (xss F t)) (tS G K W (xss F f)) D σ H := by
  obtain ⟨ρ, env, st, rel, q⟩ := h
  have q : Ls G K W D ρ H ((ev F c env st).toS env fun x st1 => match truth st1 x with
    | some true => xss F t env st1
    | some false => xss F f env st1
    | none => .bad) := q
  refine ⟨ρ, env, st, rel, (q.toS rel.e).imp fun d st1 ρ1 H1 e1 s1 q1 => ?_⟩
  cases ht : truth st1 d with
  | none => rw [ht] at q1; exact q1.elim
  | some k =>
    rw [ht] at q1
    refine ⟨k, rfl, ?_⟩
    cases k with
    | true => rw [if_pos rfl]; exact ⟨ρ1, env, st1, ⟨s1, rel.e.ext e1⟩, q1⟩
    | false => rw [if_neg Bool.false_ne_true]; exact ⟨ρ1, env, st1, ⟨s1, rel.e.ext e1⟩, q1⟩
theorem for_ok (t : Tg) (kk : Ik) (src : List Ex) (body : List Sx) (D : Ends) (σ : L2.St) (H : Hp) (h : tS G K W (xs F (.for_ t kk src body)) D σ H) : tFor (tI G K W kk (evs F src)) (tG G K t) (tS G K W (xss F body)) D σ H := by
  obtain ⟨ρ, env, st, rel, q⟩ := h
  have q : Ls G K W D ρ H ((evs F src env st).toS env fun ds st1 => match srcOf kk ds st1 with
    | some S => evFor S.same (fun x env2 st2 => match setT t x env2 with
        | some env' => xss F body env' st2
        | none => .bad) S.items env st1
    | none => .bad) := q
  refine ⟨ρ, env, st, rel, (q.toS rel.e).imp fun ds st1 ρ1 H1 e1 s1 q1 => ?_⟩
  cases hS : srcOf kk ds st1 with
  | none => rw [hS] at q1; exact q1.elim
  | some S =>
    rw [hS] at q1
    refine ⟨S, rfl, fun J wk => ?_⟩
    generalize hone : (fun x env2 st2 => match setT t x env2 with
        | some env' => xss F body env' st2
        | none => .bad) = one at q1
    refine ⟨fun i m σ' H' => ∃ ρ' env' st', Ext K ρ1 ρ' H1 H' ∧ Rel G K ρ' env' st' σ' H' ∧ i + m = S.items.length ∧ Ls G K W D ρ' H' (evFor S.same one (S.items.drop i) env' st'),
      ⟨S.items.length, ρ1, env, st1, Ext.refl, ⟨s1, rel.e.ext e1⟩, Nat.zero_add _, by rw [List.drop_zero]; exact q1⟩, fun i m σ2 H2 hW => ?_⟩
    obtain ⟨ρ2, env2, st2, e2, rel2, him, q2⟩ := hW
    by_cases hi : i < S.items.length
    · refine .inr ?_
      rw [List.drop_eq_getElem_cons hi, evFor] at q2
      by_cases hsame : S.same st2 = true
      · rw [if_pos hsame] at q2
        refine ⟨wk.go i ρ2 st2 H2 e2 rel2.s hsame hi, fun σ' H' => ∃ m', m' < m ∧ ∃ ρ' env' st', Ext K ρ1 ρ' H1 H' ∧ Rel G K ρ' env' st' σ' H' ∧ (i + 1) + m' = S.items.length ∧ Ls G K W D ρ' H' (evFor S.same one (S.items.drop (i + 1)) env' st'), fun σ' H' hn => hn, fun x H3 hy => ?_⟩
        obtain ⟨d, hd, e3, s3, r3⟩ := wk.yld i ρ2 st2 H2 x H3 e2 rel2.s hsame hi hy
        rw [List.getElem?_eq_getElem hi] at hd
        have hd : S.items[i] = d := Option.some.inj hd
        rw [hd] at q2
        have q2 := q2.ext e3
        cases hset : setT t d env2 with
        | none => rw [← hone] at q2; simp only [hset] at q2; exact q2.elim
        | some env' =>
          have ho : one d env2 st2 = xss F body env' st2 := by rw [← hone]; simp only [hset]
          rw [ho] at q2
          refine ⟨ρ2, env2, d, env', rel2.e.ext e3, r3, hset, fun σ3 re3 _ => ⟨ρ2, env', st2, ⟨s3, re3⟩, ?_⟩⟩
          cases hr : xss F body env' st2 with
          | bad => rw [hr] at q2; exact q2.elim
          | next env4 st4 =>
            rw [hr] at q2
            exact fun ρ4 H4 σ4 e4 rel4 => ⟨m - 1, by omega, ρ4, env4, st4, (e2.trans e3).trans e4, rel4, by omega, q2.ext e4⟩
          | cnt env4 st4 =>
            rw [hr] at q2
            exact fun ρ4 H4 σ4 e4 rel4 => ⟨m - 1, by omega, ρ4, env4, st4, (e2.trans e3).trans e4, rel4, by omega, q2.ext e4⟩
          | brk env4 st4 =>
            rw [hr] at q2
            exact fun ρ4 H4 σ4 e4 rel4 => q2 ρ4 H4 σ4 e4 rel4
          | ret d4 st4 => rw [hr] at q2; exact q2
          | exc => rw [hr] at q2; exact q2
      · rw [if_neg hsame] at q2; exact q2.elim
    · refine .inl ?_
      rw [List.drop_eq_nil_of_le (Nat.le_of_not_lt hi), evFor] at q2
      by_cases hsame : S.same st2 = true
      · rw [if_pos hsame] at q2
        exact ⟨wk.stop i ρ2 st2 H2 e2 rel2.s hsame (Nat.le_of_not_lt hi), q2 ρ2 H2 σ2 Ext.refl rel2⟩
      · rw [if_neg hsame] at q2; exact q2.elim
theorem while_ok (c : Ex) (body : List Sx) (D : Ends) (σ : L2.St) (H : Hp) (h : tS G K W (xs F (.while_ c body)) D σ H) : tWhile (tT G K W (ev F c)) (tS G K W (xss F body)) D σ H := by
  obtain ⟨ρ, env, st, rel, q⟩ := h
  have q : Ls G K W D ρ H (evWhile (fun env st => ev F c env st) (fun env st => xss F body env st) WF env st) := q
  refine ⟨fun m σ' H' => ∃ ρ' env' st', Rel G K ρ' env' st' σ' H' ∧ Ls G K W D ρ' H' (evWhile (fun env st => ev F c env st) (fun env st => xss F body env st) m env' st'), ⟨WF, ρ, env, st, rel, q⟩, fun m σ' H' hW => ?_⟩
  obtain ⟨ρ', env', st', rel', q'⟩ := hW
  cases m with
  | zero => exact q'.elim
  | succ m =>
    rw [evWhile] at q'
    refine ⟨ρ', env', st', rel', (q'.toS rel'.e).imp fun x st1 ρ1 H1 e1 s1 q1 => ?_⟩
    cases ht : truth st1 x with
    | none => rw [ht] at q1; exact q1.elim
    | some k =>
      rw [ht] at q1
      refine ⟨k, rfl, ?_⟩
      cases k with
      | false => rw [if_neg Bool.false_ne_true]; exact q1 ρ1 H1 σ' Ext.refl ⟨s1, rel'.e.ext e1⟩
      | true =>
        rw [if_pos rfl]
        refine ⟨fun σ2 H2 => ∃ m', m' < m + 1 ∧ ∃ ρ' env' st', Rel G K ρ' env' st' σ2 H2 ∧ Ls G K W D ρ' H2 (evWhile (fun env st => ev F c env st) (fun env st => xss F body env st) m' env' st'), fun σ2 H2 hn => hn, ρ1, env', st1, ⟨s1, rel'.e.ext e1⟩, ?_⟩
        have q1 : Ls G K W D ρ1 H1 (match xss F body env' st1 with
          | .next env' st' => evWhile (fun env st => ev F c env st) (fun env st => xss F body env st) m env' st'
          | .cnt env' st' => evWhile (fun env st => ev F c env st) (fun env st => xss F body env st) m env' st'
          | .brk env' st' => .next env' st'
          | r => r) := q1
        cases hr : xss F body env' st1 with
        | bad => rw [hr] at q1; exact q1.elim
        | next env4 st4 =>
          rw [hr] at q1
          exact fun ρ4 H4 σ4 e4 rel4 => ⟨m, Nat.lt_succ_self _, ρ4, env4, st4, rel4, q1.ext e4⟩
        | cnt env4 st4 =>
          rw [hr] at q1
          exact fun ρ4 H4 σ4 e4 rel4 => ⟨m, Nat.lt_succ_self _, ρ4, env4, st4, rel4, q1.ext e4⟩
        | brk env4 st4 =>
          rw [hr] at q1
          exact fun ρ4 H4 σ4 e4 rel4 => q1 ρ4 H4 σ4 e4 rel4
        | ret d4 st4 => rw [hr] at q1; exact q1
        | exc => rw [hr] at q1; exact q1
theorem aug_ok {o : Op} {f : Int → Int → Int} (ho : ∀ i j st, opSem o [.int i, .int j] st = .ok (.int (f i j)) st) (hn : ∀ d e st, (∀ i j, ¬ (d = .int i ∧ e = .int j)) → opSem o [d, e] st = .bad) (i : Nat) (m : Ex) (D : Ends) (σ : L2.St) (H : Hp)
    (h : tS G K W (xs F (.asg (.nm i) (.op o [.v i, m]))) D σ H) : tAug i (tE G K W (ev F m)) (ipI f) D σ H := by
  obtain ⟨ρ, env, st, rel, q⟩ := h
  have q := Ls.toS (f := fun d st1 => match setT (.nm i) d env with | some env' => .next env' st1 | none => .bad) rel.e q
  have q : Lf G K (fun c d H' => W c d σ H') ρ H ((ev F (.v i) env st).bind fun d st1 => (((ev F m env st1).bind fun e st2 => (R.ok [] st2).bind fun ds st3 => R.ok (e :: ds) st3).bind fun ds st2 => R.ok (d :: ds) st2).bind fun ds st3 => opSem o ds st3) (fun x st' ρ' H' => Ls G K W D ρ' H' (match setT (.nm i) x env with | some env' => .next env' st' | none => .bad)) := by
    have e : ev F (.op o [.v i, m]) env st = ((ev F (.v i) env st).bind fun d st1 => (((ev F m env st1).bind fun e st2 => (R.ok [] st2).bind fun ds st3 => R.ok (e :: ds) st3).bind fun ds st2 => R.ok (d :: ds) st2).bind fun ds st3 => opSem o ds st3) := by
      show ((ev F (.v i) env st).bind _).bind _ = _
      cases ev F (.v i) env st <;> rfl
    rw [← e]; exact q
  cases hv : env[i]? with
  | none => rw [show ev F (.v i) env st = .bad from by show (match env[i]? with | some (some d) => R.ok d st | _ => .bad) = _; rw [hv]] at q; exact q.elim
  | some o' =>
    cases o' with
    | none => rw [show ev F (.v i) env st = .bad from by show (match env[i]? with | some (some d) => R.ok d st | _ => .bad) = _; rw [hv]] at q; exact q.elim
    | some d =>
      rw [show ev F (.v i) env st = .ok d st from by show (match env[i]? with | some (some d) => R.ok d st | _ => .bad) = _; rw [hv]] at q
      obtain ⟨x, hx, rx⟩ := rel.e.at_ i d hv
      refine ⟨x, hx, ρ, env, st, rel, ?_⟩
      have q : Lf G K (fun c d H' => W c d σ H') ρ H ((((ev F m env st).bind fun e st2 => (R.ok [] st2).bind fun ds st3 => R.ok (e :: ds) st3).bind fun ds st2 => R.ok (d :: ds) st2).bind fun ds st3 => opSem o ds st3) (fun x st' ρ' H' => Ls G K W D ρ' H' (match setT (.nm i) x env with | some env' => .next env' st' | none => .bad)) := q
      refine q.bind.bind.bind.imp fun e st1 ρ1 H1 e1 s1 q1 y ry => ?_
      have q1 := (q1.ok s1).ok s1
      by_cases hij : ∃ i j, d = .int i ∧ e = .int j
      · obtain ⟨a, b, rfl, rfl⟩ := hij
        rw [ho] at q1
        cases rx; cases ry
        exact ⟨a, b, rfl, rfl, (q1.ok s1) ρ1 H1 _ Ext.refl ⟨s1, (rel.e.ext e1).set (.int _)⟩⟩
      · rw [hn d e st1 fun a b z => hij ⟨a, b, z⟩] at q1
        exact q1.elim
/-! ## raise, try -/
theorem raise_ok {i : Nat} {C : Addr} (hC : G.cls[i]? = some C) (T : OexC K C) (hno : PySem.W.findIn K (.ref C) "place" = some none) (m : Ex) (D : Ends) (σ : L2.St) (H : Hp) (h : tS G K W (xs F (.raise_ i m)) D σ H) :
    tMkO C (spI K) [] (tA G K W (evs F [m])) σ H fun cls d H' => W cls d σ H' := by
  obtain ⟨ρ, env, st, rel, q⟩ := h
  have q : Ls G K W D ρ H ((ev F m env st).toS env fun d st1 => .exc i d env st1) := q
  have q := q.toS rel.e
  refine ⟨ρ, env, st, rel, ?_⟩
  show Lf G K _ ρ H ((ev F m env st).bind fun d st1 => R.ok [d] st1) _
  cases hr : ev F m env st with
  | bad => rw [hr] at q; exact q.elim
  | exc c p st1 => rw [hr] at q; exact q
  | ok d st1 =>
    rw [hr] at q
    intro ρ1 H1 e1 s1 vs rvs
    have q := q ρ1 H1 e1 s1
    obtain ⟨y, rfl, ry⟩ := rvs.one
    refine ⟨(by decide : 1 ≤ 1000), fun a ha => ⟨a, C, y, rfl, upd_same, T, hno, fun dx hdx hne => ?_⟩⟩
    rw [upd_ne hne] at hdx
    refine ⟨rfl, dx, [("place", y)], upd_same, by rw [upd_ne hne]; exact upd_same, hdx, ?_⟩
    have eH : upd (del (upd (upd (upd H1 a (exo a C none)) dx (exd dx [("place", y)])) a (exo a C (some dx))) a) dx (.xd [("place", y)]) = upd H1 dx (.xd [("place", y)]) := by
      funext b
      by_cases h1 : b = dx
      · rw [h1, upd_same, upd_same]
      · rw [upd_ne h1, upd_ne h1]
        by_cases h2 : b = a
        · rw [h2, del_same, ha]
        · rw [del_ne h2, upd_ne h2, upd_ne h1, upd_ne h2]
    rw [eH]
    have en : Ext K ρ1 ρ1 H1 (upd H1 dx (.xd [("place", y)])) := Ext.new hdx
    exact q ρ1 _ σ _ _ en ⟨s1.new hdx, (rel.e.ext e1).ext en⟩ ⟨C, dx, y, hC, rfl, rfl, upd_same, ry.ext en⟩
/-- a suite, by the machine -/
def tSu (G : GC) (K : PySem.W.Frag) (F : FT) (ms : List Sx) : Addr → Value → Option Addr → TS := fun a cls d D σ H => ∃ (l ci : Nat) (dd C : Addr), cls = .ref C ∧ d = some dd ∧ G.cls[ci]? = some C ∧
  tS (G.at (some ⟨l, a, ci, dd⟩)) K (fun _ _ _ _ => False) (xss F ms) D σ H
theorem enter_rs {st : Store} {a C dx : Addr} {c : Nat} {p : Z.D} {v : V} (hcur : G.cur = none) (s : Rs G K ρ st H) (hC : G.cls[c]? = some C) (hd : H dx = some (.xd [(("place" : Str), v)])) (rv : Rv K ρ H p v) :
    Ext K ρ (ρ ++ [(a, false)]) H H ∧ Rs (G.at (some ⟨st.length, a, c, dx⟩)) K (ρ ++ [(a, false)]) (st ++ [.exn c p]) H := by
  have E : Ext K ρ (ρ ++ [(a, false)]) H H := ⟨List.prefix_append _ _, fun _ _ _ h => h, fun _ _ h => h, fun _ _ u h _ => ⟨h, u.app fun z => Bool.noConfusion z⟩, fun _ _ h => h⟩
  have s' : Rs (G.at (some ⟨st.length, a, c, dx⟩)) K ρ st H := ⟨s.len, s.nd, fun l o h => by
    obtain ⟨b, h1, r⟩ := s.obj l o h
    refine ⟨b, h1, ?_⟩
    cases o with
    | exn c2 p2 => obtain ⟨cu, _, z, _⟩ := r; rw [hcur] at z; cases z
    | _ => exact r⟩
  exact ⟨E, s'.allocB E (fun _ _ h _ => h) (fun z => Bool.noConfusion z) rfl ⟨⟨st.length, a, c, dx⟩, v, rfl, rfl, rfl, rfl, hd, rv.ext E⟩⟩
theorem leave_rs {ρ1 : Tk} {H1 : Hp} {st st1 : Store} {a dx : Addr} {c : Nat} (old : Rs G K ρ st H) (hcur : G.cur = none) (e : Ext K ρ ρ1 H H1) (s : Rs (G.at (some ⟨st.length, a, c, dx⟩)) K ρ1 st1 H1) (ok : OldOk st st1) : Rs G K ρ (st1.take st.length) H1 := by
  have old' : Rs (G.at (some ⟨st.length, a, c, dx⟩)) K ρ st H := ⟨old.len, old.nd, fun l o h => by
    obtain ⟨b, h1, r⟩ := old.obj l o h
    refine ⟨b, h1, ?_⟩
    cases o with
    | exn c2 p2 => obtain ⟨cu, _, z, _⟩ := r; rw [hcur] at z; cases z
    | _ => exact r⟩
  have r := old'.back e s ok
  refine ⟨r.len, r.nd, fun l o h => ?_⟩
  have hl : l < st.length := by
    have := get_lt h
    rw [List.length_take] at this
    omega
  obtain ⟨b, h1, r⟩ := r.obj l o h
  refine ⟨b, h1, ?_⟩
  cases o with
  | exn c2 p2 =>
    obtain ⟨cu, v, z, z2, _⟩ := r
    cases z
    have z2 : st.length = l := z2
    omega
  | _ => exact r
theorem Re.back {ρ1 : Tk} {env : Env} {σ : L2.St} (p : ρ <+: ρ1) (hc : closedE ρ.length env = true) (h : Re K ρ1 H env σ) : Re K ρ H env σ := by
  refine ⟨h.len, fun i d hd => ?_⟩
  obtain ⟨v, h1, r⟩ := h.at_ i d hd
  exact ⟨v, h1, r.back p (List.all_eq_true.mp hc (some d) (List.mem_of_getElem? hd))⟩
theorem Re.drop {i : Nat} {env : Env} {σ : L2.St} (h : Re K ρ H env σ) : Re K ρ H (env.set i none) (σ.set i none) := by
  refine ⟨by rw [List.length_set, List.length_set]; exact h.len, fun j x q => ?_⟩
  by_cases hj : i = j
  · subst hj
    obtain ⟨hl, _⟩ := List.getElem?_eq_some_iff.mp q
    rw [List.length_set] at hl
    rw [List.getElem?_set_self hl] at q
    cases q
  · rw [List.getElem?_set_ne hj] at q ⊢
    exact h.at_ j x q
theorem try_ok {tab : List Nat} {i : Nat} {C : Addr} {mb ms : List Sx} (hcur : G.cur = none) (hex : ∀ (j : Nat) (E : Addr), G.cls[j]? = some E → PySem.W.exmOne K (.ref E) (.ref C) = some (tab.contains j)) (D : Ends) (σ : L2.St) (H : Hp)
    (h : tS G K W (xs F (.try_ mb tab i ms)) D σ H) : tS G K (wAs K (.ref C) i (tSu G K F ms) W D) (xss F mb) D σ H := by
  obtain ⟨ρ, env, st, rel, q⟩ := h
  have q : Ls G K W D ρ H (catchS tab i (fun env1 st1 => xss F ms env1 st1) (xss F mb env st)) := q
  refine ⟨ρ, env, st, rel, ?_⟩
  cases hr : xss F mb env st with
  | bad => rw [hr] at q; exact q.elim
  | next env1 st1 => rw [hr] at q; exact q
  | ret d st1 => rw [hr] at q; exact q
  | brk env1 st1 => rw [hr] at q; exact q
  | cnt env1 st1 => rw [hr] at q; exact q
  | exc c p env1 st1 =>
    rw [hr] at q
    have q : Ls G K W D ρ H (if tab.contains c = true then (xss F ms (env1.set i (some (.loc st1.length))) (st1 ++ [.exn c p])).leave i st1 else .exc c p env1 st1) := q
    intro ρ1 H1 σ1 cls dd e1 rel1 x
    obtain ⟨E, dx, v, hE, rfl, rfl, hd, rv⟩ := id x
    refine ⟨tab.contains c, hex c E hE, fun hb a na => ?_, fun hb => ?_⟩
    · rw [if_pos hb] at q
      obtain ⟨ee, se⟩ := enter_rs (a := a) hcur rel1.s hE hd rv
      have ra : Rv K (ρ1 ++ [(a, false)]) H1 (.loc st1.length) (.ref a) := .loc (b := false) (by
        rw [List.getElem?_append_right (by rw [rel1.s.len]; exact Nat.le_refl _), rel1.s.len, Nat.sub_self]; rfl)
      refine ⟨st1.length, c, dx, E, rfl, rfl, hE, ρ1 ++ [(a, false)], _, _, ⟨se, (rel1.e.ext ee).set ra⟩, ?_⟩
      cases hr2 : xss F ms (env1.set i (some (.loc st1.length))) (st1 ++ [.exn c p]) with
      | bad => rw [hr2] at q; exact q.elim
      | exc => rw [hr2] at q; exact q.elim
      | next env2 st2 =>
        rw [hr2] at q
        simp only [SR.leave] at q
        by_cases hz : closedE st1.length (env2.set i none) = true ∧ OldOk st1 st2
        · rw [if_pos hz] at q
          exact fun ρ2 H2 σ2 e2 rel2 => q ρ1 H2 _ (e1.trans (ee.trans e2).back) ⟨leave_rs rel1.s hcur (ee.trans e2) rel2.s hz.2, (rel2.e.drop).back (ee.trans e2).pre (by rw [rel1.s.len]; exact hz.1)⟩
        · rw [if_neg hz] at q; exact q.elim
      | brk env2 st2 =>
        rw [hr2] at q
        simp only [SR.leave] at q
        by_cases hz : closedE st1.length (env2.set i none) = true ∧ OldOk st1 st2
        · rw [if_pos hz] at q
          exact fun ρ2 H2 σ2 e2 rel2 => q ρ1 H2 _ (e1.trans (ee.trans e2).back) ⟨leave_rs rel1.s hcur (ee.trans e2) rel2.s hz.2, (rel2.e.drop).back (ee.trans e2).pre (by rw [rel1.s.len]; exact hz.1)⟩
        · rw [if_neg hz] at q; exact q.elim
      | cnt env2 st2 =>
        rw [hr2] at q
        simp only [SR.leave] at q
        by_cases hz : closedE st1.length (env2.set i none) = true ∧ OldOk st1 st2
        · rw [if_pos hz] at q
          exact fun ρ2 H2 σ2 e2 rel2 => q ρ1 H2 _ (e1.trans (ee.trans e2).back) ⟨leave_rs rel1.s hcur (ee.trans e2) rel2.s hz.2, (rel2.e.drop).back (ee.trans e2).pre (by rw [rel1.s.len]; exact hz.1)⟩
        · rw [if_neg hz] at q; exact q.elim
      | ret d2 st2 =>
        rw [hr2] at q
        simp only [SR.leave] at q
        cases hz : sealD st1.length (sealAt st1.length st2 8) d2 with
        | none => rw [hz] at q; exact q.elim
        | some d' =>
          rw [hz] at q
          simp only at q
          by_cases ho : OldOk st1 st2
          · rw [if_pos ho] at q
            exact fun ρ2 H2 v2 e2 s2 r2 => q ρ1 H2 v2 (e1.trans (ee.trans e2).back) (leave_rs rel1.s hcur (ee.trans e2) s2 ho) (sealed_rv rel1.s.len s2 (ee.trans e2).pre r2 hz)
          · rw [if_neg ho] at q; exact q.elim
    · rw [hb, if_neg Bool.false_ne_true] at q
      exact q ρ1 H1 σ1 _ _ e1 rel1 x
end

section
variable {G : GC} {P : List Fd} {k : Nat}
theorem XG.suite {X : Cx} {c : Cc} (g : XG G P k X c) (hd : c.isDef = true) {l a ci dd C : Addr} {oe : Obj} {pn : List (Addr × Obj)} (hC : G.cls[ci]? = some C) (hz : L2N.Zn (.ref C) (some dd) oe) (hf : ∃ vs, oe.data = .fields vs) :
    XG (G.at (some ⟨l, a, ci, dd⟩)) P k (X.suite a ((a, oe) :: pn)) { c with hot := true, cur := true } where
  N := g.N
  nd := g.nd
  sc := g.sc
  calm := fun z => Bool.noConfusion (show true = false from z)
  fn := g.fn
  room := fun z => Bool.noConfusion (show true = false from z)
  roomH := ⟨g.roomH.dp, g.roomH.un⟩
  po := PassesOwn.never
  top := g.top
  nocur := fun z => Bool.noConfusion (show true = false from z)
  hotc := fun _ => by
    obtain ⟨vs, hv⟩ := hf
    exact ⟨(a, oe), _, ⟨rfl, vs, hv, hz.2.2 vs hv⟩, List.mem_cons_self, rfl, ⟨rfl, ⟨C, hC, hz.zc⟩, ⟨vs, hv⟩⟩⟩
  curx := fun _ => ⟨X, oe, pn, ⟨l, a, ci, dd⟩, C, rfl, rfl, hC, hz.zc, hf⟩
  blt := g.blt
  fns := g.fns
  co := g.co
  ex := g.ex
  exb := g.exb
  cls := g.cls
  clz := g.clz
  mez := g.mez
  faz := g.faz
  icz := g.icz
  eqz := g.eqz
theorem XG.tr {X : Cx} {c : Cc} (g : XG G P k X c) (hh : c.hot = false) (hc : c.cur = false) {pn : List (Addr × Obj)} {xe : Value → Shared → Prop} (po : PassesOwn (model X.prog X.w) X.A X.env xe) : XG G P k (X.tr pn xe) c where
  N := g.N
  nd := g.nd
  sc := g.sc
  calm := g.calm
  fn := g.fn
  room := g.room
  roomH := g.roomH
  po := po
  top := g.top
  nocur := g.nocur
  hotc := fun z => by rw [hh] at z; cases z
  curx := fun z => by rw [hc] at z; cases z
  blt := g.blt
  fns := g.fns
  co := g.co
  ex := g.ex
  exb := g.exb
  cls := g.cls
  clz := g.clz
  mez := g.mez
  faz := g.faz
  icz := g.icz
  eqz := g.eqz
theorem swap_no {e : Expr} {t : Option Expr} {l : Nat} {env : PySem.Env} (h : noComp e = true) : swapsWith e t l env = pure false := by
  cases e <;> first | rfl | (cases h)
theorem swap_sole {e t : Expr} {l : Nat} {env : PySem.Env} (h : noComp e = true) : swapsWithSole [t] e l env = pure false := swap_no (t := some t) h
theorem asgN_stores {x : Str} {px : Pos} {e : Expr} {env : PySem.Env} : swappedStores [.Name x px] e env = pure none := by
  cases e <;> rfl
theorem asgS_stores {o i : Expr} {px : Pos} {e : Expr} {env : PySem.Env} : swappedStores [.Subscript o i px] e env = pure none := by
  cases e <;> rfl
theorem asgT_stores {ts : List Expr} {j : Nat} {px : Pos} {e : Expr} {env : PySem.Env} (h : isTup e = false) : swappedStores [.Tuple ts j px] e env = pure none := by
  cases e <;> first | rfl | (cases h)
theorem soundS : ∀ (n : Nat) (G : GC),
    (∀ (X : Cx) (c : Cc) (s : Stmt) (m : Sx) (W : WX), XG G P k X c → L2N.Takes X W → trS n c s = some m → PS X s (tS G X.K W (xs (run P k) m))) ∧
    (∀ (X : Cx) (c : Cc) (ss : List Stmt) (ms : List Sx) (W : WX), XG G P k X c → L2N.Takes X W → trSs n c ss = some ms → PSs X ss (tS G X.K W (xss (run P k) ms)))
  | 0, G => ⟨fun X c s m W g tk h => (by cases h), fun X c ss ms W g tk h => (by cases h)⟩
  | n + 1, G => by
    obtain ⟨ih1, ih2⟩ := soundS n G
    have ihG := soundS n
    obtain ⟨se, ses, si, _⟩ := sound (G := G) (P := P) (k := k) n
    refine ⟨fun X c s m W g tk h => ?_, fun X c ss ms W g tk h => ?_⟩
    · unfold trS at h
      split at h
      · -- an assignment
        rename_i ts e pos
        split at h
        · rename_i o i px
          split at h
          · rename_i hc
            simp only [Bool.and_eq_true] at hc
            split at h
            · rename_i mo mi me ho hi he
              cases h
              have po := (se X c o mo W g tk ho).1
              have pi := (se X c i mi W g tk hi).1
              have pe := (se X c e me W g tk he).1
              refine PS.imp (ps_asg pe (pg_sub po pi set_list (fun v => by
                have hp := hc.1.1
                cases i <;> first | rfl | (cases hp))) (swap_sole hc.1.2) asgS_stores) fun D σ H => setix_ok mo mi me D σ H
            · cases h
          · cases h
        · rename_i o x px
          split at h
          · rename_i hc
            rw [Bool.and_eq_true] at hc
            split at h
            · rename_i a mo me ha ho he
              cases h
              have po := (se X c o mo W g tk ho).1
              have pe := (se X c e me W g tk he).1
              exact PS.imp (ps_fld po pe (swap_no hc.1)) fun D σ H => setfld_ok (attrOf_get ha) (fun j hj => by
                obtain ⟨x', h1, h2, h3⟩ := g.faz j a (tab_mem hj)
                rw [attrOf_get ha] at h1
                cases h1
                exact ⟨h2, h3⟩) mo me D σ H
            · cases h
          · cases h
        · rename_i t ht0 ht1
          split at h
          · rename_i mt me ht he
            split at h
            · rename_i hc
              cases h
              rw [Bool.and_eq_true] at hc
              have pe := (se X c e me W g tk he).1
              have pt := (trTg_ok (G := G) (P := P) (k := k) n).1 X c t mt g ht
              cases t with
              | Name x px =>
                by_cases hn : noComp e = true
                · exact PS.imp (ps_asg pe pt (swap_sole hn) asgN_stores) fun D σ H => asg_ok mt me D σ H
                · have hn : noComp e = false := Bool.eq_false_iff.mpr hn
                  have hk : (noComp e || (match (generalizing := false) e with
                    | .ListComp _ _ s _ => (c.sc.names.lookup x == some .local) && (px.line == e.pos.line) && !(s.names.any fun (n, k) => n == x && (k == .local || k == .cell))
                    | _ => false)) = true := hc.2
                  rw [hn, Bool.false_or] at hk
                  cases e with
                  | ListComp elt gs scope pe' =>
                    have hk : ((c.sc.names.lookup x == some .local) && (px.line == pe'.line) && !(scope.names.any fun (n, k) => n == x && (k == .local || k == .cell))) = true := hk
                    simp only [Bool.and_eq_true, Bool.not_eq_true'] at hk
                    obtain ⟨⟨k1, k2⟩, k3⟩ := hk
                    have k1 : c.sc.names.lookup x = some .local := by simpa using k1
                    cases n with
                    | zero => cases he
                    | succ n =>
                    obtain ⟨t, iter, ifs, own, wi, tg, tt, te, rfl, p1, p2, p3, p4, p5, p6, hh, p7⟩ := lc_parts (G := G) (P := P) (k := k) (n := n + 1) (elt := elt) (gs := gs) (scope := scope) (pos := pe') g tk he
                    have hl : X.env.scope.names.lookup x = some .local := by rw [g.sc]; exact k1
                    have ht : (if c.sto x && okName x then (slotOf c.N x).map Tg.nm else none) = some mt := ht
                    split at ht
                    · cases hs : slotOf c.N x with
                      | none => rw [hs] at ht; cases ht
                      | some i =>
                        rw [hs] at ht; cases ht
                        have hsc : X.env.scope.kind = .function ∨ True := .inr trivial
                        refine ⟨fun pins s σ H D I q => ?_⟩
                        refine (ps_setLc (i := i) (g.calm hh) g.nd (by rw [g.N]; exact slotOf_get hs) hl (sw_true I.ok.kind hl k2 k3) p1 p2 p3 p4 p5 p6).run pins s σ H D I ?_
                        have q := asg_ok (.nm i) me D σ H q
                        refine p7 σ H _ ?_
                        obtain ⟨ρ, env, st, rel, q⟩ := q
                        refine ⟨ρ, env, st, rel, q.imp fun d st1 ρ1 H1 e1 s1 q1 v rv => ?_⟩
                        obtain ⟨ρ2, env2, d2, env3, re, r2, hset, q2⟩ := q1 v rv
                        cases hset
                        exact q2 _ (re.set r2) fun j hj => List.getElem?_set_ne fun z => hj (by rw [z]; exact List.mem_cons_self)
                    · cases ht
                  | _ => cases hk
              | Tuple es j px =>
                have hk : (noComp e && !isTup e) = true := hc.2
                rw [Bool.and_eq_true] at hk
                exact PS.imp (ps_asg pe pt (swap_sole hk.1) (asgT_stores (by simpa using hk.2))) fun D σ H => asg_ok mt me D σ H
              | _ => cases hc.2
            · cases h
          · cases h
        · cases h
      · -- an expression
        rename_i e pos
        split at h
        · cases h
          exact PS.imp ps_doc fun D σ H ⟨ρ, env, st, rel, q⟩ => q ρ H σ Ext.refl rel
        · split at h
          · rename_i hn
            cases hr : trE n c e with
            | none => rw [hr] at h; cases h
            | some m' =>
              rw [hr] at h; cases h
              exact PS.imp (ps_expr (se X c e m' W g tk hr).1 (swap_no hn)) fun D σ H => expr_ok m' D σ H
          · cases h
      · -- return e
        rename_i e pos
        cases hr : trE n c e with
        | none => rw [hr] at h; cases h
        | some m' =>
          rw [hr] at h; cases h
          exact PS.imp (ps_ret (se X c e m' W g tk hr).1) fun D σ H => ret_ok m' D σ H
      · cases h
        exact PS.imp ps_retN fun D σ H ⟨ρ, env, st, rel, q⟩ => q ρ H .non Ext.refl rel.s .non
      · rename_i t a b pos
        split at h
        · rename_i mt ma mb ht ha hb
          cases h
          exact PS.imp (ps_if (se X c t mt W g tk ht).2 (ih2 X c a ma W g tk ha) (ih2 X c b mb W g tk hb)) fun D σ H => ite_ok mt ma mb D σ H
        · cases h
      · rename_i t iter body orelse pos
        split at h
        · split at h
          · rename_i hp
            rw [Bool.and_eq_true, Bool.not_eq_true'] at hp
            obtain ⟨hh, hp⟩ := hp
            split at h
            · rename_i mt kk src mb ht hi hb
              cases h
              exact PS.imp (ps_for g.po (g.calm hh) (si X c t iter kk src W g tk hi) ((trTg_ok (G := G) (P := P) (k := k) n).1 X c t mt g ht) (ih2 X c body mb W g tk hb) (fold_plain hp)) fun D σ H => for_ok mt kk src mb D σ H
            · cases h
          · cases h
        · cases h
      · rename_i t body orelse pos
        split at h
        · split at h
          · rename_i hh
            rw [Bool.not_eq_true'] at hh
            split at h
            · rename_i mt mb ht hb
              cases h
              exact PS.imp (ps_while g.po (se X c t mt W g tk ht).2 (ih2 X c body mb W g tk hb)) fun D σ H => while_ok mt mb D σ H
            · cases h
          · cases h
        · cases h
      · rename_i t op e pos
        split at h
        · rename_i x px
          split at h
          · rename_i hc
            simp only [Bool.and_eq_true] at hc
            obtain ⟨⟨⟨hst, hok⟩, hnc⟩, hpl⟩ := hc
            split at h
            · rename_i i m hs hm
              cases h
              exact PS.imp (ps_aug g.nd (by rw [g.N]; exact slotOf_get hs) (sto_loc g hst) (se X c e m W g tk hm).1 ip_add (sto_fn g hst)) fun D σ H => aug_ok (fun i j st => rfl) (fun d e st z => by cases d <;> cases e <;> first | rfl | exact absurd ⟨rfl, rfl⟩ (z _ _)) i m D σ H
            · rename_i i m hs hm
              cases h
              exact PS.imp (ps_aug g.nd (by rw [g.N]; exact slotOf_get hs) (sto_loc g hst) (se X c e m W g tk hm).1 ip_sub (sto_fn g hst)) fun D σ H => aug_ok (fun i j st => rfl) (fun d e st z => by cases d <;> cases e <;> first | rfl | exact absurd ⟨rfl, rfl⟩ (z _ _)) i m D σ H
            · cases h
          · cases h
        · cases h
      · cases h; exact PS.imp ps_break fun D σ H ⟨ρ, env, st, rel, q⟩ => q ρ H σ Ext.refl rel
      · cases h; exact PS.imp ps_continue fun D σ H ⟨ρ, env, st, rel, q⟩ => q ρ H σ Ext.refl rel
      · cases h; exact PS.imp ps_pass fun D σ H ⟨ρ, env, st, rel, q⟩ => q ρ H σ Ext.refl rel
      · -- raise
        rename_i r pos
        split at h
        · rename_i x px e cpos
          split at h
          · rename_i hc
            simp only [Bool.and_eq_true, Bool.not_eq_true'] at hc
            obtain ⟨hh, ⟨hok, hgl⟩, hpl⟩ := hc
            split at h
            · rename_i q m hq hm
              cases h
              have pe := (se X c e m W g tk hm).1
              obtain ⟨C, hC, hmC, _⟩ := g.ex x q hq
              obtain ⟨cl, fI, fd, iC, tI, F1, hb⟩ := g.cls _ _ hC
              have hr : Room (1 + 1) X.A := (g.room hh).mono (by omega)
              have pm := pmkN_oex (p := px) (pos := cpos) cl.oex iC tI F1 hr hb (gl_of g hgl) hmC (pa_consZ hpl pe (pa_nilZ fun env st => rfl)) (okName_dbg hok) (star_plain hpl)
              exact PS.imp (L2N.ps_raise (g.calm hh) tk pm) fun D σ H q => raise_ok (F := run P k) hC cl.oex cl.noP m D σ H q
            · cases h
          · cases h
        · cases h
      · -- try
        rename_i body hs pos
        split at h
        · rename_i x px nm b0 suite hpos
          split at h
          · rename_i hc
            simp only [Bool.and_eq_true, Bool.not_eq_true', beq_iff_eq] at hc
            obtain ⟨⟨⟨hh, hcu⟩, hdf⟩, ⟨hok, hgl⟩, hln⟩ := hc
            split at h
            · rename_i q i mb ms hq hi hb hsu
              cases h
              obtain ⟨C, hC, hmC, hex⟩ := g.ex x q hq
              obtain ⟨ht1, ht2⟩ := g.top hdf
              have hln : X.env.kindOf nm = some .local := by
                show X.env.scope.names.lookup nm = some .local
                rw [g.sc]; exact hln
              refine PS.imp (L2N.ps_try_as (i := i) (tb := fun W => tS G X.K W (xss (run P k) mb)) (ts := tSu G X.K (run P k) ms) (Wout := W) ht1 ht2 g.nd (by rw [g.N]; exact slotOf_get hi) hln ⟨gl_of g hgl, okName_dbg hok, .inl hmC⟩ tk
                (fun W' pn xe tk' po => ih2 (X.tr pn xe) c body mb W' (g.tr hh hcu po) tk' hb) (fun a oe cls d pn hz hf => ?_)) fun D σ H q => try_ok (F := run P k) (g.nocur hh) (fun j E hE => (hex j E hE).1) D σ H q
              refine ⟨fun pins s σ H D I q => ?_⟩
              obtain ⟨l, ci, dd, C', hcls, hdd, hC', q⟩ := q
              subst hcls
              subst hdd
              exact ((ihG (G.at (some ⟨l, a, ci, dd⟩))).2 (X.suite a ((a, oe) :: pn)) { c with hot := true, cur := true } (b0 :: suite) ms (fun _ _ _ _ => False) (g.suite (l := l) hdf hC' hz hf) takesN0 hsu).run pins s σ H D I q
            · cases h
          · cases h
        · cases h
      · cases h
    · unfold trSs at h
      split at h
      · cases h
        exact PSs.imp pss_nil fun D σ H ⟨ρ, env, st, rel, q⟩ => q ρ H σ Ext.refl rel
      · rename_i s r
        split at h
        · rename_i a b ha hb
          cases h
          exact PSs.imp (pss_cons (ih1 X c s a W g tk ha) (ih2 X c r b W g tk hb)) fun D σ H ⟨ρ, env, st, rel, q⟩ => ⟨ρ, env, st, rel, Ls.seq (f := fun env' st' => xss (run P k) b env' st') q⟩
        · cases h
end
end Z

set_option autoImplicit false
set_option maxHeartbeats 2000000
namespace Z
open PySem PySem.Spec PyProof.Rows L2

/-! ## a program's defs -/
structure Ent where
  x : Str
  q : Str
  st : Stmt
  N : List Str
  ps : List Str
  dvs : List D
  hot : Bool := false
  seals : List Pos := []
  opens : List Pos := []
  raw : Bool := false
  cls : Option Nat := none
  eqs : List (Pos × (Nat × Nat)) := []
def tabFrom : Nat → List Ent → List (Str × Fi)
  | _, [] => []
  | i, e :: es => if e.cls.isNone then (e.x, ⟨i, e.ps.length, e.dvs, e.hot, e.raw⟩) :: tabFrom (i + 1) es else tabFrom (i + 1) es
theorem tab_get : ∀ {es : List Ent} {i : Nat} {x : Str} {fi : Fi}, (tabFrom i es).lookup x = some fi → ∃ e, es[fi.id - i]? = some e ∧ i ≤ fi.id ∧ e.x = x ∧ fi.np = e.ps.length ∧ fi.dvs = e.dvs ∧ fi.hot = e.hot ∧ e.cls = none
  | [], _, _, _, h => by cases h
  | e :: es, i, x, fi, h => by
    have step : (tabFrom (i + 1) es).lookup x = some fi → ∃ e', (e :: es)[fi.id - i]? = some e' ∧ i ≤ fi.id ∧ e'.x = x ∧ fi.np = e'.ps.length ∧ fi.dvs = e'.dvs ∧ fi.hot = e'.hot ∧ e'.cls = none := fun h => by
      obtain ⟨e', h1, h2, h3⟩ := tab_get h
      refine ⟨e', ?_, Nat.le_of_succ_le h2, h3⟩
      have : fi.id - i = (fi.id - (i + 1)) + 1 := by omega
      rw [this, List.getElem?_cons_succ]
      exact h1
    unfold tabFrom at h
    split at h
    · rename_i hn
      rw [List.lookup_cons] at h
      cases hb : x == e.x with
      | true =>
        rw [hb] at h
        cases h
        exact ⟨e, by simp, Nat.le_refl _, (by simpa using hb : x = e.x).symm, rfl, rfl, rfl, Option.isNone_iff_eq_none.mp hn⟩
      | false =>
        rw [hb] at h
        exact step h
    · exact step h
structure Pg where
  E : List Ent
  co : List (Str × D)
  blt : List Str
  ex : List (Str × (Nat × List Nat)) := []
  exb : List (Str × List Nat) := []
  cl : List (Str × (Nat × Nat × Nat)) := []
  me : List (Str × (Nat × Nat × Nat)) := []
  fa : List (Nat × Nat) := []
  ic : List (Nat × Nat) := []
def Pg.ctx (p : Pg) (e : Ent) : Cc := { N := e.N, sc := defScope e.st, raw := defScope e.st, isDef := true, fn := tabFrom 0 p.E, co := p.co, blt := p.blt, ex := p.ex, exb := p.exb, seals := e.seals, opens := e.opens, cl := p.cl, me := p.me, fa := p.fa, ic := p.ic, eqs := e.eqs }
def Cc.asHot (c : Cc) : Cc := { c with hot := true }
/-- the defs as the machine runs them -/
inductive Comp (p : Pg) : List Ent → List Fd → Prop
  | nil : Comp p [] []
  | cons {e : Ent} {es : List Ent} {b : List Sx} {fs : List Fd} (n : Nat) : trSs n (p.ctx e) (defBody e.st) = some b → (if e.hot then trSs n (p.ctx e).asHot (defBody e.st) = some b else True) → Comp p es fs → Comp p (e :: es) (⟨e.N.length, e.ps.length, b⟩ :: fs)
theorem Comp.get {p : Pg} : ∀ {es : List Ent} {fs : List Fd}, Comp p es fs → ∀ {i : Nat} {e : Ent}, es[i]? = some e → ∃ n b, trSs n (p.ctx e) (defBody e.st) = some b ∧ (e.hot = true → trSs n (p.ctx e).asHot (defBody e.st) = some b) ∧ fs[i]? = some ⟨e.N.length, e.ps.length, b⟩
  | _, _, .nil, i, e, h => by simp at h
  | _, _, .cons n h1 h3 h2, 0, e, h => by simp at h; subst h; exact ⟨n, _, h1, fun z => by rw [if_pos z] at h3; exact h3, rfl⟩
  | _, _, .cons n h1 h3 h2, i + 1, e, h => by simp at h; simpa using Comp.get h2 h
/-- what of a def stands in the written part -/
structure EntOk (K : PySem.W.Frag) (mg : Str → Option Value) (e : Ent) : Prop where
  sc : FnScope e.N e.ps (defScope e.st)
  at_ : e.cls = none → ∃ a fd, mg e.x = some (.ref a) ∧ Fun K e.x e.q e.st a fd ∧ ∀ n, ∃ vs ds, (∀ ρ H, Rvs K ρ H (e.dvs.drop n) vs) ∧ Vals vs ds ∧ Binds K fd e.ps ds
/-- an exception class's __init__: self.place = place -/
structure IniOk (K : PySem.W.Frag) (D : Addr) : Prop where
  at_ : ∃ fI fd qual st, PySem.W.findIn K (.ref D) "__init__" = some (some (.ref fI)) ∧ PySem.W.typeIn K (.ref fI) = some (.type "function") ∧ Fun K "__init__" qual st fI fd ∧ FnScope ["self", "place"] ["self", "place"] (defScope st) ∧
    (∃ p1 p2 p3 p4, defBody st = [.Assign [.Attribute (.Name "self" p1) "place" p2] (.Name "place" p3) p4]) ∧ Binds K fd ["self", "place"] []
structure PgOk (G : GC) (K : PySem.W.Frag) (mg : Str → Option Value) (p : Pg) : Prop where
  ents : ∀ e ∈ p.E, EntOk K mg e
  blt : ∀ x, p.blt.contains x = true → mg x = none
  co : ∀ x d, p.co.lookup x = some d → ∃ u, mg x = some u ∧ CVal K d u
  ex : ∀ x q, p.ex.lookup x = some q → ∃ C, G.cls[q.1]? = some C ∧ mg x = some (.ref C) ∧ ∀ (i : Nat) (D : Addr), G.cls[i]? = some D → PySem.W.exmOne K (.ref D) (.ref C) = some (q.2.contains i) ∧ PySem.W.kitOne K (.ref D) (.ref C) = some (q.2.contains i)
  exb : ∀ x tab, p.exb.lookup x = some tab → mg x = none ∧ ∃ T, bootBuiltins x = some (.type T) ∧ ∀ (i : Nat) (D : Addr), G.cls[i]? = some D → PySem.W.kitOne K (.ref D) (.type T) = some (tab.contains i)
  cls : ∀ (i : Nat) (D : Addr), G.cls[i]? = some D → ClsOk K D ∧ IniOk K D
  clz : ∀ x q, p.cl.lookup x = some q → mg x = some (.ref (clsA K q.1)) ∧ ∃ e a fd, p.E[q.2.1]? = some e ∧ e.ps.length = q.2.2 ∧ Fun K e.x e.q e.st a fd ∧ Binds K fd e.ps [] ∧ Mk K (clsA K q.1) a
  mez : ∀ m q, p.me.lookup m = some q → ∃ e a fd, p.E[q.2.1]? = some e ∧ e.ps.length = q.2.2 ∧ Fun K e.x e.q e.st a fd ∧ Binds K fd e.ps [] ∧ Cls K (clsA K q.1) ∧ Meth K (clsA K q.1) m a
  faz : ∀ j a, (j, a) ∈ p.fa → ∃ x, attrNm[a]? = some x ∧ Cls K (clsA K j) ∧ NoAttr K (clsA K j) x
  icz : ∀ j i, (j, i) ∈ p.ic → InsTy K (clsA K j) ∧ PySem.W.kitOne K (.ref (clsA K j)) (.ref (clsA K i)) = some (j == i) ∧ ∀ t : Ty, PySem.W.kitOne K (.type (tyName t)) (.ref (clsA K i)) = some false
  eqz : ∀ e0 ∈ p.E, ∀ pos q, e0.eqs.lookup pos = some q → ∃ e a fd, p.E[q.2]? = some e ∧ e.ps.length = 2 ∧ Fun K e.x e.q e.st a fd ∧ Binds K fd e.ps [] ∧ Meth K (clsA K q.1) "__eq__" a ∧ PySem.W.findIn K (.ref (clsA K q.1)) "__ne__" = some (some (.builtin "object.__ne__")) ∧
    PySem.W.mroIn K (clsA K q.1) (.type "object") = some true ∧ PySem.W.notFirst K (clsA K q.1) (.type "tuple") = true

section
variable {G : GC} {K : PySem.W.Frag} {mg : Str → Option Value} {base : Heap} {prog : Program} {w : World} {p : Pg} {P : List Fd}
theorem fin_ok {Q : VK} {E : XK} {ρ : Tk} {H : Hp} {r : SR} (h : Lf G K (fun c d H' => E c d H') ρ H r.fin fun d _ ρ' H' => ∀ v, Rv K ρ' H' d v → Q v H') :
    Ls G K (fun c d _ H' => E c d H') { nx := fun _ H' => Q .non H', rt := Q } ρ H r := by
  cases r with
  | next env st => exact fun ρ' H' σ' e rel => h ρ' H' e rel.s .non .non
  | ret d st => exact fun ρ' H' v e s rv => h ρ' H' e s v rv
  | exc c p env st => exact fun ρ' H' σ' cls dd e rel x => h ρ' H' cls dd e rel.s x
  | brk => exact h.elim
  | cnt => exact h.elim
  | bad => exact h
theorem start_re {ρ : Tk} {H : Hp} {ds : List D} {vs : List V} {N : List Str} (r : Rvs K ρ H ds vs) : Re K ρ H (ds.map some ++ List.replicate (N.length - ds.length) none) (L2.start N vs) := by
  unfold L2.start
  rw [← r.length]
  refine ⟨by simp [r.length], fun i d e => ?_⟩
  by_cases hi : i < ds.length
  · rw [List.getElem?_append_left (by simpa using hi), List.getElem?_map] at e
    rw [List.getElem?_append_left (by simpa [← r.length] using hi), List.getElem?_map]
    rw [List.getElem?_eq_getElem hi] at e
    cases e
    obtain ⟨v, hv, rv⟩ := r.get (List.getElem?_eq_getElem hi)
    rw [hv]
    exact ⟨v, rfl, rv⟩
  · exfalso
    rw [List.getElem?_append_right (by simpa using hi), List.getElem?_replicate] at e
    split at e <;> cases e
theorem ini_fn {fI : Addr} {fd : FuncData} {qual : Str} {st : Stmt} (F : Fun K "__init__" qual st fI fd) (S : FnScope ["self", "place"] ["self", "place"] (defScope st))
    (hb : ∃ p1 p2 p3 p4, defBody st = [.Assign [.Attribute (.Name "self" p1) "place" p2] (.Name "place" p3) p4]) : FnOk prog w K mg base (CXN prog w) 1 fI fd ["self", "place"] (spI K) := by
  obtain ⟨oc, od, kV, doc, pm, an, cdv, ct, osl, rfl, lk, hcd⟩ := F.ex
  refine fn_of lk hcd S (fun vs H Q E ⟨a, C, y, hv, _⟩ => by rw [hv]; rfl) fun A outer s H vs Q E hr ⟨a, C, y, hv, ha, T, hno, q⟩ => ?_
  obtain ⟨p1, p2, p3, p4, hbody⟩ := hb
  rw [hbody]
  have vis : ∀ {x : Str}, x ∈ (["self", "place"] : List Str) → Vis (cxOf (CXN prog w) prog w K mg base ["self", "place"] qual (defScope st) fI cdv A outer s H E).env.scope x := fun {x} hx => by
    rcases S.par x hx with h | h
    · exact .inl h
    · exact .inr (.inl h)
  refine ⟨_, pss_one (ps_ost (pe_var (i := 0) rfl (vis (by decide)) (by decide) (by decide)) (pe_var (i := 1) rfl (vis (by decide)) (by decide) (by decide))), ?_⟩
  subst hv
  exact ⟨y, rfl, .ref a, rfl, a, C, rfl, T, hno, .inl ⟨ha, fun dx h1 h2 => q dx h1 h2⟩⟩
theorem okXN {x qual : Str} {st : Stmt} {f : Addr} {fd : FuncData} {N ps : List Str} {k : Nat} {sp : Sp} (F : Fun K x qual st f fd) (S : FnScope N ps (defScope st)) (len : ∀ vs H Q E, sp vs H Q E → vs.length = ps.length)
    (hbody : ∀ (cdv : Value) (A : Around) (outer : List PySem.Env) (s : Shared) (H : Hp) (vs : List V) (Q : VK) (E : XK), Room k (A.deeper (envOfC qual (defScope st) s.heap.objs.size f cdv)) → sp vs H Q E →
      ∃ t, PSs (cxOf (CXN prog w) prog w K mg base N qual (defScope st) f cdv A outer s H E) (defBody st) t ∧ t { nx := fun _ H' => Q .non H', rt := Q } (L2.start N vs) H) : FnOk prog w K mg base (CXN prog w) (k + 1) f fd ps sp := by
  obtain ⟨_, _, _, _, _, _, cd, _, _, rfl, lk, hc⟩ := F.ex
  exact fn_of lk hc S len fun A outer s H vs Q E => hbody cd A outer s H vs Q E
theorem body_ok {i : Nat} {e : Ent} {ρ : Tk} {st : Store} {ds : List D} {vs : List V} {H : Hp} {Q : VK} {E : XK} {b : List Sx} {k : Nat} (hP : P[i]? = some ⟨e.N.length, e.ps.length, b⟩) (sr : Rs G K ρ st H) (r : Rvs K ρ H ds vs)
    (q : Lf G K (fun c d H' => E c d H') ρ H (run P (k + 1) i ds st) fun d _ ρ' H' => ∀ v, Rv K ρ' H' d v → Q v H') : tS G K (fun c d _ H' => E c d H') (xss (run P k) b) { nx := fun _ H' => Q .non H', rt := Q } (L2.start e.N vs) H := by
  unfold run at q
  rw [hP] at q
  obtain ⟨hl, q⟩ := of_ite q
  refine ⟨ρ, _, st, ⟨sr, start_re (N := e.N) r⟩, ?_⟩
  have q := fin_ok q
  rw [← hl] at q
  exact q
theorem fn_all (ok : PgOk G K mg p) (hc : Comp p p.E P) : ∀ (k i : Nat) (e : Ent) (a : Addr) (fd : FuncData), p.E[i]? = some e → Fun K e.x e.q e.st a fd →
    FnOk prog w K mg base (CXN prog w) (2 * k + 2) a fd e.ps (spF (G.at none) K P k i) ∧ (e.hot = true → ∀ p cu, CurP G.cls p cu → FnHp p prog w K mg base (2 * k + 2) a fd e.ps (spF (G.at (some cu)) K P k i))
  | 0, i, e, a, fd, he, F => by
    have no : ∀ cu vs H Q E, ¬ spF (G.at cu) K P 0 i vs H Q E := fun cu vs H Q E h => by
      obtain ⟨ρ, st, ds, _, _, q⟩ := h
      exact q
    exact ⟨⟨fun vs H Q E h => (no _ vs H Q E h).elim, fun A outer s H args us vs Q E _ _ _ _ h => (no _ vs H Q E h).elim⟩,
      fun _ p cu _ => ⟨fun vs H Q E h => (no _ vs H Q E h).elim, fun A outer s H args us vs Q E _ _ _ _ _ _ h => (no _ vs H Q E h).elim⟩⟩
  | k + 1, i, e, a, fd, he, F => by
    obtain ⟨n, b, hb, hbh, hP⟩ := hc.get he
    have eok := ok.ents e (List.mem_of_getElem? he)
    have len : ∀ cu vs H Q E, spF (G.at cu) K P (k + 1) i vs H Q E → vs.length = e.ps.length := fun cu vs H Q E h => by
      obtain ⟨ρ, st, ds, _, r, q⟩ := h
      rw [← r.length]
      unfold run at q
      rw [hP] at q
      obtain ⟨h, _⟩ := of_ite q
      exact h
    have fns : ∀ x fi, (tabFrom 0 p.E).lookup x = some fi → ∃ a fd ps, mg x = some (.ref a) ∧ PySem.W.keepIn K (.ref a) = true ∧ ps.length = fi.np ∧
        (∀ n, ∃ vs ds, (∀ ρ H, Rvs K ρ H (fi.dvs.drop n) vs) ∧ Vals vs ds ∧ Binds K fd ps ds) ∧ FnOk prog w K mg base (CXN prog w) (2 * k + 2) a fd ps (spF (G.at none) K P k fi.id) ∧
        (fi.hot = true → ∀ p cu, CurP G.cls p cu → FnHp p prog w K mg base (2 * k + 2) a fd ps (spF (G.at (some cu)) K P k fi.id)) := fun x fi hx => by
      obtain ⟨e', h1, _, h2, h3, h4, h5, h6⟩ := tab_get hx
      rw [Nat.sub_zero] at h1
      obtain ⟨a', fd', m1, m2, m3⟩ := (ok.ents e' (List.mem_of_getElem? h1)).at_ h6
      obtain ⟨f1, f2⟩ := fn_all ok hc k fi.id e' a' fd' h1 m2
      exact ⟨a', fd', e'.ps, by rw [← h2]; exact m1, m2.kp, h3.symm, by rw [h4]; exact m3, f1, fun z => f2 (by rw [← h5]; exact z)⟩
    have cls : ∀ (i : Nat) (D : Addr), G.cls[i]? = some D → ClsOk K D ∧ ∃ fI fd, PySem.W.findIn K (.ref D) "__init__" = some (some (.ref fI)) ∧ PySem.W.typeIn K (.ref fI) = some (.type "function") ∧
        FnOk prog w K mg base (CXN prog w) 1 fI fd ["self", "place"] (spI K) ∧ Binds K fd ["self", "place"] [] := fun i D h => by
      obtain ⟨c1, fI, fd, qual, st, c2, c3, c4, c5, c6, c7⟩ := ok.cls i D h
      exact ⟨c1, fI, fd, c2, c3, ini_fn c4 c5 c6, c7⟩
    have clz : ∀ x q, p.cl.lookup x = some q → mg x = some (.ref (clsA K q.1)) ∧ ∃ f fd ps, Mk K (clsA K q.1) f ∧ ps.length = q.2.2 ∧ Binds K fd ps [] ∧ FnOk prog w K mg base (CXN prog w) (2 * k + 2) f fd ps (spF (G.at none) K P k q.2.1) := fun x q hq => by
      obtain ⟨h1, e', a', fd', h2, h3, h4, h5, h6⟩ := ok.clz x q hq
      exact ⟨h1, a', fd', e'.ps, h6, h3, h5, (fn_all ok hc k q.2.1 e' a' fd' h2 h4).1⟩
    have mez : ∀ m q, p.me.lookup m = some q → ∃ f fd ps, Cls K (clsA K q.1) ∧ Meth K (clsA K q.1) m f ∧ ps.length = q.2.2 ∧ Binds K fd ps [] ∧ FnOk prog w K mg base (CXN prog w) (2 * k + 2) f fd ps (spF (G.at none) K P k q.2.1) := fun m q hq => by
      obtain ⟨e', a', fd', h2, h3, h4, h5, h6, h7⟩ := ok.mez m q hq
      exact ⟨a', fd', e'.ps, h6, h7, h3, h5, (fn_all ok hc k q.2.1 e' a' fd' h2 h4).1⟩
    have eqz : ∀ pos q, e.eqs.lookup pos = some q → ∃ f fd ps, Meth K (clsA K q.1) "__eq__" f ∧ ps.length = 2 ∧ Binds K fd ps [] ∧ FnOk prog w K mg base (CXN prog w) (2 * k + 2) f fd ps (spF (G.at none) K P k q.2) ∧
        PySem.W.findIn K (.ref (clsA K q.1)) "__ne__" = some (some (.builtin "object.__ne__")) ∧ PySem.W.mroIn K (clsA K q.1) (.type "object") = some true ∧ PySem.W.notFirst K (clsA K q.1) (.type "tuple") = true := fun pos q hq => by
      obtain ⟨e', a', fd', h2, h3, h4, h5, h6, h7, h8, h9⟩ := ok.eqz e (List.mem_of_getElem? he) pos q hq
      exact ⟨a', fd', e'.ps, h6, h3, h5, (fn_all ok hc k q.2 e' a' fd' h2 h4).1, h7, h8, h9⟩
    refine ⟨okXN F eok.sc (len none) fun cdv A outer s H vs Q E hr h => ?_, fun hhot pp cu hcp => fnHp_of F eok.sc (len (some cu)) fun cdv A outer s H vs Q E hot hr h => ?_⟩
    · have g : XG (G.at none) P k (cxOf (CXN prog w) prog w K mg base e.N e.q (defScope e.st) a cdv A outer s H E) (p.ctx e) :=
        { N := rfl, nd := eok.sc.nd, sc := rfl, calm := fun _ => rfl, fn := .inl ⟨rfl, fun _ => rfl⟩, room := fun _ => hr, roomH := L2H.roomH_of hr, po := passes_of rfl, top := fun _ => ⟨rfl, rfl⟩, nocur := fun _ => rfl,
          hotc := fun z => Bool.noConfusion (show false = true from z), curx := fun z => Bool.noConfusion (show false = true from z), blt := ok.blt, fns := fns, co := ok.co, ex := ok.ex, exb := ok.exb, cls := cls, clz := clz, mez := mez, faz := ok.faz, icz := ok.icz, eqz := eqz }
      obtain ⟨ρ, st, ds, sr, r, q⟩ := h
      exact ⟨_, (soundS (P := P) (k := k) n (G.at none)).2 _ _ _ b (fun cls d _ H => E cls d H) g (L2N.takes_of rfl rfl rfl rfl) hb, body_ok hP sr r q⟩
    · have g : XG (G.at (some cu)) P k (L2H.cxH (CXN prog w) prog w K mg base e.N e.q (defScope e.st) a cdv A outer s H E pp) (p.ctx e).asHot :=
        { N := rfl, nd := eok.sc.nd, sc := rfl, calm := fun z => Bool.noConfusion (show true = false from z), fn := .inl ⟨rfl, fun _ => rfl⟩, room := fun z => Bool.noConfusion (show true = false from z), roomH := hr, po := passes_of rfl, top := fun _ => ⟨rfl, rfl⟩,
          nocur := fun z => Bool.noConfusion (show true = false from z), hotc := fun _ => ⟨pp, cu, hot, List.mem_cons_self, rfl, ⟨hcp.ad, hcp.cl, hcp.fs⟩⟩, curx := fun z => Bool.noConfusion (show false = true from z), blt := ok.blt, fns := fns, co := ok.co, ex := ok.ex, exb := ok.exb, cls := cls, clz := clz, mez := mez, faz := ok.faz, icz := ok.icz, eqz := eqz }
      obtain ⟨ρ, st, ds, sr, r, q⟩ := h
      exact ⟨_, (soundS (P := P) (k := k) n (G.at (some cu))).2 _ _ _ b (fun cls d _ H => E cls d H) g (L2N.takes_of rfl rfl rfl rfl) (hbh hhot), body_ok hP sr r q⟩
end

/-! ## for the table -/
theorem hot_no {h : Bool} {X : Prop} (e : h = false) : if h = true then X else True := by rw [e, if_neg Bool.false_ne_true]; trivial
theorem hot_yes {h : Bool} {X : Prop} (e : h = true) (x : X) : if h = true then X else True := by rw [e, if_pos rfl]; exact x
theorem look_cons {β : Type} {x y : Str} {v w : β} {l : List (Str × β)} (h : ((y, v) :: l).lookup x = some w) : (x = y ∧ w = v) ∨ l.lookup x = some w := by
  rw [List.lookup_cons] at h
  cases hb : x == y with
  | true => rw [hb] at h; cases h; exact .inl ⟨by simpa using hb, rfl⟩
  | false => rw [hb] at h; exact .inr h
theorem look_mem {α β : Type} [BEq α] {x : α} {w : β} : ∀ {l : List (α × β)}, l.lookup x = some w → ∃ y, (y, w) ∈ l
  | (y, v) :: l, h => by
    rw [List.lookup_cons] at h
    cases hb : x == y with
    | true => rw [hb] at h; cases h; exact ⟨y, List.mem_cons_self⟩
    | false =>
      rw [hb] at h
      obtain ⟨z, hz⟩ := look_mem h
      exact ⟨z, List.mem_cons_of_mem _ hz⟩
theorem nth_cons {α : Type} {a b : α} {l : List α} {i : Nat} (h : (a :: l)[i]? = some b) : (i = 0 ∧ b = a) ∨ ∃ j, i = j + 1 ∧ l[j]? = some b := by
  cases i with
  | zero => exact .inl ⟨rfl, by simpa using h.symm⟩
  | succ j => exact .inr ⟨j, rfl, by simpa using h⟩
theorem kit_ref {K : PySem.W.Frag} {A B : Addr} {b : Bool} (h : PySem.W.subIn K (.ref A) (.ref B) = some b) (hB : PySem.W.subIn K (.ref B) (.ref B) = some true) (hd : PySem.W.hasDictIn K B = true) (ht : PySem.W.typeIn K (.ref B) = some (.type "type")) :
    PySem.W.kitOne K (.ref A) (.ref B) = some b := by
  unfold PySem.W.kitOne
  by_cases e : A = B
  · subst e
    rw [hB] at h
    cases h
    rw [if_pos (beq_self_eq_true _)]
  · have ne : ¬ (Value.ref A == Value.ref B) = true := fun z => e (Value.ref.inj (beq_iff_eq.mp z))
    rw [if_neg ne]
    obtain ⟨cd, hc, _⟩ := PySem.W.any_some hd
    show (if ((PySem.W.clsIn K B).isSome && PySem.W.typeIn K (.ref B) == some (.type "type")) = true then PySem.W.subIn K (.ref A) (.ref B) else none) = some b
    have e2 : ((some cd).isSome && some (Value.type "type") == some (Value.type "type")) = true := by rw [beq_self_eq_true]; rfl
    rw [hc, ht, if_pos e2]
    exact h
theorem kit_own {K : PySem.W.Frag} {T : String} {B : Addr} {b : Bool} (h : PySem.W.subIn K (.type T) (.ref B) = some b) (hd : PySem.W.hasDictIn K B = true) (ht : PySem.W.typeIn K (.ref B) = some (.type "type")) : PySem.W.kitOne K (.type T) (.ref B) = some b := by
  unfold PySem.W.kitOne
  rw [if_neg (show ¬ (Value.type T == Value.ref B) = true from by rw [show (Value.type T == Value.ref B) = false from rfl]; exact Bool.false_ne_true)]
  obtain ⟨cd, hc, _⟩ := PySem.W.any_some hd
  show (if ((PySem.W.clsIn K B).isSome && PySem.W.typeIn K (.ref B) == some (.type "type")) = true then PySem.W.subIn K (.type T) (.ref B) else none) = some b
  have e2 : ((some cd).isSome && some (Value.type "type") == some (Value.type "type")) = true := by rw [beq_self_eq_true]; rfl
  rw [hc, ht, if_pos e2]
  exact h
theorem kit_blt {K : PySem.W.Frag} {A : Addr} {T : String} {b : Bool} (m : PySem.W.kitMeta T = true) (h : PySem.W.subIn K (.ref A) (.type T) = some b) : PySem.W.kitOne K (.ref A) (.type T) = some b := by
  unfold PySem.W.kitOne
  rw [if_neg (show ¬ (Value.ref A == Value.type T) = true from by rw [show (Value.ref A == Value.type T) = false from rfl]; exact Bool.false_ne_true)]
  show (if PySem.W.kitMeta T = true then PySem.W.subIn K (.ref A) (.type T) else none) = some b
  rw [if_pos m]
  exact h
/-- a statement of a class's body -/
def inCls (s : Stmt) (j : Nat) : Stmt := match s with
  | .ClassDef _ _ _ b _ _ _ _ _ _ _ => b.getD j s
  | s => s
/-! ## the law -/
theorem script_rv {K : PySem.W.Frag} {H : Hp} {a : Addr} {ns : List Int} (o : Only H) (h : SqL K H a (ns.map V.int)) : Rv K [] H (.slst (ns.map D.int)) (.ref a) := by
  refine .slst (xs := ns.map V.int) ?_ ?_
  · rcases h with (h | ⟨ob, h⟩) | h
    · rcases o a with z | ⟨ob, xs, z⟩
      · rw [h] at z; cases z
      · rw [h] at z; cases z
    · exact .inl ⟨ob, h⟩
    · exact .inr h
  · clear h
    induction ns with
    | nil => exact .nil
    | cons n ns ih => exact .cons (.int n) ih
def GC0 : GC := { cls := [] }
def gcOf (K : PySem.W.Frag) (xs : List Str) : GC := { cls := xs.map (clsOf K) }
theorem law_sp {G : GC} {K : PySem.W.Frag} {P : List Fd} {k i : Nat} {H : Hp} {a : Addr} {ns : List Int} (o : Only H) (h : SqL K H a (ns.map V.int)) (hr : ∃ st', run P k i [.slst (ns.map D.int)] [] = .ok (.bl true) st') :
    spF G K P k i [.ref a] H (fun v _ => v = .bl true) fun _ _ _ => False := by
  obtain ⟨st', hr⟩ := hr
  refine ⟨[], [], [.slst (ns.map D.int)], ⟨rfl, fun l m a h => by simp at h, fun l o h => by simp at h⟩, .cons (script_rv o h) .nil, ?_⟩
  rw [hr]
  intro ρ' H' e s v rv
  cases rv
  rfl
end Z

set_option autoImplicit false
namespace Z
open PySem L2

/-! # Reasoning about runs -/
theorem run_eq {P : List Fd} {f : Nat} {d : Fd} (h : P[f]? = some d) (k : Nat) (ds : List D) (st : Store) (hl : ds.length = d.params) :
    run P (k + 1) f ds st = (xss (run P k) d.body (ds.map some ++ List.replicate (d.slots - d.params) none) st).fin := by
  show (match P[f]? with | some d => if ds.length = d.params then _ else R.bad | none => .bad) = _
  rw [h]
  exact if_pos hl
@[simp] theorem bind_ok {α β : Type} (a : α) (st : Store) (f : α → Store → R β) : (R.ok a st).bind f = f a st := rfl
@[simp] theorem bind_exc {α β : Type} (c : Nat) (p : D) (st : Store) (f : α → Store → R β) : (R.exc c p st : R α).bind f = .exc c p st := rfl
@[simp] theorem toS_ok {α : Type} (a : α) (st : Store) (env : Env) (f : α → Store → SR) : (R.ok a st).toS env f = f a st := rfl
@[simp] theorem toS_exc {α : Type} (c : Nat) (p : D) (st : Store) (env : Env) (f : α → Store → SR) : (R.exc c p st : R α).toS env f = .exc c p env st := rfl
@[simp] theorem seq_next (env : Env) (st : Store) (f : Env → Store → SR) : (SR.next env st).seq f = f env st := rfl
@[simp] theorem seq_ret (d : D) (st : Store) (f : Env → Store → SR) : (SR.ret d st).seq f = .ret d st := rfl
@[simp] theorem seq_exc (c : Nat) (p : D) (env : Env) (st : Store) (f : Env → Store → SR) : (SR.exc c p env st).seq f = .exc c p env st := rfl
@[simp] theorem fin_ret (d : D) (st : Store) : (SR.ret d st).fin = .ok d st := rfl
@[simp] theorem fin_next (env : Env) (st : Store) : (SR.next env st).fin = .ok .non st := rfl
@[simp] theorem fin_exc (c : Nat) (p : D) (env : Env) (st : Store) : (SR.exc c p env st).fin = .exc c p st := rfl
@[simp] theorem truth_bl (st : Store) (b : Bool) : truth st (.bl b) = some b := rfl
theorem truth_int (st : Store) (i : Int) : truth st (.int i) = some (i != 0) := rfl

section
variable (F : FT) (env : Env) (st : Store)
theorem ev_v (i : Nat) : ev F (.v i) env st = (match env[i]? with | some (some d) => .ok d st | _ => .bad) := rfl
theorem ev_c (d : D) : ev F (.c d) env st = .ok d st := rfl
theorem ev_op (o : Op) (es : List Ex) : ev F (.op o es) env st = (evs F es env st).bind fun ds st1 => opSem o ds st1 := rfl
theorem ev_call (f : Nat) (es : List Ex) : ev F (.call f es) env st = (evs F es env st).bind fun ds st1 => F f ds st1 := rfl
theorem ev_and (a b : Ex) : ev F (.and a b) env st = (ev F a env st).bind fun x st1 => match truth st1 x with
    | some true => ev F b env st1
    | some false => .ok x st1
    | none => .bad := rfl
theorem ev_or (a b : Ex) : ev F (.or a b) env st = (ev F a env st).bind fun x st1 => match truth st1 x with
    | some true => .ok x st1
    | some false => ev F b env st1
    | none => .bad := rfl
theorem ev_not (a : Ex) : ev F (.not a) env st = (ev F a env st).bind fun x st1 => match truth st1 x with
    | some k => .ok (.bl (!k)) st1
    | none => .bad := rfl
theorem ev_ifx (c a b : Ex) : ev F (.ifx c a b) env st = (ev F c env st).bind fun x st1 => match truth st1 x with
    | some true => ev F a env st1
    | some false => ev F b env st1
    | none => .bad := rfl
theorem evs_nil : evs F [] env st = .ok [] st := rfl
theorem evs_cons (e : Ex) (es : List Ex) : evs F (e :: es) env st = (ev F e env st).bind fun d st1 => (evs F es env st1).bind fun ds st2 => .ok (d :: ds) st2 := rfl
theorem xs_asg (t : Tg) (e : Ex) : xs F (.asg t e) env st = (ev F e env st).toS env fun d st1 => match setT t d env with
    | some env' => .next env' st1
    | none => .bad := rfl
theorem xs_expr (e : Ex) : xs F (.expr e) env st = (ev F e env st).toS env fun _ st1 => .next env st1 := rfl
theorem xs_ret (e : Ex) : xs F (.ret e) env st = (ev F e env st).toS env fun d st1 => .ret d st1 := rfl
theorem xs_ite (c : Ex) (t f : List Sx) : xs F (.ite c t f) env st = (ev F c env st).toS env fun x st1 => match truth st1 x with
    | some true => xss F t env st1
    | some false => xss F f env st1
    | none => .bad := rfl
theorem xs_brk : xs F .brk env st = .brk env st := rfl
theorem xs_cnt : xs F .cnt env st = .cnt env st := rfl
theorem xs_pass : xs F .pass env st = .next env st := rfl
theorem xss_nil : xss F [] env st = .next env st := rfl
theorem xss_cons (s : Sx) (ss : List Sx) : xss F (s :: ss) env st = (xs F s env st).seq fun env' st' => xss F ss env' st' := rfl
theorem setT_nm (i : Nat) (d : D) : setT (.nm i) d env = some (env.set i (some d)) := rfl
noncomputable def compOne (own : List Nat) (t : Tg) (ifs : List Ex) (elt : Ex) : D → Store → R (Option D) := fun x st2 => match setT t x (wipeE own env) with
  | some env' => (evTests F ifs env' st2).bind fun ok st3 => if ok then (ev F elt env' st3).bind fun d st4 => .ok (some d) st4 else .ok none st3
  | none => .bad
theorem comp_eq {own : List Nat} {t : Tg} {k : Ik} {src ifs : List Ex} {elt : Ex} {ds : List D} {st1 : Store} {S : Src} (h : evs F src env st = .ok ds st1) (hS : srcOf k ds st1 = some S) :
    ev F (.comp own t k src ifs elt) env st = evComp S.same st1.length (compOne F env own t ifs elt) S.items (st1 ++ [.lst []]) := by
  show (evs F src env st).bind _ = _
  rw [h, bind_ok]
  show (match srcOf k ds st1 with | some S => _ | none => _) = _
  rw [hS]; rfl
theorem one_eq {own : List Nat} {t : Tg} {elt : Ex} {x d : D} {env' : Env} {st' : Store} (h : setT t x (wipeE own env) = some env') (he : ev F elt env' st = .ok d st') : compOne F env own t [] elt x st = .ok (some d) st' := by
  show (match setT t x (wipeE own env) with | some env' => _ | none => _) = _
  rw [h]
  show (ev F elt env' st).bind _ = _
  rw [he]; rfl
theorem for_eq {t : Tg} {k : Ik} {src : List Ex} {body : List Sx} {ds : List D} {st1 : Store} {S : Src} (h : evs F src env st = .ok ds st1) (hS : srcOf k ds st1 = some S) :
    xs F (.for_ t k src body) env st = evFor S.same (fun x env2 st2 => match setT t x env2 with
        | some env' => xss F body env' st2
        | none => .bad) S.items env st1 := by
  show (evs F src env st).toS env _ = _
  rw [h, toS_ok]
  show (match srcOf k ds st1 with | some S => _ | none => _) = _
  rw [hS]
  try rfl
end
theorem xss_step {F : FT} {s : Sx} {ss : List Sx} {env env' : Env} {st st' : Store} {r : SR} (h : xs F s env st = .next env' st') (h2 : xss F ss env' st' = r) : xss F (s :: ss) env st = r := by
  rw [xss_cons, h, seq_next, h2]
theorem xss_append (F : FT) : ∀ (a b : List Sx) (env : Env) (st : Store), xss F (a ++ b) env st = (xss F a env st).seq fun env' st' => xss F b env' st'
  | [], b, env, st => rfl
  | s :: a, b, env, st => by
    show (xs F s env st).seq (fun env' st' => xss F (a ++ b) env' st') = ((xs F s env st).seq fun env' st' => xss F a env' st').seq _
    cases xs F s env st with
    | next env' st' => exact xss_append F a b env' st'
    | _ => rfl
theorem xss_one (F : FT) (s : Sx) (env : Env) (st : Store) : xss F [s] env st = xs F s env st := by
  show (xs F s env st).seq _ = _
  cases xs F s env st <;> rfl
/-! ### the operations, one by one -/
section
variable (st : Store) (i j : Int) (a b : D) (p q : Bool)
theorem o_addI : opSem .add [.int i, .int j] st = .ok (.int (i + j)) st := rfl
theorem o_subI : opSem .sub [.int i, .int j] st = .ok (.int (i - j)) st := rfl
theorem o_mulR (h : big64 j = true) : opSem .mul [.int i, .int j] st = .ok (.int (i * j)) st := by
  show (if (big64 i || big64 j) = true then _ else _) = _
  rw [h, Bool.or_true, if_pos rfl]
theorem o_mulL (h : big64 i = true) : opSem .mul [.int i, .int j] st = .ok (.int (i * j)) st := by
  show (if (big64 i || big64 j) = true then _ else _) = _
  rw [h, Bool.true_or, if_pos rfl]
theorem o_mod (h : 0 < j) : opSem .mod [.int i, .int j] st = .ok (.int (i % j)) st := if_pos h
theorem o_fdiv (h : 0 < j) (h2 : j < 4611686018427387904) : opSem .fdiv [.int i, .int j] st = .ok (.int (i / j)) st := if_pos ⟨h, h2⟩
theorem o_toInt : opSem .toInt [.int i] st = .ok (.int i) st := rfl
theorem o_toIntB : opSem .toInt [.bl p] st = .ok (.int (if p then 1 else 0)) st := rfl
theorem o_asInt : opSem .asInt [.int i] st = .ok (.int i) st := rfl
theorem o_neg : opSem .neg [.int i] st = .ok (.int (-i)) st := rfl
theorem o_ltI : opSem .lt [.int i, .int j] st = .ok (.bl (decide (i < j))) st := rfl
theorem o_leI : opSem .le [.int i, .int j] st = .ok (.bl (decide (i ≤ j))) st := rfl
theorem o_gtI : opSem .gt [.int i, .int j] st = .ok (.bl (decide (j < i))) st := rfl
theorem o_geI : opSem .ge [.int i, .int j] st = .ok (.bl (decide (j ≤ i))) st := rfl
theorem o_eq : opSem .eq [a, b] st = (match eqSem a b st with | some k => .ok (.bl k) st | none => .bad) := rfl
theorem o_ne : opSem .ne [a, b] st = (match eqSem a b st with | some k => .ok (.bl (!k)) st | none => .bad) := rfl
theorem o_eqI : opSem .eq [.int i, .int j] st = .ok (.bl (i == j)) st := rfl
theorem o_neI : opSem .ne [.int i, .int j] st = .ok (.bl (!(i == j))) st := rfl
theorem o_eqB : opSem .eq [.bl p, .bl q] st = .ok (.bl (p == q)) st := rfl
theorem o_neB : opSem .ne [.bl p, .bl q] st = .ok (.bl (!(p == q))) st := rfl
theorem o_eqS (x y : List Nat) : opSem .eq [.str x, .str y] st = .ok (.bl (x == y)) st := rfl
theorem o_neS (x y : List Nat) : opSem .ne [.str x, .str y] st = .ok (.bl (!(x == y))) st := rfl
theorem o_isB : opSem .is [.bl p, .bl q] st = .ok (.bl (p == q)) st := rfl
theorem o_isnotB : opSem .isnot [.bl p, .bl q] st = .ok (.bl (p != q)) st := rfl
theorem o_len : opSem .len [a] st = lenSem a st := rfl
theorem o_ix : opSem .ix [a, .int i] st = ixSem a i st := rfl
theorem o_slF : opSem (.sl true false) [a, .int i] st = slSem a (some i) none st := rfl
theorem o_slT : opSem (.sl false true) [a, .int i] st = slSem a none (some i) st := rfl
theorem o_slFT : opSem (.sl true true) [a, .int i, .int j] st = slSem a (some i) (some j) st := rfl
theorem o_add : opSem .add [a, b] st = addSem a b st := rfl
theorem o_tup (ds : List D) (h : ds.length ≤ SZ) : opSem .tup ds st = .ok (.tup ds) st := if_pos h
theorem o_lst (ds : List D) (h : ds.length ≤ SZ) : opSem .lst ds st = .ok (.loc st.length) (st ++ [.lst ds]) := if_pos h
theorem o_toTup : opSem .toTup [a] st = (match itemsD st a with | some xs => .ok (.tup xs) st | none => .bad) := rfl
theorem o_isinB (t : Ty) : opSem (.isin t) [.bl p] st = .ok (.bl (isTy .bool t)) st := rfl
theorem o_isinI (t : Ty) : opSem (.isin t) [.int i] st = .ok (.bl (isTy .int t)) st := rfl
end
theorem at0 {α : Type} (x : α) (xs : List α) : atI (x :: xs) 0 = some x := atI_nat (j := 0) rfl
theorem at1 {α : Type} (x y : α) (xs : List α) : atI (x :: y :: xs) 1 = some y := atI_nat (j := 1) rfl
theorem at2 {α : Type} (x y z : α) (xs : List α) : atI (x :: y :: z :: xs) 2 = some z := atI_nat (j := 2) rfl
theorem ixN_nat {n j : Nat} (h : j < n) : ixN n (j : Int) = some j := by
  unfold ixN
  rw [if_pos (by omega), if_pos (by omega)]
  rfl
theorem ixN_20 (x y : D) : ixN [x, y].length 0 = some 0 := ixN_nat (n := 2) (j := 0) (by decide)
theorem ixN_21 (x y : D) : ixN [x, y].length 1 = some 1 := ixN_nat (n := 2) (j := 1) (by decide)
theorem len_flst (st : Store) (xs : List D) : lenSem (.flst xs) st = .ok (.int xs.length) st := rfl
theorem len_slst (st : Store) (xs : List D) : lenSem (.slst xs) st = .ok (.int xs.length) st := rfl
theorem len_tup (st : Store) (xs : List D) : lenSem (.tup xs) st = .ok (.int xs.length) st := rfl

/-! ### texts, names -/
def nameD (n : List (List Nat)) : D := .tup (n.map .str)
theorem derefs_strs (g : Nat → Option D) : ∀ n : List (List Nat), derefDs g (n.map D.str) = some (n.map D.str)
  | [] => rfl
  | x :: xs => by
    show (match derefD g (.str x), derefDs g (xs.map D.str) with | some y, some ys => some (y :: ys) | _, _ => none) = _
    rw [derefs_strs g xs]; rfl
theorem pure_name (st : Store) (n : List (List Nat)) : pureD st (nameD n) = some (nameD n) := by
  show (derefDs _ (n.map D.str)).map D.tup = _
  rw [derefs_strs]; rfl
theorem deep_strs : ∀ n : List (List Nat), deepDs (n.map D.str) = 0
  | [] => rfl
  | x :: xs => by show max 0 (deepDs (xs.map D.str)) = 0; rw [deep_strs xs]; rfl
theorem deep_name (n : List (List Nat)) : deepD (nameD n) = 1 := by show deepDs (n.map D.str) + 1 = 1; rw [deep_strs]
theorem eqs_strs : ∀ a b : List (List Nat), eqDs (a.map D.str) (b.map D.str) = decide (a = b)
  | [], [] => rfl
  | [], _ :: _ => by simp [eqDs]
  | _ :: _, [] => by simp [eqDs]
  | x :: xs, y :: ys => by
    show ((x == y) && eqDs (xs.map D.str) (ys.map D.str)) = _
    rw [eqs_strs xs ys]
    by_cases h1 : x = y <;> by_cases h2 : xs = ys <;> simp [h1, h2]
theorem eq_name (a b : List (List Nat)) : eqD (nameD a) (nameD b) = decide (a = b) := eqs_strs a b
theorem eqSem_name (st : Store) (a b : List (List Nat)) : eqSem (nameD a) (nameD b) st = some (decide (a = b)) := by
  unfold eqSem
  rw [pure_name, pure_name]
  simp only [deep_name, eq_name]
  rfl
theorem eqSem_int (st : Store) (a b : Int) : eqSem (.int a) (.int b) st = some (a == b) := rfl
theorem eqSem_bl (st : Store) (a b : Bool) : eqSem (.bl a) (.bl b) st = some (a == b) := rfl
theorem eqSem_str (st : Store) (a b : List Nat) : eqSem (.str a) (.str b) st = some (a == b) := rfl
theorem cut_map {α β : Type} (f : α → β) (xs : List α) (lo hi : Option Int) : cutD (xs.map f) lo hi = (cutD xs lo hi).map f := by
  unfold cutD
  rw [List.length_map, List.map_take, List.map_drop]
theorem cut_from {α : Type} (xs : List α) (i : Nat) : cutD xs (some (i : Int)) none = xs.drop i := by
  unfold cutD
  rw [HT.sIx_nat, HT.sIx_none]
  rcases Nat.le_total i xs.length with h | h
  · rw [Nat.min_eq_left h]
    exact List.take_of_length_le (by rw [List.length_drop]; exact Nat.le_refl _)
  · rw [Nat.min_eq_right h, List.drop_length, List.drop_eq_nil_of_le h]
    simp
end Z

set_option autoImplicit false
set_option maxHeartbeats 1000000
namespace Z
open PySem L2
/-- the draw that every law has -/
def drawB : List Sx :=
  [.ite (.op .eq [.op .ix [.v 0, .c (.int 1)], .c (.int 0)]) [.asg (.nm 3) (.c (.int 0)), .ite (.op .gt [.op .len [.v 1],
    .c (.int 0)]) [.asg (.nm 3) (.op .ix [.v 1, .op .mod [.op .ix [.v 0, .c (.int 0)], .op .len [.v 1]]])] [], .ite (.op .lt [.v 3,
    .c (.int 0)]) [.asg (.nm 3) (.op .sub [.c (.int 1), .op .mul [.c (.int 2), .v 3]])] [],
    .asg (.nm 4) (.op .mod [.op .toInt [.op .mul [.op .add [.op .add [.v 3, .op .mul [.op .ix [.v 0, .c (.int 0)], .c (.int 7919)]], .c (.int 1)],
    .c (.int 48271)]], .c (.int 2147483647)]), .setix (.v 0) (.c (.int 1)) (.op .mod [.op .toInt [.op .add [.op .mul [.v 4, .c (.int 69621)],
    .op .mul [.op .ix [.v 0, .c (.int 0)], .c (.int 104729)]]], .c (.int 4294967291)]), .ite (.and (.op .ge [.v 3, .op .pow [.c (.int 10),
    .c (.int 18)]]) (.op .lt [.op .ix [.v 0, .c (.int 0)], .op .len [.v 1]])) [.setix (.v 0) (.c (.int 1)) (.v 3)] [],
    .setix (.v 0) (.c (.int 0)) (.op .add [.op .ix [.v 0, .c (.int 0)], .c (.int 1)])] [], .asg (.nm 5) (.op .mod [.op .toInt [.op .ix [.v 0,
    .c (.int 1)]], .v 2]), .setix (.v 0) (.c (.int 1)) (.op .fdiv [.op .ix [.v 0, .c (.int 1)], .v 2]), .ret (.v 5)]
theorem set_same {st : Store} {a : Nat} {o o' : DO} (h : st[a]? = some o) : (st.set a o')[a]? = some o' := by
  obtain ⟨hl, _⟩ := List.getElem?_eq_some_iff.mp h
  exact List.getElem?_set_self hl
theorem set_set {st : Store} {a : Nat} {o o' : DO} : (st.set a o).set a o' = st.set a o' := List.set_set _
theorem ix_loc {st : Store} {a : Nat} {xs : List D} (h : st[a]? = some (.lst xs)) (i : Int) : ixSem (.loc a) i st = (match atI xs i with | some d => .ok d st | none => .bad) := by
  show (match (match st[a]? with | some (.lst xs) => some xs | _ => none) with | some xs => (match atI xs i with | some d => R.ok d st | none => .bad) | none => .bad) = _
  rw [h]
theorem ix_slst {st : Store} {xs : List D} (i : Int) : ixSem (.slst xs) i st = (match atI xs i with | some d => .ok d st | none => .bad) := rfl
theorem atI_lt {α : Type} {xs : List α} {j : Nat} (h : j < xs.length) : atI xs (j : Int) = some xs[j] := atI_nat (List.getElem?_eq_getElem h)
theorem draw_mid (F : FT) {st : Store} {a : Nat} {i j size : Int} (sc : D) (env3 env4 : Option D) (h : st[a]? = some (.lst [.int i, .int j])) (hi : 0 ≤ i) (hj : 0 ≤ j) (hs : 0 < size) (hs2 : size < 4611686018427387904) :
    ∃ d i' j', (xss F (drawB.drop 1) [some (.loc a), some sc, some (.int size), env3, env4, none] st).fin = .ok (.int d) (st.set a (.lst [.int i', .int j'])) ∧ 0 ≤ d ∧ d < size ∧ 0 ≤ i' ∧ 0 ≤ j' := by
  refine ⟨j % size, i, j / size, ?_, Int.emod_nonneg _ (by omega), Int.emod_lt_of_pos _ hs, hi, Int.ediv_nonneg hj (by omega)⟩
  simp only [drawB, List.drop_succ_cons, List.drop_zero, xss, xs, ev, evs, List.getElem?_cons_zero, List.getElem?_cons_succ, bind_ok, toS_ok, o_ix, ix_loc h, at0, at1, setT, seq_next, o_toInt, o_mod _ _ _ hs,
    o_fdiv _ _ _ hs hs2, List.set_cons_succ, List.set_cons_zero, h, ixN_21, seq_ret, fin_ret]
theorem big_2 : big64 2 = true := by decide
theorem big_7919 : big64 7919 = true := by decide
theorem big_48271 : big64 48271 = true := by decide
theorem big_69621 : big64 69621 = true := by decide
theorem big_104729 : big64 104729 = true := by decide
/-- what stands in the state's second place once the first branch has run, behind the cell -/
theorem draw_cell (F : FT) {st : Store} {a : Nat} {i cell : Int} {ns : List Int} (sz : D) (env4 : Option D) (h : st[a]? = some (.lst [.int i, .int 0])) (hi : 0 ≤ i) (hc : 0 ≤ cell) (B : List Sx) (hB : B = [.asg (.nm 4) (.op .mod [.op .toInt [.op .mul [.op .add [.op .add [.v 3, .op .mul [.op .ix [.v 0, .c (.int 0)], .c (.int 7919)]], .c (.int 1)],
    .c (.int 48271)]], .c (.int 2147483647)]), .setix (.v 0) (.c (.int 1)) (.op .mod [.op .toInt [.op .add [.op .mul [.v 4, .c (.int 69621)],
    .op .mul [.op .ix [.v 0, .c (.int 0)], .c (.int 104729)]]], .c (.int 4294967291)]), .ite (.and (.op .ge [.v 3, .op .pow [.c (.int 10),
    .c (.int 18)]]) (.op .lt [.op .ix [.v 0, .c (.int 0)], .op .len [.v 1]])) [.setix (.v 0) (.c (.int 1)) (.v 3)] [],
    .setix (.v 0) (.c (.int 0)) (.op .add [.op .ix [.v 0, .c (.int 0)], .c (.int 1)])]) :
    ∃ e4 i' j', xss F B [some (.loc a), some (.slst (ns.map .int)), some sz, some (.int cell), env4, none] st = .next [some (.loc a), some (.slst (ns.map .int)), some sz, some (.int cell), e4, none] (st.set a (.lst [.int i', .int j'])) ∧ 0 ≤ i' ∧ 0 ≤ j' := by
  subst hB
  have h1 : ∀ x, (st.set a (.lst [.int i, .int x]))[a]? = some (.lst [.int i, .int x]) := fun x => set_same h
  have hp : opSem .pow [.int 10, .int 18] = fun st => .ok (.int (10 ^ 18)) st := by funext st; rfl
  generalize hm : (cell + i * 7919 + 1) * 48271 % 2147483647 = m
  generalize hn : (m * 69621 + i * 104729) % 4294967291 = n
  have hn0 : 0 ≤ n := by rw [← hn]; exact Int.emod_nonneg _ (by decide)
  by_cases hb : (10 : Int) ^ 18 ≤ cell
  · by_cases hb2 : i < (ns.map D.int).length
    · refine ⟨some (.int m), i + 1, cell, ?_, by omega, hc⟩
      simp only [xss, xs, ev, evs, List.getElem?_cons_zero, List.getElem?_cons_succ, bind_ok, toS_ok, o_ix, ix_loc h, ix_loc (h1 _), at0, at1, setT, seq_next, o_toInt, o_addI, o_mulR _ _ _ big_7919, o_mulR _ _ _ big_48271,
        o_mulR _ _ _ big_69621, o_mulR _ _ _ big_104729, o_mod _ _ 2147483647 (by decide), o_mod _ _ 4294967291 (by decide), List.set_cons_succ, List.set_cons_zero, hm, hn, h, h1, ixN_21, ixN_20, o_geI, hp, decide_eq_true hb, truth_bl,
        o_len, len_slst, o_ltI, decide_eq_true hb2, set_set]
    · refine ⟨some (.int m), i + 1, n, ?_, by omega, hn0⟩
      simp only [xss, xs, ev, evs, List.getElem?_cons_zero, List.getElem?_cons_succ, bind_ok, toS_ok, o_ix, ix_loc h, ix_loc (h1 _), at0, at1, setT, seq_next, o_toInt, o_addI, o_mulR _ _ _ big_7919, o_mulR _ _ _ big_48271,
        o_mulR _ _ _ big_69621, o_mulR _ _ _ big_104729, o_mod _ _ 2147483647 (by decide), o_mod _ _ 4294967291 (by decide), List.set_cons_succ, List.set_cons_zero, hm, hn, h, h1, ixN_21, ixN_20, o_geI, hp, decide_eq_true hb, truth_bl,
        o_len, len_slst, o_ltI, decide_eq_false hb2, set_set]
  · refine ⟨some (.int m), i + 1, n, ?_, by omega, hn0⟩
    simp only [xss, xs, ev, evs, List.getElem?_cons_zero, List.getElem?_cons_succ, bind_ok, toS_ok, o_ix, ix_loc h, ix_loc (h1 _), at0, at1, setT, seq_next, o_toInt, o_addI, o_mulR _ _ _ big_7919, o_mulR _ _ _ big_48271,
      o_mulR _ _ _ big_69621, o_mulR _ _ _ big_104729, o_mod _ _ 2147483647 (by decide), o_mod _ _ 4294967291 (by decide), List.set_cons_succ, List.set_cons_zero, hm, hn, h, h1, ixN_21, ixN_20, o_geI, hp, decide_eq_false hb, truth_bl,
      o_len, len_slst, o_ltI, set_set]
/-- THE DRAW: some digit below the size; the state is a pair of numbers that aren't negative -/
theorem draw_spec {P : List Fd} {f : Nat} (hP : P[f]? = some ⟨6, 3, drawB⟩) (k : Nat) {st : Store} {a : Nat} {i j size : Int} {ns : List Int} (h : st[a]? = some (.lst [.int i, .int j])) (hi : 0 ≤ i) (hj : 0 ≤ j) (hs : 0 < size) (hs2 : size < 4611686018427387904) :
    ∃ d i' j', run P (k + 1) f [.loc a, .slst (ns.map .int), .int size] st = .ok (.int d) (st.set a (.lst [.int i', .int j'])) ∧ 0 ≤ d ∧ d < size ∧ 0 ≤ i' ∧ 0 ≤ j' := by
  rw [run_eq hP k _ _ rfl]
  show ∃ d i' j', (xss (run P k) drawB [some (.loc a), some (.slst (ns.map .int)), some (.int size), none, none, none] st).fin = _ ∧ _
  have cut : ∀ (env : Env) (st' : Store) (hd : Sx), drawB.head? = some hd → xs (run P k) hd [some (.loc a), some (.slst (ns.map .int)), some (.int size), none, none, none] st = .next env st' →
      xss (run P k) drawB [some (.loc a), some (.slst (ns.map .int)), some (.int size), none, none, none] st = xss (run P k) (drawB.drop 1) env st' := by
    intro env st' hd h1 h2
    have : drawB = hd :: drawB.drop 1 := by
      cases h1; rfl
    rw [this]
    show (xs _ hd _ _).seq _ = _
    rw [h2]
    rfl
  by_cases hj0 : j = 0
  · subst hj0
    obtain ⟨cell, hc, hcell⟩ : ∃ cell : Int, 0 ≤ cell ∧ xss (run P k) [.asg (.nm 3) (.c (.int 0)), .ite (.op .gt [.op .len [.v 1], .c (.int 0)]) [.asg (.nm 3) (.op .ix [.v 1, .op .mod [.op .ix [.v 0, .c (.int 0)], .op .len [.v 1]]])] [],
        .ite (.op .lt [.v 3, .c (.int 0)]) [.asg (.nm 3) (.op .sub [.c (.int 1), .op .mul [.c (.int 2), .v 3]])] []] [some (.loc a), some (.slst (ns.map .int)), some (.int size), none, none, none] st =
        .next [some (.loc a), some (.slst (ns.map .int)), some (.int size), some (.int cell), none, none] st := by
      have neg : ∀ c0 : Int, ∃ cell : Int, 0 ≤ cell ∧ xs (run P k) (.ite (.op .lt [.v 3, .c (.int 0)]) [.asg (.nm 3) (.op .sub [.c (.int 1), .op .mul [.c (.int 2), .v 3]])] []) [some (.loc a), some (.slst (ns.map .int)), some (.int size), some (.int c0), none, none] st =
          .next [some (.loc a), some (.slst (ns.map .int)), some (.int size), some (.int cell), none, none] st := by
        intro c0
        by_cases h0 : c0 < 0
        · refine ⟨1 - 2 * c0, by omega, ?_⟩
          simp only [xss, xs, ev, evs, List.getElem?_cons_zero, List.getElem?_cons_succ, bind_ok, toS_ok, o_ltI, decide_eq_true h0, truth_bl, o_mulL _ _ _ big_2, o_subI, setT, seq_next, List.set_cons_succ, List.set_cons_zero]
        · refine ⟨c0, by omega, ?_⟩
          simp only [xss, xs, ev, evs, List.getElem?_cons_zero, List.getElem?_cons_succ, bind_ok, toS_ok, o_ltI, decide_eq_false h0, truth_bl]
      by_cases hl : (0 : Int) < (ns.map D.int).length
      · have hlt : (i % ((ns.map D.int).length : Int)).toNat < (ns.map D.int).length := by
          have h1 := Int.emod_lt_of_pos i hl
          have h2 := Int.emod_nonneg i (by omega : ((ns.map D.int).length : Int) ≠ 0)
          omega
        have hat : atI (ns.map D.int) (i % ((ns.map D.int).length : Int)) = some (.int (ns[(i % ((ns.map D.int).length : Int)).toNat]'(by simpa using hlt))) := by
          have h2 := Int.emod_nonneg i (by omega : ((ns.map D.int).length : Int) ≠ 0)
          have e := atI_lt hlt
          rw [Int.toNat_of_nonneg h2] at e
          rw [e, List.getElem_map]
        obtain ⟨cell, hc, hx⟩ := neg (ns[(i % ((ns.map D.int).length : Int)).toNat]'(by simpa using hlt))
        refine ⟨cell, hc, ?_⟩
        refine Eq.trans (xss_append (run P k) [.asg (.nm 3) (.c (.int 0)), .ite (.op .gt [.op .len [.v 1], .c (.int 0)]) [.asg (.nm 3) (.op .ix [.v 1, .op .mod [.op .ix [.v 0, .c (.int 0)], .op .len [.v 1]]])] []] [_] _ _) ?_
        have e : xss (run P k) [.asg (.nm 3) (.c (.int 0)), .ite (.op .gt [.op .len [.v 1], .c (.int 0)]) [.asg (.nm 3) (.op .ix [.v 1, .op .mod [.op .ix [.v 0, .c (.int 0)], .op .len [.v 1]]])] []] [some (.loc a), some (.slst (ns.map .int)), some (.int size), none, none, none] st =
            .next [some (.loc a), some (.slst (ns.map .int)), some (.int size), some (.int (ns[(i % ((ns.map D.int).length : Int)).toNat]'(by simpa using hlt))), none, none] st := by
          simp only [xss, xs, ev, evs, List.getElem?_cons_zero, List.getElem?_cons_succ, bind_ok, toS_ok, setT, seq_next, List.set_cons_succ, List.set_cons_zero, o_len, len_slst, o_gtI, decide_eq_true hl, truth_bl, o_ix, ix_loc h, at0, o_mod _ _ _ hl, ix_slst, hat]
        rw [e, seq_next, xss_one, hx]
      · obtain ⟨cell, hc, hx⟩ := neg 0
        refine ⟨cell, hc, ?_⟩
        refine Eq.trans (xss_append (run P k) [.asg (.nm 3) (.c (.int 0)), .ite (.op .gt [.op .len [.v 1], .c (.int 0)]) [.asg (.nm 3) (.op .ix [.v 1, .op .mod [.op .ix [.v 0, .c (.int 0)], .op .len [.v 1]]])] []] [_] _ _) ?_
        have e : xss (run P k) [.asg (.nm 3) (.c (.int 0)), .ite (.op .gt [.op .len [.v 1], .c (.int 0)]) [.asg (.nm 3) (.op .ix [.v 1, .op .mod [.op .ix [.v 0, .c (.int 0)], .op .len [.v 1]]])] []] [some (.loc a), some (.slst (ns.map .int)), some (.int size), none, none, none] st =
            .next [some (.loc a), some (.slst (ns.map .int)), some (.int size), some (.int 0), none, none] st := by
          simp only [xss, xs, ev, evs, List.getElem?_cons_zero, List.getElem?_cons_succ, bind_ok, toS_ok, setT, seq_next, List.set_cons_succ, List.set_cons_zero, o_len, len_slst, o_gtI, decide_eq_false hl, truth_bl]
        rw [e, seq_next, xss_one, hx]
    have hcell : ∃ e4 i' j', xs (run P k) (drawB.head (by decide)) [some (.loc a), some (.slst (ns.map .int)), some (.int size), none, none, none] st =
        .next [some (.loc a), some (.slst (ns.map .int)), some (.int size), some (.int cell), e4, none] (st.set a (.lst [.int i', .int j'])) ∧ 0 ≤ i' ∧ 0 ≤ j' := by
      obtain ⟨e4, i', j', he, r⟩ := draw_cell (run P k) (cell := cell) (ns := ns) (.int size) none h hi hc _ rfl
      refine ⟨e4, i', j', ?_, r⟩
      show (ev _ _ _ _).toS _ _ = _
      have ht : ev (run P k) (.op .eq [.op .ix [.v 0, .c (.int 1)], .c (.int 0)]) [some (.loc a), some (.slst (ns.map .int)), some (.int size), none, none, none] st = .ok (.bl true) st := by
        simp only [ev, evs, List.getElem?_cons_zero, List.getElem?_cons_succ, bind_ok, o_ix, ix_loc h, at1, o_eqI, beq_self_eq_true]
      rw [ht]
      simp only [toS_ok, truth_bl]
      refine Eq.trans (xss_append (run P k) [.asg (.nm 3) (.c (.int 0)), .ite (.op .gt [.op .len [.v 1], .c (.int 0)]) [.asg (.nm 3) (.op .ix [.v 1, .op .mod [.op .ix [.v 0, .c (.int 0)], .op .len [.v 1]]])] [],
        .ite (.op .lt [.v 3, .c (.int 0)]) [.asg (.nm 3) (.op .sub [.c (.int 1), .op .mul [.c (.int 2), .v 3]])] []] _ _ _) ?_
      rw [hcell]
      exact he
    obtain ⟨e4, i', j', he, hi', hj'⟩ := hcell
    rw [cut _ _ _ rfl he]
    obtain ⟨d, i2, j2, hd, r⟩ := draw_mid (run P k) (.slst (ns.map .int)) (some (.int cell)) e4 (set_same (o' := .lst [.int i', .int j']) h) hi' hj' hs hs2
    rw [set_set] at hd
    exact ⟨d, i2, j2, hd, r⟩
  · have he : xs (run P k) (drawB.head (by decide)) [some (.loc a), some (.slst (ns.map .int)), some (.int size), none, none, none] st = .next [some (.loc a), some (.slst (ns.map .int)), some (.int size), none, none, none] st := by
      simp only [drawB, List.head_cons, xss, xs, ev, evs, List.getElem?_cons_zero, List.getElem?_cons_succ, bind_ok, toS_ok, o_ix, ix_loc h, at1, o_eqI, truth_bl, beq_eq_false_iff_ne.mpr hj0]
    rw [cut _ _ _ rfl he]
    exact draw_mid (run P k) _ none none h hi hj hs hs2
end Z

set_option autoImplicit false
set_option maxHeartbeats 1000000
namespace Z
open PySem L2

/-! # The law's state, loops, comprehensions -/
inductive All2 {α β : Type} (R : α → β → Prop) : List α → List β → Prop
  | nil : All2 R [] []
  | cons {a : α} {b : β} {as : List α} {bs : List β} : R a b → All2 R as bs → All2 R (a :: as) (b :: bs)
theorem All2.length {α β : Type} {R : α → β → Prop} {as : List α} {bs : List β} (h : All2 R as bs) : as.length = bs.length := by
  induction h with
  | nil => rfl
  | cons _ _ ih => rw [List.length_cons, List.length_cons, ih]
/-- the law's state stands at a -/
def StOk (a : Nat) (st : Store) : Prop := ∃ i j : Int, st[a]? = some (.lst [.int i, .int j]) ∧ 0 ≤ i ∧ 0 ≤ j
/-- all that stood stands, but what is at a -/
def Fr (a : Nat) (st st' : Store) : Prop := st.length ≤ st'.length ∧ ∀ l, l < st.length → l ≠ a → st'[l]? = st[l]?
theorem Fr.refl {a : Nat} (st : Store) : Fr a st st := ⟨Nat.le_refl _, fun _ _ _ => rfl⟩
theorem Fr.trans {a : Nat} {s1 s2 s3 : Store} (h : Fr a s1 s2) (g : Fr a s2 s3) : Fr a s1 s3 :=
  ⟨Nat.le_trans h.1 g.1, fun l hl ne => (g.2 l (Nat.lt_of_lt_of_le hl h.1) ne).trans (h.2 l hl ne)⟩
theorem Fr.set {a : Nat} {st : Store} (o : DO) : Fr a st (st.set a o) := ⟨by rw [List.length_set]; exact Nat.le_refl _, fun l _ ne => List.getElem?_set_ne (Ne.symm ne)⟩
theorem Fr.app {a : Nat} {st : Store} (g : Store) : Fr a st (st ++ g) := ⟨by rw [List.length_append]; omega, fun l hl _ => List.getElem?_append_left hl⟩
theorem Fr.at_new {a : Nat} {s0 st : Store} {l : Nat} (h : Fr a s0 st) (hl : s0.length ≤ l) (o : DO) : Fr a s0 (st.set l o) :=
  ⟨by rw [List.length_set]; exact h.1, fun m hm ne => by rw [List.getElem?_set_ne (by omega)]; exact h.2 m hm ne⟩
theorem StOk.app {a : Nat} {st : Store} (h : StOk a st) (g : Store) : StOk a (st ++ g) := by
  obtain ⟨i, j, e, r⟩ := h
  obtain ⟨hl, _⟩ := List.getElem?_eq_some_iff.mp e
  exact ⟨i, j, by rw [List.getElem?_append_left hl]; exact e, r⟩
theorem StOk.lt {a : Nat} {st : Store} (h : StOk a st) : a < st.length := by
  obtain ⟨i, j, e, r⟩ := h
  exact (List.getElem?_eq_some_iff.mp e).1
theorem StOk.set {a l : Nat} {st : Store} (h : StOk a st) (hl : l ≠ a) (o : DO) : StOk a (st.set l o) := by
  obtain ⟨i, j, e, r⟩ := h
  exact ⟨i, j, by rw [List.getElem?_set_ne hl]; exact e, r⟩
theorem draw {P : List Fd} {f : Nat} (hP : P[f]? = some ⟨6, 3, drawB⟩) (k : Nat) {st : Store} {a : Nat} {size : Int} {ns : List Int} (h : StOk a st) (hs : 0 < size) (hs2 : size < 4611686018427387904) :
    ∃ (d : Int) (st' : Store), run P (k + 1) f [.loc a, .slst (ns.map .int), .int size] st = .ok (.int d) st' ∧ 0 ≤ d ∧ d < size ∧ StOk a st' ∧ Fr a st st' := by
  obtain ⟨i, j, e, hi, hj⟩ := h
  obtain ⟨d, i', j', hr, h1, h2, h3, h4⟩ := draw_spec hP k (ns := ns) e hi hj hs hs2
  exact ⟨d, _, hr, h1, h2, ⟨i', j', set_same e, h3, h4⟩, Fr.set _⟩

/-- a comprehension without refusals: each item gives a datum that stands in R to it -/
theorem evComp_ok {same : Store → Bool} {l : Nat} {one : D → Store → R (Option D)} (I : Store → Prop) (R : D → D → Prop) (hset : ∀ st ds, I st → I (st.set l (.lst ds))) (hsame : ∀ st, I st → same st = true) :
    ∀ (items acc : List D) (st : Store), (∀ x, x ∈ items → ∀ st, I st → l < st.length → ∃ d st', one x st = .ok (some d) st' ∧ R x d ∧ I st' ∧ st'[l]? = st[l]?) → I st → st[l]? = some (.lst acc) → acc.length + items.length ≤ SZ →
      ∃ ds st', evComp same l one items st = .ok (.loc l) st' ∧ I st' ∧ st'[l]? = some (.lst (acc ++ ds)) ∧ All2 R items ds
  | [], acc, st, _, hi, hl, _ => ⟨[], st, by rw [evComp, if_pos (hsame st hi)], hi, by rw [List.append_nil]; exact hl, .nil⟩
  | x :: xs, acc, st, h, hi, hl, hz => by
    obtain ⟨d, st1, e1, r1, i1, k1⟩ := h x List.mem_cons_self st hi (List.getElem?_eq_some_iff.mp hl).1
    have hl1 : st1[l]? = some (.lst acc) := k1.trans hl
    have hlt : acc.length < SZ := by rw [List.length_cons] at hz; omega
    obtain ⟨ds, st2, e2, i2, k2, f2⟩ := evComp_ok I R hset hsame xs (acc ++ [d]) (st1.set l (.lst (acc ++ [d]))) (fun y hy => h y (List.mem_cons_of_mem _ hy)) (hset _ _ i1) (set_same hl1) (by rw [List.length_append, List.length_singleton]; rw [List.length_cons] at hz; omega)
    refine ⟨d :: ds, st2, ?_, i2, by rw [k2, List.append_assoc]; rfl, .cons r1 f2⟩
    rw [evComp, if_pos (hsame st hi), e1]
    show (match st1[l]? with | some (.lst acc) => if acc.length < SZ then evComp same l one xs (st1.set l (.lst (acc ++ [d]))) else .bad | _ => .bad) = _
    rw [hl1]
    exact (if_pos hlt).trans e2
/-- the same of the expression: over an R of items and data, the state's word I -/
theorem comp_ok {F : FT} {env : Env} {st st1 : Store} {own : List Nat} {t : Tg} {k : Ik} {src : List Ex} {elt : Ex} {ds : List D} {S : Src} (I : Store → Prop) (R : D → D → Prop) (h : evs F src env st = .ok ds st1) (hS : srcOf k ds st1 = some S)
    (hz : S.items.length ≤ SZ) (hi : I (st1 ++ [.lst []])) (hset : ∀ s ds, I s → I (s.set st1.length (.lst ds))) (hsame : ∀ s, I s → S.same s = true)
    (turn : ∀ x, x ∈ S.items → ∀ s, I s → st1.length < s.length → ∃ env' d s', setT t x (wipeE own env) = some env' ∧ ev F elt env' s = .ok d s' ∧ R x d ∧ I s' ∧ s'[st1.length]? = s[st1.length]?) :
    ∃ rs st', ev F (.comp own t k src [] elt) env st = .ok (.loc st1.length) st' ∧ I st' ∧ st'[st1.length]? = some (.lst rs) ∧ All2 R S.items rs := by
  rw [comp_eq F env st h hS]
  obtain ⟨rs, st', e, i, g, f⟩ := evComp_ok (same := S.same) (l := st1.length) (one := compOne F env own t [] elt) I R hset hsame S.items [] (st1 ++ [.lst []]) (fun x hx s hs hl => by
    obtain ⟨env', d, s', h1, h2, h3, h4, h5⟩ := turn x hx s hs hl
    exact ⟨d, s', one_eq F env s h1 h2, h3, h4, h5⟩) hi (by rw [List.getElem?_append_right (Nat.le_refl _), Nat.sub_self]; rfl) (by show 0 + _ ≤ SZ; omega)
  exact ⟨rs, st', e, i, g, f⟩
/-- a loop by a word of the turn's number -/
theorem evFor_ix {same : Store → Bool} {one : D → Env → Store → SR} (I : Nat → Env → Store → Prop) (hsame : ∀ i env st, I i env st → same st = true) :
    ∀ (items : List D) (i : Nat) (env : Env) (st : Store), (∀ (j : Nat) (x : D), items[j]? = some x → ∀ env st, I (i + j) env st → ∃ env' st', (one x env st = .next env' st' ∨ one x env st = .cnt env' st') ∧ I (i + j + 1) env' st') → I i env st →
      ∃ env' st', evFor same one items env st = .next env' st' ∧ I (i + items.length) env' st'
  | [], i, env, st, _, h => ⟨env, st, by rw [evFor, if_pos (hsame i env st h)], h⟩
  | x :: xs, i, env, st, t, h => by
    obtain ⟨env1, st1, e1, i1⟩ := t 0 x rfl env st h
    obtain ⟨env2, st2, e2, i2⟩ := evFor_ix I hsame xs (i + 1) env1 st1 (fun j y hy env st hI => by
      have e : i + 1 + j = i + (j + 1) := by omega
      rw [e] at hI ⊢
      exact t (j + 1) y (by simpa using hy) env st hI) i1
    refine ⟨env2, st2, ?_, by rw [List.length_cons]; have e : i + (xs.length + 1) = i + 1 + xs.length := by omega
                              rw [e]; exact i2⟩
    rw [evFor, if_pos (hsame i env st h)]
    rcases e1 with e1 | e1 <;> rw [e1] <;> exact e2
theorem src_range1 (j : Int) (st : Store) (h : in62 j = true) : srcOf .range1 [.int j] st = some ⟨rangeD 0 j.toNat, fun _ => true⟩ := if_pos h
theorem src_range2 (i j : Int) (st : Store) (h : in62 i = true) (h2 : in62 j = true) : srcOf .range2 [.int i, .int j] st = some ⟨rangeD i (j - i).toNat, fun _ => true⟩ := by
  show (if (in62 i && in62 j) = true then _ else _) = _
  rw [h, h2]; rfl
theorem in62_of {i : Int} (h : 0 ≤ i) (h2 : i < 1000000000) : in62 i = true := by
  unfold in62
  rw [decide_eq_true (by omega), decide_eq_true (by omega)]; rfl
theorem range_len (lo : Int) (n : Nat) : (rangeD lo n).length = n := by unfold rangeD; rw [List.length_map, List.length_range]
theorem range_get {lo : Int} {n i : Nat} {x : D} (h : (rangeD lo n)[i]? = some x) : x = .int (lo + i) ∧ i < n := by
  unfold rangeD at h
  rw [List.getElem?_map] at h
  by_cases hi : i < n
  · rw [List.getElem?_range hi] at h
    cases h
    exact ⟨rfl, hi⟩
  · rw [List.getElem?_eq_none (by rw [List.length_range]; omega)] at h
    cases h
theorem len_name (st : Store) (n : List (List Nat)) : lenSem (nameD n) st = .ok (.int n.length) st := by
  show R.ok (D.int ((n.map D.str).length : Int)) st = _
  rw [List.length_map]
theorem sl_name (st : Store) (n : List (List Nat)) (i : Nat) : slSem (nameD n) (some (i : Int)) none st = .ok (nameD (n.drop i)) st := by
  show R.ok (D.tup (cutD (n.map D.str) (some (i : Int)) none)) st = _
  rw [cut_map, cut_from]; rfl
theorem add_name (st : Store) (m n : List (List Nat)) (h : m.length + n.length ≤ SZ) : addSem (nameD m) (nameD n) st = .ok (nameD (m ++ n)) st := by
  show (if (m.map D.str).length + (n.map D.str).length ≤ SZ then R.ok (D.tup (m.map D.str ++ n.map D.str)) st else .bad) = _
  rw [List.length_map, List.length_map, if_pos h, ← List.map_append]; rfl
theorem ix_name (st : Store) (n : List (List Nat)) (i : Nat) (h : i < n.length) : ixSem (nameD n) (i : Int) st = .ok (.str n[i]) st := by
  show (match atI (n.map D.str) (i : Int) with | some d => R.ok d st | none => .bad) = _
  rw [atI_lt (by rw [List.length_map]; exact h), List.getElem_map]
theorem items_name (st : Store) (n : List (List Nat)) : itemsD st (nameD n) = some (n.map .str) := rfl
theorem items_loc {st : Store} {l : Nat} {xs : List D} (h : st[l]? = some (.lst xs)) : itemsD st (.loc l) = some xs := by
  show (match st[l]? with | some (.lst xs) => some xs | _ => none) = _
  rw [h]
end Z

set_option autoImplicit false
set_option maxHeartbeats 1000000
namespace Z
open PySem L2

/-! # Runs that only add to the store -/
def Gr (st s : Store) : Prop := st.length ≤ s.length ∧ ∀ l, l < st.length → s[l]? = st[l]?
theorem Gr.refl (st : Store) : Gr st st := ⟨Nat.le_refl _, fun _ _ => rfl⟩
theorem Gr.trans {s1 s2 s3 : Store} (h : Gr s1 s2) (g : Gr s2 s3) : Gr s1 s3 := ⟨Nat.le_trans h.1 g.1, fun l hl => (g.2 l (Nat.lt_of_lt_of_le hl h.1)).trans (h.2 l hl)⟩
theorem Gr.app (st g : Store) : Gr st (st ++ g) := ⟨by rw [List.length_append]; omega, fun l hl => List.getElem?_append_left hl⟩
theorem Gr.set {st s : Store} {l : Nat} (h : Gr st s) (hl : st.length ≤ l) (o : DO) : Gr st (s.set l o) := ⟨by rw [List.length_set]; exact h.1, fun m hm => by rw [List.getElem?_set_ne (by omega)]; exact h.2 m hm⟩
theorem Gr.fr {a : Nat} {st s : Store} (h : Gr st s) : Fr a st s := ⟨h.1, fun l hl _ => h.2 l hl⟩
theorem StOk.gr {a : Nat} {st s : Store} (h : StOk a st) (g : Gr st s) : StOk a s := by
  have hl := h.lt
  obtain ⟨i, j, e, r⟩ := h
  exact ⟨i, j, (g.2 a hl).trans e, r⟩
theorem All2.imp {α β : Type} {R S : α → β → Prop} {as : List α} {bs : List β} (h : All2 R as bs) (f : ∀ a b, R a b → S a b) : All2 S as bs := by
  induction h with
  | nil => exact .nil
  | cons r _ ih => exact .cons (f _ _ r) ih
theorem All2.map_eq {α β : Type} {g : α → β} {as : List α} {bs : List β} (h : All2 (fun a b => b = g a) as bs) : bs = as.map g := by
  induction h with
  | nil => rfl
  | cons r _ ih => rw [r, ih]; rfl
/-- a comprehension whose turns only add to the store -/
theorem comp_gr {F : FT} {env : Env} {st st1 : Store} {own : List Nat} {t : Tg} {k : Ik} {src : List Ex} {elt : Ex} {ds : List D} {S : Src} (g : D → D) (h : evs F src env st = .ok ds st1) (hS : srcOf k ds st1 = some S)
    (hz : S.items.length ≤ SZ) (hsame : ∀ s, Gr st1 s → S.same s = true)
    (turn : ∀ x, x ∈ S.items → ∀ s, Gr st1 s → ∃ env' s', setT t x (wipeE own env) = some env' ∧ ev F elt env' s = .ok (g x) s' ∧ Gr s s') :
    ∃ s', ev F (.comp own t k src [] elt) env st = .ok (.loc st1.length) s' ∧ Gr st1 s' ∧ s'[st1.length]? = some (.lst (S.items.map g)) := by
  obtain ⟨rs, s', e, i, k1, a⟩ := comp_ok (own := own) (t := t) (elt := elt) (fun s => Gr st1 s) (fun x d => d = g x) h hS hz (Gr.app _ _) (fun s ds hs => hs.set (Nat.le_refl _) _) hsame fun x hx s hs hl => by
    obtain ⟨env', s', h1, h2, h3⟩ := turn x hx s hs
    exact ⟨env', g x, s', h1, h2, rfl, hs.trans h3, h3.2 _ hl⟩
  exact ⟨s', e, i, by rw [k1, a.map_eq]⟩

/-! ### the operations on texts, one by one -/
section
variable (st : Store)
theorem allBl_map {α : Type} (f : α → Bool) : ∀ xs : List α, allBl (xs.map fun x => D.bl (f x)) = some (xs.map f)
  | [] => rfl
  | x :: xs => by show (allBl (xs.map fun x => D.bl (f x))).map _ = _; rw [allBl_map f xs]; rfl
theorem allInt_map {α : Type} (f : α → Int) : ∀ xs : List α, allInt (xs.map fun x => D.int (f x)) = some (xs.map f)
  | [] => rfl
  | x :: xs => by show (allInt (xs.map fun x => D.int (f x))).map _ = _; rw [allInt_map f xs]; rfl
theorem allStr_map : ∀ xs : List (List Nat), allStr (xs.map D.str) = some xs
  | [] => rfl
  | x :: xs => by show (allStr (xs.map D.str)).map _ = _; rw [allStr_map xs]; rfl
theorem o_all {α : Type} {l : Nat} (f : α → Bool) (xs : List α) (h : st[l]? = some (.lst (xs.map fun x => D.bl (f x)))) : opSem (.x .all_) [.loc l] st = .ok (.bl (xs.all f)) st := by
  show (match (match st[l]? with | some (.lst xs) => some xs | _ => none) with | some xs => (match allBl xs with | some bs => R.ok (D.bl (bs.all id)) st | none => .bad) | none => .bad) = _
  rw [h]
  show (match allBl (xs.map fun x => D.bl (f x)) with | some bs => R.ok (D.bl (bs.all id)) st | none => .bad) = _
  rw [allBl_map]
  show R.ok (D.bl ((xs.map f).all id)) st = _
  rw [List.all_map]; rfl
theorem o_sum {α : Type} {l : Nat} (f : α → Int) (xs : List α) (h : st[l]? = some (.lst (xs.map fun x => D.int (f x)))) : opSem (.x .sum_) [.loc l] st = .ok (.int (xs.map f).sum) st := by
  show (match (match st[l]? with | some (.lst xs) => some xs | _ => none) with | some xs => (match allInt xs with | some bs => R.ok (D.int bs.sum) st | none => .bad) | none => .bad) = _
  rw [h]
  show (match allInt (xs.map fun x => D.int (f x)) with | some bs => R.ok (D.int bs.sum) st | none => .bad) = _
  rw [allInt_map]
theorem o_len_str {z : List Nat} (h : z.length ≤ SZ) : opSem .len [.str z] st = .ok (.int z.length) st := if_pos h
theorem o_addS {a b : List Nat} (h : a.length + b.length ≤ SZ) : opSem .add [.str a, .str b] st = .ok (.str (a ++ b)) st := if_pos h
theorem o_inS (c : Nat) (z : List Nat) : opSem (.x .inn) [.str [c], .str z] st = .ok (.bl (decide (c ∈ z))) st := rfl
theorem o_asStr (z : List Nat) : opSem (.x .asStr) [.str z] st = .ok (.str z) st := rfl
theorem o_ends (z y : List Nat) : opSem (.x (.meth .endswith)) [.str z, .str y] st = .ok (.bl (Txt.endswith (toStr z) (toStr y))) st := rfl
theorem o_ascii (z : List Nat) : opSem (.x (.meth .isascii)) [.str z] st = .ok (.bl (Txt.isascii (toStr z))) st := rfl
theorem o_lower {z : List Nat} (h : z.length ≤ 5592405) : opSem (.x (.meth .lower)) [.str z] st = .ok (.str (ofStr (Txt.lower (toStr z)))) st := if_pos h
theorem o_upper {z : List Nat} (h : z.length ≤ 5592405) : opSem (.x (.meth .upper)) [.str z] st = .ok (.str (ofStr (Txt.upper (toStr z)))) st := if_pos h
theorem o_join {sep : List Nat} {xs : List (List Nat)} {d : D} (hd : itemsD st d = some (xs.map .str)) (h : (xs.map List.length).sum + xs.length * sep.length ≤ SZ) : opSem (.x (.meth .join)) [.str sep, d] st = .ok (.str (TL.joinL sep xs)) st := by
  show (match itemsD st d with
      | some xs => match allStr xs with
        | some ys => if (ys.map List.length).sum + ys.length * sep.length ≤ SZ then R.ok (D.str (TL.joinL sep ys)) st else .bad
        | none => .bad
      | none => .bad) = _
  rw [hd]
  show (match allStr (xs.map D.str) with
        | some ys => if (ys.map List.length).sum + ys.length * sep.length ≤ SZ then R.ok (D.str (TL.joinL sep ys)) st else .bad
        | none => .bad) = _
  rw [allStr_map]
  exact if_pos h
theorem o_split {z : List Nat} {c : Nat} (hc : c < 256) (h : z.length + 2 ≤ SZ) : opSem (.x (.meth .split)) [.str z, .str [c]] st = .ok (.loc st.length) (st ++ [.lst ((TL.spl [c] 0 [] z).map .str)]) := if_pos ⟨hc, h⟩
theorem o_mulS {z : List Nat} {n : Nat} (h : z.length * n ≤ SZ) (hn : n < 1000000) : opSem .mul [.str z, .int (n : Int)] st = .ok (.str (List.replicate n z).flatten) st := by
  show (if (n : Int) < 1 then (if -9223372036854775808 ≤ (n : Int) then R.ok (D.str []) st else .bad) else if z.length * (n : Int).toNat ≤ SZ ∧ (n : Int) < 9223372036854775808 then .ok (.str (List.replicate (n : Int).toNat z).flatten) st else .bad) = _
  rw [Int.toNat_natCast]
  cases n with
  | zero => rfl
  | succ n =>
    rw [if_neg (by omega), if_pos ⟨h, by omega⟩]
theorem src_str (z : List Nat) : srcOf .seq [.str z] st = some ⟨z.map fun c => .str [c], fun _ => true⟩ := rfl
theorem src_name (n : List (List Nat)) : srcOf .seq [nameD n] st = some ⟨n.map .str, fun _ => true⟩ := rfl
theorem src_loc {l : Nat} {xs : List D} (h : st[l]? = some (.lst xs)) : srcOf .seq [.loc l] st = some ⟨xs, lstIs l xs⟩ := by
  show (match st[l]? with | some (.lst xs) => some (Src.mk xs (lstIs l xs)) | _ => none) = _
  rw [h]
theorem o_toList {d : D} {xs : List D} (h : itemsD st d = some xs) : opSem (.x .toList) [d] st = .ok (.loc st.length) (st ++ [.lst xs]) := by
  show (match itemsD st d with | some xs => R.ok (D.loc st.length) (st ++ [DO.lst xs]) | none => .bad) = _
  rw [h]
end
theorem ev_chain (F : FT) (env : Env) (st : Store) (o p : Op) (a b c : Ex) : ev F (.chain o p a b c) env st = (ev F a env st).bind fun x st1 => (ev F b env st1).bind fun y st2 => (opSem o [x, y] st2).bind fun z st3 => match z with
    | .bl true => (ev F c env st3).bind fun u st4 => opSem p [y, u] st4
    | .bl false => .ok (.bl false) st3
    | _ => .bad := rfl
theorem xs_raise (F : FT) (env : Env) (st : Store) (c : Nat) (e : Ex) : xs F (.raise_ c e) env st = (ev F e env st).toS env fun d st1 => .exc c d env st1 := rfl
theorem xs_try (F : FT) (env : Env) (st : Store) (b s : List Sx) (tab : List Nat) (i : Nat) : xs F (.try_ b tab i s) env st = catchS tab i (fun env1 st1 => xss F s env1 st1) (xss F b env st) := rfl
theorem cut_last {α : Type} (xs : List α) : cutD xs none (some (-1)) = xs.dropLast := by
  unfold cutD
  rw [HT.sIx_none, List.drop_zero, Nat.sub_zero]
  have e : HT.sIx xs.length xs.length (some (-1)) = xs.length - 1 := by
    show (if (-1 : Int) < 0 then ((-1 : Int) + xs.length).toNat else min ((-1 : Int).toNat) xs.length) = _
    rw [if_pos (by decide)]
    omega
  rw [e, List.dropLast_eq_take]
end Z

set_option autoImplicit false
set_option maxHeartbeats 1000000
namespace Z
open PySem L2

/-! # Values and closed results -/
mutual
theorem closed_mono {n m : Nat} (h : n ≤ m) : ∀ {d : D}, closedD n d = true → closedD m d = true
  | .non, _ => rfl
  | .bl _, _ => rfl
  | .int _, _ => rfl
  | .str _, _ => rfl
  | .fn _, _ => rfl
  | .tup xs, z => closeds_mono h (ds := xs) z
  | .flst xs, z => closeds_mono h (ds := xs) z
  | .slst xs, z => closeds_mono h (ds := xs) z
  | .fset xs, z => closeds_mono h (ds := xs) z
  | .fins _ _ xs, z => closeds_mono h (ds := xs) z
  | .fdct ks vs, z => by
    have z : (closedDs n ks && closedDs n vs) = true := z
    rw [Bool.and_eq_true] at z
    show (closedDs m ks && closedDs m vs) = true
    rw [closeds_mono h z.1, closeds_mono h z.2]; rfl
  | .loc l, z => by
    have z : l < n := of_decide_eq_true z
    exact decide_eq_true (Nat.lt_of_lt_of_le z h)
theorem closeds_mono {n m : Nat} (h : n ≤ m) : ∀ {ds : List D}, closedDs n ds = true → closedDs m ds = true
  | [], _ => rfl
  | x :: xs, z => by
    rw [closedDs, Bool.and_eq_true] at z
    rw [closedDs, closed_mono h z.1, closeds_mono h z.2]; rfl
end
mutual
theorem seal_closed {n : Nat} {g : Nat → Option D} : ∀ {d : D}, closedD n d = true → sealD n g d = some d
  | .non, _ => rfl
  | .bl _, _ => rfl
  | .int _, _ => rfl
  | .str _, _ => rfl
  | .fn _, _ => rfl
  | .tup xs, z => by rw [sealD, seals_closed (ds := xs) z]; rfl
  | .flst xs, z => by rw [sealD, seals_closed (ds := xs) z]; rfl
  | .fins _ _ xs, z => by rw [sealD, seals_closed (ds := xs) z]; rfl
  | .slst xs, z => if_pos z
  | .fset xs, z => if_pos z
  | .fdct ks vs, z => if_pos z
  | .loc l, z => if_pos (of_decide_eq_true z)
theorem seals_closed {n : Nat} {g : Nat → Option D} : ∀ {ds : List D}, closedDs n ds = true → sealDs n g ds = some ds
  | [], _ => rfl
  | x :: xs, z => by
    rw [closedDs, Bool.and_eq_true] at z
    rw [sealDs, seal_closed z.1, seals_closed z.2]
end
theorem closeds_append {n : Nat} {a b : List D} (h : closedDs n a = true) (g : closedDs n b = true) : closedDs n (a ++ b) = true := by
  induction a with
  | nil => exact g
  | cons x xs ih =>
    rw [closedDs, Bool.and_eq_true] at h
    rw [List.cons_append, closedDs, h.1, ih h.2]; rfl
theorem closeds_map {n : Nat} {α : Type} {f : α → D} (h : ∀ x, closedD n (f x) = true) (xs : List α) : closedDs n (xs.map f) = true := by
  induction xs with
  | nil => rfl
  | cons x xs ih => rw [List.map_cons, closedDs, h, ih]; rfl
theorem closeds_all {n : Nat} {ds : List D} (h : ∀ d ∈ ds, closedD n d = true) : closedDs n ds = true := by
  induction ds with
  | nil => rfl
  | cons x xs ih => rw [closedDs, h x List.mem_cons_self, ih fun d hd => h d (List.mem_cons_of_mem _ hd)]; rfl
theorem closeds_mem {n : Nat} {ds : List D} (h : closedDs n ds = true) {d : D} (hd : d ∈ ds) : closedD n d = true := by
  induction ds with
  | nil => cases hd
  | cons x xs ih =>
    rw [closedDs, Bool.and_eq_true] at h
    rcases List.mem_cons.mp hd with rfl | hd
    · exact h.1
    · exact ih h.2 hd
theorem closed_name (n : Nat) (x : List (List Nat)) : closedD n (nameD x) = true := closeds_map (fun _ => rfl) x
theorem closed_ints (n : Nat) (x : List Int) : closedDs n (x.map D.int) = true := closeds_map (fun _ => rfl) x
theorem closed_strs (n : Nat) (x : List (List Nat)) : closedDs n (x.map D.str) = true := closeds_map (fun _ => rfl) x

theorem Gr.take {st s : Store} (h : Gr st s) : s.take st.length = st := by
  refine List.ext_getElem? fun l => ?_
  by_cases hl : l < st.length
  · rw [List.getElem?_take_of_lt hl, h.2 l hl]
  · rw [List.getElem?_eq_none (by rw [List.length_take]; omega), List.getElem?_eq_none (by omega)]
theorem Gr.old {st s : Store} (h : Gr st s) : OldOk st s := fun l hl o ho => .inl (by rw [← h.2 l hl]; exact ho)
theorem close_of {st s : Store} {d d' : D} (h : OldOk st s) (hd : sealD st.length (sealAt st.length s 8) d = some d') : closeR st (.ok d s) = .ok d' (s.take st.length) := by
  unfold closeR
  simp only [hd]
  exact if_pos h
theorem close_gr {st s : Store} {d : D} (h : Gr st s) (hd : closedD st.length d = true) : closeR st (.ok d s) = .ok d st := by
  rw [close_of h.old (seal_closed hd), h.take]
theorem close_pd {st s : Store} {d : D} (h : Gr st s) (hd : closedD 0 d = true) : closeR st (.ok d s) = .ok d st := close_gr h (closed_mono (Nat.zero_le _) hd)
theorem close_id {st : Store} {d : D} (hd : closedD 0 d = true) : closeR st (.ok d st) = .ok d st := close_pd (Gr.refl st) hd
@[simp] theorem close_int (st : Store) (i : Int) : closeR st (.ok (.int i) st) = .ok (.int i) st := close_id rfl
@[simp] theorem close_bl (st : Store) (i : Bool) : closeR st (.ok (.bl i) st) = .ok (.bl i) st := close_id rfl
@[simp] theorem close_str (st : Store) (i : List Nat) : closeR st (.ok (.str i) st) = .ok (.str i) st := close_id rfl
@[simp] theorem close_non (st : Store) : closeR st (.ok .non st) = .ok .non st := close_id rfl
theorem close_lst {st s : Store} {l : Nat} {xs : List D} (h : Gr st s) (hl : st.length ≤ l) (hs : s[l]? = some (.lst xs)) (hx : closedDs st.length xs = true) : closeR st (.ok (.loc l) s) = .ok (.flst xs) st := by
  rw [close_of (d' := .flst xs) h.old, h.take]
  show (if l < st.length then some (D.loc l) else sealAt st.length s 8 l) = _
  rw [if_neg (by omega)]
  unfold sealAt
  rw [hs]
  show (sealDs st.length (sealAt st.length s 7) xs).map D.flst = _
  rw [seals_closed hx]; rfl
theorem close_new {st : Store} {xs : List D} (hx : closedDs 0 xs = true) : closeR st (.ok (.loc st.length) (st ++ [.lst xs])) = .ok (.flst xs) st :=
  close_lst (Gr.app _ _) (Nat.le_refl _) (by rw [List.getElem?_append_right (Nat.le_refl _), Nat.sub_self]; rfl) (closeds_mono (Nat.zero_le _) hx)
theorem close_exc_gr {st s : Store} {c : Nat} {p : D} (h : Gr st s) (hp : closedD 0 p = true) : closeR st (.exc c p s) = .exc c p st := by
  unfold closeR
  simp only
  rw [if_pos ⟨h.old, closed_mono (Nat.zero_le _) hp⟩, h.take]
@[simp] theorem close_exc_int (st : Store) (c : Nat) (i : Int) : closeR st (.exc c (.int i) st) = .exc c (.int i) st := close_exc_gr (Gr.refl _) rfl
/-- the one object at a changes -/
theorem close_at {st s : Store} {a : Nat} {o : DO} {d d' : D} (h : Fr a st s) (hs : s[a]? = some o) (ho : closedO st.length o = true) (hd : sealD st.length (sealAt st.length s 8) d = some d') : closeR st (.ok d s) = .ok d' (st.set a o) := by
  have old : OldOk st s := fun l hl o' ho' => by
    by_cases e : l = a
    · subst e; rw [hs] at ho'; cases ho'; exact .inr ho
    · exact .inl (by rw [← h.2 l hl e]; exact ho')
  rw [close_of old hd]
  congr 1
  refine List.ext_getElem? fun l => ?_
  by_cases hl : l < st.length
  · rw [List.getElem?_take_of_lt hl]
    by_cases e : l = a
    · subst e; rw [hs, List.getElem?_set_self hl]
    · rw [h.2 l hl e, List.getElem?_set_ne (Ne.symm e)]
  · rw [List.getElem?_eq_none (by rw [List.length_take]; omega), List.getElem?_eq_none (by rw [List.length_set]; omega)]

/-! ### expressions -/
theorem bind_congr {α β : Type} {r r' : R α} {f : α → Store → R β} (h : r = r') : r.bind f = r'.bind f := by rw [h]
theorem toS_congr {α : Type} {r r' : R α} {env : Env} {f : α → Store → SR} (h : r = r') : r.toS env f = r'.toS env f := by rw [h]
theorem seq_congr {r r' : SR} {f : Env → Store → SR} (h : r = r') : r.seq f = r'.seq f := by rw [h]
theorem fin_congr {r r' : SR} (h : r = r') : r.fin = r'.fin := by rw [h]
/-- the turn of a loop -/
noncomputable def forB (F : FT) (t : Tg) (body : List Sx) : D → Env → Store → SR := fun x env2 st2 => match setT t x env2 with
  | some env' => xss F body env' st2
  | none => .bad
theorem forB_nm (F : FT) (i : Nat) (body : List Sx) (x : D) (env : Env) (st : Store) : forB F (.nm i) body x env st = xss F body (env.set i (some x)) st := rfl
section
variable (F : FT) (env : Env) (st : Store)
theorem ev_seal (e : Ex) : ev F (.sealE e) env st = closeR st (ev F e env st) := rfl
theorem ev_scall (f : Nat) (es : List Ex) : ev F (.scall f es) env st = (evs F es env st).bind fun ds st1 => closeR st1 (F f ds st1) := rfl
theorem xs_for (t : Tg) (k : Ik) (src : List Ex) (body : List Sx) : xs F (.for_ t k src body) env st = (evs F src env st).toS env fun ds st1 => match srcOf k ds st1 with
    | some S => evFor S.same (forB F t body) S.items env st1
    | none => .bad := rfl
theorem xs_while (c : Ex) (body : List Sx) : xs F (.while_ c body) env st = evWhile (fun env st => ev F c env st) (fun env st => xss F body env st) WF env st := rfl
theorem xs_setix (o i e : Ex) : xs F (.setix o i e) env st = (ev F e env st).toS env fun d st1 => (ev F o env st1).toS env fun ov st2 => (ev F i env st2).toS env fun iv st3 => match ov, iv with
    | .loc l, .int k => (match st3[l]? with
      | some (.lst ys) => (match ixN ys.length k with
        | some j => .next env (st3.set l (.lst (ys.set j d)))
        | none => .bad)
      | _ => .bad)
    | _, _ => .bad := rfl
end
theorem evWhile_stop {test : Env → Store → R D} {body : Env → Store → SR} {n : Nat} {env : Env} {st st1 : Store} {x : D} (h : test env st = .ok x st1) (ht : truth st1 x = some false) : evWhile test body (n + 1) env st = .next env st1 := by
  rw [evWhile, h, toS_ok, ht]
theorem evWhile_go {test : Env → Store → R D} {body : Env → Store → SR} {n : Nat} {env env' : Env} {st st1 st' : Store} {x : D} (h : test env st = .ok x st1) (ht : truth st1 x = some true) (hb : body env st1 = .next env' st') : evWhile test body (n + 1) env st = evWhile test body n env' st' := by
  rw [evWhile, h, toS_ok, ht]
  simp only [hb]
theorem evWhile_exc {test : Env → Store → R D} {body : Env → Store → SR} {n : Nat} {env env' : Env} {st st1 st' : Store} {x p : D} {c : Nat} (h : test env st = .ok x st1) (ht : truth st1 x = some true) (hb : body env st1 = .exc c p env' st') : evWhile test body (n + 1) env st = .exc c p env' st' := by
  rw [evWhile, h, toS_ok, ht]
  simp only [hb]
/-- a comprehension whose turns leave the store -/
theorem evComp_pure {same : Store → Bool} {st : Store} {one : D → Store → R (Option D)} (h : D → Option D) (hsame : ∀ s, Gr st s → same s = true) :
    ∀ (items acc : List D), (∀ x ∈ items, ∀ s, Gr st s → one x s = .ok (h x) s) → acc.length + items.length ≤ SZ →
      evComp same st.length one items (st ++ [.lst acc]) = .ok (.loc st.length) (st ++ [.lst (acc ++ items.filterMap h)])
  | [], acc, _, _ => by rw [evComp, if_pos (hsame _ (Gr.app _ _)), List.filterMap_nil, List.append_nil]
  | x :: xs, acc, ho, hz => by
    rw [List.length_cons] at hz
    have at_ : ∀ acc : List D, (st ++ [DO.lst acc])[st.length]? = some (.lst acc) := fun acc => by rw [List.getElem?_append_right (Nat.le_refl _), Nat.sub_self]; rfl
    rw [evComp, if_pos (hsame _ (Gr.app _ _)), ho x List.mem_cons_self _ (Gr.app _ _), List.filterMap_cons]
    cases hx : h x with
    | none => exact evComp_pure h hsame xs acc (fun y hy => ho y (List.mem_cons_of_mem _ hy)) (by omega)
    | some d =>
      show (match (st ++ [DO.lst acc])[st.length]? with | some (.lst acc) => if acc.length < SZ then evComp same st.length one xs ((st ++ [DO.lst _]).set st.length (.lst (acc ++ [d]))) else .bad | _ => .bad) = _
      rw [at_]
      simp only
      rw [if_pos (by omega)]
      have e : (st ++ [DO.lst acc]).set st.length (.lst (acc ++ [d])) = st ++ [.lst (acc ++ [d])] := by
        rw [List.set_append_right _ _ (Nat.le_refl _), Nat.sub_self]; rfl
      rw [e, evComp_pure h hsame xs (acc ++ [d]) (fun y hy => ho y (List.mem_cons_of_mem _ hy)) (by rw [List.length_append, List.length_singleton]; omega), List.append_assoc]
      rfl
theorem one_pure {F : FT} {env env' : Env} {own : List Nat} {t : Tg} {ifs : List Ex} {elt : Ex} {x d : D} {s : Store} (h : setT t x (wipeE own env) = some env') (hi : evTests F ifs env' s = .ok true s) (he : ev F elt env' s = .ok d s) : compOne F env own t ifs elt x s = .ok (some d) s := by
  show (match setT t x (wipeE own env) with | some env' => _ | none => _) = _
  rw [h]
  show (evTests F ifs env' s).bind _ = _
  rw [hi]
  show (ev F elt env' s).bind _ = _
  rw [he]; rfl
theorem one_skip {F : FT} {env env' : Env} {own : List Nat} {t : Tg} {ifs : List Ex} {elt : Ex} {x : D} {s : Store} (h : setT t x (wipeE own env) = some env') (hi : evTests F ifs env' s = .ok false s) : compOne F env own t ifs elt x s = .ok none s := by
  show (match setT t x (wipeE own env) with | some env' => _ | none => _) = _
  rw [h]
  show (evTests F ifs env' s).bind _ = _
  rw [hi]; rfl
/-- a sealed comprehension is a list -/
theorem comp_pure {F : FT} {env : Env} {st : Store} {own : List Nat} {t : Tg} {k : Ik} {src ifs : List Ex} {elt : Ex} {ds : List D} {S : Src} (h : D → Option D) (hsrc : evs F src env st = .ok ds st) (hS : srcOf k ds st = some S) (hz : S.items.length ≤ SZ)
    (hsame : ∀ s, Gr st s → S.same s = true) (turn : ∀ x ∈ S.items, ∀ s, Gr st s → compOne F env own t ifs elt x s = .ok (h x) s) (hc : closedDs 0 (S.items.filterMap h) = true) :
    closeR st (ev F (.comp own t k src ifs elt) env st) = .ok (.flst (S.items.filterMap h)) st := by
  have e : ev F (.comp own t k src ifs elt) env st = evComp S.same st.length (compOne F env own t ifs elt) S.items (st ++ [.lst []]) := comp_eq F env st hsrc hS
  rw [e, evComp_pure h hsame S.items [] turn (by simpa using hz), List.nil_append]
  exact close_new hc
/-- over things that stand in a list as data -/
theorem comp_map {α : Type} {F : FT} {env : Env} {st : Store} {own : List Nat} {t : Tg} {k : Ik} {src : List Ex} {elt : Ex} {ds : List D} {S : Src} (xs : List α) (fi : α → D) (g : α → D) (hsrc : evs F src env st = .ok ds st) (hS : srcOf k ds st = some S) (hi : S.items = xs.map fi)
    (hz : xs.length ≤ SZ) (hsame : ∀ s, Gr st s → S.same s = true) (hc : ∀ x ∈ xs, closedD 0 (g x) = true)
    (turn : ∀ x ∈ xs, ∀ s, Gr st s → ∃ env', setT t (fi x) (wipeE own env) = some env' ∧ ev F elt env' s = .ok (g x) s) :
    closeR st (ev F (.comp own t k src [] elt) env st) = .ok (.flst (xs.map g)) st := by
  have e : ev F (.comp own t k src [] elt) env st = evComp S.same st.length (compOne F env own t [] elt) S.items (st ++ [.lst []]) := comp_eq F env st hsrc hS
  have go : ∀ (ys : List α) (acc : List D), (∀ y ∈ ys, y ∈ xs) → acc.length + ys.length ≤ SZ → evComp S.same st.length (compOne F env own t [] elt) (ys.map fi) (st ++ [.lst acc]) = .ok (.loc st.length) (st ++ [.lst (acc ++ ys.map g)]) := by
    intro ys
    induction ys with
    | nil => intro acc _ _; rw [List.map_nil, evComp, if_pos (hsame _ (Gr.app _ _)), List.map_nil, List.append_nil]
    | cons y ys ih =>
      intro acc hm hl
      rw [List.length_cons] at hl
      obtain ⟨env', h1, h2⟩ := turn y (hm y List.mem_cons_self) (st ++ [.lst acc]) (Gr.app _ _)
      rw [List.map_cons, evComp, if_pos (hsame _ (Gr.app _ _)), one_pure (d := g y) h1 rfl h2]
      show (match (st ++ [DO.lst acc])[st.length]? with | some (.lst acc) => if acc.length < SZ then evComp S.same st.length _ (ys.map fi) ((st ++ [DO.lst _]).set st.length (.lst (acc ++ [g y]))) else .bad | _ => .bad) = _
      rw [show (st ++ [DO.lst acc])[st.length]? = some (.lst acc) from by rw [List.getElem?_append_right (Nat.le_refl _), Nat.sub_self]; rfl]
      simp only
      rw [if_pos (by omega)]
      have e : (st ++ [DO.lst acc]).set st.length (.lst (acc ++ [g y])) = st ++ [.lst (acc ++ [g y])] := by
        rw [List.set_append_right _ _ (Nat.le_refl _), Nat.sub_self]; rfl
      rw [e, ih (acc ++ [g y]) (fun z hz => hm z (List.mem_cons_of_mem _ hz)) (by rw [List.length_append, List.length_singleton]; omega), List.append_assoc]
      rfl
  rw [e, hi, go xs [] (fun _ h => h) (by simpa using hz), List.nil_append]
  refine close_new (closeds_all fun d hd => ?_)
  obtain ⟨x, hx, rfl⟩ := List.mem_map.mp hd
  exact hc x hx
theorem evFor_nil {same : Store → Bool} {one : D → Env → Store → SR} {env : Env} {st : Store} (h : same st = true) : evFor same one [] env st = .next env st := by rw [evFor, if_pos h]
theorem evFor_next {same : Store → Bool} {one : D → Env → Store → SR} {x : D} {xs : List D} {env env' : Env} {st st' : Store} (h : same st = true) (ho : one x env st = .next env' st') : evFor same one (x :: xs) env st = evFor same one xs env' st' := by
  rw [evFor, if_pos h, ho]
theorem evFor_ret {same : Store → Bool} {one : D → Env → Store → SR} {x d : D} {xs : List D} {env : Env} {st st' : Store} (h : same st = true) (ho : one x env st = .ret d st') : evFor same one (x :: xs) env st = .ret d st' := by
  rw [evFor, if_pos h, ho]
theorem src_flst (st : Store) (xs : List D) : srcOf .seq [.flst xs] st = some ⟨xs, fun _ => true⟩ := rfl
theorem src_slst (st : Store) (xs : List D) : srcOf .seq [.slst xs] st = some ⟨xs, fun _ => true⟩ := rfl
theorem ix_flst {st : Store} {xs : List D} (i : Int) : ixSem (.flst xs) i st = (match atI xs i with | some d => .ok d st | none => .bad) := rfl
theorem new_at (st : Store) (o : DO) : (st ++ [o])[st.length]? = some o := by rw [List.getElem?_append_right (Nat.le_refl _), Nat.sub_self]; rfl
theorem new_set (st : Store) (o o' : DO) : (st ++ [o]).set st.length o' = st ++ [o'] := by rw [List.set_append_right _ _ (Nat.le_refl _), Nat.sub_self]; rfl
end Z
namespace Z
open PySem L2
section
variable (st : Store) (i j : Int) (x : List Nat)
theorem o_iadd : opSem (.x .iadd) [.int i, .int j] st = .ok (.int (i + j)) st := rfl
theorem o_isub : opSem (.x .isub) [.int i, .int j] st = .ok (.int (i - j)) st := rfl
theorem o_isNon : opSem .is [.non, .non] st = .ok (.bl true) st := rfl
theorem o_isNonI : opSem .is [.int i, .non] st = .ok (.bl false) st := rfl
theorem o_isNonS : opSem .is [.str x, .non] st = .ok (.bl false) st := rfl
theorem o_isnotNon : opSem .isnot [.non, .non] st = .ok (.bl false) st := rfl
theorem o_isnotNonI : opSem .isnot [.int i, .non] st = .ok (.bl true) st := rfl
theorem o_isnotNonS : opSem .isnot [.str x, .non] st = .ok (.bl true) st := rfl
theorem o_ord (c : Nat) : opSem (.x .ord_) [.str [c]] st = .ok (.int (c : Int)) st := rfl
end
theorem cut_nat {α : Type} (xs : List α) (p q : Nat) : cutD xs (some (p : Int)) (some (q : Int)) = (xs.drop p).take (q - p) := by
  unfold cutD
  rw [HT.sIx_nat, HT.sIx_nat]
  rcases Nat.le_total p xs.length with h | h
  · rw [Nat.min_eq_left h]
    rcases Nat.le_total q xs.length with h2 | h2
    · rw [Nat.min_eq_left h2]
    · rw [Nat.min_eq_right h2, List.take_of_length_le (by rw [List.length_drop]; exact Nat.le_refl _), List.take_of_length_le (by rw [List.length_drop]; omega)]
  · rw [Nat.min_eq_right h, List.drop_length, List.drop_eq_nil_of_le h, List.take_nil, List.take_nil]
/-- bytes, numbers as a list -/
def natsD (xs : List Nat) : D := .flst (xs.map fun (n : Nat) => D.int (n : Int))
theorem closed_nats (n : Nat) (xs : List Nat) : closedD n (natsD xs) = true := closeds_map (fun _ => rfl) xs
theorem len_nats (st : Store) (xs : List Nat) : opSem .len [natsD xs] st = .ok (.int (xs.length : Nat)) st := by
  show R.ok (D.int ((xs.map fun (n : Nat) => D.int (n : Int)).length : Nat)) st = _
  rw [List.length_map]
theorem ix_nats (st : Store) (xs : List Nat) (i : Nat) (h : i < xs.length) : opSem .ix [natsD xs, .int (i : Int)] st = .ok (.int (xs[i] : Nat)) st := by
  show (match atI (xs.map fun (n : Nat) => D.int (n : Int)) (i : Int) with | some d => R.ok d st | none => .bad) = _
  rw [atI_lt (by rw [List.length_map]; exact h), List.getElem_map]
/-- a sealed slice -/
theorem sl_nats (st : Store) (xs : List Nat) (p q : Nat) : closeR st (opSem (.sl true true) [natsD xs, .int (p : Int), .int (q : Int)] st) = .ok (natsD ((xs.drop p).take (q - p))) st := by
  show closeR st (.ok (.loc st.length) (st ++ [.lst (cutD (xs.map fun (n : Nat) => D.int (n : Int)) (some (p : Int)) (some (q : Int)))])) = _
  rw [cut_map, cut_nat]
  exact close_new (closeds_map (fun _ => rfl) _)
theorem eq_nats (st : Store) (xs ys : List Nat) : opSem .eq [natsD xs, natsD ys] st = .ok (.bl (decide (xs = ys))) st := by
  have p : ∀ zs : List Nat, pureD st (natsD zs) = some (natsD zs) := fun zs => by
    show (derefDs _ (zs.map fun (n : Nat) => D.int (n : Int))).map D.flst = _
    have : ∀ ws : List Nat, derefDs (atD st 8) (ws.map fun (n : Nat) => D.int (n : Int)) = some (ws.map fun (n : Nat) => D.int (n : Int)) := fun ws => by
      induction ws with
      | nil => rfl
      | cons w ws ih => rw [List.map_cons, derefDs, ih]; rfl
    rw [this]; rfl
  have d : ∀ zs : List Nat, deepD (natsD zs) = 1 := fun zs => by
    show deepDs (zs.map fun (n : Nat) => D.int (n : Int)) + 1 = 1
    have : ∀ ws : List Nat, deepDs (ws.map fun (n : Nat) => D.int (n : Int)) = 0 := fun ws => by
      induction ws with
      | nil => rfl
      | cons w ws ih => rw [List.map_cons, deepDs, ih]; rfl
    rw [this]
  have e : ∀ as bs : List Nat, eqDs (as.map fun (n : Nat) => D.int (n : Int)) (bs.map fun (n : Nat) => D.int (n : Int)) = decide (as = bs) := fun as => by
    induction as with
    | nil => intro bs; cases bs <;> simp [eqDs]
    | cons a as ih =>
      intro bs
      cases bs with
      | nil => simp [eqDs]
      | cons b bs =>
        rw [List.map_cons, List.map_cons, eqDs, ih]
        show (((a : Int) == (b : Int)) && decide (as = bs)) = _
        by_cases h1 : a = b <;> by_cases h2 : as = bs <;> simp [h1, h2]
        omega
  show (match eqSem (natsD xs) (natsD ys) st with | some k => R.ok (D.bl k) st | none => .bad) = _
  unfold eqSem
  rw [p, p]
  simp only [d]
  rw [if_pos (by decide)]
  show R.ok (D.bl (eqDs (xs.map fun (n : Nat) => D.int (n : Int)) (ys.map fun (n : Nat) => D.int (n : Int)))) st = _
  rw [e]
end Z
namespace Z
open PySem L2
theorem src_nats (st : Store) (xs : List Nat) : srcOf .seq [natsD xs] st = some ⟨xs.map fun (n : Nat) => D.int (n : Int), fun _ => true⟩ := rfl
theorem mul256 (st : Store) (j : Int) : opSem .mul [.int 256, .int j] st = .ok (.int (256 * j)) st := o_mulL st 256 j (by decide)
end Z


set_option autoImplicit false
set_option maxHeartbeats 1000000
namespace Z
open PySem L2

/-! # Plain data: numbers, texts, tuples, lists of these -/
mutual
def plD : D → Bool
  | .int _ => true
  | .str _ => true
  | .tup xs => plDs xs
  | .flst xs => plDs xs
  | _ => false
def plDs : List D → Bool
  | [] => true
  | x :: xs => plD x && plDs xs
end
mutual
theorem pl_lit : ∀ d : D, plD d = true → litD d = true
  | .int _, _ => rfl
  | .str _, _ => rfl
  | .tup xs, h => pls_lit xs h
  | .flst xs, h => pls_lit xs h
  | .non, h => by cases h
  | .bl _, h => by cases h
  | .slst _, h => by cases h
  | .fdct _ _, h => by cases h
  | .fset _, h => by cases h
  | .fins _ _ _, h => by cases h
  | .fn _, h => by cases h
  | .loc _, h => by cases h
theorem pls_lit : ∀ ds : List D, plDs ds = true → litDs ds = true
  | [], _ => rfl
  | d :: ds, h => by
    have h : (plD d && plDs ds) = true := h
    rw [Bool.and_eq_true] at h
    show (litD d && litDs ds) = true
    rw [pl_lit d h.1, pls_lit ds h.2]; rfl
end
mutual
theorem lit_closed : ∀ d : D, litD d = true → closedD 0 d = true
  | .non, _ => rfl
  | .bl _, _ => rfl
  | .int _, _ => rfl
  | .str _, _ => rfl
  | .tup xs, h => lits_closed xs h
  | .flst xs, h => lits_closed xs h
  | .slst _, h => by cases h
  | .fdct _ _, h => by cases h
  | .fset _, h => by cases h
  | .fins _ _ _, h => by cases h
  | .fn _, h => by cases h
  | .loc _, h => by cases h
theorem lits_closed : ∀ ds : List D, litDs ds = true → closedDs 0 ds = true
  | [], _ => rfl
  | d :: ds, h => by
    have h : (litD d && litDs ds) = true := h
    rw [Bool.and_eq_true] at h
    rw [closedDs, lit_closed d h.1, lits_closed ds h.2]; rfl
end
mutual
theorem lit_alike : ∀ d : D, litD d = true → alikeD d d = true
  | .non, _ => rfl
  | .bl _, _ => rfl
  | .int _, _ => rfl
  | .str _, _ => rfl
  | .tup xs, h => lits_alike xs h
  | .flst xs, h => lits_alike xs h
  | .slst _, h => by cases h
  | .fdct _ _, h => by cases h
  | .fset _, h => by cases h
  | .fins _ _ _, h => by cases h
  | .fn _, h => by cases h
  | .loc _, h => by cases h
theorem lits_alike : ∀ ds : List D, litDs ds = true → alikeDs ds ds = true
  | [], _ => rfl
  | d :: ds, h => by
    have h : (litD d && litDs ds) = true := h
    rw [Bool.and_eq_true] at h
    show (alikeD d d && alikeDs ds ds) = true
    rw [lit_alike d h.1, lits_alike ds h.2]; rfl
end
mutual
theorem pl_eq : ∀ a b : D, plD a = true → plD b = true → (eqD a b = true ↔ a = b)
  | .int x, b, h, g => by
    cases b with
    | int y => show (x == y) = true ↔ _; simp
    | str y => exact ⟨fun z => (by cases z), fun z => (by cases z)⟩
    | tup y => exact ⟨fun z => (by cases z), fun z => (by cases z)⟩
    | flst y => exact ⟨fun z => (by cases z), fun z => (by cases z)⟩
    | _ => cases g
  | .str x, b, h, g => by
    cases b with
    | str y => show (x == y) = true ↔ _; simp
    | int y => exact ⟨fun z => (by cases z), fun z => (by cases z)⟩
    | tup y => exact ⟨fun z => (by cases z), fun z => (by cases z)⟩
    | flst y => exact ⟨fun z => (by cases z), fun z => (by cases z)⟩
    | _ => cases g
  | .tup xs, b, h, g => by
    cases b with
    | tup ys =>
      have := pls_eq xs ys h g
      show eqDs xs ys = true ↔ _
      rw [this]
      exact ⟨fun z => by rw [z], fun z => by injection z⟩
    | int y => exact ⟨fun z => (by cases z), fun z => (by cases z)⟩
    | str y => exact ⟨fun z => (by cases z), fun z => (by cases z)⟩
    | flst y => exact ⟨fun z => (by cases z), fun z => (by cases z)⟩
    | _ => cases g
  | .flst xs, b, h, g => by
    cases b with
    | flst ys =>
      have := pls_eq xs ys h g
      show eqDs xs ys = true ↔ _
      rw [this]
      exact ⟨fun z => by rw [z], fun z => by injection z⟩
    | int y => exact ⟨fun z => (by cases z), fun z => (by cases z)⟩
    | str y => exact ⟨fun z => (by cases z), fun z => (by cases z)⟩
    | tup y => exact ⟨fun z => (by cases z), fun z => (by cases z)⟩
    | _ => cases g
  | .non, _, h, _ => by cases h
  | .bl _, _, h, _ => by cases h
  | .slst _, _, h, _ => by cases h
  | .fdct _ _, _, h, _ => by cases h
  | .fset _, _, h, _ => by cases h
  | .fins _ _ _, _, h, _ => by cases h
  | .fn _, _, h, _ => by cases h
  | .loc _, _, h, _ => by cases h
theorem pls_eq : ∀ as bs : List D, plDs as = true → plDs bs = true → (eqDs as bs = true ↔ as = bs)
  | [], [], _, _ => ⟨fun _ => rfl, fun _ => rfl⟩
  | [], b :: bs, _, _ => ⟨fun z => (by cases z), fun z => (by cases z)⟩
  | a :: as, [], _, _ => ⟨fun z => (by cases z), fun z => (by cases z)⟩
  | a :: as, b :: bs, h, g => by
    have h : (plD a && plDs as) = true := h
    have g : (plD b && plDs bs) = true := g
    rw [Bool.and_eq_true] at h g
    show (eqD a b && eqDs as bs) = true ↔ _
    rw [Bool.and_eq_true, pl_eq a b h.1 g.1, pls_eq as bs h.2 g.2]
    exact ⟨fun z => by rw [z.1, z.2], fun z => by injection z with z1 z2; exact ⟨z1, z2⟩⟩
end
theorem pl_refl {a : D} (h : plD a = true) : eqD a a = true := (pl_eq a a h h).mpr rfl
theorem pl_ne {a b : D} (h : plD a = true) (g : plD b = true) (n : a ≠ b) : eqD a b = false := Bool.eq_false_iff.mpr fun z => n ((pl_eq a b h g).mp z)
theorem pls_mem {ds : List D} (h : plDs ds = true) {d : D} (hd : d ∈ ds) : plD d = true := by
  induction ds with
  | nil => cases hd
  | cons x xs ih =>
    have h : (plD x && plDs xs) = true := h
    rw [Bool.and_eq_true] at h
    rcases List.mem_cons.mp hd with rfl | hd
    · exact h.1
    · exact ih h.2 hd
theorem pls_all {ds : List D} (h : ∀ d ∈ ds, plD d = true) : plDs ds = true := by
  induction ds with
  | nil => rfl
  | cons x xs ih =>
    show (plD x && plDs xs) = true
    rw [h x List.mem_cons_self, ih fun d hd => h d (List.mem_cons_of_mem _ hd)]; rfl
theorem pl_name (n : List (List Nat)) : plD (nameD n) = true := pls_all fun d hd => by
  obtain ⟨l, _, rfl⟩ := List.mem_map.mp hd
  rfl
theorem deeps_all {ds : List D} {m : Nat} (h : ∀ d ∈ ds, deepD d ≤ m) : deepDs ds ≤ m := by
  induction ds with
  | nil => exact Nat.zero_le _
  | cons x xs ih =>
    show max (deepD x) (deepDs xs) ≤ m
    exact Nat.max_le.mpr ⟨h x List.mem_cons_self, ih fun d hd => h d (List.mem_cons_of_mem _ hd)⟩
section
variable (st : Store)
theorem pl_pure {d : D} (h : litD d = true) : pureD st d = some d := lit_deref _ d h
theorem eqSem_lit {a b : D} (h : litD a = true) (g : litD b = true) (hz : deepD a ≤ 60) : eqSem a b st = some (eqD a b) := by
  unfold eqSem
  rw [pl_pure st h, pl_pure st g]
  simp only
  rw [if_pos (Nat.le_trans (Nat.min_le_left _ _) hz)]
theorem o_eqP {a b : D} (h : litD a = true) (g : litD b = true) (hz : deepD a ≤ 60) : opSem .eq [a, b] st = .ok (.bl (eqD a b)) st := by
  rw [o_eq, eqSem_lit st h g hz]
theorem o_neP {a b : D} (h : litD a = true) (g : litD b = true) (hz : deepD a ≤ 60) : opSem .ne [a, b] st = .ok (.bl (!eqD a b)) st := by
  rw [o_ne, eqSem_lit st h g hz]
theorem o_inP {a d : D} {ys : List D} (h : litD a = true) (hz : deepD a ≤ 60) (hd : pureD st d = some (.flst ys) ∨ pureD st d = some (.tup ys)) (hn : ∀ z, d ≠ .str z) : opSem (.x .inn) [a, d] st = .ok (.bl (ys.any fun y => eqD y a)) st := by
  show (match inSem a d st with | some k => R.ok (D.bl k) st | none => .bad) = _
  have e : inSem a d st = some (ys.any fun y => eqD y a) := by
    unfold inSem
    split
    · rename_i z; exact absurd rfl (hn z)
    · rw [pl_pure st h]
      rcases hd with hd | hd
      · rw [hd]; simp only; rw [if_pos hz]
      · rw [hd]; simp only; rw [if_pos hz]
  rw [e]
theorem pure_loc {l : Nat} {xs : List D} (h : st[l]? = some (.lst xs)) (hx : litDs xs = true) : pureD st (.loc l) = some (.flst xs) := by
  show atD st 8 l = _
  unfold atD
  rw [h]
  show (derefDs (atD st 7) xs).map D.flst = _
  rw [lits_deref _ xs hx]; rfl
theorem ix_tup (xs : List D) (i : Nat) {d : D} (h : xs[i]? = some d) : opSem .ix [.tup xs, .int (i : Int)] st = .ok d st := by
  obtain ⟨hl, he⟩ := List.getElem?_eq_some_iff.mp h
  show (match atI xs (i : Int) with | some d => R.ok d st | none => .bad) = _
  rw [atI_lt hl, he]
end

/-! # Lists of the store; loops that may return a number -/
theorem asLst_at {s : Store} {l : Nat} {xs : List D} (h : s[l]? = some (.lst xs)) : opSem (.x .asLst) [.loc l] s = .ok (.loc l) s := by
  show (match s[l]? with | some (DO.lst _) => R.ok (D.loc l) s | _ => .bad) = _
  rw [h]
theorem append_at {s : Store} {l : Nat} {xs : List D} (d : D) (h : s[l]? = some (.lst xs)) (hl : xs.length < 100000) : opSem (.x (.meth .append)) [.loc l, d] s = .ok .non (s.set l (.lst (xs ++ [d]))) := by
  show (match s[l]? with | some (DO.lst xs) => if xs.length < SZ then R.ok D.non (s.set l (.lst (xs ++ [d]))) else .bad | _ => .bad) = _
  rw [h]
  exact if_pos (by show xs.length < 16777216; omega)
theorem at_app {s t : Store} {l : Nat} {o : DO} (h : s[l]? = some o) : (s ++ t)[l]? = some o := by
  rw [List.getElem?_append_left (List.getElem?_eq_some_iff.mp h).1]; exact h
theorem o_anyF {α : Type} (st : Store) (f : α → Bool) (xs : List α) : opSem (.x .any_) [.flst (xs.map fun x => D.bl (f x))] st = .ok (.bl (xs.any f)) st := by
  show (match allBl (xs.map fun x => D.bl (f x)) with | some bs => R.ok (D.bl (bs.any id)) st | none => .bad) = _
  rw [allBl_map]
  show R.ok (D.bl ((xs.map f).any id)) st = _
  rw [List.any_map]; rfl
theorem o_allF {α : Type} (st : Store) (f : α → Bool) (xs : List α) : opSem (.x .all_) [.flst (xs.map fun x => D.bl (f x))] st = .ok (.bl (xs.all f)) st := by
  show (match allBl (xs.map fun x => D.bl (f x)) with | some bs => R.ok (D.bl (bs.all id)) st | none => .bad) = _
  rw [allBl_map]
  show R.ok (D.bl ((xs.map f).all id)) st = _
  rw [List.all_map]; rfl
def Go (I : Env → Prop) (s : Store) (r : SR) : Prop := (∃ n : Int, r = .ret (.int n) s) ∨ ∃ env, I env ∧ r = .next env s
theorem evFor_go {I : Env → Prop} {s : Store} {one : D → Env → Store → SR} : ∀ (items : List D), (∀ x ∈ items, ∀ env, I env → Go I s (one x env s)) → ∀ env, I env → Go I s (evFor (fun _ => true) one items env s)
  | [], _, env, hi => .inr ⟨env, hi, by rw [evFor_nil rfl]⟩
  | x :: xs, h, env, hi => by
    rcases h x List.mem_cons_self env hi with ⟨n, e⟩ | ⟨env', hi', e⟩
    · exact .inl ⟨n, evFor_ret rfl e⟩
    · have := evFor_go xs (fun y hy => h y (List.mem_cons_of_mem _ hy)) env' hi'
      rw [evFor_next rfl e]
      exact this
theorem go_seq {I J : Env → Prop} {s : Store} {r : SR} {f : Env → Store → SR} (h : Go I s r) (g : ∀ env, I env → Go J s (f env s)) : Go J s (r.seq f) := by
  rcases h with ⟨n, rfl⟩ | ⟨env, hi, rfl⟩
  · exact .inl ⟨n, rfl⟩
  · exact g env hi
mutual
theorem beq_refl : ∀ d : D, beqD d d = true
  | .non => rfl
  | .bl b => by cases b <;> rfl
  | .int i => by show (i == i) = true; exact beq_self_eq_true i
  | .str x => by show (x == x) = true; exact beq_self_eq_true x
  | .tup xs => beqs_refl xs
  | .flst xs => beqs_refl xs
  | .slst xs => beqs_refl xs
  | .fdct a b => by show (beqDs a a && beqDs b b) = true; rw [beqs_refl a, beqs_refl b]; rfl
  | .fset a => beqs_refl a
  | .fins c n a => by show (c == c && n == n && beqDs a a) = true; rw [beqs_refl a, beq_self_eq_true, beq_self_eq_true]; rfl
  | .fn a => by show (a == a) = true; exact beq_self_eq_true a
  | .loc a => by show (a == a) = true; exact beq_self_eq_true a
theorem beqs_refl : ∀ ds : List D, beqDs ds ds = true
  | [] => rfl
  | d :: ds => by rw [beqDs, beq_refl d, beqs_refl ds]; rfl
end
theorem lst_is {st : Store} {l : Nat} {xs : List D} (h : st[l]? = some (.lst xs)) : lstIs l xs st = true := by
  unfold lstIs
  rw [h]
  exact beqs_refl xs
end Z

set_option autoImplicit false
namespace K13
open PySem PySem.Spec PyProof.Rows L2 Z
def topS (i : Nat) : Stmt := PySem.Challenge.pw_zoneward_k13_serials.main.body.getD i (.Pass ⟨0, 0, 0, 0⟩)
def e0 : Ent := { x := "is_later", q := "is_later", st := topS 3, N := ["serial", "other"], ps := ["serial", "other"], dvs := [], raw := true }
def e1 : Ent := { x := "next_serial", q := "next_serial", st := topS 4, N := ["serial"], ps := ["serial"], dvs := [], raw := true }
def e2 : Ent := { x := "_law_is_integer", q := "_law_is_integer", st := topS 6, N := ["actual"], ps := ["actual"], dvs := [], raw := true }
def e3 : Ent := { x := "_law_draw", q := "_law_draw", st := topS 7, N := ["state", "script", "size", "cell", "mixed", "digit"], ps := ["state", "script", "size"], dvs := [], raw := true }
def e4 : Ent := { x := "law", q := "law", st := topS 8, N := ["script", "state", "steps", "turn", "low", "step", "high", "told", "back", "after", "due"], ps := ["script"], dvs := [], opens := [⟨27, 12, 27, 18⟩] }
def pg : Pg := { E := [e0, e1, e2, e3, e4], co := [("SERIALS", .int 4294967296), ("HALF_OF_SERIALS", .int 2147483648)], blt := ["bool", "int", "isinstance", "len", "range"], ex := [], exb := [], cl := [], me := [], fa := [], ic := [] }
/-- is_later -/
def b0 : List Sx :=
  [.ret (.chain .lt .lt (.c (.int 0)) (.op .mod [.op .sub [.v 0, .v 1], .c (.int 4294967296)]) (.c (.int 2147483648)))]
/-- next_serial -/
def b1 : List Sx :=
  [.ret (.op .mod [.op .add [.v 0, .c (.int 1)], .c (.int 4294967296)])]
/-- _law_is_integer -/
def b2 : List Sx :=
  [.ret (.and (.op (.isin .int) [.v 0]) (.not (.op (.isin .bool) [.v 0])))]
/-- _law_draw -/
def b3 : List Sx :=
  [.ite (.op .eq [.op .ix [.v 0, .c (.int 1)], .c (.int 0)]) [.asg (.nm 3) (.c (.int 0)), .ite (.op .gt [.op .len [.v 1],
    .c (.int 0)]) [.asg (.nm 3) (.op .ix [.v 1, .op .mod [.op .ix [.v 0, .c (.int 0)], .op .len [.v 1]]])] [], .ite (.op .lt [.v 3,
    .c (.int 0)]) [.asg (.nm 3) (.op .sub [.c (.int 1), .op .mul [.c (.int 2), .v 3]])] [],
    .asg (.nm 4) (.op .mod [.op .toInt [.op .mul [.op .add [.op .add [.v 3, .op .mul [.op .ix [.v 0, .c (.int 0)], .c (.int 7919)]], .c (.int 1)],
    .c (.int 48271)]], .c (.int 2147483647)]), .setix (.v 0) (.c (.int 1)) (.op .mod [.op .toInt [.op .add [.op .mul [.v 4, .c (.int 69621)],
    .op .mul [.op .ix [.v 0, .c (.int 0)], .c (.int 104729)]]], .c (.int 4294967291)]), .ite (.and (.op .ge [.v 3, .op .pow [.c (.int 10),
    .c (.int 18)]]) (.op .lt [.op .ix [.v 0, .c (.int 0)], .op .len [.v 1]])) [.setix (.v 0) (.c (.int 1)) (.v 3)] [],
    .setix (.v 0) (.c (.int 0)) (.op .add [.op .ix [.v 0, .c (.int 0)], .c (.int 1)])] [], .asg (.nm 5) (.op .mod [.op .toInt [.op .ix [.v 0,
    .c (.int 1)]], .v 2]), .setix (.v 0) (.c (.int 1)) (.op .fdiv [.op .ix [.v 0, .c (.int 1)], .v 2]), .ret (.v 5)]
/-- law -/
def b4 : List Sx :=
  [.asg (.nm 1) (.op .lst [.c (.int 0), .c (.int 0)]), .asg (.nm 2) (.op (.x .flit) [.c (.int 0), .c (.int 1), .c (.int 2147483647),
    .c (.int 2147483648), .c (.int 2147483649), .c (.int 4294967295), .c (.int 2)]), .for_ (.nm 3) .range1 [.c (.int 8)]
    [.asg (.nm 4) (.op .ix [.op (.x .flit) [.c (.int 0), .c (.int 1), .c (.int 4294967295), .c (.int 2147483648)], .call 3 [.v 1, .v 0,
    .c (.int 4)]]), .ite (.op .eq [.call 3 [.v 1, .v 0, .c (.int 2)], .c (.int 1)]) [.asg (.nm 4) (.call 3 [.v 1, .v 0, .c (.int 4294967296)])] [],
    .asg (.nm 5) (.op .ix [.v 2, .call 3 [.v 1, .v 0, .c (.int 7)]]), .ite (.op .eq [.call 3 [.v 1, .v 0, .c (.int 2)],
    .c (.int 1)]) [.asg (.nm 5) (.call 3 [.v 1, .v 0, .c (.int 4294967296)])] [], .asg (.nm 6) (.op .add [.v 4, .v 5]), .ite (.op .gt [.v 6,
    .c (.int 4294967295)]) [.asg (.nm 6) (.op .sub [.v 6, .c (.int 4294967296)])] [], .asg (.nm 7) (.call 0 [.v 6, .v 4]),
    .asg (.nm 8) (.call 0 [.v 4, .v 6]), .ite (.or (.not (.op (.isin .bool) [.v 7])) (.not (.op (.isin .bool) [.v 8]))) [.ret (.c (.bl false))] [],
    .ite (.or (.op .ne [.v 7, .chain .le .lt (.c (.int 1)) (.v 5) (.c (.int 2147483648))]) (.op .ne [.v 8, .op .lt [.c (.int 2147483648),
    .v 5]])) [.ret (.c (.bl false))] [], .asg (.nm 9) (.call 1 [.v 4]), .asg (.nm 10) (.op .add [.v 4, .c (.int 1)]), .ite (.op .eq [.v 4,
    .c (.int 4294967295)]) [.asg (.nm 10) (.c (.int 0))] [], .ite (.or (.not (.call 2 [.v 9])) (.or (.op .ne [.v 9, .v 10]) (.or (.not (.call 0 [.v 9,
    .v 4])) (.call 0 [.v 4, .v 9])))) [.ret (.c (.bl false))] []], .ret (.c (.bl true))]
def P : List Fd := [⟨2, 2, b0⟩, ⟨1, 1, b1⟩, ⟨1, 1, b2⟩, ⟨6, 3, b3⟩, ⟨11, 1, b4⟩]
theorem comp : Comp pg pg.E P := .cons 200 (by rfl) (hot_no rfl) (.cons 200 (by rfl) (hot_no rfl) (.cons 200 (by rfl) (hot_no rfl) (.cons 200 (by rfl) (hot_no rfl) (.cons 200 (by rfl) (hot_no rfl) (.nil)))))
end K13

set_option autoImplicit false
set_option maxHeartbeats 1000000
namespace K13
open L2 Z
def later (a b : Int) : Bool := decide (0 < (a - b) % 4294967296) && decide ((a - b) % 4294967296 < 2147483648)
section
variable (k : Nat) (st : Store)
theorem r_later (a b : Int) : Z.run P (k + 1) 0 [.int a, .int b] st = .ok (.bl (later a b)) st := by
  rw [run_eq (P := P) (f := 0) rfl k _ _ rfl]
  show (xss (Z.run P k) b0 [some (.int a), some (.int b)] st).fin = _
  unfold later
  by_cases h : 0 < (a - b) % 4294967296
  · simp only [b0, forB_nm, ev_op, ev_v, ev_c, ev_not, ev_and, ev_or, ev_ifx, ev_chain, ev_call, ev_scall, ev_seal, evs_cons, evs_nil, xs_asg, xs_expr, xs_ret, xs_ite, xs_brk, xs_cnt, xs_pass, xs_raise, xss_cons, xss_nil, List.getElem?_cons_zero, List.getElem?_cons_succ, bind_ok, bind_exc, toS_ok, toS_exc, seq_next, seq_ret, seq_exc, fin_ret, fin_next, fin_exc, truth_bl, setT_nm, List.set_cons_succ, List.set_cons_zero, o_addI, o_subI, o_ltI, o_leI, o_gtI, o_geI, o_eqI, o_neI, o_eqS, o_neS, o_eqB, o_neB, o_isB, o_isnotB, o_toInt, o_asInt, o_neg, o_asStr, o_iadd, o_isub, o_isNon, o_isNonI, o_isNonS, o_isnotNon, o_isnotNonI, o_isnotNonS, Bool.not_true, Bool.not_false, close_int, close_bl, close_str, close_non, o_mod _ _ 4294967296 (by decide), decide_eq_true h, Bool.true_and]
  · simp only [b0, forB_nm, ev_op, ev_v, ev_c, ev_not, ev_and, ev_or, ev_ifx, ev_chain, ev_call, ev_scall, ev_seal, evs_cons, evs_nil, xs_asg, xs_expr, xs_ret, xs_ite, xs_brk, xs_cnt, xs_pass, xs_raise, xss_cons, xss_nil, List.getElem?_cons_zero, List.getElem?_cons_succ, bind_ok, bind_exc, toS_ok, toS_exc, seq_next, seq_ret, seq_exc, fin_ret, fin_next, fin_exc, truth_bl, setT_nm, List.set_cons_succ, List.set_cons_zero, o_addI, o_subI, o_ltI, o_leI, o_gtI, o_geI, o_eqI, o_neI, o_eqS, o_neS, o_eqB, o_neB, o_isB, o_isnotB, o_toInt, o_asInt, o_neg, o_asStr, o_iadd, o_isub, o_isNon, o_isNonI, o_isNonS, o_isnotNon, o_isnotNonI, o_isnotNonS, Bool.not_true, Bool.not_false, close_int, close_bl, close_str, close_non, o_mod _ _ 4294967296 (by decide), decide_eq_false h, Bool.false_and]
theorem r_next (a : Int) : Z.run P (k + 1) 1 [.int a] st = .ok (.int ((a + 1) % 4294967296)) st := by
  rw [run_eq (P := P) (f := 1) rfl k _ _ rfl]
  show (xss (Z.run P k) b1 [some (.int a)] st).fin = _
  simp only [b1, forB_nm, ev_op, ev_v, ev_c, ev_not, ev_and, ev_or, ev_ifx, ev_chain, ev_call, ev_scall, ev_seal, evs_cons, evs_nil, xs_asg, xs_expr, xs_ret, xs_ite, xs_brk, xs_cnt, xs_pass, xs_raise, xss_cons, xss_nil, List.getElem?_cons_zero, List.getElem?_cons_succ, bind_ok, bind_exc, toS_ok, toS_exc, seq_next, seq_ret, seq_exc, fin_ret, fin_next, fin_exc, truth_bl, setT_nm, List.set_cons_succ, List.set_cons_zero, o_addI, o_subI, o_ltI, o_leI, o_gtI, o_geI, o_eqI, o_neI, o_eqS, o_neS, o_eqB, o_neB, o_isB, o_isnotB, o_toInt, o_asInt, o_neg, o_asStr, o_iadd, o_isub, o_isNon, o_isNonI, o_isNonS, o_isnotNon, o_isnotNonI, o_isnotNonS, Bool.not_true, Bool.not_false, close_int, close_bl, close_str, close_non, o_mod _ _ 4294967296 (by decide)]
theorem r_isint (a : Int) : Z.run P (k + 1) 2 [.int a] st = .ok (.bl true) st := by
  rw [run_eq (P := P) (f := 2) rfl k _ _ rfl]
  show (xss (Z.run P k) b2 [some (.int a)] st).fin = _
  simp only [b2, forB_nm, ev_op, ev_v, ev_c, ev_not, ev_and, ev_or, ev_ifx, ev_chain, ev_call, ev_scall, ev_seal, evs_cons, evs_nil, xs_asg, xs_expr, xs_ret, xs_ite, xs_brk, xs_cnt, xs_pass, xs_raise, xss_cons, xss_nil, List.getElem?_cons_zero, List.getElem?_cons_succ, bind_ok, bind_exc, toS_ok, toS_exc, seq_next, seq_ret, seq_exc, fin_ret, fin_next, fin_exc, truth_bl, setT_nm, List.set_cons_succ, List.set_cons_zero, o_addI, o_subI, o_ltI, o_leI, o_gtI, o_geI, o_eqI, o_neI, o_eqS, o_neS, o_eqB, o_neB, o_isB, o_isnotB, o_toInt, o_asInt, o_neg, o_asStr, o_iadd, o_isub, o_isNon, o_isNonI, o_isNonS, o_isnotNon, o_isnotNonI, o_isnotNonS, Bool.not_true, Bool.not_false, close_int, close_bl, close_str, close_non, o_isinI, isTy]
end
def stepsL : List D := [.int 0, .int 1, .int 2147483647, .int 2147483648, .int 2147483649, .int 4294967295, .int 2]
def lowsL : List D := [.int 0, .int 1, .int 4294967295, .int 2147483648]
def En (ns : List Int) (x3 x4 x5 x6 x7 x8 x9 x10 : Option D) : Z.Env := [some (.slst (ns.map .int)), some (.loc 0), some (.flst stepsL), x3, x4, x5, x6, x7, x8, x9, x10]
theorem at_lows {d : Int} (h0 : 0 ≤ d) (h : d < 4) : ∃ v : Int, atI lowsL d = some (.int v) ∧ 0 ≤ v ∧ v < 4294967296 := by
  have : d = 0 ∨ d = 1 ∨ d = 2 ∨ d = 3 := by omega
  rcases this with rfl | rfl | rfl | rfl <;> exact ⟨_, rfl, by decide, by decide⟩
theorem at_steps {d : Int} (h0 : 0 ≤ d) (h : d < 7) : ∃ v : Int, atI stepsL d = some (.int v) ∧ 0 ≤ v ∧ v < 4294967296 := by
  have : d = 0 ∨ d = 1 ∨ d = 2 ∨ d = 3 ∨ d = 4 ∨ d = 5 ∨ d = 6 := by omega
  rcases this with rfl | rfl | rfl | rfl | rfl | rfl | rfl <;> exact ⟨_, rfl, by decide, by decide⟩
section
variable (k : Nat) (ns : List Int)
/-- a number by the draws: one of a few, or any below 2^32 -/
theorem pick1 {st : Store} (h : StOk 0 st) : ∃ (v : Int) (st' : Store), 0 ≤ v ∧ v < 4294967296 ∧ StOk 0 st' ∧ ∀ x3 x4 x5 x6 x7 x8 x9 x10, xss (Z.run P (k + 1)) [.asg (.nm 4) (.op .ix [.op (.x .flit) [.c (.int 0), .c (.int 1), .c (.int 4294967295), .c (.int 2147483648)], .call 3 [.v 1, .v 0,
    .c (.int 4)]]), .ite (.op .eq [.call 3 [.v 1, .v 0, .c (.int 2)], .c (.int 1)]) [.asg (.nm 4) (.call 3 [.v 1, .v 0, .c (.int 4294967296)])] []] (En ns x3 x4 x5 x6 x7 x8 x9 x10) st = .next (En ns x3 (some (.int v)) x5 x6 x7 x8 x9 x10) st' := by
  obtain ⟨d1, s1, e1, p1, q1, g1, _⟩ := draw (P := P) (f := 3) (ns := ns) rfl k h (size := 4) (by decide) (by decide)
  obtain ⟨v, hv, v0, v1⟩ := at_lows p1 q1
  obtain ⟨d2, s2, e2, p2, q2, g2, _⟩ := draw (P := P) (f := 3) (ns := ns) rfl k g1 (size := 2) (by decide) (by decide)
  have fl : opSem (.x .flit) [.int 0, .int 1, .int 4294967295, .int 2147483648] st = .ok (.flst lowsL) st := rfl
  have ix : opSem .ix [.flst lowsL, .int d1] s1 = .ok (.int v) s1 := by rw [o_ix, ix_flst, hv]
  by_cases h2 : d2 = 1
  · obtain ⟨d3, s3, e3, p3, q3, g3, _⟩ := draw (P := P) (f := 3) (ns := ns) rfl k g2 (size := 4294967296) (by decide) (by decide)
    refine ⟨d3, s3, p3, q3, g3, fun x3 x4 x5 x6 x7 x8 x9 x10 => ?_⟩
    have c : (d2 == 1) = true := by simp [h2]
    simp only [En, forB_nm, ev_op, ev_v, ev_c, ev_not, ev_and, ev_or, ev_ifx, ev_chain, ev_call, ev_scall, ev_seal, evs_cons, evs_nil, xs_asg, xs_expr, xs_ret, xs_ite, xs_brk, xs_cnt, xs_pass, xs_raise, xss_cons, xss_nil, List.getElem?_cons_zero, List.getElem?_cons_succ, bind_ok, bind_exc, toS_ok, toS_exc, seq_next, seq_ret, seq_exc, fin_ret, fin_next, fin_exc, truth_bl, setT_nm, List.set_cons_succ, List.set_cons_zero, o_addI, o_subI, o_ltI, o_leI, o_gtI, o_geI, o_eqI, o_neI, o_eqS, o_neS, o_eqB, o_neB, o_isB, o_isnotB, o_toInt, o_asInt, o_neg, o_asStr, o_iadd, o_isub, o_isNon, o_isNonI, o_isNonS, o_isnotNon, o_isnotNonI, o_isnotNonS, Bool.not_true, Bool.not_false, close_int, close_bl, close_str, close_non, fl, e1, ix, e2, c, e3]
  · refine ⟨v, s2, v0, v1, g2, fun x3 x4 x5 x6 x7 x8 x9 x10 => ?_⟩
    have c : (d2 == 1) = false := by simp [h2]
    simp only [En, forB_nm, ev_op, ev_v, ev_c, ev_not, ev_and, ev_or, ev_ifx, ev_chain, ev_call, ev_scall, ev_seal, evs_cons, evs_nil, xs_asg, xs_expr, xs_ret, xs_ite, xs_brk, xs_cnt, xs_pass, xs_raise, xss_cons, xss_nil, List.getElem?_cons_zero, List.getElem?_cons_succ, bind_ok, bind_exc, toS_ok, toS_exc, seq_next, seq_ret, seq_exc, fin_ret, fin_next, fin_exc, truth_bl, setT_nm, List.set_cons_succ, List.set_cons_zero, o_addI, o_subI, o_ltI, o_leI, o_gtI, o_geI, o_eqI, o_neI, o_eqS, o_neS, o_eqB, o_neB, o_isB, o_isnotB, o_toInt, o_asInt, o_neg, o_asStr, o_iadd, o_isub, o_isNon, o_isNonI, o_isNonS, o_isnotNon, o_isnotNonI, o_isnotNonS, Bool.not_true, Bool.not_false, close_int, close_bl, close_str, close_non, fl, e1, ix, e2, c]
theorem pick2 {st : Store} (h : StOk 0 st) : ∃ (v : Int) (st' : Store), 0 ≤ v ∧ v < 4294967296 ∧ StOk 0 st' ∧ ∀ x3 x4 x5 x6 x7 x8 x9 x10, xss (Z.run P (k + 1)) [.asg (.nm 5) (.op .ix [.v 2, .call 3 [.v 1, .v 0, .c (.int 7)]]), .ite (.op .eq [.call 3 [.v 1, .v 0, .c (.int 2)],
    .c (.int 1)]) [.asg (.nm 5) (.call 3 [.v 1, .v 0, .c (.int 4294967296)])] []] (En ns x3 x4 x5 x6 x7 x8 x9 x10) st = .next (En ns x3 x4 (some (.int v)) x6 x7 x8 x9 x10) st' := by
  obtain ⟨d1, s1, e1, p1, q1, g1, _⟩ := draw (P := P) (f := 3) (ns := ns) rfl k h (size := 7) (by decide) (by decide)
  obtain ⟨v, hv, v0, v1⟩ := at_steps p1 q1
  obtain ⟨d2, s2, e2, p2, q2, g2, _⟩ := draw (P := P) (f := 3) (ns := ns) rfl k g1 (size := 2) (by decide) (by decide)
  have ix : opSem .ix [.flst stepsL, .int d1] s1 = .ok (.int v) s1 := by rw [o_ix, ix_flst, hv]
  by_cases h2 : d2 = 1
  · obtain ⟨d3, s3, e3, p3, q3, g3, _⟩ := draw (P := P) (f := 3) (ns := ns) rfl k g2 (size := 4294967296) (by decide) (by decide)
    refine ⟨d3, s3, p3, q3, g3, fun x3 x4 x5 x6 x7 x8 x9 x10 => ?_⟩
    have c : (d2 == 1) = true := by simp [h2]
    simp only [En, forB_nm, ev_op, ev_v, ev_c, ev_not, ev_and, ev_or, ev_ifx, ev_chain, ev_call, ev_scall, ev_seal, evs_cons, evs_nil, xs_asg, xs_expr, xs_ret, xs_ite, xs_brk, xs_cnt, xs_pass, xs_raise, xss_cons, xss_nil, List.getElem?_cons_zero, List.getElem?_cons_succ, bind_ok, bind_exc, toS_ok, toS_exc, seq_next, seq_ret, seq_exc, fin_ret, fin_next, fin_exc, truth_bl, setT_nm, List.set_cons_succ, List.set_cons_zero, o_addI, o_subI, o_ltI, o_leI, o_gtI, o_geI, o_eqI, o_neI, o_eqS, o_neS, o_eqB, o_neB, o_isB, o_isnotB, o_toInt, o_asInt, o_neg, o_asStr, o_iadd, o_isub, o_isNon, o_isNonI, o_isNonS, o_isnotNon, o_isnotNonI, o_isnotNonS, Bool.not_true, Bool.not_false, close_int, close_bl, close_str, close_non, e1, ix, e2, c, e3]
  · refine ⟨v, s2, v0, v1, g2, fun x3 x4 x5 x6 x7 x8 x9 x10 => ?_⟩
    have c : (d2 == 1) = false := by simp [h2]
    simp only [En, forB_nm, ev_op, ev_v, ev_c, ev_not, ev_and, ev_or, ev_ifx, ev_chain, ev_call, ev_scall, ev_seal, evs_cons, evs_nil, xs_asg, xs_expr, xs_ret, xs_ite, xs_brk, xs_cnt, xs_pass, xs_raise, xss_cons, xss_nil, List.getElem?_cons_zero, List.getElem?_cons_succ, bind_ok, bind_exc, toS_ok, toS_exc, seq_next, seq_ret, seq_exc, fin_ret, fin_next, fin_exc, truth_bl, setT_nm, List.set_cons_succ, List.set_cons_zero, o_addI, o_subI, o_ltI, o_leI, o_gtI, o_geI, o_eqI, o_neI, o_eqS, o_neS, o_eqB, o_neB, o_isB, o_isnotB, o_toInt, o_asInt, o_neg, o_asStr, o_iadd, o_isub, o_isNon, o_isNonI, o_isNonS, o_isnotNon, o_isnotNonI, o_isnotNonS, Bool.not_true, Bool.not_false, close_int, close_bl, close_str, close_non, e1, ix, e2, c]
end
def high (l s : Int) : Int := if l + s > 4294967295 then l + s - 4294967296 else l + s
theorem later1 {l s : Int} (l0 : 0 ≤ l) (l1 : l < 4294967296) (s0 : 0 ≤ s) (s1 : s < 4294967296) : later (high l s) l = (decide (1 ≤ s) && decide (s < 2147483648)) := by
  have e : (high l s - l) % 4294967296 = s := by unfold high; split <;> omega
  unfold later
  rw [e]
  congr 1
theorem later2 {l s : Int} (l0 : 0 ≤ l) (l1 : l < 4294967296) (s0 : 0 ≤ s) (s1 : s < 4294967296) : later l (high l s) = decide (2147483648 < s) := by
  have e : (l - high l s) % 4294967296 = if s = 0 then 0 else 4294967296 - s := by unfold high; split <;> split <;> omega
  unfold later
  rw [e, ← Bool.decide_and]
  refine decide_eq_decide.mpr ?_
  split <;> omega
def due (l : Int) : Int := if l = 4294967295 then 0 else l + 1
theorem due_eq {l : Int} (l0 : 0 ≤ l) (l1 : l < 4294967296) : (l + 1) % 4294967296 = due l := by unfold due; split <;> omega
theorem later3 {l : Int} (l0 : 0 ≤ l) (l1 : l < 4294967296) : later (due l) l = true := by
  have e : (due l - l) % 4294967296 = 1 := by unfold due; split <;> omega
  unfold later
  rw [e]; rfl
theorem later4 {l : Int} (l0 : 0 ≤ l) (l1 : l < 4294967296) : later l (due l) = false := by
  have e : (l - due l) % 4294967296 = 4294967295 := by unfold due; split <;> omega
  unfold later
  rw [e]; rfl
def tail5 : List Sx := [.asg (.nm 6) (.op .add [.v 4, .v 5]), .ite (.op .gt [.v 6,
    .c (.int 4294967295)]) [.asg (.nm 6) (.op .sub [.v 6, .c (.int 4294967296)])] [], .asg (.nm 7) (.call 0 [.v 6, .v 4]),
    .asg (.nm 8) (.call 0 [.v 4, .v 6]), .ite (.or (.not (.op (.isin .bool) [.v 7])) (.not (.op (.isin .bool) [.v 8]))) [.ret (.c (.bl false))] [],
    .ite (.or (.op .ne [.v 7, .chain .le .lt (.c (.int 1)) (.v 5) (.c (.int 2147483648))]) (.op .ne [.v 8, .op .lt [.c (.int 2147483648),
    .v 5]])) [.ret (.c (.bl false))] [], .asg (.nm 9) (.call 1 [.v 4]), .asg (.nm 10) (.op .add [.v 4, .c (.int 1)]), .ite (.op .eq [.v 4,
    .c (.int 4294967295)]) [.asg (.nm 10) (.c (.int 0))] [], .ite (.or (.not (.call 2 [.v 9])) (.or (.op .ne [.v 9, .v 10]) (.or (.not (.call 0 [.v 9,
    .v 4])) (.call 0 [.v 4, .v 9])))) [.ret (.c (.bl false))] []]
theorem tail_ok (k : Nat) (ns : List Int) (st : Store) {l s : Int} (l0 : 0 ≤ l) (l1 : l < 4294967296) (s0 : 0 ≤ s) (s1 : s < 4294967296) (x3 x6 x7 x8 x9 x10 : Option D) :
    ∃ y6 y7 y8 y9 y10, xss (Z.run P (k + 1)) tail5 (En ns x3 (some (.int l)) (some (.int s)) x6 x7 x8 x9 x10) st = .next (En ns x3 (some (.int l)) (some (.int s)) y6 y7 y8 y9 y10) st := by
  refine ⟨some (.int (high l s)), some (.bl (later (high l s) l)), some (.bl (later l (high l s))), some (.int ((l + 1) % 4294967296)), some (.int (due l)), ?_⟩
  have z1 : xs (Z.run P (k + 1)) (.asg (.nm 6) (.op .add [.v 4, .v 5])) (En ns x3 (some (.int l)) (some (.int s)) x6 x7 x8 x9 x10) st = .next (En ns x3 (some (.int l)) (some (.int s)) (some (.int (l + s))) x7 x8 x9 x10) st := by simp only [En, forB_nm, ev_op, ev_v, ev_c, ev_not, ev_and, ev_or, ev_ifx, ev_chain, ev_call, ev_scall, ev_seal, evs_cons, evs_nil, xs_asg, xs_expr, xs_ret, xs_ite, xs_brk, xs_cnt, xs_pass, xs_raise, xss_cons, xss_nil, List.getElem?_cons_zero, List.getElem?_cons_succ, bind_ok, bind_exc, toS_ok, toS_exc, seq_next, seq_ret, seq_exc, fin_ret, fin_next, fin_exc, truth_bl, setT_nm, List.set_cons_succ, List.set_cons_zero, o_addI, o_subI, o_ltI, o_leI, o_gtI, o_geI, o_eqI, o_neI, o_eqS, o_neS, o_eqB, o_neB, o_isB, o_isnotB, o_toInt, o_asInt, o_neg, o_asStr, o_iadd, o_isub, o_isNon, o_isNonI, o_isNonS, o_isnotNon, o_isnotNonI, o_isnotNonS, Bool.not_true, Bool.not_false, close_int, close_bl, close_str, close_non]
  have z2 : xs (Z.run P (k + 1)) (.ite (.op .gt [.v 6, .c (.int 4294967295)]) [.asg (.nm 6) (.op .sub [.v 6, .c (.int 4294967296)])] []) (En ns x3 (some (.int l)) (some (.int s)) (some (.int (l + s))) x7 x8 x9 x10) st =
      .next (En ns x3 (some (.int l)) (some (.int s)) (some (.int (high l s))) x7 x8 x9 x10) st := by
    unfold high
    by_cases h : l + s > 4294967295
    · rw [if_pos h]
      have h' : decide ((4294967295 : Int) < l + s) = true := decide_eq_true h
      simp only [En, forB_nm, ev_op, ev_v, ev_c, ev_not, ev_and, ev_or, ev_ifx, ev_chain, ev_call, ev_scall, ev_seal, evs_cons, evs_nil, xs_asg, xs_expr, xs_ret, xs_ite, xs_brk, xs_cnt, xs_pass, xs_raise, xss_cons, xss_nil, List.getElem?_cons_zero, List.getElem?_cons_succ, bind_ok, bind_exc, toS_ok, toS_exc, seq_next, seq_ret, seq_exc, fin_ret, fin_next, fin_exc, truth_bl, setT_nm, List.set_cons_succ, List.set_cons_zero, o_addI, o_subI, o_ltI, o_leI, o_gtI, o_geI, o_eqI, o_neI, o_eqS, o_neS, o_eqB, o_neB, o_isB, o_isnotB, o_toInt, o_asInt, o_neg, o_asStr, o_iadd, o_isub, o_isNon, o_isNonI, o_isNonS, o_isnotNon, o_isnotNonI, o_isnotNonS, Bool.not_true, Bool.not_false, close_int, close_bl, close_str, close_non, h']
    · rw [if_neg h]
      have h' : decide ((4294967295 : Int) < l + s) = false := decide_eq_false h
      simp only [En, forB_nm, ev_op, ev_v, ev_c, ev_not, ev_and, ev_or, ev_ifx, ev_chain, ev_call, ev_scall, ev_seal, evs_cons, evs_nil, xs_asg, xs_expr, xs_ret, xs_ite, xs_brk, xs_cnt, xs_pass, xs_raise, xss_cons, xss_nil, List.getElem?_cons_zero, List.getElem?_cons_succ, bind_ok, bind_exc, toS_ok, toS_exc, seq_next, seq_ret, seq_exc, fin_ret, fin_next, fin_exc, truth_bl, setT_nm, List.set_cons_succ, List.set_cons_zero, o_addI, o_subI, o_ltI, o_leI, o_gtI, o_geI, o_eqI, o_neI, o_eqS, o_neS, o_eqB, o_neB, o_isB, o_isnotB, o_toInt, o_asInt, o_neg, o_asStr, o_iadd, o_isub, o_isNon, o_isNonI, o_isNonS, o_isnotNon, o_isnotNonI, o_isnotNonS, Bool.not_true, Bool.not_false, close_int, close_bl, close_str, close_non, h']
  generalize hh : high l s = hi at z2
  have e1 : later hi l = (decide (1 ≤ s) && decide (s < 2147483648)) := by rw [← hh]; exact later1 l0 l1 s0 s1
  have e2 : later l hi = decide (2147483648 < s) := by rw [← hh]; exact later2 l0 l1 s0 s1
  have z3 : xs (Z.run P (k + 1)) (.asg (.nm 7) (.call 0 [.v 6, .v 4])) (En ns x3 (some (.int l)) (some (.int s)) (some (.int hi)) x7 x8 x9 x10) st = .next (En ns x3 (some (.int l)) (some (.int s)) (some (.int hi)) (some (.bl (later hi l))) x8 x9 x10) st := by
    simp only [En, forB_nm, ev_op, ev_v, ev_c, ev_not, ev_and, ev_or, ev_ifx, ev_chain, ev_call, ev_scall, ev_seal, evs_cons, evs_nil, xs_asg, xs_expr, xs_ret, xs_ite, xs_brk, xs_cnt, xs_pass, xs_raise, xss_cons, xss_nil, List.getElem?_cons_zero, List.getElem?_cons_succ, bind_ok, bind_exc, toS_ok, toS_exc, seq_next, seq_ret, seq_exc, fin_ret, fin_next, fin_exc, truth_bl, setT_nm, List.set_cons_succ, List.set_cons_zero, o_addI, o_subI, o_ltI, o_leI, o_gtI, o_geI, o_eqI, o_neI, o_eqS, o_neS, o_eqB, o_neB, o_isB, o_isnotB, o_toInt, o_asInt, o_neg, o_asStr, o_iadd, o_isub, o_isNon, o_isNonI, o_isNonS, o_isnotNon, o_isnotNonI, o_isnotNonS, Bool.not_true, Bool.not_false, close_int, close_bl, close_str, close_non, r_later]
  have z4 : xs (Z.run P (k + 1)) (.asg (.nm 8) (.call 0 [.v 4, .v 6])) (En ns x3 (some (.int l)) (some (.int s)) (some (.int hi)) (some (.bl (later hi l))) x8 x9 x10) st = .next (En ns x3 (some (.int l)) (some (.int s)) (some (.int hi)) (some (.bl (later hi l))) (some (.bl (later l hi))) x9 x10) st := by
    simp only [En, forB_nm, ev_op, ev_v, ev_c, ev_not, ev_and, ev_or, ev_ifx, ev_chain, ev_call, ev_scall, ev_seal, evs_cons, evs_nil, xs_asg, xs_expr, xs_ret, xs_ite, xs_brk, xs_cnt, xs_pass, xs_raise, xss_cons, xss_nil, List.getElem?_cons_zero, List.getElem?_cons_succ, bind_ok, bind_exc, toS_ok, toS_exc, seq_next, seq_ret, seq_exc, fin_ret, fin_next, fin_exc, truth_bl, setT_nm, List.set_cons_succ, List.set_cons_zero, o_addI, o_subI, o_ltI, o_leI, o_gtI, o_geI, o_eqI, o_neI, o_eqS, o_neS, o_eqB, o_neB, o_isB, o_isnotB, o_toInt, o_asInt, o_neg, o_asStr, o_iadd, o_isub, o_isNon, o_isNonI, o_isNonS, o_isnotNon, o_isnotNonI, o_isnotNonS, Bool.not_true, Bool.not_false, close_int, close_bl, close_str, close_non, r_later]
  have z5 : xs (Z.run P (k + 1)) (.ite (.or (.not (.op (.isin .bool) [.v 7])) (.not (.op (.isin .bool) [.v 8]))) [.ret (.c (.bl false))] []) (En ns x3 (some (.int l)) (some (.int s)) (some (.int hi)) (some (.bl (later hi l))) (some (.bl (later l hi))) x9 x10) st = .next (En ns x3 (some (.int l)) (some (.int s)) (some (.int hi)) (some (.bl (later hi l))) (some (.bl (later l hi))) x9 x10) st := by
    simp only [En, forB_nm, ev_op, ev_v, ev_c, ev_not, ev_and, ev_or, ev_ifx, ev_chain, ev_call, ev_scall, ev_seal, evs_cons, evs_nil, xs_asg, xs_expr, xs_ret, xs_ite, xs_brk, xs_cnt, xs_pass, xs_raise, xss_cons, xss_nil, List.getElem?_cons_zero, List.getElem?_cons_succ, bind_ok, bind_exc, toS_ok, toS_exc, seq_next, seq_ret, seq_exc, fin_ret, fin_next, fin_exc, truth_bl, setT_nm, List.set_cons_succ, List.set_cons_zero, o_addI, o_subI, o_ltI, o_leI, o_gtI, o_geI, o_eqI, o_neI, o_eqS, o_neS, o_eqB, o_neB, o_isB, o_isnotB, o_toInt, o_asInt, o_neg, o_asStr, o_iadd, o_isub, o_isNon, o_isNonI, o_isNonS, o_isnotNon, o_isnotNonI, o_isnotNonS, Bool.not_true, Bool.not_false, close_int, close_bl, close_str, close_non, o_isinB, isTy]
  have z6 : xs (Z.run P (k + 1)) (.ite (.or (.op .ne [.v 7, .chain .le .lt (.c (.int 1)) (.v 5) (.c (.int 2147483648))]) (.op .ne [.v 8, .op .lt [.c (.int 2147483648), .v 5]])) [.ret (.c (.bl false))] []) (En ns x3 (some (.int l)) (some (.int s)) (some (.int hi)) (some (.bl (later hi l))) (some (.bl (later l hi))) x9 x10) st = .next (En ns x3 (some (.int l)) (some (.int s)) (some (.int hi)) (some (.bl (later hi l))) (some (.bl (later l hi))) x9 x10) st := by
    rw [e1, e2]
    by_cases h : 1 ≤ s
    · simp only [En, forB_nm, ev_op, ev_v, ev_c, ev_not, ev_and, ev_or, ev_ifx, ev_chain, ev_call, ev_scall, ev_seal, evs_cons, evs_nil, xs_asg, xs_expr, xs_ret, xs_ite, xs_brk, xs_cnt, xs_pass, xs_raise, xss_cons, xss_nil, List.getElem?_cons_zero, List.getElem?_cons_succ, bind_ok, bind_exc, toS_ok, toS_exc, seq_next, seq_ret, seq_exc, fin_ret, fin_next, fin_exc, truth_bl, setT_nm, List.set_cons_succ, List.set_cons_zero, o_addI, o_subI, o_ltI, o_leI, o_gtI, o_geI, o_eqI, o_neI, o_eqS, o_neS, o_eqB, o_neB, o_isB, o_isnotB, o_toInt, o_asInt, o_neg, o_asStr, o_iadd, o_isub, o_isNon, o_isNonI, o_isNonS, o_isnotNon, o_isnotNonI, o_isnotNonS, Bool.not_true, Bool.not_false, close_int, close_bl, close_str, close_non, decide_eq_true h, Bool.true_and, beq_self_eq_true]
    · simp only [En, forB_nm, ev_op, ev_v, ev_c, ev_not, ev_and, ev_or, ev_ifx, ev_chain, ev_call, ev_scall, ev_seal, evs_cons, evs_nil, xs_asg, xs_expr, xs_ret, xs_ite, xs_brk, xs_cnt, xs_pass, xs_raise, xss_cons, xss_nil, List.getElem?_cons_zero, List.getElem?_cons_succ, bind_ok, bind_exc, toS_ok, toS_exc, seq_next, seq_ret, seq_exc, fin_ret, fin_next, fin_exc, truth_bl, setT_nm, List.set_cons_succ, List.set_cons_zero, o_addI, o_subI, o_ltI, o_leI, o_gtI, o_geI, o_eqI, o_neI, o_eqS, o_neS, o_eqB, o_neB, o_isB, o_isnotB, o_toInt, o_asInt, o_neg, o_asStr, o_iadd, o_isub, o_isNon, o_isNonI, o_isNonS, o_isnotNon, o_isnotNonI, o_isnotNonS, Bool.not_true, Bool.not_false, close_int, close_bl, close_str, close_non, decide_eq_false h, Bool.false_and, beq_self_eq_true]
  have z7 : xs (Z.run P (k + 1)) (.asg (.nm 9) (.call 1 [.v 4])) (En ns x3 (some (.int l)) (some (.int s)) (some (.int hi)) (some (.bl (later hi l))) (some (.bl (later l hi))) x9 x10) st = .next (En ns x3 (some (.int l)) (some (.int s)) (some (.int hi)) (some (.bl (later hi l))) (some (.bl (later l hi))) (some (.int ((l + 1) % 4294967296))) x10) st := by
    simp only [En, forB_nm, ev_op, ev_v, ev_c, ev_not, ev_and, ev_or, ev_ifx, ev_chain, ev_call, ev_scall, ev_seal, evs_cons, evs_nil, xs_asg, xs_expr, xs_ret, xs_ite, xs_brk, xs_cnt, xs_pass, xs_raise, xss_cons, xss_nil, List.getElem?_cons_zero, List.getElem?_cons_succ, bind_ok, bind_exc, toS_ok, toS_exc, seq_next, seq_ret, seq_exc, fin_ret, fin_next, fin_exc, truth_bl, setT_nm, List.set_cons_succ, List.set_cons_zero, o_addI, o_subI, o_ltI, o_leI, o_gtI, o_geI, o_eqI, o_neI, o_eqS, o_neS, o_eqB, o_neB, o_isB, o_isnotB, o_toInt, o_asInt, o_neg, o_asStr, o_iadd, o_isub, o_isNon, o_isNonI, o_isNonS, o_isnotNon, o_isnotNonI, o_isnotNonS, Bool.not_true, Bool.not_false, close_int, close_bl, close_str, close_non, r_next]
  have z8 : xss (Z.run P (k + 1)) [.asg (.nm 10) (.op .add [.v 4, .c (.int 1)]), .ite (.op .eq [.v 4, .c (.int 4294967295)]) [.asg (.nm 10) (.c (.int 0))] []] (En ns x3 (some (.int l)) (some (.int s)) (some (.int hi)) (some (.bl (later hi l))) (some (.bl (later l hi))) (some (.int ((l + 1) % 4294967296))) x10) st =
      .next (En ns x3 (some (.int l)) (some (.int s)) (some (.int hi)) (some (.bl (later hi l))) (some (.bl (later l hi))) (some (.int ((l + 1) % 4294967296))) (some (.int (due l)))) st := by
    unfold due
    by_cases h : l = 4294967295
    · rw [if_pos h]
      have c : (l == 4294967295) = true := by simp [h]
      simp only [En, forB_nm, ev_op, ev_v, ev_c, ev_not, ev_and, ev_or, ev_ifx, ev_chain, ev_call, ev_scall, ev_seal, evs_cons, evs_nil, xs_asg, xs_expr, xs_ret, xs_ite, xs_brk, xs_cnt, xs_pass, xs_raise, xss_cons, xss_nil, List.getElem?_cons_zero, List.getElem?_cons_succ, bind_ok, bind_exc, toS_ok, toS_exc, seq_next, seq_ret, seq_exc, fin_ret, fin_next, fin_exc, truth_bl, setT_nm, List.set_cons_succ, List.set_cons_zero, o_addI, o_subI, o_ltI, o_leI, o_gtI, o_geI, o_eqI, o_neI, o_eqS, o_neS, o_eqB, o_neB, o_isB, o_isnotB, o_toInt, o_asInt, o_neg, o_asStr, o_iadd, o_isub, o_isNon, o_isNonI, o_isNonS, o_isnotNon, o_isnotNonI, o_isnotNonS, Bool.not_true, Bool.not_false, close_int, close_bl, close_str, close_non, c]
    · rw [if_neg h]
      have c : (l == 4294967295) = false := by simp [h]
      simp only [En, forB_nm, ev_op, ev_v, ev_c, ev_not, ev_and, ev_or, ev_ifx, ev_chain, ev_call, ev_scall, ev_seal, evs_cons, evs_nil, xs_asg, xs_expr, xs_ret, xs_ite, xs_brk, xs_cnt, xs_pass, xs_raise, xss_cons, xss_nil, List.getElem?_cons_zero, List.getElem?_cons_succ, bind_ok, bind_exc, toS_ok, toS_exc, seq_next, seq_ret, seq_exc, fin_ret, fin_next, fin_exc, truth_bl, setT_nm, List.set_cons_succ, List.set_cons_zero, o_addI, o_subI, o_ltI, o_leI, o_gtI, o_geI, o_eqI, o_neI, o_eqS, o_neS, o_eqB, o_neB, o_isB, o_isnotB, o_toInt, o_asInt, o_neg, o_asStr, o_iadd, o_isub, o_isNon, o_isNonI, o_isNonS, o_isnotNon, o_isnotNonI, o_isnotNonS, Bool.not_true, Bool.not_false, close_int, close_bl, close_str, close_non, c]
  have z9 : xs (Z.run P (k + 1)) (.ite (.or (.not (.call 2 [.v 9])) (.or (.op .ne [.v 9, .v 10]) (.or (.not (.call 0 [.v 9, .v 4])) (.call 0 [.v 4, .v 9])))) [.ret (.c (.bl false))] []) (En ns x3 (some (.int l)) (some (.int s)) (some (.int hi)) (some (.bl (later hi l))) (some (.bl (later l hi))) (some (.int ((l + 1) % 4294967296))) (some (.int (due l)))) st =
      .next (En ns x3 (some (.int l)) (some (.int s)) (some (.int hi)) (some (.bl (later hi l))) (some (.bl (later l hi))) (some (.int ((l + 1) % 4294967296))) (some (.int (due l)))) st := by
    rw [due_eq l0 l1]
    simp only [En, forB_nm, ev_op, ev_v, ev_c, ev_not, ev_and, ev_or, ev_ifx, ev_chain, ev_call, ev_scall, ev_seal, evs_cons, evs_nil, xs_asg, xs_expr, xs_ret, xs_ite, xs_brk, xs_cnt, xs_pass, xs_raise, xss_cons, xss_nil, List.getElem?_cons_zero, List.getElem?_cons_succ, bind_ok, bind_exc, toS_ok, toS_exc, seq_next, seq_ret, seq_exc, fin_ret, fin_next, fin_exc, truth_bl, setT_nm, List.set_cons_succ, List.set_cons_zero, o_addI, o_subI, o_ltI, o_leI, o_gtI, o_geI, o_eqI, o_neI, o_eqS, o_neS, o_eqB, o_neB, o_isB, o_isnotB, o_toInt, o_asInt, o_neg, o_asStr, o_iadd, o_isub, o_isNon, o_isNonI, o_isNonS, o_isnotNon, o_isnotNonI, o_isnotNonS, Bool.not_true, Bool.not_false, close_int, close_bl, close_str, close_non, r_isint, beq_self_eq_true, r_later, later3 l0 l1, later4 l0 l1]
  unfold tail5
  rw [xss_step z1 (xss_step z2 (xss_step z3 (xss_step z4 (xss_step z5 (xss_step z6 (xss_step z7 rfl))))))]
  rw [show ∀ (a b c : Sx), [a, b, c] = [a, b] ++ [c] from fun _ _ _ => rfl, xss_append, z8, seq_next, xss_one, z9]
def h1L : List Sx := [.asg (.nm 4) (.op .ix [.op (.x .flit) [.c (.int 0), .c (.int 1), .c (.int 4294967295), .c (.int 2147483648)], .call 3 [.v 1, .v 0,
    .c (.int 4)]]), .ite (.op .eq [.call 3 [.v 1, .v 0, .c (.int 2)], .c (.int 1)]) [.asg (.nm 4) (.call 3 [.v 1, .v 0, .c (.int 4294967296)])] []]
def h2L : List Sx := [.asg (.nm 5) (.op .ix [.v 2, .call 3 [.v 1, .v 0, .c (.int 7)]]), .ite (.op .eq [.call 3 [.v 1, .v 0, .c (.int 2)],
    .c (.int 1)]) [.asg (.nm 5) (.call 3 [.v 1, .v 0, .c (.int 4294967296)])] []]
def bodyL : List Sx := h1L ++ (h2L ++ tail5)
theorem turn (k : Nat) (ns : List Int) (x : D) {st : Store} (h : StOk 0 st) (x3 x4 x5 x6 x7 x8 x9 x10 : Option D) :
    ∃ y3 y4 y5 y6 y7 y8 y9 y10 st', forB (Z.run P (k + 1)) (.nm 3) bodyL x (En ns x3 x4 x5 x6 x7 x8 x9 x10) st = .next (En ns y3 y4 y5 y6 y7 y8 y9 y10) st' ∧ StOk 0 st' := by
  obtain ⟨l, s1, l0, l1, g1, p1⟩ := pick1 k ns h
  obtain ⟨s, s2, s0, s1', g2, p2⟩ := pick2 k ns g1
  obtain ⟨y6, y7, y8, y9, y10, t⟩ := tail_ok k ns s2 l0 l1 s0 s1' (some x) x6 x7 x8 x9 x10
  refine ⟨some x, some (.int l), some (.int s), y6, y7, y8, y9, y10, s2, ?_, g2⟩
  rw [forB_nm, show (En ns x3 x4 x5 x6 x7 x8 x9 x10).set 3 (some x) = En ns (some x) x4 x5 x6 x7 x8 x9 x10 from rfl, bodyL, xss_append]
  have q1 := p1 (some x) x4 x5 x6 x7 x8 x9 x10
  have q2 := p2 (some x) (some (.int l)) x5 x6 x7 x8 x9 x10
  refine Eq.trans (congrArg (fun r : SR => r.seq _) q1) ?_
  rw [seq_next, xss_append]
  refine Eq.trans (congrArg (fun r : SR => r.seq _) q2) ?_
  rw [seq_next, t]
theorem law (ns : List Int) (k : Nat) : ∃ st', Z.run P (k + 2) 4 [.slst (ns.map .int)] [] = .ok (.bl true) st' := by
  rw [run_eq (P := P) (f := 4) rfl (k + 1) _ _ rfl]
  show ∃ st', (xss (Z.run P (k + 1)) b4 [some (.slst (ns.map .int)), none, none, none, none, none, none, none, none, none, none] []).fin = _
  obtain ⟨env', st', e, ys, g⟩ := evFor_ix (same := fun _ => true) (one := forB (Z.run P (k + 1)) (.nm 3) bodyL)
    (fun _ env st => (∃ x3 x4 x5 x6 x7 x8 x9 x10, env = En ns x3 x4 x5 x6 x7 x8 x9 x10) ∧ StOk 0 st) (fun _ _ _ _ => rfl) (rangeD 0 8) 0 (En ns none none none none none none none none) [.lst [.int 0, .int 0]]
    (fun j x hx env st ⟨⟨x3, x4, x5, x6, x7, x8, x9, x10, he⟩, hs⟩ => by
      subst he
      obtain ⟨y3, y4, y5, y6, y7, y8, y9, y10, st', h1, h2⟩ := turn k ns x hs x3 x4 x5 x6 x7 x8 x9 x10
      exact ⟨_, st', .inl h1, ⟨y3, y4, y5, y6, y7, y8, y9, y10, rfl⟩, h2⟩)
    ⟨⟨_, _, _, _, _, _, _, _, rfl⟩, ⟨0, 0, rfl, Int.le_refl _, Int.le_refl _⟩⟩
  obtain ⟨x3, x4, x5, x6, x7, x8, x9, x10, rfl⟩ := ys
  refine ⟨st', ?_⟩
  have z1 : xss (Z.run P (k + 1)) (b4.take 2) [some (.slst (ns.map .int)), none, none, none, none, none, none, none, none, none, none] [] = .next (En ns none none none none none none none none) [.lst [.int 0, .int 0]] := rfl
  have z2 : xs (Z.run P (k + 1)) (b4.getD 2 .pass) (En ns none none none none none none none none) [.lst [.int 0, .int 0]] = .next (En ns x3 x4 x5 x6 x7 x8 x9 x10) st' := e
  have cut : b4 = b4.take 2 ++ [b4.getD 2 .pass, .ret (.c (.bl true))] := rfl
  rw [cut, xss_append, z1, seq_next, xss_step z2 (xss_one _ _ _ _)]
  rfl
end K13

set_option autoImplicit false
set_option maxHeartbeats 2000000
namespace K13
open PySem PySem.Spec PyProof.Rows L2 Z
/-! ## the end: what the top has written -/
def cns : List Str := []
def spL (K : PySem.W.Frag) : Sp := spF ((gcOf K cns).at none) K P 2 4
theorem all_mk {prog : Program} {w : World} {K : PySem.W.Frag} {h : Heap} {mg : Str → Option Value} {fa f0 f1 f2 f3 f4 : Addr} (X : K.In h) (G : h.Ns mainGlobals mg) (hfa : mg "law" = some (.ref fa))
    {od0 an0 od1 an1 od2 an2 od3 an3 od4 an4 : Option Addr} {sl0 sl1 sl2 sl3 sl4 : Array (Option Value)} {oc0 kV0 dc0 pm0 cd0 ct0 oc1 kV1 dc1 pm1 cd1 ct1 oc2 kV2 dc2 pm2 cd2 ct2 oc3 kV3 dc3 pm3 cd3 ct3 oc4 kV4 dc4 pm4 cd4 ct4 : Value}
    {t0 t1 : Tok}
    (a0 : PySem.W.nsIn K mainGlobals "is_later" = some (some (.ref f0)))
    (l0 : K.lookup f0 = some ⟨oc0, od0, .func (PySem.W.fnOf "is_later" "is_later" (defArgs e0.st) (defBody e0.st) (defScope e0.st) .none kV0 dc0 pm0 an0 cd0 ct0), sl0⟩)
    (c0 : PySem.W.codeIn K cd0 "is_later" = true)
    (k0 : PySem.W.keepIn K (.ref f0) = true)
    (a1 : PySem.W.nsIn K mainGlobals "next_serial" = some (some (.ref f1)))
    (l1 : K.lookup f1 = some ⟨oc1, od1, .func (PySem.W.fnOf "next_serial" "next_serial" (defArgs e1.st) (defBody e1.st) (defScope e1.st) .none kV1 dc1 pm1 an1 cd1 ct1), sl1⟩)
    (c1 : PySem.W.codeIn K cd1 "next_serial" = true)
    (k1 : PySem.W.keepIn K (.ref f1) = true)
    (a2 : PySem.W.nsIn K mainGlobals "_law_is_integer" = some (some (.ref f2)))
    (l2 : K.lookup f2 = some ⟨oc2, od2, .func (PySem.W.fnOf "_law_is_integer" "_law_is_integer" (defArgs e2.st) (defBody e2.st) (defScope e2.st) .none kV2 dc2 pm2 an2 cd2 ct2), sl2⟩)
    (c2 : PySem.W.codeIn K cd2 "_law_is_integer" = true)
    (k2 : PySem.W.keepIn K (.ref f2) = true)
    (a3 : PySem.W.nsIn K mainGlobals "_law_draw" = some (some (.ref f3)))
    (l3 : K.lookup f3 = some ⟨oc3, od3, .func (PySem.W.fnOf "_law_draw" "_law_draw" (defArgs e3.st) (defBody e3.st) (defScope e3.st) .none kV3 dc3 pm3 an3 cd3 ct3), sl3⟩)
    (c3 : PySem.W.codeIn K cd3 "_law_draw" = true)
    (k3 : PySem.W.keepIn K (.ref f3) = true)
    (a4 : PySem.W.nsIn K mainGlobals "law" = some (some (.ref f4)))
    (l4 : K.lookup f4 = some ⟨oc4, od4, .func (PySem.W.fnOf "law" "law" (defArgs e4.st) (defBody e4.st) (defScope e4.st) .none kV4 dc4 pm4 an4 cd4 ct4), sl4⟩)
    (c4 : PySem.W.codeIn K cd4 "law" = true)
    (k4 : PySem.W.keepIn K (.ref f4) = true)
    (z0 : PySem.W.nsIn K mainGlobals "bool" = some none)
    (z1 : PySem.W.nsIn K mainGlobals "int" = some none)
    (z2 : PySem.W.nsIn K mainGlobals "isinstance" = some none)
    (z3 : PySem.W.nsIn K mainGlobals "len" = some none)
    (z4 : PySem.W.nsIn K mainGlobals "range" = some none)
    (cq0 : PySem.W.nsIn K mainGlobals "SERIALS" = some (some (.int 4294967296 t0)))
    (cq1 : PySem.W.nsIn K mainGlobals "HALF_OF_SERIALS" = some (some (.int 2147483648 t1))) :
    ∃ fd : FuncData, (∀ (s : Shared) (v : Value), BindsTo s fd ⟨[v], []⟩ [("script", v)]) ∧ ∀ base : Heap, K.In base → base.Ns mainGlobals mg → FnOk prog w K mg base (CXN prog w) 6 fa fd ["script"] (spL K) := by
  have e := hfa.symm.trans (PySem.W.mg_of X G a4)
  cases e
  have F0 := fun_mk (st := e0.st) l0 c0 k0
  have b0 := F0.binds (ps := e0.ps) fun _ _ _ _ _ _ us hl => match us, hl with | [_, _], _ => rfl
  have E0 : EntOk K mg e0 := ⟨⟨rfl, rfl, rfl, by decide +kernel, rfl, by decide +kernel, by decide +kernel⟩, fun _ => ⟨_, _, PySem.W.mg_of X G a0, F0, fun n => ⟨[], [], fun ρ H => (by rw [show e0.dvs = [] from rfl, List.drop_nil]; exact .nil), .nil, b0⟩⟩⟩
  have F1 := fun_mk (st := e1.st) l1 c1 k1
  have b1 := F1.binds (ps := e1.ps) fun _ _ _ _ _ _ us hl => match us, hl with | [_], _ => rfl
  have E1 : EntOk K mg e1 := ⟨⟨rfl, rfl, rfl, by decide +kernel, rfl, by decide +kernel, by decide +kernel⟩, fun _ => ⟨_, _, PySem.W.mg_of X G a1, F1, fun n => ⟨[], [], fun ρ H => (by rw [show e1.dvs = [] from rfl, List.drop_nil]; exact .nil), .nil, b1⟩⟩⟩
  have F2 := fun_mk (st := e2.st) l2 c2 k2
  have b2 := F2.binds (ps := e2.ps) fun _ _ _ _ _ _ us hl => match us, hl with | [_], _ => rfl
  have E2 : EntOk K mg e2 := ⟨⟨rfl, rfl, rfl, by decide +kernel, rfl, by decide +kernel, by decide +kernel⟩, fun _ => ⟨_, _, PySem.W.mg_of X G a2, F2, fun n => ⟨[], [], fun ρ H => (by rw [show e2.dvs = [] from rfl, List.drop_nil]; exact .nil), .nil, b2⟩⟩⟩
  have F3 := fun_mk (st := e3.st) l3 c3 k3
  have b3 := F3.binds (ps := e3.ps) fun _ _ _ _ _ _ us hl => match us, hl with | [_, _, _], _ => rfl
  have E3 : EntOk K mg e3 := ⟨⟨rfl, rfl, rfl, by decide +kernel, rfl, by decide +kernel, by decide +kernel⟩, fun _ => ⟨_, _, PySem.W.mg_of X G a3, F3, fun n => ⟨[], [], fun ρ H => (by rw [show e3.dvs = [] from rfl, List.drop_nil]; exact .nil), .nil, b3⟩⟩⟩
  have F4 := fun_mk (st := e4.st) l4 c4 k4
  have b4 := F4.binds (ps := e4.ps) fun _ _ _ _ _ _ us hl => match us, hl with | [_], _ => rfl
  have E4 : EntOk K mg e4 := ⟨⟨rfl, rfl, rfl, by decide +kernel, rfl, by decide +kernel, by decide +kernel⟩, fun _ => ⟨_, _, PySem.W.mg_of X G a4, F4, fun n => ⟨[], [], fun ρ H => (by rw [show e4.dvs = [] from rfl, List.drop_nil]; exact .nil), .nil, b4⟩⟩⟩
  have ok : PgOk (gcOf K cns) K mg pg := by
    refine ⟨fun e he => ?_, fun x hx => ?_, fun x d hx => ?_, fun x r hx => ?_, fun x tab hx => ?_, fun i D hi => ?_, fun x r hx => ?_, fun x r hx => ?_, fun j a hx => ?_, fun j i hx => ?_, fun ee he p0 r hx => ?_⟩
    · have he : e ∈ [e0, e1, e2, e3, e4] := he
      simp only [List.mem_cons, List.not_mem_nil, or_false] at he
      rcases he with rfl | rfl | rfl | rfl | rfl
      · exact E0
      · exact E1
      · exact E2
      · exact E3
      · exact E4
    · have hx : x ∈ (["bool", "int", "isinstance", "len", "range"] : List Str) := by simpa [pg] using hx
      simp only [List.mem_cons, List.not_mem_nil, or_false] at hx
      rcases hx with rfl | rfl | rfl | rfl | rfl
      · exact PySem.W.mg_none_of X G z0
      · exact PySem.W.mg_none_of X G z1
      · exact PySem.W.mg_none_of X G z2
      · exact PySem.W.mg_none_of X G z3
      · exact PySem.W.mg_none_of X G z4
    · rcases look_cons hx with ⟨rfl, rfl⟩ | hx
      · exact ⟨_, PySem.W.mg_of X G cq0, .int 4294967296, ⟨t0, rfl⟩, fun _ _ => .int _⟩
      rcases look_cons hx with ⟨rfl, rfl⟩ | hx
      · exact ⟨_, PySem.W.mg_of X G cq1, .int 2147483648, ⟨t1, rfl⟩, fun _ _ => .int _⟩
      · cases hx
    · cases hx
    · cases hx
    · simp [gcOf, cns] at hi
    · cases hx
    · cases hx
    · cases hx
    · cases hx
    · have he : ee ∈ [e0, e1, e2, e3, e4] := he
      simp only [List.mem_cons, List.not_mem_nil, or_false] at he
      rcases he with rfl | rfl | rfl | rfl | rfl
      · cases hx
      · cases hx
      · cases hx
      · cases hx
      · cases hx
  exact ⟨_, fun s v => .of_eq rfl, fun base _ _ => (fn_all ok comp 2 4 e4 _ _ rfl F4).1⟩
end K13
open PySem PySem.W PyProof.Rows
set_option maxHeartbeats 0 in
theorem PySem.Challenge.cw_zoneward_k13_serials_holds : PySem.Challenge.rw_zoneward_k13_serials.Holds := by
  w_on; o_law; k_head; (case hw => w_witness2)
  k_fill
  refine L2.walk_of (l := PySem.Challenge.rw_zoneward_k13_serials) (n := 63) (k := 6) (x := "script") (CX := fun w => Z.CXN PySem.Challenge.rw_zoneward_k13_serials.prog w) (sp := fun w => K13.spL _) rfl (by decide) rfl ⟨rfl, by decide, by decide⟩ (fun w h Y => PySem.W.kIn_of Y) ?F (fun _ _ a ns hl o hS => Z.law_sp o hS (K13.law ns 0)) (fun _ _ _ _ _ h => by obtain ⟨_, _, _, _, _, _, _, _, _, _, _, _, z⟩ := h; exact z)
  case F =>
    intro w mg fa h KX G hmg
    refine' K13.all_mk KX G hmg ?a0 ?l0 ?c0 ?k0 ?a1 ?l1 ?c1 ?k1 ?a2 ?l2 ?c2 ?k2 ?a3 ?l3 ?c3 ?k3 ?a4 ?l4 ?c4 ?k4 ?z0 ?z1 ?z2 ?z3 ?z4 ?cq0 ?cq1
    (case a0 => k_is); (case l0 => k_is); (case c0 => k_is); (case k0 => k_is); (case a1 => k_is); (case l1 => k_is); (case c1 => k_is); (case k1 => k_is)
    (case a2 => k_is); (case l2 => k_is); (case c2 => k_is); (case k2 => k_is); (case a3 => k_is); (case l3 => k_is); (case c3 => k_is); (case k3 => k_is)
    (case a4 => k_is); (case l4 => k_is); (case c4 => k_is); (case k4 => k_is); (case z0 => k_is); (case z1 => k_is); (case z2 => k_is); (case z3 => k_is)
    (case z4 => k_is); (case cq0 => k_is); (case cq1 => k_is)

