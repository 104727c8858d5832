import PyProof.Rows.All
import Wide.All
import OpenK.AllK
import Wide.FinOn
import HandS.ForMost
import HandS.ForExc
import HandS.TupAny
import HandS.Style
import HandS.Flow
import HandS.IsInst
import HandS.CallSlots
import PySem.Challenge.RW_zoneward_k02_names_within_names
set_option Elab.async false
set_option linter.all false
set_option maxRecDepth 100000
set_option autoImplicit false
namespace Z
open PySem PySem.Spec PyProof.Rows L2

/-! ## data, objects, results -/
inductive D where
  | non
  | bl (b : Bool)
  | int (i : Int)
  | str (s : List Nat)
  | tup (xs : List D)
  | flst (xs : List D)
  | loc (l : Nat)
  deriving Repr

inductive DO where
  | lst (xs : List D)
  | dct (kvs : List (D × D))
  | ins (c : Nat) (fs : List (Nat × D))

abbrev Env := List (Option D)
abbrev Store := List DO

inductive R (α : Type) where
  | ok (a : α) (st : Store)
  | exc (c : Nat) (p : D) (st : Store)
  | bad

def R.bind {α β : Type} (r : R α) (f : α → Store → R β) : R β := match r with
  | .ok a st => f a st
  | .exc c p st => .exc c p st
  | .bad => .bad

inductive SR where
  | next (env : Env) (st : Store)
  | ret (d : D) (st : Store)
  | brk (env : Env) (st : Store)
  | cnt (env : Env) (st : Store)
  | exc (c : Nat) (p : D) (env : Env) (st : Store)
  | bad

/-! ## the relation to values and heaps -/
def SqF (K : PySem.W.Frag) (H : Hp) (a : Addr) (xs : List V) : Prop :=
  (∃ o, H a = some (.frz o (.lst xs))) ∨
    ∃ (o : Obj) (its : Array Value) (n : Nat), K.lookup a = some o ∧ o.cls = .type "list" ∧ o.dict = none ∧ o.data = .seq its n ∧ its.size ≤ sizeLine ∧ Vals xs its.toList
theorem SqF.sq {K : PySem.W.Frag} {H : Hp} {a : Addr} {xs : List V} (h : SqF K H a xs) : SqL K H a xs := by
  rcases h with ⟨o, h⟩ | h
  · exact .inl (.inr ⟨o, h⟩)
  · exact .inr h

mutual
inductive Rv (K : PySem.W.Frag) (ρ : List Addr) (H : Hp) : D → V → Prop
  | non : Rv K ρ H .non .non
  | bl (b : Bool) : Rv K ρ H (.bl b) (.bl b)
  | int (i : Int) : Rv K ρ H (.int i) (.int i)
  | str (x : List Nat) : Rv K ρ H (.str x) (.str ⟨x.toArray⟩)
  | tup {a : Addr} {xs : List V} {ds : List D} : SqT K H a xs → Rvs K ρ H ds xs → Rv K ρ H (.tup ds) (.ref a)
  | flst {a : Addr} {xs : List V} {ds : List D} : SqF K H a xs → Rvs K ρ H ds xs → Rv K ρ H (.flst ds) (.ref a)
  | loc {l : Nat} {a : Addr} : ρ[l]? = some a → Rv K ρ H (.loc l) (.ref a)
inductive Rvs (K : PySem.W.Frag) (ρ : List Addr) (H : Hp) : List D → List V → Prop
  | nil : Rvs K ρ H [] []
  | cons {d : D} {ds : List D} {v : V} {vs : List V} : Rv K ρ H d v → Rvs K ρ H ds vs → Rvs K ρ H (d :: ds) (v :: vs)
end

/-- what lasts: tuples and frozen lists; the places of objects -/
structure Ext (K : PySem.W.Frag) (ρ ρ' : List Addr) (H H' : Hp) : Prop where
  pre : ρ <+: ρ'
  tup : ∀ a xs, SqT K H a xs → SqT K H' a xs
  fl : ∀ a xs, SqF K H a xs → SqF K H' a xs
theorem Ext.refl {K : PySem.W.Frag} {ρ : List Addr} {H : Hp} : Ext K ρ ρ H H := ⟨List.prefix_rfl, fun _ _ h => h, fun _ _ h => h⟩
theorem Ext.trans {K : PySem.W.Frag} {ρ ρ1 ρ2 : List Addr} {H H1 H2 : Hp} (a : Ext K ρ ρ1 H H1) (b : Ext K ρ1 ρ2 H1 H2) : Ext K ρ ρ2 H H2 :=
  ⟨a.pre.trans b.pre, fun x xs h => b.tup x xs (a.tup x xs h), fun x xs h => b.fl x xs (a.fl x xs h)⟩
theorem pre_get {ρ ρ' : List Addr} (p : ρ <+: ρ') {l : Nat} {a : Addr} (h : ρ[l]? = some a) : ρ'[l]? = some a := by
  obtain ⟨t, rfl⟩ := p
  obtain ⟨hl, _⟩ := List.getElem?_eq_some_iff.mp h
  rw [List.getElem?_append_left hl]
  exact h
section
variable {K : PySem.W.Frag} {ρ ρ' : List Addr} {H H' : Hp}
mutual
theorem Rv.ext (e : Ext K ρ ρ' H H') : ∀ {d : D} {v : V}, Rv K ρ H d v → Rv K ρ' H' d v
  | _, _, .non => .non
  | _, _, .bl b => .bl b
  | _, _, .int i => .int i
  | _, _, .str x => .str x
  | _, _, .tup h t => .tup (e.tup _ _ h) (Rvs.ext e t)
  | _, _, .flst h t => .flst (e.fl _ _ h) (Rvs.ext e t)
  | _, _, .loc h => .loc (pre_get e.pre h)
theorem Rvs.ext (e : Ext K ρ ρ' H H') : ∀ {ds : List D} {vs : List V}, Rvs K ρ H ds vs → Rvs K ρ' H' ds vs
  | _, _, .nil => .nil
  | _, _, .cons h t => .cons (Rv.ext e h) (Rvs.ext e t)
end
theorem Rvs.length {ds : List D} {vs : List V} (h : Rvs K ρ H ds vs) : ds.length = vs.length := by
  induction ds generalizing vs with
  | nil => cases h; rfl
  | cons d ds ih => cases h with | cons a b => rw [List.length_cons, List.length_cons, ih b]
theorem Rvs.get {ds : List D} {vs : List V} (h : Rvs K ρ H ds vs) {i : Nat} {d : D} (e : ds[i]? = some d) : ∃ v, vs[i]? = some v ∧ Rv K ρ H d v := by
  induction ds generalizing vs i with
  | nil => simp at e
  | cons x ds ih =>
    cases h with
    | cons a b =>
      cases i with
      | zero => simp at e; subst e; exact ⟨_, rfl, a⟩
      | succ i => simp at e; simpa using ih b e
theorem Rvs.getV {ds : List D} {vs : List V} (h : Rvs K ρ H ds vs) {i : Nat} {v : V} (e : vs[i]? = some v) : ∃ d, ds[i]? = some d ∧ Rv K ρ H d v := by
  induction ds generalizing vs i with
  | nil => cases h; simp at e
  | cons x ds ih =>
    cases h with
    | cons a b =>
      cases i with
      | zero => simp at e; subst e; exact ⟨_, rfl, a⟩
      | succ i => simp at e; simpa using ih b e
theorem Rvs.append {ds es : List D} {vs us : List V} (h : Rvs K ρ H ds vs) (g : Rvs K ρ H es us) : Rvs K ρ H (ds ++ es) (vs ++ us) := by
  induction ds generalizing vs with
  | nil => cases h; exact g
  | cons x ds ih => cases h with | cons a b => exact .cons a (ih b)
theorem Rvs.take {ds : List D} {vs : List V} (h : Rvs K ρ H ds vs) (n : Nat) : Rvs K ρ H (ds.take n) (vs.take n) := by
  induction n generalizing ds vs with
  | zero => simp; exact .nil
  | succ n ih => cases h with
    | nil => simp; exact .nil
    | cons a b => simp; exact .cons a (ih b)
theorem Rvs.drop {ds : List D} {vs : List V} (h : Rvs K ρ H ds vs) (n : Nat) : Rvs K ρ H (ds.drop n) (vs.drop n) := by
  induction n generalizing ds vs with
  | zero => simpa using h
  | succ n ih => cases h with
    | nil => simp; exact .nil
    | cons a b => simp; exact ih b
theorem Rvs.set {ds : List D} {vs : List V} (h : Rvs K ρ H ds vs) {d : D} {v : V} (g : Rv K ρ H d v) (n : Nat) : Rvs K ρ H (ds.set n d) (vs.set n v) := by
  induction n generalizing ds vs with
  | zero => cases h with
    | nil => simp; exact .nil
    | cons a b => simp; exact .cons g b
  | succ n ih => cases h with
    | nil => simp; exact .nil
    | cons a b => simp; exact .cons a (ih b)
theorem Rvs.one {d : D} {vs : List V} (h : Rvs K ρ H [d] vs) : ∃ v, vs = [v] ∧ Rv K ρ H d v := by
  cases h with | cons a b => cases b; exact ⟨_, rfl, a⟩
theorem Rvs.two {d e : D} {vs : List V} (h : Rvs K ρ H [d, e] vs) : ∃ v u, vs = [v, u] ∧ Rv K ρ H d v ∧ Rv K ρ H e u := by
  cases h with | cons a b => cases b with | cons c b => cases b; exact ⟨_, _, rfl, a, c⟩
theorem Rvs.three {d e f : D} {vs : List V} (h : Rvs K ρ H [d, e, f] vs) : ∃ v u w, vs = [v, u, w] ∧ Rv K ρ H d v ∧ Rv K ρ H e u ∧ Rv K ρ H f w := by
  cases h with | cons a b => cases b with | cons c b => cases b with | cons f b => cases b; exact ⟨_, _, _, rfl, a, c, f⟩
end

/-- an instance's attributes: names by number -/
abbrev Nm := List Str
/-- the classes: by number the address -/
structure GC where
  attr : List Str
  cls : List Addr
/-- what stands at an address -/
def RO (G : GC) (K : PySem.W.Frag) (ρ : List Addr) (H : Hp) (a : Addr) : DO → Prop
  | .lst ds => ∃ vs, H a = some (.lst vs) ∧ Rvs K ρ H ds vs
  | .dct _ => False
  | .ins c fs => ∃ C dx vs, G.cls[c]? = some C ∧ H a = some (.ins C dx vs) ∧ Rvs K ρ H (fs.map (·.2)) (vs.map (·.2)) ∧ vs.map (fun p => some p.1) = fs.map fun p => G.attr[p.1]?
def mutO : HO → Prop
  | .lst _ => True
  | .dK _ => True
  | .dT _ => True
  | .ins _ _ _ => True
  | .ext _ => True
  | _ => False
structure Rs (G : GC) (K : PySem.W.Frag) (ρ : List Addr) (st : Store) (H : Hp) : Prop where
  len : ρ.length = st.length
  nd : ρ.Nodup
  obj : ∀ (l : Nat) (o : DO), st[l]? = some o → ∃ a, ρ[l]? = some a ∧ RO G K ρ H a o
structure Re (K : PySem.W.Frag) (ρ : List Addr) (H : Hp) (env : Env) (σ : L2.St) : Prop where
  len : σ.length = env.length
  at_ : ∀ (i : Nat) (d : D), env[i]? = some (some d) → ∃ v, σ[i]? = some (some v) ∧ Rv K ρ H d v
/-- the state: slots, objects -/
structure Rel (G : GC) (K : PySem.W.Frag) (ρ : List Addr) (env : Env) (st : Store) (σ : L2.St) (H : Hp) : Prop where
  s : Rs G K ρ st H
  e : Re K ρ H env σ
section
variable {G : GC} {K : PySem.W.Frag} {ρ ρ' : List Addr} {H H' : Hp} {env : Env} {st st' : Store} {σ : L2.St}
theorem Re.ext (e : Ext K ρ ρ' H H') (h : Re K ρ H env σ) : Re K ρ' H' env σ :=
  ⟨h.len, fun i d q => let ⟨v, a, b⟩ := h.at_ i d q; ⟨v, a, b.ext e⟩⟩
theorem Re.set {i : Nat} {d : D} {v : V} (h : Re K ρ H env σ) (r : Rv K ρ H d v) : Re K ρ H (env.set i (some d)) (σ.set i (some v)) := by
  refine ⟨by rw [List.length_set, List.length_set]; exact h.len, fun j x q => ?_⟩
  by_cases hj : i = j
  · subst hj
    rw [List.getElem?_set] at q ⊢
    rw [if_pos rfl] at q ⊢
    rw [h.len]
    split at q
    · cases q
      rename_i hl
      rw [if_pos hl]
      exact ⟨v, rfl, r⟩
    · cases q
  · rw [List.getElem?_set_ne hj] at q ⊢
    exact h.at_ j x q
/-- a new object -/
theorem RO.mut {o : DO} {a : Addr} (h : RO G K ρ H a o) : ∃ u, H a = some u ∧ mutO u := by
  cases o with
  | lst ds => obtain ⟨vs, h, _⟩ := h; exact ⟨_, h, trivial⟩
  | dct kvs => exact h.elim
  | ins c fs => obtain ⟨C, dx, vs, _, h, _⟩ := h; exact ⟨_, h, trivial⟩
end
end Z

set_option autoImplicit false
namespace Z
open PySem L2

inductive Ty where
  | bool | int | str | list | tuple
  deriving Repr
inductive Op where
  | add | sub | mul | mod | fdiv | pow | neg
  | eq | ne | lt | le | gt | ge | is | isnot
  | asInt | len | ix | sl (lo hi : Bool) | tup | lst | toTup | toInt | isin (t : Ty)
  deriving Repr
/-- what a for goes over -/
inductive Ik where
  | seq | range1 | range2
  deriving Repr
inductive Tg where
  | nm (i : Nat)
  | tup (ts : List Tg)
  deriving Repr
inductive Ex where
  | v (i : Nat)
  | c (d : D)
  | op (o : Op) (es : List Ex)
  | call (f : Nat) (es : List Ex)
  | and (a b : Ex)
  | or (a b : Ex)
  | not (a : Ex)
  | ifx (c a b : Ex)
  | comp (own : List Nat) (t : Tg) (k : Ik) (src : List Ex) (ifs : List Ex) (elt : Ex)
  deriving Repr
inductive Sx where
  | asg (t : Tg) (e : Ex)
  | setix (o i e : Ex)
  | expr (e : Ex)
  | ret (e : Ex)
  | ite (c : Ex) (t f : List Sx)
  | for_ (t : Tg) (k : Ik) (src : List Ex) (body : List Sx)
  | brk
  | cnt
  | pass
  deriving Repr

def SZ : Nat := 16777216
def big64 (i : Int) : Bool := decide (-(2 ^ 64) < i) && decide (i < 2 ^ 64)
abbrev FT := Nat → List D → Store → R D

/-! ## data -/
def b2i (b : Bool) : Int := if b then 1 else 0
mutual
/-- == of pure data -/
def eqD : D → D → Bool
  | .non, .non => true
  | .bl a, .bl b => a == b
  | .bl a, .int b => b2i a == b
  | .int a, .bl b => a == b2i b
  | .int a, .int b => a == b
  | .str a, .str b => a == b
  | .tup a, .tup b => eqDs a b
  | .flst a, .flst b => eqDs a b
  | .loc _, .loc _ => true
  | .loc _, .non => true
  | .non, .loc _ => true
  | _, _ => false
def eqDs : List D → List D → Bool
  | [], [] => true
  | a :: as, b :: bs => eqD a b && eqDs as bs
  | _, _ => false
end
mutual
/-- data without objects: g says what stands at a place -/
def derefD (g : Nat → Option D) : D → Option D
  | .non => some .non
  | .bl b => some (.bl b)
  | .int i => some (.int i)
  | .str s => some (.str s)
  | .tup xs => (derefDs g xs).map .tup
  | .flst xs => (derefDs g xs).map .flst
  | .loc l => g l
def derefDs (g : Nat → Option D) : List D → Option (List D)
  | [] => some []
  | x :: xs => match derefD g x, derefDs g xs with
    | some y, some ys => some (y :: ys)
    | _, _ => none
end
/-- a list that stands in the store becomes a frozen one, its lists too, to the depth n -/
def atD (st : Store) : Nat → Nat → Option D
  | 0, _ => none
  | n + 1, l => match st[l]? with
    | some (.lst xs) => (derefDs (atD st n) xs).map .flst
    | _ => none
def pureD (st : Store) (d : D) : Option D := derefD (atD st 8) d
mutual
def deepD : D → Nat
  | .tup xs => deepDs xs + 1
  | .flst xs => deepDs xs + 1
  | _ => 0
def deepDs : List D → Nat
  | [] => 0
  | x :: xs => max (deepD x) (deepDs xs)
end
/-- the items of a list, a tuple -/
def itemsD (st : Store) : D → Option (List D)
  | .tup xs => some xs
  | .flst xs => some xs
  | .loc l => match st[l]? with
    | some (.lst xs) => some xs
    | _ => none
  | _ => none
def cutD {α : Type} (xs : List α) (lo hi : Option Int) : List α :=
  (xs.drop (HT.sIx xs.length 0 lo)).take (HT.sIx xs.length xs.length hi - HT.sIx xs.length 0 lo)
def eqSem (a b : D) (st : Store) : Option Bool := match pureD st a, pureD st b with
  | some x, some y => if min (deepD x) (deepD y) ≤ 60 then some (eqD x y) else none
  | _, _ => none
def tyD (st : Store) : D → Option Ty
  | .bl _ => some .bool
  | .int _ => some .int
  | .str _ => some .str
  | .tup _ => some .tuple
  | .loc l => match st[l]? with
    | some (.lst _) => some .list
    | _ => none
  | _ => none
def isTy : Ty → Ty → Bool
  | .bool, .bool => true
  | .bool, .int => true
  | .int, .int => true
  | .str, .str => true
  | .list, .list => true
  | .tuple, .tuple => true
  | _, _ => false
def cmpI (o : Op) (i j : Int) : Option Bool := match o with
  | .lt => some (decide (i < j))
  | .le => some (decide (i ≤ j))
  | .gt => some (decide (j < i))
  | .ge => some (decide (j ≤ i))
  | _ => none
def slSem (a : D) (lo hi : Option Int) (st : Store) : R D := match a with
  | .tup xs => .ok (.tup (cutD xs lo hi)) st
  | .str s => if s.length ≤ SZ then .ok (.str (cutD s lo hi)) st else .bad
  | .loc l => match st[l]? with
    | some (.lst xs) => .ok (.loc st.length) (st ++ [.lst (cutD xs lo hi)])
    | _ => .bad
  | _ => .bad
def addSem (a b : D) (st : Store) : R D := match a, b with
  | .int i, .int j => .ok (.int (i + j)) st
  | .str s, .str t => if s.length + t.length ≤ SZ then .ok (.str (s ++ t)) st else .bad
  | .tup s, .tup t => if s.length + t.length ≤ SZ then .ok (.tup (s ++ t)) st else .bad
  | _, _ => .bad
def ixSem (a : D) (i : Int) (st : Store) : R D := match a with
  | .str s => if s.length ≤ SZ then (match atI s i with
    | some c => .ok (.str [c]) st
    | none => .bad) else .bad
  | _ => match itemsD st a with
    | some xs => (match atI xs i with
      | some d => .ok d st
      | none => .bad)
    | none => .bad
def lenSem (a : D) (st : Store) : R D := match a with
  | .str s => if s.length ≤ SZ then .ok (.int s.length) st else .bad
  | _ => match itemsD st a with
    | some xs => .ok (.int xs.length) st
    | none => .bad
def opSem (o : Op) (ds : List D) (st : Store) : R D := match o, ds with
  | .add, [a, b] => addSem a b st
  | .sub, [.int i, .int j] => .ok (.int (i - j)) st
  | .mul, [.int i, .int j] => if big64 i || big64 j then .ok (.int (i * j)) st else .bad
  | .mod, [.int i, .int j] => if 0 < j then .ok (.int (i % j)) st else .bad
  | .fdiv, [.int i, .int j] => if 0 < j ∧ j < 1073741824 then .ok (.int (i / j)) st else .bad
  | .pow, [.int i, .int j] => if (0 ≤ j ∧ j ≤ 1000000) ∧ i.natAbs < 2 ^ 64 then .ok (.int (i ^ j.toNat)) st else .bad
  | .neg, [.int i] => .ok (.int (-i)) st
  | .asInt, [.int i] => .ok (.int i) st
  | .eq, [a, b] => (match eqSem a b st with | some k => .ok (.bl k) st | none => .bad)
  | .ne, [a, b] => (match eqSem a b st with | some k => .ok (.bl (!k)) st | none => .bad)
  | .is, [a, .non] => (match a with | .non => .ok (.bl true) st | _ => .ok (.bl false) st)
  | .isnot, [a, .non] => (match a with | .non => .ok (.bl false) st | _ => .ok (.bl true) st)
  | .is, [.bl a, .bl b] => .ok (.bl (a == b)) st
  | .isnot, [.bl a, .bl b] => .ok (.bl (a != b)) st
  | .len, [a] => lenSem a st
  | .ix, [a, .int i] => ixSem a i st
  | .sl true true, [a, .int i, .int j] => slSem a (some i) (some j) st
  | .sl true false, [a, .int i] => slSem a (some i) none st
  | .sl false true, [a, .int j] => slSem a none (some j) st
  | .sl false false, [a] => slSem a none none st
  | .tup, ds => if ds.length ≤ SZ then .ok (.tup ds) st else .bad
  | .lst, ds => if ds.length ≤ SZ then .ok (.loc st.length) (st ++ [.lst ds]) else .bad
  | .toTup, [a] => (match itemsD st a with | some xs => .ok (.tup xs) st | none => .bad)
  | .toInt, [.int i] => .ok (.int i) st
  | .toInt, [.bl b] => .ok (.int (if b then 1 else 0)) st
  | .isin t, [a] => (match tyD st a with | some u => .ok (.bl (isTy u t)) st | none => .bad)
  | .lt, [.int i, .int j] => .ok (.bl (decide (i < j))) st
  | .le, [.int i, .int j] => .ok (.bl (decide (i ≤ j))) st
  | .gt, [.int i, .int j] => .ok (.bl (decide (j < i))) st
  | .ge, [.int i, .int j] => .ok (.bl (decide (j ≤ i))) st
  | _, _ => .bad

/-! ## targets and what is gone over -/
mutual
def setT : Tg → D → Env → Option Env
  | .nm i, d, env => some (env.set i (some d))
  | .tup ts, d, env => match d with
    | .tup xs => setTs ts xs env
    | _ => none
def setTs : List Tg → List D → Env → Option Env
  | [], [], env => some env
  | t :: ts, d :: ds, env => match setT t d env with
    | some env' => setTs ts ds env'
    | none => none
  | _, _, _ => none
end
mutual
def slotsT : Tg → List Nat
  | .nm i => [i]
  | .tup ts => slotsTs ts
def slotsTs : List Tg → List Nat
  | [] => []
  | t :: ts => slotsT t ++ slotsTs ts
end
/-- the items, and what must stand as it stood -/
structure Src where
  items : List D
  same : Store → Bool
def rangeD (lo : Int) (n : Nat) : List D := (List.range n).map fun (i : Nat) => D.int (lo + (i : Int))
def in62 (i : Int) : Bool := decide (-(2 ^ 62) ≤ i) && decide (i < 2 ^ 62)
mutual
def beqD : D → D → Bool
  | .non, .non => true
  | .bl a, .bl b => a == b
  | .int a, .int b => a == b
  | .str a, .str b => a == b
  | .tup a, .tup b => beqDs a b
  | .flst a, .flst b => beqDs a b
  | .loc a, .loc b => a == b
  | _, _ => false
def beqDs : List D → List D → Bool
  | [], [] => true
  | a :: as, b :: bs => beqD a b && beqDs as bs
  | _, _ => false
end
def lstIs (l : Nat) (xs : List D) (st : Store) : Bool := match st[l]? with
  | some (.lst ys) => beqDs ys xs
  | _ => false
def seqSrc (d : D) (st : Store) : Option Src := match d with
  | .tup xs => some ⟨xs, fun _ => true⟩
  | .flst xs => some ⟨xs, fun _ => true⟩
  | .loc l => match st[l]? with
    | some (.lst xs) => some ⟨xs, lstIs l xs⟩
    | _ => none
  | _ => none
def rngSrc (d e : D) : Option Src := match d with
  | .int i => match e with
    | .int j => if in62 i && in62 j then some ⟨rangeD i (j - i).toNat, fun _ => true⟩ else none
    | _ => none
  | _ => none
def rng1Src (d : D) : Option Src := match d with
  | .int j => if in62 j then some ⟨rangeD 0 j.toNat, fun _ => true⟩ else none
  | _ => none
def srcOf (k : Ik) (ds : List D) (st : Store) : Option Src := match k with
  | .seq => match ds with
    | [d] => seqSrc d st
    | _ => none
  | .range1 => match ds with
    | [d] => rng1Src d
    | _ => none
  | .range2 => match ds with
    | [d, e] => rngSrc d e
    | _ => none
def wipeE : List Nat → Env → Env
  | [], env => env
  | v :: vs, env => (wipeE vs env).set v none
def truth (st : Store) (d : D) : Option Bool := match d with
  | .non => some false
  | .bl b => some b
  | .int i => some (i != 0)
  | .str s => if s.length ≤ SZ then some ((s.length : Int) != 0) else none
  | d => (itemsD st d).map fun xs => !xs.isEmpty

/-- what a comprehension's turn gives: onto the list at l, then on -/
def compTail (l : Nat) (r : R (Option D)) (next : Store → R D) : R D := match r with
  | .ok (some d) st1 => (match st1[l]? with
    | some (.lst acc) => if acc.length < SZ then next (st1.set l (.lst (acc ++ [d]))) else .bad
    | _ => .bad)
  | .ok none st1 => next st1
  | _ => .bad
/-- the turns of a comprehension: the list so far stands at l -/
def evComp (same : Store → Bool) (l : Nat) (one : D → Store → R (Option D)) : List D → Store → R D
  | [], st => if same st then .ok (.loc l) st else .bad
  | x :: xs, st => if same st then compTail l (one x st) (evComp same l one xs) else .bad
mutual
def ev (F : FT) : Ex → Env → Store → R D
  | .v i, env, st => match env[i]? with
    | some (some d) => .ok d st
    | _ => .bad
  | .c d, _, st => .ok d st
  | .op o es, env, st => (evs F es env st).bind fun ds st1 => opSem o ds st1
  | .call f es, env, st => (evs F es env st).bind fun ds st1 => F f ds st1
  | .and a b, env, st => (ev F a env st).bind fun x st1 => match truth st1 x with
    | some true => ev F b env st1
    | some false => .ok x st1
    | none => .bad
  | .or a b, env, st => (ev F a env st).bind fun x st1 => match truth st1 x with
    | some true => .ok x st1
    | some false => ev F b env st1
    | none => .bad
  | .not a, env, st => (ev F a env st).bind fun x st1 => match truth st1 x with
    | some k => .ok (.bl (!k)) st1
    | none => .bad
  | .ifx c a b, env, st => (ev F c env st).bind fun x st1 => match truth st1 x with
    | some true => ev F a env st1
    | some false => ev F b env st1
    | none => .bad
  | .comp own t k src ifs elt, env, st => (evs F src env st).bind fun ds st1 => match srcOf k ds st1 with
    | some S => evComp S.same st1.length (fun x st2 => match setT t x (wipeE own env) with
        | some env' => (evTests F ifs env' st2).bind fun ok st3 => if ok then (ev F elt env' st3).bind fun d st4 => .ok (some d) st4 else .ok none st3
        | none => .bad) S.items (st1 ++ [.lst []])
    | none => .bad
def evs (F : FT) : List Ex → Env → Store → R (List D)
  | [], _, st => .ok [] st
  | e :: es, env, st => (ev F e env st).bind fun d st1 => (evs F es env st1).bind fun ds st2 => .ok (d :: ds) st2
def evTests (F : FT) : List Ex → Env → Store → R Bool
  | [], _, st => .ok true st
  | e :: es, env, st => (ev F e env st).bind fun x st1 => match truth st1 x with
    | some true => evTests F es env st1
    | some false => .ok false st1
    | none => .bad
end

def SR.seq (r : SR) (f : Env → Store → SR) : SR := match r with
  | .next env st => f env st
  | r => r
def R.toS {α : Type} (r : R α) (env : Env) (f : α → Store → SR) : SR := match r with
  | .ok a st => f a st
  | .exc c p st => .exc c p env st
  | .bad => .bad
def evFor (same : Store → Bool) (one : D → Env → Store → SR) : List D → Env → Store → SR
  | [], env, st => if same st then .next env st else .bad
  | x :: xs, env, st => if same st then (match one x env st with
    | .next env' st' => evFor same one xs env' st'
    | .cnt env' st' => evFor same one xs env' st'
    | .brk env' st' => .next env' st'
    | r => r) else .bad
mutual
def xs (F : FT) : Sx → Env → Store → SR
  | .asg t e, env, st => (ev F e env st).toS env fun d st1 => match setT t d env with
    | some env' => .next env' st1
    | none => .bad
  | .setix o i e, env, st => (ev F e env st).toS env fun d st1 => (ev F o env st1).toS env fun ov st2 => (ev F i env st2).toS env fun iv st3 => match ov, iv with
    | .loc l, .int k => (match st3[l]? with
      | some (.lst ys) => (match ixN ys.length k with
        | some j => .next env (st3.set l (.lst (ys.set j d)))
        | none => .bad)
      | _ => .bad)
    | _, _ => .bad
  | .expr e, env, st => (ev F e env st).toS env fun _ st1 => .next env st1
  | .ret e, env, st => (ev F e env st).toS env fun d st1 => .ret d st1
  | .ite c t f, env, st => (ev F c env st).toS env fun x st1 => match truth st1 x with
    | some true => xss F t env st1
    | some false => xss F f env st1
    | none => .bad
  | .for_ t k src body, env, st => (evs F src env st).toS env fun ds st1 => match srcOf k ds st1 with
    | some S => evFor S.same (fun x env2 st2 => match setT t x env2 with
        | some env' => xss F body env' st2
        | none => .bad) S.items env st1
    | none => .bad
  | .brk, env, st => .brk env st
  | .cnt, env, st => .cnt env st
  | .pass, env, st => .next env st
def xss (F : FT) : List Sx → Env → Store → SR
  | [], env, st => .next env st
  | s :: ss, env, st => (xs F s env st).seq fun env' st' => xss F ss env' st'
end

structure Fd where
  slots : Nat
  params : Nat
  body : List Sx
def SR.fin : SR → R D
  | .next _ st => .ok .non st
  | .ret d st => .ok d st
  | .exc c p _ st => .exc c p st
  | _ => .bad
/-- a call of the f-th def, to the depth k -/
def run (P : List Fd) : Nat → FT
  | 0, _, _, _ => .bad
  | k + 1, f, ds, st => match P[f]? with
    | some d => if ds.length = d.params then (xss (run P k) d.body (ds.map some ++ List.replicate (d.slots - d.params) none) st).fin else .bad
    | none => .bad
end Z

set_option autoImplicit false
namespace Z
open PySem L2

structure Fi where
  id : Nat
  np : Nat
  dvs : List D
structure Cc where
  N : List Str
  sc : Scope
  raw : Scope
  isDef : Bool
  fn : List (Str × Fi)
  co : List (Str × D)
  blt : List Str

def slotOf (N : List Str) (x : Str) : Option Nat := match N.findIdx? (fun y => y == x) with
  | some i => if N[i]? = some x then some i else none
  | none => none
theorem slotOf_get {N : List Str} {x : Str} {i : Nat} (h : slotOf N x = some i) : N[i]? = some x := by
  unfold slotOf at h
  split at h
  · split at h
    · cases h; assumption
    · cases h
  · cases h
def okName (x : Str) : Bool := !(x == ("__debug__" : Str)) && !(x == ("__classdict__" : Str)) && !(x == ("__name__" : Str))
def Cc.vis (c : Cc) (x : Str) : Bool := match c.sc.names.lookup x with
  | some .local => true
  | some .cell => true
  | some .free => true
  | _ => false
def Cc.gl (c : Cc) (x : Str) : Bool := match c.sc.names.lookup x with
  | some .globalImplicit => true
  | _ => false
/-- a name that may be stored -/
def Cc.sto (c : Cc) (x : Str) : Bool := match c.sc.names.lookup x with
  | some .local => true
  | some .cell => c.isDef || (c.raw.names.lookup x == some .cell)
  | _ => false
def Cc.bl (c : Cc) (x : Str) : Bool := c.gl x && c.blt.contains x && okName x
def opBin : Operator → Option Op
  | .Add => some .add
  | .Sub => some .sub
  | .Mult => some .mul
  | .Mod => some .mod
  | .FloorDiv => some .fdiv
  | .Pow => some .pow
  | _ => none
def opCmp : CmpOp → Option Op
  | .Eq => some .eq
  | .NotEq => some .ne
  | .Lt => some .lt
  | .LtE => some .le
  | .Gt => some .gt
  | .GtE => some .ge
  | .Is => some .is
  | .IsNot => some .isnot
  | _ => none
def constD : Const → Option D
  | .none => some .non
  | .bool b => some (.bl b)
  | .int i => some (.int i)
  | .str s => some (.str s.cps.toList)
  | _ => none
def tyOf (x : Str) : Option Ty :=
  if x == ("int" : Str) then some .int
  else if x == ("bool" : Str) then some .bool
  else if x == ("str" : Str) then some .str
  else if x == ("list" : Str) then some .list
  else if x == ("tuple" : Str) then some .tuple
  else none
/-- a built-in call by name -/
def bltOp (x : Str) (n : Nat) : Option Op :=
  if x == ("len" : Str) && n == 1 then some .len
  else if x == ("tuple" : Str) && n == 1 then some .toTup
  else if x == ("int" : Str) && n == 1 then some .toInt
  else none
/-- not starred, no slice -/
def plain : Expr → Bool
  | .Starred _ _ => false
  | .Slice _ _ _ _ => false
  | .Set _ _ _ => false
  | _ => true
/-- nothing that is stored within the comprehension's frame -/
def noComp : Expr → Bool
  | .ListComp _ _ _ _ => false
  | .SetComp _ _ _ _ => false
  | .DictComp _ _ _ _ _ => false
  | _ => true
def isTup : Expr → Bool
  | .Tuple _ _ _ => true
  | .List _ _ => true
  | _ => false
/-- an assignment in its plain form -/
def asgOk (sc : Scope) (t e : Expr) : Bool := match t with
  | .Name x p => noComp e || (match e with
    | .ListComp _ _ s _ => (sc.names.lookup x == some .local) && (p.line == e.pos.line) && !(s.names.any fun (n, k) => n == x && (k == .local || k == .cell))
    | _ => false)
  | .Tuple _ _ _ => noComp e && !isTup e
  | _ => false
def ownOf (N : List Str) : List (Str × NameKind) → List (Str × Nat)
  | [] => []
  | (x, k) :: r => match k with
    | .local => (match slotOf N x with | some i => (x, i) :: ownOf N r | none => ownOf N r)
    | .cell => (match slotOf N x with | some i => (x, i) :: ownOf N r | none => ownOf N r)
    | _ => ownOf N r
def Cc.blk (c : Cc) (scope : Scope) : Cc := { c with sc := relS scope c.sc, raw := scope, isDef := false }
mutual
def trTg (c : Cc) : Nat → Expr → Option Tg
  | 0, _ => none
  | n + 1, e => match e with
    | .Name x _ => if c.sto x && okName x then (slotOf c.N x).map .nm else none
    | .Tuple es _ _ => if es.all plain then (trTgs c n es).map .tup else none
    | _ => none
def trTgs (c : Cc) : Nat → List Expr → Option (List Tg)
  | 0, _ => none
  | n + 1, es => match es with
    | [] => some []
    | e :: r => match trTg c n e, trTgs c n r with
      | some a, some b => some (a :: b)
      | _, _ => none
end
mutual
def trE : Nat → Cc → Expr → Option Ex
  | 0, _, _ => none
  | n + 1, c, e => match e with
    | .Name x _ => if okName x then (if c.vis x then (slotOf c.N x).map .v else if c.gl x then (c.co.lookup x).map .c else none) else none
    | .Constant k _ _ => (constD k).map .c
    | .BinOp a op b _ => match opBin op, trE n c a, trE n c b with
      | some o, some ma, some mb => some (.op o [ma, mb])
      | _, _, _ => none
    | .UnaryOp op a _ => match op, trE n c a with
      | .USub, some ma => some (.op .neg [ma])
      | .Not, some ma => some (.not ma)
      | _, _ => none
    | .BoolOp op vs pos => match vs with
      | [] => none
      | [a] => trE n c a
      | a :: b :: r => match op, trE n c a, trE n c (.BoolOp op (b :: r) pos) with
        | .And, some ma, some mb => some (.and ma mb)
        | .Or, some ma, some mb => some (.or ma mb)
        | _, _, _ => none
    | .Compare a ops bs _ => match ops, bs with
      | [op], [b] => match opCmp op, trE n c a, trE n c b with
        | some o, some ma, some mb => some (.op o [ma, mb])
        | _, _, _ => none
      | _, _ => none
    | .IfExp t a b _ => match trE n c t, trE n c a, trE n c b with
      | some mt, some ma, some mb => some (.ifx mt ma mb)
      | _, _, _ => none
    | .Call f args kws _ => match f, kws with
      | .Name x _, [] => if okName x && c.gl x && args.all plain then (match c.fn.lookup x with
        | some fi => (match args, trEs n c args with
          | _ :: _, some ms => if args.length ≤ fi.np ∧ fi.np ≤ args.length + fi.dvs.length then some (.call fi.id (ms ++ (fi.dvs.drop (args.length + fi.dvs.length - fi.np)).map .c)) else none
          | _, _ => none)
        | none => if c.blt.contains x then (if x == ("isinstance" : Str) then (match args with
            | [a, .Name y _] => if okName y && c.gl y && c.blt.contains y then (match tyOf y, trE n c a with
              | some t, some ma => some (.op (.isin t) [ma])
              | _, _ => none) else none
            | _ => none)
          else (match bltOp x args.length, trEs n c args with
            | some o, some ms => some (.op o ms)
            | _, _ => none)) else none) else none
      | _, _ => none
    | .Subscript a i _ => match i with
      | .Slice lo hi st _ => match st, lo, hi with
        | none, none, none => (trE n c a).map fun ma => .op (.sl false false) [ma]
        | none, some l, none => match trE n c a, trE n c l with
          | some ma, some ml => some (.op (.sl true false) [ma, ml])
          | _, _ => none
        | none, none, some h => match trE n c a, trE n c h with
          | some ma, some mh => some (.op (.sl false true) [ma, mh])
          | _, _ => none
        | none, some l, some h => match trE n c a, trE n c l, trE n c h with
          | some ma, some ml, some mh => some (.op (.sl true true) [ma, .op .asInt [ml], mh])
          | _, _, _ => none
        | _, _, _ => none
      | i => if plain i then (match trE n c a, trE n c i with
        | some ma, some mi => some (.op .ix [ma, mi])
        | _, _ => none) else none
    | .Tuple es _ _ => if es.all plain then (trEs n c es).map (.op .tup) else none
    | .List es _ => if es.all plain then (trEs n c es).map (.op .lst) else none
    | .ListComp elt gs scope _ => match gs with
      | [⟨t, iter, ifs, 0⟩] => if blkC c.N c.sc scope (ownOf c.N scope.names) && plain iter then
          (match trTg (c.blk scope) n t, trIt n c iter, trEs n (c.blk scope) ifs, trE n (c.blk scope) elt with
          | some mt, some (k, src), some mi, some me => if (slotsT mt).all (((ownOf c.N scope.names).map (·.2)).contains ·) && decide (mi.length ≤ 1) then some (.comp ((ownOf c.N scope.names).map (·.2)) mt k src mi me) else none
          | _, _, _, _ => none) else none
      | _ => none
    | _ => none
def trEs : Nat → Cc → List Expr → Option (List Ex)
  | 0, _, _ => none
  | n + 1, c, es => match es with
    | [] => some []
    | e :: r => match trE n c e, trEs n c r with
      | some a, some b => some (a :: b)
      | _, _ => none
/-- what a for goes over -/
def trIt : Nat → Cc → Expr → Option (Ik × List Ex)
  | 0, _, _ => none
  | n + 1, c, e => match e with
    | .Call (.Name x p) args [] pos => if x == ("range" : Str) then (if c.bl x && args.all plain then (match args with
        | [a] => (trE n c a).map fun m => (.range1, [m])
        | [a, b] => (match trE n c a, trE n c b with | some ma, some mb => some (.range2, [ma, mb]) | _, _ => none)
        | _ => none) else none) else (trE n c (.Call (.Name x p) args [] pos)).map fun m => (.seq, [m])
    | e => (trE n c e).map fun m => (.seq, [m])
end
mutual
def trS : Nat → Cc → Stmt → Option Sx
  | 0, _, _ => none
  | n + 1, c, s => match s with
    | .Assign ts e _ => match ts with
      | [.Subscript o i _] => if plain i && noComp e && plain e then (match trE n c o, trE n c i, trE n c e with
        | some mo, some mi, some me => some (.setix mo mi me)
        | _, _, _ => none) else none
      | [t] => match trTg c n t, trE n c e with
        | some mt, some me => if plain e && asgOk c.sc t e then some (.asg mt me) else none
        | _, _ => none
      | _ => none
    | .Expr e _ => match e with
      | .Constant (.str _) _ _ => some .pass
      | e => if noComp e then (trE n c e).map .expr else none
    | .Return (some e) _ => (trE n c e).map .ret
    | .Return none _ => some (.ret (.c .non))
    | .If t a b _ => match trE n c t, trSs n c a, trSs n c b with
      | some mt, some ma, some mb => some (.ite mt ma mb)
      | _, _, _ => none
    | .For t iter body orelse _ => match orelse with
      | [] => if plain iter then (match trTg c n t, trIt n c iter, trSs n c body with
        | some mt, some (k, src), some mb => some (.for_ mt k src mb)
        | _, _, _ => none) else none
      | _ => none
    | .Break _ => some .brk
    | .Continue _ => some .cnt
    | .Pass _ => some .pass
    | _ => none
def trSs : Nat → Cc → List Stmt → Option (List Sx)
  | 0, _, _ => none
  | n + 1, c, ss => match ss with
    | [] => some []
    | s :: r => match trS n c s, trSs n c r with
      | some a, some b => some (a :: b)
      | _, _ => none
end
end Z

set_option autoImplicit false
namespace Z
open PySem PySem.Spec PyProof.Rows L2

/-! ## readings of the machine's steps -/
def XRel (G : GC) (K : PySem.W.Frag) (ρ : List Addr) (H : Hp) (c : Nat) (p : D) (cls : Value) (d : Option Addr) : Prop :=
  ∃ C dd v, G.cls[c]? = some C ∧ cls = .ref C ∧ d = some dd ∧ H dd = some (.xd [(("place" : Str), v)]) ∧ Rv K ρ H p v
section
variable (G : GC) (K : PySem.W.Frag)
/-- a result from ρ, H on: what is wanted of a value, W' of an exception -/
def Lf (W' : Value → Option Addr → Hp → Prop) (ρ : List Addr) (H : Hp) {α : Type} (r : R α) (P : α → Store → List Addr → Hp → Prop) : Prop := match r with
  | .ok a st' => ∀ ρ' H', Ext K ρ ρ' H H' → Rs G K ρ' st' H' → P a st' ρ' H'
  | .exc c p st' => ∀ ρ' H' cls dd, Ext K ρ ρ' H H' → Rs G K ρ' st' H' → XRel G K ρ' H' c p cls dd → W' cls dd H'
  | .bad => False
def tE (W : WX) (r : Env → Store → R D) : TE := fun σ H Q => ∃ ρ env st, Rel G K ρ env st σ H ∧ Lf G K (fun c d H' => W c d σ H') ρ H (r env st) fun d _ ρ' H' => ∀ v, Rv K ρ' H' d v → Q v H'
def tT (W : WX) (r : Env → Store → R D) : TT := fun σ H Q => ∃ ρ env st, Rel G K ρ env st σ H ∧ Lf G K (fun c d H' => W c d σ H') ρ H (r env st) fun d st' ρ' H' => ∃ k, truth st' d = some k ∧ Q k H'
def tA (W : WX) (r : Env → Store → R (List D)) : TA := fun σ H Q => ∃ ρ env st, Rel G K ρ env st σ H ∧ Lf G K (fun c d H' => W c d σ H') ρ H (r env st) fun ds _ ρ' H' => ∀ vs, Rvs K ρ' H' ds vs → Q vs H'
end
section
variable {G : GC} {K : PySem.W.Frag} {W' : Value → Option Addr → Hp → Prop} {ρ : List Addr} {H : Hp} {α β : Type}
theorem Lf.imp {r : R α} {P P' : α → Store → List Addr → Hp → Prop} (h : Lf G K W' ρ H r P) (f : ∀ a st' ρ' H', Ext K ρ ρ' H H' → Rs G K ρ' st' H' → P a st' ρ' H' → P' a st' ρ' H') : Lf G K W' ρ H r P' := by
  cases r with
  | ok a st => exact fun ρ' H' e s => f _ _ _ _ e s (h ρ' H' e s)
  | exc c p st => exact h
  | bad => exact h
theorem Lf.bind {r : R α} {f : α → Store → R β} {P : β → Store → List Addr → Hp → Prop} (h : Lf G K W' ρ H (r.bind f) P) :
    Lf G K W' ρ H r fun a st' ρ' H' => Lf G K W' ρ' H' (f a st') P := by
  cases r with
  | ok a st =>
    intro ρ' H' e s
    have h : Lf G K W' ρ H (f a st) P := h
    cases hf : f a st with
    | ok b st2 =>
      rw [hf] at h
      exact fun ρ2 H2 e2 s2 => h ρ2 H2 (e.trans e2) s2
    | exc c p st2 =>
      rw [hf] at h
      exact fun ρ2 H2 cls dd e2 s2 x => h ρ2 H2 cls dd (e.trans e2) s2 x
    | bad =>
      rw [hf] at h
      exact h
  | exc c p st => exact h
  | bad => exact h
theorem Lf.ext {ρ' : List Addr} {H' : Hp} {r : R α} {P : α → Store → List Addr → Hp → Prop} (e : Ext K ρ ρ' H H') (h : Lf G K W' ρ H r P) : Lf G K W' ρ' H' r P := by
  cases r with
  | ok a st => exact fun ρ2 H2 e2 s2 => h ρ2 H2 (e.trans e2) s2
  | exc c p st => exact fun ρ2 H2 cls dd e2 s2 x => h ρ2 H2 cls dd (e.trans e2) s2 x
  | bad => exact h
theorem Lf.ok {a : α} {st : Store} {P : α → Store → List Addr → Hp → Prop} (h : Lf G K W' ρ H (R.ok a st) P) (s : Rs G K ρ st H) : P a st ρ H := h ρ H Ext.refl s
end
theorem PE.imp {X : Cx} {e : Expr} {t t' : TE} (h : PE X e t) (f : ∀ σ H Q, t' σ H Q → t σ H Q) : PE X e t' := ⟨fun pins s σ H Q I q => h.run pins s σ H Q I (f σ H Q q)⟩
theorem PT.imp {X : Cx} {e : Expr} {t t' : TT} (h : PT X e t) (f : ∀ σ H Q, t' σ H Q → t σ H Q) : PT X e t' := ⟨fun pins s σ H Q I q => h.run pins s σ H Q I (f σ H Q q)⟩
theorem PA.imp {X : Cx} {e : List Expr} {t t' : TA} (h : PA X e t) (f : ∀ σ H Q, t' σ H Q → t σ H Q) : PA X e t' := ⟨fun pos pins s σ H Q I q => h.run pos pins s σ H Q I (f σ H Q q)⟩
theorem PS.imp {X : Cx} {e : Stmt} {t t' : TS} (h : PS X e t) (f : ∀ D σ H, t' D σ H → t D σ H) : PS X e t' := ⟨fun pins s σ H D I q => h.run pins s σ H D I (f D σ H q)⟩
theorem PSs.imp {X : Cx} {e : List Stmt} {t t' : TS} (h : PSs X e t) (f : ∀ D σ H, t' D σ H → t D σ H) : PSs X e t' := ⟨fun pins s σ H D I q => h.run pins s σ H D I (f D σ H q)⟩

/-! ## the context -/
/-- a def's promise: the machine's own run -/
def spF (G : GC) (K : PySem.W.Frag) (P : List Fd) (k f : Nat) : Sp := fun vs H Q E => ∃ ρ st ds, Rs G K ρ st H ∧ Rvs K ρ H ds vs ∧ Lf G K (fun c d H' => E c d H') ρ H (run P k f ds st) fun d _ ρ' H' => ∀ v, Rv K ρ' H' d v → Q v H'
/-- a constant's value, known to the written part -/
def CVal (K : PySem.W.Frag) (d : D) (u : Value) : Prop := ∃ v, RelV v u ∧ ∀ ρ H, Rv K ρ H d v
structure XG (G : GC) (P : List Fd) (k : Nat) (X : Cx) (c : Cc) : Prop where
  N : X.N = c.N
  nd : X.N.Nodup
  sc : X.env.scope = c.sc
  calm : X.calm = true
  fn : (c.isDef = true ∧ ∀ x, X.fn x = true) ∨ (c.isDef = false ∧ ∀ x, X.fn x = (c.raw.names.lookup x == some .cell))
  room : Room k X.A
  po : PassesOwn (model X.prog X.w) X.A X.env X.xe
  blt : ∀ x, c.blt.contains x = true → X.mg x = none
  fns : ∀ x fi, c.fn.lookup x = some fi → ∃ a fd ps, X.mg x = some (.ref a) ∧ PySem.W.keepIn X.K (.ref a) = true ∧ ps.length = fi.np ∧
    (∀ n, ∃ vs ds, (∀ ρ H, Rvs X.K ρ H (fi.dvs.drop n) vs) ∧ Vals vs ds ∧ Binds X.K fd ps ds) ∧
    FnOk X.prog X.w X.K X.mg X.base (L2.CX X.prog X.w) k a fd ps (spF G X.K P k fi.id)
  co : ∀ x d, c.co.lookup x = some d → ∃ u, X.mg x = some u ∧ CVal X.K d u

section
variable {G : GC} {P : List Fd} {k : Nat} {X : Cx} {c : Cc}
theorem gl_of (g : XG G P k X c) {x : Str} (h : c.gl x = true) : Gl X x := by
  unfold Cc.gl at h
  show X.env.scope.names.lookup x = some .globalImplicit
  rw [g.sc]
  split at h
  · assumption
  · cases h
theorem vis_of (g : XG G P k X c) {x : Str} (h : c.vis x = true) : Vis X.env.scope x := by
  unfold Cc.vis at h
  unfold Vis
  rw [g.sc]
  split at h
  · exact .inl ‹_›
  · exact .inr (.inl ‹_›)
  · exact .inr (.inr ‹_›)
  · cases h
theorem okName_dbg {x : Str} (h : okName x = true) : (x == ("__debug__" : Str)) = false := by
  unfold okName at h
  simp only [Bool.and_eq_true, Bool.not_eq_true'] at h
  exact h.1.1
theorem okName_cd {x : Str} (h : okName x = true) : (x == ("__classdict__" : Str)) = false := by
  unfold okName at h
  simp only [Bool.and_eq_true, Bool.not_eq_true'] at h
  exact h.1.2
theorem okName_nm {x : Str} (h : okName x = true) : x ≠ ("__name__" : Str) := by
  unfold okName at h
  simp only [Bool.and_eq_true, Bool.not_eq_true'] at h
  exact fun e => by rw [e] at h; simp at h
theorem sto_loc (g : XG G P k X c) {x : Str} (h : c.sto x = true) : L2.Loc X.env.scope x := by
  unfold Cc.sto at h
  unfold L2.Loc
  rw [g.sc]
  split at h
  · exact .inl ‹_›
  · exact .inr ‹_›
  · cases h
theorem sto_fn (g : XG G P k X c) {x : Str} (h : c.sto x = true) : X.fn x = true ∨ X.env.scope.names.lookup x = some .local := by
  unfold Cc.sto at h
  rw [g.sc]
  split at h
  · exact .inr ‹_›
  · rcases g.fn with ⟨_, f⟩ | ⟨d, f⟩
    · exact .inl (f x)
    · rw [d] at h
      exact .inl (by rw [f]; simpa using h)
  · cases h
theorem star_plain {e : Expr} {es : List Expr} {env : PySem.Env} (h : plain e = true) : starEach (e :: es) env = (false, eval e env) :: starEach es env := by
  cases e <;> first | rfl | (cases h)
theorem ix_plain {e : Expr} (h : plain e = true) : PlainIx e := by
  intro o i
  cases e <;> first | rfl | (cases h)
theorem any_plain {es : List Expr} {env : PySem.Env} {pos : Pos} (h : es.all plain = true) : (backTo pos (starEach es env)).any (·.1) = false := by
  induction es with
  | nil => rfl
  | cons e es ih =>
    rw [List.all_cons, Bool.and_eq_true] at h
    rw [star_plain h.1]
    show (false || _) = false
    rw [Bool.false_or]
    exact ih h.2
theorem nomark_plain {op : CmpOp} {b : Expr} (h : plain b = true) : behindInMarks op b = false := by
  cases b <;> first | rfl | (cases h)

/-! ## arguments -/
variable {W : WX}
theorem pa_nilZ {r : Env → Store → R (List D)} (h : ∀ env st, r env st = .ok [] st) : PA X [] (tA G X.K W r) :=
  PA.imp pa_nil fun σ H Q ⟨ρ, env, st, rel, q⟩ => by
    rw [h] at q
    exact q.ok rel.s [] .nil
theorem pa_consZ {e : Expr} {es : List Expr} {a : Env → Store → R D} {b : Env → Store → R (List D)} (hp : plain e = true) (ha : PE X e (tE G X.K W a)) (hb : PA X es (tA G X.K W b)) :
    PA X (e :: es) (tA G X.K W fun env st => (a env st).bind fun d st1 => (b env st1).bind fun ds st2 => .ok (d :: ds) st2) :=
  PA.imp (pa_cons ha hb (star_plain hp)) fun σ H Q ⟨ρ, env, st, rel, q⟩ => by
    refine ⟨ρ, env, st, rel, q.bind.imp fun d st1 ρ1 H1 e1 s1 q1 v rv => ?_⟩
    refine ⟨ρ1, env, st1, ⟨s1, rel.e.ext e1⟩, q1.bind.imp fun ds st2 ρ2 H2 e2 s2 q2 vs rvs => ?_⟩
    exact q2.ok s2 _ (.cons (rv.ext e2) rvs)

/-- no operation raises -/
def NoX {α : Type} (r : R α) : Prop := ∀ c p st, r ≠ .exc c p st
theorem Lf.nox {K : PySem.W.Frag} {α : Type} {W' W2 : Value → Option Addr → Hp → Prop} {ρ : List Addr} {H : Hp} {r : R α} {P : α → Store → List Addr → Hp → Prop} (n : NoX r) (h : Lf G K W' ρ H r P) : Lf G K W2 ρ H r P := by
  cases r with
  | ok a st => exact h
  | exc c p st => exact absurd rfl (n c p st)
  | bad => exact h
end
end Z

set_option autoImplicit false
set_option maxHeartbeats 1000000
namespace Z
open PySem PySem.Spec PyProof.Rows L2

/-! ## == of data, whatever the signs of its texts -/
mutual
def nd : PyData → Bool
  | .dict _ => false
  | .list xs => nds xs
  | .tuple xs => nds xs
  | _ => true
def nds : List PyData → Bool
  | [] => true
  | x :: xs => nd x && nds xs
end
mutual
def py : D → PyData
  | .non => .none
  | .bl b => .bool b
  | .int i => .int i
  | .str s => .str ⟨s.toArray⟩
  | .tup xs => .tuple (pys xs)
  | .flst xs => .list (pys xs)
  | .loc _ => .none
def pys : List D → List PyData
  | [] => []
  | x :: xs => py x :: pys xs
end
mutual
theorem nd_py : ∀ d : D, nd (py d) = true
  | .non => rfl
  | .bl _ => rfl
  | .int _ => rfl
  | .str _ => rfl
  | .tup xs => nds_pys xs
  | .flst xs => nds_pys xs
  | .loc _ => rfl
theorem nds_pys : ∀ ds : List D, nds (pys ds) = true
  | [] => rfl
  | x :: xs => by show (nd (py x) && nds (pys xs)) = true; rw [nd_py x, nds_pys xs]; rfl
end
mutual
theorem deep_py : ∀ d : D, (py d).depth = deepD d
  | .non => rfl
  | .bl _ => rfl
  | .int _ => rfl
  | .str _ => rfl
  | .tup xs => by show PyData.depthAll (pys xs) + 1 = deepDs xs + 1; rw [deep_pys xs]
  | .flst xs => by show PyData.depthAll (pys xs) + 1 = deepDs xs + 1; rw [deep_pys xs]
  | .loc _ => rfl
theorem deep_pys : ∀ ds : List D, PyData.depthAll (pys ds) = deepDs ds
  | [] => rfl
  | x :: xs => by show max (py x).depth (PyData.depthAll (pys xs)) = max (deepD x) (deepDs xs); rw [deep_py x, deep_pys xs]
end
theorem beq_arr (a b : List Nat) : ((⟨a.toArray⟩ : Str) == ⟨b.toArray⟩) = (a == b) := by
  by_cases h : a = b
  · subst h; rw [beq_self_eq_true, beq_self_eq_true]
  · have h1 : (a == b) = false := by simpa using h
    have h2 : ((⟨a.toArray⟩ : Str) == ⟨b.toArray⟩) = false := by
      refine beq_eq_false_iff_ne.mpr fun e => h ?_
      injection e with e
      simpa using congrArg Array.toList e
    rw [h1, h2]
mutual
/-- what the model's == says is eqD -/
theorem eqv_py : ∀ d e : D, PyData.eqv (py d) (py e) = eqD d e
  | .non, e => by cases e <;> rfl
  | .bl a, e => by cases e <;> rfl
  | .int i, e => by cases e <;> rfl
  | .str s, e => by
    cases e with
    | str t => exact beq_arr s t
    | _ => rfl
  | .tup xs, e => by
    cases e with
    | tup ys => exact eqvs_pys xs ys
    | _ => rfl
  | .flst xs, e => by
    cases e with
    | flst ys => exact eqvs_pys xs ys
    | _ => rfl
  | .loc _, e => by cases e <;> rfl
theorem eqvs_pys : ∀ ds es : List D, PyData.eqvAll (pys ds) (pys es) = eqDs ds es
  | [], [] => rfl
  | [], _ :: _ => rfl
  | _ :: _, [] => rfl
  | x :: xs, y :: ys => by
    show (PyData.eqv (py x) (py y) && PyData.eqvAll (pys xs) (pys ys)) = (eqD x y && eqDs xs ys)
    rw [eqv_py x y, eqvs_pys xs ys]
end

section
open PySem.SeqAt
mutual
theorem same_nd {h : Heap} : ∀ (d e : PyData) (u : Value) (p q : List Addr), nd d = true → Reads h u d p → Reads h u e q → d = e
  | .none, _, _, _, _, _, x, y => by cases x; cases y; rfl
  | .bool _, _, _, _, _, _, x, y => by cases x; cases y; rfl
  | .int _, _, _, _, _, _, x, y => by cases x; cases y; rfl
  | .str _, _, _, _, _, _, x, y => by cases x; cases y; rfl
  | .list ds, e, _, _, _, hn, x, y => by
    cases x with
    | list a1 a2 a3 a4 =>
      cases y with
      | list b1 b2 b3 b4 =>
        rw [a1] at b1; cases b1
        rw [a3] at b3; cases b3
        rw [sames_nd ds _ _ _ _ hn a4 b4]
      | tuple b1 b2 b3 b4 => rw [a1] at b1; cases b1; rw [a2] at b2; exact absurd b2 (by decide)
      | dict b1 b2 b3 b4 b5 => rw [a1] at b1; cases b1; rw [a2] at b2; exact absurd b2 (by decide)
  | .tuple ds, e, _, _, _, hn, x, y => by
    cases x with
    | tuple a1 a2 a3 a4 =>
      cases y with
      | tuple b1 b2 b3 b4 =>
        rw [a1] at b1; cases b1
        rw [a3] at b3; cases b3
        rw [sames_nd ds _ _ _ _ hn a4 b4]
      | list b1 b2 b3 b4 => rw [a1] at b1; cases b1; rw [a2] at b2; exact absurd b2 (by decide)
      | dict b1 b2 b3 b4 b5 => rw [a1] at b1; cases b1; rw [a2] at b2; exact absurd b2 (by decide)
  | .dict _, _, _, _, _, hn, _, _ => by cases hn
theorem sames_nd {h : Heap} : ∀ (ds es : List PyData) (us : List Value) (p q : List Addr), nds ds = true → ReadsAll h us ds p → ReadsAll h us es q → ds = es
  | [], _, _, _, _, _, x, y => by cases x; cases y; rfl
  | d :: ds, _, _, _, _, hn, x, y => by
    have hn2 : (nd d && nds ds) = true := hn
    rw [Bool.and_eq_true] at hn2
    cases x with
    | cons a1 a2 =>
      cases y with
      | cons b1 b2 => rw [same_nd d _ _ _ _ hn2.1 a1 b1, sames_nd ds _ _ _ _ hn2.2 a2 b2]
end
mutual
theorem refl_nd : ∀ d : PyData, nd d = true → PyData.eqv d d = true
  | .none, _ => rfl
  | .bool _, _ => by rw [PyData.eqv]; exact beq_self_eq_true _
  | .int _, _ => by rw [PyData.eqv]; exact beq_self_eq_true _
  | .str _, _ => by rw [PyData.eqv]; exact beq_self_eq_true _
  | .list xs, hn => by rw [PyData.eqv]; exact refls_nd xs hn
  | .tuple xs, hn => by rw [PyData.eqv]; exact refls_nd xs hn
  | .dict _, hn => by cases hn
theorem refls_nd : ∀ ds : List PyData, nds ds = true → PyData.eqvAll ds ds = true
  | [], _ => rfl
  | d :: ds, hn => by
    have hn2 : (nd d && nds ds) = true := hn
    rw [Bool.and_eq_true] at hn2
    rw [PyData.eqvAll, refl_nd d hn2.1, refls_nd ds hn2.2]; rfl
end
/-- both words of == -/
def EqBoth (A : Around) (s : Shared) (u v : Value) (b : Bool) : Prop := EqAt A s u v b ∧ RcAt A s u v b
mutual
theorem both_nd : ∀ (d e : PyData) (A : Around) (s : Shared) (u v : Value) (p q : List Addr), Reads s.heap u d p → Reads s.heap v e q → nd d = true → nd e = true →
    A.units + min d.depth e.depth < cLine → EqBoth A s u v (PyData.eqv d e)
  | .none, _, A, s, _, _, _, _, x, y, _, hn, hu => by
    cases x
    cases y with
    | none => exact ⟨EqAt.same _, RcAt.none_none⟩
    | bool b => exact ⟨EqAt.none_bool b, RcAt.none_bool b⟩
    | int b u => exact ⟨EqAt.none_int b u, RcAt.none_int b u⟩
    | str b u => exact ⟨EqAt.none_str b u, RcAt.none_str b u⟩
    | list b1 b2 b3 b4 => exact ⟨EqAt.none_list ⟨_, b1, b2, _, b3⟩ (room_here hu), RcAt.none_list ⟨_, b1, b2, _, b3⟩ (room_here hu)⟩
    | tuple b1 b2 b3 b4 => exact ⟨EqAt.none_tuple ⟨_, b1, b2, _, b3⟩ (room_here hu), RcAt.none_tuple ⟨_, b1, b2, _, b3⟩ (room_here hu)⟩
    | dict => cases hn
  | .bool a, _, A, s, _, _, _, _, x, y, _, hn, hu => by
    cases x
    cases y with
    | none => exact ⟨EqAt.bool_none a, RcAt.bool_none a⟩
    | bool b => exact ⟨EqAt.bool_bool a b, RcAt.bool_bool a b⟩
    | int b u => exact ⟨EqAt.bool_int a b u, RcAt.bool_int a b u⟩
    | str b u => exact ⟨EqAt.bool_str a b u, RcAt.bool_str a b u⟩
    | list b1 b2 b3 b4 => exact ⟨EqAt.bool_list a ⟨_, b1, b2, _, b3⟩ (room_here hu), RcAt.bool_list a ⟨_, b1, b2, _, b3⟩ (room_here hu)⟩
    | tuple b1 b2 b3 b4 => exact ⟨EqAt.bool_tuple a ⟨_, b1, b2, _, b3⟩ (room_here hu), RcAt.bool_tuple a ⟨_, b1, b2, _, b3⟩ (room_here hu)⟩
    | dict => cases hn
  | .int a, _, A, s, _, _, _, _, x, y, _, hn, hu => by
    cases x with
    | int _ t =>
      cases y with
      | none => exact ⟨EqAt.int_none a t, RcAt.int_none a t⟩
      | bool b => exact ⟨EqAt.int_bool a t b, RcAt.int_bool a t b⟩
      | int b u => exact ⟨EqAt.int_int a t b u, RcAt.int_int a t b u⟩
      | str b u => exact ⟨EqAt.int_str a t b u, RcAt.int_str a t b u⟩
      | list b1 b2 b3 b4 => exact ⟨EqAt.int_list a t ⟨_, b1, b2, _, b3⟩ (room_here hu), RcAt.int_list a t ⟨_, b1, b2, _, b3⟩ (room_here hu)⟩
      | tuple b1 b2 b3 b4 => exact ⟨EqAt.int_tuple a t ⟨_, b1, b2, _, b3⟩ (room_here hu), RcAt.int_tuple a t ⟨_, b1, b2, _, b3⟩ (room_here hu)⟩
      | dict => cases hn
  | .str a, _, A, s, _, _, _, _, x, y, _, hn, hu => by
    cases x with
    | str _ t =>
      cases y with
      | none => exact ⟨EqAt.str_none a t, RcAt.str_none a t⟩
      | bool b => exact ⟨EqAt.str_bool a t b, RcAt.str_bool a t b⟩
      | int b u => exact ⟨EqAt.str_int a t b u, RcAt.str_int a t b u⟩
      | str b u => exact ⟨EqAt.str_str a t b u, RcAt.str_str a t b u⟩
      | list b1 b2 b3 b4 => exact ⟨EqAt.str_list a t ⟨_, b1, b2, _, b3⟩ (room_here hu), RcAt.str_list a t ⟨_, b1, b2, _, b3⟩ (room_here hu)⟩
      | tuple b1 b2 b3 b4 => exact ⟨EqAt.str_tuple a t ⟨_, b1, b2, _, b3⟩ (room_here hu), RcAt.str_tuple a t ⟨_, b1, b2, _, b3⟩ (room_here hu)⟩
      | dict => cases hn
  | .list ds, e, A, s, _, _, _, _, x, y, hm, hn, hu => by
    cases x with
    | @list l o us n _ p a1 a2 a3 a4 =>
      have hl : s.heap.IsList l us := ⟨_, a1, a2, _, a3⟩
      cases y with
      | none => exact ⟨EqAt.list_none hl (room_here hu), RcAt.list_none hl (room_here hu)⟩
      | bool b => exact ⟨EqAt.list_bool b hl (room_here hu), RcAt.list_bool b hl (room_here hu)⟩
      | int b u => exact ⟨EqAt.list_int b u hl (room_here hu), RcAt.list_int b u hl (room_here hu)⟩
      | str b u => exact ⟨EqAt.list_str b u hl (room_here hu), RcAt.list_str b u hl (room_here hu)⟩
      | tuple b1 b2 b3 b4 => exact ⟨EqAt.list_tuple hl ⟨_, b1, b2, _, b3⟩ (room_here hu), RcAt.list_tuple hl ⟨_, b1, b2, _, b3⟩ (room_here hu)⟩
      | dict => cases hn
      | @list m o' ws n' es q b1 b2 b3 b4 =>
        have hr : s.heap.IsList m ws := ⟨_, b1, b2, _, b3⟩
        have k1 : us.size = ds.length := by simpa using ReadsAll.length _ _ _ a4
        have k2 : ws.size = es.length := by simpa using ReadsAll.length _ _ _ b4
        have r : RcAt A s (.ref l) (.ref m) (PyData.eqvAll ds es) := by
          by_cases hz : us.size = ws.size
          · rw [← eqvAll_same_length (by omega : ds.length = es.length), ← k1]
            refine RcAt.lists hl hr hz (room_here hu) fun j j1 j2 => ?_
            have z := boths_nd ds es A.in1 s us.toList ws.toList _ _ a4 b4 hm hn (room_in hu) j (by simpa using j1) (by simpa using j2)
            rw [Array.getElem_toList, Array.getElem_toList] at z
            exact z
          · rw [eqvAll_other_length (by omega : ds.length ≠ es.length)]
            exact RcAt.lists_lengths hl hr (by simpa using hz) (room_here hu)
        refine ⟨?_, r⟩
        by_cases hlm : l = m
        · subst hlm
          have z : PyData.list ds = PyData.list es := same_nd _ _ _ _ _ hm (.list a1 a2 a3 a4) (.list b1 b2 b3 b4)
          injection z with z
          subst z
          show EqAt A s _ _ (PyData.eqvAll ds ds)
          rw [refls_nd ds hm]
          exact EqAt.same _
        · exact EqAt.of_refs hlm r
  | .tuple ds, e, A, s, _, _, _, _, x, y, hm, hn, hu => by
    cases x with
    | @tuple l o us n _ p a1 a2 a3 a4 =>
      have hl : s.heap.IsTuple l us := ⟨_, a1, a2, _, a3⟩
      cases y with
      | none => exact ⟨EqAt.tuple_none hl (room_here hu), RcAt.tuple_none hl (room_here hu)⟩
      | bool b => exact ⟨EqAt.tuple_bool b hl (room_here hu), RcAt.tuple_bool b hl (room_here hu)⟩
      | int b u => exact ⟨EqAt.tuple_int b u hl (room_here hu), RcAt.tuple_int b u hl (room_here hu)⟩
      | str b u => exact ⟨EqAt.tuple_str b u hl (room_here hu), RcAt.tuple_str b u hl (room_here hu)⟩
      | list b1 b2 b3 b4 => exact ⟨EqAt.tuple_list hl ⟨_, b1, b2, _, b3⟩ (room_here hu), RcAt.tuple_list hl ⟨_, b1, b2, _, b3⟩ (room_here hu)⟩
      | dict => cases hn
      | @tuple m o' ws n' es q b1 b2 b3 b4 =>
        have hr : s.heap.IsTuple m ws := ⟨_, b1, b2, _, b3⟩
        have k1 : us.size = ds.length := by simpa using ReadsAll.length _ _ _ a4
        have k2 : ws.size = es.length := by simpa using ReadsAll.length _ _ _ b4
        have r : RcAt A s (.ref l) (.ref m) (PyData.eqvAll ds es) := by
          rw [← eqvAll_eq ds es, ← k1, ← k2]
          refine RcAt.tuples hl hr (room_here hu) fun j j1 j2 => ?_
          have z := boths_nd ds es A.in1 s us.toList ws.toList _ _ a4 b4 hm hn (room_in hu) j (by simpa using j1) (by simpa using j2)
          rw [Array.getElem_toList, Array.getElem_toList] at z
          exact z
        refine ⟨?_, r⟩
        by_cases hlm : l = m
        · subst hlm
          have z : PyData.tuple ds = PyData.tuple es := same_nd _ _ _ _ _ hm (.tuple a1 a2 a3 a4) (.tuple b1 b2 b3 b4)
          injection z with z
          subst z
          show EqAt A s _ _ (PyData.eqvAll ds ds)
          rw [refls_nd ds hm]
          exact EqAt.same _
        · exact EqAt.of_refs hlm r
  | .dict _, _, _, _, _, _, _, _, _, _, hm, _, _ => by cases hm
theorem boths_nd : ∀ (ds es : List PyData) (A : Around) (s : Shared) (us vs : List Value) (p q : List Addr), ReadsAll s.heap us ds p → ReadsAll s.heap vs es q → nds ds = true → nds es = true →
    A.units + min (PyData.depthAll ds) (PyData.depthAll es) < cLine → ∀ j (h1 : j < us.length) (h2 : j < vs.length), EqAt A s us[j] vs[j] (pairEq ds es j)
  | [], _, _, _, _, _, _, _, x, _, _, _, _, j, h1, _ => by cases x; exact absurd h1 (Nat.not_lt_zero _)
  | _ :: _, [], _, _, _, _, _, _, _, y, _, _, _, j, _, h2 => by cases y; exact absurd h2 (Nat.not_lt_zero _)
  | d :: ds, e :: es, A, s, _, _, _, _, x, y, hm, hn, hu, j, h1, h2 => by
    have hm2 : (nd d && nds ds) = true := hm
    have hn2 : (nd e && nds es) = true := hn
    rw [Bool.and_eq_true] at hm2 hn2
    cases x with
    | cons x1 x2 =>
      cases y with
      | cons y1 y2 =>
        cases j with
        | zero => exact (both_nd d e A s _ _ _ _ x1 y1 hm2.1 hn2.1 (room_head hu)).1
        | succ j => exact boths_nd ds es A s _ _ _ _ x2 y2 hm2.2 hn2.2 (room_tail hu) j (Nat.lt_of_succ_lt_succ h1) (Nat.lt_of_succ_lt_succ h2)
end
theorem ne_nd {d e : PyData} {A : Around} {s : Shared} {u v : Value} {p q : List Addr} (x : Reads s.heap u d p) (y : Reads s.heap v e q) (hm : nd d = true) (hn : nd e = true)
    (hu : A.units + min d.depth e.depth < cLine) : RcNeAt A s u v (!PyData.eqv d e) := by
  cases x with
  | none =>
    cases y with
    | list b1 b2 b3 b4 => exact RcNeAt.none_list ⟨_, b1, b2, _, b3⟩ (room_here hu)
    | tuple b1 b2 b3 b4 => exact RcNeAt.none_tuple ⟨_, b1, b2, _, b3⟩ (room_here hu)
    | dict => cases hn
    | none => exact RcNeAt.none_none
    | bool b => exact RcNeAt.none_bool b
    | int b u => exact RcNeAt.none_int b u
    | str b u => exact RcNeAt.none_str b u
  | bool a =>
    cases y with
    | list b1 b2 b3 b4 => exact RcNeAt.bool_list a ⟨_, b1, b2, _, b3⟩ (room_here hu)
    | tuple b1 b2 b3 b4 => exact RcNeAt.bool_tuple a ⟨_, b1, b2, _, b3⟩ (room_here hu)
    | dict => cases hn
    | none => exact RcNeAt.bool_none a
    | bool b => exact RcNeAt.bool_bool a b
    | int b u => exact RcNeAt.bool_int a b u
    | str b u => exact RcNeAt.bool_str a b u
  | int a t =>
    cases y with
    | list b1 b2 b3 b4 => exact RcNeAt.int_list a t ⟨_, b1, b2, _, b3⟩ (room_here hu)
    | tuple b1 b2 b3 b4 => exact RcNeAt.int_tuple a t ⟨_, b1, b2, _, b3⟩ (room_here hu)
    | dict => cases hn
    | none => exact RcNeAt.int_none a t
    | bool b => exact RcNeAt.int_bool a t b
    | int b u => exact RcNeAt.int_int a t b u
    | str b u => exact RcNeAt.int_str a t b u
  | str a t =>
    cases y with
    | list b1 b2 b3 b4 => exact RcNeAt.str_list a t ⟨_, b1, b2, _, b3⟩ (room_here hu)
    | tuple b1 b2 b3 b4 => exact RcNeAt.str_tuple a t ⟨_, b1, b2, _, b3⟩ (room_here hu)
    | dict => cases hn
    | none => exact RcNeAt.str_none a t
    | bool b => exact RcNeAt.str_bool a t b
    | int b u => exact RcNeAt.str_int a t b u
    | str b u => exact RcNeAt.str_str a t b u
  | @list l o us n ds p a1 a2 a3 a4 =>
    have hl : s.heap.IsList l us := ⟨_, a1, a2, _, a3⟩
    cases y with
    | @list m o' ws n' es q b1 b2 b3 b4 =>
      have hr : s.heap.IsList m ws := ⟨_, b1, b2, _, b3⟩
      have k1 : us.size = ds.length := by simpa using ReadsAll.length _ _ _ a4
      have k2 : ws.size = es.length := by simpa using ReadsAll.length _ _ _ b4
      show RcNeAt A s _ _ (!PyData.eqvAll ds es)
      by_cases hz : us.size = ws.size
      · rw [← eqvAll_same_length (by omega : ds.length = es.length), ← k1]
        refine RcNeAt.lists hl hr hz (room_here hu) fun j j1 j2 => ?_
        have z := boths_nd ds es A.in1 s us.toList ws.toList _ _ a4 b4 hm hn (room_in hu) j (by simpa using j1) (by simpa using j2)
        rw [Array.getElem_toList, Array.getElem_toList] at z
        exact z
      · rw [eqvAll_other_length (by omega : ds.length ≠ es.length)]
        exact RcNeAt.lists_lengths hl hr (by simpa using hz) (room_here hu)
    | tuple b1 b2 b3 b4 => exact RcNeAt.list_tuple hl ⟨_, b1, b2, _, b3⟩ (room_here hu)
    | dict => cases hn
    | none => exact RcNeAt.list_none hl (room_here hu)
    | bool b => exact RcNeAt.list_bool b hl (room_here hu)
    | int b u => exact RcNeAt.list_int b u hl (room_here hu)
    | str b u => exact RcNeAt.list_str b u hl (room_here hu)
  | @tuple l o us n ds p a1 a2 a3 a4 =>
    have hl : s.heap.IsTuple l us := ⟨_, a1, a2, _, a3⟩
    cases y with
    | @tuple m o' ws n' es q b1 b2 b3 b4 =>
      have hr : s.heap.IsTuple m ws := ⟨_, b1, b2, _, b3⟩
      have k1 : us.size = ds.length := by simpa using ReadsAll.length _ _ _ a4
      have k2 : ws.size = es.length := by simpa using ReadsAll.length _ _ _ b4
      show RcNeAt A s _ _ (!PyData.eqvAll ds es)
      rw [← eqvAll_eq ds es, ← k1, ← k2]
      refine RcNeAt.tuples hl hr (room_here hu) fun j j1 j2 => ?_
      have z := boths_nd ds es A.in1 s us.toList ws.toList _ _ a4 b4 hm hn (room_in hu) j (by simpa using j1) (by simpa using j2)
      rw [Array.getElem_toList, Array.getElem_toList] at z
      exact z
    | list b1 b2 b3 b4 => exact RcNeAt.tuple_list hl ⟨_, b1, b2, _, b3⟩ (room_here hu)
    | dict => cases hn
    | none => exact RcNeAt.tuple_none hl (room_here hu)
    | bool b => exact RcNeAt.tuple_bool b hl (room_here hu)
    | int b u => exact RcNeAt.tuple_int b u hl (room_here hu)
    | str b u => exact RcNeAt.tuple_str b u hl (room_here hu)
  | dict => cases hm
end

/-! ## data as the heap holds it -/
section
variable {G : GC} {K : PySem.W.Frag} {ρ : List Addr} {H : Hp} {st : Store}
theorem dpAll_of {xs : List V} {ds : List PyData} (h : DpAll K H xs ds) : DpAll K H xs ds := h
mutual
theorem dp_deref (g : Nat → Option D) (hg : ∀ l a d, ρ[l]? = some a → g l = some d → Dp K H (.ref a) (py d)) : ∀ {d d' : D} {v : V}, Rv K ρ H d v → derefD g d = some d' → Dp K H v (py d')
  | .non, _, _, .non, e => by cases e; exact .non
  | .bl _, _, _, .bl b, e => by cases e; exact .bl b
  | .int _, _, _, .int i, e => by cases e; exact .int i
  | .str _, _, _, .str x, e => by cases e; exact .str _
  | .tup xs, d', _, .tup h t, e => by
    cases q : derefDs g xs with
    | none => rw [derefD, q] at e; cases e
    | some ys => rw [derefD, q] at e; cases e; exact .tup h (dps_deref g hg t q)
  | .flst xs, d', _, .flst h t, e => by
    cases q : derefDs g xs with
    | none => rw [derefD, q] at e; cases e
    | some ys => rw [derefD, q] at e; cases e; exact .lst h.sq (dps_deref g hg t q)
  | .loc l, d', _, .loc h, e => hg l _ d' h e
theorem dps_deref (g : Nat → Option D) (hg : ∀ l a d, ρ[l]? = some a → g l = some d → Dp K H (.ref a) (py d)) : ∀ {ds ds' : List D} {vs : List V}, Rvs K ρ H ds vs → derefDs g ds = some ds' → DpAll K H vs (pys ds')
  | [], _, _, .nil, e => by cases e; exact .nil
  | d :: ds, ds', _, .cons h t, e => by
    cases q : derefD g d with
    | none => rw [derefDs, q] at e; cases e
    | some y =>
      cases q2 : derefDs g ds with
      | none => rw [derefDs, q, q2] at e; cases e
      | some ys => rw [derefDs, q, q2] at e; cases e; exact .cons (dp_deref g hg h q) (dps_deref g hg t q2)
end
theorem dp_at (s : Rs G K ρ st H) : ∀ (n l : Nat) (a : Addr) (d : D), ρ[l]? = some a → atD st n l = some d → Dp K H (.ref a) (py d)
  | 0, _, _, _, _, e => by cases e
  | n + 1, l, a, d, ha, e => by
    unfold atD at e
    split at e
    · rename_i xs hl
      obtain ⟨a', h1, vs, h2, h3⟩ := s.obj l _ hl
      rw [ha] at h1; cases h1
      cases q : derefDs (atD st n) xs with
      | none => rw [q] at e; cases e
      | some ys =>
        rw [q] at e; cases e
        exact .lst (.inl (.inl h2)) (dps_deref _ (fun l a d h1 h2 => dp_at s n l a d h1 h2) h3 q)
    · cases e
theorem dp_pure (s : Rs G K ρ st H) {d d' : D} {v : V} (r : Rv K ρ H d v) (e : pureD st d = some d') : Dp K H v (py d') := dp_deref _ (fun l a d h1 h2 => dp_at s 8 l a d h1 h2) r e
end
end Z

set_option autoImplicit false
namespace Z
open PySem PySem.Spec PyProof.Rows L2

/-! ## what happens to the heap -/
section
variable {G : GC} {K : PySem.W.Frag} {ρ : List Addr} {H : Hp} {st : Store} {p : Addr} {o : HO}
theorem Ext.new (hp : H p = none) : Ext K ρ ρ H (upd H p o) := by
  refine ⟨List.prefix_rfl, fun a xs h => ?_, fun a xs h => ?_⟩
  · rcases h with (h | ⟨ob, h⟩) | h
    · exact .inl (.inl (by rw [upd_ne (ne_of_none h hp)]; exact h))
    · exact .inl (.inr ⟨ob, by rw [upd_ne (ne_of_none h hp)]; exact h⟩)
    · exact .inr h
  · rcases h with ⟨ob, h⟩ | h
    · exact .inl ⟨ob, by rw [upd_ne (ne_of_none h hp)]; exact h⟩
    · exact .inr h
theorem Ext.alloc (hp : H p = none) : Ext K ρ (ρ ++ [p]) H (upd H p o) :=
  have e : Ext K ρ ρ H (upd H p o) := Ext.new hp
  ⟨List.prefix_append _ _, e.tup, e.fl⟩
theorem Ext.wr {u : HO} (hu : H p = some u) (hm : mutO u) : Ext K ρ ρ H (upd H p o) := by
  have ne : ∀ {a : Addr} {w : HO}, H a = some w → ¬ mutO w → a ≠ p := fun {a w} h n e => by
    subst e
    rw [hu] at h; cases h
    exact n hm
  refine ⟨List.prefix_rfl, fun a xs h => ?_, fun a xs h => ?_⟩
  · rcases h with (h | ⟨ob, h⟩) | h
    · exact .inl (.inl (by rw [upd_ne (ne h fun z => z)]; exact h))
    · exact .inl (.inr ⟨ob, by rw [upd_ne (ne h fun z => z)]; exact h⟩)
    · exact .inr h
  · rcases h with ⟨ob, h⟩ | h
    · exact .inl ⟨ob, by rw [upd_ne (ne h fun z => z)]; exact h⟩
    · exact .inr h
theorem RO.keep {ρ' : List Addr} {H' : Hp} {a : Addr} {O : DO} (e : Ext K ρ ρ' H H') (h : RO G K ρ H a O) (k : ∀ u, H a = some u → mutO u → H' a = some u) : RO G K ρ' H' a O := by
  cases O with
  | lst ds => obtain ⟨vs, h, r⟩ := h; exact ⟨vs, k _ h trivial, r.ext e⟩
  | dct kvs => exact h.elim
  | ins c fs => obtain ⟨C, dx, vs, h0, h, r, n⟩ := h; exact ⟨C, dx, vs, h0, k _ h trivial, r.ext e, n⟩
theorem Rs.tracked (s : Rs G K ρ st H) {l : Nat} {a : Addr} (h : ρ[l]? = some a) : ∃ u, H a = some u ∧ mutO u := by
  obtain ⟨hl, _⟩ := List.getElem?_eq_some_iff.mp h
  rw [s.len] at hl
  obtain ⟨a', h1, r⟩ := s.obj l _ (List.getElem?_eq_getElem hl)
  rw [h] at h1; cases h1
  exact r.mut
theorem Rs.new (s : Rs G K ρ st H) (hp : H p = none) : Rs G K ρ st (upd H p o) := by
  refine ⟨s.len, s.nd, fun l O h => ?_⟩
  obtain ⟨a, h1, r⟩ := s.obj l O h
  exact ⟨a, h1, r.keep (Ext.new hp) fun u hu _ => by rw [upd_ne (ne_of_none hu hp)]; exact hu⟩
theorem Rs.fresh (s : Rs G K ρ st H) (hp : H p = none) : p ∉ ρ := fun h => by
  obtain ⟨l, e⟩ := List.mem_iff_getElem?.mp h
  obtain ⟨u, hu, _⟩ := s.tracked e
  rw [hp] at hu; cases hu
theorem Rs.alloc {O : DO} (s : Rs G K ρ st H) (hp : H p = none) (h : RO G K (ρ ++ [p]) (upd H p o) p O) : Rs G K (ρ ++ [p]) (st ++ [O]) (upd H p o) := by
  refine ⟨by rw [List.length_append, List.length_append, s.len]; rfl, ?_, fun l O' h' => ?_⟩
  · rw [List.nodup_append]
    refine ⟨s.nd, by simp, fun a ha b hb e => ?_⟩
    have hb : b = p := by simpa using hb
    subst hb
    subst e
    exact s.fresh hp ha
  · by_cases hl : l < st.length
    · rw [List.getElem?_append_left hl] at h'
      obtain ⟨a, h1, r⟩ := s.obj l O' h'
      refine ⟨a, pre_get (List.prefix_append _ _) h1, r.keep (Ext.alloc hp) fun u hu _ => ?_⟩
      rw [upd_ne (ne_of_none hu hp)]; exact hu
    · rw [List.getElem?_append_right (Nat.le_of_not_lt hl)] at h'
      have hz : l - st.length = 0 := by
        cases q : l - st.length with
        | zero => rfl
        | succ n => rw [q] at h'; simp at h'
      rw [hz] at h'
      cases h'
      refine ⟨p, ?_, h⟩
      rw [List.getElem?_append_right (by rw [s.len]; exact Nat.le_of_not_lt hl), s.len, hz]
      rfl
theorem Rs.wr {O : DO} {l : Nat} {u : HO} (s : Rs G K ρ st H) (hl : ρ[l]? = some p) (hu : H p = some u) (hm : mutO u) (h : RO G K ρ (upd H p o) p O) : Rs G K ρ (st.set l O) (upd H p o) := by
  refine ⟨by rw [List.length_set]; exact s.len, s.nd, fun m O' h' => ?_⟩
  by_cases e : l = m
  · subst e
    obtain ⟨hlt, _⟩ := List.getElem?_eq_some_iff.mp hl
    rw [s.len] at hlt
    rw [List.getElem?_set_self hlt] at h'
    cases h'
    exact ⟨p, hl, h⟩
  · rw [List.getElem?_set_ne e] at h'
    obtain ⟨a, h1, r⟩ := s.obj m O' h'
    refine ⟨a, h1, r.keep (Ext.wr hu hm) fun w hw _ => ?_⟩
    have ne : a ≠ p := fun z => by
      subst z
      obtain ⟨i1, j1⟩ := List.getElem?_eq_some_iff.mp hl
      obtain ⟨i2, j2⟩ := List.getElem?_eq_some_iff.mp h1
      exact e ((List.getElem_inj s.nd).mp (j1.trans j2.symm))
    rw [upd_ne ne]; exact hw
theorem Rvs.allocE (r : ∀ {ds : List D} {vs : List V}, Rvs K ρ H ds vs → Rvs K (ρ ++ [p]) (upd H p o) ds vs) : True := trivial
end

/-! ## the operations -/
section
variable {G : GC} {X : Cx} {ρ : List Addr} {H : Hp} {st : Store} {W : Value → Option Addr → Hp → Prop}
abbrev Val1 (K : PySem.W.Frag) (Q : VK) : D → Store → List Addr → Hp → Prop := fun d _ ρ' H' => ∀ v, Rv K ρ' H' d v → Q v H'
/-- a two-place operation by data -/
def OpD (G : GC) (X : Cx) (o : Op) (r : R2) : Prop := ∀ (W : Value → Option Addr → Hp → Prop) (ρ : List Addr) (st : Store) (H : Hp) (d e : D) (x y : V) (Q : VK), Rs G X.K ρ st H → Rv X.K ρ H d x → Rv X.K ρ H e y →
  Lf G X.K W ρ H (opSem o [d, e] st) (Val1 X.K Q) → r x y H Q
theorem sz_eq : SZ = sizeLine := by rw [sizeLine_eq]; rfl
theorem okv {K : PySem.W.Frag} {d : D} {v : V} {Q : VK} (h : Lf G K W ρ H (R.ok d st) (Val1 K Q)) (s : Rs G K ρ st H) (r : Rv K ρ H d v) : Q v H := h ρ H Ext.refl s v r
theorem okt {K : PySem.W.Frag} {ds : List D} {vs : List V} {p : Addr} {Q : VK} (h : Lf G K W ρ H (R.ok (.tup ds) st) (Val1 K Q)) (s : Rs G K ρ st H) (r : Rvs K ρ H ds vs) (hp : H p = none) : Q (.ref p) (upd H p (.tup vs)) :=
  h ρ _ (Ext.new hp) (s.new hp) _ (.tup (.inl (.inl upd_same)) (r.ext (Ext.new hp)))
theorem okl {K : PySem.W.Frag} {ds : List D} {vs : List V} {p : Addr} {Q : VK} (h : Lf G K W ρ H (R.ok (.loc st.length) (st ++ [.lst ds])) (Val1 K Q)) (s : Rs G K ρ st H) (r : Rvs K ρ H ds vs) (hp : H p = none) : Q (.ref p) (upd H p (.lst vs)) := by
  refine h (ρ ++ [p]) _ (Ext.alloc hp) (s.alloc hp ⟨vs, upd_same, r.ext (Ext.alloc hp)⟩) _ (.loc ?_)
  rw [← s.len, List.getElem?_append_right (Nat.le_refl _), Nat.sub_self]
  rfl
theorem od_add : OpD G X .add (fun x y H Q => (∃ i j, x = .int i ∧ y = .int j ∧ Q (.int (i + j)) H) ∨ (∃ i j, x = .str i ∧ y = .str j ∧ i.length + j.length ≤ sizeLine ∧ Q (.str (i ++ j)) H) ∨ rCatA X.K x y H Q) := by
  intro W ρ st H d e x y Q s rx ry h
  cases rx <;> cases ry <;> try (exact h.elim)
  case int.int i j => exact .inl ⟨i, j, rfl, rfl, okv h s (.int _)⟩
  case str.str a b =>
    show _ ∨ _
    have h : Lf G X.K W ρ H (if a.length + b.length ≤ SZ then .ok (.str (a ++ b)) st else .bad) (Val1 X.K Q) := h
    by_cases hz : a.length + b.length ≤ SZ
    · rw [if_pos hz] at h
      refine .inr (.inl ⟨_, _, rfl, rfl, ?_, ?_⟩)
      · show a.toArray.size + b.toArray.size ≤ sizeLine
        rw [← sz_eq]; simpa using hz
      · have e : (⟨a.toArray⟩ : Str) ++ ⟨b.toArray⟩ = ⟨(a ++ b).toArray⟩ := by
          show (⟨a.toArray ++ b.toArray⟩ : Str) = _
          simp
        rw [e]
        exact okv h s (.str _)
    · rw [if_neg hz] at h
      exact h.elim
  case tup.tup a xs ds t1 r1 b ys es t2 r2 =>
    have h : Lf G X.K W ρ H (if ds.length + es.length ≤ SZ then .ok (.tup (ds ++ es)) st else .bad) (Val1 X.K Q) := h
    by_cases hz : ds.length + es.length ≤ SZ
    · rw [if_pos hz] at h
      refine .inr (.inr ⟨a, b, xs, ys, rfl, rfl, t1, t2, by rw [← r1.length, ← r2.length, ← sz_eq]; exact hz, fun e => ?_, fun _ e => ?_, fun _ _ p hp => okt h s (r1.append r2) hp⟩)
      · subst e
        cases r1
        exact okv h s (.tup t2 r2)
      · subst e
        cases r2
        rw [List.append_nil] at h
        exact okv h s (.tup t1 r1)
    · rw [if_neg hz] at h
      exact h.elim
theorem op_addZ : OpR X (binaryOp .Add) (fun x y H Q => (∃ i j, x = .int i ∧ y = .int j ∧ Q (.int (i + j)) H) ∨ (∃ i j, x = .str i ∧ y = .str j ∧ i.length + j.length ≤ sizeLine ∧ Q (.str (i ++ j)) H) ∨ rCatA X.K x y H Q) :=
  OpR.or op_add (OpR.or op_add_str op_catA)
theorem od_int {o : Op} {C : Int → Int → Prop} {g : Int → Int → D} {gv : Int → Int → V} (hg : ∀ i j ρ H, Rv X.K ρ H (g i j) (gv i j)) (hn : ∀ d e st, (∀ i j, ¬ (d = .int i ∧ e = .int j)) → opSem o [d, e] st = .bad)
    (hi : ∀ i j st, (C i j ∧ opSem o [.int i, .int j] st = .ok (g i j) st) ∨ opSem o [.int i, .int j] st = .bad) : OpD G X o (rI C gv) := by
  intro W ρ st H d e x y Q s rx ry h
  by_cases q : ∃ i j, d = .int i ∧ e = .int j
  · obtain ⟨i, j, rfl, rfl⟩ := q
    cases rx; cases ry
    rcases hi i j st with ⟨c, z⟩ | z
    · rw [z] at h
      exact ⟨i, j, rfl, rfl, c, okv h s (hg i j ρ H)⟩
    · rw [z] at h
      exact h.elim
  · rw [hn d e st fun i j z => q ⟨i, j, z⟩] at h
    exact h.elim
theorem od_sub : OpD G X .sub (rI (fun _ _ => True) fun i j => .int (i - j)) :=
  od_int (g := fun i j => .int (i - j)) (fun _ _ _ _ => .int _) (fun d e st h => by cases d <;> cases e <;> first | rfl | exact absurd ⟨rfl, rfl⟩ (h _ _)) fun i j st => .inl ⟨trivial, rfl⟩
theorem op_subZ : OpR X (binaryOp .Sub) (rI (fun _ _ => True) fun i j => .int (i - j)) := fun pins s σ H x y v u Q I rx ry ⟨i, j, hx, hy, _, q⟩ => op_sub pins s σ H x y v u Q I rx ry ⟨i, j, hx, hy, q⟩
theorem od_mul : OpD G X .mul (rI CMul fun i j => .int (i * j)) :=
  od_int (g := fun i j => .int (i * j)) (fun _ _ _ _ => .int _) (fun d e st h => by cases d <;> cases e <;> first | rfl | exact absurd ⟨rfl, rfl⟩ (h _ _)) fun i j st => by
    show (CMul i j ∧ (if (big64 i || big64 j) = true then R.ok (D.int (i * j)) st else .bad) = _) ∨ (if (big64 i || big64 j) = true then R.ok (D.int (i * j)) st else .bad) = _
    by_cases hb : (big64 i || big64 j) = true
    · refine .inl ⟨?_, if_pos hb⟩
      unfold big64 at hb
      rw [Bool.or_eq_true, Bool.and_eq_true, Bool.and_eq_true] at hb
      simp only [decide_eq_true_eq] at hb
      exact hb
    · exact .inr (if_neg hb)
theorem od_mod : OpD G X .mod (rI (fun _ j => 0 < j) fun i j => .int (i % j)) :=
  od_int (g := fun i j => .int (i % j)) (fun _ _ _ _ => .int _) (fun d e st h => by cases d <;> cases e <;> first | rfl | exact absurd ⟨rfl, rfl⟩ (h _ _)) fun i j st => by
    show (0 < j ∧ (if 0 < j then R.ok (D.int (i % j)) st else .bad) = _) ∨ (if 0 < j then R.ok (D.int (i % j)) st else .bad) = _
    by_cases hb : 0 < j
    · exact .inl ⟨hb, if_pos hb⟩
    · exact .inr (if_neg hb)
theorem od_fdiv : OpD G X .fdiv (rI CDiv fun i j => .int (i / j)) :=
  od_int (g := fun i j => .int (i / j)) (fun _ _ _ _ => .int _) (fun d e st h => by cases d <;> cases e <;> first | rfl | exact absurd ⟨rfl, rfl⟩ (h _ _)) fun i j st => by
    show (CDiv i j ∧ (if 0 < j ∧ j < 1073741824 then R.ok (D.int (i / j)) st else .bad) = _) ∨ (if 0 < j ∧ j < 1073741824 then R.ok (D.int (i / j)) st else .bad) = _
    by_cases hb : 0 < j ∧ j < 1073741824
    · exact .inl ⟨hb, if_pos hb⟩
    · exact .inr (if_neg hb)
theorem od_pow : OpD G X .pow (rI CPow fun i j => .int (i ^ j.toNat)) :=
  od_int (g := fun i j => .int (i ^ j.toNat)) (fun _ _ _ _ => .int _) (fun d e st h => by cases d <;> cases e <;> first | rfl | exact absurd ⟨rfl, rfl⟩ (h _ _)) fun i j st => by
    show (CPow i j ∧ (if (0 ≤ j ∧ j ≤ 1000000) ∧ i.natAbs < 2 ^ 64 then R.ok (D.int (i ^ j.toNat)) st else .bad) = _) ∨ (if (0 ≤ j ∧ j ≤ 1000000) ∧ i.natAbs < 2 ^ 64 then R.ok (D.int (i ^ j.toNat)) st else .bad) = _
    by_cases hb : (0 ≤ j ∧ j ≤ 1000000) ∧ i.natAbs < 2 ^ 64
    · exact .inl ⟨⟨hb.1.1, hb.1.2, hb.2⟩, if_pos hb⟩
    · exact .inr (if_neg hb)
def rCmpI (o : Op) : R2 := rI (fun _ _ => True) fun i j => .bl ((cmpI o i j).getD false)
theorem od_cmp {o : Op} (ho : o = .lt ∨ o = .le ∨ o = .gt ∨ o = .ge) : OpD G X o (rCmpI o) := by
  rcases ho with rfl | rfl | rfl | rfl <;>
  exact od_int (g := fun i j => .bl ((cmpI _ i j).getD false)) (fun _ _ _ _ => .bl _) (fun d e st h => by cases d <;> cases e <;> first | rfl | exact absurd ⟨rfl, rfl⟩ (h _ _)) fun i j st => .inl ⟨trivial, rfl⟩
theorem op_cmpZ {op : CmpOp} {o : Op} (h : opCmp op = some o) (ho : o = .lt ∨ o = .le ∨ o = .gt ∨ o = .ge) : OpR X (compareOp op) (rCmpI o) := by
  intro pins s σ H x y v u Q I rx ry ⟨i, j, hx, hy, _, q⟩
  cases op <;> cases h <;> first
    | exact op_lt pins s σ H x y v u Q I rx ry ⟨i, j, hx, hy, q⟩
    | exact op_le pins s σ H x y v u Q I rx ry ⟨i, j, hx, hy, q⟩
    | exact op_gt pins s σ H x y v u Q I rx ry ⟨i, j, hx, hy, q⟩
    | exact op_ge pins s σ H x y v u Q I rx ry ⟨i, j, hx, hy, q⟩
    | (rcases ho with z | z | z | z <;> cases z)

/-! ### == and is -/
def rEqZ (K : PySem.W.Frag) (neg : Bool) : R2 := fun x y H Q => ∃ d e, Dp K H x (py d) ∧ Dp K H y (py e) ∧ min (deepD d) (deepD e) ≤ 60 ∧ Q (.bl (if neg then !eqD d e else eqD d e)) H
theorem od_eq : OpD G X .eq (rEqZ X.K false) := by
  intro W ρ st H d e x y Q s rx ry h
  have h : Lf G X.K W ρ H (match eqSem d e st with | some k => R.ok (D.bl k) st | none => .bad) (Val1 X.K Q) := h
  unfold eqSem at h
  cases hd : pureD st d with
  | none => rw [hd] at h; exact h.elim
  | some d' =>
    cases he : pureD st e with
    | none => rw [hd, he] at h; exact h.elim
    | some e' =>
      rw [hd, he] at h
      by_cases hz : min (deepD d') (deepD e') ≤ 60
      · simp only [if_pos hz] at h
        exact ⟨d', e', dp_pure s rx hd, dp_pure s ry he, hz, okv h s (.bl _)⟩
      · simp only [if_neg hz] at h
        exact h.elim
theorem od_ne : OpD G X .ne (rEqZ X.K true) := by
  intro W ρ st H d e x y Q s rx ry h
  have h : Lf G X.K W ρ H (match eqSem d e st with | some k => R.ok (D.bl (!k)) st | none => .bad) (Val1 X.K Q) := h
  unfold eqSem at h
  cases hd : pureD st d with
  | none => rw [hd] at h; exact h.elim
  | some d' =>
    cases he : pureD st e with
    | none => rw [hd, he] at h; exact h.elim
    | some e' =>
      rw [hd, he] at h
      by_cases hz : min (deepD d') (deepD e') ≤ 60
      · simp only [if_pos hz] at h
        exact ⟨d', e', dp_pure s rx hd, dp_pure s ry he, hz, okv h s (.bl _)⟩
      · simp only [if_neg hz] at h
        exact h.elim
theorem op_eqZ (hu : X.A.units + 64 < cLine) : OpR X (compareOp .Eq) (rEqZ X.K false) := by
  intro pins s σ H x y v u Q I rx ry ⟨d, e, hd, he, hz, q⟩
  obtain ⟨as, ra⟩ := Dp.reads I _ _ _ hd rx
  obtain ⟨bs, rb⟩ := Dp.reads I _ _ _ he ry
  have hb := (both_nd (py d) (py e) X.A s v u _ _ ra rb (nd_py d) (nd_py e) (by rw [deep_py, deep_py]; omega)).2
  rw [eqv_py] at hb
  exact hb X.prog X.w X.xe _ ⟨.bl (eqD d e), H, I, rfl, q⟩
theorem op_neZ (hu : X.A.units + 64 < cLine) : OpR X (compareOp .NotEq) (rEqZ X.K true) := by
  intro pins s σ H x y v u Q I rx ry ⟨d, e, hd, he, hz, q⟩
  obtain ⟨as, ra⟩ := Dp.reads I _ _ _ hd rx
  obtain ⟨bs, rb⟩ := Dp.reads I _ _ _ he ry
  have hb := ne_nd (A := X.A) ra rb (nd_py d) (nd_py e) (by rw [deep_py, deep_py]; omega)
  rw [eqv_py] at hb
  exact hb X.prog X.w X.xe _ ⟨.bl (!eqD d e), H, I, rfl, q⟩
end
end Z

set_option autoImplicit false
set_option maxHeartbeats 1000000
namespace Z
open PySem PySem.Spec PyProof.Rows L2

section
variable {G : GC} {X : Cx} {ρ : List Addr} {H : Hp} {st : Store} {W : Value → Option Addr → Hp → Prop}
/-! ### is -/
def rIsZ (neg : Bool) : R2 := fun x y H Q => (y = .non ∧ Q (.bl (if neg then !decide (x = .non) else decide (x = .non))) H) ∨ ∃ a b : Bool, x = .bl a ∧ y = .bl b ∧ Q (.bl (if neg then !decide (a = b) else decide (a = b))) H
theorem od_is : OpD G X .is (rIsZ false) := by
  intro W ρ st H d e x y Q s rx ry h
  cases ry with
  | non =>
    refine .inl ⟨rfl, ?_⟩
    cases rx <;> exact okv h s (.bl _)
  | bl b =>
    cases rx with
    | bl a =>
      refine .inr ⟨a, b, rfl, rfl, ?_⟩
      have e : (if false = true then !decide (a = b) else decide (a = b)) = (a == b) := by cases a <;> cases b <;> rfl
      rw [e]
      exact okv h s (.bl _)
    | _ => exact h.elim
  | _ => cases rx <;> exact h.elim
theorem od_isnot : OpD G X .isnot (rIsZ true) := by
  intro W ρ st H d e x y Q s rx ry h
  cases ry with
  | non =>
    refine .inl ⟨rfl, ?_⟩
    cases rx <;> exact okv h s (.bl _)
  | bl b =>
    cases rx with
    | bl a =>
      refine .inr ⟨a, b, rfl, rfl, ?_⟩
      have e : (if true = true then !decide (a = b) else decide (a = b)) = (a != b) := by cases a <;> cases b <;> rfl
      rw [e]
      exact okv h s (.bl _)
    | _ => exact h.elim
  | _ => cases rx <;> exact h.elim
theorem op_isZ : OpR X (compareOp .Is) (rIsZ false) := OpR.or op_isN op_isBl
theorem op_isnotZ : OpR X (compareOp .IsNot) (rIsZ true) := OpR.or op_notN op_notBl

/-! ### items -/
theorem items_seq {K : PySem.W.Frag} (s : Rs G K ρ st H) {d : D} {v : V} {xs : List D} (r : Rv K ρ H d v) (e : itemsD st d = some xs) : ∃ a vs, v = .ref a ∧ (SqL K H a vs ∨ SqT K H a vs) ∧ Rvs K ρ H xs vs := by
  cases r with
  | tup t q => cases e; exact ⟨_, _, rfl, .inr t, q⟩
  | flst t q => cases e; exact ⟨_, _, rfl, .inl t.sq, q⟩
  | @loc l a h =>
    have e : (match st[l]? with | some (.lst xs) => some xs | _ => none) = some xs := e
    split at e
    · rename_i ys hl
      cases e
      obtain ⟨a', h1, vs, h2, h3⟩ := s.obj l _ hl
      rw [h] at h1; cases h1
      exact ⟨a, vs, rfl, .inl (.inl (.inl h2)), h3⟩
    · cases e
  | _ => cases e
/-- a call by values -/
def OpV (G : GC) (X : Cx) (o : Op) (r : List V → Hp → VK → Prop) : Prop := ∀ (W : Value → Option Addr → Hp → Prop) (ρ : List Addr) (st : Store) (H : Hp) (ds : List D) (vs : List V) (Q : VK), Rs G X.K ρ st H → Rvs X.K ρ H ds vs →
  Lf G X.K W ρ H (opSem o ds st) (Val1 X.K Q) → r vs H Q
theorem of_match_items {K : PySem.W.Frag} {xs : Option (List D)} {f : List D → R D} {P : D → Store → List Addr → Hp → Prop} (h : Lf G K W ρ H (match xs with | some ys => f ys | none => .bad) P) : ∃ ys, xs = some ys ∧ Lf G K W ρ H (f ys) P := by
  cases xs with
  | none => exact h.elim
  | some ys => exact ⟨ys, rfl, h⟩
theorem of_ite {K : PySem.W.Frag} {c : Prop} [Decidable c] {r : R D} {P : D → Store → List Addr → Hp → Prop} (h : Lf G K W ρ H (if c then r else .bad) P) : c ∧ Lf G K W ρ H r P := by
  by_cases q : c
  · rw [if_pos q] at h; exact ⟨q, h⟩
  · rw [if_neg q] at h; exact h.elim
theorem ov_len : OpV G X .len (fun xs H Q => ∃ x n, xs = [x] ∧ LenV X.K x H n ∧ Q (.int n) H) := by
  intro W ρ st H ds vs Q s r h
  match ds, vs, r with
  | [d], [v], .cons rd .nil =>
    have h : Lf G X.K W ρ H (lenSem d st) (Val1 X.K Q) := h
    cases rd with
    | str z =>
      have h : Lf G X.K W ρ H (if z.length ≤ SZ then .ok (.int z.length) st else .bad) (Val1 X.K Q) := h
      obtain ⟨hz, h⟩ := of_ite h
      exact ⟨_, z.length, rfl, ⟨by rw [← sz_eq]; simpa [Str.length] using hz, by simp [Str.length]⟩, okv h s (.int _)⟩
    | tup t q =>
      exact ⟨_, _, rfl, .inr ⟨_, t, rfl⟩, by rw [← q.length]; exact okv h s (.int _)⟩
    | flst t q =>
      exact ⟨_, _, rfl, .inl ⟨_, t.sq, rfl⟩, by rw [← q.length]; exact okv h s (.int _)⟩
    | @loc l a hl =>
      obtain ⟨ys, e, h⟩ := of_match_items (xs := itemsD st (.loc l)) (f := fun ys => .ok (.int ys.length) st) h
      obtain ⟨a', us, ea, sq, q⟩ := items_seq s (.loc hl) e
      cases ea
      refine ⟨_, us.length, rfl, ?_, by rw [← q.length]; exact okv h s (.int _)⟩
      rcases sq with sq | sq
      · exact .inl ⟨us, sq, rfl⟩
      · exact .inr ⟨us, sq, rfl⟩
    | _ => exact h.elim
  | [], _, _ => exact h.elim
  | _ :: _ :: _, _, _ => exact h.elim
theorem ov_toTup : OpV G X .toTup (fun xs H Q => ∃ p ys, xs = [.ref p] ∧ ((SqL X.K H p ys ∧ ∀ l, H l = none → Q (.ref l) (upd H l (.tup ys))) ∨ (SqT X.K H p ys ∧ Q (.ref p) H))) := by
  intro W ρ st H ds vs Q s r h
  match ds, vs, r with
  | [d], [v], .cons rd .nil =>
    obtain ⟨ys, e, h⟩ := of_match_items (xs := itemsD st d) (f := fun ys => .ok (.tup ys) st) h
    obtain ⟨a', us, ea, sq, q⟩ := items_seq s rd e
    cases ea
    refine ⟨a', us, rfl, ?_⟩
    rcases sq with sq | sq
    · exact .inl ⟨sq, fun l hl => okt h s q hl⟩
    · exact .inr ⟨sq, okv h s (.tup sq q)⟩
  | [], _, _ => exact h.elim
  | _ :: _ :: _, _, _ => exact h.elim
theorem ov_toInt : OpV G X .toInt (fun xs H Q => (∃ i, xs = [.int i] ∧ Q (.int i) H) ∨ ∃ k, xs = [.bl k] ∧ Q (.int (if k then 1 else 0)) H) := by
  intro W ρ st H ds vs Q s r h
  match ds, vs, r with
  | [d], [v], .cons rd .nil =>
    cases rd with
    | int i => exact .inl ⟨i, rfl, okv h s (.int _)⟩
    | bl b => exact .inr ⟨b, rfl, okv h s (.int _)⟩
    | _ => exact h.elim
  | [], _, _ => exact h.elim
  | d :: _ :: _, _, _ => revert h; cases d <;> exact fun h => h.elim
def tyName : Ty → String
  | .bool => "bool"
  | .int => "int"
  | .str => "str"
  | .list => "list"
  | .tuple => "tuple"
theorem kit_all (a b : Ty) : kitB (tyName a) (tyName b) = some (isTy a b) := by cases a <;> cases b <;> decide +kernel
theorem ty_of {K : PySem.W.Frag} (s : Rs G K ρ st H) {d : D} {v : V} {t : Ty} (r : Rv K ρ H d v) (e : tyD st d = some t) : TyX K H v (.type (tyName t)) := by
  cases r with
  | bl b => cases e; exact .base (.bl b)
  | int i => cases e; exact .base (.int i)
  | str x => cases e; exact .base (.str _)
  | tup h q =>
    cases e
    rcases h with (h | ⟨o, h⟩) | ⟨o, its, n, h, c, _⟩
    · exact .base (.tup h)
    · exact .fTuple h
    · exact .kTuple h c
  | @loc l a h =>
    have e : (match st[l]? with | some (.lst _) => some Ty.list | _ => none) = some t := e
    split at e
    · rename_i ys hl
      cases e
      obtain ⟨a', h1, vs, h2, h3⟩ := s.obj l _ hl
      rw [h] at h1; cases h1
      exact .base (.lst h2)
    · cases e
  | _ => cases e
/-! ### a[i], a[lo:hi] -/
theorem atI_rv {K : PySem.W.Frag} {xs : List D} {vs : List V} {i : Int} {d : D} (q : Rvs K ρ H xs vs) (e : atI xs i = some d) : ∃ v, atI vs i = some v ∧ Rv K ρ H d v := by
  unfold atI at e ⊢
  rw [← q.length]
  cases h : ixN xs.length i with
  | none => rw [h] at e; cases e
  | some j =>
    rw [h] at e
    exact q.get e
theorem od_ix : OpD G X .ix (rIx X.K) := by
  intro W ρ st H d e x y Q s rx ry h
  cases ry with
  | int i =>
    have h : Lf G X.K W ρ H (ixSem d i st) (Val1 X.K Q) := h
    have sq : ∀ {f : List D → R D}, (∀ ys, f ys = (match atI ys i with | some z => .ok z st | none => .bad)) → Lf G X.K W ρ H (match itemsD st d with | some ys => f ys | none => .bad) (Val1 X.K Q) → rIx X.K x (.int i) H Q := fun {f} hf h => by
      obtain ⟨ys, e, h⟩ := of_match_items h
      rw [hf] at h
      obtain ⟨a', us, ea, sq, q⟩ := items_seq s rx e
      subst ea
      cases z : atI ys i with
      | none => rw [z] at h; exact h.elim
      | some d' =>
        rw [z] at h
        obtain ⟨v, ev, rv⟩ := atI_rv q z
        rcases sq with sq | sq
        · exact .inl ⟨a', us, i, v, rfl, rfl, sq, ev, okv h s rv⟩
        · exact .inr (.inl ⟨a', us, i, v, rfl, rfl, sq, ev, okv h s rv⟩)
    cases d with
    | str z =>
      cases rx
      have h : Lf G X.K W ρ H (if z.length ≤ SZ then (match atI z i with | some c => .ok (.str [c]) st | none => .bad) else .bad) (Val1 X.K Q) := h
      obtain ⟨hz, h⟩ := of_ite h
      cases q : atI z i with
      | none => rw [q] at h; exact h.elim
      | some c =>
        rw [q] at h
        exact .inr (.inr ⟨⟨z.toArray⟩, i, c, rfl, rfl, by rw [← sz_eq]; simpa [Str.length] using hz, q, okv h s (.str [c])⟩)
    | _ => exact sq (fun _ => rfl) h
  | _ => cases rx <;> exact h.elim
theorem cut_rv {K : PySem.W.Frag} {xs : List D} {vs : List V} {lo hi : Option Int} (q : Rvs K ρ H xs vs) : Rvs K ρ H (cutD xs lo hi) (cutV vs lo hi) := by
  unfold cutD cutV
  rw [← q.length]
  exact (q.drop _).take _
def rSlZ (K : PySem.W.Frag) : V → Option Int → Option Int → Hp → VK → Prop := fun x lo hi H Q => (∃ z, x = .str z ∧ z.length ≤ sizeLine ∧ Q (.str (cutS z lo hi)) H) ∨ rSlA K x lo hi H Q ∨ rSlL K x lo hi H Q
theorem sl_Z : SlR X (rSlZ X.K) := SlR.or sl_str (SlR.or sl_tupA sl_list)
theorem od_sl {d : D} {x : V} {lo hi : Option Int} {Q : VK} (s : Rs G X.K ρ st H) (rx : Rv X.K ρ H d x) (h : Lf G X.K W ρ H (slSem d lo hi st) (Val1 X.K Q)) : rSlZ X.K x lo hi H Q := by
  cases rx with
  | str z =>
    have h : Lf G X.K W ρ H (if z.length ≤ SZ then .ok (.str (cutD z lo hi)) st else .bad) (Val1 X.K Q) := h
    obtain ⟨hz, h⟩ := of_ite h
    refine .inl ⟨_, rfl, by rw [← sz_eq]; simpa [Str.length] using hz, ?_⟩
    have e : cutS ⟨z.toArray⟩ lo hi = ⟨(cutD z lo hi).toArray⟩ := by
      unfold cutS cutD
      simp [Str.length]
    rw [e]
    exact okv h s (.str _)
  | @tup a vs ds t q =>
    refine .inr (.inl ⟨a, vs, rfl, t, fun hw => ?_, fun _ p hp => okt h s (cut_rv q) hp⟩)
    have e : cutD ds lo hi = ds := by
      unfold cutD
      rw [q.length, hw.1, hw.2, List.drop_zero, Nat.sub_zero, ← q.length, List.take_length]
    have h : Lf G X.K W ρ H (.ok (.tup (cutD ds lo hi)) st) (Val1 X.K Q) := h
    rw [e] at h
    exact okv h s (.tup t q)
  | @loc l a hl =>
    have h : Lf G X.K W ρ H (match st[l]? with | some (.lst xs) => .ok (.loc st.length) (st ++ [.lst (cutD xs lo hi)]) | _ => .bad) (Val1 X.K Q) := h
    split at h
    · rename_i ys hy
      obtain ⟨a', h1, vs, h2, h3⟩ := s.obj l _ hy
      rw [hl] at h1; cases h1
      exact .inr (.inr ⟨a, vs, rfl, .inl (.inl h2), fun p hp => okl h s (cut_rv h3) hp⟩)
    · exact h.elim
  | _ => exact h.elim
end
end Z

set_option autoImplicit false
set_option maxHeartbeats 1000000
namespace Z
open PySem PySem.Spec PyProof.Rows L2

section
variable {G : GC} {P : List Fd} {k : Nat} {X : Cx} {c : Cc} {W : WX} {F : FT}
/-! ## expressions -/
theorem bin_ok {f : Value → Value → Sem Value} {r : R2} {o : Op} (hd : OpD G X o r) (a b : Ex) (σ : L2.St) (H : Hp) (Q : VK) (h : tE G X.K W (ev F (.op o [a, b])) σ H Q) : tOp r (tE G X.K W (ev F a)) (tE G X.K W (ev F b)) σ H Q := by
  obtain ⟨ρ, env, st, rel, q⟩ := h
  have q : Lf G X.K (fun c d H' => W c d σ H') ρ H (((ev F a env st).bind fun d st1 => ((ev F b env st1).bind fun e st2 => R.ok [e] st2).bind fun ds st2 => R.ok (d :: ds) st2).bind fun ds st1 => opSem o ds st1) (fun d _ ρ' H' => ∀ v, Rv X.K ρ' H' d v → Q v H') := by
    have e : ((ev F a env st).bind fun d st1 => ((ev F b env st1).bind fun e st2 => R.ok [e] st2).bind fun ds st2 => R.ok (d :: ds) st2) = evs F [a, b] env st := by
      show _ = (ev F a env st).bind fun d st1 => ((ev F b env st1).bind fun e st2 => (R.ok [] st2).bind fun ds st3 => R.ok (e :: ds) st3).bind fun ds st2 => R.ok (d :: ds) st2
      rfl
    rw [e]
    exact q
  refine ⟨ρ, env, st, rel, q.bind.bind.imp fun d st1 ρ1 H1 e1 s1 q1 x rx => ?_⟩
  refine ⟨ρ1, env, st1, ⟨s1, rel.e.ext e1⟩, q1.bind.bind.imp fun e st2 ρ2 H2 e2 s2 q2 y ry => ?_⟩
  exact hd _ ρ2 st2 H2 d e x y Q s2 (rx.ext e2) ry ((q2.ok s2).ok s2)
theorem un_ok {r : V → Hp → VK → Prop} {o : Op} (hd : ∀ (W : Value → Option Addr → Hp → Prop) (ρ : List Addr) (st : Store) (H : Hp) (d : D) (x : V) (Q : VK), Rs G X.K ρ st H → Rv X.K ρ H d x → Lf G X.K W ρ H (opSem o [d] st) (Val1 X.K Q) → r x H Q)
    (a : Ex) (σ : L2.St) (H : Hp) (Q : VK) (h : tE G X.K W (ev F (.op o [a])) σ H Q) : tUn r (tE G X.K W (ev F a)) σ H Q := by
  obtain ⟨ρ, env, st, rel, q⟩ := h
  have q : Lf G X.K (fun c d H' => W c d σ H') ρ H (((ev F a env st).bind fun d st1 => R.ok [d] st1).bind fun ds st1 => opSem o ds st1) (fun d _ ρ' H' => ∀ v, Rv X.K ρ' H' d v → Q v H') := q
  refine ⟨ρ, env, st, rel, q.bind.bind.imp fun d st1 ρ1 H1 e1 s1 q1 x rx => ?_⟩
  exact hd _ ρ1 st1 H1 d x Q s1 rx (q1.ok s1)
/-- a call of a built-in -/
theorem blt_ok {r : List V → Hp → VK → Prop} {o : Op} (hd : OpV G X o r) (es : List Ex) (σ : L2.St) (H : Hp) (Q : VK) (h : tE G X.K W (ev F (.op o es)) σ H Q) : tCB r (tA G X.K W (evs F es)) σ H Q := by
  obtain ⟨ρ, env, st, rel, q⟩ := h
  have q : Lf G X.K (fun c d H' => W c d σ H') ρ H ((evs F es env st).bind fun ds st1 => opSem o ds st1) (fun d _ ρ' H' => ∀ v, Rv X.K ρ' H' d v → Q v H') := q
  exact ⟨ρ, env, st, rel, q.bind.imp fun ds st1 ρ1 H1 e1 s1 q1 vs rvs => hd _ ρ1 st1 H1 ds vs Q s1 rvs q1⟩
theorem tup_ok (es : List Ex) (σ : L2.St) (H : Hp) (Q : VK) (h : tE G X.K W (ev F (.op .tup es)) σ H Q) : tTup (tA G X.K W (evs F es)) σ H Q := by
  obtain ⟨ρ, env, st, rel, q⟩ := h
  have q : Lf G X.K (fun c d H' => W c d σ H') ρ H ((evs F es env st).bind fun ds st1 => opSem .tup ds st1) (fun d _ ρ' H' => ∀ v, Rv X.K ρ' H' d v → Q v H') := q
  refine ⟨ρ, env, st, rel, q.bind.imp fun ds st1 ρ1 H1 e1 s1 q1 vs rvs => ?_⟩
  have q1 : Lf G X.K (fun c d H' => W c d σ H') ρ1 H1 (if ds.length ≤ SZ then .ok (.tup ds) st1 else .bad) (fun d _ ρ' H' => ∀ v, Rv X.K ρ' H' d v → Q v H') := q1
  obtain ⟨hz, q1⟩ := of_ite q1
  exact ⟨by rw [← rvs.length, ← sz_eq]; exact hz, fun p hp => okt q1 s1 rvs hp⟩
theorem lst_ok (es : List Ex) (σ : L2.St) (H : Hp) (Q : VK) (h : tE G X.K W (ev F (.op .lst es)) σ H Q) : tLst (tA G X.K W (evs F es)) σ H Q := by
  obtain ⟨ρ, env, st, rel, q⟩ := h
  have q : Lf G X.K (fun c d H' => W c d σ H') ρ H ((evs F es env st).bind fun ds st1 => opSem .lst ds st1) (fun d _ ρ' H' => ∀ v, Rv X.K ρ' H' d v → Q v H') := q
  refine ⟨ρ, env, st, rel, q.bind.imp fun ds st1 ρ1 H1 e1 s1 q1 vs rvs => ?_⟩
  have q1 : Lf G X.K (fun c d H' => W c d σ H') ρ1 H1 (if ds.length ≤ SZ then .ok (.loc st1.length) (st1 ++ [.lst ds]) else .bad) (fun d _ ρ' H' => ∀ v, Rv X.K ρ' H' d v → Q v H') := q1
  obtain ⟨hz, q1⟩ := of_ite q1
  exact ⟨by rw [← rvs.length, ← sz_eq]; exact hz, fun p hp => okl q1 s1 rvs hp⟩
theorem isin_ok (t : Ty) (a : Ex) (σ : L2.St) (H : Hp) (Q : VK) (h : tE G X.K W (ev F (.op (.isin t) [a])) σ H Q) : tCB (rIsi X.K) (tCons (tE G X.K W (ev F a)) (tCons (tC (.ty (tyName t))) tNil)) σ H Q := by
  obtain ⟨ρ, env, st, rel, q⟩ := h
  have q : Lf G X.K (fun c d H' => W c d σ H') ρ H (((ev F a env st).bind fun d st1 => R.ok [d] st1).bind fun ds st1 => opSem (.isin t) ds st1) (fun d _ ρ' H' => ∀ v, Rv X.K ρ' H' d v → Q v H') := q
  refine ⟨ρ, env, st, rel, q.bind.bind.imp fun d st1 ρ1 H1 e1 s1 q1 x rx => ?_⟩
  have q1 : Lf G X.K (fun c d H' => W c d σ H') ρ1 H1 (match tyD st1 d with | some u => .ok (.bl (isTy u t)) st1 | none => .bad) (fun d _ ρ' H' => ∀ v, Rv X.K ρ' H' d v → Q v H') := q1.ok s1
  cases hu : tyD st1 d with
  | none => rw [hu] at q1; exact q1.elim
  | some u =>
    rw [hu] at q1
    exact ⟨x, _, _, _, isTy u t, rfl, .ty _, ty_of s1 rx hu, kit_ty (kit_all u t), okv q1 s1 (.bl _)⟩
theorem truV_of {K : PySem.W.Frag} {ρ : List Addr} {st : Store} {H : Hp} {d : D} {v : V} {b : Bool} (s : Rs G K ρ st H) (r : Rv K ρ H d v) (e : truth st d = some b) : TruV K v H b := by
  have em : ∀ {xs : List D} {vs : List V}, Rvs K ρ H xs vs → (!xs.isEmpty) = !vs.isEmpty := fun {xs vs} q => by
    cases q <;> rfl
  have sq : ∀ {d : D}, Rv K ρ H d v → (itemsD st d).map (fun xs => !xs.isEmpty) = some b → TruV K v H b := fun {d} r e => by
    cases hi : itemsD st d with
    | none => rw [hi] at e; cases e
    | some xs =>
      rw [hi] at e
      cases e
      obtain ⟨a, vs, rfl, q1, q2⟩ := items_seq s r hi
      rcases q1 with q1 | q1
      · exact .inl ⟨vs, q1, em q2⟩
      · exact .inr (.inl ⟨vs, q1, em q2⟩)
  cases d with
  | non => cases r; cases e; exact rfl
  | bl x => cases r; cases e; exact rfl
  | int i => cases r; cases e; exact rfl
  | str z =>
    cases r
    have e : (if z.length ≤ SZ then some ((z.length : Int) != 0) else none) = some b := e
    split at e
    · rename_i hz
      cases e
      exact ⟨by rw [← sz_eq]; simpa [Str.length] using hz, by simp [Str.length]⟩
    · cases e
  | _ => exact sq r e
theorem tT_of {e : Expr} {r : Env → Store → R D} (h : PE X e (tE G X.K W r)) (he : ∀ whole, isTrue e X.env whole = (do let v ← whole; standAt e.pos; holding [v] (truthy v))) : PT X e (tT G X.K W r) :=
  PT.imp (pt_truth h he) fun σ H Q ⟨ρ, env, st, rel, q⟩ => by
    refine ⟨ρ, env, st, rel, q.imp fun d st1 ρ1 H1 e1 s1 q1 v rv => ?_⟩
    obtain ⟨k, hk, q⟩ := q1
    exact ⟨k, truV_of s1 rv hk, q⟩
/-- an operation that gives a truth value, as a test -/
theorem tT_bin {r : R2} {o : Op} (hd : OpD G X o r) (a b : Ex) (σ : L2.St) (H : Hp) (Q : Bool → Hp → Prop) (hb : ∀ d e st z st', opSem o [d, e] st = .ok z st' → ∃ k, z = .bl k) (h : tT G X.K W (ev F (.op o [a, b])) σ H Q) :
    tTest (tOp r (tE G X.K W (ev F a)) (tE G X.K W (ev F b))) σ H Q := by
  refine bin_ok (f := fun _ _ => pure .none) hd a b σ H _ ?_
  obtain ⟨ρ, env, st, rel, q⟩ := h
  refine ⟨ρ, env, st, rel, ?_⟩
  have hz : ∀ z st', ev F (.op o [a, b]) env st = .ok z st' → ∃ k, z = .bl k := fun z st' e => by
    have e : (evs F [a, b] env st).bind (fun ds st1 => opSem o ds st1) = .ok z st' := e
    have ev2 : evs F [a, b] env st = (ev F a env st).bind fun d st1 => ((ev F b env st1).bind fun e st2 => (R.ok [] st2).bind fun ds st3 => R.ok (e :: ds) st3).bind fun ds st2 => R.ok (d :: ds) st2 := rfl
    rw [ev2] at e
    cases ha : ev F a env st with
    | ok d st1 =>
      rw [ha] at e
      cases hb2 : ev F b env st1 with
      | ok d2 st2 =>
        have e : ((R.bind (ev F b env st1) fun e st2 => (R.ok [] st2).bind fun ds st3 => R.ok (e :: ds) st3).bind fun ds st2 => R.ok (d :: ds) st2).bind (fun ds st1 => opSem o ds st1) = .ok z st' := e
        rw [hb2] at e
        exact hb d d2 st2 z st' e
      | exc => have e : ((R.bind (ev F b env st1) fun e st2 => (R.ok [] st2).bind fun ds st3 => R.ok (e :: ds) st3).bind fun ds st2 => R.ok (d :: ds) st2).bind (fun ds st1 => opSem o ds st1) = .ok z st' := e
               rw [hb2] at e; cases e
      | bad => have e : ((R.bind (ev F b env st1) fun e st2 => (R.ok [] st2).bind fun ds st3 => R.ok (e :: ds) st3).bind fun ds st2 => R.ok (d :: ds) st2).bind (fun ds st1 => opSem o ds st1) = .ok z st' := e
               rw [hb2] at e; cases e
    | exc => rw [ha] at e; cases e
    | bad => rw [ha] at e; cases e
  cases hr : ev F (.op o [a, b]) env st with
  | ok z st' =>
    obtain ⟨k, rfl⟩ := hz z st' hr
    rw [hr] at q
    intro ρ' H' e s v rv
    cases rv
    obtain ⟨k', hk, q⟩ := q ρ' H' e s
    cases hk
    exact ⟨k, rfl, q⟩
  | exc => rw [hr] at q; exact q
  | bad => rw [hr] at q; exact q
end
end Z

set_option autoImplicit false
set_option maxHeartbeats 1000000
namespace Z
open PySem PySem.Spec PyProof.Rows L2

/-! ## what is gone over -/
structure Walk (G : GC) (K : PySem.W.Frag) (S : Src) (J : L2.It) (ρ0 : List Addr) (H0 : Hp) : Prop where
  go : ∀ (i : Nat) (ρ : List Addr) (st : Store) (H : Hp), Ext K ρ0 ρ H0 H → Rs G K ρ st H → S.same st = true → i < S.items.length → J.go i H
  stop : ∀ (i : Nat) (ρ : List Addr) (st : Store) (H : Hp), Ext K ρ0 ρ H0 H → Rs G K ρ st H → S.same st = true → S.items.length ≤ i → J.stop i H
  yld : ∀ (i : Nat) (ρ : List Addr) (st : Store) (H : Hp) (x : V) (H' : Hp), Ext K ρ0 ρ H0 H → Rs G K ρ st H → S.same st = true → i < S.items.length → J.yld i H x H' →
    ∃ d, S.items[i]? = some d ∧ Ext K ρ ρ H H' ∧ Rs G K ρ st H' ∧ Rv K ρ H' d x
def tI (G : GC) (K : PySem.W.Frag) (W : WX) (k : Ik) (r : Env → Store → R (List D)) : TI := fun σ H R => ∃ ρ env st, Rel G K ρ env st σ H ∧ Lf G K (fun c d H' => W c d σ H') ρ H (r env st) fun ds st1 ρ1 H1 => ∃ S, srcOf k ds st1 = some S ∧ ∀ J, Walk G K S J ρ1 H1 → R J H1

mutual
theorem beqD_eq : ∀ {a b : D}, beqD a b = true → a = b
  | .non, b, h => by cases b <;> first | rfl | cases h
  | .bl x, b, h => by
    cases b <;> first | (cases h; done) | skip
    case bl y => rw [show x = y from by simpa [beqD] using h]
  | .int x, b, h => by
    cases b <;> first | (cases h; done) | skip
    case int y => rw [show x = y from by simpa [beqD] using h]
  | .str x, b, h => by
    cases b <;> first | (cases h; done) | skip
    case str y => rw [show x = y from by simpa [beqD] using h]
  | .tup x, b, h => by
    cases b <;> first | (cases h; done) | skip
    case tup y => rw [beqDs_eq (a := x) (b := y) h]
  | .flst x, b, h => by
    cases b <;> first | (cases h; done) | skip
    case flst y => rw [beqDs_eq (a := x) (b := y) h]
  | .loc x, b, h => by
    cases b <;> first | (cases h; done) | skip
    case loc y => rw [show x = y from by simpa [beqD] using h]
theorem beqDs_eq : ∀ {a b : List D}, beqDs a b = true → a = b
  | [], [], _ => rfl
  | [], _ :: _, h => by cases h
  | _ :: _, [], h => by cases h
  | x :: xs, y :: ys, h => by
    have h : (beqD x y && beqDs xs ys) = true := h
    rw [Bool.and_eq_true] at h
    rw [beqD_eq h.1, beqDs_eq h.2]
end
mutual
theorem beqD_refl : ∀ a : D, beqD a a = true
  | .non => rfl
  | .bl x => by show (x == x) = true; exact beq_self_eq_true _
  | .int x => by show (x == x) = true; exact beq_self_eq_true _
  | .str x => by show (x == x) = true; exact beq_self_eq_true _
  | .tup x => beqDs_refl x
  | .flst x => beqDs_refl x
  | .loc x => by show (x == x) = true; exact beq_self_eq_true _
theorem beqDs_refl : ∀ a : List D, beqDs a a = true
  | [] => rfl
  | x :: xs => by show (beqD x x && beqDs xs xs) = true; rw [beqD_refl x, beqDs_refl xs]; rfl
end
theorem lstIs_eq {l : Nat} {xs : List D} {st : Store} (h : lstIs l xs st = true) : st[l]? = some (.lst xs) := by
  unfold lstIs at h
  split at h
  · rename_i ys hy
    rw [hy, beqDs_eq h]
  · cases h
theorem lstIs_refl {l : Nat} {xs : List D} {st : Store} (h : st[l]? = some (.lst xs)) : lstIs l xs st = true := by
  unfold lstIs
  rw [h]
  exact beqDs_refl xs

section
variable {G : GC} {K : PySem.W.Frag} {ρ0 : List Addr} {H0 : Hp}
theorem walk_seqL {xs : List D} {a : Addr} {same : Store → Bool} (h : ∀ (ρ : List Addr) (st : Store) (H : Hp), Ext K ρ0 ρ H0 H → Rs G K ρ st H → same st = true → ∃ vs, SqL K H a vs ∧ Rvs K ρ H xs vs) : Walk G K ⟨xs, same⟩ (Itl K a) ρ0 H0 := by
  refine ⟨fun i ρ st H e s m hi => ?_, fun i ρ st H e s m hi => ?_, fun i ρ st H x H' e s m hi y => ?_⟩
  · obtain ⟨vs, sq, q⟩ := h ρ st H e s m
    obtain ⟨v, hv, _⟩ := q.get (List.getElem?_eq_getElem hi)
    exact ⟨vs, v, sq, hv⟩
  · obtain ⟨vs, sq, q⟩ := h ρ st H e s m
    exact ⟨vs, sq, by rw [← q.length]; exact hi⟩
  · obtain ⟨vs, sq, q⟩ := h ρ st H e s m
    obtain ⟨rfl, f⟩ := y
    obtain ⟨d, hd, r⟩ := q.getV (f vs sq)
    exact ⟨d, hd, Ext.refl, s, r⟩
theorem walk_seqT {xs : List D} {vs : List V} {a : Addr} {same : Store → Bool} (sq : SqT K H0 a vs) (q : Rvs K ρ0 H0 xs vs) : Walk G K ⟨xs, same⟩ (Itt K a) ρ0 H0 := by
  refine ⟨fun i ρ st H e s m hi => ?_, fun i ρ st H e s m hi => ?_, fun i ρ st H x H' e s m hi y => ?_⟩
  · obtain ⟨v, hv, _⟩ := (q.ext e).get (List.getElem?_eq_getElem hi)
    exact ⟨vs, v, e.tup _ _ sq, hv⟩
  · exact ⟨vs, e.tup _ _ sq, by rw [← q.length]; exact hi⟩
  · obtain ⟨rfl, f⟩ := y
    obtain ⟨d, hd, r⟩ := (q.ext e).getV (f vs (e.tup _ _ sq))
    exact ⟨d, hd, Ext.refl, s, r⟩
theorem walk_range {lo : Int} {n : Nat} {same : Store → Bool} : Walk G K ⟨rangeD lo n, same⟩ (Itr lo n) ρ0 H0 := by
  have hl : (rangeD lo n).length = n := by unfold rangeD; rw [List.length_map, List.length_range]
  refine ⟨fun i ρ st H e s m hi => ?_, fun i ρ st H e s m hi => ?_, fun i ρ st H x H' e s m hi y => ?_⟩
  · have hi : i < (rangeD lo n).length := hi
    rw [hl] at hi; exact hi
  · have hi : (rangeD lo n).length ≤ i := hi
    rw [hl] at hi; exact hi
  · obtain ⟨rfl, rfl⟩ := y
    have hi : i < (rangeD lo n).length := hi
    rw [hl] at hi
    refine ⟨.int (lo + i), ?_, Ext.refl, s, .int _⟩
    show (rangeD lo n)[i]? = _
    unfold rangeD
    rw [List.getElem?_map, List.getElem?_range hi]
    rfl
end

section
variable {G : GC} {P : List Fd} {k : Nat} {X : Cx} {c : Cc} {W : WX} {F : FT}
theorem PI.imp {tg e : Expr} {t t' : TI} (h : PI X tg e t) (f : ∀ σ H Q, t' σ H Q → t σ H Q) : PI X tg e t' := ⟨fun pins s σ H Q I q => h.run pins s σ H Q I (f σ H Q q)⟩
theorem PI.or {tg e : Expr} {t t' : TI} (h : PI X tg e t) (h' : PI X tg e t') : PI X tg e fun σ H Q => t σ H Q ∨ t' σ H Q := ⟨fun pins s σ H Q I q => q.elim (h.run pins s σ H Q I) (h'.run pins s σ H Q I)⟩
theorem pi_seq {tg e : Expr} {a : Ex} (h : PE X e (tE G X.K W (ev F a))) : PI X tg e (tI G X.K W .seq (evs F [a])) := by
  refine PI.imp (PI.or (pi_list h) (pi_tup h)) fun σ H Q ⟨ρ, env, st, rel, q⟩ => ?_
  have q : Lf G X.K (fun c d H' => W c d σ H') ρ H ((ev F a env st).bind fun d st1 => R.ok [d] st1) _ := q
  cases hr : ev F a env st with
  | bad => rw [hr] at q; exact q.elim
  | exc c p st' =>
    rw [hr] at q
    refine .inl ⟨ρ, env, st, rel, ?_⟩
    rw [hr]
    exact q
  | ok d st1 =>
    rw [hr] at q
    have q : ∀ ρ' H', Ext X.K ρ ρ' H H' → Rs G X.K ρ' st1 H' → ∃ S, srcOf .seq [d] st1 = some S ∧ ∀ J, Walk G X.K S J ρ' H' → Q J H' := q
    cases d with
    | tup xs =>
      refine .inr ⟨ρ, env, st, rel, ?_⟩
      rw [hr]
      intro ρ' H' e s v rv
      obtain ⟨S, hS, f⟩ := q ρ' H' e s
      cases hS
      cases rv with
      | tup t r => exact ⟨_, rfl, ⟨_, t⟩, f _ (walk_seqT t r)⟩
    | flst xs =>
      refine .inl ⟨ρ, env, st, rel, ?_⟩
      rw [hr]
      intro ρ' H' e s v rv
      obtain ⟨S, hS, f⟩ := q ρ' H' e s
      cases hS
      cases rv with
      | flst t r => exact ⟨_, rfl, ⟨_, t.sq⟩, f _ (walk_seqL fun ρ2 st2 H2 e2 s2 _ => ⟨_, (e2.fl _ _ t).sq, r.ext e2⟩)⟩
    | loc l =>
      refine .inl ⟨ρ, env, st, rel, ?_⟩
      rw [hr]
      intro ρ' H' e s v rv
      obtain ⟨S, hS, f⟩ := q ρ' H' e s
      have hS : (match st1[l]? with | some (.lst xs) => some (Src.mk xs (lstIs l xs)) | _ => none) = some S := hS
      split at hS
      · rename_i xs hx
        cases hS
        cases rv with
        | loc hl =>
          obtain ⟨a', h1, vs, h2, h3⟩ := s.obj l _ hx
          rw [hl] at h1; cases h1
          refine ⟨_, rfl, ⟨vs, .inl (.inl h2)⟩, f _ (walk_seqL fun ρ2 st2 H2 e2 s2 m => ?_)⟩
          obtain ⟨a2, g1, ws, g2, g3⟩ := s2.obj l _ (lstIs_eq m)
          rw [pre_get e2.pre hl] at g1; cases g1
          exact ⟨ws, .inl (.inl g2), g3⟩
      · cases hS
    | _ =>
      refine .inl ⟨ρ, env, st, rel, ?_⟩
      rw [hr]
      intro ρ' H' e s v rv
      obtain ⟨S, hS, f⟩ := q ρ' H' e s
      cases hS
theorem pi_rng1 {tg a : Expr} {m : Ex} {p pos : Pos} (hg : Gl X "range") (hm : X.mg "range" = none) (hp : plain a = true) (h : PA X [a] (tA G X.K W (evs F [m]))) : PI X tg (.Call (.Name "range" p) [a] [] pos) (tI G X.K W .range1 (evs F [m])) := by
  refine PI.imp (pi_range1 hg hm h (star_plain hp)) fun σ H Q ⟨ρ, env, st, rel, q⟩ => ⟨ρ, env, st, rel, q.imp fun ds st1 ρ1 H1 e1 s1 q1 vs rvs => ?_⟩
  obtain ⟨S, hS, f⟩ := q1
  have hds : ∃ j, ds = [.int j] := by
    match ds with
    | [d] =>
      have hS : rng1Src d = some S := hS
      cases d <;> first | (cases hS; done) | skip
      exact ⟨_, rfl⟩
    | [] => cases hS
    | _ :: _ :: _ => cases hS
  obtain ⟨j, rfl⟩ := hds
  obtain ⟨u, rfl, r1⟩ := rvs.one
  cases r1
  have hS : (if in62 j = true then some (Src.mk (rangeD 0 j.toNat) fun _ => true) else none) = some S := hS
  split at hS
  · rename_i hj
    cases hS
    unfold in62 at hj
    simp only [Bool.and_eq_true, decide_eq_true_eq] at hj
    exact ⟨j, rfl, hj.1, hj.2, f _ walk_range⟩
  · cases hS
theorem pi_rng2 {tg a b : Expr} {ma mb : Ex} {p pos : Pos} (hg : Gl X "range") (hm : X.mg "range" = none) (hp : plain a = true) (hp2 : plain b = true) (h : PA X [a, b] (tA G X.K W (evs F [ma, mb]))) : PI X tg (.Call (.Name "range" p) [a, b] [] pos) (tI G X.K W .range2 (evs F [ma, mb])) := by
  refine PI.imp (pi_range2 hg hm h (by rw [star_plain hp, star_plain hp2]; rfl) (by rw [star_plain hp2]; rfl)) fun σ H Q ⟨ρ, env, st, rel, q⟩ => ⟨ρ, env, st, rel, q.imp fun ds st1 ρ1 H1 e1 s1 q1 vs rvs => ?_⟩
  obtain ⟨S, hS, f⟩ := q1
  have hds : ∃ i j, ds = [.int i, .int j] := by
    match ds with
    | [d, e] =>
      have hS : rngSrc d e = some S := hS
      cases d <;> first | (cases hS; done) | skip
      cases e <;> first | (cases hS; done) | skip
      exact ⟨_, _, rfl⟩
    | [] => cases hS
    | [_] => cases hS
    | _ :: _ :: _ :: _ => cases hS
  obtain ⟨i, j, rfl⟩ := hds
  obtain ⟨u, v, rfl, r1, r2⟩ := rvs.two
  cases r1; cases r2
  have hS : (if (in62 i && in62 j) = true then some (Src.mk (rangeD i (j - i).toNat) fun _ => true) else none) = some S := hS
  split at hS
  · rename_i hj
    cases hS
    unfold in62 at hj
    simp only [Bool.and_eq_true, decide_eq_true_eq] at hj
    exact ⟨i, j, rfl, ⟨hj.1.1, hj.1.2, hj.2.1, hj.2.2⟩, f _ walk_range⟩
  · cases hS
end
end Z

set_option autoImplicit false
set_option maxHeartbeats 1000000
namespace Z
open PySem PySem.Spec PyProof.Rows L2

/-! ## targets -/
def tG (G : GC) (K : PySem.W.Frag) (t : Tg) : TG := fun v σ H Q => ∃ ρ env d env', Re K ρ H env σ ∧ Rv K ρ H d v ∧ setT t d env = some env' ∧
  ∀ σ', Re K ρ H env' σ' → (∀ j, j ∉ slotsT t → σ'[j]? = σ[j]?) → Q σ' H
def tGs (G : GC) (K : PySem.W.Frag) (ts : List Tg) : TGs := fun vs σ H Q => ∃ ρ env ds env', Re K ρ H env σ ∧ Rvs K ρ H ds vs ∧ setTs ts ds env = some env' ∧
  ∀ σ', Re K ρ H env' σ' → (∀ j, j ∉ slotsTs ts → σ'[j]? = σ[j]?) → Q σ' H
theorem PG.imp {X : Cx} {e : Expr} {t t' : TG} (h : PG X e t) (f : ∀ v σ H Q, t' v σ H Q → t v σ H Q) : PG X e t' := ⟨fun pins s σ H v u Q I r q => h.run pins s σ H v u Q I r (f _ σ H Q q)⟩
theorem PGs.imp {X : Cx} {e : List Expr} {t t' : TGs} (h : PGs X e t) (f : ∀ v σ H Q, t' v σ H Q → t v σ H Q) : PGs X e t' := ⟨fun pins s σ H v u Q I r q => h.run pins s σ H v u Q I r (f _ σ H Q q)⟩

theorem each_len {es : List Expr} {env : PySem.Env} : (assignEach es env).length = es.length := by
  induction es with
  | nil => rfl
  | cons e es ih => cases e <;> (show (assignEach es env).length + 1 = es.length + 1; rw [ih])
theorem each_cons {e : Expr} {es : List Expr} {env : PySem.Env} (h : plain e = true) : assignEach (e :: es) env = (false, assign e env) :: assignEach es env := by
  cases e <;> first | rfl | (cases h)
theorem each_star {es : List Expr} {env : PySem.Env} (h : es.all plain = true) : (assignEach es env).findIdx? (·.1) = none := by
  induction es with
  | nil => rfl
  | cons e es ih =>
    rw [List.all_cons, Bool.and_eq_true] at h
    rw [each_cons h.1, List.findIdx?_cons, ih h.2]
    rfl
theorem trTg_ok {G : GC} {P : List Fd} {k : Nat} : ∀ (n : Nat), (∀ (X : Cx) (c : Cc) (e : Expr) (t : Tg), XG G P k X c → trTg c n e = some t → PG X e (tG G X.K t)) ∧
    (∀ (X : Cx) (c : Cc) (es : List Expr) (ts : List Tg), XG G P k X c → es.all plain = true → trTgs c n es = some ts → PGs X es (tGs G X.K ts) ∧ ts.length = es.length)
  | 0 => ⟨fun X c e t g h => (by cases h), fun X c es ts g hp h => (by cases h)⟩
  | n + 1 => by
    obtain ⟨ih1, ih2⟩ := trTg_ok (G := G) (P := P) (k := k) n
    refine ⟨fun X c e t g h => ?_, fun X c es ts g hp h => ?_⟩
    · unfold trTg at h
      split at h
      · rename_i x pos
        split at h
        · rename_i hx
          rw [Bool.and_eq_true] at hx
          cases hs : slotOf c.N x with
          | none => rw [hs] at h; cases h
          | some i =>
            rw [hs] at h; cases h
            refine PG.imp (pg_name (i := i) g.nd (by rw [g.N]; exact slotOf_get hs) (sto_loc g hx.1) (sto_fn g hx.1)) fun v σ H Q ⟨ρ, env, d, env', re, rv, he, q⟩ => ?_
            cases he
            refine q _ (re.set rv) fun j hj => ?_
            have hj : i ≠ j := fun z => hj (by rw [z]; exact List.mem_cons_self)
            exact List.getElem?_set_ne hj
        · cases h
      · rename_i es kk pos
        split at h
        · rename_i hp
          cases hs : trTgs c n es with
          | none => rw [hs] at h; cases h
          | some ts =>
            rw [hs] at h; cases h
            obtain ⟨p1, p2⟩ := ih2 X c es ts g hp hs
            refine PG.imp (pg_tup (n := es.length) g.calm p1 each_len (each_star hp)) fun v σ H Q ⟨ρ, env, d, env', re, rv, he, q⟩ => ?_
            cases rv with
            | @tup a vs ds t r =>
              have he : setTs ts ds env = some env' := he
              refine ⟨a, vs, rfl, t, ?_, ρ, env, ds, env', re, r, he, q⟩
              have : ∀ (ts : List Tg) (ds : List D) (env env' : Env), setTs ts ds env = some env' → ts.length = ds.length := by
                intro ts
                induction ts with
                | nil => intro ds env env' h; cases ds with
                  | nil => rfl
                  | cons => cases h
                | cons t ts ih => intro ds env env' h; cases ds with
                  | nil => cases h
                  | cons d ds =>
                    rw [setTs] at h
                    cases q : setT t d env with
                    | none => rw [q] at h; cases h
                    | some e2 => rw [q] at h; rw [List.length_cons, List.length_cons, ih _ _ _ h]
              rw [← r.length, ← this ts ds env env' he, p2]
            | _ => cases he
        · cases h
      · cases h
    · unfold trTgs at h
      split at h
      · cases h
        refine ⟨PGs.imp pgs_nil fun v σ H Q ⟨ρ, env, d, env', re, rv, he, q⟩ => ?_, rfl⟩
        cases d with
        | nil => cases rv; cases he; exact ⟨rfl, q σ re fun _ _ => rfl⟩
        | cons => cases he
      · rename_i e r
        rw [List.all_cons, Bool.and_eq_true] at hp
        cases hs : trTg c n e with
        | none => rw [hs] at h; cases h
        | some t =>
          cases hs2 : trTgs c n r with
          | none => rw [hs, hs2] at h; cases h
          | some ts =>
            rw [hs, hs2] at h; cases h
            obtain ⟨p1, p2⟩ := ih2 X c r ts g hp.2 hs2
            refine ⟨PGs.imp (pgs_cons (ih1 X c e t g hs) p1 (by rw [each_cons hp.1]; rfl)) fun v σ H Q ⟨ρ, env, d, env', re, rv, he, q⟩ => ?_, by rw [List.length_cons, List.length_cons, p2]⟩
            cases d with
            | nil => cases he
            | cons d ds =>
              rw [setTs] at he
              cases q1 : setT t d env with
              | none => rw [q1] at he; cases he
              | some env1 =>
                rw [q1] at he
                cases rv with
                | @cons _ _ v vs r1 r2 =>
                  refine ⟨v, vs, rfl, ρ, env, d, env1, re, r1, q1, fun σ1 re1 k1 => ⟨ρ, env1, ds, env', re1, r2, he, fun σ2 re2 k2 => q σ2 re2 fun j hj => ?_⟩⟩
                  have hj1 : j ∉ slotsT t := fun z => hj (List.mem_append_left _ z)
                  have hj2 : j ∉ slotsTs ts := fun z => hj (List.mem_append_right _ z)
                  rw [k2 j hj2, k1 j hj1]

mutual
theorem setT_len : ∀ {t : Tg} {d : D} {env env' : Env}, setT t d env = some env' → env'.length = env.length
  | .nm i, d, env, env', h => by cases h; exact List.length_set
  | .tup ts, d, env, env', h => by
    cases d with
    | tup xs => exact setTs_len (ts := ts) (ds := xs) h
    | _ => cases h
theorem setTs_len : ∀ {ts : List Tg} {ds : List D} {env env' : Env}, setTs ts ds env = some env' → env'.length = env.length
  | [], [], _, _, h => by cases h; rfl
  | [], _ :: _, _, _, h => by cases h
  | _ :: _, [], _, _, h => by cases h
  | t :: ts, d :: ds, env, env', h => by
    rw [setTs] at h
    cases q : setT t d env with
    | none => rw [q] at h; cases h
    | some e2 =>
      rw [q] at h
      rw [setTs_len h, setT_len q]
end
/-! ## comprehensions -/
theorem wipe_at {σ : L2.St} {i : Nat} : ∀ {vs : List Nat}, i ∈ vs → i < σ.length → (wipe σ vs)[i]? = some none
  | [], h, _ => by cases h
  | v :: vs, h, hi => by
    show ((wipe σ vs).set v none)[i]? = _
    by_cases e : v = i
    · subst e
      rw [List.getElem?_set_self (by rw [wipe_length]; exact hi)]
    · rw [List.getElem?_set_ne e]
      rcases List.mem_cons.mp h with z | z
      · exact absurd z.symm e
      · exact wipe_at z hi
theorem wipe_ext {σ τ : L2.St} {vs : List Nat} (hl : σ.length = τ.length) (h : ∀ j, j ∉ vs → σ[j]? = τ[j]?) : wipe σ vs = wipe τ vs := by
  apply List.ext_getElem?
  intro i
  by_cases hi : i ∈ vs
  · by_cases hlt : i < σ.length
    · rw [wipe_at hi hlt, wipe_at hi (by rw [← hl]; exact hlt)]
    · rw [List.getElem?_eq_none (by rw [wipe_length]; omega), List.getElem?_eq_none (by rw [wipe_length]; omega)]
  · rw [wipe_out hi, wipe_out hi]; exact h i hi
theorem wipe_wipe (σ : L2.St) (vs : List Nat) : wipe (wipe σ vs) vs = wipe σ vs := wipe_ext (wipe_length σ vs) fun j hj => wipe_out hj
section
variable {G : GC} {K : PySem.W.Frag} {ρ : List Addr} {H : Hp} {env : Env} {σ : L2.St}
theorem Re.wipe (h : Re K ρ H env σ) : ∀ vs : List Nat, Re K ρ H (wipeE vs env) (wipe σ vs)
  | [] => h
  | v :: vs => by
    have ih := Re.wipe h vs
    refine ⟨by show ((L2.wipe σ vs).set v none).length = ((wipeE vs env).set v none).length; rw [List.length_set, List.length_set]; exact ih.len, fun i d e => ?_⟩
    have e : ((wipeE vs env).set v none)[i]? = some (some d) := e
    by_cases q : v = i
    · subst q
      rw [List.getElem?_set] at e
      rw [if_pos rfl] at e
      split at e <;> cases e
    · rw [List.getElem?_set_ne q] at e
      obtain ⟨x, a, b⟩ := ih.at_ i d e
      refine ⟨x, ?_, b⟩
      show ((L2.wipe σ vs).set v none)[i]? = _
      rw [List.getElem?_set_ne q]
      exact a
end
abbrev W0 : WX := fun _ _ _ _ => False
def tTs (G : GC) (K : PySem.W.Frag) (F : FT) : List Ex → TT
  | [] => tYes
  | [e] => tT G K W0 (ev F e)
  | _ => fun _ _ _ => False
theorem evTests_one {F : FT} {e : Ex} {env : Env} {st st' : Store} {b : Bool} (h : evTests F [e] env st = .ok b st') : ∃ d, ev F e env st = .ok d st' ∧ truth st' d = some b := by
  have h : (ev F e env st).bind (fun x st1 => match truth st1 x with | some true => R.ok true st1 | some false => .ok false st1 | none => .bad) = .ok b st' := h
  cases hr : ev F e env st with
  | ok d st1 =>
    rw [hr] at h
    have h : (match truth st1 d with | some true => R.ok true st1 | some false => .ok false st1 | none => .bad) = R.ok b st' := h
    split at h
    · cases h; exact ⟨d, rfl, by assumption⟩
    · cases h; exact ⟨d, rfl, by assumption⟩
    · cases h
  | exc => rw [hr] at h; cases h
  | bad => rw [hr] at h; cases h
section
variable {G : GC} {K : PySem.W.Frag} {W : WX} {F : FT}
theorem lc_ok {own : List Nat} {t : Tg} {kk : Ik} {src ifs : List Ex} {elt : Ex} (hs : ∀ j ∈ slotsT t, j ∈ own) (hif : ifs.length ≤ 1) (σ : L2.St) (H : Hp) (Q : VK)
    (h : tE G K W (ev F (.comp own t kk src ifs elt)) σ H Q) : tLc (tI G K W kk (evs F src)) (tG G K t) (tTs G K F ifs) (tE G K W0 (ev F elt)) own σ H Q := by
  obtain ⟨ρ, env, st, rel, q⟩ := h
  have q := Lf.bind (f := fun ds st1 => match srcOf kk ds st1 with
    | some S => evComp S.same st1.length (fun x st2 => match setT t x (wipeE own env) with
        | some env' => (evTests F ifs env' st2).bind fun ok st3 => if ok then (ev F elt env' st3).bind fun d st4 => .ok (some d) st4 else .ok none st3
        | none => .bad) S.items (st1 ++ [.lst []])
    | none => .bad) q
  refine ⟨ρ, env, st, rel, q.imp fun ds st1 ρ1 H1 e1 s1 q1 => ?_⟩
  cases hS : srcOf kk ds st1 with
  | none => rw [hS] at q1; exact q1.elim
  | some S =>
    rw [hS] at q1
    refine ⟨S, rfl, fun J wk D hD => ?_⟩
    generalize hone : (fun x st2 => match setT t x (wipeE own env) with
        | some env' => (evTests F ifs env' st2).bind fun ok st3 => if ok then (ev F elt env' st3).bind fun d st4 => R.ok (some d) st4 else .ok none st3
        | none => .bad) = one at q1
    have q1 : Lf G K (fun c d H' => W c d σ H') ρ1 H1 (evComp S.same st1.length one S.items (st1 ++ [.lst []])) (fun d _ ρ' H' => ∀ v, Rv K ρ' H' d v → Q v H') := q1
    have ea : Ext K ρ1 (ρ1 ++ [D]) H1 (upd H1 D (.lst [])) := Ext.alloc hD
    have sa : Rs G K (ρ1 ++ [D]) (st1 ++ [.lst []]) (upd H1 D (.lst [])) := s1.alloc hD ⟨[], upd_same, .nil⟩
    have hl : (ρ1 ++ [D])[st1.length]? = some D := by rw [← s1.len, List.getElem?_append_right (Nat.le_refl _), Nat.sub_self]; rfl
    refine ⟨fun i m H' => ∃ ρ' st', Ext K ρ1 ρ' H1 H' ∧ ρ'[st1.length]? = some D ∧ Rs G K ρ' st' H' ∧ i + m = S.items.length ∧
        Lf G K (fun c d H' => W c d σ H') ρ' H' (evComp S.same st1.length one (S.items.drop i) st') (fun d _ ρ' H' => ∀ v, Rv K ρ' H' d v → Q v H'),
      ⟨S.items.length, ρ1 ++ [D], st1 ++ [.lst []], ea, hl, sa, Nat.zero_add _, ?_⟩, fun i m H2 hW => ?_⟩
    · rw [List.drop_zero]
      exact q1.ext ea
    · obtain ⟨ρ2, st2, e2, hl2, s2, him, q2⟩ := hW
      by_cases hi : i < S.items.length
      · refine .inr ?_
        rw [List.drop_eq_getElem_cons hi, evComp] at q2
        by_cases hsame : S.same st2 = true
        · rw [if_pos hsame] at q2
          refine ⟨wk.go i ρ2 st2 H2 e2 s2 hsame hi, fun H' => ∃ m', m' < m ∧ ∃ ρ' st', Ext K ρ1 ρ' H1 H' ∧ ρ'[st1.length]? = some D ∧ Rs G K ρ' st' H' ∧ (i + 1) + m' = S.items.length ∧
            Lf G K (fun c d H' => W c d σ H') ρ' H' (evComp S.same st1.length one (S.items.drop (i + 1)) st') (fun d _ ρ' H' => ∀ v, Rv K ρ' H' d v → Q v H'), fun H' hn => hn, fun x H3 hy => ?_⟩
          obtain ⟨d, hd, e3, s3, r3⟩ := wk.yld i ρ2 st2 H2 x H3 e2 s2 hsame hi hy
          rw [List.getElem?_eq_getElem hi] at hd
          have hd : S.items[i] = d := Option.some.inj hd
          rw [hd] at q2
          have q2 := q2.ext e3
          have e13 : Ext K ρ1 ρ2 H1 H3 := e2.trans e3
          rw [← hone] at q2
          cases hset : setT t d (wipeE own env) with
          | none => simp only [hset] at q2; exact q2.elim
          | some env' =>
            simp only [hset] at q2
            rw [hone] at q2
            refine ⟨ρ2, wipeE own env, d, env', ((rel.e.ext e1).ext e13).wipe own, r3, hset, fun σ2 re2 k2 => ⟨?_, ?_⟩⟩
            · refine (wipe_ext ?_ fun j hj => k2 j fun z => hj (hs j z)).trans (wipe_wipe σ own)
              rw [re2.len, setT_len hset, ← (rel.e.wipe own).len]
            · have fin : ∀ (ρ4 : List Addr) (st3 : Store) (H4 : Hp), Ext K ρ2 ρ4 H3 H4 → Rs G K ρ4 st3 H4 →
                  Lf G K (fun c d H' => W c d σ H') ρ4 H4 (compTail st1.length ((ev F elt env' st3).bind fun d st4 => .ok (some d) st4) (evComp S.same st1.length one (S.items.drop (i + 1)))) (fun d _ ρ' H' => ∀ v, Rv K ρ' H' d v → Q v H') →
                  tE G K W0 (ev F elt) σ2 H4 fun y H6 => ∃ acc, H6 D = some (.lst acc) ∧ acc.length < sizeLine ∧ ∃ m', m' < m ∧ ∃ ρ' st', Ext K ρ1 ρ' H1 (upd H6 D (.lst (acc ++ [y]))) ∧ ρ'[st1.length]? = some D ∧ Rs G K ρ' st' (upd H6 D (.lst (acc ++ [y]))) ∧ (i + 1) + m' = S.items.length ∧
                    Lf G K (fun c d H' => W c d σ H') ρ' (upd H6 D (.lst (acc ++ [y]))) (evComp S.same st1.length one (S.items.drop (i + 1)) st') (fun d _ ρ' H' => ∀ v, Rv K ρ' H' d v → Q v H') := by
                intro ρ4 st3 H4 e4 s4 q4
                refine ⟨ρ4, env', st3, ⟨s4, re2.ext e4⟩, ?_⟩
                cases hr : ev F elt env' st3 with
                | bad => rw [hr] at q4; exact q4.elim
                | exc => rw [hr] at q4; exact q4.elim
                | ok y st4 =>
                  rw [hr] at q4
                  intro ρ5 H5 e5 s5 v rv
                  have q4 : Lf G K (fun c d H' => W c d σ H') ρ4 H4 (match st4[st1.length]? with
                    | some (.lst acc) => if acc.length < SZ then evComp S.same st1.length one (S.items.drop (i + 1)) (st4.set st1.length (.lst (acc ++ [y]))) else .bad
                    | _ => .bad) (fun d _ ρ' H' => ∀ v, Rv K ρ' H' d v → Q v H') := q4
                  split at q4
                  · rename_i acc hacc
                    obtain ⟨hz, q4⟩ := of_ite q4
                    have hl5 : ρ5[st1.length]? = some D := pre_get (e4.trans e5).pre hl2
                    obtain ⟨a, g1, vs, g2, g3⟩ := s5.obj _ _ hacc
                    rw [hl5] at g1; cases g1
                    have ew : Ext K ρ5 ρ5 H5 (upd H5 D (.lst (vs ++ [v]))) := Ext.wr g2 trivial
                    exact ⟨vs, g2, by rw [← g3.length, ← sz_eq]; exact hz, m - 1, by omega, ρ5, _, ((e13.trans e4).trans e5).trans ew, hl5,
                      s5.wr (O := .lst (acc ++ [y])) hl5 g2 trivial ⟨_, upd_same, (g3.ext ew).append (.cons (rv.ext ew) .nil)⟩, by omega, q4.ext (e5.trans ew)⟩
                  · exact q4.elim
              match ifs, hif with
              | [], _ =>
                exact fin ρ2 st2 H3 Ext.refl s3 q2
              | [e], _ =>
                refine ⟨ρ2, env', st2, ⟨s3, re2⟩, ?_⟩
                cases hr : ev F e env' st2 with
                | bad =>
                  have ht : evTests F [e] env' st2 = .bad := by rw [evTests, hr]; rfl
                  rw [ht] at q2; exact q2.elim
                | exc cc pp st' =>
                  have ht : evTests F [e] env' st2 = .exc cc pp st' := by rw [evTests, hr]; rfl
                  rw [ht] at q2; exact q2.elim
                | ok z st3 =>
                  intro ρ4 H4 e4 s4
                  cases htr : truth st3 z with
                  | none =>
                    have ht : evTests F [e] env' st2 = .bad := by rw [evTests, hr]; simp only [R.bind, htr]
                    rw [ht] at q2; exact q2.elim
                  | some b =>
                    refine ⟨b, rfl, ?_⟩
                    have ht : evTests F [e] env' st2 = .ok b st3 := by
                      rw [evTests, hr]; simp only [R.bind, htr]
                      cases b <;> rfl
                    rw [ht] at q2
                    cases b with
                    | true =>
                      show (if true = true then _ else _)
                      rw [if_pos rfl]
                      exact fin ρ4 st3 H4 e4 s4 (q2.ext e4)
                    | false =>
                      show (if false = true then _ else _)
                      rw [if_neg Bool.false_ne_true]
                      exact ⟨m - 1, by omega, ρ4, st3, e13.trans e4, pre_get e4.pre hl2, s4, by omega, q2.ext e4⟩
              | _ :: _ :: _, hz => exact absurd hz (by simp)
        · rw [if_neg hsame] at q2; exact q2.elim
      · refine .inl ?_
        rw [List.drop_eq_nil_of_le (Nat.le_of_not_lt hi), evComp] at q2
        by_cases hsame : S.same st2 = true
        · rw [if_pos hsame] at q2
          exact ⟨wk.stop i ρ2 st2 H2 e2 s2 hsame (Nat.le_of_not_lt hi), q2.ok s2 _ (.loc hl2)⟩
        · rw [if_neg hsame] at q2; exact q2.elim
end
end Z

set_option autoImplicit false
set_option maxHeartbeats 2000000
namespace Z
open PySem PySem.Spec PyProof.Rows L2

section
variable {G : GC} {P : List Fd} {k : Nat} {X : Cx} {c : Cc} {W : WX} {F : FT}
theorem XG.blk (g : XG G P k X c) {s : Shared} {H : Hp} {scope : Scope} {cl : List (Str × Addr)} {C : Addr} {fp : List Addr} : XG G P k (X.blk s H scope (compEnvC scope cl C X.env) fp) (c.blk scope) where
  N := g.N
  nd := g.nd
  sc := by
    show relS scope X.env.scope = relS scope c.sc
    rw [g.sc]
  calm := g.calm
  fn := .inr ⟨rfl, fun _ => rfl⟩
  room := g.room
  po := PassesOwn.never
  blt := g.blt
  fns := g.fns
  co := g.co
theorem bl_of (g : XG G P k X c) {x : Str} (h : c.bl x = true) : Gl X x ∧ X.mg x = none ∧ okName x = true := by
  unfold Cc.bl at h
  rw [Bool.and_eq_true, Bool.and_eq_true] at h
  exact ⟨gl_of g h.1.1, g.blt x h.1.2, h.2⟩
theorem plain_of {n : Nat} {e : Expr} {m : Ex} (h : trE n c e = some m) : plain e = true := by
  cases n with
  | zero => cases h
  | succ n => cases e <;> first | rfl | (unfold trE at h; cases h)

/-! ### readings of the machine's parts -/
theorem var_ok {i : Nat} (σ : L2.St) (H : Hp) (Q : VK) (h : tE G X.K W (ev F (.v i)) σ H Q) : tVar i σ H Q := by
  obtain ⟨ρ, env, st, rel, q⟩ := h
  have q : Lf G X.K (fun c d H' => W c d σ H') ρ H (match env[i]? with | some (some d) => .ok d st | _ => .bad) (Val1 X.K Q) := q
  split at q
  · rename_i d hd
    obtain ⟨v, hv, rv⟩ := rel.e.at_ i d hd
    exact ⟨v, hv, okv q rel.s rv⟩
  · exact q.elim
theorem cst_ok {d : D} {v : V} (hv : ∀ ρ H, Rv X.K ρ H d v) (σ : L2.St) (H : Hp) (Q : VK) (h : tE G X.K W (ev F (.c d)) σ H Q) : tC v σ H Q := by
  obtain ⟨ρ, env, st, rel, q⟩ := h
  exact okv q rel.s (hv ρ H)
theorem not_ok (a : Ex) (σ : L2.St) (H : Hp) (Q : VK) (h : tE G X.K W (ev F (.not a)) σ H Q) : tNotT X.K (tE G X.K W (ev F a)) σ H Q := by
  obtain ⟨ρ, env, st, rel, q⟩ := h
  have q := Lf.bind (f := fun x st1 => match truth st1 x with | some k => R.ok (D.bl (!k)) st1 | none => .bad) q
  refine ⟨ρ, env, st, rel, q.imp fun d st1 ρ1 H1 e1 s1 q1 v rv => ?_⟩
  cases ht : truth st1 d with
  | none => rw [ht] at q1; exact q1.elim
  | some b => rw [ht] at q1; exact ⟨b, truV_of s1 rv ht, okv q1 s1 (.bl _)⟩
theorem notT_ok (a : Ex) (σ : L2.St) (H : Hp) (Q : Bool → Hp → Prop) (h : tT G X.K W (ev F (.not a)) σ H Q) : tNot (tT G X.K W (ev F a)) σ H Q := by
  obtain ⟨ρ, env, st, rel, q⟩ := h
  have q := Lf.bind (f := fun x st1 => match truth st1 x with | some k => R.ok (D.bl (!k)) st1 | none => .bad) q
  refine ⟨ρ, env, st, rel, q.imp fun d st1 ρ1 H1 e1 s1 q1 => ?_⟩
  cases ht : truth st1 d with
  | none => rw [ht] at q1; exact q1.elim
  | some b =>
    rw [ht] at q1
    obtain ⟨k, hk, q1⟩ := q1.ok s1
    cases hk
    exact ⟨b, rfl, q1⟩
theorem and_ok (a b : Ex) (σ : L2.St) (H : Hp) (Q : VK) (h : tE G X.K W (ev F (.and a b)) σ H Q) : tAndT X.K (tE G X.K W (ev F a)) (tE G X.K W (ev F b)) σ H Q := by
  obtain ⟨ρ, env, st, rel, q⟩ := h
  have q := Lf.bind (f := fun x st1 => match truth st1 x with | some true => ev F b env st1 | some false => .ok x st1 | none => .bad) q
  refine ⟨ρ, env, st, rel, q.imp fun d st1 ρ1 H1 e1 s1 q1 v rv => ?_⟩
  cases ht : truth st1 d with
  | none => rw [ht] at q1; exact q1.elim
  | some k =>
    rw [ht] at q1
    refine ⟨k, truV_of s1 rv ht, ?_⟩
    cases k with
    | true => rw [if_pos rfl]; exact ⟨ρ1, env, st1, ⟨s1, rel.e.ext e1⟩, q1⟩
    | false => rw [if_neg Bool.false_ne_true]; exact okv q1 s1 rv
theorem or_ok (a b : Ex) (σ : L2.St) (H : Hp) (Q : VK) (h : tE G X.K W (ev F (.or a b)) σ H Q) : tOrT X.K (tE G X.K W (ev F a)) (tE G X.K W (ev F b)) σ H Q := by
  obtain ⟨ρ, env, st, rel, q⟩ := h
  have q := Lf.bind (f := fun x st1 => match truth st1 x with | some true => .ok x st1 | some false => ev F b env st1 | none => .bad) q
  refine ⟨ρ, env, st, rel, q.imp fun d st1 ρ1 H1 e1 s1 q1 v rv => ?_⟩
  cases ht : truth st1 d with
  | none => rw [ht] at q1; exact q1.elim
  | some k =>
    rw [ht] at q1
    refine ⟨k, truV_of s1 rv ht, ?_⟩
    cases k with
    | true => rw [if_pos rfl]; exact okv q1 s1 rv
    | false => rw [if_neg Bool.false_ne_true]; exact ⟨ρ1, env, st1, ⟨s1, rel.e.ext e1⟩, q1⟩
theorem andT_ok (a b : Ex) (σ : L2.St) (H : Hp) (Q : Bool → Hp → Prop) (h : tT G X.K W (ev F (.and a b)) σ H Q) : tAnd (tT G X.K W (ev F a)) (tT G X.K W (ev F b)) σ H Q := by
  obtain ⟨ρ, env, st, rel, q⟩ := h
  have q := Lf.bind (f := fun x st1 => match truth st1 x with | some true => ev F b env st1 | some false => .ok x st1 | none => .bad) q
  refine ⟨ρ, env, st, rel, q.imp fun d st1 ρ1 H1 e1 s1 q1 => ?_⟩
  cases ht : truth st1 d with
  | none => rw [ht] at q1; exact q1.elim
  | some k =>
    rw [ht] at q1
    refine ⟨k, rfl, ?_⟩
    cases k with
    | true => rw [if_pos rfl]; exact ⟨ρ1, env, st1, ⟨s1, rel.e.ext e1⟩, q1⟩
    | false =>
      rw [if_neg Bool.false_ne_true]
      obtain ⟨k, hk, q1⟩ := q1.ok s1
      rw [ht] at hk; cases hk
      exact q1
theorem orT_ok (a b : Ex) (σ : L2.St) (H : Hp) (Q : Bool → Hp → Prop) (h : tT G X.K W (ev F (.or a b)) σ H Q) : tOr (tT G X.K W (ev F a)) (tT G X.K W (ev F b)) σ H Q := by
  obtain ⟨ρ, env, st, rel, q⟩ := h
  have q := Lf.bind (f := fun x st1 => match truth st1 x with | some true => .ok x st1 | some false => ev F b env st1 | none => .bad) q
  refine ⟨ρ, env, st, rel, q.imp fun d st1 ρ1 H1 e1 s1 q1 => ?_⟩
  cases ht : truth st1 d with
  | none => rw [ht] at q1; exact q1.elim
  | some k =>
    rw [ht] at q1
    refine ⟨k, rfl, ?_⟩
    cases k with
    | true =>
      rw [if_pos rfl]
      obtain ⟨k, hk, q1⟩ := q1.ok s1
      rw [ht] at hk; cases hk
      exact q1
    | false => rw [if_neg Bool.false_ne_true]; exact ⟨ρ1, env, st1, ⟨s1, rel.e.ext e1⟩, q1⟩
theorem ifx_ok (t a b : Ex) (σ : L2.St) (H : Hp) (Q : VK) (h : tE G X.K W (ev F (.ifx t a b)) σ H Q) : tIf (tT G X.K W (ev F t)) (tE G X.K W (ev F a)) (tE G X.K W (ev F b)) σ H Q := by
  obtain ⟨ρ, env, st, rel, q⟩ := h
  have q := Lf.bind (f := fun x st1 => match truth st1 x with | some true => ev F a env st1 | some false => ev F b env st1 | none => .bad) q
  refine ⟨ρ, env, st, rel, q.imp fun d st1 ρ1 H1 e1 s1 q1 => ?_⟩
  cases ht : truth st1 d with
  | none => rw [ht] at q1; exact q1.elim
  | some k =>
    rw [ht] at q1
    refine ⟨k, rfl, ?_⟩
    cases k with
    | true => rw [if_pos rfl]; exact ⟨ρ1, env, st1, ⟨s1, rel.e.ext e1⟩, q1⟩
    | false => rw [if_neg Bool.false_ne_true]; exact ⟨ρ1, env, st1, ⟨s1, rel.e.ext e1⟩, q1⟩
theorem ifxT_ok (t a b : Ex) (σ : L2.St) (H : Hp) (Q : Bool → Hp → Prop) (h : tT G X.K W (ev F (.ifx t a b)) σ H Q) : tT G X.K W (ev F t) σ H fun k H1 => if k = true then tT G X.K W (ev F a) σ H1 Q else tT G X.K W (ev F b) σ H1 Q := by
  obtain ⟨ρ, env, st, rel, q⟩ := h
  have q := Lf.bind (f := fun x st1 => match truth st1 x with | some true => ev F a env st1 | some false => ev F b env st1 | none => .bad) q
  refine ⟨ρ, env, st, rel, q.imp fun d st1 ρ1 H1 e1 s1 q1 => ?_⟩
  cases ht : truth st1 d with
  | none => rw [ht] at q1; exact q1.elim
  | some k =>
    rw [ht] at q1
    refine ⟨k, rfl, ?_⟩
    cases k with
    | true => rw [if_pos rfl]; exact ⟨ρ1, env, st1, ⟨s1, rel.e.ext e1⟩, q1⟩
    | false => rw [if_neg Bool.false_ne_true]; exact ⟨ρ1, env, st1, ⟨s1, rel.e.ext e1⟩, q1⟩
theorem pt_ifExp {t a b : Expr} {pos : Pos} {tt ta tb : TT} (hc : PT X t tt) (ha : PT X a ta) (hb : PT X b tb) : PT X (.IfExp t a b pos) fun σ H Q => tt σ H fun k H1 => if k = true then ta σ H1 Q else tb σ H1 Q := by
  refine ⟨fun pins s σ H Q I h => ?_⟩
  show wpAny _ _ (do if ← isTrue t X.env (eval t X.env) then isTrue a X.env (eval a X.env) else isTrue b X.env (eval b X.env)) _ _ _
  refine wpAny_bind (thn (hc.run pins s σ H _ I h) fun d s1 ⟨H1, I1, q1⟩ => ?_)
  cases d with
  | true => exact ha.run pins s1 σ H1 Q I1 q1
  | false => exact hb.run pins s1 σ H1 Q I1 q1
theorem pw_bool {op : BoolOp} {vs : List Expr} {pos : Pos} {t : TT} (h : PT X (.BoolOp op vs pos) t) : PW X (.BoolOp op vs pos) t := ⟨fun wh pins s σ H Q I q => h.run pins s σ H Q I q⟩

/-! ### slices -/
def slArgs (a : Ex) (lo hi : Option Ex) : List Ex := match lo, hi with
  | none, none => [a]
  | some l, none => [a, l]
  | none, some h => [a, h]
  | some l, some h => [a, .op .asInt [l], h]
theorem sl_ok (a : Ex) (lo hi : Option Ex) (σ : L2.St) (H : Hp) (Q : VK) (h : tE G X.K W (ev F (.op (.sl lo.isSome hi.isSome) (slArgs a lo hi))) σ H Q) :
    tSl (rSlZ X.K) (tE G X.K W (ev F a)) (match lo with | none => tNoPart | some l => tPart (tE G X.K W (ev F l))) (match hi with | none => tNoPart | some l => tPart (tE G X.K W (ev F l))) σ H Q := by
  obtain ⟨ρ, env, st, rel, q⟩ := h
  match lo, hi with
  | none, none =>
    have q : Lf G X.K (fun c d H' => W c d σ H') ρ H (((ev F a env st).bind fun d st1 => R.ok [d] st1).bind fun ds st1 => opSem (.sl false false) ds st1) (Val1 X.K Q) := q
    refine ⟨ρ, env, st, rel, q.bind.bind.imp fun d st1 ρ1 H1 e1 s1 q1 x rx => ?_⟩
    exact od_sl s1 rx (q1.ok s1)
  | some l, none =>
    have q : Lf G X.K (fun c d H' => W c d σ H') ρ H (((ev F a env st).bind fun d st1 => ((ev F l env st1).bind fun e st2 => R.ok [e] st2).bind fun ds st2 => R.ok (d :: ds) st2).bind fun ds st1 => opSem (.sl true false) ds st1) (Val1 X.K Q) := q
    refine ⟨ρ, env, st, rel, q.bind.bind.imp fun d st1 ρ1 H1 e1 s1 q1 x rx => ?_⟩
    refine ⟨ρ1, env, st1, ⟨s1, rel.e.ext e1⟩, q1.bind.bind.imp fun e st2 ρ2 H2 e2 s2 q2 y ry => ?_⟩
    have q2 := (q2.ok s2).ok s2
    cases ry with
    | int i => exact ⟨i, rfl, od_sl s2 (rx.ext e2) q2⟩
    | _ => exact q2.elim
  | none, some l =>
    have q : Lf G X.K (fun c d H' => W c d σ H') ρ H (((ev F a env st).bind fun d st1 => ((ev F l env st1).bind fun e st2 => R.ok [e] st2).bind fun ds st2 => R.ok (d :: ds) st2).bind fun ds st1 => opSem (.sl false true) ds st1) (Val1 X.K Q) := q
    refine ⟨ρ, env, st, rel, q.bind.bind.imp fun d st1 ρ1 H1 e1 s1 q1 x rx => ?_⟩
    refine ⟨ρ1, env, st1, ⟨s1, rel.e.ext e1⟩, q1.bind.bind.imp fun e st2 ρ2 H2 e2 s2 q2 y ry => ?_⟩
    have q2 := (q2.ok s2).ok s2
    cases ry with
    | int i => exact ⟨i, rfl, od_sl s2 (rx.ext e2) q2⟩
    | _ => exact q2.elim
  | some l, some m =>
    have q : Lf G X.K (fun c d H' => W c d σ H') ρ H (((ev F a env st).bind fun d st1 => ((((ev F l env st1).bind fun e st2 => R.ok [e] st2).bind fun ds st2 => opSem .asInt ds st2).bind fun e st2 => ((ev F m env st2).bind fun f st3 => R.ok [f] st3).bind fun ds st3 => R.ok (e :: ds) st3).bind fun ds st2 => R.ok (d :: ds) st2).bind fun ds st1 => opSem (.sl true true) ds st1) (Val1 X.K Q) := q
    refine ⟨ρ, env, st, rel, q.bind.bind.imp fun d st1 ρ1 H1 e1 s1 q1 x rx => ?_⟩
    refine ⟨ρ1, env, st1, ⟨s1, rel.e.ext e1⟩, q1.bind.bind.bind.bind.imp fun e st2 ρ2 H2 e2 s2 q2 y ry => ?_⟩
    have q2 := q2.ok s2
    cases ry with
    | int i =>
      refine ⟨i, rfl, ρ2, env, st2, ⟨s2, rel.e.ext (e1.trans e2)⟩, ((q2.ok s2).bind.bind).imp fun f st3 ρ3 H3 e3 s3 q4 z rz => ?_⟩
      have q4 := ((q4.ok s3).ok s3).ok s3
      cases rz with
      | int j => exact ⟨j, rfl, od_sl s3 (rx.ext (e2.trans e3)) q4⟩
      | _ => exact q4.elim
    | _ => exact q2.elim

/-! ### calls -/
theorem evs_app {es : List Ex} {ds : List D} {env : Env} : ∀ {st : Store}, evs F (es ++ ds.map Ex.c) env st = (evs F es env st).bind fun xs st1 => .ok (xs ++ ds) st1 := by
  induction es with
  | nil =>
    intro st
    show evs F (ds.map Ex.c) env st = .ok ds st
    induction ds with
    | nil => rfl
    | cons d ds ih =>
      show (evs F (ds.map Ex.c) env st).bind (fun xs st2 => R.ok (d :: xs) st2) = _
      rw [ih]; rfl
  | cons e es ih =>
    intro st
    show (ev F e env st).bind (fun d st1 => (evs F (es ++ ds.map Ex.c) env st1).bind fun xs st2 => R.ok (d :: xs) st2) = ((ev F e env st).bind fun d st1 => (evs F es env st1).bind fun xs st2 => R.ok (d :: xs) st2).bind fun xs st1 => .ok (xs ++ ds) st1
    cases ev F e env st with
    | ok d st1 =>
      show (evs F (es ++ ds.map Ex.c) env st1).bind _ = ((evs F es env st1).bind _).bind _
      rw [ih]
      cases evs F es env st1 <;> rfl
    | exc => rfl
    | bad => rfl
theorem call_ok {f : Nat} {es : List Ex} {ds : List D} {vs : List V} (hv : ∀ ρ H, Rvs X.K ρ H ds vs) (σ : L2.St) (H : Hp) (Q : VK) (h : tE G X.K W (ev (run P k) (.call f (es ++ ds.map Ex.c))) σ H Q) :
    tCallSD (spF G X.K P k f) vs (WE W) (tA G X.K W (evs (run P k) es)) σ H Q := by
  obtain ⟨ρ, env, st, rel, q⟩ := h
  have q : Lf G X.K (fun c d H' => W c d σ H') ρ H ((evs (run P k) (es ++ ds.map Ex.c) env st).bind fun xs st1 => run P k f xs st1) (Val1 X.K Q) := q
  rw [evs_app] at q
  refine ⟨ρ, env, st, rel, q.bind.bind.imp fun xs st1 ρ1 H1 e1 s1 q1 us rus => ?_⟩
  exact ⟨ρ1, st1, xs ++ ds, s1, rus.append (hv ρ1 H1), q1.ok s1⟩
end

section
variable {G : GC} {P : List Fd} {k : Nat}
theorem cmp_bl {op : CmpOp} {o : Op} (ho : opCmp op = some o) : ∀ d e st z st', opSem o [d, e] st = .ok z st' → ∃ k, z = .bl k := by
  intro d e st z st' h
  cases op <;> first | (cases ho; done) | skip
  all_goals cases ho
  · have h : (match eqSem d e st with | some k => R.ok (D.bl k) st | none => .bad) = .ok z st' := h
    split at h <;> cases h
    exact ⟨_, rfl⟩
  · have h : (match eqSem d e st with | some k => R.ok (D.bl (!k)) st | none => .bad) = .ok z st' := h
    split at h <;> cases h
    exact ⟨_, rfl⟩
  all_goals (cases d <;> cases e <;> cases h <;> exact ⟨_, rfl⟩)
theorem tyOf_boot {y : Str} {t : Ty} (h : tyOf y = some t) : bootBuiltins y = some (.type (tyName t)) := by
  unfold tyOf at h
  split at h
  · rename_i e
    cases h
    rw [show y = "int" by simpa using e]; decide +kernel
  · split at h
    · rename_i e
      cases h
      rw [show y = "bool" by simpa using e]; decide +kernel
    · split at h
      · rename_i e
        cases h
        rw [show y = "str" by simpa using e]; decide +kernel
      · split at h
        · rename_i e
          cases h
          rw [show y = "list" by simpa using e]; decide +kernel
        · split at h
          · rename_i e
            cases h
            rw [show y = "tuple" by simpa using e]; decide +kernel
          · cases h
theorem fold_plain {e : Expr} {env : PySem.Env} (h : plain e = true) : ∀ x, foldedSetIterable e env x = pure x := by
  intro x
  cases e <;> first | rfl | (cases h)
theorem str_eta (x : Str) : (⟨x.cps.toList.toArray⟩ : Str) = x := by cases x; simp
def SProp (G : GC) (P : List Fd) (k n : Nat) : Prop :=
    (∀ (X : Cx) (c : Cc) (e : Expr) (m : Ex) (W : WX), XG G P k X c → Takes X W → trE n c e = some m → PE X e (tE G X.K W (ev (run P k) m)) ∧ PT X e (tT G X.K W (ev (run P k) m))) ∧
    (∀ (X : Cx) (c : Cc) (es : List Expr) (ms : List Ex) (W : WX), XG G P k X c → Takes X W → es.all plain = true → trEs n c es = some ms → PA X es (tA G X.K W (evs (run P k) ms)) ∧ ms.length = es.length ∧ ∀ e m, es = [e] → ms = [m] → PT X e (tT G X.K W (ev (run P k) m))) ∧
    (∀ (X : Cx) (c : Cc) (tg e : Expr) (kk : Ik) (ms : List Ex) (W : WX), XG G P k X c → Takes X W → trIt n c e = some (kk, ms) → PI X tg e (tI G X.K W kk (evs (run P k) ms)))
theorem lc_parts {n : Nat} (ih : SProp G P k n) {X : Cx} {c : Cc} {elt : Expr} {gs : List Comprehension} {scope : Scope} {pos : Pos} {m : Ex} {W : WX} (g : XG G P k X c) (tk : Takes X W) (h : trE (n + 1) c (.ListComp elt gs scope pos) = some m) :
    ∃ (t iter : Expr) (ifs : List Expr) (own : List (Str × Nat)) (wi : TI) (tg : TG) (tt : TT) (te : TE), gs = [⟨t, iter, ifs, 0⟩] ∧ PI X t iter wi ∧ BlkOk X.N X.env.scope scope own ∧
      (∀ (s : Shared) (H : Hp) (C : Addr) (cl : List (Str × Addr)) (fp : List Addr), PG (X.blk s H scope (compEnvC scope cl C X.env) fp) t tg) ∧
      (∀ (s : Shared) (H : Hp) (C : Addr) (cl : List (Str × Addr)) (fp : List Addr), PTs (X.blk s H scope (compEnvC scope cl C X.env) fp) ifs tt) ∧
      (∀ (s : Shared) (H : Hp) (C : Addr) (cl : List (Str × Addr)) (fp : List Addr), PE (X.blk s H scope (compEnvC scope cl C X.env) fp) elt te) ∧
      (∀ x, foldedSetIterable iter X.env x = pure x) ∧ ∀ σ H Q, tE G X.K W (ev (run P k) m) σ H Q → tLc wi tg tt te (own.map (·.2)) σ H Q := by
  obtain ⟨ih1, ih2, ih3⟩ := ih
  have h : (match (generalizing := false) gs with
      | [⟨t, iter, ifs, 0⟩] => if blkC c.N c.sc scope (ownOf c.N scope.names) && plain iter then
          (match trTg (c.blk scope) n t, trIt n c iter, trEs n (c.blk scope) ifs, trE n (c.blk scope) elt with
          | some mt, some (k, src), some mi, some me => if (slotsT mt).all (((ownOf c.N scope.names).map (·.2)).contains ·) && decide (mi.length ≤ 1) then some (.comp ((ownOf c.N scope.names).map (·.2)) mt k src mi me) else none
          | _, _, _, _ => none) else none
      | _ => none) = some m := h
  split at h
  · rename_i t iter ifs _
    split at h
    · rename_i hc
      rw [Bool.and_eq_true] at hc
      split at h
      · rename_i mt kk src mi me ht hi hif he
        split at h
        · rename_i hs
          cases h
          rw [Bool.and_eq_true, List.all_eq_true, decide_eq_true_eq] at hs
          obtain ⟨q1, q2, q3⟩ : (∀ (s : Shared) (H : Hp) (C : Addr) (cl : List (Str × Addr)) (fp : List Addr), PTs (X.blk s H scope (compEnvC scope cl C X.env) fp) ifs (tTs G X.K (run P k) mi)) ∧ True ∧ True := by
            refine ⟨fun s H C cl fp => ?_, trivial, trivial⟩
            match ifs, mi, hs.2, hif with
            | [], mi, hz, hif =>
              cases n with
              | zero => cases hif
              | succ n => cases hif; exact pts_nil
            | [e], mi, hz, hif =>
              have hpe : [e].all plain = true := by
                cases n with
                | zero => cases hif
                | succ n =>
                  have hif : (match trE n (c.blk scope) e, trEs n (c.blk scope) [] with | some a, some b => some (a :: b) | _, _ => none) = some mi := hif
                  split at hif
                  · rename_i a b ha hb
                    rw [List.all_cons, plain_of ha]; rfl
                  · cases hif
              obtain ⟨_, p2, p3⟩ := ih2 _ (c.blk scope) [e] mi W0 (g.blk (s := s) (H := H) (scope := scope) (cl := cl) (C := C) (fp := fp)) takes0 hpe hif
              match mi, p2 with
              | [m], _ => exact pts_one (p3 e m rfl rfl)
            | e1 :: e2 :: r, mi, hz, hif =>
              exfalso
              cases n with
              | zero => cases hif
              | succ n =>
                have hif : (match trE n (c.blk scope) e1, trEs n (c.blk scope) (e2 :: r) with | some a, some b => some (a :: b) | _, _ => none) = some mi := hif
                split at hif
                · rename_i a b ha hb
                  cases hif
                  cases n with
                  | zero => cases hb
                  | succ n =>
                    have hb : (match trE n (c.blk scope) e2, trEs n (c.blk scope) r with | some a, some b => some (a :: b) | _, _ => none) = some b := hb
                    split at hb
                    · cases hb
                      simp at hz
                    · cases hb
                · cases hif
          exact ⟨t, iter, ifs, ownOf c.N scope.names, _, _, _, _, rfl, ih3 X c t iter kk src W g tk hi, by rw [g.N, g.sc]; exact blkOk_by hc.1,
          fun s H C cl fp => (trTg_ok n).1 _ (c.blk scope) t mt (g.blk (s := s) (H := H) (scope := scope) (cl := cl) (C := C) (fp := fp)) ht, q1,
          fun s H C cl fp => (ih1 _ (c.blk scope) elt me W0 (g.blk (s := s) (H := H) (scope := scope) (cl := cl) (C := C) (fp := fp)) takes0 he).1, fold_plain hc.2, fun σ H Q => lc_ok (fun j hj => by simpa using hs.1 j hj) hs.2 σ H Q⟩
        · cases h
      · cases h
    · cases h
  · cases h
theorem sound : ∀ n : Nat, SProp G P k n
  | 0 => ⟨fun X c e m W g tk h => (by cases h), fun X c es ms W g tk hp h => (by cases h), fun X c tg e kk ms W g tk h => (by cases h)⟩
  | n + 1 => by
    have ihn := sound n
    obtain ⟨ih1, ih2, ih3⟩ := id ihn
    refine ⟨fun X c e m W g tk h => ?_, fun X c es ms W g tk hp h => ?_, fun X c tg e kk ms W g tk h => ?_⟩
    · have hu : X.A.units + 64 < cLine := g.room.units
      unfold trE at h
      split at h
      · -- a name
        rename_i x pos
        split at h
        · rename_i hok
          split at h
          · rename_i hv
            cases hs : slotOf c.N x with
            | none => rw [hs] at h; cases h
            | some i =>
              rw [hs] at h; cases h
              have p : PE X (.Name x pos) (tE G X.K W (ev (run P k) (.v i))) := PE.imp (pe_var (i := i) (by rw [g.N]; exact slotOf_get hs) (vis_of g hv) (okName_dbg hok) (okName_cd hok)) fun σ H Q => var_ok σ H Q
              exact ⟨p, tT_of p fun _ => rfl⟩
          · split at h
            · rename_i hgl
              cases hs : c.co.lookup x with
              | none => rw [hs] at h; cases h
              | some d =>
                rw [hs] at h; cases h
                obtain ⟨u, hm, v, r, hv⟩ := g.co x d hs
                have p : PE X (.Name x pos) (tE G X.K W (ev (run P k) (.c d))) := PE.imp (pe_glob (gl_of g hgl) hm r (okName_dbg hok)) fun σ H Q => cst_ok hv σ H Q
                exact ⟨p, tT_of p fun _ => rfl⟩
            · cases h
        · cases h
      · -- a constant
        rename_i kc j pos
        cases kc with
        | none =>
          cases h
          have p : PE X (.Constant .none j pos) (tE G X.K W (ev (run P k) (.c .non))) := PE.imp pe_non fun σ H Q => cst_ok (fun _ _ => .non) σ H Q
          exact ⟨p, tT_of p fun _ => rfl⟩
        | bool b =>
          cases h
          have p : PE X (.Constant (.bool b) j pos) (tE G X.K W (ev (run P k) (.c (.bl b)))) := PE.imp pe_bl fun σ H Q => cst_ok (fun _ _ => .bl b) σ H Q
          exact ⟨p, tT_of p fun _ => rfl⟩
        | int i =>
          cases h
          have p : PE X (.Constant (.int i) j pos) (tE G X.K W (ev (run P k) (.c (.int i)))) := PE.imp pe_int fun σ H Q => cst_ok (fun _ _ => .int i) σ H Q
          exact ⟨p, tT_of p fun _ => rfl⟩
        | str s =>
          cases h
          have p : PE X (.Constant (.str s) j pos) (tE G X.K W (ev (run P k) (.c (.str s.cps.toList)))) := PE.imp pe_str fun σ H Q => cst_ok (fun ρ H => by
            have r : Rv X.K ρ H (.str s.cps.toList) (.str ⟨s.cps.toList.toArray⟩) := .str _
            rw [str_eta] at r
            exact r) σ H Q
          exact ⟨p, tT_of p fun _ => rfl⟩
        | _ => cases h
      · -- a op b
        rename_i a op b pos
        split at h
        · rename_i o ma mb ho ha hb
          cases h
          have pa := (ih1 X c a ma W g tk ha).1
          have pb := (ih1 X c b mb W g tk hb).1
          have p : PE X (.BinOp a op b pos) (tE G X.K W (ev (run P k) (.op o [ma, mb]))) := by
            cases op <;> first | (cases ho; done) | skip
            all_goals cases ho
            · exact PE.imp (pe_op op_addZ pa pb) fun σ H Q => bin_ok (f := binaryOp .Add) od_add ma mb σ H Q
            · exact PE.imp (pe_op op_subZ pa pb) fun σ H Q => bin_ok (f := binaryOp .Sub) od_sub ma mb σ H Q
            · exact PE.imp (pe_op op_mul pa pb) fun σ H Q => bin_ok (f := binaryOp .Mult) od_mul ma mb σ H Q
            · exact PE.imp (pe_op op_mod pa pb) fun σ H Q => bin_ok (f := binaryOp .Mod) od_mod ma mb σ H Q
            · exact PE.imp (pe_op op_pow pa pb) fun σ H Q => bin_ok (f := binaryOp .Pow) od_pow ma mb σ H Q
            · exact PE.imp (pe_op op_fdiv pa pb) fun σ H Q => bin_ok (f := binaryOp .FloorDiv) od_fdiv ma mb σ H Q
          exact ⟨p, tT_of p fun _ => rfl⟩
        · cases h
      · -- op a
        rename_i op a pos
        split at h
        · rename_i ma ha
          cases h
          have pa := (ih1 X c a ma W g tk ha).1
          have p : PE X (.UnaryOp .USub a pos) (tE G X.K W (ev (run P k) (.op .neg [ma]))) := PE.imp (pe_un un_neg pa) fun σ H Q => un_ok (o := .neg) (fun W ρ st H d x Q s r h => by
            cases r with
            | int i => exact ⟨i, rfl, okv h s (.int _)⟩
            | _ => exact h.elim) ma σ H Q
          exact ⟨p, tT_of p fun _ => rfl⟩
        · rename_i ma ha
          cases h
          obtain ⟨pa, qa⟩ := ih1 X c a ma W g tk ha
          exact ⟨PE.imp (pe_notT pa) fun σ H Q => not_ok ma σ H Q, PT.imp (pt_not qa) fun σ H Q => notT_ok ma σ H Q⟩
        · cases h
      · -- and, or
        rename_i op vs pos
        split at h
        · cases h
        · rename_i a
          obtain ⟨pa, qa⟩ := ih1 X c a m W g tk h
          refine ⟨pe_one pa, ?_⟩
          cases op with
          | And => exact (pw_and1 qa).pt
          | Or => exact (pw_or1 qa).pt
        · rename_i a b r
          split at h
          · rename_i ma mb ha hb
            cases h
            obtain ⟨pa, qa⟩ := ih1 X c a ma W g tk ha
            obtain ⟨pb, qb⟩ := ih1 X c _ mb W g tk hb
            exact ⟨PE.imp (pe_andT pa pb) fun σ H Q => and_ok ma mb σ H Q, PT.imp (pw_and qa (pw_bool qb)).pt fun σ H Q => andT_ok ma mb σ H Q⟩
          · rename_i ma mb ha hb
            cases h
            obtain ⟨pa, qa⟩ := ih1 X c a ma W g tk ha
            obtain ⟨pb, qb⟩ := ih1 X c _ mb W g tk hb
            exact ⟨PE.imp (pe_orT pa pb) fun σ H Q => or_ok ma mb σ H Q, PT.imp (pw_or qa (pw_bool qb)).pt fun σ H Q => orT_ok ma mb σ H Q⟩
          · cases h
      · -- a comparison
        rename_i a ops bs pos
        split at h
        · rename_i op b
          split at h
          · rename_i o ma mb ho ha hb
            cases h
            have pa := (ih1 X c a ma W g tk ha).1
            have pb := (ih1 X c b mb W g tk hb).1
            have hm := nomark_plain (op := op) (plain_of hb)
            have hbl : ∀ d e st z st', opSem o [d, e] st = .ok z st' → ∃ k, z = .bl k := cmp_bl ho
            cases op <;> first | (cases ho; done) | skip
            all_goals cases ho
            · exact ⟨PE.imp (pe_cmpR (op_eqZ hu) pa pb hm) fun σ H Q => bin_ok (f := compareOp .Eq) od_eq ma mb σ H Q, PT.imp (pt_cmpR (op_eqZ hu) pa pb hm) fun σ H Q => tT_bin od_eq ma mb σ H Q hbl⟩
            · exact ⟨PE.imp (pe_cmpR (op_neZ hu) pa pb hm) fun σ H Q => bin_ok (f := compareOp .NotEq) od_ne ma mb σ H Q, PT.imp (pt_cmpR (op_neZ hu) pa pb hm) fun σ H Q => tT_bin od_ne ma mb σ H Q hbl⟩
            · exact ⟨PE.imp (pe_cmpR (op_cmpZ rfl (.inl rfl)) pa pb hm) fun σ H Q => bin_ok (f := compareOp .Lt) (od_cmp (.inl rfl)) ma mb σ H Q, PT.imp (pt_cmpR (op_cmpZ rfl (.inl rfl)) pa pb hm) fun σ H Q => tT_bin (od_cmp (.inl rfl)) ma mb σ H Q hbl⟩
            · exact ⟨PE.imp (pe_cmpR (op_cmpZ rfl (.inr (.inl rfl))) pa pb hm) fun σ H Q => bin_ok (f := compareOp .LtE) (od_cmp (.inr (.inl rfl))) ma mb σ H Q, PT.imp (pt_cmpR (op_cmpZ rfl (.inr (.inl rfl))) pa pb hm) fun σ H Q => tT_bin (od_cmp (.inr (.inl rfl))) ma mb σ H Q hbl⟩
            · exact ⟨PE.imp (pe_cmpR (op_cmpZ rfl (.inr (.inr (.inl rfl)))) pa pb hm) fun σ H Q => bin_ok (f := compareOp .Gt) (od_cmp (.inr (.inr (.inl rfl)))) ma mb σ H Q, PT.imp (pt_cmpR (op_cmpZ rfl (.inr (.inr (.inl rfl)))) pa pb hm) fun σ H Q => tT_bin (od_cmp (.inr (.inr (.inl rfl)))) ma mb σ H Q hbl⟩
            · exact ⟨PE.imp (pe_cmpR (op_cmpZ rfl (.inr (.inr (.inr rfl)))) pa pb hm) fun σ H Q => bin_ok (f := compareOp .GtE) (od_cmp (.inr (.inr (.inr rfl)))) ma mb σ H Q, PT.imp (pt_cmpR (op_cmpZ rfl (.inr (.inr (.inr rfl)))) pa pb hm) fun σ H Q => tT_bin (od_cmp (.inr (.inr (.inr rfl)))) ma mb σ H Q hbl⟩
            · exact ⟨PE.imp (pe_cmpR op_isZ pa pb hm) fun σ H Q => bin_ok (f := compareOp .Is) od_is ma mb σ H Q, PT.imp (pt_cmpR op_isZ pa pb hm) fun σ H Q => tT_bin od_is ma mb σ H Q hbl⟩
            · exact ⟨PE.imp (pe_cmpR op_isnotZ pa pb hm) fun σ H Q => bin_ok (f := compareOp .IsNot) od_isnot ma mb σ H Q, PT.imp (pt_cmpR op_isnotZ pa pb hm) fun σ H Q => tT_bin od_isnot ma mb σ H Q hbl⟩
          · cases h
        · cases h
      · -- a if t else b
        rename_i t a b pos
        split at h
        · rename_i mt ma mb ht ha hb
          cases h
          obtain ⟨pt, qt⟩ := ih1 X c t mt W g tk ht
          obtain ⟨pa, qa⟩ := ih1 X c a ma W g tk ha
          obtain ⟨pb, qb⟩ := ih1 X c b mb W g tk hb
          exact ⟨PE.imp (pe_ifExp qt pa pb) fun σ H Q => ifx_ok mt ma mb σ H Q, PT.imp (pt_ifExp qt qa qb) fun σ H Q => ifxT_ok mt ma mb σ H Q⟩
        · cases h
      · -- a call
        rename_i f args kws pos
        split at h
        · rename_i x px
          split at h
          · rename_i hc
            simp only [Bool.and_eq_true] at hc
            obtain ⟨⟨hok, hgl⟩, hpl⟩ := hc
            have hgl := gl_of g hgl
            split at h
            · rename_i fi hfi
              split at h
              · rename_i e es ms hms
                split at h
                · cases h
                  obtain ⟨ad, fd, ps, hm, hk, hlen, hdef, hF⟩ := g.fns x fi hfi
                  obtain ⟨vs, ds, hv, hvd, hb⟩ := hdef ((e :: es).length + fi.dvs.length - fi.np)
                  rw [List.all_cons, Bool.and_eq_true] at hpl
                  have pa := (ih2 X c (e :: es) ms W g tk (by rw [List.all_cons, hpl.1, hpl.2]; rfl) hms).1
                  have p : PE X (.Call (.Name x px) (e :: es) [] pos) (tE G X.K W (ev (run P k) (.call fi.id (ms ++ (fi.dvs.drop ((e :: es).length + fi.dvs.length - fi.np)).map .c)))) :=
                    PE.imp (pe_callSD (dvs := vs) hF g.room hgl hm hk hb hvd (fun σ => passAt tk σ) pa (okName_dbg hok) (star_plain hpl.1) (any_plain hpl.2)) fun σ H Q => call_ok hv σ H Q
                  exact ⟨p, tT_of p fun _ => rfl⟩
                · cases h
              · cases h
            · split at h
              · rename_i hfn hbl
                have hm := g.blt x hbl
                split at h
                · rename_i hx
                  have hx : x = "isinstance" := by simpa using hx
                  subst hx
                  split at h
                  · rename_i a y py
                    split at h
                    · rename_i hy
                      simp only [Bool.and_eq_true] at hy
                      obtain ⟨⟨hy1, hy2⟩, hy3⟩ := hy
                      split at h
                      · rename_i t ma ht ha
                        cases h
                        have pa := (ih1 X c a ma W g tk ha).1
                        have hty : bootBuiltins y = some (.type (tyName t)) := tyOf_boot ht
                        simp only [List.all_cons, Bool.and_eq_true] at hpl
                        have p : PE X (.Call (.Name "isinstance" px) [a, .Name y py] [] pos) (tE G X.K W (ev (run P k) (.op (.isin t) [ma]))) :=
                          PE.imp (pe_callB call_isi hgl hm (by decide +kernel) (pa_cons pa (pa_cons (pe_bltn (v := .ty (tyName t)) (gl_of g hy2) (g.blt y hy3) hty rfl (okName_nm hy1) (okName_dbg hy1)) pa_nil) (star_plain hpl.1)) (okName_nm hok) (okName_dbg hok) (star_plain hpl.1)) fun σ H Q => isin_ok t ma σ H Q
                        exact ⟨p, tT_of p fun _ => rfl⟩
                      · cases h
                    · cases h
                  · cases h
                · split at h
                  · rename_i o ms ho hms
                    cases h
                    have pa := (ih2 X c args ms W g tk hpl hms).1
                    unfold bltOp at ho
                    split at ho
                    · rename_i hx
                      cases ho
                      simp only [Bool.and_eq_true, beq_iff_eq] at hx
                      obtain ⟨rfl, hl⟩ := hx
                      match args, hl with
                      | [e], _ =>
                        rw [List.all_cons, Bool.and_eq_true] at hpl
                        have p := PE.imp (pe_callB (pos := pos) (p := px) call_len hgl hm PySem.boot_len pa (okName_nm hok) (okName_dbg hok) (star_plain hpl.1)) fun σ H Q => blt_ok (F := run P k) (W := W) (G := G) ov_len ms σ H Q
                        exact ⟨p, tT_of p fun _ => rfl⟩
                    · split at ho
                      · rename_i hx
                        cases ho
                        simp only [Bool.and_eq_true, beq_iff_eq] at hx
                        obtain ⟨rfl, hl⟩ := hx
                        match args, hl with
                        | [e], _ =>
                          rw [List.all_cons, Bool.and_eq_true] at hpl
                          have p := PE.imp (pe_callTy (pos := pos) (p := px) call_tuple_of hgl hm (by decide +kernel) pa (okName_nm hok) (okName_dbg hok) (star_plain hpl.1)) fun σ H Q => blt_ok (F := run P k) (W := W) (G := G) ov_toTup ms σ H Q
                          exact ⟨p, tT_of p fun _ => rfl⟩
                      · split at ho
                        · rename_i hx
                          cases ho
                          simp only [Bool.and_eq_true, beq_iff_eq] at hx
                          obtain ⟨rfl, hl⟩ := hx
                          match args, hl with
                          | [e], _ =>
                            rw [List.all_cons, Bool.and_eq_true] at hpl
                            have p := PE.imp (pe_callTy (pos := pos) (p := px) call_int1 hgl hm (by decide +kernel) pa (okName_nm hok) (okName_dbg hok) (star_plain hpl.1)) fun σ H Q => blt_ok (F := run P k) (W := W) (G := G) ov_toInt ms σ H Q
                            exact ⟨p, tT_of p fun _ => rfl⟩
                        · cases ho
                  · cases h
              · cases h
          · cases h
        · cases h
      · -- a[..]
        rename_i a i pos
        split at h
        · rename_i lo hi st' ps
          split at h
          · cases hr : trE n c a with
            | none => rw [hr] at h; cases h
            | some ma =>
              rw [hr] at h; cases h
              have pa := (ih1 X c a ma W g tk hr).1
              have p := PE.imp (pe_slice (pos := pos) (p2 := ps) sl_Z pa po_none po_none) fun σ H Q => sl_ok (F := run P k) (W := W) (G := G) ma none none σ H Q
              exact ⟨p, tT_of p fun _ => rfl⟩
          · rename_i l
            split at h
            · rename_i ma ml ha hl
              cases h
              have pa := (ih1 X c a ma W g tk ha).1
              have pl := (ih1 X c l ml W g tk hl).1
              have p := PE.imp (pe_slice (pos := pos) (p2 := ps) sl_Z pa (po_some pl) po_none) fun σ H Q => sl_ok (F := run P k) (W := W) (G := G) ma (some ml) none σ H Q
              exact ⟨p, tT_of p fun _ => rfl⟩
            · cases h
          · rename_i l
            split at h
            · rename_i ma ml ha hl
              cases h
              have pa := (ih1 X c a ma W g tk ha).1
              have pl := (ih1 X c l ml W g tk hl).1
              have p := PE.imp (pe_slice (pos := pos) (p2 := ps) sl_Z pa po_none (po_some pl)) fun σ H Q => sl_ok (F := run P k) (W := W) (G := G) ma none (some ml) σ H Q
              exact ⟨p, tT_of p fun _ => rfl⟩
            · cases h
          · rename_i l hh
            split at h
            · rename_i ma ml mh ha hl hhh
              cases h
              have pa := (ih1 X c a ma W g tk ha).1
              have pl := (ih1 X c l ml W g tk hl).1
              have ph := (ih1 X c hh mh W g tk hhh).1
              have p := PE.imp (pe_slice (pos := pos) (p2 := ps) sl_Z pa (po_some pl) (po_some ph)) fun σ H Q => sl_ok (F := run P k) (W := W) (G := G) ma (some ml) (some mh) σ H Q
              exact ⟨p, tT_of p fun _ => rfl⟩
            · cases h
          · cases h
        · split at h
          · rename_i hp
            split at h
            · rename_i ma mi ha hi
              cases h
              have pa := (ih1 X c a ma W g tk ha).1
              have pi := (ih1 X c i mi W g tk hi).1
              have p := PE.imp (pe_ix (pos := pos) ix_seq pa pi (ix_plain hp)) fun σ H Q => bin_ok (f := fun _ _ => pure .none) (F := run P k) (W := W) (G := G) od_ix ma mi σ H Q
              exact ⟨p, tT_of p fun _ => rfl⟩
            · cases h
          · cases h
      · -- a tuple
        rename_i es kk pos
        split at h
        · rename_i hp
          cases hr : trEs n c es with
          | none => rw [hr] at h; cases h
          | some ms =>
            rw [hr] at h; cases h
            have p := PE.imp (pe_tup (x1 := kk) (pos := pos) (ih2 X c es ms W g tk hp hr).1) fun σ H Q => tup_ok (X := X) ms σ H Q
            exact ⟨p, tT_of p fun _ => rfl⟩
        · cases h
      · -- a list
        rename_i es pos
        split at h
        · rename_i hp
          cases hr : trEs n c es with
          | none => rw [hr] at h; cases h
          | some ms =>
            rw [hr] at h; cases h
            have p := PE.imp (pe_lst (pos := pos) (ih2 X c es ms W g tk hp hr).1) fun σ H Q => lst_ok (X := X) ms σ H Q
            exact ⟨p, tT_of p fun _ => rfl⟩
        · cases h
      · -- a list comprehension
        rename_i elt gs scope pos
        obtain ⟨t, iter, ifs, own, wi, tg, tt, te, rfl, p1, p2, p3, p4, p5, p6, p7⟩ := lc_parts ihn (elt := elt) (gs := gs) (scope := scope) (pos := pos) g tk h
        have p : PE X (.ListComp elt [⟨t, iter, ifs, 0⟩] scope pos) (tE G X.K W (ev (run P k) m)) := PE.imp (pe_lc g.calm g.nd p1 p2 p3 p4 p5 p6) p7
        exact ⟨p, tT_of p fun _ => rfl⟩
      · cases h
    · unfold trEs at h
      split at h
      · cases h
        exact ⟨pa_nilZ fun env st => rfl, rfl, fun e m h => by cases h⟩
      · rename_i e r
        rw [List.all_cons, Bool.and_eq_true] at hp
        split at h
        · rename_i a b ha hb
          cases h
          obtain ⟨p1, q1⟩ := ih1 X c e a W g tk ha
          obtain ⟨p2, q2, _⟩ := ih2 X c r b W g tk hp.2 hb
          refine ⟨pa_consZ hp.1 p1 p2, by rw [List.length_cons, List.length_cons, q2], fun e' m' h1 h2 => ?_⟩
          cases h1; cases h2
          exact q1
        · cases h
    · unfold trIt at h
      split at h
      · rename_i x px args pos
        split at h
        · rename_i hx
          have hx : x = "range" := by simpa using hx
          subst hx
          split at h
          · rename_i hc
            rw [Bool.and_eq_true] at hc
            obtain ⟨hg, hm, hok⟩ := bl_of g hc.1
            have hpl := hc.2
            split at h
            · rename_i a
              rw [List.all_cons, Bool.and_eq_true] at hpl
              cases hr : trE n c a with
              | none => rw [hr] at h; cases h
              | some m =>
                rw [hr] at h; cases h
                exact pi_rng1 hg hm hpl.1 (pa_consZ hpl.1 (ih1 X c a m W g tk hr).1 (pa_nilZ fun env st => rfl))
            · rename_i a b
              rw [List.all_cons, List.all_cons, Bool.and_eq_true, Bool.and_eq_true] at hpl
              split at h
              · rename_i ma mb ha hb
                cases h
                exact pi_rng2 hg hm hpl.1 hpl.2.1 (pa_consZ hpl.1 (ih1 X c a ma W g tk ha).1 (pa_consZ hpl.2.1 (ih1 X c b mb W g tk hb).1 (pa_nilZ fun env st => rfl)))
              · cases h
            · cases h
          · cases h
        · cases hr : trE n c (.Call (.Name x px) args [] pos) with
          | none => rw [hr] at h; cases h
          | some m => rw [hr] at h; cases h; exact pi_seq (ih1 X c _ m W g tk hr).1
      · cases hr : trE n c e with
        | none => rw [hr] at h; cases h
        | some m => rw [hr] at h; cases h; exact pi_seq (ih1 X c e m W g tk hr).1
end
end Z

set_option autoImplicit false
set_option maxHeartbeats 2000000
namespace Z
open PySem PySem.Spec PyProof.Rows L2

/-! ## statements -/
def Ls (G : GC) (K : PySem.W.Frag) (W : WX) (D : Ends) (ρ : List Addr) (H : Hp) (r : SR) : Prop := match r with
  | .next env' st' => ∀ ρ' H' σ', Ext K ρ ρ' H H' → Rel G K ρ' env' st' σ' H' → D.nx σ' H'
  | .brk env' st' => ∀ ρ' H' σ', Ext K ρ ρ' H H' → Rel G K ρ' env' st' σ' H' → D.bk σ' H'
  | .cnt env' st' => ∀ ρ' H' σ', Ext K ρ ρ' H H' → Rel G K ρ' env' st' σ' H' → D.ct σ' H'
  | .ret d st' => ∀ ρ' H' v, Ext K ρ ρ' H H' → Rs G K ρ' st' H' → Rv K ρ' H' d v → D.rt v H'
  | .exc c p env' st' => ∀ ρ' H' σ' cls dd, Ext K ρ ρ' H H' → Rel G K ρ' env' st' σ' H' → XRel G K ρ' H' c p cls dd → W cls dd σ' H'
  | .bad => False
def tS (G : GC) (K : PySem.W.Frag) (W : WX) (r : Env → Store → SR) : TS := fun D σ H => ∃ ρ env st, Rel G K ρ env st σ H ∧ Ls G K W D ρ H (r env st)
section
variable {G : GC} {K : PySem.W.Frag} {W : WX} {D : Ends} {ρ ρ' : List Addr} {H H' : Hp} {r : SR} {F : FT}
theorem Ls.ext (e : Ext K ρ ρ' H H') (h : Ls G K W D ρ H r) : Ls G K W D ρ' H' r := by
  cases r with
  | next => exact fun ρ2 H2 σ2 e2 s2 => h ρ2 H2 σ2 (e.trans e2) s2
  | brk => exact fun ρ2 H2 σ2 e2 s2 => h ρ2 H2 σ2 (e.trans e2) s2
  | cnt => exact fun ρ2 H2 σ2 e2 s2 => h ρ2 H2 σ2 (e.trans e2) s2
  | ret => exact fun ρ2 H2 v e2 s2 => h ρ2 H2 v (e.trans e2) s2
  | exc => exact fun ρ2 H2 σ2 cls dd e2 s2 => h ρ2 H2 σ2 cls dd (e.trans e2) s2
  | bad => exact h
theorem Ls.toS {α : Type} {a : R α} {env : Env} {σ : L2.St} {f : α → Store → SR} (re : Re K ρ H env σ) (h : Ls G K W D ρ H (a.toS env f)) : Lf G K (fun c d H' => W c d σ H') ρ H a fun x st' ρ' H' => Ls G K W D ρ' H' (f x st') := by
  cases a with
  | ok x st' => exact fun ρ' H' e s => Ls.ext (r := f x st') e h
  | exc c p st' => exact fun ρ' H' cls dd e s x => h ρ' H' σ cls dd e ⟨s, re.ext e⟩ x
  | bad => exact h
theorem Ls.seq {f : Env → Store → SR} (h : Ls G K W D ρ H (r.seq f)) : Ls G K W { D with nx := tS G K W f D } ρ H r := by
  cases r with
  | next env' st' => exact fun ρ' H' σ' e rel => ⟨ρ', env', st', rel, Ls.ext (r := f env' st') e h⟩
  | _ => exact h
theorem asg_ok (t : Tg) (e : Ex) (D : Ends) (σ : L2.St) (H : Hp) (h : tS G K W (xs F (.asg t e)) D σ H) : tAsg (tE G K W (ev F e)) (tG G K t) D σ H := by
  obtain ⟨ρ, env, st, rel, q⟩ := h
  have q := Ls.toS (f := fun d st1 => match setT t d env with | some env' => .next env' st1 | none => .bad) rel.e q
  refine ⟨ρ, env, st, rel, q.imp fun d st1 ρ1 H1 e1 s1 q1 v rv => ?_⟩
  cases ht : setT t d env with
  | none => rw [ht] at q1; exact q1.elim
  | some env' =>
    rw [ht] at q1
    exact ⟨ρ1, env, d, env', rel.e.ext e1, rv, ht, fun σ' re' _ => q1 ρ1 H1 σ' Ext.refl ⟨s1, re'⟩⟩
theorem setix_ok (o i e : Ex) (D : Ends) (σ : L2.St) (H : Hp) (h : tS G K W (xs F (.setix o i e)) D σ H) : tAsg (tE G K W (ev F e)) (gSub (tE G K W (ev F o)) (tE G K W (ev F i)) rSetL) D σ H := by
  obtain ⟨ρ, env, st, rel, q⟩ := h
  have q : Ls G K W D ρ H ((ev F e env st).toS env fun d st1 => (ev F o env st1).toS env fun ov st2 => (ev F i env st2).toS env fun iv st3 => match ov, iv with
    | .loc l, .int k => (match st3[l]? with
      | some (.lst ys) => (match ixN ys.length k with
        | some j => .next env (st3.set l (.lst (ys.set j d)))
        | none => .bad)
      | _ => .bad)
    | _, _ => .bad) := q
  refine ⟨ρ, env, st, rel, (q.toS rel.e).imp fun d st1 ρ1 H1 e1 s1 q1 v rv => ?_⟩
  refine ⟨ρ1, env, st1, ⟨s1, rel.e.ext e1⟩, (q1.toS (rel.e.ext e1)).imp fun ov st2 ρ2 H2 e2 s2 q2 x rx => ?_⟩
  refine ⟨ρ2, env, st2, ⟨s2, rel.e.ext (e1.trans e2)⟩, (q2.toS (rel.e.ext (e1.trans e2))).imp fun iv st3 ρ3 H3 e3 s3 q3 y ry => ?_⟩
  cases ov with
  | loc l =>
    cases iv with
    | int k =>
      cases rx with
      | @loc _ a hl =>
      cases ry
      have q3 : Ls G K W D ρ3 H3 (match st3[l]? with
        | some (.lst ys) => (match ixN ys.length k with
          | some j => .next env (st3.set l (.lst (ys.set j d)))
          | none => .bad)
        | _ => .bad) := q3
      split at q3
      · rename_i ys hy
        obtain ⟨a', g1, vs, g2, g3⟩ := s3.obj l _ hy
        have hl3 := pre_get e3.pre hl
        rw [hl3] at g1; cases g1
        cases hj : ixN ys.length k with
        | none => rw [hj] at q3; exact q3.elim
        | some j =>
          rw [hj] at q3
          have ew : Ext K ρ3 ρ3 H3 (upd H3 a (.lst (vs.set j v))) := Ext.wr g2 trivial
          refine ⟨a, vs, k, j, rfl, rfl, g2, by rw [← g3.length]; exact hj, q3 ρ3 _ σ ew ⟨s3.wr (O := .lst (ys.set j d)) hl3 g2 trivial ⟨_, upd_same, (g3.ext ew).set (rv.ext ((e2.trans e3).trans ew)) j⟩, rel.e.ext (((e1.trans e2).trans e3).trans ew)⟩⟩
      · exact q3.elim
    | _ => exact q3.elim
  | _ => exact q3.elim
theorem expr_ok (e : Ex) (D : Ends) (σ : L2.St) (H : Hp) (h : tS G K W (xs F (.expr e)) D σ H) : tDrop (tE G K W (ev F e)) D σ H := by
  obtain ⟨ρ, env, st, rel, q⟩ := h
  have q : Ls G K W D ρ H ((ev F e env st).toS env fun _ st1 => .next env st1) := q
  exact ⟨ρ, env, st, rel, (q.toS rel.e).imp fun d st1 ρ1 H1 e1 s1 q1 v rv => q1 ρ1 H1 σ Ext.refl ⟨s1, rel.e.ext e1⟩⟩
theorem ret_ok (e : Ex) (D : Ends) (σ : L2.St) (H : Hp) (h : tS G K W (xs F (.ret e)) D σ H) : tRet (tE G K W (ev F e)) D σ H := by
  obtain ⟨ρ, env, st, rel, q⟩ := h
  have q : Ls G K W D ρ H ((ev F e env st).toS env fun d st1 => .ret d st1) := q
  exact ⟨ρ, env, st, rel, (q.toS rel.e).imp fun d st1 ρ1 H1 e1 s1 q1 v rv => q1 ρ1 H1 v Ext.refl s1 rv⟩
theorem ite_ok (c : Ex) (t f : List Sx) (D : Ends) (σ : L2.St) (H : Hp) (h : tS G K W (xs F (.ite c t f)) D σ H) : tIfS (tT G K W (ev F c)) (tS G K W (xss F t)) (tS G K W (xss F f)) D σ H := by
  obtain ⟨ρ, env, st, rel, q⟩ := h
  have q : Ls G K W D ρ H ((ev F c env st).toS env fun x st1 => match truth st1 x with
    | some true => xss F t env st1
    | some false => xss F f env st1
    | none => .bad) := q
  refine ⟨ρ, env, st, rel, (q.toS rel.e).imp fun d st1 ρ1 H1 e1 s1 q1 => ?_⟩
  cases ht : truth st1 d with
  | none => rw [ht] at q1; exact q1.elim
  | some k =>
    rw [ht] at q1
    refine ⟨k, rfl, ?_⟩
    cases k with
    | true => rw [if_pos rfl]; exact ⟨ρ1, env, st1, ⟨s1, rel.e.ext e1⟩, q1⟩
    | false => rw [if_neg Bool.false_ne_true]; exact ⟨ρ1, env, st1, ⟨s1, rel.e.ext e1⟩, q1⟩
theorem for_ok (t : Tg) (kk : Ik) (src : List Ex) (body : List Sx) (D : Ends) (σ : L2.St) (H : Hp) (h : tS G K W (xs F (.for_ t kk src body)) D σ H) : tFor (tI G K W kk (evs F src)) (tG G K t) (tS G K W (xss F body)) D σ H := by
  obtain ⟨ρ, env, st, rel, q⟩ := h
  have q : Ls G K W D ρ H ((evs F src env st).toS env fun ds st1 => match srcOf kk ds st1 with
    | some S => evFor S.same (fun x env2 st2 => match setT t x env2 with
        | some env' => xss F body env' st2
        | none => .bad) S.items env st1
    | none => .bad) := q
  refine ⟨ρ, env, st, rel, (q.toS rel.e).imp fun ds st1 ρ1 H1 e1 s1 q1 => ?_⟩
  cases hS : srcOf kk ds st1 with
  | none => rw [hS] at q1; exact q1.elim
  | some S =>
    rw [hS] at q1
    refine ⟨S, rfl, fun J wk => ?_⟩
    generalize hone : (fun x env2 st2 => match setT t x env2 with
        | some env' => xss F body env' st2
        | none => .bad) = one at q1
    refine ⟨fun i m σ' H' => ∃ ρ' env' st', Ext K ρ1 ρ' H1 H' ∧ Rel G K ρ' env' st' σ' H' ∧ i + m = S.items.length ∧ Ls G K W D ρ' H' (evFor S.same one (S.items.drop i) env' st'),
      ⟨S.items.length, ρ1, env, st1, Ext.refl, ⟨s1, rel.e.ext e1⟩, Nat.zero_add _, by rw [List.drop_zero]; exact q1⟩, fun i m σ2 H2 hW => ?_⟩
    obtain ⟨ρ2, env2, st2, e2, rel2, him, q2⟩ := hW
    by_cases hi : i < S.items.length
    · refine .inr ?_
      rw [List.drop_eq_getElem_cons hi, evFor] at q2
      by_cases hsame : S.same st2 = true
      · rw [if_pos hsame] at q2
        refine ⟨wk.go i ρ2 st2 H2 e2 rel2.s hsame hi, fun σ' H' => ∃ m', m' < m ∧ ∃ ρ' env' st', Ext K ρ1 ρ' H1 H' ∧ Rel G K ρ' env' st' σ' H' ∧ (i + 1) + m' = S.items.length ∧ Ls G K W D ρ' H' (evFor S.same one (S.items.drop (i + 1)) env' st'), fun σ' H' hn => hn, fun x H3 hy => ?_⟩
        obtain ⟨d, hd, e3, s3, r3⟩ := wk.yld i ρ2 st2 H2 x H3 e2 rel2.s hsame hi hy
        rw [List.getElem?_eq_getElem hi] at hd
        have hd : S.items[i] = d := Option.some.inj hd
        rw [hd] at q2
        have q2 := q2.ext e3
        cases hset : setT t d env2 with
        | none => rw [← hone] at q2; simp only [hset] at q2; exact q2.elim
        | some env' =>
          have ho : one d env2 st2 = xss F body env' st2 := by rw [← hone]; simp only [hset]
          rw [ho] at q2
          refine ⟨ρ2, env2, d, env', rel2.e.ext e3, r3, hset, fun σ3 re3 _ => ⟨ρ2, env', st2, ⟨s3, re3⟩, ?_⟩⟩
          cases hr : xss F body env' st2 with
          | bad => rw [hr] at q2; exact q2.elim
          | next env4 st4 =>
            rw [hr] at q2
            exact fun ρ4 H4 σ4 e4 rel4 => ⟨m - 1, by omega, ρ4, env4, st4, (e2.trans e3).trans e4, rel4, by omega, q2.ext e4⟩
          | cnt env4 st4 =>
            rw [hr] at q2
            exact fun ρ4 H4 σ4 e4 rel4 => ⟨m - 1, by omega, ρ4, env4, st4, (e2.trans e3).trans e4, rel4, by omega, q2.ext e4⟩
          | brk env4 st4 =>
            rw [hr] at q2
            exact fun ρ4 H4 σ4 e4 rel4 => q2 ρ4 H4 σ4 e4 rel4
          | ret d4 st4 => rw [hr] at q2; exact q2
          | exc => rw [hr] at q2; exact q2
      · rw [if_neg hsame] at q2; exact q2.elim
    · refine .inl ?_
      rw [List.drop_eq_nil_of_le (Nat.le_of_not_lt hi), evFor] at q2
      by_cases hsame : S.same st2 = true
      · rw [if_pos hsame] at q2
        exact ⟨wk.stop i ρ2 st2 H2 e2 rel2.s hsame (Nat.le_of_not_lt hi), q2 ρ2 H2 σ2 Ext.refl rel2⟩
      · rw [if_neg hsame] at q2; exact q2.elim
end

section
variable {G : GC} {P : List Fd} {k : Nat}
theorem swap_no {e : Expr} {t : Option Expr} {l : Nat} {env : PySem.Env} (h : noComp e = true) : swapsWith e t l env = pure false := by
  cases e <;> first | rfl | (cases h)
theorem swap_sole {e t : Expr} {l : Nat} {env : PySem.Env} (h : noComp e = true) : swapsWithSole [t] e l env = pure false := swap_no (t := some t) h
theorem asgN_stores {x : Str} {px : Pos} {e : Expr} {env : PySem.Env} : swappedStores [.Name x px] e env = pure none := by
  cases e <;> rfl
theorem asgS_stores {o i : Expr} {px : Pos} {e : Expr} {env : PySem.Env} : swappedStores [.Subscript o i px] e env = pure none := by
  cases e <;> rfl
theorem asgT_stores {ts : List Expr} {j : Nat} {px : Pos} {e : Expr} {env : PySem.Env} (h : isTup e = false) : swappedStores [.Tuple ts j px] e env = pure none := by
  cases e <;> first | rfl | (cases h)
theorem soundS : ∀ n : Nat,
    (∀ (X : Cx) (c : Cc) (s : Stmt) (m : Sx) (W : WX), XG G P k X c → Takes X W → trS n c s = some m → PS X s (tS G X.K W (xs (run P k) m))) ∧
    (∀ (X : Cx) (c : Cc) (ss : List Stmt) (ms : List Sx) (W : WX), XG G P k X c → Takes X W → trSs n c ss = some ms → PSs X ss (tS G X.K W (xss (run P k) ms)))
  | 0 => ⟨fun X c s m W g tk h => (by cases h), fun X c ss ms W g tk h => (by cases h)⟩
  | n + 1 => by
    obtain ⟨ih1, ih2⟩ := soundS n
    obtain ⟨se, ses, si⟩ := sound (G := G) (P := P) (k := k) n
    refine ⟨fun X c s m W g tk h => ?_, fun X c ss ms W g tk h => ?_⟩
    · unfold trS at h
      split at h
      · -- an assignment
        rename_i ts e pos
        split at h
        · rename_i o i px
          split at h
          · rename_i hc
            simp only [Bool.and_eq_true] at hc
            split at h
            · rename_i mo mi me ho hi he
              cases h
              have po := (se X c o mo W g tk ho).1
              have pi := (se X c i mi W g tk hi).1
              have pe := (se X c e me W g tk he).1
              refine PS.imp (ps_asg pe (pg_sub po pi set_list (fun v => by
                have hp := hc.1.1
                cases i <;> first | rfl | (cases hp))) (swap_sole hc.1.2) asgS_stores) fun D σ H => setix_ok mo mi me D σ H
            · cases h
          · cases h
        · rename_i t ht0
          split at h
          · rename_i mt me ht he
            split at h
            · rename_i hc
              cases h
              rw [Bool.and_eq_true] at hc
              have pe := (se X c e me W g tk he).1
              have pt := (trTg_ok (G := G) (P := P) (k := k) n).1 X c t mt g ht
              cases t with
              | Name x px =>
                by_cases hn : noComp e = true
                · exact PS.imp (ps_asg pe pt (swap_sole hn) asgN_stores) fun D σ H => asg_ok mt me D σ H
                · have hn : noComp e = false := Bool.eq_false_iff.mpr hn
                  have hk : (noComp e || (match (generalizing := false) e with
                    | .ListComp _ _ s _ => (c.sc.names.lookup x == some .local) && (px.line == e.pos.line) && !(s.names.any fun (n, k) => n == x && (k == .local || k == .cell))
                    | _ => false)) = true := hc.2
                  rw [hn, Bool.false_or] at hk
                  cases e with
                  | ListComp elt gs scope pe' =>
                    have hk : ((c.sc.names.lookup x == some .local) && (px.line == pe'.line) && !(scope.names.any fun (n, k) => n == x && (k == .local || k == .cell))) = true := hk
                    simp only [Bool.and_eq_true, Bool.not_eq_true'] at hk
                    obtain ⟨⟨k1, k2⟩, k3⟩ := hk
                    have k1 : c.sc.names.lookup x = some .local := by simpa using k1
                    cases n with
                    | zero => cases he
                    | succ n =>
                    obtain ⟨t, iter, ifs, own, wi, tg, tt, te, rfl, p1, p2, p3, p4, p5, p6, p7⟩ := lc_parts (sound (G := G) (P := P) (k := k) n) (elt := elt) (gs := gs) (scope := scope) (pos := pe') g tk he
                    have hl : X.env.scope.names.lookup x = some .local := by rw [g.sc]; exact k1
                    have ht : (if c.sto x && okName x then (slotOf c.N x).map Tg.nm else none) = some mt := ht
                    split at ht
                    · cases hs : slotOf c.N x with
                      | none => rw [hs] at ht; cases ht
                      | some i =>
                        rw [hs] at ht; cases ht
                        have hsc : X.env.scope.kind = .function ∨ True := .inr trivial
                        refine ⟨fun pins s σ H D I q => ?_⟩
                        refine (ps_setLc (i := i) g.calm g.nd (by rw [g.N]; exact slotOf_get hs) hl (sw_true I.ok.kind hl k2 k3) p1 p2 p3 p4 p5 p6).run pins s σ H D I ?_
                        have q := asg_ok (.nm i) me D σ H q
                        refine p7 σ H _ ?_
                        obtain ⟨ρ, env, st, rel, q⟩ := q
                        refine ⟨ρ, env, st, rel, q.imp fun d st1 ρ1 H1 e1 s1 q1 v rv => ?_⟩
                        obtain ⟨ρ2, env2, d2, env3, re, r2, hset, q2⟩ := q1 v rv
                        cases hset
                        exact q2 _ (re.set r2) fun j hj => List.getElem?_set_ne fun z => hj (by rw [z]; exact List.mem_cons_self)
                    · cases ht
                  | _ => cases hk
              | Tuple es j px =>
                have hk : (noComp e && !isTup e) = true := hc.2
                rw [Bool.and_eq_true] at hk
                exact PS.imp (ps_asg pe pt (swap_sole hk.1) (asgT_stores (by simpa using hk.2))) fun D σ H => asg_ok mt me D σ H
              | _ => cases hc.2
            · cases h
          · cases h
        · cases h
      · -- an expression
        rename_i e pos
        split at h
        · cases h
          exact PS.imp ps_doc fun D σ H ⟨ρ, env, st, rel, q⟩ => q ρ H σ Ext.refl rel
        · split at h
          · rename_i hn
            cases hr : trE n c e with
            | none => rw [hr] at h; cases h
            | some m' =>
              rw [hr] at h; cases h
              exact PS.imp (ps_expr (se X c e m' W g tk hr).1 (swap_no hn)) fun D σ H => expr_ok m' D σ H
          · cases h
      · -- return e
        rename_i e pos
        cases hr : trE n c e with
        | none => rw [hr] at h; cases h
        | some m' =>
          rw [hr] at h; cases h
          exact PS.imp (ps_ret (se X c e m' W g tk hr).1) fun D σ H => ret_ok m' D σ H
      · cases h
        exact PS.imp ps_retN fun D σ H ⟨ρ, env, st, rel, q⟩ => q ρ H .non Ext.refl rel.s .non
      · rename_i t a b pos
        split at h
        · rename_i mt ma mb ht ha hb
          cases h
          exact PS.imp (ps_if (se X c t mt W g tk ht).2 (ih2 X c a ma W g tk ha) (ih2 X c b mb W g tk hb)) fun D σ H => ite_ok mt ma mb D σ H
        · cases h
      · rename_i t iter body orelse pos
        split at h
        · split at h
          · rename_i hp
            split at h
            · rename_i mt kk src mb ht hi hb
              cases h
              exact PS.imp (ps_for g.po g.calm (si X c t iter kk src W g tk hi) ((trTg_ok (G := G) (P := P) (k := k) n).1 X c t mt g ht) (ih2 X c body mb W g tk hb) (fold_plain hp)) fun D σ H => for_ok mt kk src mb D σ H
            · cases h
          · cases h
        · cases h
      · cases h; exact PS.imp ps_break fun D σ H ⟨ρ, env, st, rel, q⟩ => q ρ H σ Ext.refl rel
      · cases h; exact PS.imp ps_continue fun D σ H ⟨ρ, env, st, rel, q⟩ => q ρ H σ Ext.refl rel
      · cases h; exact PS.imp ps_pass fun D σ H ⟨ρ, env, st, rel, q⟩ => q ρ H σ Ext.refl rel
      · cases h
    · unfold trSs at h
      split at h
      · cases h
        exact PSs.imp pss_nil fun D σ H ⟨ρ, env, st, rel, q⟩ => q ρ H σ Ext.refl rel
      · rename_i s r
        split at h
        · rename_i a b ha hb
          cases h
          exact PSs.imp (pss_cons (ih1 X c s a W g tk ha) (ih2 X c r b W g tk hb)) fun D σ H ⟨ρ, env, st, rel, q⟩ => ⟨ρ, env, st, rel, Ls.seq (f := fun env' st' => xss (run P k) b env' st') q⟩
        · cases h
end
end Z

set_option autoImplicit false
set_option maxHeartbeats 2000000
namespace Z
open PySem PySem.Spec PyProof.Rows L2

/-! ## a program's defs -/
structure Ent where
  x : Str
  q : Str
  st : Stmt
  N : List Str
  ps : List Str
  dvs : List D
def tabFrom : Nat → List Ent → List (Str × Fi)
  | _, [] => []
  | i, e :: es => (e.x, ⟨i, e.ps.length, e.dvs⟩) :: tabFrom (i + 1) es
theorem tab_get : ∀ {es : List Ent} {i : Nat} {x : Str} {fi : Fi}, (tabFrom i es).lookup x = some fi → ∃ e, es[fi.id - i]? = some e ∧ i ≤ fi.id ∧ e.x = x ∧ fi.np = e.ps.length ∧ fi.dvs = e.dvs
  | [], _, _, _, h => by cases h
  | e :: es, i, x, fi, h => by
    unfold tabFrom at h
    rw [List.lookup_cons] at h
    cases hb : x == e.x with
    | true =>
      rw [hb] at h
      cases h
      exact ⟨e, by simp, Nat.le_refl _, (by simpa using hb : x = e.x).symm, rfl, rfl⟩
    | false =>
      rw [hb] at h
      obtain ⟨e', h1, h2, h3⟩ := tab_get h
      refine ⟨e', ?_, Nat.le_of_succ_le h2, h3⟩
      have : fi.id - i = (fi.id - (i + 1)) + 1 := by omega
      rw [this, List.getElem?_cons_succ]
      exact h1
structure Pg where
  E : List Ent
  co : List (Str × D)
  blt : List Str
def Pg.ctx (p : Pg) (e : Ent) : Cc := { N := e.N, sc := defScope e.st, raw := defScope e.st, isDef := true, fn := tabFrom 0 p.E, co := p.co, blt := p.blt }
/-- the defs as the machine runs them -/
inductive Comp (p : Pg) : List Ent → List Fd → Prop
  | nil : Comp p [] []
  | cons {e : Ent} {es : List Ent} {b : List Sx} {fs : List Fd} (n : Nat) : trSs n (p.ctx e) (defBody e.st) = some b → Comp p es fs → Comp p (e :: es) (⟨e.N.length, e.ps.length, b⟩ :: fs)
theorem Comp.get {p : Pg} : ∀ {es : List Ent} {fs : List Fd}, Comp p es fs → ∀ {i : Nat} {e : Ent}, es[i]? = some e → ∃ n b, trSs n (p.ctx e) (defBody e.st) = some b ∧ fs[i]? = some ⟨e.N.length, e.ps.length, b⟩
  | _, _, .nil, i, e, h => by simp at h
  | _, _, .cons n h1 h2, 0, e, h => by simp at h; subst h; exact ⟨n, _, h1, rfl⟩
  | _, _, .cons n h1 h2, i + 1, e, h => by simp at h; simpa using Comp.get h2 h
/-- what of a def stands in the written part -/
structure EntOk (K : PySem.W.Frag) (mg : Str → Option Value) (e : Ent) : Prop where
  sc : FnScope e.N e.ps (defScope e.st)
  at_ : ∃ a fd, mg e.x = some (.ref a) ∧ Fun K e.x e.q e.st a fd ∧ ∀ n, ∃ vs ds, (∀ ρ H, Rvs K ρ H (e.dvs.drop n) vs) ∧ Vals vs ds ∧ Binds K fd e.ps ds
structure PgOk (K : PySem.W.Frag) (mg : Str → Option Value) (p : Pg) : Prop where
  ents : ∀ e ∈ p.E, EntOk K mg e
  blt : ∀ x, p.blt.contains x = true → mg x = none
  co : ∀ x d, p.co.lookup x = some d → ∃ u, mg x = some u ∧ CVal K d u

section
variable {G : GC} {K : PySem.W.Frag} {mg : Str → Option Value} {base : Heap} {prog : Program} {w : World} {p : Pg} {P : List Fd}
theorem fin_ok {Q : VK} {E : XK} {ρ : List Addr} {H : Hp} {r : SR} (h : Lf G K (fun c d H' => E c d H') ρ H r.fin fun d _ ρ' H' => ∀ v, Rv K ρ' H' d v → Q v H') :
    Ls G K (fun c d _ H' => E c d H') { nx := fun _ H' => Q .non H', rt := Q } ρ H r := by
  cases r with
  | next env st => exact fun ρ' H' σ' e rel => h ρ' H' e rel.s .non .non
  | ret d st => exact fun ρ' H' v e s rv => h ρ' H' e s v rv
  | exc c p env st => exact fun ρ' H' σ' cls dd e rel x => h ρ' H' cls dd e rel.s x
  | brk => exact h.elim
  | cnt => exact h.elim
  | bad => exact h
theorem start_re {ρ : List Addr} {H : Hp} {ds : List D} {vs : List V} {N : List Str} (r : Rvs K ρ H ds vs) : Re K ρ H (ds.map some ++ List.replicate (N.length - ds.length) none) (L2.start N vs) := by
  unfold L2.start
  rw [← r.length]
  refine ⟨by simp [r.length], fun i d e => ?_⟩
  by_cases hi : i < ds.length
  · rw [List.getElem?_append_left (by simpa using hi), List.getElem?_map] at e
    rw [List.getElem?_append_left (by simpa [← r.length] using hi), List.getElem?_map]
    rw [List.getElem?_eq_getElem hi] at e
    cases e
    obtain ⟨v, hv, rv⟩ := r.get (List.getElem?_eq_getElem hi)
    rw [hv]
    exact ⟨v, rfl, rv⟩
  · exfalso
    rw [List.getElem?_append_right (by simpa using hi), List.getElem?_replicate] at e
    split at e <;> cases e
theorem fn_all (ok : PgOk K mg p) (hc : Comp p p.E P) : ∀ (k i : Nat) (e : Ent) (a : Addr) (fd : FuncData), p.E[i]? = some e → Fun K e.x e.q e.st a fd → FnOk prog w K mg base (L2.CX prog w) k a fd e.ps (spF G K P k i)
  | 0, i, e, a, fd, he, F => by
    have no : ∀ vs H Q E, ¬ spF G K P 0 i vs H Q E := fun vs H Q E h => by
      obtain ⟨ρ, st, ds, _, _, q⟩ := h
      exact q
    exact ⟨fun vs H Q E h => (no vs H Q E h).elim, fun A outer s H args us vs Q E _ _ _ _ h => (no vs H Q E h).elim⟩
  | k + 1, i, e, a, fd, he, F => by
    obtain ⟨n, b, hb, hP⟩ := hc.get he
    have eok := ok.ents e (List.mem_of_getElem? he)
    have len : ∀ vs H Q E, spF G K P (k + 1) i vs H Q E → vs.length = e.ps.length := fun vs H Q E h => by
      obtain ⟨ρ, st, ds, _, r, q⟩ := h
      rw [← r.length]
      unfold run at q
      rw [hP] at q
      obtain ⟨h, _⟩ := of_ite q
      exact h
    refine F.okX eok.sc len fun cdv A outer s H vs Q E hr h => ?_
    have g : XG G P k (cxOf (L2.CX prog w) prog w K mg base e.N e.q (defScope e.st) a cdv A outer s H E) (p.ctx e) := by
      refine ⟨rfl, eok.sc.nd, rfl, rfl, .inl ⟨rfl, fun _ => rfl⟩, hr, passes_of rfl, ok.blt, fun x fi hx => ?_, ok.co⟩
      obtain ⟨e', h1, _, h2, h3, h4⟩ := tab_get hx
      rw [Nat.sub_zero] at h1
      obtain ⟨a', fd', m1, m2, m3⟩ := (ok.ents e' (List.mem_of_getElem? h1)).at_
      exact ⟨a', fd', e'.ps, by rw [← h2]; exact m1, m2.kp, h3.symm, by rw [h4]; exact m3, fn_all ok hc k fi.id e' a' fd' h1 m2⟩
    refine ⟨_, (soundS (G := G) (P := P) (k := k) n).2 _ _ _ b (fun cls d _ H => E cls d H) g (takes_of rfl rfl rfl rfl) hb, ?_⟩
    obtain ⟨ρ, st, ds, sr, r, q⟩ := h
    unfold run at q
    rw [hP] at q
    obtain ⟨hl, q⟩ := of_ite q
    refine ⟨ρ, _, st, ⟨sr, start_re (N := e.N) r⟩, ?_⟩
    have q := fin_ok q
    rw [← hl] at q
    exact q
end

/-! ## the law -/
theorem script_rv {K : PySem.W.Frag} {H : Hp} {a : Addr} {ns : List Int} (o : Only H) (h : SqL K H a (ns.map V.int)) : Rv K [] H (.flst (ns.map D.int)) (.ref a) := by
  refine .flst (xs := ns.map V.int) ?_ ?_
  · rcases h with (h | ⟨ob, h⟩) | h
    · rcases o a with z | ⟨ob, xs, z⟩
      · rw [h] at z; cases z
      · rw [h] at z; cases z
    · exact .inl ⟨ob, h⟩
    · exact .inr h
  · clear h
    induction ns with
    | nil => exact .nil
    | cons n ns ih => exact .cons (.int n) ih
def GC0 : GC := ⟨[], []⟩
theorem law_sp {G : GC} {K : PySem.W.Frag} {P : List Fd} {k i : Nat} {H : Hp} {a : Addr} {ns : List Int} (o : Only H) (h : SqL K H a (ns.map V.int)) (hr : ∃ st', run P k i [.flst (ns.map D.int)] [] = .ok (.bl true) st') :
    spF G K P k i [.ref a] H (fun v _ => v = .bl true) fun _ _ _ => False := by
  obtain ⟨st', hr⟩ := hr
  refine ⟨[], [], [.flst (ns.map D.int)], ⟨rfl, List.nodup_nil, fun l o h => by simp at h⟩, .cons (script_rv o h) .nil, ?_⟩
  rw [hr]
  intro ρ' H' e s v rv
  cases rv
  rfl
end Z

set_option autoImplicit false
namespace Z
open PySem L2

/-! # Reasoning about runs -/
theorem run_eq {P : List Fd} {f : Nat} {d : Fd} (h : P[f]? = some d) (k : Nat) (ds : List D) (st : Store) (hl : ds.length = d.params) :
    run P (k + 1) f ds st = (xss (run P k) d.body (ds.map some ++ List.replicate (d.slots - d.params) none) st).fin := by
  show (match P[f]? with | some d => if ds.length = d.params then _ else R.bad | none => .bad) = _
  rw [h]
  exact if_pos hl
@[simp] theorem bind_ok {α β : Type} (a : α) (st : Store) (f : α → Store → R β) : (R.ok a st).bind f = f a st := rfl
@[simp] theorem bind_exc {α β : Type} (c : Nat) (p : D) (st : Store) (f : α → Store → R β) : (R.exc c p st : R α).bind f = .exc c p st := rfl
@[simp] theorem toS_ok {α : Type} (a : α) (st : Store) (env : Env) (f : α → Store → SR) : (R.ok a st).toS env f = f a st := rfl
@[simp] theorem toS_exc {α : Type} (c : Nat) (p : D) (st : Store) (env : Env) (f : α → Store → SR) : (R.exc c p st : R α).toS env f = .exc c p env st := rfl
@[simp] theorem seq_next (env : Env) (st : Store) (f : Env → Store → SR) : (SR.next env st).seq f = f env st := rfl
@[simp] theorem seq_ret (d : D) (st : Store) (f : Env → Store → SR) : (SR.ret d st).seq f = .ret d st := rfl
@[simp] theorem seq_exc (c : Nat) (p : D) (env : Env) (st : Store) (f : Env → Store → SR) : (SR.exc c p env st).seq f = .exc c p env st := rfl
@[simp] theorem fin_ret (d : D) (st : Store) : (SR.ret d st).fin = .ok d st := rfl
@[simp] theorem fin_next (env : Env) (st : Store) : (SR.next env st).fin = .ok .non st := rfl
@[simp] theorem fin_exc (c : Nat) (p : D) (env : Env) (st : Store) : (SR.exc c p env st).fin = .exc c p st := rfl
@[simp] theorem truth_bl (st : Store) (b : Bool) : truth st (.bl b) = some b := rfl
theorem truth_int (st : Store) (i : Int) : truth st (.int i) = some (i != 0) := rfl

section
variable (F : FT) (env : Env) (st : Store)
theorem ev_v (i : Nat) : ev F (.v i) env st = (match env[i]? with | some (some d) => .ok d st | _ => .bad) := rfl
theorem ev_c (d : D) : ev F (.c d) env st = .ok d st := rfl
theorem ev_op (o : Op) (es : List Ex) : ev F (.op o es) env st = (evs F es env st).bind fun ds st1 => opSem o ds st1 := rfl
theorem ev_call (f : Nat) (es : List Ex) : ev F (.call f es) env st = (evs F es env st).bind fun ds st1 => F f ds st1 := rfl
theorem ev_and (a b : Ex) : ev F (.and a b) env st = (ev F a env st).bind fun x st1 => match truth st1 x with
    | some true => ev F b env st1
    | some false => .ok x st1
    | none => .bad := rfl
theorem ev_or (a b : Ex) : ev F (.or a b) env st = (ev F a env st).bind fun x st1 => match truth st1 x with
    | some true => .ok x st1
    | some false => ev F b env st1
    | none => .bad := rfl
theorem ev_not (a : Ex) : ev F (.not a) env st = (ev F a env st).bind fun x st1 => match truth st1 x with
    | some k => .ok (.bl (!k)) st1
    | none => .bad := rfl
theorem ev_ifx (c a b : Ex) : ev F (.ifx c a b) env st = (ev F c env st).bind fun x st1 => match truth st1 x with
    | some true => ev F a env st1
    | some false => ev F b env st1
    | none => .bad := rfl
theorem evs_nil : evs F [] env st = .ok [] st := rfl
theorem evs_cons (e : Ex) (es : List Ex) : evs F (e :: es) env st = (ev F e env st).bind fun d st1 => (evs F es env st1).bind fun ds st2 => .ok (d :: ds) st2 := rfl
theorem xs_asg (t : Tg) (e : Ex) : xs F (.asg t e) env st = (ev F e env st).toS env fun d st1 => match setT t d env with
    | some env' => .next env' st1
    | none => .bad := rfl
theorem xs_expr (e : Ex) : xs F (.expr e) env st = (ev F e env st).toS env fun _ st1 => .next env st1 := rfl
theorem xs_ret (e : Ex) : xs F (.ret e) env st = (ev F e env st).toS env fun d st1 => .ret d st1 := rfl
theorem xs_ite (c : Ex) (t f : List Sx) : xs F (.ite c t f) env st = (ev F c env st).toS env fun x st1 => match truth st1 x with
    | some true => xss F t env st1
    | some false => xss F f env st1
    | none => .bad := rfl
theorem xs_brk : xs F .brk env st = .brk env st := rfl
theorem xs_cnt : xs F .cnt env st = .cnt env st := rfl
theorem xs_pass : xs F .pass env st = .next env st := rfl
theorem xss_nil : xss F [] env st = .next env st := rfl
theorem xss_cons (s : Sx) (ss : List Sx) : xss F (s :: ss) env st = (xs F s env st).seq fun env' st' => xss F ss env' st' := rfl
theorem setT_nm (i : Nat) (d : D) : setT (.nm i) d env = some (env.set i (some d)) := rfl
def compOne (own : List Nat) (t : Tg) (ifs : List Ex) (elt : Ex) : D → Store → R (Option D) := fun x st2 => match setT t x (wipeE own env) with
  | some env' => (evTests F ifs env' st2).bind fun ok st3 => if ok then (ev F elt env' st3).bind fun d st4 => .ok (some d) st4 else .ok none st3
  | none => .bad
theorem comp_eq {own : List Nat} {t : Tg} {k : Ik} {src ifs : List Ex} {elt : Ex} {ds : List D} {st1 : Store} {S : Src} (h : evs F src env st = .ok ds st1) (hS : srcOf k ds st1 = some S) :
    ev F (.comp own t k src ifs elt) env st = evComp S.same st1.length (compOne F env own t ifs elt) S.items (st1 ++ [.lst []]) := by
  show (evs F src env st).bind _ = _
  rw [h, bind_ok]
  show (match srcOf k ds st1 with | some S => _ | none => _) = _
  rw [hS]; rfl
theorem one_eq {own : List Nat} {t : Tg} {elt : Ex} {x d : D} {env' : Env} {st' : Store} (h : setT t x (wipeE own env) = some env') (he : ev F elt env' st = .ok d st') : compOne F env own t [] elt x st = .ok (some d) st' := by
  show (match setT t x (wipeE own env) with | some env' => _ | none => _) = _
  rw [h]
  show (ev F elt env' st).bind _ = _
  rw [he]; rfl
theorem for_eq {t : Tg} {k : Ik} {src : List Ex} {body : List Sx} {ds : List D} {st1 : Store} {S : Src} (h : evs F src env st = .ok ds st1) (hS : srcOf k ds st1 = some S) :
    xs F (.for_ t k src body) env st = evFor S.same (fun x env2 st2 => match setT t x env2 with
        | some env' => xss F body env' st2
        | none => .bad) S.items env st1 := by
  show (evs F src env st).toS env _ = _
  rw [h, toS_ok]
  show (match srcOf k ds st1 with | some S => _ | none => _) = _
  rw [hS]
  try rfl
end
theorem xss_step {F : FT} {s : Sx} {ss : List Sx} {env env' : Env} {st st' : Store} {r : SR} (h : xs F s env st = .next env' st') (h2 : xss F ss env' st' = r) : xss F (s :: ss) env st = r := by
  rw [xss_cons, h, seq_next, h2]
theorem xss_append (F : FT) : ∀ (a b : List Sx) (env : Env) (st : Store), xss F (a ++ b) env st = (xss F a env st).seq fun env' st' => xss F b env' st'
  | [], b, env, st => rfl
  | s :: a, b, env, st => by
    show (xs F s env st).seq (fun env' st' => xss F (a ++ b) env' st') = ((xs F s env st).seq fun env' st' => xss F a env' st').seq _
    cases xs F s env st with
    | next env' st' => exact xss_append F a b env' st'
    | _ => rfl
theorem xss_one (F : FT) (s : Sx) (env : Env) (st : Store) : xss F [s] env st = xs F s env st := by
  show (xs F s env st).seq _ = _
  cases xs F s env st <;> rfl
/-! ### the operations, one by one -/
section
variable (st : Store) (i j : Int) (a b : D) (p q : Bool)
theorem o_addI : opSem .add [.int i, .int j] st = .ok (.int (i + j)) st := rfl
theorem o_subI : opSem .sub [.int i, .int j] st = .ok (.int (i - j)) st := rfl
theorem o_mulR (h : big64 j = true) : opSem .mul [.int i, .int j] st = .ok (.int (i * j)) st := by
  show (if (big64 i || big64 j) = true then _ else _) = _
  rw [h, Bool.or_true, if_pos rfl]
theorem o_mulL (h : big64 i = true) : opSem .mul [.int i, .int j] st = .ok (.int (i * j)) st := by
  show (if (big64 i || big64 j) = true then _ else _) = _
  rw [h, Bool.true_or, if_pos rfl]
theorem o_mod (h : 0 < j) : opSem .mod [.int i, .int j] st = .ok (.int (i % j)) st := if_pos h
theorem o_fdiv (h : 0 < j) (h2 : j < 1073741824) : opSem .fdiv [.int i, .int j] st = .ok (.int (i / j)) st := if_pos ⟨h, h2⟩
theorem o_toInt : opSem .toInt [.int i] st = .ok (.int i) st := rfl
theorem o_toIntB : opSem .toInt [.bl p] st = .ok (.int (if p then 1 else 0)) st := rfl
theorem o_asInt : opSem .asInt [.int i] st = .ok (.int i) st := rfl
theorem o_neg : opSem .neg [.int i] st = .ok (.int (-i)) st := rfl
theorem o_ltI : opSem .lt [.int i, .int j] st = .ok (.bl (decide (i < j))) st := rfl
theorem o_leI : opSem .le [.int i, .int j] st = .ok (.bl (decide (i ≤ j))) st := rfl
theorem o_gtI : opSem .gt [.int i, .int j] st = .ok (.bl (decide (j < i))) st := rfl
theorem o_geI : opSem .ge [.int i, .int j] st = .ok (.bl (decide (j ≤ i))) st := rfl
theorem o_eq : opSem .eq [a, b] st = (match eqSem a b st with | some k => .ok (.bl k) st | none => .bad) := rfl
theorem o_ne : opSem .ne [a, b] st = (match eqSem a b st with | some k => .ok (.bl (!k)) st | none => .bad) := rfl
theorem o_eqI : opSem .eq [.int i, .int j] st = .ok (.bl (i == j)) st := rfl
theorem o_neI : opSem .ne [.int i, .int j] st = .ok (.bl (!(i == j))) st := rfl
theorem o_eqB : opSem .eq [.bl p, .bl q] st = .ok (.bl (p == q)) st := rfl
theorem o_neB : opSem .ne [.bl p, .bl q] st = .ok (.bl (!(p == q))) st := rfl
theorem o_eqS (x y : List Nat) : opSem .eq [.str x, .str y] st = .ok (.bl (x == y)) st := rfl
theorem o_neS (x y : List Nat) : opSem .ne [.str x, .str y] st = .ok (.bl (!(x == y))) st := rfl
theorem o_isB : opSem .is [.bl p, .bl q] st = .ok (.bl (p == q)) st := rfl
theorem o_isnotB : opSem .isnot [.bl p, .bl q] st = .ok (.bl (p != q)) st := rfl
theorem o_len : opSem .len [a] st = lenSem a st := rfl
theorem o_ix : opSem .ix [a, .int i] st = ixSem a i st := rfl
theorem o_slF : opSem (.sl true false) [a, .int i] st = slSem a (some i) none st := rfl
theorem o_slT : opSem (.sl false true) [a, .int i] st = slSem a none (some i) st := rfl
theorem o_slFT : opSem (.sl true true) [a, .int i, .int j] st = slSem a (some i) (some j) st := rfl
theorem o_add : opSem .add [a, b] st = addSem a b st := rfl
theorem o_tup (ds : List D) (h : ds.length ≤ SZ) : opSem .tup ds st = .ok (.tup ds) st := if_pos h
theorem o_lst (ds : List D) (h : ds.length ≤ SZ) : opSem .lst ds st = .ok (.loc st.length) (st ++ [.lst ds]) := if_pos h
theorem o_toTup : opSem .toTup [a] st = (match itemsD st a with | some xs => .ok (.tup xs) st | none => .bad) := rfl
theorem o_isinB (t : Ty) : opSem (.isin t) [.bl p] st = .ok (.bl (isTy .bool t)) st := rfl
theorem o_isinI (t : Ty) : opSem (.isin t) [.int i] st = .ok (.bl (isTy .int t)) st := rfl
end
theorem at0 {α : Type} (x : α) (xs : List α) : atI (x :: xs) 0 = some x := atI_nat (j := 0) rfl
theorem at1 {α : Type} (x y : α) (xs : List α) : atI (x :: y :: xs) 1 = some y := atI_nat (j := 1) rfl
theorem at2 {α : Type} (x y z : α) (xs : List α) : atI (x :: y :: z :: xs) 2 = some z := atI_nat (j := 2) rfl
theorem ixN_nat {n j : Nat} (h : j < n) : ixN n (j : Int) = some j := by
  unfold ixN
  rw [if_pos (by omega), if_pos (by omega)]
  rfl
theorem ixN_20 (x y : D) : ixN [x, y].length 0 = some 0 := ixN_nat (n := 2) (j := 0) (by decide)
theorem ixN_21 (x y : D) : ixN [x, y].length 1 = some 1 := ixN_nat (n := 2) (j := 1) (by decide)
theorem len_flst (st : Store) (xs : List D) : lenSem (.flst xs) st = .ok (.int xs.length) st := rfl
theorem len_tup (st : Store) (xs : List D) : lenSem (.tup xs) st = .ok (.int xs.length) st := rfl

/-! ### texts, names -/
def nameD (n : List (List Nat)) : D := .tup (n.map .str)
theorem derefs_strs (g : Nat → Option D) : ∀ n : List (List Nat), derefDs g (n.map D.str) = some (n.map D.str)
  | [] => rfl
  | x :: xs => by
    show (match derefD g (.str x), derefDs g (xs.map D.str) with | some y, some ys => some (y :: ys) | _, _ => none) = _
    rw [derefs_strs g xs]; rfl
theorem pure_name (st : Store) (n : List (List Nat)) : pureD st (nameD n) = some (nameD n) := by
  show (derefDs _ (n.map D.str)).map D.tup = _
  rw [derefs_strs]; rfl
theorem deep_strs : ∀ n : List (List Nat), deepDs (n.map D.str) = 0
  | [] => rfl
  | x :: xs => by show max 0 (deepDs (xs.map D.str)) = 0; rw [deep_strs xs]; rfl
theorem deep_name (n : List (List Nat)) : deepD (nameD n) = 1 := by show deepDs (n.map D.str) + 1 = 1; rw [deep_strs]
theorem eqs_strs : ∀ a b : List (List Nat), eqDs (a.map D.str) (b.map D.str) = decide (a = b)
  | [], [] => rfl
  | [], _ :: _ => by simp [eqDs]
  | _ :: _, [] => by simp [eqDs]
  | x :: xs, y :: ys => by
    show ((x == y) && eqDs (xs.map D.str) (ys.map D.str)) = _
    rw [eqs_strs xs ys]
    by_cases h1 : x = y <;> by_cases h2 : xs = ys <;> simp [h1, h2]
theorem eq_name (a b : List (List Nat)) : eqD (nameD a) (nameD b) = decide (a = b) := eqs_strs a b
theorem eqSem_name (st : Store) (a b : List (List Nat)) : eqSem (nameD a) (nameD b) st = some (decide (a = b)) := by
  unfold eqSem
  rw [pure_name, pure_name]
  simp only [deep_name, eq_name]
  rfl
theorem eqSem_int (st : Store) (a b : Int) : eqSem (.int a) (.int b) st = some (a == b) := rfl
theorem eqSem_bl (st : Store) (a b : Bool) : eqSem (.bl a) (.bl b) st = some (a == b) := rfl
theorem eqSem_str (st : Store) (a b : List Nat) : eqSem (.str a) (.str b) st = some (a == b) := rfl
theorem cut_map {α β : Type} (f : α → β) (xs : List α) (lo hi : Option Int) : cutD (xs.map f) lo hi = (cutD xs lo hi).map f := by
  unfold cutD
  rw [List.length_map, List.map_take, List.map_drop]
theorem cut_from {α : Type} (xs : List α) (i : Nat) : cutD xs (some (i : Int)) none = xs.drop i := by
  unfold cutD
  rw [HT.sIx_nat, HT.sIx_none]
  rcases Nat.le_total i xs.length with h | h
  · rw [Nat.min_eq_left h]
    exact List.take_of_length_le (by rw [List.length_drop]; exact Nat.le_refl _)
  · rw [Nat.min_eq_right h, List.drop_length, List.drop_eq_nil_of_le h]
    simp
end Z

set_option autoImplicit false
set_option maxHeartbeats 1000000
namespace Z
open PySem L2
/-- the draw that every law has -/
def drawB : List Sx :=
  [.ite (.op .eq [.op .ix [.v 0, .c (.int 1)], .c (.int 0)]) [.asg (.nm 3) (.c (.int 0)), .ite (.op .gt [.op .len [.v 1],
    .c (.int 0)]) [.asg (.nm 3) (.op .ix [.v 1, .op .mod [.op .ix [.v 0, .c (.int 0)], .op .len [.v 1]]])] [], .ite (.op .lt [.v 3,
    .c (.int 0)]) [.asg (.nm 3) (.op .sub [.c (.int 1), .op .mul [.c (.int 2), .v 3]])] [],
    .asg (.nm 4) (.op .mod [.op .toInt [.op .mul [.op .add [.op .add [.v 3, .op .mul [.op .ix [.v 0, .c (.int 0)], .c (.int 7919)]], .c (.int 1)],
    .c (.int 48271)]], .c (.int 2147483647)]), .setix (.v 0) (.c (.int 1)) (.op .mod [.op .toInt [.op .add [.op .mul [.v 4, .c (.int 69621)],
    .op .mul [.op .ix [.v 0, .c (.int 0)], .c (.int 104729)]]], .c (.int 4294967291)]), .ite (.and (.op .ge [.v 3, .op .pow [.c (.int 10),
    .c (.int 18)]]) (.op .lt [.op .ix [.v 0, .c (.int 0)], .op .len [.v 1]])) [.setix (.v 0) (.c (.int 1)) (.v 3)] [],
    .setix (.v 0) (.c (.int 0)) (.op .add [.op .ix [.v 0, .c (.int 0)], .c (.int 1)])] [], .asg (.nm 5) (.op .mod [.op .toInt [.op .ix [.v 0,
    .c (.int 1)]], .v 2]), .setix (.v 0) (.c (.int 1)) (.op .fdiv [.op .ix [.v 0, .c (.int 1)], .v 2]), .ret (.v 5)]
theorem set_same {st : Store} {a : Nat} {o o' : DO} (h : st[a]? = some o) : (st.set a o')[a]? = some o' := by
  obtain ⟨hl, _⟩ := List.getElem?_eq_some_iff.mp h
  exact List.getElem?_set_self hl
theorem set_set {st : Store} {a : Nat} {o o' : DO} : (st.set a o).set a o' = st.set a o' := List.set_set _
theorem ix_loc {st : Store} {a : Nat} {xs : List D} (h : st[a]? = some (.lst xs)) (i : Int) : ixSem (.loc a) i st = (match atI xs i with | some d => .ok d st | none => .bad) := by
  show (match (match st[a]? with | some (.lst xs) => some xs | _ => none) with | some xs => (match atI xs i with | some d => R.ok d st | none => .bad) | none => .bad) = _
  rw [h]
theorem ix_flst {st : Store} {xs : List D} (i : Int) : ixSem (.flst xs) i st = (match atI xs i with | some d => .ok d st | none => .bad) := rfl
theorem atI_lt {α : Type} {xs : List α} {j : Nat} (h : j < xs.length) : atI xs (j : Int) = some xs[j] := atI_nat (List.getElem?_eq_getElem h)
theorem draw_mid (F : FT) {st : Store} {a : Nat} {i j size : Int} (sc : D) (env3 env4 : Option D) (h : st[a]? = some (.lst [.int i, .int j])) (hi : 0 ≤ i) (hj : 0 ≤ j) (hs : 0 < size) (hs2 : size < 1073741824) :
    ∃ d i' j', (xss F (drawB.drop 1) [some (.loc a), some sc, some (.int size), env3, env4, none] st).fin = .ok (.int d) (st.set a (.lst [.int i', .int j'])) ∧ 0 ≤ d ∧ d < size ∧ 0 ≤ i' ∧ 0 ≤ j' := by
  refine ⟨j % size, i, j / size, ?_, Int.emod_nonneg _ (by omega), Int.emod_lt_of_pos _ hs, hi, Int.ediv_nonneg hj (by omega)⟩
  simp only [drawB, List.drop_succ_cons, List.drop_zero, xss, xs, ev, evs, List.getElem?_cons_zero, List.getElem?_cons_succ, bind_ok, toS_ok, o_ix, ix_loc h, at0, at1, setT, seq_next, o_toInt, o_mod _ _ _ hs,
    o_fdiv _ _ _ hs hs2, List.set_cons_succ, List.set_cons_zero, h, ixN_21, seq_ret, fin_ret]
theorem big_2 : big64 2 = true := by decide
theorem big_7919 : big64 7919 = true := by decide
theorem big_48271 : big64 48271 = true := by decide
theorem big_69621 : big64 69621 = true := by decide
theorem big_104729 : big64 104729 = true := by decide
/-- what stands in the state's second place once the first branch has run, behind the cell -/
theorem draw_cell (F : FT) {st : Store} {a : Nat} {i cell : Int} {ns : List Int} (sz : D) (env4 : Option D) (h : st[a]? = some (.lst [.int i, .int 0])) (hi : 0 ≤ i) (hc : 0 ≤ cell) (B : List Sx) (hB : B = [.asg (.nm 4) (.op .mod [.op .toInt [.op .mul [.op .add [.op .add [.v 3, .op .mul [.op .ix [.v 0, .c (.int 0)], .c (.int 7919)]], .c (.int 1)],
    .c (.int 48271)]], .c (.int 2147483647)]), .setix (.v 0) (.c (.int 1)) (.op .mod [.op .toInt [.op .add [.op .mul [.v 4, .c (.int 69621)],
    .op .mul [.op .ix [.v 0, .c (.int 0)], .c (.int 104729)]]], .c (.int 4294967291)]), .ite (.and (.op .ge [.v 3, .op .pow [.c (.int 10),
    .c (.int 18)]]) (.op .lt [.op .ix [.v 0, .c (.int 0)], .op .len [.v 1]])) [.setix (.v 0) (.c (.int 1)) (.v 3)] [],
    .setix (.v 0) (.c (.int 0)) (.op .add [.op .ix [.v 0, .c (.int 0)], .c (.int 1)])]) :
    ∃ e4 i' j', xss F B [some (.loc a), some (.flst (ns.map .int)), some sz, some (.int cell), env4, none] st = .next [some (.loc a), some (.flst (ns.map .int)), some sz, some (.int cell), e4, none] (st.set a (.lst [.int i', .int j'])) ∧ 0 ≤ i' ∧ 0 ≤ j' := by
  subst hB
  have h1 : ∀ x, (st.set a (.lst [.int i, .int x]))[a]? = some (.lst [.int i, .int x]) := fun x => set_same h
  have hp : opSem .pow [.int 10, .int 18] = fun st => .ok (.int (10 ^ 18)) st := by funext st; rfl
  generalize hm : (cell + i * 7919 + 1) * 48271 % 2147483647 = m
  generalize hn : (m * 69621 + i * 104729) % 4294967291 = n
  have hn0 : 0 ≤ n := by rw [← hn]; exact Int.emod_nonneg _ (by decide)
  by_cases hb : (10 : Int) ^ 18 ≤ cell
  · by_cases hb2 : i < (ns.map D.int).length
    · refine ⟨some (.int m), i + 1, cell, ?_, by omega, hc⟩
      simp only [xss, xs, ev, evs, List.getElem?_cons_zero, List.getElem?_cons_succ, bind_ok, toS_ok, o_ix, ix_loc h, ix_loc (h1 _), at0, at1, setT, seq_next, o_toInt, o_addI, o_mulR _ _ _ big_7919, o_mulR _ _ _ big_48271,
        o_mulR _ _ _ big_69621, o_mulR _ _ _ big_104729, o_mod _ _ 2147483647 (by decide), o_mod _ _ 4294967291 (by decide), List.set_cons_succ, List.set_cons_zero, hm, hn, h, h1, ixN_21, ixN_20, o_geI, hp, decide_eq_true hb, truth_bl,
        o_len, len_flst, o_ltI, decide_eq_true hb2, set_set]
    · refine ⟨some (.int m), i + 1, n, ?_, by omega, hn0⟩
      simp only [xss, xs, ev, evs, List.getElem?_cons_zero, List.getElem?_cons_succ, bind_ok, toS_ok, o_ix, ix_loc h, ix_loc (h1 _), at0, at1, setT, seq_next, o_toInt, o_addI, o_mulR _ _ _ big_7919, o_mulR _ _ _ big_48271,
        o_mulR _ _ _ big_69621, o_mulR _ _ _ big_104729, o_mod _ _ 2147483647 (by decide), o_mod _ _ 4294967291 (by decide), List.set_cons_succ, List.set_cons_zero, hm, hn, h, h1, ixN_21, ixN_20, o_geI, hp, decide_eq_true hb, truth_bl,
        o_len, len_flst, o_ltI, decide_eq_false hb2, set_set]
  · refine ⟨some (.int m), i + 1, n, ?_, by omega, hn0⟩
    simp only [xss, xs, ev, evs, List.getElem?_cons_zero, List.getElem?_cons_succ, bind_ok, toS_ok, o_ix, ix_loc h, ix_loc (h1 _), at0, at1, setT, seq_next, o_toInt, o_addI, o_mulR _ _ _ big_7919, o_mulR _ _ _ big_48271,
      o_mulR _ _ _ big_69621, o_mulR _ _ _ big_104729, o_mod _ _ 2147483647 (by decide), o_mod _ _ 4294967291 (by decide), List.set_cons_succ, List.set_cons_zero, hm, hn, h, h1, ixN_21, ixN_20, o_geI, hp, decide_eq_false hb, truth_bl,
      o_len, len_flst, o_ltI, set_set]
/-- THE DRAW: some digit below the size; the state is a pair of numbers that aren't negative -/
theorem draw_spec {P : List Fd} {f : Nat} (hP : P[f]? = some ⟨6, 3, drawB⟩) (k : Nat) {st : Store} {a : Nat} {i j size : Int} {ns : List Int} (h : st[a]? = some (.lst [.int i, .int j])) (hi : 0 ≤ i) (hj : 0 ≤ j) (hs : 0 < size) (hs2 : size < 1073741824) :
    ∃ d i' j', run P (k + 1) f [.loc a, .flst (ns.map .int), .int size] st = .ok (.int d) (st.set a (.lst [.int i', .int j'])) ∧ 0 ≤ d ∧ d < size ∧ 0 ≤ i' ∧ 0 ≤ j' := by
  rw [run_eq hP k _ _ rfl]
  show ∃ d i' j', (xss (run P k) drawB [some (.loc a), some (.flst (ns.map .int)), some (.int size), none, none, none] st).fin = _ ∧ _
  have cut : ∀ (env : Env) (st' : Store) (hd : Sx), drawB.head? = some hd → xs (run P k) hd [some (.loc a), some (.flst (ns.map .int)), some (.int size), none, none, none] st = .next env st' →
      xss (run P k) drawB [some (.loc a), some (.flst (ns.map .int)), some (.int size), none, none, none] st = xss (run P k) (drawB.drop 1) env st' := by
    intro env st' hd h1 h2
    have : drawB = hd :: drawB.drop 1 := by
      cases h1; rfl
    rw [this]
    show (xs _ hd _ _).seq _ = _
    rw [h2]
    rfl
  by_cases hj0 : j = 0
  · subst hj0
    obtain ⟨cell, hc, hcell⟩ : ∃ cell : Int, 0 ≤ cell ∧ xss (run P k) [.asg (.nm 3) (.c (.int 0)), .ite (.op .gt [.op .len [.v 1], .c (.int 0)]) [.asg (.nm 3) (.op .ix [.v 1, .op .mod [.op .ix [.v 0, .c (.int 0)], .op .len [.v 1]]])] [],
        .ite (.op .lt [.v 3, .c (.int 0)]) [.asg (.nm 3) (.op .sub [.c (.int 1), .op .mul [.c (.int 2), .v 3]])] []] [some (.loc a), some (.flst (ns.map .int)), some (.int size), none, none, none] st =
        .next [some (.loc a), some (.flst (ns.map .int)), some (.int size), some (.int cell), none, none] st := by
      have neg : ∀ c0 : Int, ∃ cell : Int, 0 ≤ cell ∧ xs (run P k) (.ite (.op .lt [.v 3, .c (.int 0)]) [.asg (.nm 3) (.op .sub [.c (.int 1), .op .mul [.c (.int 2), .v 3]])] []) [some (.loc a), some (.flst (ns.map .int)), some (.int size), some (.int c0), none, none] st =
          .next [some (.loc a), some (.flst (ns.map .int)), some (.int size), some (.int cell), none, none] st := by
        intro c0
        by_cases h0 : c0 < 0
        · refine ⟨1 - 2 * c0, by omega, ?_⟩
          simp only [xss, xs, ev, evs, List.getElem?_cons_zero, List.getElem?_cons_succ, bind_ok, toS_ok, o_ltI, decide_eq_true h0, truth_bl, o_mulL _ _ _ big_2, o_subI, setT, seq_next, List.set_cons_succ, List.set_cons_zero]
        · refine ⟨c0, by omega, ?_⟩
          simp only [xss, xs, ev, evs, List.getElem?_cons_zero, List.getElem?_cons_succ, bind_ok, toS_ok, o_ltI, decide_eq_false h0, truth_bl]
      by_cases hl : (0 : Int) < (ns.map D.int).length
      · have hlt : (i % ((ns.map D.int).length : Int)).toNat < (ns.map D.int).length := by
          have h1 := Int.emod_lt_of_pos i hl
          have h2 := Int.emod_nonneg i (by omega : ((ns.map D.int).length : Int) ≠ 0)
          omega
        have hat : atI (ns.map D.int) (i % ((ns.map D.int).length : Int)) = some (.int (ns[(i % ((ns.map D.int).length : Int)).toNat]'(by simpa using hlt))) := by
          have h2 := Int.emod_nonneg i (by omega : ((ns.map D.int).length : Int) ≠ 0)
          have e := atI_lt hlt
          rw [Int.toNat_of_nonneg h2] at e
          rw [e, List.getElem_map]
        obtain ⟨cell, hc, hx⟩ := neg (ns[(i % ((ns.map D.int).length : Int)).toNat]'(by simpa using hlt))
        refine ⟨cell, hc, ?_⟩
        refine Eq.trans (xss_append (run P k) [.asg (.nm 3) (.c (.int 0)), .ite (.op .gt [.op .len [.v 1], .c (.int 0)]) [.asg (.nm 3) (.op .ix [.v 1, .op .mod [.op .ix [.v 0, .c (.int 0)], .op .len [.v 1]]])] []] [_] _ _) ?_
        have e : xss (run P k) [.asg (.nm 3) (.c (.int 0)), .ite (.op .gt [.op .len [.v 1], .c (.int 0)]) [.asg (.nm 3) (.op .ix [.v 1, .op .mod [.op .ix [.v 0, .c (.int 0)], .op .len [.v 1]]])] []] [some (.loc a), some (.flst (ns.map .int)), some (.int size), none, none, none] st =
            .next [some (.loc a), some (.flst (ns.map .int)), some (.int size), some (.int (ns[(i % ((ns.map D.int).length : Int)).toNat]'(by simpa using hlt))), none, none] st := by
          simp only [xss, xs, ev, evs, List.getElem?_cons_zero, List.getElem?_cons_succ, bind_ok, toS_ok, setT, seq_next, List.set_cons_succ, List.set_cons_zero, o_len, len_flst, o_gtI, decide_eq_true hl, truth_bl, o_ix, ix_loc h, at0, o_mod _ _ _ hl, ix_flst, hat]
        rw [e, seq_next, xss_one, hx]
      · obtain ⟨cell, hc, hx⟩ := neg 0
        refine ⟨cell, hc, ?_⟩
        refine Eq.trans (xss_append (run P k) [.asg (.nm 3) (.c (.int 0)), .ite (.op .gt [.op .len [.v 1], .c (.int 0)]) [.asg (.nm 3) (.op .ix [.v 1, .op .mod [.op .ix [.v 0, .c (.int 0)], .op .len [.v 1]]])] []] [_] _ _) ?_
        have e : xss (run P k) [.asg (.nm 3) (.c (.int 0)), .ite (.op .gt [.op .len [.v 1], .c (.int 0)]) [.asg (.nm 3) (.op .ix [.v 1, .op .mod [.op .ix [.v 0, .c (.int 0)], .op .len [.v 1]]])] []] [some (.loc a), some (.flst (ns.map .int)), some (.int size), none, none, none] st =
            .next [some (.loc a), some (.flst (ns.map .int)), some (.int size), some (.int 0), none, none] st := by
          simp only [xss, xs, ev, evs, List.getElem?_cons_zero, List.getElem?_cons_succ, bind_ok, toS_ok, setT, seq_next, List.set_cons_succ, List.set_cons_zero, o_len, len_flst, o_gtI, decide_eq_false hl, truth_bl]
        rw [e, seq_next, xss_one, hx]
    have hcell : ∃ e4 i' j', xs (run P k) (drawB.head (by decide)) [some (.loc a), some (.flst (ns.map .int)), some (.int size), none, none, none] st =
        .next [some (.loc a), some (.flst (ns.map .int)), some (.int size), some (.int cell), e4, none] (st.set a (.lst [.int i', .int j'])) ∧ 0 ≤ i' ∧ 0 ≤ j' := by
      obtain ⟨e4, i', j', he, r⟩ := draw_cell (run P k) (cell := cell) (ns := ns) (.int size) none h hi hc _ rfl
      refine ⟨e4, i', j', ?_, r⟩
      show (ev _ _ _ _).toS _ _ = _
      have ht : ev (run P k) (.op .eq [.op .ix [.v 0, .c (.int 1)], .c (.int 0)]) [some (.loc a), some (.flst (ns.map .int)), some (.int size), none, none, none] st = .ok (.bl true) st := by
        simp only [ev, evs, List.getElem?_cons_zero, List.getElem?_cons_succ, bind_ok, o_ix, ix_loc h, at1, o_eqI, beq_self_eq_true]
      rw [ht]
      simp only [toS_ok, truth_bl]
      refine Eq.trans (xss_append (run P k) [.asg (.nm 3) (.c (.int 0)), .ite (.op .gt [.op .len [.v 1], .c (.int 0)]) [.asg (.nm 3) (.op .ix [.v 1, .op .mod [.op .ix [.v 0, .c (.int 0)], .op .len [.v 1]]])] [],
        .ite (.op .lt [.v 3, .c (.int 0)]) [.asg (.nm 3) (.op .sub [.c (.int 1), .op .mul [.c (.int 2), .v 3]])] []] _ _ _) ?_
      rw [hcell]
      exact he
    obtain ⟨e4, i', j', he, hi', hj'⟩ := hcell
    rw [cut _ _ _ rfl he]
    obtain ⟨d, i2, j2, hd, r⟩ := draw_mid (run P k) (.flst (ns.map .int)) (some (.int cell)) e4 (set_same (o' := .lst [.int i', .int j']) h) hi' hj' hs hs2
    rw [set_set] at hd
    exact ⟨d, i2, j2, hd, r⟩
  · have he : xs (run P k) (drawB.head (by decide)) [some (.loc a), some (.flst (ns.map .int)), some (.int size), none, none, none] st = .next [some (.loc a), some (.flst (ns.map .int)), some (.int size), none, none, none] st := by
      simp only [drawB, List.head_cons, xss, xs, ev, evs, List.getElem?_cons_zero, List.getElem?_cons_succ, bind_ok, toS_ok, o_ix, ix_loc h, at1, o_eqI, truth_bl, beq_eq_false_iff_ne.mpr hj0]
    rw [cut _ _ _ rfl he]
    exact draw_mid (run P k) _ none none h hi hj hs hs2
end Z

set_option autoImplicit false
set_option maxHeartbeats 1000000
namespace Z
open PySem L2

/-! # The law's state, loops, comprehensions -/
inductive All2 {α β : Type} (R : α → β → Prop) : List α → List β → Prop
  | nil : All2 R [] []
  | cons {a : α} {b : β} {as : List α} {bs : List β} : R a b → All2 R as bs → All2 R (a :: as) (b :: bs)
theorem All2.length {α β : Type} {R : α → β → Prop} {as : List α} {bs : List β} (h : All2 R as bs) : as.length = bs.length := by
  induction h with
  | nil => rfl
  | cons _ _ ih => rw [List.length_cons, List.length_cons, ih]
/-- the law's state stands at a -/
def StOk (a : Nat) (st : Store) : Prop := ∃ i j : Int, st[a]? = some (.lst [.int i, .int j]) ∧ 0 ≤ i ∧ 0 ≤ j
/-- all that stood stands, but what is at a -/
def Fr (a : Nat) (st st' : Store) : Prop := st.length ≤ st'.length ∧ ∀ l, l < st.length → l ≠ a → st'[l]? = st[l]?
theorem Fr.refl {a : Nat} (st : Store) : Fr a st st := ⟨Nat.le_refl _, fun _ _ _ => rfl⟩
theorem Fr.trans {a : Nat} {s1 s2 s3 : Store} (h : Fr a s1 s2) (g : Fr a s2 s3) : Fr a s1 s3 :=
  ⟨Nat.le_trans h.1 g.1, fun l hl ne => (g.2 l (Nat.lt_of_lt_of_le hl h.1) ne).trans (h.2 l hl ne)⟩
theorem Fr.set {a : Nat} {st : Store} (o : DO) : Fr a st (st.set a o) := ⟨by rw [List.length_set]; exact Nat.le_refl _, fun l _ ne => List.getElem?_set_ne (Ne.symm ne)⟩
theorem Fr.app {a : Nat} {st : Store} (g : Store) : Fr a st (st ++ g) := ⟨by rw [List.length_append]; omega, fun l hl _ => List.getElem?_append_left hl⟩
theorem Fr.at_new {a : Nat} {s0 st : Store} {l : Nat} (h : Fr a s0 st) (hl : s0.length ≤ l) (o : DO) : Fr a s0 (st.set l o) :=
  ⟨by rw [List.length_set]; exact h.1, fun m hm ne => by rw [List.getElem?_set_ne (by omega)]; exact h.2 m hm ne⟩
theorem StOk.app {a : Nat} {st : Store} (h : StOk a st) (g : Store) : StOk a (st ++ g) := by
  obtain ⟨i, j, e, r⟩ := h
  obtain ⟨hl, _⟩ := List.getElem?_eq_some_iff.mp e
  exact ⟨i, j, by rw [List.getElem?_append_left hl]; exact e, r⟩
theorem StOk.lt {a : Nat} {st : Store} (h : StOk a st) : a < st.length := by
  obtain ⟨i, j, e, r⟩ := h
  exact (List.getElem?_eq_some_iff.mp e).1
theorem StOk.set {a l : Nat} {st : Store} (h : StOk a st) (hl : l ≠ a) (o : DO) : StOk a (st.set l o) := by
  obtain ⟨i, j, e, r⟩ := h
  exact ⟨i, j, by rw [List.getElem?_set_ne hl]; exact e, r⟩
theorem draw {P : List Fd} {f : Nat} (hP : P[f]? = some ⟨6, 3, drawB⟩) (k : Nat) {st : Store} {a : Nat} {size : Int} {ns : List Int} (h : StOk a st) (hs : 0 < size) (hs2 : size < 1073741824) :
    ∃ (d : Int) (st' : Store), run P (k + 1) f [.loc a, .flst (ns.map .int), .int size] st = .ok (.int d) st' ∧ 0 ≤ d ∧ d < size ∧ StOk a st' ∧ Fr a st st' := by
  obtain ⟨i, j, e, hi, hj⟩ := h
  obtain ⟨d, i', j', hr, h1, h2, h3, h4⟩ := draw_spec hP k (ns := ns) e hi hj hs hs2
  exact ⟨d, _, hr, h1, h2, ⟨i', j', set_same e, h3, h4⟩, Fr.set _⟩

/-- a comprehension without refusals: each item gives a datum that stands in R to it -/
theorem evComp_ok {same : Store → Bool} {l : Nat} {one : D → Store → R (Option D)} (I : Store → Prop) (R : D → D → Prop) (hset : ∀ st ds, I st → I (st.set l (.lst ds))) (hsame : ∀ st, I st → same st = true) :
    ∀ (items acc : List D) (st : Store), (∀ x, x ∈ items → ∀ st, I st → l < st.length → ∃ d st', one x st = .ok (some d) st' ∧ R x d ∧ I st' ∧ st'[l]? = st[l]?) → I st → st[l]? = some (.lst acc) → acc.length + items.length ≤ SZ →
      ∃ ds st', evComp same l one items st = .ok (.loc l) st' ∧ I st' ∧ st'[l]? = some (.lst (acc ++ ds)) ∧ All2 R items ds
  | [], acc, st, _, hi, hl, _ => ⟨[], st, by rw [evComp, if_pos (hsame st hi)], hi, by rw [List.append_nil]; exact hl, .nil⟩
  | x :: xs, acc, st, h, hi, hl, hz => by
    obtain ⟨d, st1, e1, r1, i1, k1⟩ := h x List.mem_cons_self st hi (List.getElem?_eq_some_iff.mp hl).1
    have hl1 : st1[l]? = some (.lst acc) := k1.trans hl
    have hlt : acc.length < SZ := by rw [List.length_cons] at hz; omega
    obtain ⟨ds, st2, e2, i2, k2, f2⟩ := evComp_ok I R hset hsame xs (acc ++ [d]) (st1.set l (.lst (acc ++ [d]))) (fun y hy => h y (List.mem_cons_of_mem _ hy)) (hset _ _ i1) (set_same hl1) (by rw [List.length_append, List.length_singleton]; rw [List.length_cons] at hz; omega)
    refine ⟨d :: ds, st2, ?_, i2, by rw [k2, List.append_assoc]; rfl, .cons r1 f2⟩
    rw [evComp, if_pos (hsame st hi), e1]
    show (match st1[l]? with | some (.lst acc) => if acc.length < SZ then evComp same l one xs (st1.set l (.lst (acc ++ [d]))) else .bad | _ => .bad) = _
    rw [hl1]
    exact (if_pos hlt).trans e2
/-- the same of the expression: over an R of items and data, the state's word I -/
theorem comp_ok {F : FT} {env : Env} {st st1 : Store} {own : List Nat} {t : Tg} {k : Ik} {src : List Ex} {elt : Ex} {ds : List D} {S : Src} (I : Store → Prop) (R : D → D → Prop) (h : evs F src env st = .ok ds st1) (hS : srcOf k ds st1 = some S)
    (hz : S.items.length ≤ SZ) (hi : I (st1 ++ [.lst []])) (hset : ∀ s ds, I s → I (s.set st1.length (.lst ds))) (hsame : ∀ s, I s → S.same s = true)
    (turn : ∀ x, x ∈ S.items → ∀ s, I s → st1.length < s.length → ∃ env' d s', setT t x (wipeE own env) = some env' ∧ ev F elt env' s = .ok d s' ∧ R x d ∧ I s' ∧ s'[st1.length]? = s[st1.length]?) :
    ∃ rs st', ev F (.comp own t k src [] elt) env st = .ok (.loc st1.length) st' ∧ I st' ∧ st'[st1.length]? = some (.lst rs) ∧ All2 R S.items rs := by
  rw [comp_eq F env st h hS]
  obtain ⟨rs, st', e, i, g, f⟩ := evComp_ok (same := S.same) (l := st1.length) (one := compOne F env own t [] elt) I R hset hsame S.items [] (st1 ++ [.lst []]) (fun x hx s hs hl => by
    obtain ⟨env', d, s', h1, h2, h3, h4, h5⟩ := turn x hx s hs hl
    exact ⟨d, s', one_eq F env s h1 h2, h3, h4, h5⟩) hi (by rw [List.getElem?_append_right (Nat.le_refl _), Nat.sub_self]; rfl) (by show 0 + _ ≤ SZ; omega)
  exact ⟨rs, st', e, i, g, f⟩
/-- a loop by a word of the turn's number -/
theorem evFor_ix {same : Store → Bool} {one : D → Env → Store → SR} (I : Nat → Env → Store → Prop) (hsame : ∀ i env st, I i env st → same st = true) :
    ∀ (items : List D) (i : Nat) (env : Env) (st : Store), (∀ (j : Nat) (x : D), items[j]? = some x → ∀ env st, I (i + j) env st → ∃ env' st', (one x env st = .next env' st' ∨ one x env st = .cnt env' st') ∧ I (i + j + 1) env' st') → I i env st →
      ∃ env' st', evFor same one items env st = .next env' st' ∧ I (i + items.length) env' st'
  | [], i, env, st, _, h => ⟨env, st, by rw [evFor, if_pos (hsame i env st h)], h⟩
  | x :: xs, i, env, st, t, h => by
    obtain ⟨env1, st1, e1, i1⟩ := t 0 x rfl env st h
    obtain ⟨env2, st2, e2, i2⟩ := evFor_ix I hsame xs (i + 1) env1 st1 (fun j y hy env st hI => by
      have e : i + 1 + j = i + (j + 1) := by omega
      rw [e] at hI ⊢
      exact t (j + 1) y (by simpa using hy) env st hI) i1
    refine ⟨env2, st2, ?_, by rw [List.length_cons]; have e : i + (xs.length + 1) = i + 1 + xs.length := by omega
                              rw [e]; exact i2⟩
    rw [evFor, if_pos (hsame i env st h)]
    rcases e1 with e1 | e1 <;> rw [e1] <;> exact e2
theorem src_range1 (j : Int) (st : Store) (h : in62 j = true) : srcOf .range1 [.int j] st = some ⟨rangeD 0 j.toNat, fun _ => true⟩ := if_pos h
theorem src_range2 (i j : Int) (st : Store) (h : in62 i = true) (h2 : in62 j = true) : srcOf .range2 [.int i, .int j] st = some ⟨rangeD i (j - i).toNat, fun _ => true⟩ := by
  show (if (in62 i && in62 j) = true then _ else _) = _
  rw [h, h2]; rfl
theorem in62_of {i : Int} (h : 0 ≤ i) (h2 : i < 1000000000) : in62 i = true := by
  unfold in62
  rw [decide_eq_true (by omega), decide_eq_true (by omega)]; rfl
theorem range_len (lo : Int) (n : Nat) : (rangeD lo n).length = n := by unfold rangeD; rw [List.length_map, List.length_range]
theorem range_get {lo : Int} {n i : Nat} {x : D} (h : (rangeD lo n)[i]? = some x) : x = .int (lo + i) ∧ i < n := by
  unfold rangeD at h
  rw [List.getElem?_map] at h
  by_cases hi : i < n
  · rw [List.getElem?_range hi] at h
    cases h
    exact ⟨rfl, hi⟩
  · rw [List.getElem?_eq_none (by rw [List.length_range]; omega)] at h
    cases h
theorem len_name (st : Store) (n : List (List Nat)) : lenSem (nameD n) st = .ok (.int n.length) st := by
  show R.ok (D.int ((n.map D.str).length : Int)) st = _
  rw [List.length_map]
theorem sl_name (st : Store) (n : List (List Nat)) (i : Nat) : slSem (nameD n) (some (i : Int)) none st = .ok (nameD (n.drop i)) st := by
  show R.ok (D.tup (cutD (n.map D.str) (some (i : Int)) none)) st = _
  rw [cut_map, cut_from]; rfl
theorem add_name (st : Store) (m n : List (List Nat)) (h : m.length + n.length ≤ SZ) : addSem (nameD m) (nameD n) st = .ok (nameD (m ++ n)) st := by
  show (if (m.map D.str).length + (n.map D.str).length ≤ SZ then R.ok (D.tup (m.map D.str ++ n.map D.str)) st else .bad) = _
  rw [List.length_map, List.length_map, if_pos h, ← List.map_append]; rfl
theorem ix_name (st : Store) (n : List (List Nat)) (i : Nat) (h : i < n.length) : ixSem (nameD n) (i : Int) st = .ok (.str n[i]) st := by
  show (match atI (n.map D.str) (i : Int) with | some d => R.ok d st | none => .bad) = _
  rw [atI_lt (by rw [List.length_map]; exact h), List.getElem_map]
theorem items_name (st : Store) (n : List (List Nat)) : itemsD st (nameD n) = some (n.map .str) := rfl
theorem items_loc {st : Store} {l : Nat} {xs : List D} (h : st[l]? = some (.lst xs)) : itemsD st (.loc l) = some xs := by
  show (match st[l]? with | some (.lst xs) => some xs | _ => none) = _
  rw [h]
end Z

set_option autoImplicit false
set_option maxHeartbeats 1000000
namespace K2
open PySem L2 Z
/-- is_within -/
def b0 : List Sx :=
  [.asg (.nm 2) (.op .sub [.op .len [.v 0], .op .len [.v 1]]), .ret (.and (.op .ge [.v 2, .c (.int 0)]) (.op .eq [.op (.sl true false) [.v 0, .v 2],
    .v 1]))]
/-- is_below -/
def b1 : List Sx :=
  [.ret (.and (.op .ne [.v 0, .v 1]) (.call 0 [.v 0, .v 1]))]
/-- _law_draw -/
def b2 : List Sx :=
  [.ite (.op .eq [.op .ix [.v 0, .c (.int 1)], .c (.int 0)]) [.asg (.nm 3) (.c (.int 0)), .ite (.op .gt [.op .len [.v 1],
    .c (.int 0)]) [.asg (.nm 3) (.op .ix [.v 1, .op .mod [.op .ix [.v 0, .c (.int 0)], .op .len [.v 1]]])] [], .ite (.op .lt [.v 3,
    .c (.int 0)]) [.asg (.nm 3) (.op .sub [.c (.int 1), .op .mul [.c (.int 2), .v 3]])] [],
    .asg (.nm 4) (.op .mod [.op .toInt [.op .mul [.op .add [.op .add [.v 3, .op .mul [.op .ix [.v 0, .c (.int 0)], .c (.int 7919)]], .c (.int 1)],
    .c (.int 48271)]], .c (.int 2147483647)]), .setix (.v 0) (.c (.int 1)) (.op .mod [.op .toInt [.op .add [.op .mul [.v 4, .c (.int 69621)],
    .op .mul [.op .ix [.v 0, .c (.int 0)], .c (.int 104729)]]], .c (.int 4294967291)]), .ite (.and (.op .ge [.v 3, .op .pow [.c (.int 10),
    .c (.int 18)]]) (.op .lt [.op .ix [.v 0, .c (.int 0)], .op .len [.v 1]])) [.setix (.v 0) (.c (.int 1)) (.v 3)] [],
    .setix (.v 0) (.c (.int 0)) (.op .add [.op .ix [.v 0, .c (.int 0)], .c (.int 1)])] [], .asg (.nm 5) (.op .mod [.op .toInt [.op .ix [.v 0,
    .c (.int 1)]], .v 2]), .setix (.v 0) (.c (.int 1)) (.op .fdiv [.op .ix [.v 0, .c (.int 1)], .v 2]), .ret (.v 5)]
/-- _law_few -/
def b3 : List Sx :=
  [.ret (.op .toTup [.comp [3] (.nm 3) .range1 [.call 2 [.v 0, .v 1, .op .add [.v 2, .c (.int 1)]]] [] (.op .ix [.op .lst [.c (.str [97]),
    .c (.str [98]), .c (.str [97, 98]), .c (.str [42])], .call 2 [.v 0, .v 1, .c (.int 4)]])])]
/-- law -/
def b4 : List Sx :=
  [.asg (.nm 1) (.op .lst [.c (.int 0), .c (.int 0)]), .for_ (.nm 2) .range1 [.c (.int 6)] [.asg (.nm 3) (.call 3 [.v 1, .v 0, .c (.int 5)]),
    .asg (.nm 4) (.call 3 [.v 1, .v 0, .c (.int 3)]), .ite (.op .eq [.call 2 [.v 1, .v 0, .c (.int 2)],
    .c (.int 1)]) [.asg (.nm 4) (.op (.sl true false) [.v 3, .call 2 [.v 1, .v 0, .op .add [.op .len [.v 3], .c (.int 1)]]])] [],
    .ite (.op .eq [.call 2 [.v 1, .v 0, .c (.int 3)], .c (.int 1)]) [.asg (.nm 4) (.op .add [.call 3 [.v 1, .v 0, .c (.int 2)], .v 4])] [],
    .asg (.nm 5) (.op .le [.op .len [.v 4], .op .len [.v 3]]), .for_ (.nm 6) .range1 [.op .len [.v 4]] [.ite (.and (.v 5) (.op .ne [.op .ix [.v 3,
    .op .sub [.op .sub [.op .len [.v 3], .c (.int 1)], .v 6]], .op .ix [.v 4, .op .sub [.op .sub [.op .len [.v 4], .c (.int 1)],
    .v 6]]])) [.asg (.nm 5) (.c (.bl false))] []], .asg (.nm 7) (.call 0 [.v 3, .v 4]), .asg (.nm 8) (.call 1 [.v 3, .v 4]),
    .ite (.or (.not (.op (.isin .bool) [.v 7])) (.or (.not (.op (.isin .bool) [.v 8])) (.op .ne [.v 7, .v 5]))) [.ret (.c (.bl false))] [],
    .ite (.op .ne [.v 8, .and (.v 5) (.op .ne [.op .len [.v 3], .op .len [.v 4]])]) [.ret (.c (.bl false))] [], .ite (.or (.op .isnot [.call 0 [.v 3,
    .v 3], .c (.bl true)]) (.or (.op .isnot [.call 1 [.v 3, .v 3], .c (.bl false)]) (.op .isnot [.call 0 [.v 3, .op .tup []],
    .c (.bl true)]))) [.ret (.c (.bl false))] []], .ret (.c (.bl true))]
def P : List Fd := [⟨3, 2, b0⟩, ⟨2, 2, b1⟩, ⟨6, 3, b2⟩, ⟨4, 3, b3⟩, ⟨9, 1, b4⟩]
/-! ### the two names' tests -/
def within (xs ys : List (List Nat)) : Bool := decide (ys.length ≤ xs.length) && decide (xs.drop (xs.length - ys.length) = ys)
theorem is_within (k : Nat) (xs ys : List (List Nat)) (st : Store) : run P (k + 1) 0 [nameD xs, nameD ys] st = .ok (.bl (within xs ys)) st := by
  rw [run_eq (P := P) (f := 0) rfl k _ _ rfl]
  show (xss _ b0 [some (nameD xs), some (nameD ys), none] st).fin = _
  have hsub : ((xs.length : Int) - (ys.length : Int) ≥ 0) ↔ ys.length ≤ xs.length := by omega
  by_cases h : ys.length ≤ xs.length
  · have e : (xs.length : Int) - (ys.length : Int) = ((xs.length - ys.length : Nat) : Int) := by omega
    have h0 : (0 : Int) ≤ ((xs.length - ys.length : Nat) : Int) := by omega
    simp only [b0, xss, Z.xs, ev, evs, List.getElem?_cons_zero, List.getElem?_cons_succ, bind_ok, toS_ok, o_len, len_name, o_subI, setT, seq_next, List.set_cons_succ, List.set_cons_zero, o_geI, e, decide_eq_true h0, truth_bl, o_slF, sl_name, o_eq, eqSem_name, seq_ret, fin_ret]
    unfold within
    rw [decide_eq_true h, Bool.true_and]
  · have h0 : ¬ (0 : Int) ≤ (xs.length : Int) - (ys.length : Int) := by omega
    simp only [b0, xss, Z.xs, ev, evs, List.getElem?_cons_zero, List.getElem?_cons_succ, bind_ok, toS_ok, o_len, len_name, o_subI, setT, seq_next, List.set_cons_succ, List.set_cons_zero, o_geI, decide_eq_false h0, truth_bl, seq_ret, fin_ret]
    unfold within
    rw [decide_eq_false h, Bool.false_and]
theorem is_below (k : Nat) (xs ys : List (List Nat)) (st : Store) : run P (k + 2) 1 [nameD xs, nameD ys] st = .ok (.bl (!decide (xs = ys) && within xs ys)) st := by
  rw [run_eq (P := P) (f := 1) rfl (k + 1) _ _ rfl]
  show (xss _ b1 [some (nameD xs), some (nameD ys)] st).fin = _
  by_cases h : xs = ys
  · simp only [b1, xss, Z.xs, ev, evs, List.getElem?_cons_zero, List.getElem?_cons_succ, bind_ok, toS_ok, o_ne, eqSem_name, decide_eq_true h, Bool.not_true, truth_bl, seq_ret, fin_ret, Bool.false_and]
  · simp only [b1, xss, Z.xs, ev, evs, List.getElem?_cons_zero, List.getElem?_cons_succ, bind_ok, toS_ok, o_ne, eqSem_name, decide_eq_false h, Bool.not_false, truth_bl, is_within, seq_ret, fin_ret, Bool.true_and]

/-! ### what the law draws -/
def texts : Ex := .op .ix [.op .lst [.c (.str [97]), .c (.str [98]), .c (.str [97, 98]), .c (.str [42])], .call 2 [.v 0, .v 1, .c (.int 4)]]
/-- a name of at most m labels, the state kept -/
theorem few (k : Nat) {st : Store} {a : Nat} {ns : List Int} (m : Nat) (hm : m ≤ 10) (h : StOk a st) :
    ∃ (n : List (List Nat)) (st' : Store), run P (k + 2) 3 [.loc a, .flst (ns.map .int), .int (m : Int)] st = .ok (nameD n) st' ∧ n.length ≤ m ∧ StOk a st' ∧ Fr a st st' := by
  rw [run_eq (P := P) (f := 3) rfl (k + 1) _ _ rfl]
  show ∃ n st', (xss _ b3 [some (.loc a), some (.flst (ns.map .int)), some (.int (m : Int)), none] st).fin = _ ∧ _
  obtain ⟨d, st1, e1, d0, d1, h1, f1⟩ := draw (P := P) (f := 2) rfl k (ns := ns) h (size := (m : Int) + 1) (by omega) (by omega)
  have hin : in62 d = true := in62_of d0 (by omega)
  -- the labels
  have turn : ∀ (x : D) (st2 : Store), StOk a st2 → Fr a st1 st2 → ∃ (c : List Nat) (st3 : Store), ev (run P (k + 1)) texts [some (.loc a), some (.flst (ns.map .int)), some (.int (m : Int)), some x] st2 = .ok (.str c) st3 ∧ StOk a st3 ∧ Fr a st1 st3 ∧ ∀ l, l < st2.length → l ≠ a → st3[l]? = st2[l]? := by
    intro x st2 h2 f2
    have hl := h2.lt
    obtain ⟨d', st3, e3, c0, c1, h3, f3⟩ := draw (P := P) (f := 2) rfl k (ns := ns) (h2.app [.lst [.str [97], .str [98], .str [97, 98], .str [42]]]) (size := 4) (by omega) (by omega)
    have hL : st3[st2.length]? = some (.lst [.str [97], .str [98], .str [97, 98], .str [42]]) := by
      rw [f3.2 st2.length (by rw [List.length_append]; exact Nat.lt_succ_self _) (by omega), List.getElem?_append_right (Nat.le_refl _), Nat.sub_self]; rfl
    obtain ⟨c, hc⟩ : ∃ c, atI [D.str [97], .str [98], .str [97, 98], .str [42]] d' = some (.str c) := by
      have q : d' = 0 ∨ d' = 1 ∨ d' = 2 ∨ d' = 3 := by omega
      rcases q with rfl | rfl | rfl | rfl <;> exact ⟨_, rfl⟩
    refine ⟨c, st3, ?_, h3, (f2.trans (Fr.app _)).trans f3, fun l hl ne => (f3.2 l (by rw [List.length_append]; omega) ne).trans (List.getElem?_append_left hl)⟩
    simp only [texts, ev_v, ev_c, ev_op, ev_call, evs_nil, evs_cons, List.getElem?_cons_zero, List.getElem?_cons_succ, bind_ok, o_lst _ [D.str [97], .str [98], .str [97, 98], .str [42]] (by decide), e3, o_ix, ix_loc hL, hc]
  have hsrc : evs (run P (k + 1)) [.call 2 [.v 0, .v 1, .op .add [.v 2, .c (.int 1)]]] [some (.loc a), some (.flst (ns.map .int)), some (.int (m : Int)), none] st = .ok [.int d] st1 := by
    simp only [ev_v, ev_c, ev_op, ev_call, evs_nil, evs_cons, List.getElem?_cons_zero, List.getElem?_cons_succ, bind_ok, o_addI, e1]
  obtain ⟨ds, st4, e4, ⟨i4, f4⟩, k4, a4⟩ := comp_ok (own := [3]) (t := .nm 3) (elt := texts) (fun s => StOk a s ∧ Fr a st1 s) (fun _ d => ∃ c, d = .str c) hsrc (src_range1 d st1 hin) (by rw [range_len]; unfold SZ; omega)
    ⟨h1.app _, Fr.app _⟩ (fun s ds hs => ⟨hs.1.set (by have := h1.lt; omega) _, hs.2.at_new (Nat.le_refl _) _⟩) (fun _ _ => rfl) (fun x _ s hs hl => by
      obtain ⟨c, s3, e3, h3, f3, k3⟩ := turn x s hs.1 hs.2
      exact ⟨_, .str c, s3, rfl, e3, ⟨c, rfl⟩, ⟨h3, f3⟩, k3 _ hl (by have := h1.lt; omega)⟩)
  obtain ⟨n, hn, hnl⟩ : ∃ n : List (List Nat), ds = n.map .str ∧ n.length = d.toNat := by
    have hl := a4.length
    rw [range_len] at hl
    clear e4 k4
    have a5 : All2 _ (rangeD 0 d.toNat) ds := a4
    clear a4
    generalize rangeD 0 d.toNat = items at a5
    have : ∃ n : List (List Nat), ds = n.map D.str := by
      clear hl
      induction a5 with
      | nil => exact ⟨[], rfl⟩
      | cons r _ ih =>
        obtain ⟨c, rfl⟩ := r
        obtain ⟨n, rfl⟩ := ih
        exact ⟨c :: n, rfl⟩
    obtain ⟨n, rfl⟩ := this
    exact ⟨n, rfl, by rw [List.length_map] at hl; exact hl.symm⟩
  subst hn
  refine ⟨n, st4, ?_, by omega, i4, f1.trans f4⟩
  show (xss _ [.ret (.op .toTup [.comp [3] (.nm 3) .range1 [.call 2 [.v 0, .v 1, .op .add [.v 2, .c (.int 1)]]] [] texts])] _ _).fin = _
  simp only [xss_cons, xss_nil, xs_ret, ev_op, evs_nil, evs_cons, e4, bind_ok, toS_ok, o_toTup, items_loc k4, seq_ret, fin_ret]
  rfl

/-! ### the law -/
/-- the law's own word for within, up to the turn i -/
def upTo (n o : List (List Nat)) (i : Nat) : Bool := decide (o.length ≤ n.length) && (List.range i).all fun k => decide (n[n.length - 1 - k]? = o[o.length - 1 - k]?)
theorem upTo_succ (n o : List (List Nat)) (i : Nat) : upTo n o (i + 1) = (upTo n o i && decide (n[n.length - 1 - i]? = o[o.length - 1 - i]?)) := by
  unfold upTo
  rw [List.range_succ, List.all_append, Bool.and_assoc]
  simp
theorem upTo_all (n o : List (List Nat)) : upTo n o o.length = within n o := by
  unfold upTo within
  by_cases h : o.length ≤ n.length
  · rw [decide_eq_true h, Bool.true_and, Bool.true_and, Bool.eq_iff_iff, List.all_eq_true, decide_eq_true_eq]
    constructor
    · intro g
      apply List.ext_getElem?
      intro i
      rw [List.getElem?_drop]
      by_cases hi : i < o.length
      · have q := g (o.length - 1 - i) (List.mem_range.mpr (by omega))
        rw [decide_eq_true_eq] at q
        have e1 : n.length - 1 - (o.length - 1 - i) = n.length - o.length + i := by omega
        have e2 : o.length - 1 - (o.length - 1 - i) = i := by omega
        rw [e1, e2] at q
        exact q
      · rw [List.getElem?_eq_none (by omega), List.getElem?_eq_none (by omega)]
    · intro g k hk
      have hk := List.mem_range.mp hk
      rw [decide_eq_true_eq, ← g, List.getElem?_drop, List.length_drop]
      congr 1
      omega
  · rw [decide_eq_false h, Bool.false_and, Bool.false_and]
abbrev En (ns : List Int) (x n o w kk t b : Option D) : Z.Env := [some (.flst (ns.map .int)), some (.loc 0), x, n, o, w, kk, t, b]
def body : List Sx := match b4 with
  | [_, .for_ _ _ _ b, _] => b
  | _ => []
section
variable (ns : List Int) (k : Nat)
theorem s_few (i : Nat) (m : Nat) (hm : m ≤ 10) {env : Z.Env} {st : Store} (h : StOk 0 st) (h0 : env[0]? = some (some (D.flst (ns.map .int)))) (h1 : env[1]? = some (some (D.loc 0))) :
    ∃ (n : List (List Nat)) (st' : Store), xs (run P (k + 2)) (.asg (.nm i) (.call 3 [.v 1, .v 0, .c (.int m)])) env st = .next (env.set i (some (nameD n))) st' ∧ n.length ≤ m ∧ StOk 0 st' := by
  obtain ⟨n, st', e, hl, h2, _⟩ := few k m hm (ns := ns) h
  refine ⟨n, st', ?_, hl, h2⟩
  simp only [xs_asg, ev_call, ev_v, ev_c, evs_cons, evs_nil, h0, h1, bind_ok, toS_ok, e, setT_nm]
/-- the loop over the other's labels -/
theorem s_loop (n o : List (List Nat)) (hl : o.length ≤ 100) (x kk t b : Option D) (st : Store) :
    ∃ kk', xs (run P (k + 2)) (body.getD 5 .pass) (En ns x (some (nameD n)) (some (nameD o)) (some (.bl (decide (o.length ≤ n.length)))) kk t b) st =
      .next (En ns x (some (nameD n)) (some (nameD o)) (some (.bl (within n o))) kk' t b) st := by
  have hsrc : evs (run P (k + 2)) [.op .len [.v 4]] (En ns x (some (nameD n)) (some (nameD o)) (some (.bl (decide (o.length ≤ n.length)))) kk t b) st = .ok [.int (o.length : Int)] st := by
    simp only [ev_op, ev_v, evs_cons, evs_nil, List.getElem?_cons_zero, List.getElem?_cons_succ, bind_ok, o_len, len_name]
  obtain ⟨env', st', e, ⟨kk', rfl⟩, rfl⟩ := evFor_ix (same := fun _ => true) (one := fun y env2 st2 => match setT (.nm 6) y env2 with
      | some env' => xss (run P (k + 2)) [.ite (.and (.v 5) (.op .ne [.op .ix [.v 3, .op .sub [.op .sub [.op .len [.v 3], .c (.int 1)], .v 6]], .op .ix [.v 4, .op .sub [.op .sub [.op .len [.v 4], .c (.int 1)], .v 6]]])) [.asg (.nm 5) (.c (.bl false))] []] env' st2
      | none => .bad) (fun i env s => (∃ kk', env = En ns x (some (nameD n)) (some (nameD o)) (some (.bl (upTo n o i))) kk' t b) ∧ s = st) (fun _ _ _ _ => rfl) (rangeD 0 ((o.length : Int)).toNat) 0
      (En ns x (some (nameD n)) (some (nameD o)) (some (.bl (decide (o.length ≤ n.length)))) kk t b) st (by
        intro i y hy env s hI
        obtain ⟨⟨kk', rfl⟩, rfl⟩ := hI
        obtain ⟨rfl, hi⟩ := range_get hy
        rw [Nat.zero_add] at *
        rw [upTo_succ]
        have ho : i < o.length := by omega
        have ez : (0 : Int) + (i : Int) = (i : Int) := Int.zero_add _
        rw [ez]
        show ∃ env' st', (xss _ _ (En ns x (some (nameD n)) (some (nameD o)) (some (.bl (upTo n o i))) (some (.int i)) t b) s = _ ∨ _) ∧ _
        by_cases hu : upTo n o i = true
        · have hn : o.length ≤ n.length := by
            unfold upTo at hu
            rw [Bool.and_eq_true, decide_eq_true_eq] at hu
            exact hu.1
          have c1 : (n.length : Int) - 1 - (i : Int) = ((n.length - 1 - i : Nat) : Int) := by omega
          have c2 : (o.length : Int) - 1 - (i : Int) = ((o.length - 1 - i : Nat) : Int) := by omega
          have g1 : n.length - 1 - i < n.length := by omega
          have g2 : o.length - 1 - i < o.length := by omega
          rw [List.getElem?_eq_getElem g1, List.getElem?_eq_getElem g2]
          by_cases hq : n[n.length - 1 - i] = o[o.length - 1 - i]
          · have hg : (upTo n o i && decide (some n[n.length - 1 - i] = some o[o.length - 1 - i])) = true := by rw [hu, decide_eq_true (by rw [hq])]; rfl
            rw [hg]
            refine ⟨En ns x (some (nameD n)) (some (nameD o)) (some (.bl true)) (some (.int i)) t b, s, .inl ?_, ⟨some (.int i), rfl⟩, rfl⟩
            simp only [xss_cons, xss_nil, xs_ite, ev_and, ev_v, ev_op, ev_c, evs_cons, evs_nil, List.getElem?_cons_zero, List.getElem?_cons_succ, bind_ok, toS_ok, hu, truth_bl, o_len, len_name, o_subI, c1, c2, o_ix, ix_name _ _ _ g1, ix_name _ _ _ g2, o_neS, hq, beq_self_eq_true, Bool.not_true, seq_next]
          · have hg : (upTo n o i && decide (some n[n.length - 1 - i] = some o[o.length - 1 - i])) = false := by rw [hu, decide_eq_false (by intro z; exact hq (Option.some.inj z))]; rfl
            rw [hg]
            refine ⟨En ns x (some (nameD n)) (some (nameD o)) (some (.bl false)) (some (.int i)) t b, s, .inl ?_, ⟨some (.int i), rfl⟩, rfl⟩
            simp only [xss_cons, xss_nil, xs_ite, ev_and, ev_v, ev_op, ev_c, evs_cons, evs_nil, List.getElem?_cons_zero, List.getElem?_cons_succ, bind_ok, toS_ok, hu, truth_bl, o_len, len_name, o_subI, c1, c2, o_ix, ix_name _ _ _ g1, ix_name _ _ _ g2, o_neS, beq_eq_false_iff_ne.mpr hq, Bool.not_false, xs_asg, setT_nm, seq_next, List.set_cons_succ, List.set_cons_zero]
        · have hu : upTo n o i = false := Bool.eq_false_iff.mpr hu
          rw [hu, Bool.false_and]
          refine ⟨En ns x (some (nameD n)) (some (nameD o)) (some (.bl false)) (some (.int i)) t b, s, .inl ?_, ⟨some (.int i), rfl⟩, rfl⟩
          simp only [xss_cons, xss_nil, xs_ite, ev_and, ev_v, List.getElem?_cons_zero, List.getElem?_cons_succ, bind_ok, toS_ok, truth_bl, seq_next]) ⟨⟨kk, by unfold upTo; rw [List.range_zero]; simp⟩, rfl⟩
  refine ⟨kk', ?_⟩
  rw [range_len, Nat.zero_add, Int.toNat_natCast, upTo_all] at e
  exact (for_eq _ _ _ hsrc (src_range1 _ _ (in62_of (by omega) (by omega)))).trans e
theorem within_refl (n : List (List Nat)) : within n n = true := by unfold within; simp
theorem within_nil (n : List (List Nat)) : within n [] = true := by unfold within; simp
theorem below_eq (n o : List (List Nat)) : (!decide (n = o) && within n o) = (within n o && !((n.length : Int) == (o.length : Int))) := by
  by_cases hw : within n o = true
  · rw [hw, Bool.and_true, Bool.true_and]
    have hw2 := hw
    unfold within at hw2
    rw [Bool.and_eq_true, decide_eq_true_eq, decide_eq_true_eq] at hw2
    by_cases h : n = o
    · subst h; simp
    · have hne : n.length ≠ o.length := fun e => h (by
        have q := hw2.2
        rw [e, Nat.sub_self, List.drop_zero] at q
        exact q)
      rw [decide_eq_false h, beq_eq_false_iff_ne.mpr (by omega)]
  · rw [Bool.eq_false_iff.mpr hw, Bool.and_false, Bool.false_and]
theorem turn (x n o w kk t b : Option D) (st : Store) (h : StOk 0 st) :
    ∃ n' o' w' kk' t' b' st', xss (run P (k + 2)) body (En ns x n o w kk t b) st = .next (En ns x n' o' w' kk' t' b') st' ∧ StOk 0 st' := by
  obtain ⟨n1, st1, e1, l1, h1⟩ := s_few ns k 3 5 (by decide) (env := En ns x n o w kk t b) h rfl rfl
  obtain ⟨o1, st2, e2, l2, h2⟩ := s_few ns k 4 3 (by decide) (env := En ns x (some (nameD n1)) o w kk t b) h1 rfl rfl
  -- other = name[..:]
  obtain ⟨o2, st3, e3, l3, h3⟩ : ∃ (o2 : List (List Nat)) (st3 : Store), xs (run P (k + 2)) (body.getD 2 .pass) (En ns x (some (nameD n1)) (some (nameD o1)) w kk t b) st2 = .next (En ns x (some (nameD n1)) (some (nameD o2)) w kk t b) st3 ∧ o2.length ≤ 10 ∧ StOk 0 st3 := by
    obtain ⟨d, s1, f1, d0, d1, g1, _⟩ := draw (P := P) (f := 2) rfl (k + 1) (ns := ns) h2 (size := 2) (by decide) (by decide)
    by_cases hd : d = 1
    · obtain ⟨c, s2, f2, c0, c1, g2, _⟩ := draw (P := P) (f := 2) rfl (k + 1) (ns := ns) g1 (size := (n1.length : Int) + 1) (by omega) (by omega)
      obtain ⟨m, rfl⟩ := Int.eq_ofNat_of_zero_le c0
      refine ⟨n1.drop m, s2, ?_, by rw [List.length_drop]; omega, g2⟩
      show xs _ (.ite (.op .eq [.call 2 [.v 1, .v 0, .c (.int 2)], .c (.int 1)]) [.asg (.nm 4) (.op (.sl true false) [.v 3, .call 2 [.v 1, .v 0, .op .add [.op .len [.v 3], .c (.int 1)]]])] []) _ _ = _
      simp only [xs_ite, ev_op, ev_call, ev_v, ev_c, evs_cons, evs_nil, List.getElem?_cons_zero, List.getElem?_cons_succ, bind_ok, f1, o_eqI, hd, beq_self_eq_true, toS_ok, truth_bl, xss_cons, xss_nil, xs_asg, o_len, len_name, o_addI, f2, o_slF]
      rw [sl_name]
      rfl
    · refine ⟨o1, s1, ?_, by omega, g1⟩
      show xs _ (.ite (.op .eq [.call 2 [.v 1, .v 0, .c (.int 2)], .c (.int 1)]) [.asg (.nm 4) (.op (.sl true false) [.v 3, .call 2 [.v 1, .v 0, .op .add [.op .len [.v 3], .c (.int 1)]]])] []) _ _ = _
      simp only [xs_ite, ev_op, ev_call, ev_v, ev_c, evs_cons, evs_nil, List.getElem?_cons_zero, List.getElem?_cons_succ, bind_ok, f1, o_eqI, beq_eq_false_iff_ne.mpr hd, toS_ok, truth_bl, xss_nil]
  -- other = .. + other
  obtain ⟨o3, st4, e4, l4, h4⟩ : ∃ (o3 : List (List Nat)) (st4 : Store), xs (run P (k + 2)) (body.getD 3 .pass) (En ns x (some (nameD n1)) (some (nameD o2)) w kk t b) st3 = .next (En ns x (some (nameD n1)) (some (nameD o3)) w kk t b) st4 ∧ o3.length ≤ 20 ∧ StOk 0 st4 := by
    obtain ⟨d, s1, f1, d0, d1, g1, _⟩ := draw (P := P) (f := 2) rfl (k + 1) (ns := ns) h3 (size := 3) (by decide) (by decide)
    by_cases hd : d = 1
    · obtain ⟨m, s2, f2, hm, g2, _⟩ := few k 2 (by decide) (ns := ns) g1
      refine ⟨m ++ o2, s2, ?_, by rw [List.length_append]; omega, g2⟩
      show xs _ (.ite (.op .eq [.call 2 [.v 1, .v 0, .c (.int 3)], .c (.int 1)]) [.asg (.nm 4) (.op .add [.call 3 [.v 1, .v 0, .c (.int 2)], .v 4])] []) _ _ = _
      have f2 : run P (k + 2) 3 [.loc 0, .flst (ns.map .int), .int 2] s1 = .ok (nameD m) s2 := f2
      simp only [xs_ite, ev_op, ev_call, ev_v, ev_c, evs_cons, evs_nil, List.getElem?_cons_zero, List.getElem?_cons_succ, bind_ok, f1, o_eqI, hd, beq_self_eq_true, toS_ok, truth_bl, xss_cons, xss_nil, xs_asg, f2, o_add, add_name _ _ _ (show m.length + o2.length ≤ SZ by unfold SZ; omega)]
      rfl
    · refine ⟨o2, s1, ?_, by omega, g1⟩
      show xs _ (.ite (.op .eq [.call 2 [.v 1, .v 0, .c (.int 3)], .c (.int 1)]) [.asg (.nm 4) (.op .add [.call 3 [.v 1, .v 0, .c (.int 2)], .v 4])] []) _ _ = _
      simp only [xs_ite, ev_op, ev_call, ev_v, ev_c, evs_cons, evs_nil, List.getElem?_cons_zero, List.getElem?_cons_succ, bind_ok, f1, o_eqI, beq_eq_false_iff_ne.mpr hd, toS_ok, truth_bl, xss_nil]
  have e5 : xs (run P (k + 2)) (.asg (.nm 5) (.op .le [.op .len [.v 4], .op .len [.v 3]])) (En ns x (some (nameD n1)) (some (nameD o3)) w kk t b) st4 = .next (En ns x (some (nameD n1)) (some (nameD o3)) (some (.bl (decide (o3.length ≤ n1.length)))) kk t b) st4 := by
    have q : decide ((o3.length : Int) ≤ (n1.length : Int)) = decide (o3.length ≤ n1.length) := by
      by_cases h : o3.length ≤ n1.length
      · rw [decide_eq_true h, decide_eq_true (by omega)]
      · rw [decide_eq_false h, decide_eq_false (by omega)]
    simp only [xs_asg, ev_op, ev_v, evs_cons, evs_nil, List.getElem?_cons_zero, List.getElem?_cons_succ, bind_ok, o_len, len_name, o_leI, toS_ok, setT_nm, q]
    rfl
  obtain ⟨kk', e6⟩ := s_loop ns k n1 o3 (by omega) x kk t b st4
  refine ⟨some (nameD n1), some (nameD o3), some (.bl (within n1 o3)), kk', some (.bl (within n1 o3)), some (.bl (!decide (n1 = o3) && within n1 o3)), st4, xss_step e1 (xss_step e2 (xss_step e3 (xss_step e4 (xss_step e5 (xss_step e6 ?_))))), h4⟩
  have w1 := is_within (k + 1) n1 o3 st4
  have w2 := is_below k n1 o3 st4
  have w3 := is_within (k + 1) n1 n1 st4
  have w4 := is_below k n1 n1 st4
  have w5 : run P (k + 1 + 1) 0 [nameD n1, .tup []] st4 = _ := is_within (k + 1) n1 [] st4
  rw [within_refl] at w3
  rw [within_refl, decide_eq_true rfl] at w4
  rw [within_nil] at w5
  have hb := below_eq n1 o3
  generalize within n1 o3 = wi at *
  generalize (!decide (n1 = o3) && wi) = be at *
  subst hb
  show xss _ [.asg (.nm 7) (.call 0 [.v 3, .v 4]), .asg (.nm 8) (.call 1 [.v 3, .v 4]), .ite _ _ _, .ite _ _ _, .ite _ _ _] _ _ = _
  refine xss_step (env' := En ns x (some (nameD n1)) (some (nameD o3)) (some (.bl wi)) kk' (some (.bl wi)) b) (st' := st4) ?_ (xss_step (env' := En ns x (some (nameD n1)) (some (nameD o3)) (some (.bl wi)) kk' (some (.bl wi)) (some (.bl (wi && !((n1.length : Int) == (o3.length : Int)))))) (st' := st4) ?_ ?_)
  · simp only [xs_asg, ev_call, ev_v, evs_cons, evs_nil, List.getElem?_cons_zero, List.getElem?_cons_succ, bind_ok, w1, toS_ok, setT_nm]
    rfl
  · simp only [xs_asg, ev_call, ev_v, evs_cons, evs_nil, List.getElem?_cons_zero, List.getElem?_cons_succ, bind_ok, w2, toS_ok, setT_nm]
    rfl
  · have c3 : opSem (.isin .bool) = fun ds s => opSem (.isin .bool) ds s := rfl
    cases wi with
    | true =>
      simp only [xss_cons, xss_nil, xs_ite, ev_or, ev_and, ev_not, ev_op, ev_call, ev_v, ev_c, evs_cons, evs_nil, List.getElem?_cons_zero, List.getElem?_cons_succ, bind_ok, toS_ok, o_isinB, isTy, truth_bl, Bool.not_true, o_neB, beq_self_eq_true, seq_next, o_len, len_name, o_neI, Bool.true_and, w3, w4, w5, o_isnotB, o_tup _ [] (by decide), bne_self_eq_false, Bool.false_and]
    | false =>
      simp only [xss_cons, xss_nil, xs_ite, ev_or, ev_and, ev_not, ev_op, ev_call, ev_v, ev_c, evs_cons, evs_nil, List.getElem?_cons_zero, List.getElem?_cons_succ, bind_ok, toS_ok, o_isinB, isTy, truth_bl, Bool.not_true, o_neB, beq_self_eq_true, seq_next, o_len, len_name, o_neI, Bool.false_and, w3, w4, w5, o_isnotB, o_tup _ [] (by decide), bne_self_eq_false]
theorem law : ∃ st', run P (k + 3) 4 [.flst (ns.map .int)] [] = .ok (.bl true) st' := by
  rw [run_eq (P := P) (f := 4) rfl (k + 2) _ _ rfl]
  show ∃ st', (xss _ [.asg (.nm 1) (.op .lst [.c (.int 0), .c (.int 0)]), .for_ (.nm 2) .range1 [.c (.int 6)] body, .ret (.c (.bl true))] [some (.flst (ns.map .int)), none, none, none, none, none, none, none, none] []).fin = _
  have e0 : xs (run P (k + 2)) (.asg (.nm 1) (.op .lst [.c (.int 0), .c (.int 0)])) [some (.flst (ns.map .int)), none, none, none, none, none, none, none, none] [] = .next (En ns none none none none none none none) [.lst [.int 0, .int 0]] := by
    simp only [xs_asg, ev_op, ev_c, evs_cons, evs_nil, bind_ok, o_lst _ [.int 0, .int 0] (by decide), toS_ok, setT_nm]
    rfl
  have hsrc : evs (run P (k + 2)) [.c (.int 6)] (En ns none none none none none none none) [.lst [.int 0, .int 0]] = .ok [.int 6] [.lst [.int 0, .int 0]] := rfl
  obtain ⟨env', st', e, ⟨x', n', o', w', kk', t', b', rfl⟩, h'⟩ := evFor_ix (same := fun _ => true) (one := fun y env2 st2 => match setT (.nm 2) y env2 with
      | some env' => xss (run P (k + 2)) body env' st2
      | none => .bad) (fun _ env s => (∃ x n o w kk t b, env = En ns x n o w kk t b) ∧ StOk 0 s) (fun _ _ _ _ => rfl) (rangeD 0 (6 : Int).toNat) 0 (En ns none none none none none none none) [.lst [.int 0, .int 0]] (by
        intro j y hy env s hI
        obtain ⟨⟨x, n, o, w, kk, t, b, rfl⟩, hs⟩ := hI
        obtain ⟨n', o', w', kk', t', b', st', e, h'⟩ := turn ns k (some y) n o w kk t b s hs
        exact ⟨_, st', .inl e, ⟨_, _, _, _, _, _, _, rfl⟩, h'⟩) ⟨⟨_, _, _, _, _, _, _, rfl⟩, ⟨0, 0, rfl, by decide, by decide⟩⟩
  refine ⟨st', ?_⟩
  rw [xss_step e0 (xss_step ((for_eq _ _ _ hsrc (src_range1 _ _ (by decide))).trans e) rfl)]
  rfl
end
end K2

set_option autoImplicit false
set_option maxHeartbeats 1000000
namespace K2
open PySem PySem.Spec PyProof.Rows L2 Z
def topS (i : Nat) : Stmt := PySem.Challenge.pw_zoneward_k02_names_within_names.main.body.getD i (.Pass ⟨0, 0, 0, 0⟩)
def e0 : Ent := { x := "is_within", q := "is_within", st := topS 1, N := ["name", "other", "first"], ps := ["name", "other"], dvs := [] }
def e1 : Ent := { x := "is_below", q := "is_below", st := topS 2, N := ["name", "other"], ps := ["name", "other"], dvs := [] }
def e2 : Ent := { x := "_law_draw", q := "_law_draw", st := topS 4, N := ["state", "script", "size", "cell", "mixed", "digit"], ps := ["state", "script", "size"], dvs := [] }
def e3 : Ent := { x := "_law_few", q := "_law_few", st := topS 5, N := ["state", "script", "most", "k"], ps := ["state", "script", "most"], dvs := [] }
def e4 : Ent := { x := "law", q := "law", st := topS 6, N := ["script", "state", "turn", "name", "other", "within", "k", "told", "below"], ps := ["script"], dvs := [] }
def pg : Pg := { E := [e0, e1, e2, e3, e4], co := [], blt := ["bool", "int", "isinstance", "len", "range", "tuple"] }
theorem comp : Comp pg pg.E P := .cons 100 (by rfl) (.cons 100 (by rfl) (.cons 100 (by rfl) (.cons 100 (by rfl) (.cons 100 (by rfl) .nil))))
/-! ## the end: what the top has written -/
theorem all_mk {prog : Program} {w : World} {K : PySem.W.Frag} {h : Heap} {mg : Str → Option Value} {fa f0 f1 f2 f3 f4 : Addr} (X : K.In h) (G : h.Ns mainGlobals mg) (hfa : mg "law" = some (.ref fa))
    {od0 an0 od1 an1 od2 an2 od3 an3 od4 an4 : Option Addr} {sl0 sl1 sl2 sl3 sl4 : Array (Option Value)}
    {oc0 kV0 dc0 pm0 cd0 ct0 oc1 kV1 dc1 pm1 cd1 ct1 oc2 kV2 dc2 pm2 cd2 ct2 oc3 kV3 dc3 pm3 cd3 ct3 oc4 kV4 dc4 pm4 cd4 ct4 : Value}
    (a0 : PySem.W.nsIn K mainGlobals "is_within" = some (some (.ref f0))) (l0 : K.lookup f0 = some ⟨oc0, od0, .func (PySem.W.fnOf "is_within" "is_within" (defArgs e0.st) (defBody e0.st) (defScope e0.st) .none kV0 dc0 pm0 an0 cd0 ct0), sl0⟩) (c0 : PySem.W.codeIn K cd0 "is_within" = true) (k0 : PySem.W.keepIn K (.ref f0) = true)
    (a1 : PySem.W.nsIn K mainGlobals "is_below" = some (some (.ref f1))) (l1 : K.lookup f1 = some ⟨oc1, od1, .func (PySem.W.fnOf "is_below" "is_below" (defArgs e1.st) (defBody e1.st) (defScope e1.st) .none kV1 dc1 pm1 an1 cd1 ct1), sl1⟩) (c1 : PySem.W.codeIn K cd1 "is_below" = true) (k1 : PySem.W.keepIn K (.ref f1) = true)
    (a2 : PySem.W.nsIn K mainGlobals "_law_draw" = some (some (.ref f2))) (l2 : K.lookup f2 = some ⟨oc2, od2, .func (PySem.W.fnOf "_law_draw" "_law_draw" (defArgs e2.st) (defBody e2.st) (defScope e2.st) .none kV2 dc2 pm2 an2 cd2 ct2), sl2⟩) (c2 : PySem.W.codeIn K cd2 "_law_draw" = true) (k2 : PySem.W.keepIn K (.ref f2) = true)
    (a3 : PySem.W.nsIn K mainGlobals "_law_few" = some (some (.ref f3))) (l3 : K.lookup f3 = some ⟨oc3, od3, .func (PySem.W.fnOf "_law_few" "_law_few" (defArgs e3.st) (defBody e3.st) (defScope e3.st) .none kV3 dc3 pm3 an3 cd3 ct3), sl3⟩) (c3 : PySem.W.codeIn K cd3 "_law_few" = true) (k3 : PySem.W.keepIn K (.ref f3) = true)
    (a4 : PySem.W.nsIn K mainGlobals "law" = some (some (.ref f4))) (l4 : K.lookup f4 = some ⟨oc4, od4, .func (PySem.W.fnOf "law" "law" (defArgs e4.st) (defBody e4.st) (defScope e4.st) .none kV4 dc4 pm4 an4 cd4 ct4), sl4⟩) (c4 : PySem.W.codeIn K cd4 "law" = true) (k4 : PySem.W.keepIn K (.ref f4) = true)
    (z0 : PySem.W.nsIn K mainGlobals "bool" = some none) (z1 : PySem.W.nsIn K mainGlobals "int" = some none) (z2 : PySem.W.nsIn K mainGlobals "isinstance" = some none) (z3 : PySem.W.nsIn K mainGlobals "len" = some none) (z4 : PySem.W.nsIn K mainGlobals "range" = some none) (z5 : PySem.W.nsIn K mainGlobals "tuple" = some none) :
    ∃ fd : FuncData, (∀ (s : Shared) (v : Value), BindsTo s fd ⟨[v], []⟩ [("script", v)]) ∧ ∀ base : Heap, K.In base → base.Ns mainGlobals mg → FnOk prog w K mg base (L2.CX prog w) 3 fa fd ["script"] (spF GC0 K P 3 4) := by
  have e := hfa.symm.trans (PySem.W.mg_of X G a4)
  cases e
  have F0 := fun_mk (st := e0.st) l0 c0 k0
  have b0 := F0.binds (ps := e0.ps) fun _ _ _ _ _ _ us hl => match us, hl with | [_, _], _ => rfl
  have E0 : EntOk K mg e0 := ⟨⟨rfl, rfl, rfl, by decide +kernel, rfl, by decide +kernel, by decide +kernel⟩, _, _, PySem.W.mg_of X G a0, F0, fun n => ⟨[], [], fun ρ H => (by rw [show e0.dvs = [] from rfl, List.drop_nil]; exact .nil), .nil, b0⟩⟩
  have F1 := fun_mk (st := e1.st) l1 c1 k1
  have b1 := F1.binds (ps := e1.ps) fun _ _ _ _ _ _ us hl => match us, hl with | [_, _], _ => rfl
  have E1 : EntOk K mg e1 := ⟨⟨rfl, rfl, rfl, by decide +kernel, rfl, by decide +kernel, by decide +kernel⟩, _, _, PySem.W.mg_of X G a1, F1, fun n => ⟨[], [], fun ρ H => (by rw [show e1.dvs = [] from rfl, List.drop_nil]; exact .nil), .nil, b1⟩⟩
  have F2 := fun_mk (st := e2.st) l2 c2 k2
  have b2 := F2.binds (ps := e2.ps) fun _ _ _ _ _ _ us hl => match us, hl with | [_, _, _], _ => rfl
  have E2 : EntOk K mg e2 := ⟨⟨rfl, rfl, rfl, by decide +kernel, rfl, by decide +kernel, by decide +kernel⟩, _, _, PySem.W.mg_of X G a2, F2, fun n => ⟨[], [], fun ρ H => (by rw [show e2.dvs = [] from rfl, List.drop_nil]; exact .nil), .nil, b2⟩⟩
  have F3 := fun_mk (st := e3.st) l3 c3 k3
  have b3 := F3.binds (ps := e3.ps) fun _ _ _ _ _ _ us hl => match us, hl with | [_, _, _], _ => rfl
  have E3 : EntOk K mg e3 := ⟨⟨rfl, rfl, rfl, by decide +kernel, rfl, by decide +kernel, by decide +kernel⟩, _, _, PySem.W.mg_of X G a3, F3, fun n => ⟨[], [], fun ρ H => (by rw [show e3.dvs = [] from rfl, List.drop_nil]; exact .nil), .nil, b3⟩⟩
  have F4 := fun_mk (st := e4.st) l4 c4 k4
  have b4 := F4.binds (ps := e4.ps) fun _ _ _ _ _ _ us hl => match us, hl with | [_], _ => rfl
  have E4 : EntOk K mg e4 := ⟨⟨rfl, rfl, rfl, by decide +kernel, rfl, by decide +kernel, by decide +kernel⟩, _, _, PySem.W.mg_of X G a4, F4, fun n => ⟨[], [], fun ρ H => (by rw [show e4.dvs = [] from rfl, List.drop_nil]; exact .nil), .nil, b4⟩⟩
  have ok : PgOk K mg pg := by
    refine ⟨fun e he => ?_, fun x hx => ?_, fun x d hx => (by cases hx)⟩
    · have he : e ∈ [e0, e1, e2, e3, e4] := he
      simp only [List.mem_cons, List.not_mem_nil, or_false] at he
      rcases he with rfl | rfl | rfl | rfl | rfl
      · exact E0
      · exact E1
      · exact E2
      · exact E3
      · exact E4
    · have hx : x ∈ (["bool", "int", "isinstance", "len", "range", "tuple"] : List Str) := by simpa [pg] using hx
      simp only [List.mem_cons, List.not_mem_nil, or_false] at hx
      rcases hx with rfl | rfl | rfl | rfl | rfl | rfl
      · exact PySem.W.mg_none_of X G z0
      · exact PySem.W.mg_none_of X G z1
      · exact PySem.W.mg_none_of X G z2
      · exact PySem.W.mg_none_of X G z3
      · exact PySem.W.mg_none_of X G z4
      · exact PySem.W.mg_none_of X G z5
  exact ⟨_, fun s v => .of_eq rfl, fun base _ _ => fn_all ok comp 3 4 e4 _ _ rfl F4⟩
end K2
open PySem PySem.W PyProof.Rows
set_option maxHeartbeats 0 in
theorem PySem.Challenge.cw_zoneward_k02_names_within_names_holds : PySem.Challenge.rw_zoneward_k02_names_within_names.Holds := by
  w_on; o_law; k_head; (case hw => w_witness2)
  k_fill
  refine L2.walk_of (l := PySem.Challenge.rw_zoneward_k02_names_within_names) (n := 63) (k := 3) (x := "script") (CX := fun w => L2.CX PySem.Challenge.rw_zoneward_k02_names_within_names.prog w) (sp := fun w => Z.spF Z.GC0 _ K2.P 3 4) rfl (by decide) rfl ⟨rfl, by decide, by decide⟩ (fun w h Y => PySem.W.kIn_of Y) ?F (fun _ _ a ns hl o hS => Z.law_sp o hS (K2.law ns 0)) (fun _ _ _ _ _ h => by obtain ⟨_, _, _, _, _, _, _, _, _, _, _, _, z⟩ := h; exact z)
  case F =>
    intro w mg fa h KX G hmg
    refine' K2.all_mk KX G hmg ?a0 ?l0 ?c0 ?k0 ?a1 ?l1 ?c1 ?k1 ?a2 ?l2 ?c2 ?k2 ?a3 ?l3 ?c3 ?k3 ?a4 ?l4 ?c4 ?k4 ?z0 ?z1 ?z2 ?z3 ?z4 ?z5
    (case a0 => k_is); (case l0 => k_is); (case c0 => k_is); (case k0 => k_is); (case a1 => k_is); (case l1 => k_is); (case c1 => k_is); (case k1 => k_is); (case a2 => k_is); (case l2 => k_is); (case c2 => k_is); (case k2 => k_is); (case a3 => k_is); (case l3 => k_is); (case c3 => k_is); (case k3 => k_is); (case a4 => k_is); (case l4 => k_is); (case c4 => k_is); (case k4 => k_is); (case z0 => k_is); (case z1 => k_is); (case z2 => k_is); (case z3 => k_is); (case z4 => k_is); (case z5 => k_is)

#print axioms PySem.Challenge.cw_zoneward_k02_names_within_names_holds
