import PyProof.Rows.All
import Wide.All
import OpenK.AllK
import Wide.FinOn
import Lean
import PyProof.EqAt
import PyProof.NeKinds
import PyProof.EqKinds
import PyProof.TupleCall
import PyProof.SumWalkG
import PyProof.FString
import PyProof.ZipIter
import PyProof.TupleIter
import KE.KDictOf
import KE.KDictList
import PyProof.SetKind
import PyProof.Rows.SetFrom
import PyProof.CollectWalk
import KE.KItemsList
import KE.KRevIter
import KE.KSortTup
import KE.KFind
import PyProof.DictIter
import PyProof.DictWalks
import PyProof.AttrMissHeap
import PyProof.Rows.SortWalk
import PyProof.StationsW
import PyProof.RulesAs
import PyProof.ExcArgs
import PyProof.ExcClass
import PyProof.ExcBaseAll.ValueError
import PySem.Challenge.RW_scruplehouse_k31_plans_without_steps
-- CHANGE: your row's module here, as the last of these rows
set_option Elab.async false
set_option linter.all false
set_option maxRecDepth 100000
/-! THE HAND LAYER, for ints, bools, texts, own classes, LISTS and tuples (index, slices, in, append, pop ..), calls, loops. Paste it whole ahead of your own text; what your proof does not reach may be deleted. -/
namespace L2
open PySem PySem.Spec PyProof.Rows

/-- a key: an int or a str -/
abbrev Key := Sum Int Str
def keyIs : Key → Value → Bool
  | .inl k, v => Value.isInt k v
  | .inr x, v => Value.isStrOf x v
def keyH (w : World) : Key → Int
  | .inl k => hashInt k
  | .inr x => hashStr w x
theorem keyIs_shape : ∀ {k : Key} {v : Value}, keyIs k v = true → (∃ i t, k = Sum.inl i ∧ v = Value.int i t) ∨ (∃ x t, k = Sum.inr x ∧ v = Value.str x t)
  | .inl i, v, h => by
    obtain ⟨t, e⟩ := Value.isInt_shape (k := i) (v := v) h
    exact .inl ⟨i, t, rfl, e⟩
  | .inr x, v, h => by
    obtain ⟨t, e⟩ := Value.isStrOf_shape (x := x) (v := v) h
    exact .inr ⟨x, t, rfl, e⟩
theorem key_ll (a b : Int) : decide ((Sum.inl a : Key) = Sum.inl b) = (a == b) := by
  by_cases e : a = b
  · subst e; simp
  · have h : ¬ (Sum.inl a : Key) = Sum.inl b := fun q => e (Sum.inl.inj q)
    rw [decide_eq_false h]
    exact (beq_eq_false_iff_ne.mpr e).symm
theorem key_rr (a b : Str) : decide ((Sum.inr a : Key) = Sum.inr b) = decide (a = b) := by
  by_cases e : a = b
  · subst e; simp
  · have h : ¬ (Sum.inr a : Key) = Sum.inr b := fun q => e (Sum.inr.inj q)
    rw [decide_eq_false h, decide_eq_false e]
theorem key_lr (a : Int) (b : Str) : decide ((Sum.inl a : Key) = Sum.inr b) = false := decide_eq_false (fun q => nomatch q)
theorem key_rl (a : Str) (b : Int) : decide ((Sum.inr a : Key) = Sum.inl b) = false := decide_eq_false (fun q => nomatch q)

def mixKind (prog : Program) (w : World) : PySem.KeyKind prog w Key where
  is := keyIs
  hash := keyH w
  inj := fun v a b ha hb => by
    rcases keyIs_shape ha with ⟨i, t, rfl, rfl⟩ | ⟨x, t, rfl, rfl⟩
    · rcases keyIs_shape hb with ⟨j, u, rfl, e⟩ | ⟨y, u, rfl, e⟩
      · injection e with e1 _; rw [e1]
      · exact nomatch e
    · rcases keyIs_shape hb with ⟨j, u, rfl, e⟩ | ⟨y, u, rfl, e⟩
      · exact nomatch e
      · injection e with e1 _; rw [e1]
  byValue := fun k v h => by
    rcases keyIs_shape h with ⟨i, t, rfl, rfl⟩ | ⟨x, t, rfl, rfl⟩ <;> rfl
  pyHash := fun hv h => by
    rcases keyIs_shape hv with ⟨i, t, rfl, rfl⟩ | ⟨x, t, rfl, rfl⟩
    · exact wpAny_pyHash_int h
    · exact wpAny_pyHash_str h
  eqBool := fun hu hv h => by
    rcases keyIs_shape hu with ⟨i, t, rfl, rfl⟩ | ⟨x, t, rfl, rfl⟩
    · rcases keyIs_shape hv with ⟨j, u, rfl, rfl⟩ | ⟨y, u, rfl, rfl⟩
      · rw [key_ll] at h; exact wpAny_eqBool_int h
      · rw [key_lr] at h; exact SeqAt.EqAt.int_str i t y u _ _ _ _ h
    · rcases keyIs_shape hv with ⟨j, u, rfl, rfl⟩ | ⟨y, u, rfl, rfl⟩
      · rw [key_rl] at h; exact SeqAt.EqAt.str_int x t j u _ _ _ _ h
      · rw [key_rr] at h; exact wpAny_eqBool_str h
  «strs» := fun k x t v h => by
    rcases keyIs_shape h with ⟨i, u, rfl, e⟩ | ⟨y, u, rfl, e⟩
    · exact nomatch e
    · injection e with e1 _
      subst e1
      cases v <;> rfl

end L2

namespace L2
open PySem PySem.Spec PyProof.Rows

/-- a value, without the heap -/
inductive V where
  | non | bl (b : Bool) | int (i : Int) | str (x : Str) | byt (b : Array UInt8) | flt (b : UInt64) | ref (a : Addr) | ty (n : String)
  deriving DecidableEq

def RelV : V → Value → Prop
  | .non, u => u = Value.none
  | .bl b, u => u = Value.bool b
  | .int i, u => ∃ t, u = Value.int i t
  | .str x, u => ∃ t, u = Value.str x t
  | .byt b, u => ∃ t, u = Value.bytes b t
  | .flt b, u => ∃ t, u = Value.float b t
  | .ref a, u => u = Value.ref a
  | .ty n, u => u = Value.type n

abbrev Vals : List V → List Value → Prop := Paired RelV
theorem Vals.length {xs : List V} {us : List Value} (r : Vals xs us) : xs.length = us.length := Paired.length r
theorem Vals.get : ∀ {xs : List V} {us : List Value} {i : Nat} {x : V}, Vals xs us → xs[i]? = some x → ∃ u, us[i]? = some u ∧ RelV x u
  | _, _, _, _, .nil, e => by simp at e
  | _, _, 0, _, .cons r _, e => by simp at e; subst e; exact ⟨_, rfl, r⟩
  | _, _, i + 1, x, .cons _ t, e => by
    obtain ⟨u, h1, h2⟩ := Vals.get (i := i) (x := x) t (by simpa using e)
    exact ⟨u, by simpa using h1, h2⟩
theorem Vals.set {x : V} {u : Value} (r : RelV x u) : ∀ {xs : List V} {us : List Value} (i : Nat), Vals xs us → Vals (xs.set i x) (us.set i u)
  | _, _, _, .nil => .nil
  | _, _, 0, .cons _ t => .cons r t
  | _, _, i + 1, .cons q t => .cons q (Vals.set r i t)
theorem Vals.append : ∀ {xs ys : List V} {us ws : List Value}, Vals xs us → Vals ys ws → Vals (xs ++ ys) (us ++ ws)
  | _, _, _, _, .nil, s => s
  | _, _, _, _, .cons r t, s => .cons r (Vals.append t s)
theorem Vals.take : ∀ {xs : List V} {us : List Value} (n : Nat), Vals xs us → Vals (xs.take n) (us.take n)
  | _, _, 0, _ => .nil
  | _, _, _ + 1, .nil => .nil
  | _, _, n + 1, .cons r t => .cons r (Vals.take n t)
theorem Vals.drop : ∀ {xs : List V} {us : List Value} (n : Nat), Vals xs us → Vals (xs.drop n) (us.drop n)
  | _, _, 0, r => r
  | _, _, _ + 1, .nil => .nil
  | _, _, n + 1, .cons _ t => Vals.drop n t

def RelO : Option V → Option Value → Prop
  | some v, some u => RelV v u
  | none, none => True
  | _, _ => False
def KV {κ : Type} : List (κ × V) → List (κ × Value) → Prop := Paired fun (p : κ × V) (q : κ × Value) => p.1 = q.1 ∧ RelV p.2 q.2

/-- a key of a dict (00_mix): an int or a text -/
def kV : Key → V
  | .inl i => .int i
  | .inr x => .str x

/-- what stands at a tracked address -/
inductive HO where
  /-- a list -/
  | lst (xs : List V)
  /-- a tuple (never changes) -/
  | tup (xs : List V)
  /-- a dict whose keys are ints and texts; one whose keys are tuples of ints and texts (the empty one is both) -/
  | dK (kvs : List (Key × V)) | dT (kvs : List (List Key × V))
  /-- a set of ints: its members, its size -/
  | set (S : Int → Bool) (n : Nat)
  /-- an instance of the class at C, its dict at dx, its attributes -/
  | ins (C dx : Addr) (fs : List (Str × V))
  /-- the dict of the instance at x -/
  | own (x : Addr)
  /-- the dict of an exception -/
  | xd (fs : List (Str × V))
  /-- a bound method, f of x -/
  | met (f x : Addr)
  /-- a range object lo, lo + 1, .. below hi -/
  | rng (lo hi : Int)
  /-- a thing that is known to the object (the script; a dict while a loop walks it): read, never written while it is so -/
  | frz (o : Obj) (u : HO)
  /-- a code object's table -/
  | tbl (ps : Array Value)
  /-- any other thing, by what is true of its one object (a def of one's own: SetO a S n := HO.ext fun h => ..) -/
  | ext (φ : Heap → Prop)

abbrev Hp := Addr → Option HO
def upd (H : Hp) (a : Addr) (o : HO) : Hp := fun b => if b = a then some o else H b
theorem upd_same {H : Hp} {a : Addr} {o : HO} : upd H a o a = some o := by unfold upd; rw [if_pos rfl]
theorem upd_ne {H : Hp} {a b : Addr} {o : HO} (h : b ≠ a) : upd H a o b = H b := by unfold upd; rw [if_neg h]
theorem upd_upd {H : Hp} {a : Addr} {o u : HO} : upd (upd H a o) a u = upd H a u := by
  funext b; unfold upd; split <;> rfl
theorem ne_of_none {H : Hp} {a b : Addr} {o : HO} (h : H a = some o) (h' : H b = none) : a ≠ b := by
  intro e; subst e; rw [h] at h'; cases h'

section
variable (P : Program) (w : World)
def ObjOk (H : Hp) (h : Heap) (a : Addr) : HO → Prop
  | .lst xs => xs.length ≤ sizeLine ∧ ∃ (its : List Value) (n : Nat), Vals xs its ∧ h.get? a = some { cls := .type "list", data := .seq its.toArray n }
  | .tup xs => xs.length ≤ sizeLine ∧ ∃ its : List Value, Vals xs its ∧ IsTup h a its.toArray
  | .dK kvs => kvs.length ≤ sizeLine ∧ (a == sysModules) = false ∧ ∃ vs, KV kvs vs ∧ h.DictOf (mixKind P w) a vs
  | .dT kvs => kvs.length ≤ sizeLine ∧ (a == sysModules) = false ∧ ∃ xs : List (List Key × Addr × Value),
      Paired (fun (p : List Key × V) (q : List Key × Addr × Value) => p.1 = q.1 ∧ H q.2.1 = some (.tup (p.1.map kV)) ∧ RelV p.2 q.2.2) kvs xs ∧
      ∃ o es ep, h.get? a = some o ∧ o.ExactDict ∧ o.data = .dict es ep ∧ es.toList = xs.map (entryOfKey (tupleKind (mixKind P w))) ∧ (xs.map (·.1)).Nodup
  | .set S n => h.SetOf (intKind P w) a S n
  | .ins C dx fs => H dx = some (.own a) ∧ fs.length ≤ 1000 ∧ dx ≠ a ∧ h.get? a = some (PySem.W.instObj C dx) ∧
      ∃ mA, h.Ns1 dx mA ∧ (∀ f, RelO (fs.lookup f) (mA f)) ∧ PySem.Within mA (fs.map (·.1))
  | .own _ => ∃ o, h.get? a = some o
  | .xd fs => ∃ mA, h.Ns1 a mA ∧ ∀ f, RelO (fs.lookup f) (mA f)
  | .rng lo hi => ∃ t u v, h.get? a = some { cls := .type "range", data := .fields #[.int lo t, .int hi u, .int 1 v] }
  | .frz o u => h.get? a = some o ∧ ObjOk H h a u
  | .tbl ps => h.get? a = some { cls := .none, data := .fields ps }
  | .met f x => h.get? a = some (PySem.W.methodObj (.ref f) (.ref x))
  | .ext φ => φ h ∧ (∃ o, h.get? a = some o) ∧ ∀ h1 h2 : Heap, φ h1 → (∀ o, h1.get? a = some o → h2.get? a = some o) → φ h2
/-- the abstract heap is held -/
def HOk (H : Hp) (h : Heap) : Prop := ∀ a o, H a = some o → ObjOk P w H h a o
end

section
variable {P : Program} {w : World} {H H' : Hp} {h h' : Heap} {a : Addr} {o : HO}
theorem ObjOk.lt (x : ObjOk P w H h a o) : a < h.objs.size := by
  cases o with
  | lst xs => obtain ⟨_, _, _, _, e⟩ := x; exact Heap.lt_size e
  | tup xs => obtain ⟨_, _, _, p⟩ := x; exact p.lt
  | dK kvs => obtain ⟨_, _, _, _, o, _, _, e, _⟩ := x; exact Heap.lt_size e
  | dT kvs => obtain ⟨_, _, _, _, o, _, _, e, _⟩ := x; exact Heap.lt_size e
  | set S n => obtain ⟨o, _, _, _, e, _⟩ := x; exact Heap.lt_size e
  | ins C dx fs => obtain ⟨_, _, _, e, _⟩ := x; exact Heap.lt_size e
  | own y => obtain ⟨_, e⟩ := x; exact Heap.lt_size e
  | xd fs => obtain ⟨_, ⟨_, _, _, e, _⟩, _⟩ := x; exact Heap.lt_size e
  | rng lo hi => obtain ⟨_, _, _, e⟩ := x; exact Heap.lt_size e
  | frz ob u => obtain ⟨e, _⟩ := x; exact Heap.lt_size e
  | tbl ps => exact Heap.lt_size (show h.get? a = some _ from x)
  | met f y => exact Heap.lt_size (show h.get? a = some _ from x)
  | ext φ => obtain ⟨_, ⟨_, e⟩, _⟩ := x; exact Heap.lt_size e
theorem Paired.mapP {α β : Type} {F G : α → β → Prop} : ∀ {l₁ : List α} {l₂ : List β}, Paired F l₁ l₂ → (∀ a b, F a b → G a b) → Paired G l₁ l₂
  | _, _, .nil, _ => .nil
  | _, _, .cons r t, f => .cons (f _ _ r) (Paired.mapP t f)
/-- what an object's description leans on: its own object, its own dict, the tuples -/
theorem ObjOk.stay (x : ObjOk P w H h a o) (k : ∀ b u, (b = a ∨ H b = some (.own a)) → h.get? b = some u → h'.get? b = some u)
    (ho : ∀ b, H b = some (.own a) → H' b = some (.own a)) (ht : ∀ b xs, H b = some (.tup xs) → H' b = some (.tup xs)) : ObjOk P w H' h' a o := by
  induction o with
  | lst xs => obtain ⟨z, its, n, r, e⟩ := x; exact ⟨z, its, n, r, k _ _ (.inl rfl) e⟩
  | tup xs => obtain ⟨z, its, r, ob, e, c⟩ := x; exact ⟨z, its, r, ob, k _ _ (.inl rfl) e, c⟩
  | dK kvs => obtain ⟨z, y, vs, r, ob, es, ep, e, c⟩ := x; exact ⟨z, y, vs, r, ob, es, ep, k _ _ (.inl rfl) e, c⟩
  | dT kvs =>
    obtain ⟨z, y, xs, r, ob, es, ep, e, c⟩ := x
    exact ⟨z, y, xs, Paired.mapP r fun p q z => ⟨z.1, ht _ _ z.2.1, z.2.2⟩, ob, es, ep, k _ _ (.inl rfl) e, c⟩
  | set S n => obtain ⟨ob, es, ep, t, e, c⟩ := x; exact ⟨ob, es, ep, t, k _ _ (.inl rfl) e, c⟩
  | ins C dx fs =>
    obtain ⟨d, z, ne, e, mA, ⟨od, es, ep, e2, c⟩, r⟩ := x
    exact ⟨ho _ d, z, ne, k _ _ (.inl rfl) e, mA, ⟨od, es, ep, k _ _ (.inr d) e2, c⟩, r⟩
  | own y => obtain ⟨ob, e⟩ := x; exact ⟨ob, k _ _ (.inl rfl) e⟩
  | xd fs => obtain ⟨mA, ⟨od, es, ep, e, c⟩, r⟩ := x; exact ⟨mA, ⟨od, es, ep, k _ _ (.inl rfl) e, c⟩, r⟩
  | rng lo hi => obtain ⟨t, u, v, e⟩ := x; exact ⟨t, u, v, k _ _ (.inl rfl) e⟩
  | frz ob u ih => obtain ⟨e, q⟩ := x; exact ⟨k _ _ (.inl rfl) e, ih q⟩
  | tbl ps =>
    have e : h.get? a = some { cls := .none, data := .fields ps } := x
    show h'.get? a = some { cls := .none, data := .fields ps }
    exact k a _ (.inl rfl) e
  | met f y =>
    have e : h.get? a = some (PySem.W.methodObj (.ref f) (.ref y)) := x
    show h'.get? a = some (PySem.W.methodObj (.ref f) (.ref y))
    exact k a _ (.inl rfl) e
  | ext φ => obtain ⟨p, ⟨o, e⟩, st⟩ := x; exact ⟨st _ _ p fun o q => k _ _ (.inl rfl) q, ⟨o, k _ _ (.inl rfl) e⟩, st⟩
theorem HOk.lt (x : HOk P w H h) (e : H a = some o) : a < h.objs.size := (x a o e).lt
theorem HOk.fresh (x : HOk P w H h) (e : h.objs.size ≤ a) : H a = none := by
  cases q : H a with
  | none => rfl
  | some u => exact absurd (Nat.lt_of_lt_of_le (x.lt q) e) (Nat.lt_irrefl _)
/-- every object of the heap is kept -/
theorem HOk.kept (x : HOk P w H h) (k : ∀ b u, h.get? b = some u → h'.get? b = some u) : HOk P w H h' := fun a o e =>
  (x a o e).stay (fun b u _ q => k b u q) (fun _ q => q) fun _ _ q => q
/-- a new object is laid and tracked -/
theorem HOk.laid (x : HOk P w H h) (k : ∀ b u, h.get? b = some u → h'.get? b = some u) (hp : h.objs.size ≤ a) (new : ObjOk P w (upd H a o) h' a o) : HOk P w (upd H a o) h' := fun b u e => by
  have hn := x.fresh hp
  by_cases hb : b = a
  · subst hb; rw [upd_same] at e; cases e; exact new
  · rw [upd_ne hb] at e
    exact (x b u e).stay (fun c v _ q => k c v q) (fun c q => by rw [upd_ne (ne_of_none q hn)]; exact q) fun c xs q => by rw [upd_ne (ne_of_none q hn)]; exact q
end

/-- what may be read as u: it is u, or a known u -/
def Rd (H : Hp) (a : Addr) (u : HO) : Prop := H a = some u ∨ ∃ o, H a = some (.frz o u)
theorem Rd.of {H : Hp} {a : Addr} {u : HO} (h : H a = some u) : Rd H a u := .inl h
theorem Rd.ok {P : Program} {w : World} {H : Hp} {h : Heap} {a : Addr} {u : HO} (r : Rd H a u) (x : HOk P w H h) : ObjOk P w H h a u := by
  rcases r with r | ⟨o, r⟩
  · exact x a u r
  · obtain ⟨_, q⟩ := x a _ r
    exact q
/-- what may be written -/
def Mut : Option HO → Prop
  | some (.lst _) => True
  | some (.dK _) => True
  | some (.dT _) => True
  | some (.set _ _) => True
  | some (.ins _ _ _) => True
  | some (.ext _) => True
  | _ => False
section
variable {P : Program} {w : World} {H : Hp} {h h' : Heap} {x e : Addr} {o' : HO}
/-- the object at e is changed: x itself, or the dict of the instance x -/
theorem HOk.write (ok : HOk P w H h) (mu : Mut (H x)) (he : e = x ∨ H e = some (.own x)) (k : ∀ b u, b ≠ e → h.get? b = some u → h'.get? b = some u) (heo : ∃ u, h'.get? e = some u)
    (new : ObjOk P w (upd H x o') h' x o') : HOk P w (upd H x o') h' := fun b u q => by
  have nown : ∀ c y, H c = some (.own y) → c ≠ x := fun c y r z => by subst z; rw [r] at mu; exact mu
  have ntup : ∀ c xs, H c = some (.tup xs) → c ≠ x := fun c xs r z => by subst z; rw [r] at mu; exact mu
  by_cases hb : b = x
  · subst hb; rw [upd_same] at q; cases q; exact new
  · rw [upd_ne hb] at q
    by_cases hbe : b = e
    · have q' : H b = some (.own x) := by
        rcases he with z | z
        · exact absurd (hbe.trans z) hb
        · rw [hbe]; exact z
      rw [q] at q'; cases q'
      obtain ⟨v, hv⟩ := heo
      exact ⟨v, by rw [hbe]; exact hv⟩
    · refine (ok b u q).stay (fun c v hc r => k c v ?_ r) (fun c r => by rw [upd_ne (nown c b r)]; exact r) fun c xs r => by rw [upd_ne (ntup c xs r)]; exact r
      rcases hc with rfl | hc
      · exact hbe
      · rintro rfl
        rcases he with z | z
        · exact nown c b hc z
        · rw [hc] at z; cases z; exact hb rfl
end

/-! ### kept unless tracked; of the frames at fs (the callers') the slots may change (an exception that passes writes there); of the records at ex (iterators) nothing is said -/
structure Un (fs ex : List Addr) (H H' : Hp) (h h' : Heap) : Prop where
  keep : ∀ b o, h.get? b = some o → H b = none → b ∉ fs → b ∉ ex → h'.get? b = some o
  slot : ∀ b o, h.get? b = some o → H b = none → b ∈ fs → b ∉ ex → ∃ sl, h'.get? b = some { o with slots := sl }
  free : ∀ b o, h.get? b = some o → H b = none → b ∉ ex → H' b = none
  there : ∀ b o, h.get? b = some o → b ∉ ex → ∃ o', h'.get? b = some o'
  tups : ∀ b xs, H b = some (.tup xs) → H' b = some (.tup xs)
  frzs : ∀ b o u, H b = some (.frz o u) → H' b = some (.frz o u)
  tbls : ∀ b ps, H b = some (.tbl ps) → ∃ more, H' b = some (.tbl (ps ++ more))
section
variable {fs fs' ex ex' : List Addr} {H H1 H2 : Hp} {h h1 h2 h' : Heap} {a x e : Addr} {o : HO}
theorem Un.any (u : Un fs ex H H1 h h1) {b : Addr} {ob : Obj} (q : h.get? b = some ob) (n : H b = none) (hx : b ∉ ex) : ∃ sl, h1.get? b = some { ob with slots := sl } := by
  by_cases hb : b ∈ fs
  · exact u.slot b ob q n hb hx
  · exact ⟨ob.slots, u.keep b ob q n hb hx⟩
theorem Un.trans (a : Un fs ex H H1 h h1) (b : Un fs ex H1 H2 h1 h2) : Un fs ex H H2 h h2 where
  keep := fun c ob q n hc hx => b.keep c ob (a.keep c ob q n hc hx) (a.free c ob q n hx) hc hx
  slot := fun c ob q n hc hx => by
    obtain ⟨sl, e1⟩ := a.slot c ob q n hc hx
    obtain ⟨sl', e2⟩ := b.slot c _ e1 (a.free c ob q n hx) hc hx
    exact ⟨sl', e2⟩
  free := fun c ob q n hx => by
    obtain ⟨o', e1⟩ := a.there c ob q hx
    exact b.free c o' e1 (a.free c ob q n hx) hx
  there := fun c ob q hx => by
    obtain ⟨o', e1⟩ := a.there c ob q hx
    exact b.there c o' e1 hx
  tups := fun c xs q => b.tups c xs (a.tups c xs q)
  frzs := fun c ob xs q => b.frzs c ob xs (a.frzs c ob xs q)
  tbls := fun c ps q => by
    obtain ⟨m1, e1⟩ := a.tbls c ps q
    obtain ⟨m2, e2⟩ := b.tbls c _ e1
    exact ⟨m1 ++ m2, by rw [e2, Array.append_assoc]⟩
theorem Un.kept (k : ∀ b u, h.get? b = some u → h'.get? b = some u) : Un fs ex H H h h' :=
  ⟨fun b ob q _ _ _ => k b ob q, fun b ob q _ _ _ => ⟨ob.slots, k b ob q⟩, fun _ _ _ n _ => n, fun b ob q _ => ⟨ob, k b ob q⟩, fun _ _ q => q, fun _ _ _ q => q, fun _ ps q => ⟨#[], by rw [q]; simp⟩⟩
theorem Un.refl : Un fs ex H H h h := Un.kept fun _ _ q => q
theorem Un.laid (k : ∀ b u, h.get? b = some u → h'.get? b = some u) (hp : h.objs.size ≤ a) (hn : H a = none) : Un fs ex H (upd H a o) h h' where
  keep := fun b u q _ _ _ => k b u q
  slot := fun b u q _ _ _ => ⟨u.slots, k b u q⟩
  free := fun b u q n _ => by rw [upd_ne (Nat.ne_of_lt (Nat.lt_of_lt_of_le (Heap.lt_size q) hp))]; exact n
  there := fun b u q _ => ⟨u, k b u q⟩
  tups := fun b xs q => by rw [upd_ne (ne_of_none q hn)]; exact q
  frzs := fun b u xs q => by rw [upd_ne (ne_of_none q hn)]; exact q
  tbls := fun b ps q => ⟨#[], by rw [upd_ne (ne_of_none q hn), q]; simp⟩
theorem Un.write (mu : Mut (H x)) (he : e = x ∨ H e = some (.own x)) (k : ∀ b u, b ≠ e → h.get? b = some u → h'.get? b = some u) (heo : ∃ u, h'.get? e = some u) : Un fs ex H (upd H x o) h h' := by
  have hx : ∀ b, H b = none → b ≠ x := fun b n z => by subst z; rw [n] at mu; exact mu
  have hb : ∀ b, H b = none → b ≠ e := fun b n z => by
    subst z
    rcases he with r | r
    · exact hx b n r
    · rw [n] at r; cases r
  have hm : ∀ b u, H b = some u → ¬ Mut (some u) → b ≠ x := fun b u q nm z => by subst z; rw [q] at mu; exact nm mu
  refine ⟨fun b u q n _ _ => k b u (hb b n) q, fun b u q n _ _ => ⟨u.slots, k b u (hb b n) q⟩, fun b u q n _ => by rw [upd_ne (hx b n)]; exact n, fun b u q _ => ?_,
    fun b xs q => by rw [upd_ne (hm b _ q fun z => z)]; exact q, fun b u xs q => by rw [upd_ne (hm b _ q fun z => z)]; exact q, fun b ps q => ⟨#[], by rw [upd_ne (hm b _ q fun z => z), q]; simp⟩⟩
  by_cases hbe : b = e
  · subst hbe; exact heo
  · exact ⟨u, k b u hbe q⟩
theorem Un.mono (u : Un fs ex H H1 h h1) (hs : ∀ b ∈ fs, b ∈ fs') (hx : ∀ b ∈ ex, b ∈ ex') : Un fs' ex' H H1 h h1 :=
  ⟨fun b ob q n hb he => u.keep b ob q n (fun z => hb (hs b z)) fun z => he (hx b z), fun _ _ q n _ he => u.any q n fun z => he (hx _ z), fun b ob q n he => u.free b ob q n fun z => he (hx b z), fun b ob q he => u.there b ob q fun z => he (hx b z), u.tups, u.frzs, u.tbls⟩
end

/-! ### the heap without what is tracked -/
def trk (h : Heap) (H : Hp) : List Addr := (List.range h.objs.size).filter fun a => (H a).isSome
def hidT (h : Heap) (H : Hp) : Heap := PySem.W.hideAll h (trk h H)
theorem hidT_size (h : Heap) (H : Hp) : (hidT h H).objs.size = h.objs.size := PySem.W.hideAll_size _ _
theorem hidT_get {h : Heap} {H : Hp} {b : Addr} {o : Obj} (e : h.get? b = some o) (n : H b = none) : (hidT h H).get? b = some o :=
  PySem.W.hideAll_get _ e fun hm => by
    have q : (H b).isSome = true := (List.mem_filter.mp hm).2
    rw [n] at q; simp at q
theorem of_hidT {h : Heap} {H : Hp} {b : Addr} {o : Obj} (e : (hidT h H).get? b = some o) : h.get? b = some o ∧ H b = none := by
  have e' : h.get? b = some o := PySem.W.of_hideAll (trk h H) e
  refine ⟨e', ?_⟩
  cases q : H b with
  | none => rfl
  | some x =>
    have hm : b ∈ trk h H := List.mem_filter.mpr ⟨List.mem_range.mpr (Heap.lt_size e'), by simp [q]⟩
    have z : (hidT h H).get? b = none := PySem.W.hideAll_none (trk h H) hm
    rw [z] at e; cases e

/-! ### OpenK's ledger, filled with every new object but one -/
def allNews (g h : Heap) (L : Addr) : List (Addr × Obj) := (List.range h.objs.size).filterMap fun a => if a = L ∨ (g.get? a).isSome = true then none else (h.get? a).map fun o => (a, o)
def rest (g h : Heap) (L d : Addr) : List (Addr × Obj) := (allNews g h L).filter fun p => decide (p.1 ≠ d)
end L2

namespace L2
open PySem PySem.Spec PyProof.Rows

/-- the module's facts, over the base: the heap at the law's entry without what is tracked there -/
structure Mod (K : PySem.W.Frag) (mg : Str → Option Value) (base : Heap) : Prop where
  kin : K.In base
  glob : base.Ns mainGlobals mg
  blt : ∃ mb, base.Ns builtinsNs mb ∧ ∀ x : Str, x ≠ "__name__" → mb x = bootBuiltins x
  nolimit : base.NoLimit

/-- the context: a def's body (or a comprehension's block) running. base: fixed through the whole law; s₀, H₀: the entry; outer: the frames whose slots others may change (a def's callers); stack: all frames that run;
   ex: iterators that were made ahead of the entry and are walked here (a comprehension's); fn: the names whose cells were made at the entry (a def: all; a comprehension's block: its own); calm: not within an except suite; pn: pins that every state bears; xe: what is wanted of an exception that leaves the code -/
structure Cx where
  prog : Program
  w : World
  K : PySem.W.Frag
  mg : Str → Option Value
  base : Heap
  A : Around
  N : List Str
  s₀ : Shared
  H₀ : Hp
  env : Env
  outer : List Env
  stack : List Env
  ex : List Addr
  fn : Str → Bool
  calm : Bool
  pn : List (Addr × Obj)
  xe : Value → Shared → Prop
/-- the callers' frames -/
def frs (l : List Env) : List Addr := l.filterMap (·.frame)
abbrev Cx.fs (X : Cx) : List Addr := frs X.outer

def Vis (sc : Scope) (x : Str) : Prop := sc.names.lookup x = some .local ∨ sc.names.lookup x = some .cell ∨ sc.names.lookup x = some .free
def Loc (sc : Scope) (x : Str) : Prop := sc.names.lookup x = some .local ∨ sc.names.lookup x = some .cell
def Look (env : Env) (h : Heap) (m : Str → Option Value) (x : Str) (u : Value) : Prop :=
  (env.kindOf x = some .local ∧ m x = some u) ∨ ((env.kindOf x = some .cell ∨ env.kindOf x = some .free) ∧ ∃ c, env.cells.lookup x = some c ∧ h.IsCell c (some u))

structure Cx.Ok (X : Cx) : Prop where
  mod : Mod X.K X.mg X.base
  kind : X.env.scope.kind = .function
  glob : X.env.globals = mainGlobals
  blt : X.env.builtins = builtinsNs
  above : X.s₀.heap.objs.size ≤ X.env.locals
  inj : ∀ x y c, X.env.cells.lookup x = some c → X.env.cells.lookup y = some c → x = y
  has : ∀ x, (X.env.kindOf x = some .cell ∨ X.env.kindOf x = some .free) → ∃ c, X.env.cells.lookup x = some c
  cab : ∀ x c, X.fn x = true → X.env.cells.lookup x = some c → X.s₀.heap.objs.size ≤ c
  hd : X.calm = true → X.A.handled = none
  frames : X.A.frames = some X.stack
  stk : X.stack = X.outer ∨ (X.stack = X.env :: X.outer ∧ X.env.frame = some X.env.locals)
  exf : ∀ b ∈ X.ex, b ≠ X.env.locals ∧ ∀ x c, X.env.cells.lookup x = some c → c ≠ b
  bs : ∀ b o, X.base.get? b = some o → X.s₀.heap.get? b = some o ∧ X.H₀ b = none
  bsz : X.base.objs.size ≤ X.s₀.heap.objs.size
  noex : ∀ b o, X.base.get? b = some o → b ∉ X.ex
  exfs : ∀ b ∈ X.ex, b ∉ X.fs
  funs : X.s₀.heap.FunFrames X.base X.outer
  frf : ∀ b ∈ X.fs, X.H₀ b = none

structure Inv (X : Cx) (pins : List (Addr × Obj)) (σ : List (Option V)) (H : Hp) (s : Shared) : Prop where
  ok : X.Ok
  os : s.os = X.s₀.os
  bare : AllBare s.gens
  base : Un X.fs X.ex X.H₀ H X.s₀.heap s.heap
  loc : ∃ m, s.heap.Ns X.env.locals m ∧ ∀ (i : Nat) (x : Str) (v : V), X.N[i]? = some x → σ[i]? = some (some v) → Vis X.env.scope x → ∃ u, RelV v u ∧ Look X.env s.heap m x u
  cell : ∀ x c, X.env.cells.lookup x = some c → ∃ v, s.heap.IsCell c v
  free : H X.env.locals = none
  freeC : ∀ x c, X.env.cells.lookup x = some c → H c = none
  pin : ∀ p ∈ X.pn ++ pins, s.heap.get? p.1 = some p.2 ∧ H p.1 = none ∧ p.1 ≠ X.env.locals ∧ p.1 ∉ X.fs ∧ ∀ v, p.2.data ≠ .cell v
  hok : HOk X.prog X.w H s.heap
  len : σ.length = X.N.length

section
variable {X : Cx} {pins : List (Addr × Obj)} {σ : List (Option V)} {H H' : Hp} {s : Shared} {h' : Heap}

theorem Cx.Ok.nofr (ok : X.Ok) {b : Addr} {o : Obj} (e : X.base.get? b = some o) : b ∉ X.fs := fun hb => by
  have := (ok.funs.mem hb).1
  rw [e] at this; cases this
theorem Inv.bs (I : Inv X pins σ H s) : ∀ b o, X.base.get? b = some o → s.heap.get? b = some o ∧ H b = none := fun b o e =>
  ⟨I.base.keep b o (I.ok.bs b o e).1 (I.ok.bs b o e).2 (I.ok.nofr e) (I.ok.noex b o e), I.base.free b o (I.ok.bs b o e).1 (I.ok.bs b o e).2 (I.ok.noex b o e)⟩
theorem Inv.bk (I : Inv X pins σ H s) : ∀ b o, X.base.get? b = some o → s.heap.get? b = some o := fun b o e => (I.bs b o e).1
theorem Inv.mod (I : Inv X pins σ H s) : Mod X.K X.mg X.base := I.ok.mod
theorem Inv.kIn (I : Inv X pins σ H s) : X.K.In s.heap := I.ok.mod.kin.keeps I.bk
theorem Inv.nolimit (I : Inv X pins σ H s) : s.heap.NoLimit := I.ok.mod.nolimit.keeps I.bk
/-- the frame over the base: for OpenK's rules (K.In X.base is I.mod.kin) -/
theorem Inv.fr (I : Inv X pins σ H s) : ∃ m, Fr X.base X.env.locals s.heap m :=
  let ⟨m, hn, _⟩ := I.loc
  ⟨m, hn, I.bk, Nat.le_trans I.ok.bsz I.ok.above⟩
theorem Inv.lt (I : Inv X pins σ H s) : X.env.locals < s.heap.objs.size := let ⟨_, hn, _⟩ := I.loc; hn.lt
theorem Inv.sz (I : Inv X pins σ H s) : X.s₀.heap.objs.size ≤ s.heap.objs.size := Nat.le_trans I.ok.above (Nat.le_of_lt I.lt)
theorem Inv.nofs (I : Inv X pins σ H s) {a : Addr} (h : s.heap.objs.size ≤ a) : a ∉ X.fs := fun hb => by
  obtain ⟨_, o, ho, _⟩ := I.ok.funs.mem hb
  exact absurd (Nat.lt_of_lt_of_le (Heap.lt_size ho) (Nat.le_trans I.sz h)) (Nat.lt_irrefl _)
theorem Inv.cne (I : Inv X pins σ H s) : ∀ x c, X.env.cells.lookup x = some c → c ≠ X.env.locals := fun x c e z => by
  obtain ⟨v, o, ho, hd⟩ := I.cell x c e
  obtain ⟨m, ⟨o', es, ep, ho', hd', _⟩, _⟩ := I.loc
  rw [z, ho'] at ho; cases ho; rw [hd'] at hd; cases hd
theorem Inv.funs (I : Inv X pins σ H s) : s.heap.FunFrames X.base X.outer := by
  have all : ∀ (l : List Env), (∀ b ∈ frs l, b ∈ X.fs) → X.s₀.heap.FunFrames X.base l → s.heap.FunFrames X.base l := by
    intro l
    induction l with
    | nil => intro _ _; trivial
    | cons env r ih =>
      intro hs hl
      obtain ⟨hk, ⟨L, o, hf, hn, ho, hd⟩, hr⟩ := hl
      have hL : L ∈ X.fs := hs L (by unfold frs; rw [List.filterMap_cons, hf]; exact List.mem_cons_self)
      obtain ⟨sl, e⟩ := I.base.slot L o ho (I.ok.frf L hL) hL fun z => I.ok.exfs L z hL
      exact ⟨hk, ⟨L, _, hf, hn, e, hd⟩, ih (fun b hb => hs b (by unfold frs; rw [List.filterMap_cons, hf]; exact List.mem_cons_of_mem _ hb)) hr⟩
  exact all X.outer (fun _ hb => hb) I.ok.funs

/-- the frames that run, for a call -/
theorem Inv.stack (I : Inv X pins σ H s) : s.heap.FunFrames X.base X.stack := by
  rcases I.ok.stk with e | ⟨e, hf⟩
  · rw [e]; exact I.funs
  · rw [e]
    obtain ⟨m, hn, _⟩ := I.loc
    refine .cons (by rw [I.ok.kind]; decide) hf hn ?_ I.funs
    exact Heap.get?_none_of_le (Nat.le_trans I.ok.bsz I.ok.above)
theorem Inv.stkSub (I : Inv X pins σ H s) : ∀ b ∈ frs X.stack, b ∈ X.env.locals :: X.fs := fun b hb => by
  rcases I.ok.stk with e | ⟨e, hf⟩
  · rw [e] at hb; exact List.mem_cons_of_mem _ hb
  · rw [e] at hb
    unfold frs at hb
    rw [List.filterMap_cons, hf] at hb
    exact hb
theorem Inv.stkFree (I : Inv X pins σ H s) : ∀ b ∈ frs X.stack, H b = none := fun b hb => by
  rcases List.mem_cons.mp (I.stkSub b hb) with e | hb
  · rw [e]; exact I.free
  · obtain ⟨_, o, ho, _⟩ := I.ok.funs.mem hb
    exact I.base.free b o ho (I.ok.frf b hb) fun z => I.ok.exfs b z hb

/-- THE STEP: the untracked objects but the frame and the records at ch are kept (the callers' frames up to slots), the frame's map is kept, the new abstract heap is held -/
theorem Inv.step {g' : Array GenState} {t' : Nat} {d' : Drawn} {ch : List Addr} (I : Inv X pins σ H s)
    (hch : ∀ b ∈ ch, (b ∈ X.ex ∨ X.s₀.heap.objs.size ≤ b) ∧ b ≠ X.env.locals ∧ (∀ x c, X.env.cells.lookup x = some c → c ≠ b) ∧ ∀ p ∈ X.pn ++ pins, p.1 ≠ b)
    (keep : ∀ b o, b ≠ X.env.locals → b ∉ X.fs → b ∉ ch → s.heap.get? b = some o → H b = none → h'.get? b = some o)
    (slot : ∀ b o, b ≠ X.env.locals → b ∈ X.fs → b ∉ ch → s.heap.get? b = some o → H b = none → ∃ sl, h'.get? b = some { o with slots := sl }) (free : ∀ b o, b ∉ ch → s.heap.get? b = some o → H b = none → H' b = none)
    (there : ∀ b o, b ∉ ch → s.heap.get? b = some o → ∃ o', h'.get? b = some o')
    (tups : ∀ b xs, H b = some (.tup xs) → H' b = some (.tup xs)) (frzs : ∀ b o u, H b = some (.frz o u) → H' b = some (.frz o u)) (tbls : ∀ b ps, H b = some (.tbl ps) → ∃ more, H' b = some (.tbl (ps ++ more)))
    (ns : ∀ m, s.heap.Ns X.env.locals m → h'.Ns X.env.locals m) (hok : HOk X.prog X.w H' h') (hg : AllBare g') :
    Inv X pins σ H' { s with heap := h', gens := g', drawn := d', toks := t' } := by
  have neL : ∀ b o, X.s₀.heap.get? b = some o → b ≠ X.env.locals := fun b o e => Nat.ne_of_lt (Nat.lt_of_lt_of_le (Heap.lt_size e) I.ok.above)
  have neC : ∀ b o, X.s₀.heap.get? b = some o → b ∉ X.ex → b ∉ ch := fun b o e hx hb => by
    rcases (hch b hb).1 with z | z
    · exact hx z
    · exact absurd (Nat.lt_of_lt_of_le (Heap.lt_size e) z) (Nat.lt_irrefl _)
  have cellK : ∀ x c, X.env.cells.lookup x = some c → ∀ v, s.heap.IsCell c v → h'.IsCell c v := fun x c e v ⟨o, ho, hd⟩ => by
    have nch : c ∉ ch := fun z => (hch c z).2.2.1 x c e rfl
    by_cases hc : c ∈ X.fs
    · obtain ⟨sl, q⟩ := slot c o (I.cne x c e) hc nch ho (I.freeC x c e)
      exact ⟨_, q, hd⟩
    · exact ⟨o, keep c o (I.cne x c e) hc nch ho (I.freeC x c e), hd⟩
  refine ⟨I.ok, I.os, hg, ⟨fun b o e n hb hx => ?_, fun b o e n hb hx => ?_, fun b o e n hx => ?_, fun b o e hx => ?_, fun b xs e => tups b xs (I.base.tups b xs e), fun b o xs e => frzs b o xs (I.base.frzs b o xs e), fun b ps e => ?_⟩, ?_, fun x c e => ?_, ?_, fun x c e => ?_, fun p hp => ?_, hok, I.len⟩
  · exact keep b o (neL b o e) hb (neC b o e hx) (I.base.keep b o e n hb hx) (I.base.free b o e n hx)
  · obtain ⟨sl, e1⟩ := I.base.slot b o e n hb hx
    obtain ⟨sl', e2⟩ := slot b _ (neL b o e) hb (neC b o e hx) e1 (I.base.free b o e n hx)
    exact ⟨sl', e2⟩
  · obtain ⟨o', e1⟩ := I.base.there b o e hx
    exact free b o' (neC b o e hx) e1 (I.base.free b o e n hx)
  · obtain ⟨o', e1⟩ := I.base.there b o e hx
    exact there b o' (neC b o e hx) e1
  · obtain ⟨m1, e1⟩ := I.base.tbls b ps e
    obtain ⟨m2, e2⟩ := tbls b _ e1
    exact ⟨m1 ++ m2, by rw [e2, Array.append_assoc]⟩
  · obtain ⟨m, hn, hl⟩ := I.loc
    refine ⟨m, ns m hn, fun i x v e1 e2 e3 => ?_⟩
    obtain ⟨u, r, l⟩ := hl i x v e1 e2 e3
    refine ⟨u, r, ?_⟩
    rcases l with l | ⟨k, c, e, z⟩
    · exact .inl l
    · exact .inr ⟨k, c, e, cellK x c e _ z⟩
  · obtain ⟨v, z⟩ := I.cell x c e
    exact ⟨v, cellK x c e v z⟩
  · obtain ⟨m, ⟨o, _, _, ho, _⟩, _⟩ := I.loc
    exact free _ o (fun z => (hch _ z).2.1 rfl) ho I.free
  · obtain ⟨v, o, ho, hd⟩ := I.cell x c e
    exact free c o (fun z => (hch c z).2.2.1 x c e rfl) ho (I.freeC x c e)
  · obtain ⟨e, n, ne, nf, d⟩ := I.pin p hp
    have nch : p.1 ∉ ch := fun z => (hch p.1 z).2.2.2 p hp rfl
    exact ⟨keep p.1 p.2 ne nf nch e n, free p.1 p.2 nch e n, ne, nf, d⟩
/-- .. where the frame's own object is kept too -/
theorem Inv.un {t' : Nat} (I : Inv X pins σ H s) (u : Un X.fs [] H H' s.heap h') (hok : HOk X.prog X.w H' h') : Inv X pins σ H' { s with heap := h', toks := t' } := by
  obtain ⟨m, ⟨o, es, ep, ho, r⟩, _⟩ := id I.loc
  obtain ⟨sl, hL⟩ := u.any ho I.free (by simp)
  exact I.step (g' := s.gens) (d' := s.drawn) (ch := []) (fun _ z => nomatch z) (fun b o _ hb _ e n => u.keep b o e n hb (by simp)) (fun b o _ hb _ e n => u.slot b o e n hb (by simp)) (fun b o _ e n => u.free b o e n (by simp)) (fun b o _ e => u.there b o e (by simp)) u.tups u.frzs u.tbls (fun m' hm => by
    obtain ⟨o', es', ep', ho', r'⟩ := hm
    rw [ho] at ho'; cases ho'
    exact ⟨_, es', ep', hL, r'⟩) hok I.bare
/-- behind a call (or a comprehension's block): the slots of this frame may have changed too, the records at ch may have turned -/
theorem Inv.call {g' : Array GenState} {t' : Nat} {d' : Drawn} {ch : List Addr} (I : Inv X pins σ H s) (u : Un (frs X.stack) ch H H' s.heap h') (hok : HOk X.prog X.w H' h') (hg : AllBare g')
    (hch : ∀ b ∈ ch, (b ∈ X.ex ∨ X.s₀.heap.objs.size ≤ b) ∧ b ≠ X.env.locals ∧ (∀ x c, X.env.cells.lookup x = some c → c ≠ b) ∧ ∀ p ∈ X.pn ++ pins, p.1 ≠ b) :
    Inv X pins σ H' { s with heap := h', gens := g', drawn := d', toks := t' } := by
  obtain ⟨m, ⟨o, es, ep, ho, r⟩, _⟩ := id I.loc
  obtain ⟨sl, hL⟩ := u.any ho I.free fun z => (hch _ z).2.1 rfl
  exact I.step (ch := ch) hch (fun b o hL hb hc e n => u.keep b o e n (fun z => (List.mem_cons.mp (I.stkSub b z)).elim hL hb) hc) (fun b o _ _ hc e n => u.any e n hc) (fun b o hc e n => u.free b o e n hc) (fun b o hc e => u.there b o e hc) u.tups u.frzs u.tbls (fun m' hm => by
    obtain ⟨o', es', ep', ho', r'⟩ := hm
    rw [ho] at ho'; cases ho'
    exact ⟨_, es', ep', hL, r'⟩) hok hg
/-- an untracked record of ours (an iterator) has turned -/
theorem Inv.turned {t' : Nat} {it : Addr} (I : Inv X pins σ H s) (k : ∀ b o, b ≠ it → s.heap.get? b = some o → h'.get? b = some o) (hn : H it = none) (hL : it ≠ X.env.locals)
    (h1 : it ∈ X.ex ∨ X.s₀.heap.objs.size ≤ it) (h2 : ∀ x c, X.env.cells.lookup x = some c → c ≠ it) (h3 : ∀ p ∈ X.pn ++ pins, p.1 ≠ it) : Inv X pins σ H { s with heap := h', toks := t' } := by
  have nit : ∀ b u, H b = some u → b ≠ it := fun b u e z => by rw [z, hn] at e; cases e
  refine I.step (g' := s.gens) (d' := s.drawn) (ch := [it]) (fun b hb => ?_) (fun b o _ _ hc e _ => k b o (fun z => hc (by simp [z])) e) (fun b o _ _ hc e _ => ⟨o.slots, k b o (fun z => hc (by simp [z])) e⟩) (fun _ _ _ _ n => n)
    (fun b o hc e => ⟨o, k b o (fun z => hc (by simp [z])) e⟩) (fun _ _ e => e) (fun _ _ _ e => e) (fun b ps e => ⟨#[], by rw [e]; simp⟩) (fun m hm => ?_) (fun b u e => ?_) I.bare
  · have e : b = it := by simpa using hb
    subst e
    exact ⟨h1, hL, h2, h3⟩
  · obtain ⟨o, es, ep, ho, r⟩ := hm
    exact ⟨o, es, ep, k _ o (Ne.symm hL) ho, r⟩
  · refine (I.hok b u e).stay (fun c v hc q => k c v ?_ q) (fun _ q => q) fun _ _ q => q
    rcases hc with z | z
    · rw [z]; exact nit b u e
    · exact nit c _ z
theorem Inv.tok (I : Inv X pins σ H s) (t : Nat) : Inv X pins σ H { s with toks := t } := I.un (h' := s.heap) (t' := t) Un.refl I.hok
/-- all objects kept -/
theorem Inv.kept {t' : Nat} (I : Inv X pins σ H s) (k : ∀ b u, s.heap.get? b = some u → h'.get? b = some u) : Inv X pins σ H { s with heap := h', toks := t' } := I.un (Un.kept k) (I.hok.kept k)
/-- a new object laid and tracked -/
theorem Inv.laid {a : Addr} {o : HO} {t' : Nat} (I : Inv X pins σ H s) (k : ∀ b u, s.heap.get? b = some u → h'.get? b = some u) (hp : s.heap.objs.size ≤ a) (new : ObjOk X.prog X.w (upd H a o) h' a o) :
    Inv X pins σ (upd H a o) { s with heap := h', toks := t' } := I.un (Un.laid k hp (I.hok.fresh hp)) (I.hok.laid k hp new)
/-- an object written -/
theorem Inv.write {x e : Addr} {o : HO} {t' : Nat} (I : Inv X pins σ H s) (mu : Mut (H x)) (he : e = x ∨ H e = some (.own x)) (k : ∀ b u, b ≠ e → s.heap.get? b = some u → h'.get? b = some u) (heo : ∃ u, h'.get? e = some u)
    (new : ObjOk X.prog X.w (upd H x o) h' x o) : Inv X pins σ (upd H x o) { s with heap := h', toks := t' } := I.un (Un.write mu he k heo) (I.hok.write mu he k heo new)
theorem Inv.pins_of {pins' : List (Addr × Obj)} (I : Inv X pins σ H s) (h : ∀ p ∈ pins', s.heap.get? p.1 = some p.2 ∧ H p.1 = none ∧ p.1 ≠ X.env.locals ∧ p.1 ∉ X.fs ∧ ∀ v, p.2.data ≠ .cell v) : Inv X pins' σ H s :=
  ⟨I.ok, I.os, I.bare, I.base, I.loc, I.cell, I.free, I.freeC, fun p hp => (List.mem_append.mp hp).elim (fun z => I.pin p (List.mem_append_left _ z)) (h p), I.hok, I.len⟩

theorem nodup_ix {N : List Str} (hN : N.Nodup) {i j : Nat} {x : Str} (a : N[i]? = some x) (b : N[j]? = some x) : i = j := by
  obtain ⟨h1, e1⟩ := List.getElem?_eq_some_iff.mp a
  obtain ⟨h2, e2⟩ := List.getElem?_eq_some_iff.mp b
  exact (List.getElem_inj hN).mp (e1.trans e2.symm)

/-- a name is stored; what changed -/
theorem store_ok2 {M : Model} {A : Around} {E : Value → Shared → Prop} {i : Nat} {x : Str} {v : V} {u : Value} {Q : Unit → Shared → Prop} (I : Inv X pins σ H s) (hN : X.N.Nodup) (hi : X.N[i]? = some x) (hx : Loc X.env.scope x) (r : RelV v u)
    (h : ∀ s', Inv X pins (σ.set i (some v)) H s' → (∃ a, Heap.SameBut a s.heap s'.heap ∧ (a = X.env.locals ∨ X.env.cells.lookup x = some a)) → Q () s') (hf : X.fn x = true ∨ X.env.scope.names.lookup x = some .local := by first | exact .inl rfl | exact .inr rfl | assumption) : wpAny M A (storeName X.env x u) Q E s := by
  obtain ⟨m, hn, hl⟩ := id I.loc
  have hcls : (X.env.scope.kind == .class || (X.env.scope.kind == .module && X.env.locals != X.env.globals)) = false := by rw [I.ok.kind]; rfl
  have hiσ : i < σ.length := by rw [I.len]; exact (List.getElem?_eq_some_iff.mp hi).1
  have cne := I.cne
  have tracked : ∀ {a : Addr} {h' : Heap}, (∃ o, s.heap.get? a = some o ∧ H a = none) → Heap.SameBut a s.heap h' → HOk X.prog X.w H h' := fun {a h'} ha hs b ob e => by
    obtain ⟨_, _, hfree⟩ := ha
    refine (I.hok b ob e).stay (fun c w' hc q => (hs.2 c ?_).trans q) (fun _ q => q) fun _ _ q => q
    rintro rfl
    rcases hc with rfl | hc
    · rw [hfree] at e; cases e
    · rw [hfree] at hc; cases hc
  rcases hx with hk | hk
  · refine wpAny_storeName_local hk hn (fun h' hn' hs => ?_) hcls
    obtain ⟨oL, _, _, hoL, _⟩ := id hn
    refine h _ ⟨I.ok, I.os, I.bare, ⟨fun b o e n hb hx => ?_, fun b o e n hb hx => ?_, I.base.free, fun b o e hx => ?_, I.base.tups, I.base.frzs, I.base.tbls⟩, ⟨_, hn', fun j y v' e1 e2 e3 => ?_⟩, fun y c e => ?_, I.free, I.freeC, fun p hp => ?_, tracked ⟨oL, hoL, I.free⟩ hs, by simpa using I.len⟩ ⟨_, hs, .inl rfl⟩
    · exact (hs.2 b (Nat.ne_of_lt (Nat.lt_of_lt_of_le (Heap.lt_size e) I.ok.above))).trans (I.base.keep b o e n hb hx)
    · obtain ⟨sl, e1⟩ := I.base.slot b o e n hb hx
      exact ⟨sl, (hs.2 b (Nat.ne_of_lt (Nat.lt_of_lt_of_le (Heap.lt_size e) I.ok.above))).trans e1⟩
    · obtain ⟨o', e1⟩ := I.base.there b o e hx
      exact ⟨o', (hs.2 b (Nat.ne_of_lt (Nat.lt_of_lt_of_le (Heap.lt_size e) I.ok.above))).trans e1⟩
    · by_cases hj : j = i
      · subst hj
        rw [hi] at e1; cases e1
        rw [List.getElem?_set_self hiσ] at e2
        cases e2
        exact ⟨u, r, .inl ⟨hk, by simp⟩⟩
      · rw [List.getElem?_set_ne (Ne.symm hj)] at e2
        obtain ⟨u', r', q⟩ := hl j y v' e1 e2 e3
        refine ⟨u', r', ?_⟩
        rcases q with ⟨k, e⟩ | ⟨k, c, e, z⟩
        · refine .inl ⟨k, ?_⟩
          have : y ≠ x := fun e => hj (nodup_ix hN e1 (e ▸ hi))
          simp [this, e]
        · exact .inr ⟨k, c, e, z.sameBut hs (cne y c e)⟩
    · obtain ⟨w', z⟩ := I.cell y c e
      exact ⟨w', z.sameBut hs (cne y c e)⟩
    · obtain ⟨e, n, ne, nf, d⟩ := I.pin p hp
      exact ⟨(hs.2 p.1 ne).trans e, n, ne, nf, d⟩
  · have hfn : X.fn x = true := by
      rcases hf with z | z
      · exact z
      · rw [z] at hk; cases hk
    obtain ⟨c, hc⟩ := I.ok.has x (.inl hk)
    obtain ⟨w', z⟩ := I.cell x c hc
    refine wpAny_storeName_cell I.ok.kind hk hc z (fun h' hc' hs => ?_)
    obtain ⟨oc, hoc, hocd⟩ := id z
    refine h { s with heap := h' } ⟨I.ok, I.os, I.bare, ⟨fun b o e n hb hx => ?_, fun b o e n hb hx => ?_, I.base.free, fun b o e hx => ?_, I.base.tups, I.base.frzs, I.base.tbls⟩, ⟨m, hn.sameBut hs (Ne.symm (cne x c hc)), fun j y v' e1 e2 e3 => ?_⟩, fun y c' e => ?_, I.free, I.freeC, fun p hp => ?_, tracked ⟨oc, hoc, I.freeC x c hc⟩ hs, by simpa using I.len⟩ ⟨c, hs, .inr hc⟩
    · exact (hs.2 b (Nat.ne_of_lt (Nat.lt_of_lt_of_le (Heap.lt_size e) (I.ok.cab x c hfn hc)))).trans (I.base.keep b o e n hb hx)
    · obtain ⟨sl, e1⟩ := I.base.slot b o e n hb hx
      exact ⟨sl, (hs.2 b (Nat.ne_of_lt (Nat.lt_of_lt_of_le (Heap.lt_size e) (I.ok.cab x c hfn hc)))).trans e1⟩
    · obtain ⟨o', e1⟩ := I.base.there b o e hx
      exact ⟨o', (hs.2 b (Nat.ne_of_lt (Nat.lt_of_lt_of_le (Heap.lt_size e) (I.ok.cab x c hfn hc)))).trans e1⟩
    · by_cases hj : j = i
      · subst hj
        rw [hi] at e1; cases e1
        rw [List.getElem?_set_self hiσ] at e2
        cases e2
        exact ⟨u, r, .inr ⟨.inl hk, c, hc, hc'⟩⟩
      · rw [List.getElem?_set_ne (Ne.symm hj)] at e2
        obtain ⟨u', r', q⟩ := hl j y v' e1 e2 e3
        refine ⟨u', r', ?_⟩
        rcases q with q | ⟨k, c', e, z'⟩
        · exact .inl q
        · refine .inr ⟨k, c', e, z'.sameBut hs ?_⟩
          rintro rfl
          exact hj (nodup_ix hN e1 (I.ok.inj _ _ _ e hc ▸ hi))
    · by_cases hcc : c' = c
      · subst hcc; exact ⟨_, hc'⟩
      · obtain ⟨w2, z2⟩ := I.cell y c' e
        exact ⟨w2, z2.sameBut hs hcc⟩
    · obtain ⟨e, n, ne, nf, d⟩ := I.pin p hp
      refine ⟨(hs.2 p.1 ?_).trans e, n, ne, nf, d⟩
      intro q
      rw [q, hoc] at e
      have q' : oc = p.2 := Option.some.inj e
      exact d w' (by rw [← q']; exact hocd)
theorem store_ok {M : Model} {A : Around} {E : Value → Shared → Prop} {i : Nat} {x : Str} {v : V} {u : Value} {Q : Unit → Shared → Prop} (I : Inv X pins σ H s) (hN : X.N.Nodup) (hi : X.N[i]? = some x) (hx : Loc X.env.scope x) (r : RelV v u)
    (h : ∀ s', Inv X pins (σ.set i (some v)) H s' → Q () s') (hf : X.fn x = true ∨ X.env.scope.names.lookup x = some .local := by first | exact .inl rfl | exact .inr rfl | assumption) : wpAny M A (storeName X.env x u) Q E s :=
  store_ok2 I hN hi hx r (fun s' I' _ => h s' I') hf
/-- behind a call or a block, the state as it is -/
theorem Inv.call' {s' : Shared} {ch : List Addr} (I : Inv X pins σ H s) (ho : s'.os = s.os) (u : Un (frs X.stack) ch H H' s.heap s'.heap) (hok : HOk X.prog X.w H' s'.heap) (hg : AllBare s'.gens)
    (hch : ∀ b ∈ ch, (b ∈ X.ex ∨ X.s₀.heap.objs.size ≤ b) ∧ b ≠ X.env.locals ∧ (∀ x c, X.env.cells.lookup x = some c → c ≠ b) ∧ ∀ p ∈ X.pn ++ pins, p.1 ≠ b) : Inv X pins σ H' s' := by
  obtain ⟨h', g', d', t', o'⟩ := s'
  have e : o' = s.os := ho
  subst e
  exact I.call (g' := g') (t' := t') (d' := d') u hok hg hch
end

/-! ### the judgements -/
/-- an exception: its class, its own dict's address (where it has one), the abstract heap behind it -/
abbrev XK := Value → Option Addr → Hp → Prop
abbrev St := List (Option V)
abbrev VK := V → Hp → Prop
/-- an expression's reading; a test's; an argument list's -/
abbrev TE := St → Hp → VK → Prop
abbrev TT := St → Hp → (Bool → Hp → Prop) → Prop
abbrev TA := St → Hp → (List V → Hp → Prop) → Prop
/-- what is wanted behind a statement -/
structure Ends where
  nx : St → Hp → Prop
  rt : VK
  bk : St → Hp → Prop := fun _ _ => False
  ct : St → Hp → Prop := fun _ _ => False
abbrev TS := Ends → St → Hp → Prop

def EP (X : Cx) (pins : List (Addr × Obj)) (σ : St) (Q : VK) (u : Value) (s' : Shared) : Prop := ∃ v H', Inv X pins σ H' s' ∧ RelV v u ∧ Q v H'
def TP (X : Cx) (pins : List (Addr × Obj)) (σ : St) (Q : Bool → Hp → Prop) (b : Bool) (s' : Shared) : Prop := ∃ H', Inv X pins σ H' s' ∧ Q b H'
def AP (X : Cx) (pins : List (Addr × Obj)) (σ : St) (Q : List V → Hp → Prop) (us : List Value) (s' : Shared) : Prop := ∃ vs H', Inv X pins σ H' s' ∧ Vals vs us ∧ Q vs H'
def SP (X : Cx) (pins : List (Addr × Obj)) (D : Ends) (f : Flow) (s' : Shared) : Prop :=
  match f with
  | .next => ∃ σ' H', Inv X pins σ' H' s' ∧ D.nx σ' H'
  | .brk => ∃ σ' H', Inv X pins σ' H' s' ∧ D.bk σ' H'
  | .cont => ∃ σ' H', Inv X pins σ' H' s' ∧ D.ct σ' H'
  | .ret u => ∃ v σ' H', Inv X pins σ' H' s' ∧ RelV v u ∧ D.rt v H'

def PE (X : Cx) (e : Expr) (t : TE) : Prop :=
  ∀ (pins : List (Addr × Obj)) (s : Shared) (σ : St) (H : Hp) (Q : VK), Inv X pins σ H s → t σ H Q → wpAny (model X.prog X.w) X.A (eval e X.env) (EP X pins σ Q) X.xe s
def PT (X : Cx) (e : Expr) (t : TT) : Prop :=
  ∀ (pins : List (Addr × Obj)) (s : Shared) (σ : St) (H : Hp) (Q : Bool → Hp → Prop), Inv X pins σ H s → t σ H Q → wpAny (model X.prog X.w) X.A (isTrue e X.env (eval e X.env)) (TP X pins σ Q) X.xe s
/-- a test whatever its 'whole' is (and, or) -/
def PW (X : Cx) (e : Expr) (t : TT) : Prop :=
  ∀ (whole : Sem Value) (pins : List (Addr × Obj)) (s : Shared) (σ : St) (H : Hp) (Q : Bool → Hp → Prop), Inv X pins σ H s → t σ H Q → wpAny (model X.prog X.w) X.A (isTrue e X.env whole) (TP X pins σ Q) X.xe s
theorem PW.pt {X : Cx} {e : Expr} {t : TT} (h : PW X e t) : PT X e t := h _
/-- an argument list (no star), from the left -/
def PA (X : Cx) (es : List Expr) (t : TA) : Prop :=
  ∀ (pos : Pos) (pins : List (Addr × Obj)) (s : Shared) (σ : St) (H : Hp) (Q : List V → Hp → Prop), Inv X pins σ H s → t σ H Q → wpAny (model X.prog X.w) X.A (spliced (backTo pos (starEach es X.env))) (AP X pins σ Q) X.xe s
def PS (X : Cx) (st : Stmt) (t : TS) : Prop :=
  ∀ (pins : List (Addr × Obj)) (s : Shared) (σ : St) (H : Hp) (D : Ends), Inv X pins σ H s → t D σ H → wpAny (model X.prog X.w) X.A (exec st X.env) (SP X pins D) X.xe s
def PSs (X : Cx) (st : List Stmt) (t : TS) : Prop :=
  ∀ (pins : List (Addr × Obj)) (s : Shared) (σ : St) (H : Hp) (D : Ends), Inv X pins σ H s → t D σ H → wpAny (model X.prog X.w) X.A (execs st X.env) (SP X pins D) X.xe s
/-- weaken the end -/
theorem thn {α : Type} {t : Sem α} {Q Q' : α → Shared → Prop} {M : Model} {A : Around} {E : Value → Shared → Prop} {s : Shared} (h : wpAny M A t Q E s) (hQ : ∀ a s, Q a s → Q' a s) : wpAny M A t Q' E s := wpAny_mono h hQ fun _ _ x => x
end L2

namespace L2
open PySem PySem.Spec PyProof.Rows
section
variable {X : Cx}


/-! ### names and constants -/
def tVar (i : Nat) : TE := fun σ H Q => ∃ v, σ[i]? = some (some v) ∧ Q v H
def tC (v : V) : TE := fun _ H Q => Q v H
theorem pe_var {i : Nat} {x : Str} {pos : Pos} (hN : X.N[i]? = some x) (hv : Vis X.env.scope x) (hd : (x == ("__debug__" : Str)) = false := by decide) (hcd : (x == ("__classdict__" : Str)) = false := by decide) : PE X (.Name x pos) (tVar i) := by
  intro pins s σ H Q I h
  obtain ⟨v, e, h⟩ := h
  obtain ⟨m, hn, hl⟩ := I.loc
  obtain ⟨u, r, l⟩ := hl i x v hN e hv
  have fin : EP X pins σ Q u s := ⟨v, H, I, r, h⟩
  rcases l with ⟨hk, hm⟩ | ⟨hk, c, hc, hcell⟩
  · exact wpAny_Name (wpAny_loadName_local I.ok.kind hk hn hm fin) hd
  · rcases hk with hk | hk
    · exact wpAny_Name (wpAny_loadName_cell I.ok.kind hk hc hcell fin) hd
    · exact wpAny_Name (wpAny_loadName_free I.ok.kind hk hc hcell fin hcd) hd
theorem pe_int {i j pos} : PE X (.Constant (.int i) j pos) (tC (.int i)) := fun _ _ _ H _ I h => wpAny_Constant_int ⟨.int i, H, I.tok _, ⟨_, rfl⟩, h⟩
theorem pe_bl {b j pos} : PE X (.Constant (.bool b) j pos) (tC (.bl b)) := fun _ _ _ H _ I h => Constant_bool ⟨.bl b, H, I, rfl, h⟩
theorem pe_non {j pos} : PE X (.Constant .none j pos) (tC .non) := fun _ _ _ H _ I h => Constant_none ⟨.non, H, I, rfl, h⟩
theorem pe_str {x j pos} : PE X (.Constant (.str x) j pos) (tC (.str x)) := fun _ _ _ H _ I h => Calls.Constant_str ⟨.str x, H, I.tok _, ⟨_, rfl⟩, h⟩

/-- a global name of the def -/
def Gl (X : Cx) (x : Str) : Prop := X.env.kindOf x = some .globalImplicit
theorem ld_glob {E : Value → Shared → Prop} {pins : List (Addr × Obj)} {s : Shared} {σ : St} {H : Hp} {x : Str} {u : Value} {pos : Pos} {Q : Value → Shared → Prop} (I : Inv X pins σ H s) (hg : Gl X x) (hm : X.mg x = some u) (h : Q u s)
    (hd : (x == ("__debug__" : Str)) = false := by decide) : wpAny (model X.prog X.w) X.A (eval (.Name x pos) X.env) Q E s :=
  Calls.Name_function_global I.ok.kind hg (Calls.loadGlobal_global (by rw [I.ok.glob]; exact I.mod.glob.keeps I.bk) hm h) hd
theorem ld_blt {E : Value → Shared → Prop} {pins : List (Addr × Obj)} {s : Shared} {σ : St} {H : Hp} {x : Str} {u : Value} {pos : Pos} {Q : Value → Shared → Prop} (I : Inv X pins σ H s) (hg : Gl X x) (hm : X.mg x = none) (hv : bootBuiltins x = some u) (h : Q u s)
    (hn : x ≠ "__name__" := by decide) (hd : (x == ("__debug__" : Str)) = false := by decide) : wpAny (model X.prog X.w) X.A (eval (.Name x pos) X.env) Q E s := by
  obtain ⟨mb, h1, h2⟩ := I.mod.blt
  exact Calls.Name_function_global I.ok.kind hg (Calls.loadGlobal_builtin (by rw [I.ok.glob]; exact I.mod.glob.keeps I.bk) hm (by rw [I.ok.blt]; exact h1.keeps I.bk) ((h2 x hn).trans hv) h) hd
/-- a module's constant, a class, a function, as a value -/
theorem pe_glob {x : Str} {v : V} {u : Value} {pos : Pos} (hg : Gl X x) (hm : X.mg x = some u) (r : RelV v u) (hd : (x == ("__debug__" : Str)) = false := by decide) : PE X (.Name x pos) (tC v) :=
  fun _ _ _ H _ I h => ld_glob I hg hm ⟨v, H, I, r, h⟩ hd
theorem pe_bltn {x : Str} {v : V} {u : Value} {pos : Pos} (hg : Gl X x) (hm : X.mg x = none) (hv : bootBuiltins x = some u) (r : RelV v u) (hn : x ≠ "__name__" := by decide) (hd : (x == ("__debug__" : Str)) = false := by decide) : PE X (.Name x pos) (tC v) :=
  fun _ _ _ H _ I h => ld_blt I hg hm hv ⟨v, H, I, r, h⟩ hn hd

/-! ### arithmetic -/
/-- two ints -/
def t2I (ta tb : TE) (k : Int → Int → Hp → Prop) : St → Hp → Prop := fun σ H => ta σ H fun x H1 => tb σ H1 fun y H2 => ∃ i j, x = .int i ∧ y = .int j ∧ k i j H2
def tAdd (ta tb : TE) : TE := fun σ H Q => t2I ta tb (fun i j H2 => Q (.int (i + j)) H2) σ H
def tSub (ta tb : TE) : TE := fun σ H Q => t2I ta tb (fun i j H2 => Q (.int (i - j)) H2) σ H
/-- the left factor below 2^64 -/
def tMul (ta tb : TE) : TE := fun σ H Q => t2I ta tb (fun i j H2 => (-(2 ^ 64) < i ∧ i < 2 ^ 64) ∧ Q (.int (i * j)) H2) σ H
variable {a b : Expr} {ta tb : TE} {pos : Pos}

/-! ### comparisons -/
def PC (X : Cx) (op : CmpOp) (a b : Expr) (t : TE) : Prop :=
  ∀ (pins : List (Addr × Obj)) (s : Shared) (σ : St) (H : Hp) (Q : VK), Inv X pins σ H s → t σ H Q →
    wpAny (model X.prog X.w) X.A (eval a X.env) (fun v s₁ => wpAny (model X.prog X.w) X.A (eval b X.env) (fun u s₂ => wpAny (model X.prog X.w) X.A (compareOp op v u) (EP X pins σ Q) X.xe s₂) X.xe s₁) X.xe s
def tCmp (p : Int → Int → Bool) (ta tb : TE) : TE := fun σ H Q => t2I ta tb (fun i j H2 => Q (.bl (p i j)) H2) σ H
abbrev tLt : TE → TE → TE := tCmp fun i j => decide (i < j)
abbrev tLe : TE → TE → TE := tCmp fun i j => decide (i ≤ j)
abbrev tGt : TE → TE → TE := tCmp fun i j => decide (j < i)
abbrev tGe : TE → TE → TE := tCmp fun i j => decide (j ≤ i)
abbrev tEqI : TE → TE → TE := tCmp fun i j => decide (i = j)
abbrev tNeI : TE → TE → TE := tCmp fun i j => !decide (i = j)
/-- is None -/
def tIsN (ta : TE) : TE := fun σ H Q => ta σ H fun x H1 => Q (.bl (decide (x = .non))) H1
def tNotN (ta : TE) : TE := fun σ H Q => ta σ H fun x H1 => Q (.bl (!decide (x = .non))) H1
/-- a comparison as a value, as a test -/
def tB (t : TE) : TT := fun σ H Q => t σ H fun x H1 => ∃ c, x = .bl c ∧ Q c H1
/-- an expression whose value is a bool, as a test -/
theorem pt_val {e : Expr} {t : TE} (h : PE X e t) (he : ∀ whole, isTrue e X.env whole = (do let v ← whole; standAt e.pos; holding [v] (truthy v)) := by intro _; rfl) : PT X e (tB t) := by
  intro pins s σ H Q I hw
  refine isTrue_plain (thn (h pins s σ H _ I hw) fun v s1 ⟨x, H1, I1, r1, q1⟩ => ?_) (he _)
  obtain ⟨d, rfl, q⟩ := q1
  cases r1
  exact wpAny_truthy_bool ⟨H1, I1, q⟩

/-! ### and, or, not -/
variable {tA tB' : TT} {rest : List Expr}
def tAnd (t u : TT) : TT := fun σ H Q => t σ H fun c H1 => if c = true then u σ H1 Q else Q false H1
def tOr (t u : TT) : TT := fun σ H Q => t σ H fun c H1 => if c = true then Q true H1 else u σ H1 Q
def tNot (t : TT) : TT := fun σ H Q => t σ H fun c H1 => Q (!c) H1
theorem pw_and1 (ha : PT X a tA) : PW X (.BoolOp .And [a] pos) tA := by
  intro wh pins s σ H Q I h
  refine isTrue_and (thn (ha pins s σ H Q I h) fun c s1 e => ?_)
  cases c with
  | true => exact isTrue_and_nil e
  | false => exact e
theorem pw_or1 (ha : PT X a tA) : PW X (.BoolOp .Or [a] pos) tA := by
  intro wh pins s σ H Q I h
  refine isTrue_or (thn (ha pins s σ H Q I h) fun c s1 e => ?_)
  cases c with
  | false => exact isTrue_or_nil e
  | true => exact e
theorem pw_and (ha : PT X a tA) (hb : PW X (.BoolOp .And (b :: rest) pos) tB') : PW X (.BoolOp .And (a :: b :: rest) pos) (tAnd tA tB') := by
  intro wh pins s σ H Q I h
  refine isTrue_and (thn (ha pins s σ H _ I h) fun c s1 ⟨H1, I1, q1⟩ => ?_)
  cases c with
  | true => exact hb wh pins s1 σ H1 Q I1 q1
  | false => exact ⟨H1, I1, q1⟩
theorem pw_or (ha : PT X a tA) (hb : PW X (.BoolOp .Or (b :: rest) pos) tB') : PW X (.BoolOp .Or (a :: b :: rest) pos) (tOr tA tB') := by
  intro wh pins s σ H Q I h
  refine isTrue_or (thn (ha pins s σ H _ I h) fun c s1 ⟨H1, I1, q1⟩ => ?_)
  cases c with
  | true => exact ⟨H1, I1, q1⟩
  | false => exact hb wh pins s1 σ H1 Q I1 q1
theorem pt_not (ha : PT X a tA) : PT X (.UnaryOp .Not a pos) (tNot tA) := by
  intro pins s σ H Q I h
  exact isTrue_not (ha pins s σ H (fun c H1 => Q (!c) H1) I h)
/-- .. as values (bools) -/
def tAndV (ta tb : TE) : TE := fun σ H Q => ta σ H fun x H1 => ∃ c, x = .bl c ∧ if c = true then tb σ H1 Q else Q (.bl false) H1
def tOrV (ta tb : TE) : TE := fun σ H Q => ta σ H fun x H1 => ∃ c, x = .bl c ∧ if c = true then Q (.bl true) H1 else tb σ H1 Q
def tNotV (ta : TE) : TE := fun σ H Q => ta σ H fun x H1 => ∃ c, x = .bl c ∧ Q (.bl (!c)) H1
theorem pe_one {op} {t : TE} (h : PE X a t) : PE X (.BoolOp op [a] pos) t := fun pins s σ H Q I hw => BoolOp_one (h pins s σ H Q I hw)
theorem pe_and (ha : PE X a ta) (hb : PE X (.BoolOp .And (b :: rest) pos) tb) : PE X (.BoolOp .And (a :: b :: rest) pos) (tAndV ta tb) := by
  intro pins s σ H Q I h
  refine BoolOp_and (thn (ha pins s σ H _ I h) fun v s1 ⟨x, H1, I1, r1, q1⟩ => ?_)
  obtain ⟨c, rfl, q1⟩ := q1
  cases r1
  refine wpAny_truthy_bool ?_
  cases c with
  | true => exact hb pins s1 σ H1 Q I1 q1
  | false => exact ⟨.bl false, H1, I1, rfl, q1⟩
theorem pe_not (ha : PE X a ta) : PE X (.UnaryOp .Not a pos) (tNotV ta) := by
  intro pins s σ H Q I h
  refine UnaryOp_ (thn (ha pins s σ H _ I h) fun v s1 ⟨x, H1, I1, r1, q1⟩ => ?_)
  obtain ⟨c, rfl, q1⟩ := q1
  cases r1
  exact not_of (wpAny_truthy_bool ⟨.bl (!c), H1, I1, rfl, q1⟩)
/-- a if t else b -/
def tIf (t : TT) (ta tb : TE) : TE := fun σ H Q => t σ H fun c H1 => if c = true then ta σ H1 Q else tb σ H1 Q
theorem pe_ifExp {c : Expr} (hc : PT X c tA) (ha : PE X a ta) (hb : PE X b tb) : PE X (.IfExp c a b pos) (tIf tA ta tb) := by
  intro pins s σ H Q I h
  refine wpAny_IfExp (thn (hc pins s σ H _ I h) fun d s1 ⟨H1, I1, q1⟩ => ?_)
  cases d with
  | true => exact ha pins s1 σ H1 Q I1 q1
  | false => exact hb pins s1 σ H1 Q I1 q1
end
end L2

namespace L2
open PySem PySem.Spec PyProof.Rows

/-! ### a list, a tuple that is read: tracked, frozen, or an object of the module -/
def SqL (K : PySem.W.Frag) (H : Hp) (a : Addr) (xs : List V) : Prop :=
  Rd H a (.lst xs) ∨
    ∃ (o : Obj) (its : Array Value) (n : Nat), K.lookup a = some o ∧ o.cls = .type "list" ∧ o.dict = none ∧ o.data = .seq its n ∧ its.size ≤ sizeLine ∧ Vals xs its.toList
def SqT (K : PySem.W.Frag) (H : Hp) (a : Addr) (xs : List V) : Prop :=
  Rd H a (.tup xs) ∨
    ∃ (o : Obj) (its : Array Value) (n : Nat), K.lookup a = some o ∧ o.cls = .type "tuple" ∧ o.data = .seq its n ∧ its.size ≤ sizeLine ∧ Vals xs its.toList
def absV : Value → Option V
  | .none => some .non
  | .bool b => some (.bl b)
  | .int i _ => some (.int i)
  | .str x _ => some (.str x)
  | .bytes b _ => some (.byt b)
  | .float b _ => some (.flt b)
  | .ref a => some (.ref a)
  | .type n => some (.ty n)
  | _ => none
theorem RelV.abs {x : V} {u : Value} (r : RelV x u) : absV u = some x := by
  cases x with
  | non => cases r; rfl
  | bl _ => cases r; rfl
  | int _ => obtain ⟨t, rfl⟩ := r; rfl
  | str _ => obtain ⟨t, rfl⟩ := r; rfl
  | byt _ => obtain ⟨t, rfl⟩ := r; rfl
  | flt _ => obtain ⟨t, rfl⟩ := r; rfl
  | ref _ => cases r; rfl
  | ty _ => cases r; rfl
theorem RelV.inj {x y : V} {u : Value} (r : RelV x u) (q : RelV y u) : x = y := Option.some.inj (r.abs.symm.trans q.abs)
theorem Vals.inj : ∀ {xs ys : List V} {us : List Value}, Vals xs us → Vals ys us → xs = ys
  | _, _, _, .nil, .nil => rfl
  | _, _, _, .cons r t, .cons r' t' => by rw [r.inj r', Vals.inj t t']
section
variable {X : Cx} {pins : List (Addr × Obj)} {σ : St} {H : Hp} {s : Shared} {a : Addr} {xs ys : List V}
theorem SqL.of {K : PySem.W.Frag} (h : H a = some (.lst xs)) : SqL K H a xs := .inl (.inl h)
theorem SqT.of {K : PySem.W.Frag} (h : H a = some (.tup xs)) : SqT K H a xs := .inl (.inl h)
theorem Inv.list (I : Inv X pins σ H s) (h : SqL X.K H a xs) : ∃ its : List Value, Vals xs its ∧ PlainL s.heap a its.toArray ∧ xs.length ≤ sizeLine := by
  rcases h with h | ⟨o, its, n, hk, hc, hd, hs, hz, r⟩
  · obtain ⟨z, its, n, r, e⟩ := h.ok I.hok
    exact ⟨its, r, ⟨_, n, e, rfl, rfl, rfl⟩, z⟩
  · refine ⟨its.toList, r, ⟨o, n, I.kIn a o hk, hc, hd, by simpa using hs⟩, ?_⟩
    have e := r.length
    simp only [Array.length_toList] at e
    omega
theorem Inv.tuple (I : Inv X pins σ H s) (h : SqT X.K H a xs) : ∃ its : List Value, Vals xs its ∧ IsTup s.heap a its.toArray ∧ xs.length ≤ sizeLine := by
  rcases h with h | ⟨o, its, n, hk, hc, hs, hz, r⟩
  · obtain ⟨z, its, r, p⟩ := h.ok I.hok
    exact ⟨its, r, p, z⟩
  · refine ⟨its.toList, r, ⟨o, I.kIn a o hk, hc, n, by simpa using hs⟩, ?_⟩
    have e := r.length
    simp only [Array.length_toList] at e
    omega
theorem Inv.list_inj (I : Inv X pins σ H s) (h : SqL X.K H a xs) (h' : SqL X.K H a ys) : xs = ys := by
  obtain ⟨its, r, ⟨o, n, e, _, _, d⟩, _⟩ := I.list h
  obtain ⟨its', r', ⟨o', n', e', _, _, d'⟩, _⟩ := I.list h'
  rw [e] at e'; cases e'
  rw [d] at d'
  injection d' with d1 _
  have : its = its' := by simpa using congrArg Array.toList d1
  subst this
  exact r.inj r'
theorem Inv.tuple_inj (I : Inv X pins σ H s) (h : SqT X.K H a xs) (h' : SqT X.K H a ys) : xs = ys := by
  obtain ⟨its, r, ⟨o, e, _, n, d⟩, _⟩ := I.tuple h
  obtain ⟨its', r', ⟨o', e', _, n', d'⟩, _⟩ := I.tuple h'
  rw [e] at e'; cases e'
  rw [d] at d'
  injection d' with d1 _
  have : its = its' := by simpa using congrArg Array.toList d1
  subst this
  exact r.inj r'
end

/-! ### another wish about exceptions -/
abbrev Cx.wish (X : Cx) (E : Value → Shared → Prop) : Cx := { X with xe := E }
/-- no exception leaves -/
abbrev Cx.nox (X : Cx) : Cx := X.wish fun _ _ => False
theorem Cx.Ok.wish {X : Cx} (ok : X.Ok) (E : Value → Shared → Prop) : (X.wish E).Ok :=
  ⟨ok.mod, ok.kind, ok.glob, ok.blt, ok.above, ok.inj, ok.has, ok.cab, ok.hd, ok.frames, ok.stk, ok.exf, ok.bs, ok.bsz, ok.noex, ok.exfs, ok.funs, ok.frf⟩
theorem Cx.Ok.unwish {X : Cx} {E : Value → Shared → Prop} (ok : (X.wish E).Ok) : X.Ok :=
  ⟨ok.mod, ok.kind, ok.glob, ok.blt, ok.above, ok.inj, ok.has, ok.cab, ok.hd, ok.frames, ok.stk, ok.exf, ok.bs, ok.bsz, ok.noex, ok.exfs, ok.funs, ok.frf⟩
section
variable {X : Cx} {pins : List (Addr × Obj)} {σ : St} {H : Hp} {s : Shared} {E : Value → Shared → Prop}
theorem Inv.wish (I : Inv X pins σ H s) (E : Value → Shared → Prop) : Inv (X.wish E) pins σ H s := ⟨I.ok.wish E, I.os, I.bare, I.base, I.loc, I.cell, I.free, I.freeC, I.pin, I.hok, I.len⟩
theorem Inv.unwish (I : Inv (X.wish E) pins σ H s) : Inv X pins σ H s := ⟨I.ok.unwish, I.os, I.bare, I.base, I.loc, I.cell, I.free, I.freeC, I.pin, I.hok, I.len⟩
theorem SP.unwish {D : Ends} {f : Flow} {s' : Shared} (h : SP (X.wish E) pins D f s') : SP X pins D f s' := by
  cases f with
  | next => obtain ⟨σ', H', I, q⟩ := h; exact ⟨σ', H', I.unwish, q⟩
  | brk => obtain ⟨σ', H', I, q⟩ := h; exact ⟨σ', H', I.unwish, q⟩
  | cont => obtain ⟨σ', H', I, q⟩ := h; exact ⟨σ', H', I.unwish, q⟩
  | ret u => obtain ⟨v, σ', H', I, r, q⟩ := h; exact ⟨v, σ', H', I.unwish, r, q⟩
theorem PE.nox {e : Expr} {t : TE} (h : PE X.nox e t) : PE X e t := fun pins s σ H Q I hw =>
  wpAny_mono (h pins s σ H Q (I.wish _) hw) (fun _ _ ⟨v, H', I', r, q⟩ => ⟨v, H', I'.unwish, r, q⟩) fun _ _ z => False.elim z
theorem PT.nox {e : Expr} {t : TT} (h : PT X.nox e t) : PT X e t := fun pins s σ H Q I hw =>
  wpAny_mono (h pins s σ H Q (I.wish _) hw) (fun _ _ ⟨H', I', q⟩ => ⟨H', I'.unwish, q⟩) fun _ _ z => False.elim z
theorem PSs.nox {st : List Stmt} {t : TS} (h : PSs X.nox st t) : PSs X st t := fun pins s σ H D I hw =>
  wpAny_mono (h pins s σ H D (I.wish _) hw) (fun _ _ q => q.unwish) fun _ _ z => False.elim z
end

/-! ### blocks and small statements -/
section
variable {X : Cx} {st : Stmt} {rest : List Stmt} {t u : TS} {e : Expr} {te : TE} {pos : Pos}
def tNext : TS := fun D σ H => D.nx σ H
def tSeq (t u : TS) : TS := fun D σ H => t { D with nx := u D } σ H
theorem pss_nil : PSs X [] tNext := fun _ _ σ H _ I h => wpAny_execs_nil ⟨σ, H, I, h⟩
theorem pss_cons (h1 : PS X st t) (h2 : PSs X rest u) : PSs X (st :: rest) (tSeq t u) := by
  intro pins s σ H D I h
  refine wpAny_execs_cons (thn (h1 pins s σ H { D with nx := u D } I h) fun f s1 q => ?_)
  cases f with
  | next =>
    obtain ⟨σ', H', I', q⟩ := q
    exact h2 pins s1 σ' H' D I' q
  | ret v => exact q
  | brk => exact q
  | cont => exact q
theorem pss_one (h1 : PS X st t) : PSs X [st] t := by
  intro pins s σ H D I h
  refine wpAny_execs_cons (thn (h1 pins s σ H D I h) fun f s1 q => ?_)
  cases f with
  | next => exact wpAny_execs_nil q
  | ret v => exact q
  | brk => exact q
  | cont => exact q
def tBreak : TS := fun D σ H => D.bk σ H
def tCont : TS := fun D σ H => D.ct σ H
/-- in a def's body nothing is shown -/
theorem Inv.quiet {pins : List (Addr × Obj)} {σ : St} {H : Hp} {s : Shared} (I : Inv X pins σ H s) : interactive X.env = false := by simp [interactive, I.ok.kind]
/-- an expression whose value is dropped -/
def tDrop (te : TE) : TS := fun D σ H => te σ H fun _ H1 => D.nx σ H1
theorem ps_expr (he : PE X e te) (hs : swapsWith e none pos.line X.env = pure false := by rfl) : PS X (.Expr e pos) (tDrop te) := by
  intro pins s σ H D I h
  exact wpAny_Expr_any (thn (he pins s σ H _ I h) fun v s1 ⟨x, H1, I1, r1, q1⟩ => ⟨σ, H1, I1, q1⟩) I.quiet hs
def tRet (te : TE) : TS := fun D σ H => te σ H D.rt
theorem ps_ret (he : PE X e te) : PS X (.Return (some e) pos) (tRet te) := by
  intro pins s σ H D I h
  exact wpAny_Return_some (thn (he pins s σ H _ I h) fun v s1 ⟨x, H1, I1, r1, q1⟩ => ⟨x, σ, H1, I1, r1, q1⟩)
def tRetN : TS := fun D _ H => D.rt .non H
def tIfS (c : TT) (t u : TS) : TS := fun D σ H => c σ H fun b H1 => if b = true then t D σ H1 else u D σ H1
theorem ps_if {c : Expr} {a b : List Stmt} {tc : TT} (hc : PT X c tc) (ha : PSs X a t) (hb : PSs X b u) : PS X (.If c a b pos) (tIfS tc t u) := by
  intro pins s σ H D I h
  refine wpAny_If (thn (hc pins s σ H _ I h) fun d s1 ⟨H1, I1, q1⟩ => ?_)
  cases d with
  | true => exact ha pins s1 σ H1 D I1 q1
  | false => exact hb pins s1 σ H1 D I1 q1
/-- code that the proof never comes to -/
def tNever : TS := fun _ _ _ => False
end

/-! ### targets -/
abbrev TG := V → St → Hp → (St → Hp → Prop) → Prop
abbrev TGs := List V → St → Hp → (St → Hp → Prop) → Prop
def PG (X : Cx) (target : Expr) (t : TG) : Prop :=
  ∀ (pins : List (Addr × Obj)) (s : Shared) (σ : St) (H : Hp) (v : V) (u : Value) (Q : St → Hp → Prop), Inv X pins σ H s → RelV v u → t v σ H Q →
    wpAny (model X.prog X.w) X.A (assign target X.env u) (fun _ s' => ∃ σ' H', Inv X pins σ' H' s' ∧ Q σ' H') X.xe s
/-- several targets, one after another -/
def PGs (X : Cx) (ts : List Expr) (t : TGs) : Prop :=
  ∀ (pins : List (Addr × Obj)) (s : Shared) (σ : St) (H : Hp) (vs : List V) (us : List Value) (Q : St → Hp → Prop), Inv X pins σ H s → Vals vs us → t vs σ H Q →
    wpAny (model X.prog X.w) X.A (assignInOrder ((assignEach ts X.env).map (·.2)) us) (fun _ s' => ∃ σ' H', Inv X pins σ' H' s' ∧ Q σ' H') X.xe s
/-- o[i] = v, by values -/
abbrev TSet := V → V → V → Hp → (Hp → Prop) → Prop
def PSet (X : Cx) (t : TSet) : Prop :=
  ∀ (pins : List (Addr × Obj)) (s : Shared) (σ : St) (H : Hp) (o i v : V) (ov iv u : Value) (Q : Hp → Prop), Inv X pins σ H s → RelV o ov → RelV i iv → RelV v u → t o i v H Q →
    wpAny (model X.prog X.w) X.A (setItem ov iv u) (fun _ s' => ∃ H', Inv X pins σ H' s' ∧ Q H') X.xe s
/-- a op= b, by values -/
abbrev TIp := V → V → Hp → VK → Prop
def PIp (X : Cx) (op : Operator) (t : TIp) : Prop :=
  ∀ (pins : List (Addr × Obj)) (s : Shared) (σ : St) (H : Hp) (x y : V) (v u : Value) (Q : VK), Inv X pins σ H s → RelV x v → RelV y u → t x y H Q →
    wpAny (model X.prog X.w) X.A (inplaceOp op v u) (EP X pins σ Q) X.xe s
section
variable {X : Cx} {pos : Pos}
def gName (i : Nat) : TG := fun v σ H Q => Q (σ.set i (some v)) H
theorem pg_name {i : Nat} {x : Str} (hN : X.N.Nodup) (hi : X.N[i]? = some x) (hx : Loc X.env.scope x) (hf : X.fn x = true ∨ X.env.scope.names.lookup x = some .local := by first | exact .inl rfl | exact .inr rfl | assumption) : PG X (.Name x pos) (gName i) := by
  intro pins s σ H v u Q I r h
  exact wpAny_assign_Name (store_ok I hN hi hx r (fun s' I' => ⟨_, H, I', h⟩) hf)
def gNil : TGs := fun vs σ H Q => vs = [] ∧ Q σ H
def gCons (t : TG) (u : TGs) : TGs := fun vs σ H Q => ∃ v r, vs = v :: r ∧ t v σ H fun σ' H' => u r σ' H' Q
theorem pgs_nil : PGs X [] gNil := by
  intro pins s σ H vs us Q I r h
  obtain ⟨e, h⟩ := h
  subst e
  cases r
  exact assignInOrder_nil ⟨σ, H, I, h⟩
theorem pgs_cons {e : Expr} {es : List Expr} {t : TG} {u : TGs} (h1 : PG X e t) (h2 : PGs X es u)
    (hs : (assignEach (e :: es) X.env).map (·.2) = assign e X.env :: (assignEach es X.env).map (·.2) := by rfl) : PGs X (e :: es) (gCons t u) := by
  intro pins s σ H vs us Q I r h
  obtain ⟨v, vr, e1, h⟩ := h
  subst e1
  cases r with
  | cons r rr =>
    rw [hs]
    refine assignInOrder_cons (thn (h1 pins s σ H _ _ _ I r h) fun _ s1 ⟨σ1, H1, I1, q1⟩ => ?_)
    exact h2 pins s1 σ1 H1 _ _ Q I1 rr q1
/-- (a, b, ..) = a tuple of that length -/
def gTup (K : PySem.W.Frag) (n : Nat) (t : TGs) : TG := fun v σ H Q => ∃ a xs, v = .ref a ∧ SqT K H a xs ∧ xs.length = n ∧ t xs σ H Q
theorem pg_tup {es : List Expr} {k : Nat} {t : TGs} {n : Nat} (hc : X.calm = true) (h : PGs X es t)
    (hn : (assignEach es X.env).length = n := by rfl) (hst : (assignEach es X.env).findIdx? (·.1) = none := by rfl) : PG X (.Tuple es k pos) (gTup X.K n t) := by
  intro pins s σ H v u Q I r hw
  obtain ⟨a, xs, e1, hq, hl, hw⟩ := hw
  subst e1
  cases r
  obtain ⟨its, rv, ht, hz⟩ := I.tuple hq
  refine assign_Tuple_tuple (I.ok.hd hc) ht (by simp [hn, ← hl, rv.length]) hst fun h' hx => ?_
  have I1 : Inv X pins σ H { s with heap := h' } := I.kept (t' := s.toks) fun b o e => hx b o (Nat.ne_of_lt (Heap.lt_size e)) e
  exact h pins _ σ H xs _ Q I1 (by simpa using rv) hw
/-- o[i] = .. -/
def gSub (to ti : TE) (t : TSet) : TG := fun v σ H Q => to σ H fun o H1 => ti σ H1 fun i H2 => t o i v H2 fun H3 => Q σ H3
/-- target = value -/
def tAsg (te : TE) (g : TG) : TS := fun D σ H => te σ H fun x H1 => g x σ H1 D.nx
theorem ps_asg {tg e : Expr} {te : TE} {g : TG} (he : PE X e te) (hg : PG X tg g) (hs : swapsWithSole [tg] e pos.line X.env = pure false := by rfl) (hw : swappedStores [tg] e X.env = pure none := by rfl)
    (h1 : (assignEach [tg] X.env).map (·.2) = [assign tg X.env] := by rfl) : PS X (.Assign [tg] e pos) (tAsg te g) := by
  intro pins s σ H D I h
  refine wpAny_Assign_stores (thn (he pins s σ H _ I h) fun v s1 ⟨x, H1, I1, r1, q1⟩ => ?_) hs hw
  rw [h1]
  exact thn (hg pins s1 σ H1 x v _ I1 r1 q1) fun _ s2 q => q
/-- name = value -/
theorem ps_set {i : Nat} {x : Str} {e : Expr} {te : TE} {pos' : Pos} (hN : X.N.Nodup) (hi : X.N[i]? = some x) (hx : Loc X.env.scope x) (he : PE X e te) (hs : swapsWith e (some (.Name x pos')) pos.line X.env = pure false := by rfl) (hf : X.fn x = true ∨ X.env.scope.names.lookup x = some .local := by first | exact .inl rfl | exact .inr rfl | assumption) :
    PS X (.Assign [.Name x pos'] e pos) (tAsg te (gName i)) := by
  intro pins s σ H D I h
  refine wpAny_Assign_Name (thn (he pins s σ H _ I h) fun v s1 ⟨y, H1, I1, r1, q1⟩ => ?_) hs
  exact store_ok I1 hN hi hx r1 (fun s2 I2 => ⟨_, H1, I2, q1⟩) hf
/-- a, b = x, y with plain local names: stored from the right; the pair itself is not tracked (the opening rows as in PyProof/Rows/TupAssign.lean:23) -/
def tPar (i j : Nat) (ta : TA) : TS := fun D σ H => ta σ H fun vs H1 => ∃ v w, vs = [v, w] ∧ D.nx ((σ.set i (some v)).set j (some w)) H1
theorem ps_par {i j : Nat} {x y : Str} {a b : Expr} {ta : TA} {px py pt : Pos} {kt k2 pt2} (hc : X.calm = true) (hN : X.N.Nodup) (hi : X.N[i]? = some x) (hj : X.N[j]? = some y) (hij : i ≠ j)
    (hx : X.env.scope.names.lookup x = some .local) (hy : X.env.scope.names.lookup y = some .local) (ha : PA X [a, b] ta)
    (hw : swappedStores [.Tuple [.Name x px, .Name y py] kt pt] (.Tuple [a, b] k2 pt2) X.env = pure (some [x, y]))
    (hs : swapsWithSole [.Tuple [.Name x px, .Name y py] kt pt] (.Tuple [a, b] k2 pt2) pos.line X.env = pure false := by rfl) :
    PS X (.Assign [.Tuple [.Name x px, .Name y py] kt pt] (.Tuple [a, b] k2 pt2) pos) (tPar i j ta) := by
  intro pins s σ H D I h
  rw [exec_Assign_arm]
  refine wpAny_bind (wpAny_standAt ?_)
  rw [hs]
  refine wpAny_bind (wpAny_pure ?_)
  rw [if_neg (by decide)]
  refine wpAny_bind (Tuple_ (thn (ha _ pins s σ H _ I h) fun us s1 ⟨vs, H1, I1, r1, q1⟩ => ?_))
  obtain ⟨v, w, e1, q1⟩ := q1
  subst e1
  obtain ⟨u1, u2, rfl, rv, rw'⟩ : ∃ u1 u2, us = [u1, u2] ∧ RelV v u1 ∧ RelV w u2 := by
    cases r1 with
    | cons p q =>
      cases q with
      | cons p' q' =>
        cases q'
        exact ⟨_, _, rfl, p, p'⟩
  refine wpAny_newObj_type ?_ (by show 2 ≤ sizeLine; decide)
  have I2 : Inv X pins σ H1 { s1 with heap := s1.heap.push { cls := .type "tuple", data := .seq [u1, u2].toArray } } := I1.kept (t' := s1.toks) fun b o e => Heap.get?_push_of_some _ e
  rw [hw]
  refine wpAny_bind (wpAny_pure ?_)
  show wpAny (model X.prog X.w) X.A (do rule "assign.swapped-stores"; let items ← unpackItems (.ref s1.heap.objs.size) 2 none; assignInOrder [fun v => bindName X.env y v, fun v => bindName X.env x v] items.reverse; pure Flow.next) _ _ _
  refine wpAny_bind (wpAny_rule (wpAny_bind (unpackItems_tuple (items := #[u1, u2]) (I.ok.hd hc) (IsTup.new s1.heap _) fun h' hx' => ?_)))
  have I3 := I2.kept (h' := h') (t' := s1.toks) fun b o e => hx' b o (Nat.ne_of_lt (Heap.lt_size e)) e
  show wpAny _ _ (assignInOrder [fun v => bindName X.env y v, fun v => bindName X.env x v] [u2, u1] >>= fun _ => pure Flow.next) _ _ _
  refine wpAny_bind (assignInOrder_cons (wpAny_bindName (store_ok I3 hN hj (.inl hy) rw' (fun s2 I4 => ?_) (.inr hy))))
  refine assignInOrder_cons (wpAny_bindName (store_ok I4 hN hi (.inl hx) rv (fun s3 I5 => assignInOrder_nil (wpAny_pure ?_)) (.inr hx)))
  rw [List.set_comm _ _ (Ne.symm hij)] at I5
  exact ⟨_, H1, I5, q1⟩
/-- name op= e -/
def tAug (i : Nat) (te : TE) (ti : TIp) : TS := fun D σ H => ∃ x, σ[i]? = some (some x) ∧ te σ H fun y H1 => ti x y H1 fun z H2 => D.nx (σ.set i (some z)) H2
/-- o[i] op= e -/
def tAugS (to ti te : TE) (tget : V → V → Hp → VK → Prop) (tip : TIp) (tset : TSet) : TS := fun D σ H => to σ H fun o H1 => ti σ H1 fun i H2 => tget o i H2 fun x H3 => te σ H3 fun y H4 => tip x y H4 fun z H5 => tset o i z H5 fun H6 => D.nx σ H6
/-- o[i], by values -/
def PGet (X : Cx) (t : V → V → Hp → VK → Prop) : Prop :=
  ∀ (pins : List (Addr × Obj)) (s : Shared) (σ : St) (H : Hp) (o i : V) (ov iv : Value) (Q : VK), Inv X pins σ H s → RelV o ov → RelV i iv → t o i H Q →
    wpAny (model X.prog X.w) X.A (getItem ov iv) (EP X pins σ Q) X.xe s
/-- ints -/
def ipI (f : Int → Int → Int) : TIp := fun x y H Q => ∃ i j, x = .int i ∧ y = .int j ∧ Q (.int (f i j)) H
end

/-! ### while -/
section
variable {X : Cx} {pos : Pos}
/-- the invariant W with its measure -/
def tWhile (c : TT) (tb : TS) : TS := fun D σ H => ∃ W : Nat → St → Hp → Prop, (∃ m, W m σ H) ∧ ∀ m σ H, W m σ H →
  c σ H fun b H1 => if b = true then ∃ N : St → Hp → Prop, (∀ σ' H', N σ' H' → ∃ m', m' < m ∧ W m' σ' H') ∧ tb { D with nx := N, ct := N, bk := D.nx } σ H1 else D.nx σ H1
theorem ps_while {c : Expr} {body : List Stmt} {tc : TT} {tb : TS} (hp : PassesOwn (model X.prog X.w) X.A X.env X.xe) (hc : PT X c tc) (hb : PSs X body tb) : PS X (.While c body [] pos) (tWhile tc tb) := by
  intro pins s σ H D I h
  obtain ⟨W, ⟨m0, w0⟩, turn⟩ := h
  refine wpAny_While (codeAny_whileLoop (fun n s' => ∃ σ' H', Inv X pins σ' H' s' ∧ W n σ' H') ?_ m0 ⟨σ, H, I, w0⟩)
  rintro n s1 ⟨σ1, H1, I1, w1⟩
  refine wpAny_passesOwn hp (thn (hc pins s1 σ1 H1 _ I1 (turn n σ1 H1 w1)) fun b s2 ⟨H2, I2, q2⟩ => ?_)
  cases b with
  | true =>
    obtain ⟨N, hN, q2⟩ := q2
    rw [if_pos rfl]
    refine wpAny_passesOwn hp (thn (hb pins s2 σ1 H2 _ I2 q2) fun f s3 q3 => ?_)
    cases f with
    | next =>
      obtain ⟨σ3, H3, I3, n3⟩ := q3
      obtain ⟨m', hm, w3⟩ := hN σ3 H3 n3
      exact ⟨m', hm, σ3, H3, I3, w3⟩
    | cont =>
      obtain ⟨σ3, H3, I3, n3⟩ := q3
      obtain ⟨m', hm, w3⟩ := hN σ3 H3 n3
      exact ⟨m', hm, σ3, H3, I3, w3⟩
    | brk => exact q3
    | ret v => exact q3
  | false =>
    rw [if_neg Bool.false_ne_true]
    exact wpAny_execs_nil ⟨σ1, H2, I2, q2⟩
end

/-! ### what a loop or a comprehension walks -/
/-- at turn i: it yields x (the heap may grow), or it stops -/
structure It where
  go : Nat → Hp → Prop
  yld : Nat → Hp → V → Hp → Prop
  stop : Nat → Hp → Prop
/-- the iterator's own objects may turn: they are not the frame's, not pinned, younger than the entry (or a comprehension's own) -/
def FpOk (X : Cx) (pins : List (Addr × Obj)) (H : Hp) (b : Addr) : Prop :=
  H b = none ∧ b ≠ X.env.locals ∧ b ∉ X.fs ∧ (b ∈ X.ex ∨ X.s₀.heap.objs.size ≤ b) ∧ (∀ x c, X.env.cells.lookup x = some c → c ≠ b) ∧ ∀ p ∈ X.pn ++ pins, p.1 ≠ b
theorem Inv.fpOk {X : Cx} {pins : List (Addr × Obj)} {σ : St} {H H' : Hp} {s : Shared} {b : Addr} (I : Inv X pins σ H s) (hb : s.heap.objs.size ≤ b) (hn : H' b = none) : FpOk X pins H' b := by
  refine ⟨hn, Nat.ne_of_gt (Nat.lt_of_lt_of_le I.lt hb), I.nofs hb, .inr (Nat.le_trans I.sz hb), fun x c e z => ?_, fun p hp z => ?_⟩
  · obtain ⟨v, q⟩ := I.cell x c e
    exact absurd (Nat.lt_of_lt_of_le q.lt (by rw [z]; exact hb)) (Nat.lt_irrefl _)
  · exact absurd (Nat.lt_of_lt_of_le (Heap.lt_size (I.pin p hp).1) (by rw [z]; exact hb)) (Nat.lt_irrefl _)
structure Turn (P : Program) (w : World) (K : PySem.W.Frag) (tg : Expr) (J : It) (fp : List Addr) (it : Addr) (tn : Nat → Heap → Prop) : Prop where
  mem : it ∈ fp
  obj : ∀ i h, tn i h → ∀ b ∈ fp, ∃ o, h.get? b = some o ∧ ∀ v, o.data ≠ .cell v
  keep : ∀ i h h', tn i h → (∀ b ∈ fp, ∀ o, h.get? b = some o → h'.get? b = some o) → tn i h'
  item : ∀ (X : Cx), X.prog = P → X.w = w → X.K = K → X.calm = true → ∀ (i : Nat) (pins : List (Addr × Obj)) (s : Shared) (σ : St) (H : Hp) (E : Value → Shared → Prop), Inv X pins σ H s → (∀ b ∈ fp, FpOk X pins H b) → tn i s.heap → J.go i H →
    wpAny (model P w) X.A (pyNext (.ref it)) (fun r s1 => ∃ u, r = some u ∧
      wpAny (model P w) X.A (letOwnedTupleGo tg (.ref it) u) (fun _ s2 => ∃ x H', Inv X pins σ H' s2 ∧ RelV x u ∧ J.yld i H x H' ∧ tn (i + 1) s2.heap ∧ ∀ b ∈ fp, H' b = none) E s1) E s
  done : ∀ (X : Cx), X.prog = P → X.w = w → X.K = K → X.calm = true → ∀ (i : Nat) (pins : List (Addr × Obj)) (s : Shared) (σ : St) (H : Hp) (E : Value → Shared → Prop), Inv X pins σ H s → (∀ b ∈ fp, FpOk X pins H b) → tn i s.heap → J.stop i H →
    wpAny (model P w) X.A (pyNext (.ref it)) (fun r s1 => r = none ∧ Inv X pins σ H s1) E s
  self : ∀ (A : Around) (i : Nat) (s : Shared) (Q : Value → Shared → Prop) (E : Value → Shared → Prop), tn i s.heap → Q (.ref it) s → wpAny (model P w) A (pyIter (.ref it)) Q E s
abbrev TI := St → Hp → (It → Hp → Prop) → Prop
/-- an iterator has come -/
def PIE (X : Cx) (pins : List (Addr × Obj)) (σ : St) (tg : Expr) (R : It → Hp → Prop) (itv : Value) (s2 : Shared) : Prop :=
  ∃ (it : Addr) (fp : List Addr) (tn : Nat → Heap → Prop) (J : It) (H' : Hp), itv = .ref it ∧ Inv X pins σ H' s2 ∧ Turn X.prog X.w X.K tg J fp it tn ∧ tn 0 s2.heap ∧ (∀ b ∈ fp, FpOk X pins H' b) ∧ R J H'
def PI (X : Cx) (tg iter : Expr) (wi : TI) : Prop :=
  ∀ (pins : List (Addr × Obj)) (s : Shared) (σ : St) (H : Hp) (R : It → Hp → Prop), Inv X pins σ H s → wi σ H R →
    wpAny (model X.prog X.w) X.A (eval iter X.env) (fun v s1 => wpAny (model X.prog X.w) X.A (pyIter v) (PIE X pins σ tg R) X.xe s1) X.xe s

/-- the step ahead of the store is nothing for an iterator that keeps no tuple -/
theorem go_of {M : Model} {A : Around} {E : Value → Shared → Prop} {s : Shared} {tg : Expr} {it : Addr} {u : Value} {o : Obj} {n : String} {vs : Array Value} {Q : Unit → Shared → Prop} (ho : s.heap.get? it = some o) (hc : o.cls = .type n) (hd : o.data = .fields vs)
    (hn : ["enumerate", "zip", "dict_itemiterator", "dict_reverseitemiterator", "odict_iterator", "itertools.zip_longest", "itertools.pairwise"].contains n = false) (hQ : Q () s) : wpAny M A (letOwnedTupleGo tg (.ref it) u) Q E s := by
  unfold letOwnedTupleGo
  cases tg <;> first
    | exact wpAny_pure hQ
    | (cases u <;> first
        | exact wpAny_pure hQ
        | (refine wpAny_bind (wpAny_load ho ?_)
           rw [hc, hd]
           show wpAny M A (if (["enumerate", "zip", "dict_itemiterator", "dict_reverseitemiterator", "odict_iterator", "itertools.zip_longest", "itertools.pairwise"].contains n && vs[0]? == some (rawInt _)) = true then _ else _) Q E s
           rw [if_neg (by intro h; rw [hn, Bool.false_and] at h; cases h)]
           exact wpAny_pure hQ))

/-- the list at a, as it stands at each turn (a loop may append to it) -/
def Itl (K : PySem.W.Frag) (a : Addr) : It :=
  ⟨fun i H => ∃ xs x, SqL K H a xs ∧ xs[i]? = some x, fun i H x H' => H' = H ∧ ∀ xs, SqL K H a xs → xs[i]? = some x, fun i H => ∃ xs, SqL K H a xs ∧ xs.length ≤ i⟩
def Itt (K : PySem.W.Frag) (a : Addr) : It :=
  ⟨fun i H => ∃ xs x, SqT K H a xs ∧ xs[i]? = some x, fun i H x H' => H' = H ∧ ∀ xs, SqT K H a xs → xs[i]? = some x, fun i H => ∃ xs, SqT K H a xs ∧ xs.length ≤ i⟩
/-- lo, lo + 1, .. (n of them) -/
def Itr (lo : Int) (n : Nat) : It := ⟨fun i _ => i < n, fun i H x H' => H' = H ∧ x = .int (lo + i), fun i _ => n ≤ i⟩
theorem turn_list {P : Program} {w : World} {K : PySem.W.Frag} {tg : Expr} (a it : Addr) : Turn P w K tg (Itl K a) [it] it (fun i h => h.IsListIter it a i) where
  mem := by simp
  obj := fun i h st b hb => by
    have e : b = it := by simpa using hb
    subst e
    obtain ⟨o, e, c, d⟩ := st
    exact ⟨o, e, fun v z => by rw [d] at z; cases z⟩
  keep := fun i h h' st k => st.at fun o e => k it (by simp) o e
  item := by
    intro X hP hw hK hc i pins s σ H E I hf st hg
    subst hP hw hK
    obtain ⟨xs, x, hq, hx⟩ := hg
    obtain ⟨its, rv, p, hz⟩ := I.list hq
    obtain ⟨u, hu, ru⟩ := rv.get hx
    obtain ⟨f0, f1, f2, f3, f4, f5⟩ := hf it (by simp)
    refine wpAny_pyNext_list_item st p.isList (x := u) (by simpa using hu) fun h' st' sb => ?_
    have I1 : Inv X pins σ H { s with heap := h' } := I.turned (t' := s.toks) (fun b o hb e => (sb.2 b hb).trans e) f0 f1 f3 f4 f5
    obtain ⟨o, e, c, d⟩ := id st'
    exact ⟨u, rfl, go_of (s := { s with heap := h' }) e c d (by decide) ⟨x, H, I1, ru, ⟨rfl, fun ys hy => by rw [I.list_inj hy hq]; exact hx⟩, st', fun b hb => (hf b hb).1⟩⟩
  done := by
    intro X hP hw hK hc i pins s σ H E I hf st hg
    subst hP hw hK
    obtain ⟨xs, hq, hx⟩ := hg
    obtain ⟨its, rv, p, hz⟩ := I.list hq
    obtain ⟨f0, f1, f2, f3, f4, f5⟩ := hf it (by simp)
    have hl := rv.length
    exact wpAny_pyNext_list_end (I.ok.hd hc) st p.isList (by simp; omega) fun h' eb => ⟨rfl, I.turned (t' := s.toks) (fun b o hb e => eb b o hb e) f0 f1 f3 f4 f5⟩
  self := fun _ _ _ _ _ st h => wpAny_pyIter_listiter st h
theorem turn_tuple {P : Program} {w : World} {K : PySem.W.Frag} {tg : Expr} (a it : Addr) : Turn P w K tg (Itt K a) [it] it (fun i h => h.IsTupleIter it a i) where
  mem := by simp
  obj := fun i h st b hb => by
    have e : b = it := by simpa using hb
    subst e
    obtain ⟨o, e, c, d⟩ := st
    exact ⟨o, e, fun v z => by rw [d] at z; cases z⟩
  keep := fun i h h' st k => st.at fun o e => k it (by simp) o e
  item := by
    intro X hP hw hK hc i pins s σ H E I hf st hg
    subst hP hw hK
    obtain ⟨xs, x, hq, hx⟩ := hg
    obtain ⟨its, rv, p, hz⟩ := I.tuple hq
    obtain ⟨u, hu, ru⟩ := rv.get hx
    obtain ⟨f0, f1, f2, f3, f4, f5⟩ := hf it (by simp)
    refine wpAny_pyNext_tuple_item st (show s.heap.IsTuple a its.toArray from p) (x := u) (by simpa using hu) fun h' st' sb => ?_
    have I1 : Inv X pins σ H { s with heap := h' } := I.turned (t' := s.toks) (fun b o hb e => (sb.2 b hb).trans e) f0 f1 f3 f4 f5
    obtain ⟨o, e, c, d⟩ := id st'
    exact ⟨u, rfl, go_of (s := { s with heap := h' }) e c d (by decide) ⟨x, H, I1, ru, ⟨rfl, fun ys hy => by rw [I.tuple_inj hy hq]; exact hx⟩, st', fun b hb => (hf b hb).1⟩⟩
  done := by
    intro X hP hw hK hc i pins s σ H E I hf st hg
    subst hP hw hK
    obtain ⟨xs, hq, hx⟩ := hg
    obtain ⟨its, rv, p, hz⟩ := I.tuple hq
    obtain ⟨f0, f1, f2, f3, f4, f5⟩ := hf it (by simp)
    have hl := rv.length
    exact wpAny_pyNext_tuple_end (I.ok.hd hc) st (show s.heap.IsTuple a its.toArray from p) (by simp; omega) fun h' eb => ⟨rfl, I.turned (t' := s.toks) (fun b o hb e => eb b o hb e) f0 f1 f3 f4 f5⟩
  self := fun _ _ _ _ _ st h => wpAny_pyIter_tupleiter st h
theorem turn_range {P : Program} {w : World} {K : PySem.W.Frag} {tg : Expr} (it : Addr) (lo : Int) (n : Nat) : Turn P w K tg (Itr lo n) [it] it (fun i h => IsRangeIter h it (lo + (i : Nat) * 1) ((n : Int) - (i : Nat)) 1) where
  mem := by simp
  obj := fun i h st b hb => by
    have e : b = it := by simpa using hb
    subst e
    exact ⟨_, st, fun v z => by
      have z' : Data.fields _ = Data.cell v := z
      cases z'⟩
  keep := fun i h h' st k => k it (by simp) _ st
  item := by
    intro X hP hw hK hc i pins s σ H E I hf st hg
    subst hP hw hK
    obtain ⟨f0, f1, f2, f3, f4, f5⟩ := hf it (by simp)
    have W := Walks.range (prog := X.prog) (w := X.w) (I.ok.hd hc) it lo 1 n
    refine W.item i s _ _ hg st fun v h' tk hv st' kk => ?_
    obtain ⟨t, rfl⟩ := hv
    have I1 : Inv X pins σ H { s with heap := h', toks := tk } := I.turned (fun b o hb e => kk b o (by simpa using hb) e) f0 f1 f3 f4 f5
    refine ⟨_, rfl, go_of (s := { s with heap := h', toks := tk }) (n := "range_iterator") st' rfl rfl (by decide) ⟨.int (lo + i), H, I1, ⟨t, ?_⟩, ⟨rfl, rfl⟩, st', fun b hb => (hf b hb).1⟩⟩
    rw [Int.mul_one]
  done := by
    intro X hP hw hK hc i pins s σ H E I hf st hg
    subst hP hw hK
    obtain ⟨f0, f1, f2, f3, f4, f5⟩ := hf it (by simp)
    exact wpAny_pyNext_range_end (I.ok.hd hc) st (by have : n ≤ i := hg; omega) fun h' eb => ⟨rfl, I.turned (t' := s.toks) (fun b o hb e => eb b o hb e) f0 f1 f3 f4 f5⟩
  self := fun _ _ _ _ _ st h => wpAny_pyIter_rangeiter st h
end L2

namespace L2
open PySem PySem.Spec PyProof.Rows
section
variable {X : Cx} {tg : Expr}
def iList (K : PySem.W.Frag) (tl : TE) : TI := fun σ H R => tl σ H fun x H1 => ∃ a, x = .ref a ∧ (∃ xs, SqL K H1 a xs) ∧ R (Itl K a) H1
def iTup (K : PySem.W.Frag) (tl : TE) : TI := fun σ H R => tl σ H fun x H1 => ∃ a, x = .ref a ∧ (∃ xs, SqT K H1 a xs) ∧ R (Itt K a) H1
theorem pi_list {l : Expr} {tl : TE} (hl : PE X l tl) : PI X tg l (iList X.K tl) := by
  intro pins s σ H R I h
  refine thn (hl pins s σ H _ I h) fun v s1 ⟨x, H1, I1, r1, q1⟩ => ?_
  obtain ⟨a, e, ⟨xs, hq⟩, q⟩ := q1
  subst e
  cases r1
  obtain ⟨its, rv, p, hz⟩ := I1.list hq
  refine wpAny_pyIter_list p.isList ?_
  refine ⟨s1.heap.objs.size, [s1.heap.objs.size], _, _, H1, rfl, I1.kept (t' := s1.toks) fun b o e => Heap.get?_push_of_some _ e, turn_list a _, ⟨_, Heap.get?_push_size _ rfl, rfl, rfl⟩, fun b hb => ?_, q⟩
  have e : b = s1.heap.objs.size := by simpa using hb
  subst e
  exact I1.fpOk (Nat.le_refl _) (I1.hok.fresh (Nat.le_refl _))
theorem pi_tup {l : Expr} {tl : TE} (hl : PE X l tl) : PI X tg l (iTup X.K tl) := by
  intro pins s σ H R I h
  refine thn (hl pins s σ H _ I h) fun v s1 ⟨x, H1, I1, r1, q1⟩ => ?_
  obtain ⟨a, e, ⟨xs, hq⟩, q⟩ := q1
  subst e
  cases r1
  obtain ⟨its, rv, p, hz⟩ := I1.tuple hq
  refine wpAny_pyIter_tuple (show s1.heap.IsTuple a its.toArray from p) ?_
  refine ⟨s1.heap.objs.size, [s1.heap.objs.size], _, _, H1, rfl, I1.kept (t' := s1.toks) fun b o e => Heap.get?_push_of_some _ e, turn_tuple a _, ⟨_, Heap.get?_push_size _ rfl, rfl, rfl⟩, fun b hb => ?_, q⟩
  have e : b = s1.heap.objs.size := by simpa using hb
  subst e
  exact I1.fpOk (Nat.le_refl _) (I1.hok.fresh (Nat.le_refl _))
/-- a range object just made, walked -/
theorem range_it {pins : List (Addr × Obj)} {σ : St} {H : Hp} {s : Shared} {R : It → Hp → Prop} {E : Value → Shared → Prop} {lo hi : Int} {t u v : Tok} {tk : Nat} (I : Inv X pins σ H s) (h1 : -(2 ^ 62) ≤ lo) (h2 : lo < 2 ^ 62) (h3 : -(2 ^ 62) ≤ hi) (h4 : hi < 2 ^ 62)
    (q : R (Itr lo (hi - lo).toNat) H) : wpAny (model X.prog X.w) X.A (pyIter (.ref s.heap.objs.size)) (PIE X pins σ tg R) E { s with heap := s.heap.push { cls := .type "range", data := .fields #[.int lo t, .int hi u, .int 1 v] }, toks := tk } := by
  refine wpAny_pyIter_range (IsRange.new ..) (small_one h1 h2 h3 h4) ?_
  have I1 : Inv X pins σ H { s with heap := s.heap.push { cls := .type "range", data := .fields #[.int lo t, .int hi u, .int 1 v] }, toks := tk } := I.kept fun b o e => Heap.get?_push_of_some _ e
  refine ⟨(s.heap.push { cls := .type "range", data := .fields #[.int lo t, .int hi u, .int 1 v] }).objs.size, [(s.heap.push { cls := .type "range", data := .fields #[.int lo t, .int hi u, .int 1 v] }).objs.size], _, _, H, rfl,
    I1.kept (t' := tk) fun b o e => Heap.get?_push_of_some _ e, turn_range _ lo (hi - lo).toNat, ?_, fun b hb => ?_, q⟩
  · have e1 : lo + ((0 : Nat) : Int) * 1 = lo := by simp
    have e2 : (((hi - lo).toNat : Nat) : Int) - ((0 : Nat) : Int) = Builtin.Range.rangeSize lo hi 1 := by rw [rangeSize_one]; split <;> omega
    show IsRangeIter _ _ (lo + ((0 : Nat) : Int) * 1) ((((hi - lo).toNat : Nat) : Int) - ((0 : Nat) : Int)) 1
    rw [e1, e2]
    exact Heap.get?_push_size _ rfl
  · have e : b = (s.heap.push { cls := .type "range", data := .fields #[.int lo t, .int hi u, .int 1 v] }).objs.size := by simpa using hb
    subst e
    exact I1.fpOk (Nat.le_refl _) (I1.hok.fresh (Nat.le_refl _))
def iRng1 (ta : TA) : TI := fun σ H R => ta σ H fun vs H1 => ∃ j : Int, vs = [.int j] ∧ -(2 ^ 62) ≤ j ∧ j < 2 ^ 62 ∧ R (Itr 0 j.toNat) H1
def iRng2 (ta : TA) : TI := fun σ H R => ta σ H fun vs H1 => ∃ i j : Int, vs = [.int i, .int j] ∧ (-(2 ^ 62) ≤ i ∧ i < 2 ^ 62 ∧ -(2 ^ 62) ≤ j ∧ j < 2 ^ 62) ∧ R (Itr i (j - i).toNat) H1
theorem pi_range1 {a : Expr} {ta : TA} {p pos : Pos} (hg : Gl X "range") (hm : X.mg "range" = none) (ha : PA X [a] ta) (hs : starEach [a] X.env = [(false, eval a X.env)] := by rfl) : PI X tg (.Call (.Name "range" p) [a] [] pos) (iRng1 ta) := by
  intro pins s σ H R I h
  refine Call_ (ld_blt I hg hm boot_range (PyProof.Rows.callWith_type1 (thn (ha pos pins s σ H _ I h) fun us s1 ⟨vs, H1, I1, r1, q1⟩ => ?_) hs rfl))
  obtain ⟨j, e, q1, q2, q⟩ := q1
  subst e
  cases r1 with
  | cons r rr =>
    cases rr
    obtain ⟨t, rfl⟩ := r
    exact call_range_1 (range_it I1 (by omega) (by omega) q1 q2 (by simpa using q))
theorem pi_range2 {a b : Expr} {ta : TA} {p pos : Pos} (hg : Gl X "range") (hm : X.mg "range" = none) (ha : PA X [a, b] ta) (hs : starEach [a, b] X.env = [(false, eval a X.env), (false, eval b X.env)] := by rfl) (hs2 : starEach [b] X.env = [(false, eval b X.env)] := by rfl) :
    PI X tg (.Call (.Name "range" p) [a, b] [] pos) (iRng2 ta) := by
  intro pins s σ H R I h
  refine Call_ (ld_blt I hg hm boot_range (PyProof.Rows.callWith_type1 (thn (ha pos pins s σ H _ I h) fun us s1 ⟨vs, H1, I1, r1, q1⟩ => ?_) (by rw [hs, hs2]) (by rw [hs2]; rfl)))
  obtain ⟨i, j, e, ⟨q1, q2, q3, q4⟩, q⟩ := q1
  subst e
  cases r1 with
  | cons r rr =>
    cases rr with
    | cons r' rr =>
      cases rr
      obtain ⟨t, rfl⟩ := r
      obtain ⟨t', rfl⟩ := r'
      exact call_range_2 (range_it I1 q1 q2 q3 q4 q)

/-! ### for -/
/-- W: the invariant by the turn and a measure; N: what the body is to reach -/
def tFor (wi : TI) (g : TG) (tb : TS) : TS := fun D σ H => wi σ H fun J H1 => ∃ W : Nat → Nat → St → Hp → Prop, (∃ m, W 0 m σ H1) ∧ ∀ i m σ H, W i m σ H →
  (J.stop i H ∧ D.nx σ H) ∨ (J.go i H ∧ ∃ N : St → Hp → Prop, (∀ σ' H', N σ' H' → ∃ m', m' < m ∧ W (i + 1) m' σ' H') ∧ ∀ x H', J.yld i H x H' → g x σ H' fun σ2 H2 => tb { D with nx := N, ct := N, bk := D.nx } σ2 H2)
/-- the records at fp as they stand -/
def pinsAt (fp : List Addr) (h : Heap) : List (Addr × Obj) := fp.filterMap fun b => (h.get? b).map fun o => (b, o)
theorem mem_pinsAt {fp : List Addr} {h : Heap} {b : Addr} {o : Obj} (hb : b ∈ fp) (e : h.get? b = some o) : (b, o) ∈ pinsAt fp h := List.mem_filterMap.mpr ⟨b, hb, by rw [e]; rfl⟩
theorem of_pinsAt {fp : List Addr} {h : Heap} {p : Addr × Obj} (hp : p ∈ pinsAt fp h) : p.1 ∈ fp ∧ h.get? p.1 = some p.2 := by
  obtain ⟨b, hb, e⟩ := List.mem_filterMap.mp hp
  cases q : h.get? b with
  | none => rw [q] at e; cases e
  | some o =>
    rw [q] at e
    have e' : (b, o) = p := Option.some.inj e
    subst e'
    exact ⟨hb, q⟩
theorem Inv.pinned {pins : List (Addr × Obj)} {σ : St} {H : Hp} {s : Shared} {fp : List Addr} (I : Inv X pins σ H s) (hf : ∀ b ∈ fp, FpOk X pins H b) (ho : ∀ b ∈ fp, ∃ o, s.heap.get? b = some o ∧ ∀ v, o.data ≠ .cell v) : Inv X (pins ++ pinsAt fp s.heap) σ H s :=
  I.pins_of fun p hp => (List.mem_append.mp hp).elim (fun z => I.pin p (List.mem_append_right _ z)) fun z => by
    obtain ⟨hb, e⟩ := of_pinsAt z
    obtain ⟨f0, f1, f2, _⟩ := hf p.1 hb
    obtain ⟨o, e', d⟩ := ho p.1 hb
    rw [e] at e'; cases e'
    exact ⟨e, f0, f1, f2, d⟩
theorem Inv.unpinned {pins pl : List (Addr × Obj)} {σ : St} {H : Hp} {s : Shared} (I : Inv X (pins ++ pl) σ H s) : Inv X pins σ H s := I.pins_of fun p hp => I.pin p (List.mem_append_right _ (List.mem_append_left _ hp))
theorem ps_for {iter : Expr} {body : List Stmt} {wi : TI} {g : TG} {tb : TS} {pos : Pos} (hp : PassesOwn (model X.prog X.w) X.A X.env X.xe) (hc : X.calm = true) (hi : PI X tg iter wi) (hg : PG X tg g) (hb : PSs X body tb)
    (hs : ∀ x, foldedSetIterable iter X.env x = pure x := by intro _; rfl) : PS X (.For tg iter body [] pos) (tFor wi g tb) := by
  intro pins s σ H D I h
  refine wpAny_For (thn (hi pins s σ H _ I h) fun v s1 h1 => thn h1 fun itv s2 h2 => ?_) hs
  obtain ⟨it, fp, tn, J, H2, e, I2, T, st2, f2, W, ⟨m0, w0⟩, turn⟩ := h2
  subst e
  -- what stays true of the iterator's objects through the loop
  have stat : ∀ {H' : Hp}, (∀ b ∈ fp, H' b = none) → ∀ b ∈ fp, FpOk X pins H' b := fun hn b hb => ⟨hn b hb, (f2 b hb).2⟩
  refine codeAny_forLoop_any (fun n s' => ∃ i σ' H', Inv X pins σ' H' s' ∧ tn i s'.heap ∧ (∀ b ∈ fp, H' b = none) ∧ W i n σ' H') ?_ m0 ⟨0, σ, H2, I2, st2, fun b hb => (f2 b hb).1, w0⟩
  rintro n s3 ⟨i, σ3, H3, I3, st3, fr3, w3⟩
  rcases turn i n σ3 H3 w3 with ⟨stop, qn⟩ | ⟨go, N, hN, step⟩
  · refine wpAny_passesOwn hp (thn (T.done X rfl rfl rfl hc i pins s3 σ3 H3 X.xe I3 (stat fr3) st3 stop) fun r s4 ⟨hr, I4⟩ => ?_)
    subst hr
    exact wpAny_execs_nil ⟨σ3, H3, I4, qn⟩
  · refine wpAny_passesOwn hp (thn (T.item X rfl rfl rfl hc i pins s3 σ3 H3 X.xe I3 (stat fr3) st3 go) fun r s4 ⟨u, hr, h4⟩ => ?_)
    subst hr
    refine wpAny_passesOwn hp (thn h4 fun _ s5 ⟨x, H5, I5, r5, y5, st5, fr5⟩ => ?_)
    have I5' := I5.pinned (stat fr5) (T.obj _ _ st5)
    refine wpAny_passesOwn hp (thn (hg _ s5 σ3 H5 x u _ I5' r5 (step x H5 y5)) fun _ s6 ⟨σ6, H6, I6, q6⟩ => ?_)
    refine wpAny_passesOwn hp (thn (hb _ s6 σ6 H6 _ I6 q6) fun f s7 q7 => ?_)
    have again : ∀ {σ7 : St} {H7 : Hp}, Inv X (pins ++ pinsAt fp s5.heap) σ7 H7 s7 → N σ7 H7 → ∃ m, m < n ∧ ∃ i σ' H', Inv X pins σ' H' s7 ∧ tn i s7.heap ∧ (∀ b ∈ fp, H' b = none) ∧ W i m σ' H' := fun {σ7 H7} I7 n7 => by
      obtain ⟨m', hm, w7⟩ := hN σ7 H7 n7
      refine ⟨m', hm, i + 1, σ7, H7, I7.unpinned, T.keep _ _ _ st5 fun b hb o e => (I7.pin (b, o) (List.mem_append_right _ (List.mem_append_right _ (mem_pinsAt hb e)))).1, fun b hb => ?_, w7⟩
      obtain ⟨o, e, d⟩ := T.obj _ _ st5 b hb
      exact (I7.pin (b, o) (List.mem_append_right _ (List.mem_append_right _ (mem_pinsAt hb e)))).2.1
    cases f with
    | next => obtain ⟨σ7, H7, I7, n7⟩ := q7; exact again I7 n7
    | cont => obtain ⟨σ7, H7, I7, n7⟩ := q7; exact again I7 n7
    | brk => obtain ⟨σ7, H7, I7, q7⟩ := q7; exact ⟨σ7, H7, I7.unpinned, q7⟩
    | ret v => obtain ⟨x7, σ7, H7, I7, r7, q7⟩ := q7; exact ⟨x7, σ7, H7, I7.unpinned, r7, q7⟩
end

/-! ### the forms one uses -/
/-- over a list that the body leaves as it is -/
theorem for_list {K : PySem.W.Frag} {a : Addr} {xs : List V} {g : TG} {tb : TS} {D : Ends} {σ : St} {H : Hp} (Pv : Nat → St → Hp → Prop) (h0 : Pv 0 σ H) (hl : ∀ i σ H, i ≤ xs.length → Pv i σ H → SqL K H a xs)
    (hs : ∀ i x σ H, xs[i]? = some x → Pv i σ H → g x σ H fun σ2 H2 => tb { D with nx := Pv (i + 1), ct := Pv (i + 1), bk := D.nx } σ2 H2) (hd : ∀ σ H, Pv xs.length σ H → D.nx σ H) :
    ∃ W : Nat → Nat → St → Hp → Prop, (∃ m, W 0 m σ H) ∧ ∀ i m σ H, W i m σ H →
      ((Itl K a).stop i H ∧ D.nx σ H) ∨ ((Itl K a).go i H ∧ ∃ N : St → Hp → Prop, (∀ σ' H', N σ' H' → ∃ m', m' < m ∧ W (i + 1) m' σ' H') ∧ ∀ x H', (Itl K a).yld i H x H' → g x σ H' fun σ2 H2 => tb { D with nx := N, ct := N, bk := D.nx } σ2 H2) := by
  refine ⟨fun i m σ H => m = xs.length - i ∧ i ≤ xs.length ∧ Pv i σ H, ⟨xs.length, by simp, Nat.zero_le _, h0⟩, ?_⟩
  rintro i m σ H ⟨rfl, hi, p⟩
  have q := hl i σ H hi p
  by_cases hlt : i < xs.length
  · refine .inr ⟨⟨xs, xs[i], q, by simp [hlt]⟩, Pv (i + 1), fun σ' H' p' => ⟨xs.length - (i + 1), by omega, rfl, hlt, p'⟩, fun x H' y => ?_⟩
    obtain ⟨e, y⟩ := y
    subst e
    exact hs i x σ _ (y xs q) p
  · have e : i = xs.length := by omega
    subst e
    exact .inl ⟨⟨xs, q, Nat.le_refl _⟩, hd σ H p⟩
theorem for_tup {K : PySem.W.Frag} {a : Addr} {xs : List V} {g : TG} {tb : TS} {D : Ends} {σ : St} {H : Hp} (Pv : Nat → St → Hp → Prop) (h0 : Pv 0 σ H) (hl : ∀ i σ H, i ≤ xs.length → Pv i σ H → SqT K H a xs)
    (hs : ∀ i x σ H, xs[i]? = some x → Pv i σ H → g x σ H fun σ2 H2 => tb { D with nx := Pv (i + 1), ct := Pv (i + 1), bk := D.nx } σ2 H2) (hd : ∀ σ H, Pv xs.length σ H → D.nx σ H) :
    ∃ W : Nat → Nat → St → Hp → Prop, (∃ m, W 0 m σ H) ∧ ∀ i m σ H, W i m σ H →
      ((Itt K a).stop i H ∧ D.nx σ H) ∨ ((Itt K a).go i H ∧ ∃ N : St → Hp → Prop, (∀ σ' H', N σ' H' → ∃ m', m' < m ∧ W (i + 1) m' σ' H') ∧ ∀ x H', (Itt K a).yld i H x H' → g x σ H' fun σ2 H2 => tb { D with nx := N, ct := N, bk := D.nx } σ2 H2) := by
  refine ⟨fun i m σ H => m = xs.length - i ∧ i ≤ xs.length ∧ Pv i σ H, ⟨xs.length, by simp, Nat.zero_le _, h0⟩, ?_⟩
  rintro i m σ H ⟨rfl, hi, p⟩
  have q := hl i σ H hi p
  by_cases hlt : i < xs.length
  · refine .inr ⟨⟨xs, xs[i], q, by simp [hlt]⟩, Pv (i + 1), fun σ' H' p' => ⟨xs.length - (i + 1), by omega, rfl, hlt, p'⟩, fun x H' y => ?_⟩
    obtain ⟨e, y⟩ := y
    subst e
    exact hs i x σ _ (y xs q) p
  · have e : i = xs.length := by omega
    subst e
    exact .inl ⟨⟨xs, q, Nat.le_refl _⟩, hd σ H p⟩
theorem for_range {lo : Int} {n : Nat} {g : TG} {tb : TS} {D : Ends} {σ : St} {H : Hp} (Pv : Nat → St → Hp → Prop) (h0 : Pv 0 σ H)
    (hs : ∀ i σ H, i < n → Pv i σ H → g (.int (lo + i)) σ H fun σ2 H2 => tb { D with nx := Pv (i + 1), ct := Pv (i + 1), bk := D.nx } σ2 H2) (hd : ∀ σ H, Pv n σ H → D.nx σ H) :
    ∃ W : Nat → Nat → St → Hp → Prop, (∃ m, W 0 m σ H) ∧ ∀ i m σ H, W i m σ H →
      ((Itr lo n).stop i H ∧ D.nx σ H) ∨ ((Itr lo n).go i H ∧ ∃ N : St → Hp → Prop, (∀ σ' H', N σ' H' → ∃ m', m' < m ∧ W (i + 1) m' σ' H') ∧ ∀ x H', (Itr lo n).yld i H x H' → g x σ H' fun σ2 H2 => tb { D with nx := N, ct := N, bk := D.nx } σ2 H2) := by
  refine ⟨fun i m σ H => m = n - i ∧ i ≤ n ∧ Pv i σ H, ⟨n, by simp, Nat.zero_le _, h0⟩, ?_⟩
  rintro i m σ H ⟨rfl, hi, p⟩
  by_cases hlt : i < n
  · refine .inr ⟨hlt, Pv (i + 1), fun σ' H' p' => ⟨n - (i + 1), by omega, rfl, hlt, p'⟩, fun x H' y => ?_⟩
    obtain ⟨e, y⟩ := y
    subst e y
    exact hs i σ _ hlt p
  · have e : i = n := by omega
    subst e
    exact .inl ⟨Nat.le_refl _, hd σ H p⟩
/-- while, by a word and a measure of the state -/
theorem while_by {c : TT} {tb : TS} {D : Ends} {σ : St} {H : Hp} (Pv : St → Hp → Prop) (μ : St → Hp → Nat) (h0 : Pv σ H)
    (hs : ∀ σ H, Pv σ H → c σ H fun b H1 => if b = true then tb { D with nx := fun σ' H' => Pv σ' H' ∧ μ σ' H' < μ σ H, ct := fun σ' H' => Pv σ' H' ∧ μ σ' H' < μ σ H, bk := D.nx } σ H1 else D.nx σ H1)
    (mono : ∀ σ H Q Q', (∀ b H1, Q b H1 → Q' b H1) → c σ H Q → c σ H Q') : tWhile c tb D σ H := by
  refine ⟨fun m σ H => m = μ σ H ∧ Pv σ H, ⟨_, rfl, h0⟩, ?_⟩
  rintro m σ H ⟨rfl, p⟩
  refine mono σ H _ _ (fun b H1 q => ?_) (hs σ H p)
  cases b with
  | true => exact ⟨_, fun σ' H' ⟨p', l⟩ => ⟨_, l, rfl, p'⟩, q⟩
  | false => exact q
end L2

namespace L2
open PySem PySem.Spec PyProof.Rows

abbrev R2 := V → V → Hp → VK → Prop
/-- a two-place operation on values: f is binaryOp op, inplaceOp op or compareOp op -/
def OpR (X : Cx) (f : Value → Value → Sem Value) (r : R2) : Prop :=
  ∀ (pins : List (Addr × Obj)) (s : Shared) (σ : St) (H : Hp) (x y : V) (v u : Value) (Q : VK), Inv X pins σ H s → RelV x v → RelV y u → r x y H Q →
    wpAny (model X.prog X.w) X.A (f v u) (EP X pins σ Q) X.xe s
/-- a one-place operation -/
def UnR (X : Cx) (f : Value → Sem Value) (r : V → Hp → VK → Prop) : Prop :=
  ∀ (pins : List (Addr × Obj)) (s : Shared) (σ : St) (H : Hp) (x : V) (v : Value) (Q : VK), Inv X pins σ H s → RelV x v → r x H Q →
    wpAny (model X.prog X.w) X.A (f v) (EP X pins σ Q) X.xe s
/-- a call of a value that is known (a builtin, a type) with values -/
def CallR (X : Cx) (f : Value) (r : List V → Hp → VK → Prop) : Prop :=
  ∀ (pins : List (Addr × Obj)) (s : Shared) (σ : St) (H : Hp) (xs : List V) (us : List Value) (Q : VK), Inv X pins σ H s → Vals xs us → r xs H Q →
    wpAny (model X.prog X.w) X.A (call f us) (EP X pins σ Q) X.xe s
/-- a value's truth -/
def TruR (X : Cx) (r : V → Hp → (Bool → Hp → Prop) → Prop) : Prop :=
  ∀ (pins : List (Addr × Obj)) (s : Shared) (σ : St) (H : Hp) (x : V) (v : Value) (Q : Bool → Hp → Prop), Inv X pins σ H s → RelV x v → r x H Q →
    wpAny (model X.prog X.w) X.A (truthy v) (TP X pins σ Q) X.xe s

def tOp (r : R2) (ta tb : TE) : TE := fun σ H Q => ta σ H fun x H1 => tb σ H1 fun y H2 => r x y H2 Q
def tUn (r : V → Hp → VK → Prop) (ta : TE) : TE := fun σ H Q => ta σ H fun x H1 => r x H1 Q
/-- ints in, under C, and a value out -/
def rI (C : Int → Int → Prop) (g : Int → Int → V) : R2 := fun x y H Q => ∃ i j, x = .int i ∧ y = .int j ∧ C i j ∧ Q (g i j) H
def rI0 (g : Int → Int → V) : R2 := fun x y H Q => ∃ i j, x = .int i ∧ y = .int j ∧ Q (g i j) H
def rU (g : Int → V) : V → Hp → VK → Prop := fun x H Q => ∃ i, x = .int i ∧ Q (g i) H

section
variable {X : Cx} {a b c : Expr} {ta tb tc : TE} {pos : Pos}

theorem binT (ha : PE X a ta) (hb : PE X b tb) {pins : List (Addr × Obj)} {s : Shared} {σ : St} {H : Hp} {R : V → V → Hp → Prop} (I : Inv X pins σ H s)
    (h : ta σ H fun x H1 => tb σ H1 fun y H2 => R x y H2) {Q : Value → Shared → Prop} {f : Value → Value → Sem Value}
    (hf : ∀ v u s2 x y H2, Inv X pins σ H2 s2 → RelV x v → RelV y u → R x y H2 → wpAny (model X.prog X.w) X.A (f v u) Q X.xe s2) :
    wpAny (model X.prog X.w) X.A (eval a X.env) (fun v s₁ => wpAny (model X.prog X.w) X.A (eval b X.env) (fun u s₂ => wpAny (model X.prog X.w) X.A (f v u) Q X.xe s₂) X.xe s₁) X.xe s := by
  refine thn (ha pins s σ H _ I h) fun v s1 ⟨x, H1, I1, r1, q1⟩ => ?_
  refine thn (hb pins s1 σ H1 _ I1 q1) fun u s2 ⟨y, H2, I2, r2, q2⟩ => ?_
  exact hf v u s2 x y H2 I2 r1 r2 q2

theorem pe_op {op : Operator} {r : R2} (ho : OpR X (binaryOp op) r) (ha : PE X a ta) (hb : PE X b tb) : PE X (.BinOp a op b pos) (tOp r ta tb) := by
  intro pins s σ H Q I h
  exact wpAny_BinOp (binT ha hb I h fun v u s2 x y H2 I2 rx ry q => ho pins s2 σ H2 x y v u Q I2 rx ry q)
theorem pe_un {op : UnaryOp} {r : V → Hp → VK → Prop} (ho : UnR X (unaryOp op) r) (ha : PE X a ta) : PE X (.UnaryOp op a pos) (tUn r ta) := by
  intro pins s σ H Q I h
  exact UnaryOp_ (thn (ha pins s σ H _ I h) fun v s1 ⟨x, H1, I1, r1, q1⟩ => ho pins s1 σ H1 x v Q I1 r1 q1)

/-! ### ints -/
theorem opI {f : Value → Value → Sem Value} {C : Int → Int → Prop} {g : Int → Int → Int}
    (rule : ∀ (i j : Int) (t u : Tok) (s : Shared) (Q : Value → Shared → Prop) (E : Value → Shared → Prop), C i j → Q (.int (g i j) s.toks) { s with toks := s.toks + 1 } → wpAny (model X.prog X.w) X.A (f (.int i t) (.int j u)) Q E s) :
    OpR X f (rI C fun i j => .int (g i j)) := by
  intro pins s σ H x y v u Q I rx ry h
  obtain ⟨i, j, rfl, rfl, hc, q⟩ := h
  obtain ⟨t, rfl⟩ := rx
  obtain ⟨t', rfl⟩ := ry
  exact rule i j t t' s _ _ hc ⟨.int (g i j), H, I.tok _, ⟨_, rfl⟩, q⟩
theorem opI0 {f : Value → Value → Sem Value} {g : Int → Int → Int}
    (rule : ∀ (i j : Int) (t u : Tok) (s : Shared) (Q : Value → Shared → Prop) (E : Value → Shared → Prop), Q (.int (g i j) s.toks) { s with toks := s.toks + 1 } → wpAny (model X.prog X.w) X.A (f (.int i t) (.int j u)) Q E s) :
    OpR X f (rI0 fun i j => .int (g i j)) := by
  intro pins s σ H x y v u Q I rx ry h
  obtain ⟨i, j, rfl, rfl, q⟩ := h
  obtain ⟨t, rfl⟩ := rx
  obtain ⟨t', rfl⟩ := ry
  exact rule i j t t' s _ _ ⟨.int (g i j), H, I.tok _, ⟨_, rfl⟩, q⟩
theorem opB0 {f : Value → Value → Sem Value} {g : Int → Int → Bool}
    (rule : ∀ (i j : Int) (t u : Tok) (s : Shared) (Q : Value → Shared → Prop) (E : Value → Shared → Prop), Q (.bool (g i j)) s → wpAny (model X.prog X.w) X.A (f (.int i t) (.int j u)) Q E s) :
    OpR X f (rI0 fun i j => .bl (g i j)) := by
  intro pins s σ H x y v u Q I rx ry h
  obtain ⟨i, j, rfl, rfl, q⟩ := h
  obtain ⟨t, rfl⟩ := rx
  obtain ⟨t', rfl⟩ := ry
  exact rule i j t t' s _ _ ⟨.bl (g i j), H, I, rfl, q⟩

def CDiv (i j : Int) : Prop := 0 < j ∧ j < 1073741824
def CDivN (i j : Int) : Prop := j ≠ 0 ∧ j.natAbs < 1073741824
def CPow (i j : Int) : Prop := 0 ≤ j ∧ j ≤ 1000000 ∧ i.natAbs < 2 ^ 64
def CMul (i j : Int) : Prop := (-(2 ^ 64) < i ∧ i < 2 ^ 64) ∨ (-(2 ^ 64) < j ∧ j < 2 ^ 64)
theorem CMul.ok {i j : Int} (h : CMul i j) : IntMulOk i j := by
  rcases h with ⟨h1, h2⟩ | ⟨h1, h2⟩
  · exact .of_left (intBits_le_64 h1 h2)
  · exact .of_right (intBits_le_64 h1 h2)

theorem op_add : OpR X (binaryOp .Add) (rI0 fun i j => .int (i + j)) := opI0 fun _ _ _ _ _ _ _ q => add_int q
theorem op_sub : OpR X (binaryOp .Sub) (rI0 fun i j => .int (i - j)) := opI0 fun _ _ _ _ _ _ _ q => sub_int q
theorem op_mul : OpR X (binaryOp .Mult) (rI CMul fun i j => .int (i * j)) := opI fun _ _ _ _ _ _ _ hc q => mul_int q hc.ok
/-- // by a positive divisor -/
theorem op_fdiv : OpR X (binaryOp .FloorDiv) (rI CDiv fun i j => .int (i / j)) := opI fun i j _ _ _ _ _ hc q => by
  have h1 : (0 : Int) < j := hc.1
  have h2 : j < 1073741824 := hc.2
  exact floordiv_int (by omega) (by rw [Int.fdiv_eq_ediv_of_nonneg i (by omega)]; exact q) (.inl (PyProof.noPylong_small (by omega)))
/-- % by a positive divisor of any size -/
theorem op_mod : OpR X (binaryOp .Mod) (rI (fun _ j => 0 < j) fun i j => .int (i % j)) := opI fun i j _ _ _ _ _ hc q => by
  have h1 : (0 : Int) < j := hc
  exact mod_int' (by omega) (by rw [Int.fmod_eq_emod_of_nonneg i (by omega)]; exact q)
theorem op_pow : OpR X (binaryOp .Pow) (rI CPow fun i j => .int (i ^ j.toNat)) := opI fun _ _ _ _ _ _ _ hc q => pow_int_small hc.1 hc.2.1 hc.2.2 q


theorem unI {f : Value → Sem Value} {g : Int → Int}
    (rule : ∀ (i : Int) (t : Tok) (s : Shared) (Q : Value → Shared → Prop) (E : Value → Shared → Prop), Q (.int (g i) s.toks) { s with toks := s.toks + 1 } → wpAny (model X.prog X.w) X.A (f (.int i t)) Q E s) :
    UnR X f (rU fun i => .int (g i)) := by
  intro pins s σ H x v Q I rx h
  obtain ⟨i, rfl, q⟩ := h
  obtain ⟨t, rfl⟩ := rx
  exact rule i t s _ _ ⟨.int (g i), H, I.tok _, ⟨_, rfl⟩, q⟩
theorem un_neg : UnR X (unaryOp .USub) (rU fun i => .int (-i)) := unI fun _ _ _ _ _ q => neg_int q

/-! ### bools among ints: n += (a < b) -/
end

/-! ### comparisons -/
/-- the scalars that == tells apart as data does -/
def scal : V → V → Bool
  | .non, .non => true | .non, .int _ => true | .int _, .non => true | .non, .bl _ => true | .bl _, .non => true | .non, .str _ => true | .str _, .non => true
  | .int _, .int _ => true | .bl _, .bl _ => true | .str _, .str _ => true | .byt _, .byt _ => true
  | .int _, .str _ => true | .str _, .int _ => true | .bl _, .str _ => true | .str _, .bl _ => true
  | _, _ => false
def rEq : R2 := fun x y H Q => scal x y = true ∧ Q (.bl (decide (x = y))) H
def rNe : R2 := fun x y H Q => scal x y = true ∧ Q (.bl (!decide (x = y))) H

theorem dec_int {i j : Int} : decide (V.int i = V.int j) = (i == j) := by
  rw [Bool.eq_iff_iff]
  simp
theorem dec_bl {i j : Bool} : decide (V.bl i = V.bl j) = (i == j) := by
  rw [Bool.eq_iff_iff]
  simp
theorem dec_str {i j : Str} : decide (V.str i = V.str j) = (i == j) := by
  rw [Bool.eq_iff_iff]
  simp
theorem dec_byt {i j : Array UInt8} : decide (V.byt i = V.byt j) = (i.toList == j.toList) := by
  rw [Bool.eq_iff_iff]
  cases i
  cases j
  simp

section
variable {X : Cx} {a b c : Expr} {ta tb tc : TE} {pos : Pos}
theorem fin_bl {pins : List (Addr × Obj)} {σ : St} {H : Hp} {s : Shared} {Q : VK} {k k' : Bool} (I : Inv X pins σ H s) (q : Q (.bl k) H) (e : k = k') : EP X pins σ Q (.bool k') s := by
  subst e
  exact ⟨.bl k, H, I, rfl, q⟩
theorem op_eq : OpR X (compareOp .Eq) rEq := by
  intro pins s σ H x y v u Q I rx ry h
  obtain ⟨hs, q⟩ := h
  cases x with
  | non =>
    cases rx
    cases y with
    | non => cases ry; exact PySem.EqNone.eq_none_none (fin_bl I q (by simp))
    | bl j => cases ry; exact PySem.EqNone.eq_none_bool (fin_bl I q (by simp))
    | int j => obtain ⟨t', rfl⟩ := ry; exact PySem.EqNone.eq_none_int (fin_bl I q (by simp))
    | str j => obtain ⟨t', rfl⟩ := ry; exact PySem.EqNone.eq_none_str (fin_bl I q (by simp))
    | _ => exact absurd (show false = true from hs) Bool.false_ne_true
  | bl i =>
    cases rx
    cases y with
    | non => cases ry; exact PySem.EqNone.eq_bool_none (fin_bl I q (by simp))
    | bl j => cases ry; exact eq_bool (fin_bl I q dec_bl)
    | str j => obtain ⟨t', rfl⟩ := ry; exact PySem.EqMixed.eq_bool_str (fin_bl I q (by simp))
    | _ => exact absurd (show false = true from hs) Bool.false_ne_true
  | int i =>
    obtain ⟨t, rfl⟩ := rx
    cases y with
    | non => cases ry; exact PySem.EqNone.eq_int_none (fin_bl I q (by simp))
    | int j => obtain ⟨t', rfl⟩ := ry; exact eq_int (fin_bl I q dec_int)
    | str j => obtain ⟨t', rfl⟩ := ry; exact PySem.EqMixed.eq_int_str (fin_bl I q (by simp))
    | _ => exact absurd (show false = true from hs) Bool.false_ne_true
  | str i =>
    obtain ⟨t, rfl⟩ := rx
    cases y with
    | non => cases ry; exact PySem.EqNone.eq_str_none (fin_bl I q (by simp))
    | bl j => cases ry; exact PySem.EqMixed.eq_str_bool (fin_bl I q (by simp))
    | int j => obtain ⟨t', rfl⟩ := ry; exact PySem.EqMixed.eq_str_int (fin_bl I q (by simp))
    | str j => obtain ⟨t', rfl⟩ := ry; exact eq_str (fin_bl I q dec_str)
    | _ => exact absurd (show false = true from hs) Bool.false_ne_true
  | byt i =>
    obtain ⟨t, rfl⟩ := rx
    cases y with
    | byt j => obtain ⟨t', rfl⟩ := ry; exact PySem.W.eq_bytes (fin_bl I q dec_byt)
    | _ => exact absurd (show false = true from hs) Bool.false_ne_true
  | _ => cases y <;> exact absurd (show false = true from hs) Bool.false_ne_true
theorem op_ne : OpR X (compareOp .NotEq) rNe := by
  intro pins s σ H x y v u Q I rx ry h
  obtain ⟨hs, q⟩ := h
  cases x with
  | non =>
    cases rx
    cases y with
    | non => cases ry; exact PySem.EqNone.ne_none_none (fin_bl I q (by simp))
    | bl j => cases ry; exact PySem.EqNone.ne_none_bool (fin_bl I q (by simp))
    | int j => obtain ⟨t', rfl⟩ := ry; exact PySem.EqNone.ne_none_int (fin_bl I q (by simp))
    | str j => obtain ⟨t', rfl⟩ := ry; exact PySem.EqNone.ne_none_str (fin_bl I q (by simp))
    | _ => exact absurd (show false = true from hs) Bool.false_ne_true
  | bl i =>
    cases rx
    cases y with
    | non => cases ry; exact PySem.EqNone.ne_bool_none (fin_bl I q (by simp))
    | bl j => cases ry; exact ne_bool (fin_bl I q (congrArg not dec_bl))
    | str j => obtain ⟨t', rfl⟩ := ry; exact PySem.EqMixed.ne_bool_str (fin_bl I q (by simp))
    | _ => exact absurd (show false = true from hs) Bool.false_ne_true
  | int i =>
    obtain ⟨t, rfl⟩ := rx
    cases y with
    | non => cases ry; exact PySem.EqNone.ne_int_none (fin_bl I q (by simp))
    | int j => obtain ⟨t', rfl⟩ := ry; exact ne_int (fin_bl I q (congrArg not dec_int))
    | str j => obtain ⟨t', rfl⟩ := ry; exact PySem.EqMixed.ne_int_str (fin_bl I q (by simp))
    | _ => exact absurd (show false = true from hs) Bool.false_ne_true
  | str i =>
    obtain ⟨t, rfl⟩ := rx
    cases y with
    | non => cases ry; exact PySem.EqNone.ne_str_none (fin_bl I q (by simp))
    | bl j => cases ry; exact PySem.EqMixed.ne_str_bool (fin_bl I q (by simp))
    | int j => obtain ⟨t', rfl⟩ := ry; exact PySem.EqMixed.ne_str_int (fin_bl I q (by simp))
    | str j => obtain ⟨t', rfl⟩ := ry; exact ne_str (fin_bl I q (congrArg not dec_str))
    | _ => exact absurd (show false = true from hs) Bool.false_ne_true
  | byt i =>
    obtain ⟨t, rfl⟩ := rx
    cases y with
    | byt j => obtain ⟨t', rfl⟩ := ry; exact PySem.W.ne_bytes (fin_bl I q (congrArg not dec_byt))
    | _ => exact absurd (show false = true from hs) Bool.false_ne_true
  | _ => cases y <;> exact absurd (show false = true from hs) Bool.false_ne_true

theorem op_lt : OpR X (compareOp .Lt) (rI0 fun i j => .bl (decide (i < j))) := opB0 fun _ _ _ _ _ _ _ q => lt_int q
theorem op_gt : OpR X (compareOp .Gt) (rI0 fun i j => .bl (decide (j < i))) := opB0 fun _ _ _ _ _ _ _ q => gt_int q
theorem op_ge : OpR X (compareOp .GtE) (rI0 fun i j => .bl (decide (j ≤ i))) := opB0 fun _ _ _ _ _ _ _ q => ge_int q

/-- is None, is not None: the right side a value none -/
theorem op_isN : OpR X (compareOp .Is) (fun x y H Q => y = .non ∧ Q (.bl (decide (x = .non))) H) := by
  intro pins s σ H x y v u Q I rx ry h
  obtain ⟨rfl, q⟩ := h
  cases ry
  refine is_none_gen (fin_bl I q ?_)
  cases x <;> first
    | (cases rx; rfl)
    | (obtain ⟨t, rfl⟩ := rx; rfl)
theorem op_notN : OpR X (compareOp .IsNot) (fun x y H Q => y = .non ∧ Q (.bl (!decide (x = .non))) H) := by
  intro pins s σ H x y v u Q I rx ry h
  obtain ⟨rfl, q⟩ := h
  cases ry
  refine isnot_none_gen (fin_bl I q ?_)
  cases x <;> first
    | (cases rx; rfl)
    | (obtain ⟨t, rfl⟩ := rx; rfl)

/-- is, is not of two objects that are tracked lists or instances -/
def isObj : HO → Bool
  | .lst _ => true
  | .ins _ _ _ => true
  | _ => false

/-- two rules for one operation: by cases -/
theorem OpR.or {f : Value → Value → Sem Value} {r r' : R2} (h : OpR X f r) (h' : OpR X f r') : OpR X f (fun x y H Q => r x y H Q ∨ r' x y H Q) := by
  intro pins s σ H x y v u Q I rx ry q
  rcases q with q | q
  · exact h pins s σ H x y v u Q I rx ry q
  · exact h' pins s σ H x y v u Q I rx ry q

theorem nomark (b : Expr) {op : CmpOp} (h : op ≠ .In := by decide) (h2 : op ≠ .NotIn := by decide) : behindInMarks op b = false := by
  have e1 : (op == CmpOp.In) = false := by cases op <;> first | rfl | exact absurd rfl h
  have e2 : (op == CmpOp.NotIn) = false := by cases op <;> first | rfl | exact absurd rfl h2
  cases b <;> simp [behindInMarks, e1, e2]
/-- a comparison as a value; hm: nomark b, or (for in, not in) by with_unfolding_all rfl -/
theorem pe_cmpR {op : CmpOp} {r : R2} (ho : OpR X (compareOp op) r) (ha : PE X a ta) (hb : PE X b tb) (hm : behindInMarks op b = false) : PE X (.Compare a [op] [b] pos) (tOp r ta tb) := by
  intro pins s σ H Q I h
  exact wpAny_Compare1 (binT ha hb I h fun v u s2 x y H2 I2 rx ry q => ho pins s2 σ H2 x y v u Q I2 rx ry q) hm
/-- a reading of a value as a test -/
def tTest (t : TE) : TT := fun σ H Q => t σ H fun x H' => ∃ k, x = .bl k ∧ Q k H'
theorem pt_cmpR {op : CmpOp} {r : R2} (ho : OpR X (compareOp op) r) (ha : PE X a ta) (hb : PE X b tb) (hm : behindInMarks op b = false) : PT X (.Compare a [op] [b] pos) (tTest (tOp r ta tb)) := by
  intro pins s σ H Q I h
  refine wpAny_isTrue_Compare1 (thn (ha pins s σ H _ I h) fun v s1 ⟨x, H1, I1, r1, q1⟩ => thn (hb pins s1 σ H1 _ I1 q1) fun u s2 ⟨y, H2, I2, r2, q2⟩ =>
    thn (ho pins s2 σ H2 x y v u _ I2 r1 r2 q2) fun c s3 ⟨z, H3, I3, r3, k, e, q3⟩ => ?_) hm
  subst e
  cases r3
  exact wpAny_truthy_bool ⟨H3, I3, q3⟩
/-- a op1 b op2 c -/
def tChain (r r' : R2) (ta tb tc : TE) : TE := fun σ H Q => ta σ H fun x H1 => tb σ H1 fun y H2 => r x y H2 fun z H3 => ∃ k, z = .bl k ∧
  (if k = true then tc σ H3 fun w' H4 => r' y w' H4 Q else Q (.bl false) H3)

/-! ### truth -/
/-- a value's truth by the abstract heap -/
def TruV (K : PySem.W.Frag) (x : V) (H : Hp) (k : Bool) : Prop :=
  match x with
  | .non => k = false
  | .bl b => k = b
  | .int i => k = (i != 0)
  | .str y => y.length ≤ sizeLine ∧ k = ((y.length : Int) != 0)
  | .byt y => y.size ≤ sizeLine ∧ k = ((y.size : Int) != 0)
  | .ref p => (∃ xs, SqL K H p xs ∧ k = !xs.isEmpty) ∨ (∃ xs, SqT K H p xs ∧ k = !xs.isEmpty) ∨ ∃ kvs, H p = some (.dK kvs) ∧ k = !kvs.isEmpty
  | _ => False
theorem line63 : (sizeLine : Nat) < 2 ^ 63 := by rw [sizeLine_eq]; decide

/-! ### strs and bytes -/

def PlainIxT (b : Expr) : Prop := ∀ o i, subscripted b false o i = operate [o, i] (getItem o i)

/-! ### scalar builtins, by CallR -/
theorem vals1 {x : V} {us : List Value} (r : Vals [x] us) : ∃ u, us = [u] ∧ RelV x u := by
  cases r with
  | cons r1 r2 => cases r2; exact ⟨_, rfl, r1⟩
theorem vals2 {x y : V} {us : List Value} (r : Vals [x, y] us) : ∃ u w', us = [u, w'] ∧ RelV x u ∧ RelV y w' := by
  cases r with
  | cons r1 r2 =>
    cases r2 with
    | cons r3 r4 => cases r4; exact ⟨_, _, rfl, r1, r3⟩
theorem call_abs : CallR X (.builtin "abs") (fun xs H Q => ∃ i, xs = [.int i] ∧ Q (.int (if i < 0 then -i else i)) H) := by
  intro pins s σ H xs us Q I r h
  obtain ⟨i, rfl, q⟩ := h
  obtain ⟨u, rfl, t, rfl⟩ := vals1 r
  exact call_abs_int fun u tk => ⟨.int (if i < 0 then -i else i), H, I.tok _, ⟨_, rfl⟩, q⟩
theorem call_max2 (hc : X.calm = true) : CallR X (.builtin "max") (fun xs H Q => ∃ i j, xs = [.int i, .int j] ∧ Q (.int (if j > i then j else i)) H) := by
  intro pins s σ H xs us Q I r h
  obtain ⟨i, j, rfl, q⟩ := h
  obtain ⟨u, w', rfl, ⟨t, rfl⟩, ⟨t', rfl⟩⟩ := vals2 r
  refine max_two_ints (I.ok.hd hc) fun h' tk k => ⟨_, H, I.kept k, ?_, q⟩
  by_cases hj : j > i
  · rw [if_pos hj, if_pos hj]; exact ⟨_, rfl⟩
  · rw [if_neg hj, if_neg hj]; exact ⟨_, rfl⟩
theorem call_min2 (hc : X.calm = true) : CallR X (.builtin "min") (fun xs H Q => ∃ i j, xs = [.int i, .int j] ∧ Q (.int (if j < i then j else i)) H) := by
  intro pins s σ H xs us Q I r h
  obtain ⟨i, j, rfl, q⟩ := h
  obtain ⟨u, w', rfl, ⟨t, rfl⟩, ⟨t', rfl⟩⟩ := vals2 r
  refine min_two_ints (I.ok.hd hc) fun h' tk k => ⟨_, H, I.kept k, ?_, q⟩
  by_cases hj : j < i
  · rw [if_pos hj, if_pos hj]; exact ⟨_, rfl⟩
  · rw [if_neg hj, if_neg hj]; exact ⟨_, rfl⟩
/-- len of a str, a bytes, a list, a tuple -/
def LenV (K : PySem.W.Frag) (x : V) (H : Hp) (n : Nat) : Prop :=
  match x with
  | .str y => y.length ≤ sizeLine ∧ n = y.length
  | .byt y => y.size ≤ sizeLine ∧ n = y.size
  | .ref p => (∃ xs, SqL K H p xs ∧ n = xs.length) ∨ ∃ xs, SqT K H p xs ∧ n = xs.length
  | _ => False
end
end L2

namespace L2
open PySem PySem.Spec PyProof.Rows

/-! ### an instance, its attributes a map -/
structure ObjM (h : Heap) (x dx C : Addr) (mA : Str → Option Value) : Prop where
  obj : h.get? x = some (PySem.W.instObj C dx)
  ns : h.Ns1 dx mA
  ne : dx ≠ x

theorem lookIn_ns {h : Heap} {dx : Addr} {mA : Str → Option Value} (n : h.Ns1 dx mA) : ∃ od, h.get? dx = some od ∧ ∀ name, PySem.W.lookIn name od = some (mA name) := by
  obtain ⟨o, es, ep, ho, hd, hk, _, hm⟩ := n
  refine ⟨o, ho, fun name => ?_⟩
  have e := hm name
  unfold nsFind findBy at e
  rw [← Array.find?_toList] at e
  unfold PySem.W.lookIn
  rw [hd]
  dsimp only
  split
  · rename_i y q
    rw [q] at e
    exact congrArg some e
  · rename_i q
    rw [q] at e
    have a : es.toList.any (·.refKey) = false := by
      rw [List.any_eq_false]
      intro y hy
      obtain ⟨z, t, hkey⟩ := hk y (Array.mem_toList_iff.mp hy)
      simp [DictEntry.refKey, hkey]
    have a' : ¬ es.toList.any (·.refKey) = true := by rw [a]; exact Bool.false_ne_true
    rw [if_neg a']
    exact congrArg some e

theorem ObjM.look {h : Heap} {x dx C : Addr} {mA : Str → Option Value} (I : ObjM h x dx C mA) : ∃ od, PySem.W.InstAt h x (PySem.W.instObj C dx) C (some od) ∧ ∀ name, PySem.W.lookIn name od = some (mA name) :=
  let ⟨od, ho, hl⟩ := lookIn_ns I.ns
  ⟨od, ⟨I.obj, rfl, rfl, ho⟩, hl⟩

section
variable {prog : Program} {w : World} {A : Around} {E : Value → Shared → Prop} {s : Shared} {K : PySem.W.Frag} {x dx C f : Addr} {mA : Str → Option Value} {name : Str} {v : Value}





end

/-! ### the attributes as a list of pairs -/
def putF (f : Str) (v : V) : List (Str × V) → List (Str × V)
  | [] => [(f, v)]
  | (g, x) :: r => if g = f then (g, v) :: r else (g, x) :: putF f v r


section
variable {P : Program} {w : World} {H H' : Hp} {h h' : Heap} {a C dx : Addr} {fs fs' : List (Str × V)}
theorem ins_get (hok : HOk P w H h) (e : H a = some (.ins C dx fs)) : ∃ mA, ObjM h a dx C mA ∧ (∀ f, RelO (fs.lookup f) (mA f)) ∧ PySem.Within mA (fs.map (·.1)) ∧ fs.length ≤ 1000 ∧ H dx = some (.own a) := by
  obtain ⟨d, z, ne, ob, mA, n, r, q⟩ := (show ObjOk P w H h a (.ins C dx fs) from hok a _ e)
  exact ⟨mA, ⟨ob, n, ne⟩, r, q, z, d⟩
end

/-! ### what of the text a class must have -/
structure Cls (K : PySem.W.Frag) (C : Addr) : Prop where
  pg : PySem.W.plainGet K C Str.empty = true
  hd : PySem.W.hasDictIn K C = true
  po : PySem.W.plainOver K C = true
  sa : PySem.W.findIn K (.ref C) "__setattr__" = some (some (.builtin "object.__setattr__"))
theorem Cls.get {K : PySem.W.Frag} {C : Addr} (c : Cls K C) (f : Str) : PySem.W.plainGet K C f = true := c.pg
/-- no class of it has the name -/
def NoAttr (K : PySem.W.Frag) (C : Addr) (f : Str) : Prop := PySem.W.findIn K (.ref C) f = some none
/-- a constant of the class -/
structure Con (K : PySem.W.Frag) (C : Addr) (f : Str) (v : V) (u : Value) : Prop where
  at_ : PySem.W.findIn K (.ref C) f = some (some u)
  rel : RelV v u
  get : PySem.W.specialIn K u "__get__" = some none
  cp : PySem.W.copiedNames.contains f = false
/-- a method: a plain def of the class or of one above it -/
structure Meth (K : PySem.W.Frag) (C : Addr) (m : Str) (f : Addr) : Prop where
  at_ : PySem.W.findIn K (.ref C) m = some (some (.ref f))
  fn : PySem.W.isFn K (.ref f) = true
  kp : PySem.W.keepIn K (.ref f) = true

section
variable {X : Cx} {pins : List (Addr × Obj)} {σ : St} {H : Hp} {s : Shared} {a C dx : Addr} {fs : List (Str × V)} {f : Str} {v : V} {A : Around} {E : Value → Shared → Prop}





/-- a new instance, tracked, without attributes -/
theorem Inv.made (I : Inv X pins σ H s) : Inv X pins σ (upd (upd H s.heap.objs.size (.own (s.heap.objs.size + 1))) (s.heap.objs.size + 1) (.ins C s.heap.objs.size []))
    { s with heap := (s.heap.push PySem.W.emptyDict).push (PySem.W.instObj C s.heap.objs.size) } := by
  have e1 : (s.heap.push PySem.W.emptyDict).get? s.heap.objs.size = some PySem.W.emptyDict := Heap.get?_push_size s.heap rfl
  have e2 : ((s.heap.push PySem.W.emptyDict).push (PySem.W.instObj C s.heap.objs.size)).get? (s.heap.objs.size + 1) = some (PySem.W.instObj C s.heap.objs.size) := by
    have := Heap.get?_push_size (s.heap.push PySem.W.emptyDict) (o := PySem.W.instObj C s.heap.objs.size) rfl
    rwa [Heap.size_push] at this
  have e3 : (s.heap.push PySem.W.emptyDict).Ns s.heap.objs.size (fun _ => none) := ⟨PySem.W.emptyDict, #[], _, e1, rfl, (fun e he => absurd he (by simp)), fun _ => rfl⟩
  have I1 := I.laid (a := s.heap.objs.size) (o := .own (s.heap.objs.size + 1)) (h' := s.heap.push PySem.W.emptyDict) (t' := s.toks) (fun b u q => Heap.get?_push_of_some _ q) (Nat.le_refl _) ⟨_, e1⟩
  refine I1.laid (a := s.heap.objs.size + 1) (o := .ins C s.heap.objs.size []) (t' := s.toks) (fun b u q => Heap.get?_push_of_some _ q) (Nat.le_of_eq (Heap.size_push _ _)) ?_
  have ne : s.heap.objs.size ≠ s.heap.objs.size + 1 := Nat.ne_of_lt (Nat.lt_succ_self _)
  refine ⟨by rw [upd_ne ne, upd_same], Nat.zero_le _, ne, e2, fun _ => none, (Heap.Ns1.of_empty e3).at fun o q => Heap.get?_push_of_some _ q, fun _ => True.intro, fun y hy => absurd rfl hy⟩

end

/-! ### readings and rules -/
/-- e.f, an attribute of the instance -/
def tFld (K : PySem.W.Frag) (ta : TE) (f : Str) : TE := fun σ H Q => ta σ H fun x H1 => ∃ a C dx fs v, x = .ref a ∧ H1 a = some (.ins C dx fs) ∧ Cls K C ∧ NoAttr K C f ∧ fs.lookup f = some v ∧ Q v H1
/-- e.f, a constant of the class -/
def tCon (K : PySem.W.Frag) (ta : TE) (f : Str) : TE := fun σ H Q => ta σ H fun x H1 => ∃ a C dx fs v u, x = .ref a ∧ H1 a = some (.ins C dx fs) ∧ Cls K C ∧ Con K C f v u ∧ fs.lookup f = none ∧ Q v H1
/-- e.f = value -/
def sFld (K : PySem.W.Frag) (ta tv : TE) (f : Str) : TS := fun D σ H => tv σ H fun y H1 => ta σ H1 fun x H2 => ∃ a C dx fs, x = .ref a ∧ H2 a = some (.ins C dx fs) ∧ Cls K C ∧ NoAttr K C f ∧ fs.length < 1000 ∧
  D.nx σ (upd H2 a (.ins C dx (putF f y fs)))
/-- an augmented operator on two values -/
def InOp (X : Cx) (op : Operator) (rd : V → V → Hp → VK → Prop) : Prop :=
  ∀ (pins : List (Addr × Obj)) (s : Shared) (σ : St) (H : Hp) (x y : V) (u v : Value) (Q : VK), Inv X pins σ H s → RelV x u → RelV y v → rd x y H Q → wpAny (model X.prog X.w) X.A (inplaceOp op u v) (EP X pins σ Q) X.xe s
/-- e.f op= value -/
def sFldAug (K : PySem.W.Frag) (ta tv : TE) (rd : V → V → Hp → VK → Prop) (f : Str) : TS := fun D σ H => ta σ H fun x H1 => ∃ a C dx fs v, x = .ref a ∧ H1 a = some (.ins C dx fs) ∧ Cls K C ∧ NoAttr K C f ∧ fs.lookup f = some v ∧
  tv σ H1 fun y H2 => rd v y H2 fun z H3 => ∃ dx' fs', H3 a = some (.ins C dx' fs') ∧ fs'.length < 1000 ∧ D.nx σ (upd H3 a (.ins C dx' (putF f z fs')))

section
variable {X : Cx} {o e value : Expr} {f : Str} {pos pos' tpos : Pos} {ta tv : TE}
def rAdd : V → V → Hp → VK → Prop := fun x y H Q => ∃ i j, x = .int i ∧ y = .int j ∧ Q (.int (i + j)) H
def rSub : V → V → Hp → VK → Prop := fun x y H Q => ∃ i j, x = .int i ∧ y = .int j ∧ Q (.int (i - j)) H

end

/-! ### isinstance -/
section
variable {X : Cx} {pins : List (Addr × Obj)} {σ : St} {H : Hp} {s : Shared} {A : Around} {E : Value → Shared → Prop} {Q : Value → Shared → Prop} {c : Value} {b : Bool}
/-- the type of a value, as the fragment's deciders take it; for an instance its class -/
inductive TyOf (K : PySem.W.Frag) (H : Hp) : V → Value → Prop where
  | non : TyOf K H .non (.type "NoneType")
  | bl (x : Bool) : TyOf K H (.bl x) (.type "bool")
  | int (i : Int) : TyOf K H (.int i) (.type "int")
  | str (x : Str) : TyOf K H (.str x) (.type "str")
  | flt (x : UInt64) : TyOf K H (.flt x) (.type "float")
  | lst {a : Addr} {xs : List V} (e : H a = some (.lst xs)) : TyOf K H (.ref a) (.type "list")
  | frz {a : Addr} {o : Obj} {xs : List V} (e : H a = some (.frz o (.lst xs))) : TyOf K H (.ref a) (.type "list")
  | tup {a : Addr} {xs : List V} (e : H a = some (.tup xs)) : TyOf K H (.ref a) (.type "tuple")
  | dK {a : Addr} {kvs : List (Key × V)} (e : H a = some (.dK kvs)) : TyOf K H (.ref a) (.type "dict")
  | dT {a : Addr} {kvs : List (List Key × V)} (e : H a = some (.dT kvs)) : TyOf K H (.ref a) (.type "dict")
  | ins {a C dx : Addr} {fs : List (Str × V)} (e : H a = some (.ins C dx fs)) (cl : Cls K C) (ha : PySem.W.findIn K (.ref C) "__class__" = some (some (.builtin "object.__class__")))
      (hn : PySem.W.specialIn K (.builtin "object.__class__") "__get__" = some (some (.builtin "getset_descriptor.__get__"))) (htk : PySem.W.takesIn K (.builtin "object.__class__") = some true)
      (hm : PySem.W.mroIn K C (.type "object") = some true) : TyOf K H (.ref a) (.ref C)
/-- isinstance(x, c) for one class c, a built-in or an own one: kitOne's answer -/
theorem isinst_ok {x : V} {u t : Value} (I : Inv X pins σ H s) (rx : RelV x u) (ty : TyOf X.K H x t) (e : PySem.W.kitOne X.K t c = some b) (h : ∀ tk, Q (.bool b) { s with toks := tk }) :
    wpAny (model X.prog X.w) A (call (.builtin "isinstance") [u, c]) Q E s := by
  cases ty with
  | non => cases (show u = Value.none from rx); exact PySem.W.kia_one PySem.W.kitx_none I.kIn True.intro e (fun z => nomatch z) h
  | bl y => cases (show u = Value.bool y from rx); exact PySem.W.kia_one PySem.W.kitx_bool I.kIn True.intro e (fun z => nomatch z) h
  | int i => obtain ⟨t, q⟩ := (show ∃ t, u = Value.int i t from rx); cases q; exact PySem.W.kia_one PySem.W.kitx_int I.kIn True.intro e (fun z => nomatch z) h
  | str y => obtain ⟨t, q⟩ := (show ∃ t, u = Value.str y t from rx); cases q; exact PySem.W.kia_one PySem.W.kitx_str I.kIn True.intro e (fun z => nomatch z) h
  | flt y => obtain ⟨t, q⟩ := (show ∃ t, u = Value.float y t from rx); cases q; exact PySem.W.kia_one PySem.W.kitx_float I.kIn True.intro e (fun z => nomatch z) h
  | @lst a xs ea =>
    cases (show u = Value.ref a from rx)
    obtain ⟨_, _, n, _, h1⟩ := (show ObjOk X.prog X.w H s.heap a (.lst xs) from I.hok a _ ea)
    exact PySem.W.kia_one PySem.W.kitx_list I.kIn ⟨_, h1, rfl⟩ e (fun z => nomatch z) h
  | @frz a ob xs ea =>
    cases (show u = Value.ref a from rx)
    obtain ⟨_, _, _, n, _, h1⟩ := (show ObjOk X.prog X.w H s.heap a (.frz ob (.lst xs)) from I.hok a _ ea)
    exact PySem.W.kia_one PySem.W.kitx_list I.kIn ⟨_, h1, rfl⟩ e (fun z => nomatch z) h
  | @tup a xs ea =>
    cases (show u = Value.ref a from rx)
    obtain ⟨_, _, _, p⟩ := (show ObjOk X.prog X.w H s.heap a (.tup xs) from I.hok a _ ea)
    obtain ⟨o, h1, h2, _⟩ := p
    exact PySem.W.kia_one PySem.W.kitx_tuple I.kIn ⟨o, h1, h2⟩ e (fun z => nomatch z) h
  | @dK a kvs ea =>
    cases (show u = Value.ref a from rx)
    obtain ⟨_, _, vs, _, p⟩ := (show ObjOk X.prog X.w H s.heap a (.dK kvs) from I.hok a _ ea)
    obtain ⟨o, es, ep, h1, h2, _⟩ := p
    exact PySem.W.kia_one PySem.W.kitx_dict I.kIn ⟨o, h1, h2.1⟩ e (fun z => nomatch z) h
  | @dT a kvs ea =>
    cases (show u = Value.ref a from rx)
    obtain ⟨_, _, xs, _, o, es, ep, h1, h2, _⟩ := (show ObjOk X.prog X.w H s.heap a (.dT kvs) from I.hok a _ ea)
    exact PySem.W.kia_one PySem.W.kitx_dict I.kIn ⟨o, h1, h2.1⟩ e (fun z => nomatch z) h
  | @ins a C dx fs ea cl ha hn htk hm =>
    cases (show u = Value.ref a from rx)
    obtain ⟨mA, O, _⟩ := ins_get I.hok ea
    obtain ⟨od, J, _⟩ := O.look
    exact PySem.W.kia_one (PySem.W.kitx_own (cl.get _) cl.hd ha hn htk hm) I.kIn J e (fun z => nomatch z) h
end
end L2

namespace L2
open PySem PySem.Spec PyProof.Rows

/-! ### room -/
structure Room (k : Nat) (A : Around) : Prop where
  hd : A.handled = none
  dp : A.depth + 3 * k + 5 < recursionLimit
  un : A.units + 16 * k + 200 < cLine
theorem Room.mono {j k : Nat} {A : Around} (r : Room k A) (h : j ≤ k) : Room j A := ⟨r.hd, by have := r.dp; omega, by have := r.un; omega⟩
theorem Room.deeper {k : Nat} {A : Around} (r : Room (k + 1) A) (env : Env) : Room k (A.deeper env) :=
  ⟨r.hd, by have := r.dp; show A.depth + 1 + 3 * k + 5 < _; omega, by have := r.un; show A.units + 3 + 16 * k + 200 < _; omega⟩
theorem Room.in1 {k : Nat} {A : Around} (r : Room (k + 1) A) : Room k A.in1 :=
  ⟨r.hd, by have := r.dp; show A.depth + 3 * k + 5 < _; omega, by have := r.un; show A.units + 1 + 16 * k + 200 < _; omega⟩
theorem make_depth {A : Around} {C : Addr} {us : List Value} {kw : List (Str × Value)} : (A.under (.builtin "type.__call__" ⟨.ref C :: us, kw⟩)).depth = A.depth + 1 := by
  first | rfl | simp [Around.under, Code.weight, Code.isCreation, Code.isGuard, Code.isCaller, Code.frames, Code.isFrame, guardIds]
theorem make_units {A : Around} {C : Addr} {us : List Value} {kw : List (Str × Value)} : (A.under (.builtin "type.__call__" ⟨.ref C :: us, kw⟩)).units = A.units + 1 := by
  first | rfl | simp [Around.under, Code.cUnits, Code.frames, Code.isFrame]
theorem Room.make {k : Nat} {A : Around} (r : Room (k + 1) A) (C : Addr) (us : List Value) (kw : List (Str × Value)) : Room k (A.under (.builtin "type.__call__" ⟨.ref C :: us, kw⟩)) :=
  ⟨r.hd, by have := r.dp; rw [make_depth]; omega, by have := r.un; rw [make_units]; omega⟩
theorem Room.depth {k : Nat} {A : Around} (r : Room k A) : A.depth < recursionLimit := by have := r.dp; omega
theorem Room.units {k : Nat} {A : Around} (r : Room k A) : A.units + 64 < cLine := by have := r.un; omega

/-! ### argument lists and displays -/
def tNil : TA := fun _ H Q => Q [] H
def tCons (ta : TE) (tr : TA) : TA := fun σ H Q => ta σ H fun x H1 => tr σ H1 fun xs H2 => Q (x :: xs) H2
section
variable {X : Cx} {e : Expr} {es : List Expr} {te : TE} {t : TA} {pos : Pos}
theorem pa_nil : PA X [] tNil := fun _ _ _ _ H Q I h => Calls.spliced_nil ⟨[], H, I, .nil, h⟩
theorem pa_cons (ha : PE X e te) (hr : PA X es t) (hs : starEach (e :: es) X.env = (false, eval e X.env) :: starEach es X.env := by rfl) : PA X (e :: es) (tCons te t) := by
  intro pos pins s σ H Q I h
  rw [hs]
  show wpAny _ _ (spliced ((false, eval e X.env) :: backTo pos (starEach es X.env))) _ _ s
  refine Calls.spliced_cons (thn (ha pins s σ H _ I h) fun u s1 ⟨x, H1, I1, r1, q1⟩ => ?_)
  exact thn (hr pos pins s1 σ H1 _ I1 q1) fun us s2 ⟨xs, H2, I2, r2, q2⟩ => ⟨x :: xs, H2, I2, .cons r1 r2, q2⟩

/-- a tuple, a list of written items -/
def tTup (t : TA) : TE := fun σ H Q => t σ H fun xs H1 => xs.length ≤ sizeLine ∧ ∀ p, H1 p = none → Q (.ref p) (upd H1 p (.tup xs))
def tLst (t : TA) : TE := fun σ H Q => t σ H fun xs H1 => xs.length ≤ sizeLine ∧ ∀ p, H1 p = none → Q (.ref p) (upd H1 p (.lst xs))
theorem pe_tup {x1} (h : PA X es t) : PE X (.Tuple es x1 pos) (tTup t) := by
  intro pins s σ H Q I hq
  refine wpAny_Tuple_spliced (thn (h pos pins s σ H _ I hq) fun us s1 ⟨xs, H1, I1, r, z, q⟩ => ⟨by rw [← r.length]; exact z, ?_⟩)
  have hf : H1 s1.heap.objs.size = none := I1.hok.fresh (Nat.le_refl _)
  refine ⟨.ref s1.heap.objs.size, upd H1 s1.heap.objs.size (.tup xs), I1.laid (t' := s1.toks) (fun b u e => Heap.get?_push_of_some _ e) (Nat.le_refl _) ?_, rfl, q _ hf⟩
  exact ⟨z, us, r, ⟨_, Heap.get?_push_size _ rfl, rfl, _, rfl⟩⟩
theorem pe_lst (h : PA X es t) : PE X (.List es pos) (tLst t) := by
  intro pins s σ H Q I hq
  refine wpAny_List_spliced (thn (h pos pins s σ H _ I hq) fun us s1 ⟨xs, H1, I1, r, z, q⟩ => ⟨by rw [← r.length]; exact z, ?_⟩)
  have hf : H1 s1.heap.objs.size = none := I1.hok.fresh (Nat.le_refl _)
  refine ⟨.ref s1.heap.objs.size, upd H1 s1.heap.objs.size (.lst xs), I1.laid (t' := s1.toks) (fun b u e => Heap.get?_push_of_some _ e) (Nat.le_refl _) ?_, rfl, q _ hf⟩
  exact ⟨z, us, 0, r, Heap.get?_push_size _ rfl⟩
end

/-! ### what a def promises -/
/-- a def's promise: the bound arguments in the parameters' order, the heap, the wanted end, the wanted exception -/
abbrev Sp := List V → Hp → VK → XK → Prop
/-- how an exception lies behind a call (file 08 gives it): the callers' frames, abstract heap and state ahead of the call, the wish, the exception, the state -/
abbrev CXT := List Env → Hp → Shared → XK → Value → Shared → Prop

/-- the state at a call -/
structure Env0 (P : Program) (w : World) (K : PySem.W.Frag) (mg : Str → Option Value) (base : Heap) (A : Around) (outer : List Env) (s : Shared) (H : Hp) : Prop where
  frames : A.frames = some outer
  mod : Mod K mg base
  bs : ∀ b o, base.get? b = some o → s.heap.get? b = some o ∧ H b = none
  bsz : base.objs.size ≤ s.heap.objs.size
  funs : s.heap.FunFrames base outer
  frf : ∀ b ∈ frs outer, H b = none
  hok : HOk P w H s.heap
  bare : AllBare s.gens
/-- a call's end -/
def CE (outer : List Env) (P : Program) (w : World) (H : Hp) (s : Shared) (Q : VK) (u : Value) (s' : Shared) : Prop :=
  ∃ v H', s'.os = s.os ∧ AllBare s'.gens ∧ Un (frs outer) [] H H' s.heap s'.heap ∧ HOk P w H' s'.heap ∧ RelV v u ∧ Q v H'
def CR (CX : CXT) (outer : List Env) (P : Program) (w : World) (H : Hp) (s : Shared) (Q : VK) (E : XK) (r : Result) (s' : Shared) : Prop :=
  match r with
  | .ok (.ret u) => CE outer P w H s Q u s'
  | .ok _ => False
  | .error e => CX outer H s E e s'
structure FnOk (P : Program) (w : World) (K : PySem.W.Frag) (mg : Str → Option Value) (base : Heap) (CX : CXT) (k : Nat) (f : Addr) (fd : FuncData) (ps : List Str) (sp : Sp) : Prop where
  len : ∀ vs H Q E, sp vs H Q E → vs.length = ps.length
  run : ∀ (A : Around) (outer : List Env) (s : Shared) (H : Hp) (args : Args) (us : List Value) (vs : List V) (Q : VK) (E : XK), Room k A → Env0 P w K mg base A outer s H → BindsTo s fd args (ps.zip us) → Vals vs us → sp vs H Q E →
    codeAny (model P w) A (.call (.ref f) args) (CR CX outer P w H s Q E) s
theorem FnOk.mono {P : Program} {w : World} {K : PySem.W.Frag} {mg : Str → Option Value} {base : Heap} {CX : CXT} {j k : Nat} {f : Addr} {fd : FuncData} {ps : List Str} {sp : Sp} (F : FnOk P w K mg base CX j f fd ps sp) (h : j ≤ k) :
    FnOk P w K mg base CX k f fd ps sp := ⟨F.len, fun A outer s H args us vs Q E hr => F.run A outer s H args us vs Q E (hr.mono h)⟩
/-- a weaker promise -/
theorem FnOk.imp {P : Program} {w : World} {K : PySem.W.Frag} {mg : Str → Option Value} {base : Heap} {CX : CXT} {k : Nat} {f : Addr} {fd : FuncData} {ps : List Str} {sp sp' : Sp} (F : FnOk P w K mg base CX k f fd ps sp)
    (h : ∀ vs H Q E, sp' vs H Q E → sp vs H Q E) : FnOk P w K mg base CX k f fd ps sp' :=
  ⟨fun vs H Q E q => F.len vs H Q E (h _ _ _ _ q), fun A outer s H args us vs Q E hr he hb hv hs => F.run A outer s H args us vs Q E hr he hb hv (h _ _ _ _ hs)⟩

theorem Env0.make {P : Program} {w : World} {K : PySem.W.Frag} {mg : Str → Option Value} {base : Heap} {A : Around} {outer : List Env} {s : Shared} {H : Hp} (e : Env0 P w K mg base A outer s H) (C : Addr) (us : List Value) (kw : List (Str × Value)) :
    Env0 P w K mg base (A.under (.builtin "type.__call__" ⟨.ref C :: us, kw⟩)) outer s H := ⟨by first | exact e.frames | (simpa [Around.under, Code.envs, Code.isFrame, pushEnvs] using e.frames), e.mod, e.bs, e.bsz, e.funs, e.frf, e.hok, e.bare⟩
theorem Env0.in1 {P : Program} {w : World} {K : PySem.W.Frag} {mg : Str → Option Value} {base : Heap} {A : Around} {outer : List Env} {s : Shared} {H : Hp} (e : Env0 P w K mg base A outer s H) :
    Env0 P w K mg base A.in1 outer s H := ⟨e.frames, e.mod, e.bs, e.bsz, e.funs, e.frf, e.hok, e.bare⟩

section
variable {X : Cx} {pins : List (Addr × Obj)} {σ : St} {H : Hp} {s s' : Shared}
/-- from a body: what a callee wants -/
theorem Inv.env0 (I : Inv X pins σ H s) : Env0 X.prog X.w X.K X.mg X.base X.A X.stack s H :=
  ⟨I.ok.frames, I.ok.mod, I.bs, Nat.le_trans I.ok.bsz I.sz, I.stack, I.stkFree, I.hok, I.bare⟩
/-- behind a call -/
theorem Inv.after {Q : VK} {u : Value} (I : Inv X pins σ H s) (h : CE X.stack X.prog X.w H s Q u s') : EP X pins σ Q u s' := by
  obtain ⟨v, H', os, bare, un, hok, r, q⟩ := h
  obtain ⟨hh, g, d, t, os'⟩ := s'
  obtain rfl : os' = s.os := os
  exact ⟨v, H', I.call (h' := hh) (g' := g) (d' := d) (t' := t) (ch := []) un hok bare (fun b z => absurd z (by simp)), r, q⟩
end

/-! ### calls -/
/-- f(..): the written arguments, then the defaults dvs; E: what is wanted of an exception -/
def tCall (sp : Sp) (dvs : List V) (E : XK) (t : TA) : TE := fun σ H Q => t σ H fun vs H1 => sp (vs ++ dvs) H1 Q E
/-- o.m(..) of an instance of the class at C -/
def tMeth (C : Addr) (m : Str) (sp : Sp) (dvs : List V) (E : XK) (ta : TE) (t : TA) : TE := fun σ H Q => ta σ H fun x H1 => ∃ a dx fs, x = .ref a ∧ H1 a = some (.ins C dx fs) ∧ fs.lookup m = none ∧
  t σ H1 fun vs H2 => sp (x :: (vs ++ dvs)) H2 Q E
/-- C(..): a new instance and its dict, then __init__ -/
def tMake (C : Addr) (sp : Sp) (dvs : List V) (E : XK) (t : TA) : TE := fun σ H Q => t σ H fun vs H1 => ∀ x dx, H1 x = none → H1 dx = none → dx ≠ x →
  sp (.ref x :: (vs ++ dvs)) (upd (upd H1 dx (.own x)) x (.ins C dx [])) (fun v H2 => v = .non ∧ Q (.ref x) H2) E

/-- how the parameters are bound: us the positional arguments, kw the keywords' values by name, ds the defaults that fill up -/
def Binds (K : PySem.W.Frag) (fd : FuncData) (ps : List Str) (ds : List Value) : Prop :=
  ∀ (s : Shared) (us : List Value), K.In s.heap → (us ++ ds).length = ps.length → BindsTo s fd ⟨us, []⟩ (ps.zip (us ++ ds))
/-- every parameter is given -/
theorem Binds.all {K : PySem.W.Frag} {fd : FuncData} {ps : List Str} (h : ∀ us : List Value, us.length = ps.length → bindArgs fd ⟨us, []⟩ = pure (ps.zip us)) : Binds K fd ps [] := fun s us _ hl => by
  rw [List.append_nil] at hl ⊢
  exact .of_eq (h us hl)

/-- an exception of a callee reaches what this body wants of exceptions -/
def Passes (CX : CXT) (X : Cx) (E : XK) : Prop := ∀ (pins : List (Addr × Obj)) (σ : St) (H : Hp) (s : Shared) (e : Value) (s' : Shared), Inv X pins σ H s → CX X.stack H s E e s' → X.xe e s'

section
variable {X : Cx} {CX : CXT} {k : Nat} {f C : Addr} {fd : FuncData} {ps : List Str} {sp : Sp} {dvs : List V} {ds : List Value} {E : XK} {x m : Str} {p pos apos : Pos} {e o : Expr} {es : List Expr} {ta : TE} {t : TA}

/-- the callee runs -/
theorem run_fn {pins : List (Addr × Obj)} {σ : St} {H : Hp} {s : Shared} {Q : VK} {us : List Value} {vs : List V} (F : FnOk X.prog X.w X.K X.mg X.base CX k f fd ps sp) (hr : Room k X.A) (hb : Binds X.K fd ps ds) (hd : Vals dvs ds) (hx : Passes CX X E)
    (I : Inv X pins σ H s) (r : Vals vs us) (h : sp (vs ++ dvs) H Q E) : wpAny (model X.prog X.w) X.A (call (.ref f) us) (EP X pins σ Q) X.xe s := by
  have r2 : Vals (vs ++ dvs) (us ++ ds) := r.append hd
  have hl : (us ++ ds).length = ps.length := by rw [← r2.length]; exact F.len _ _ _ _ h
  refine wpAny_call (codeAny_mono (F.run X.A X.stack s H ⟨us, []⟩ (us ++ ds) (vs ++ dvs) Q E hr I.env0 (hb s us I.kIn hl) r2 h) fun r s' hq => ?_)
  cases r with
  | error e => exact hx pins σ H s e s' I hq
  | ok fl =>
    cases fl with
    | ret u => exact I.after hq
    | next => exact False.elim hq
    | brk => exact False.elim hq
    | cont => exact False.elim hq

theorem pe_call (F : FnOk X.prog X.w X.K X.mg X.base CX k f fd ps sp) (hr : Room k X.A) (hg : Gl X x) (hm : X.mg x = some (.ref f)) (hk : PySem.W.keepIn X.K (.ref f) = true) (hb : Binds X.K fd ps ds) (hd : Vals dvs ds) (hx : Passes CX X E)
    (ha : PA X (e :: es) t) (hdb : (x == ("__debug__" : Str)) = false := by decide) (he : starEach (e :: es) X.env = (false, eval e X.env) :: starEach es X.env := by rfl) (hpl : (backTo pos (starEach es X.env)).any (·.1) = false := by rfl) :
    PE X (.Call (.Name x p) (e :: es) [] pos) (tCall sp dvs E t) := by
  intro pins s σ H Q I h
  refine wpAny_Call_Name_kw (ld_glob I hg hm ?_ hdb)
  refine PySem.W.callWith_K (h₀ := X.base) I.ok.mod.kin hk (thn (ha pos pins s σ H _ I h) fun us s1 ⟨vs, H1, I1, r, q⟩ => ⟨I1.kIn, ?_⟩) he hpl
  exact run_fn F hr hb hd hx I1 r q


/-- what a class must have to be made -/
structure Mk (K : PySem.W.Frag) (C f : Addr) : Prop where
  makes : PySem.W.makesIn K C = true
  init : PySem.W.findIn K (.ref C) "__init__" = some (some (.ref f))
  fn : PySem.W.isFn K (.ref f) = true
  kp : PySem.W.keepIn K (.ref C) = true

end

/-! ### keywords -/
/-- the values of the keywords, from the left -/
def PK (X : Cx) (kws : List Keyword) (t : TA) : Prop :=
  ∀ (pos : Pos) (pins : List (Addr × Obj)) (s : Shared) (σ : St) (H : Hp) (Q : List V → Hp → Prop), Inv X pins σ H s → t σ H Q → wpAny (model X.prog X.w) X.A (evalAll ((backToKw pos (keywordEach kws X.env)).map (·.2))) (AP X pins σ Q) X.xe s
section
variable {X : Cx} {CX : CXT} {k : Nat} {f C : Addr} {fd : FuncData} {ps ks : List Str} {sp : Sp} {E : XK} {x m : Str} {p pos apos kpos : Pos} {e o : Expr} {es : List Expr} {kws : List Keyword} {te ta : TE} {t tk : TA} {nm : Option Str}

/-- how a call with keywords binds: g puts the positional values us and the keywords' values ws (names ks) in the parameters' order, defaults among them -/
structure KBinds (K : PySem.W.Frag) (fd : FuncData) (ps ks : List Str) (g : List Value → List Value → List Value) (gV : List V → List V → List V) : Prop where
  to : ∀ (s : Shared) (us ws : List Value), K.In s.heap → (g us ws).length = ps.length → BindsTo s fd ⟨us, ks.zip ws⟩ (ps.zip (g us ws))
  rel : ∀ {vs : List V} {us : List Value} {zs : List V} {ws : List Value}, Vals vs us → Vals zs ws → Vals (gV vs zs) (g us ws)
def tCallK (sp : Sp) (gV : List V → List V → List V) (E : XK) (t tk : TA) : TE := fun σ H Q => t σ H fun vs H1 => tk σ H1 fun zs H2 => sp (gV vs zs) H2 Q E
variable {g : List Value → List Value → List Value} {gV : List V → List V → List V}
end

/-! ### a def's body keeps its promise -/
/-- names: the parameters first -/
structure FnScope (N P : List Str) (sc : Scope) : Prop where
  kind : sc.kind = .function
  co : sc.isCoroutine = false
  gen : sc.isGenerator = false
  nd : N.Nodup
  pre : N.take P.length = P
  par : ∀ x ∈ P, sc.names.lookup x = some .local ∨ sc.names.lookup x = some .cell
  nofree : ∀ y ∈ sc.names, y.2 ≠ .free

theorem bindL_out {kindOf : Str → Option NameKind} {x : Str} : ∀ {binds : List (Str × Value)} {m : Str → Option Value}, (∀ v, (x, v) ∉ binds) → bindL kindOf binds m x = m x
  | [], _, _ => rfl
  | (n, v) :: r, m, h => by
    unfold bindL
    rw [bindL_out fun w hw => h w (List.mem_cons_of_mem _ hw)]
    split
    · have : x ≠ n := by rintro rfl; exact h v List.mem_cons_self
      simp [this]
    · rfl
theorem bindC_out {kindOf : Str → Option NameKind} {x : Str} : ∀ {binds : List (Str × Value)} {m : Str → Option Value}, (∀ v, (x, v) ∉ binds) → bindC kindOf binds m x = m x
  | [], _, _ => rfl
  | (n, v) :: r, m, h => by
    unfold bindC
    rw [bindC_out fun w hw => h w (List.mem_cons_of_mem _ hw)]
    split
    · rfl
    · have : x ≠ n := by rintro rfl; exact h v List.mem_cons_self
      simp [this]
theorem bindL_get {kindOf : Str → Option NameKind} {x : Str} {v : Value} : ∀ {P : List Str} {vs : List Value} {i : Nat} {m : Str → Option Value}, P.Nodup → P[i]? = some x → vs[i]? = some v → kindOf x = some .local →
    bindL kindOf (P.zip vs) m x = some v
  | [], _, _, _, _, h, _, _ => by simp at h
  | _ :: _, [], _, _, _, _, h, _ => by simp at h
  | p :: P, w :: vs, 0, m, nd, h1, h2, hk => by
    simp at h1 h2; subst h1; subst h2
    show bindL kindOf ((p, w) :: P.zip vs) m p = _
    unfold bindL
    rw [bindL_out fun v hv => (List.nodup_cons.mp nd).1 (List.of_mem_zip hv).1, if_pos hk]
    simp
  | p :: P, w :: vs, i + 1, m, nd, h1, h2, hk => by
    show bindL kindOf ((p, w) :: P.zip vs) m x = _
    unfold bindL
    exact bindL_get (i := i) (List.nodup_cons.mp nd).2 (by simpa using h1) (by simpa using h2) hk
theorem bindC_get {kindOf : Str → Option NameKind} {x : Str} {v : Value} : ∀ {P : List Str} {vs : List Value} {i : Nat} {m : Str → Option Value}, P.Nodup → P[i]? = some x → vs[i]? = some v → kindOf x ≠ some .local →
    bindC kindOf (P.zip vs) m x = some v
  | [], _, _, _, _, h, _, _ => by simp at h
  | _ :: _, [], _, _, _, _, h, _ => by simp at h
  | p :: P, w :: vs, 0, m, nd, h1, h2, hk => by
    simp at h1 h2; subst h1; subst h2
    show bindC kindOf ((p, w) :: P.zip vs) m p = _
    unfold bindC
    rw [bindC_out fun v hv => (List.nodup_cons.mp nd).1 (List.of_mem_zip hv).1, if_neg hk]
    simp
  | p :: P, w :: vs, i + 1, m, nd, h1, h2, hk => by
    show bindC kindOf ((p, w) :: P.zip vs) m x = _
    unfold bindC
    exact bindC_get (i := i) (List.nodup_cons.mp nd).2 (by simpa using h1) (by simpa using h2) hk

/-- the names' values at the entry -/
def start (N : List Str) (vs : List V) : St := vs.map some ++ List.replicate (N.length - vs.length) none

/-- the context of a def's body, at its entry; an exception leaves the frame, then lies as CX says -/
def cxOf (CX : CXT) (P : Program) (w : World) (K : PySem.W.Frag) (mg : Str → Option Value) (base : Heap) (N : List Str) (qual : Str) (scope : Scope) (f : Addr) (cd : Value) (A : Around) (outer : List Env) (s : Shared) (H : Hp) (E : XK) : Cx where
  prog := P
  w := w
  K := K
  mg := mg
  base := base
  A := A.deeper (envOfC qual scope s.heap.objs.size f cd)
  N := N
  s₀ := s
  H₀ := H
  env := envOfC qual scope s.heap.objs.size f cd
  outer := outer
  stack := envOfC qual scope s.heap.objs.size f cd :: outer
  ex := []
  calm := true
  fn := fun _ => true
  pn := []
  xe := fun e s' => wpAny (model P w) (A.deeper (envOfC qual scope s.heap.objs.size f cd)) (leaving (envOfC qual scope s.heap.objs.size f cd) e) (fun _ s'' => CX outer H s E e s'') (fun e' s'' => CX outer H s E e' s'') s'

theorem cell_has {sc : Scope} {n : Nat} {x : Str} (h : sc.names.lookup x = some .cell) : ∃ c, (cellsFrom n sc.names []).lookup x = some c := by
  have q := PySem.W.cellsFrom_some sc.names n [] (.inl h)
  exact Option.isSome_iff_exists.mp q

theorem inv_start {CX : CXT} {P : Program} {w : World} {K : PySem.W.Frag} {mg : Str → Option Value} {base : Heap} {N ps : List Str} {qual : Str} {scope : Scope} {f : Addr} {cd : Value} {A : Around} {outer : List Env} {s s1 : Shared} {H : Hp} {E : XK} {us : List Value} {vs : List V}
    (S : FnScope N ps scope) (hd : A.handled = none) (e0 : Env0 P w K mg base A outer s H) (hl : vs.length = ps.length) (r : Vals vs us)
    (x : InCallC s s.heap.objs.size (bindL (envOfC qual scope s.heap.objs.size f cd).kindOf (ps.zip us) fun _ => none) (cellsFrom (s.heap.objs.size + 1) scope.names []) (bindC (envOfC qual scope s.heap.objs.size f cd).kindOf (ps.zip us) fun _ => none) s1) :
    Inv (cxOf CX P w K mg base N qual scope f cd A outer s H E) [] (start N vs) H s1 := by
  have hpl : ps.length ≤ N.length := by have := congrArg List.length S.pre; rw [List.length_take] at this; omega
  obtain ⟨h1, tk, rfl, hk⟩ := x.done
  have noA : ∀ b : Addr, b ∉ (cxOf CX P w K mg base N qual scope f cd A outer s H E).ex := fun b z => absurd (show b ∈ ([] : List Addr) from z) (by simp)
  refine ⟨⟨e0.mod, S.kind, rfl, rfl, Nat.le_refl _, fun y z c h1 h2 => ?_, fun y hy => ?_, fun y c _ h => ?_, fun _ => hd, Around.frames_deeper e0.frames, .inr ⟨rfl, rfl⟩, fun b z => absurd z (noA b), e0.bs, e0.bsz, fun b _ _ => noA b, fun b z => absurd z (noA b), e0.funs, e0.frf⟩,
    rfl, e0.bare, Un.kept hk, ⟨_, x.toInCall.ns, fun i y v h1 h2 h3 => ?_⟩, fun y c h => ⟨_, x.cell y c h⟩, e0.hok.fresh (Nat.le_refl _), fun y c h => ?_, fun p hp => absurd (show p ∈ ([] : List (Addr × Obj)) from hp) (by simp), e0.hok.kept hk, ?_⟩
  · exact name_of_addr x.apart (PySem.mem_of_lookup h1) (PySem.mem_of_lookup h2)
  · have hy : scope.names.lookup y = some .cell ∨ scope.names.lookup y = some .free := hy
    rcases hy with hy | hy
    · exact cell_has hy
    · exact absurd rfl (S.nofree _ (PySem.mem_of_lookup hy))
  · exact Nat.le_of_lt (x.above y c (PySem.mem_of_lookup h))
  · have hi : i < vs.length := by
      unfold start at h2
      by_cases hi : i < vs.length
      · exact hi
      · rw [List.getElem?_append_right (by simpa using hi)] at h2
        rw [List.getElem?_replicate] at h2
        split at h2 <;> cases h2
    have ha : vs[i]? = some v := by
      unfold start at h2
      rw [List.getElem?_append_left (by simpa using hi), List.getElem?_map] at h2
      cases e : vs[i]? with
      | none => rw [e] at h2; cases h2
      | some a => rw [e] at h2; cases h2; rfl
    obtain ⟨u, hu, rv⟩ := r.get ha
    have hp : ps[i]? = some y := by
      rw [← S.pre, List.getElem?_take_of_lt (by omega)]; exact h1
    have ndP : ps.Nodup := by rw [← S.pre]; exact S.nd.sublist (List.take_sublist _ _)
    refine ⟨u, rv, ?_⟩
    rcases S.par y (List.mem_of_getElem? hp) with k | k
    · exact .inl ⟨k, bindL_get ndP hp hu k⟩
    · obtain ⟨c, e⟩ := cell_has (n := s.heap.objs.size + 1) k
      refine .inr ⟨.inl k, c, e, ?_⟩
      have q := x.cell y c e
      rw [bindC_get ndP hp hu (by show scope.names.lookup y ≠ _; rw [k]; decide)] at q
      exact q
  · exact e0.hok.fresh (Nat.le_of_lt (x.above y c (PySem.mem_of_lookup h)))
  · unfold start
    show _ = N.length
    rw [List.length_append, List.length_map, List.length_replicate]
    omega

/-- THE RULE: a def (or a method) of the text, by its body. The body's reading t is chosen for each entry; it is run at the parameters' values -/
theorem fn_of {CX : CXT} {P : Program} {w : World} {K : PySem.W.Frag} {mg : Str → Option Value} {base : Heap} {k : Nat} {f : Addr} {name qual : Str} {params : Arguments} {body : List Stmt} {scope : Scope} {dV kV doc pm cdv ct oc : Value} {an od : Option Addr}
    {osl : Array (Option Value)} {N ps : List Str} {sp : Sp} (lk : K.lookup f = some ⟨oc, od, .func (PySem.W.fnOf name qual params body scope dV kV doc pm an cdv ct), osl⟩) (hcd : PySem.W.codeIn K cdv qual = true) (S : FnScope N ps scope)
    (len : ∀ vs H Q E, sp vs H Q E → vs.length = ps.length)
    (hbody : ∀ (A : Around) (outer : List Env) (s : Shared) (H : Hp) (vs : List V) (Q : VK) (E : XK), Room k (A.deeper (envOfC qual scope s.heap.objs.size f cdv)) → sp vs H Q E →
      ∃ t, PSs (cxOf CX P w K mg base N qual scope f cdv A outer s H E) body t ∧ t { nx := fun _ H' => Q .non H', rt := Q } (start N vs) H) :
    FnOk P w K mg base CX (k + 1) f (PySem.W.fnOf name qual params body scope dV kV doc pm an cdv ct) ps sp := by
  refine ⟨len, fun A outer s H args us vs Q E hr e0 hb r hsp => ?_⟩
  have hl := len _ _ _ _ hsp
  have KX : K.In s.heap := e0.mod.kin.keeps fun b o e => (e0.bs b o e).1
  have lim : s.heap.NoLimit := e0.mod.nolimit.keeps fun b o e => (e0.bs b o e).1
  have hkind : ∀ y ∈ ps.zip us, scope.names.lookup y.1 = some .local ∨ (scope.names.lookup y.1 = some .cell ∧ ((cellsFrom (s.heap.objs.size + 1) scope.names []).lookup y.1).isSome = true) := fun ⟨n, v⟩ hy => by
    rcases S.par n (List.of_mem_zip hy).1 with q | q
    · exact .inl q
    · exact .inr ⟨q, PySem.W.cellsFrom_some _ _ _ (.inl q)⟩
  refine codeAny_call_function hr.depth (KX _ _ lk) rfl S.co S.gen rfl (PySem.W.codeRec_of KX hcd) (hb _ _ _ _ ?_)
  refine wpAny_newFunctionEnv_cells S.kind hkind fun env he s1 x => ?_
  subst he
  refine ⟨lim.keeps x.toInCall.keep, codeAny_func ?_⟩
  obtain ⟨t, ht, hq⟩ := hbody A outer s H vs Q E (hr.deeper _) hsp
  have I : Inv (cxOf CX P w K mg base N qual scope f cdv A outer s H E) [] (start N vs) H s1 := inv_start S hr.hd e0 hl r x
  refine wpAny_mono (ht [] s1 (start N vs) H _ I hq) (fun fl s' hs => ?_) fun e s' hs => hs
  have fin : ∀ {σ' : St} {H' : Hp} {v : V} {u : Value}, Inv (cxOf CX P w K mg base N qual scope f cdv A outer s H E) [] σ' H' s' → RelV v u → Q v H' → CE outer P w H s Q u s' :=
    fun {σ' H' v u} J rv q => ⟨v, H', J.os, J.bare, J.base, J.hok, rv, q⟩
  cases fl with
  | ret u =>
    obtain ⟨v, σ', H', J, rv, q⟩ := hs
    exact fin J rv q
  | next =>
    obtain ⟨σ', H', J, q⟩ := hs
    exact fin (v := V.non) (u := Value.none) J rfl q
  | brk =>
    obtain ⟨_, _, _, q⟩ := hs
    exact False.elim q
  | cont =>
    obtain ⟨_, _, _, q⟩ := hs
    exact False.elim q
end L2

namespace L2
open PySem PySem.Spec PyProof.Rows
section
variable {X : Cx} {x : Str} {p pos : Pos} {e : Expr} {es : List Expr} {t : TA} {id T : String} {r : List V → Hp → VK → Prop}

def tCB (r : List V → Hp → VK → Prop) (t : TA) : TE := fun σ H Q => t σ H fun vs H1 => r vs H1 Q
/-- f(e, ..), f a built-in function -/
theorem pe_callB (hc : CallR X (.builtin id) r) (hg : Gl X x) (hm : X.mg x = none) (hv : bootBuiltins x = some (.builtin id)) (ha : PA X (e :: es) t) (hn : x ≠ "__name__" := by decide) (hdb : (x == ("__debug__" : Str)) = false := by decide)
    (he : starEach (e :: es) X.env = (false, eval e X.env) :: starEach es X.env := by rfl) (hpl : (backTo pos (starEach es X.env)).any (·.1) = false := by rfl) : PE X (.Call (.Name x p) (e :: es) [] pos) (tCB r t) := by
  intro pins s σ H Q I h
  refine wpAny_Call_Name_kw (ld_blt I hg hm hv ?_ hn hdb)
  exact PyProof.Rows.callWith_builtin1 (thn (ha pos pins s σ H _ I h) fun us s1 ⟨vs, H1, I1, r1, q1⟩ => hc pins s1 σ H1 vs us Q I1 r1 q1) he hpl
/-- T(e, ..), T a built-in type -/
theorem pe_callTy (hc : CallR X (.type T) r) (hg : Gl X x) (hm : X.mg x = none) (hv : bootBuiltins x = some (.type T)) (ha : PA X (e :: es) t) (hn : x ≠ "__name__" := by decide) (hdb : (x == ("__debug__" : Str)) = false := by decide)
    (he : starEach (e :: es) X.env = (false, eval e X.env) :: starEach es X.env := by rfl) (hpl : (backTo pos (starEach es X.env)).any (·.1) = false := by rfl) : PE X (.Call (.Name x p) (e :: es) [] pos) (tCB r t) := by
  intro pins s σ H Q I h
  refine wpAny_Call_Name_kw (ld_blt I hg hm hv ?_ hn hdb)
  exact PyProof.Rows.callWith_type1 (thn (ha pos pins s σ H _ I h) fun us s1 ⟨vs, H1, I1, r1, q1⟩ => hc pins s1 σ H1 vs us Q I1 r1 q1) he hpl
end
end L2

namespace HT
open PySem PyProof.Rows

/-- t < u of tuples of ints -/
def lexLt : List Int → List Int → Bool
  | [], [] => false
  | [], _ :: _ => true
  | _ :: _, [] => false
  | x :: xs, y :: ys => if x = y then lexLt xs ys else decide (x < y)
theorem lexLt_cons (x y : Int) (xs ys : List Int) : lexLt (x :: xs) (y :: ys) = if x = y then lexLt xs ys else decide (x < y) := rfl
theorem lexLt_nil_nil : lexLt [] [] = false := rfl
theorem lexLt_nil_cons (y : Int) (ys : List Int) : lexLt [] (y :: ys) = true := rfl
theorem lexLt_cons_nil (x : Int) (xs : List Int) : lexLt (x :: xs) [] = false := rfl

theorem eqAt_int (A : Around) (s : Shared) (a : Int) (t : Tok) (c : Int) (u : Tok) : ∃ e, SeqAt.EqAt A s (.int a t) (.int c u) e ∧ (e = true ↔ a = c) :=
  ⟨(a == c), SeqAt.EqAt.int_int a t c u, by simp⟩
theorem rcLt_int (A : Around) (s : Shared) (a : Int) (t : Tok) (c : Int) (u : Tok) (prog : Program) (w : World) (E : Value → Shared → Prop) (Q : Value → Shared → Prop) (h : Q (.bool (decide (a < c))) s) :
    wpAny (model prog w) A (richCompare .Lt (.int a t) (.int c u)) Q E s :=
  (PyProof.Rows.lt_int h : wpAny (model prog w) A (compareOp .Lt (.int a t) (.int c u)) Q E s)

section
open PySem.SeqAt
open PySem.AutoSeq1 (wpAny_loadPart')
open PySem.MeetsSeq PySem.MeetsSeq2 PySem.MeetsSeq3

theorem tuple_lt_ints (l b : Addr) (items items2 : Array Value) (n n2 : Nat) (dd dd2 : Option Addr) (sl sl2 : Array (Option Value)) (ns ms : List Int) (hi : IntsAre items.toList ns) (hj : IntsAre items2.toList ms) :
    Meets (Builtin.«tuple.__lt__» ⟨[.ref l, .ref b], []⟩)
      (fun _ R s => s.heap.get? l = some { cls := .type "tuple", dict := dd, data := .seq items n, slots := sl } ∧ s.heap.get? b = some { cls := .type "tuple", dict := dd2, data := .seq items2 n2, slots := sl2 } ∧
        R (.ok (.ret (.bool (lexLt ns ms)))) s) :=
  .of_wp fun prog w A R s h => by
    obtain ⟨hp, g, d, tk, os⟩ := s; obtain ⟨hl, hb, h⟩ := h
    have f2 := AutoSeq1.sub_tuple_tuple
    have z1 : items.size = ns.length := by rw [← hi.length]; simp
    have z2 : items2.size = ms.length := by rw [← hj.length]; simp
    wp_walk using wpAny_loadPart' hl, wpAny_loadPart' hb, wpAny_forIn_list _ (fun rest b s' => b.1 = none ∧ s' = ⟨hp, g, d, tk, os⟩ ∧ ∃ (vs ws : List Value) (ns' ms' : List Int), rest = vs.zip ws ∧
      IntsAre vs ns' ∧ IntsAre ws ms' ∧ ns'.length + items2.size = ms'.length + items.size ∧ R (.ok (.ret (.bool (lexLt ns' ms')))) ⟨hp, g, d, tk, os⟩) _
    case turn =>
      rintro ⟨y, x⟩ rest b s' ⟨hb', rfl, vs, ws, ns', ms', hz, hvi, hwi, hlen, hR⟩
      cases hvi with
      | nil => rw [List.zip_nil_left] at hz; cases hz
      | cons a t hvi' =>
        cases hwi with
        | nil => rw [List.zip_nil_right] at hz; cases hz
        | cons c u hwi' =>
          rw [List.zip_cons_cons] at hz
          injection hz with hyx hrest
          injection hyx with hy hx
          subst hy hx
          rw [lexLt_cons] at hR
          simp only [List.length_cons] at hlen
          obtain ⟨e, he, hiff⟩ := eqAt_int A.in1 ⟨hp, g, d, tk, os⟩ a t c u
          refine wpAny_bind (he prog w _ _ ?_)
          cases e with
          | true =>
            rw [if_pos (hiff.mp rfl)] at hR
            wp_walk
            exact ⟨rfl, rfl, _, _, _, _, hrest, hvi', hwi', by omega, hR⟩
          | false =>
            rw [if_neg (fun q => absurd (hiff.mpr q) Bool.false_ne_true)] at hR
            have hri := rcLt_int A.in1 ⟨hp, g, d, tk, os⟩ a t c u prog w
            wp_walk using hri
            exact ⟨_, rfl, by simpa using hR⟩
    case fin =>
      rintro ⟨b1, b2⟩ s' ⟨hb', rfl, vs, ws, ns', ms', hz, hvi, hwi, hlen, hR⟩
      simp only at hb'
      subst hb'
      have hv : lexLt ns' ms' = decide (items.size < items2.size) := by
        cases hvi with
        | nil =>
          cases hwi with
          | nil =>
            simp only [List.length_nil] at hlen
            rw [lexLt_nil_nil]
            exact (decide_eq_false (by omega)).symm
          | cons c u hw =>
            simp only [List.length_nil, List.length_cons] at hlen
            rw [lexLt_nil_cons]
            exact (decide_eq_true (by omega)).symm
        | cons a t hv =>
          cases hwi with
          | nil =>
            simp only [List.length_nil, List.length_cons] at hlen
            rw [lexLt_cons_nil]
            exact (decide_eq_false (by omega)).symm
          | cons c u hw =>
            rw [List.zip_cons_cons] at hz
            cases hz
      rw [hv] at hR
      wp_walk
      exact ⟨_, rfl, by simpa [Builtin.Tuple.tupleCompareSizes] using hR⟩
    case h =>
      exact ⟨rfl, rfl, items.toList, items2.toList, ns, ms, rfl, hi, hj, by omega, h⟩
end

section
variable {prog : Program} {w : World} {A : Around} {E : Value → Shared → Prop} {s : Shared}

theorem lt_tupInts {l b : Addr} {items items2 : Array Value} {ns ms : List Int} {Q : Value → Shared → Prop} (hl : IsTup s.heap l items) (hb : IsTup s.heap b items2) (hi : IntsAre items.toList ns) (hj : IntsAre items2.toList ms)
    (hu : A.units < cLine) (h : Q (.bool (lexLt ns ms)) s) : wpAny (model prog w) A (compareOp .Lt (.ref l) (.ref b)) Q E s := by
  obtain ⟨⟨cls, dd, data, sl⟩, ho, hc, n, hd⟩ := id hl
  obtain ⟨⟨cls2, dd2, data2, sl2⟩, ho2, hc2, n2, hd2⟩ := id hb
  simp only at hc hd hc2 hd2
  subst hc hd hc2 hd2
  exact richCompare_meets_room (op := .Lt) ⟨_, ho, rfl⟩ ⟨_, ho2, rfl⟩ PySem.F.slot_tuple_lt PySem.F.entry_tuple_lt (PySem.F.args_tuple_lt_2 _ _) (tuple_lt_ints l b items items2 n n2 dd dd2 sl sl2 ns ms hi hj)
    ⟨ho, ho2, show Value.bool (lexLt ns ms) ≠ Value.notImplemented ∧ Q (.bool (lexLt ns ms)) s from ⟨(fun x => nomatch x), h⟩⟩ hu


/-! ### t[a:b], not the whole -/
/-- a slice's bound as a place among n (d where it is left out) -/
def sIx (n d : Nat) : Option Int → Nat
  | none => d
  | some v => if v < 0 then (v + (n : Int)).toNat else min v.toNat n

end
end HT

namespace L2
open PySem PySem.Spec PyProof.Rows

/-! ### the parts of a slice -/
abbrev TO := St → Hp → (Option Int → Hp → Prop) → Prop
/-- a slice's part (left out, or an int) -/
def PO (X : Cx) (e : Option Expr) (t : TO) : Prop :=
  ∀ (pins : List (Addr × Obj)) (s : Shared) (σ : St) (H : Hp) (Q : Option Int → Hp → Prop), Inv X pins σ H s → t σ H Q →
    wpAny (model X.prog X.w) X.A (evalPart e X.env) (fun u s' => ∃ o H', Inv X pins σ H' s' ∧ IsPart u o ∧ Q o H') X.xe s
def tNoPart : TO := fun _ H Q => Q none H
def tPart (t : TE) : TO := fun σ H Q => t σ H fun x H1 => ∃ i, x = .int i ∧ Q (some i) H1

theorem intsAre_of {ns : List Int} : ∀ {us : List Value}, Vals (ns.map V.int) us → IntsAre us ns := by
  induction ns with
  | nil => intro us r; rw [List.map_nil] at r; cases r; exact .nil
  | cons n ns ih =>
    intro us r
    rw [List.map_cons] at r
    cases r with
    | cons r1 r2 =>
      obtain ⟨t, e⟩ := r1
      subst e
      exact .cons n t (ih r2)

section
variable {X : Cx} {e : Expr} {te : TE} {lo hi : Option Expr} {tl th : TO} {pos p2 : Pos}


/-- what a slice of a value is, by values: the slice object stands at sl -/
def SlR (X : Cx) (r : V → Option Int → Option Int → Hp → VK → Prop) : Prop :=
  ∀ (pins : List (Addr × Obj)) (s : Shared) (σ : St) (H : Hp) (x : V) (v vl vu : Value) (lo hi : Option Int) (sl : Addr) (Q : VK), Inv X pins σ H s → RelV x v → s.heap.IsSliceOf sl vl vu .none → IsPart vl lo → IsPart vu hi → r x lo hi H Q →
    ∃ T id, typeLookup (.type T) "__getitem__" = pure (some (.builtin id)) ∧ s.TypeIs v T ∧ wpAny (model X.prog X.w) X.A (getItem v (.ref sl)) (EP X pins σ Q) X.xe s
theorem SlR.or {r r' : V → Option Int → Option Int → Hp → VK → Prop} (h : SlR X r) (h' : SlR X r') : SlR X (fun x lo hi H Q => r x lo hi H Q ∨ r' x lo hi H Q) := by
  intro pins s σ H x v vl vu lo hi sl Q I rx hs pl pu q
  rcases q with q | q
  · exact h pins s σ H x v vl vu lo hi sl Q I rx hs pl pu q
  · exact h' pins s σ H x v vl vu lo hi sl Q I rx hs pl pu q
def tSl (r : V → Option Int → Option Int → Hp → VK → Prop) (te : TE) (tl th : TO) : TE := fun σ H Q => te σ H fun x H1 => tl σ H1 fun l H2 => th σ H2 fun u H3 => r x l u H3 Q

/-- the items of xs[lo:hi] -/
def cutV (xs : List V) (lo hi : Option Int) : List V := (xs.drop (HT.sIx xs.length 0 lo)).take (HT.sIx xs.length xs.length hi - HT.sIx xs.length 0 lo)
/-- t[lo:hi], not the whole of it (the whole would be t itself) -/
def rSlT (K : PySem.W.Frag) : V → Option Int → Option Int → Hp → VK → Prop := fun x lo hi H Q => ∃ a xs, x = .ref a ∧ SqT K H a xs ∧
  ¬ (HT.sIx xs.length 0 lo = 0 ∧ HT.sIx xs.length xs.length hi = xs.length) ∧ ∀ p, H p = none → Q (.ref p) (upd H p (.tup (cutV xs lo hi)))

/-! ### t < u, t + u -/
def rLtT (K : PySem.W.Frag) : R2 := fun x y H Q => ∃ a b ns ms, x = .ref a ∧ y = .ref b ∧ SqT K H a (ns.map V.int) ∧ SqT K H b (ms.map V.int) ∧ Q (.bl (HT.lexLt ns ms)) H
theorem op_ltT (hu : X.A.units < cLine) : OpR X (compareOp .Lt) (rLtT X.K) := by
  intro pins s σ H x y v u Q I rx ry h
  obtain ⟨a, b, ns, ms, rfl, rfl, ha, hb, q⟩ := h
  cases rx
  cases ry
  obtain ⟨its, r1, p1, _⟩ := I.tuple ha
  obtain ⟨its2, r2, p2, _⟩ := I.tuple hb
  have i1 : IntsAre its.toArray.toList ns := intsAre_of r1
  have i2 : IntsAre its2.toArray.toList ms := intsAre_of r2
  exact HT.lt_tupInts p1 p2 i1 i2 hu ⟨.bl (HT.lexLt ns ms), H, I, rfl, q⟩
/-- t + u, t not empty: u empty gives t itself -/
def rCatT (K : PySem.W.Frag) : R2 := fun x y H Q => ∃ a b xs ys, x = .ref a ∧ y = .ref b ∧ SqT K H a xs ∧ SqT K H b ys ∧ xs ≠ [] ∧ xs.length + ys.length ≤ sizeLine ∧
  (ys = [] → Q (.ref a) H) ∧ (ys ≠ [] → ∀ p, H p = none → Q (.ref p) (upd H p (.tup (xs ++ ys))))
end
end L2

namespace L2
open PySem PySem.Spec PyProof.Rows

/-! ### places -/
/-- the place that an index of any sign means -/
def ixN (n : Nat) (i : Int) : Option Nat := if 0 ≤ i then (if i < n then some i.toNat else none) else if -(n : Int) ≤ i then some (i + n).toNat else none
def atI {α : Type} (xs : List α) (i : Int) : Option α := (ixN xs.length i).bind fun j => xs[j]?
theorem ixN_seq {n : Nat} {i : Int} {j : Nat} (h : ixN n i = some j) : seqIndex? i n = some j ∧ j < n ∧ -(n : Int) ≤ i ∧ i < n := by
  unfold ixN at h
  by_cases h0 : 0 ≤ i
  · rw [if_pos h0] at h
    by_cases h1 : i < n
    · rw [if_pos h1] at h
      have e : i.toNat = j := Option.some.inj h
      exact ⟨by rw [seqIndex_of h0 h1, e], by omega, by omega, h1⟩
    · rw [if_neg h1] at h; cases h
  · rw [if_neg h0] at h
    by_cases h1 : -(n : Int) ≤ i
    · rw [if_pos h1] at h
      have e : (i + n).toNat = j := Option.some.inj h
      exact ⟨by rw [seqIndex_neg (by omega) h1, e], by omega, h1, by omega⟩
    · rw [if_neg h1] at h; cases h
theorem atI_get {α : Type} {xs : List α} {i : Int} {v : α} (h : atI xs i = some v) : ∃ j, seqIndex? i xs.length = some j ∧ xs[j]? = some v ∧ j < xs.length ∧ -(xs.length : Int) ≤ i ∧ i < xs.length := by
  unfold atI at h
  cases e : ixN xs.length i with
  | none => rw [e] at h; cases h
  | some j =>
    rw [e] at h
    obtain ⟨h1, h2, h3, h4⟩ := ixN_seq e
    exact ⟨j, h1, h, h2, h3, h4⟩
theorem atI_nat {α : Type} {xs : List α} {j : Nat} {v : α} (h : xs[j]? = some v) : atI xs (j : Int) = some v := by
  have hj : j < xs.length := (List.getElem?_eq_some_iff.mp h).1
  have e : ixN xs.length (j : Int) = some j := by
    unfold ixN
    rw [if_pos (by omega), if_pos (by omega)]; simp
  unfold atI; rw [e]; exact h

/-! ### what may be subscripted -/
/-- what stands as an index of a plain subscript -/
def PlainIx (b : Expr) : Prop := ∀ o i, subscripted b false o i = operate [o, i] (getItem o i)
/-- a subscript by values -/
def IxR (X : Cx) (r : R2) : Prop :=
  ∀ (value slice : Expr) (pins : List (Addr × Obj)) (s : Shared) (σ : St) (H : Hp) (x y : V) (v u : Value) (Q : VK), Inv X pins σ H s → RelV x v → RelV y u → r x y H Q →
    subscripted slice false v u = operate [v, u] (getItem v u) → wpAny (model X.prog X.w) X.A (subscriptTail value slice v u) (EP X pins σ Q) X.xe s
/-- a call of a builtin's method by values: the receiver, the arguments -/
def MtR (X : Cx) (id : String) (r : V → List V → Hp → VK → Prop) : Prop :=
  ∀ (pins : List (Addr × Obj)) (s : Shared) (σ : St) (H : Hp) (x : V) (xs : List V) (v : Value) (us : List Value) (Q : VK), Inv X pins σ H s → RelV x v → Vals xs us → r x xs H Q →
    wpAny (model X.prog X.w) X.A (call (.builtin id) (v :: us)) (EP X pins σ Q) X.xe s
section
variable {X : Cx} {a b : Expr} {ta tb : TE} {pos : Pos}
theorem IxR.or {r r' : R2} (h : IxR X r) (h' : IxR X r') : IxR X (fun x y H Q => r x y H Q ∨ r' x y H Q) := by
  intro value slice pins s σ H x y v u Q I rx ry q hs
  rcases q with q | q
  · exact h value slice pins s σ H x y v u Q I rx ry q hs
  · exact h' value slice pins s σ H x y v u Q I rx ry q hs
theorem MtR.or {id : String} {r r' : V → List V → Hp → VK → Prop} (h : MtR X id r) (h' : MtR X id r') : MtR X id (fun x xs H Q => r x xs H Q ∨ r' x xs H Q) := by
  intro pins s σ H x xs v us Q I rx rs q
  rcases q with q | q
  · exact h pins s σ H x xs v us Q I rx rs q
  · exact h' pins s σ H x xs v us Q I rx rs q
/-- a[b] -/
theorem pe_ix {r : R2} (hr : IxR X r) (ha : PE X a ta) (hb : PE X b tb) (hs : PlainIx b) : PE X (.Subscript a b pos) (tOp r ta tb) := by
  intro pins s σ H Q I h
  exact Subscript_ (binT ha hb I h fun v u s2 x y H2 I2 rx ry q => hr a b pins s2 σ H2 x y v u Q I2 rx ry q (hs _ _))

def rIxL (K : PySem.W.Frag) : R2 := fun x y H Q => ∃ p xs i v, x = .ref p ∧ y = .int i ∧ SqL K H p xs ∧ atI xs i = some v ∧ Q v H
def rIxT (K : PySem.W.Frag) : R2 := fun x y H Q => ∃ p xs i v, x = .ref p ∧ y = .int i ∧ SqT K H p xs ∧ atI xs i = some v ∧ Q v H
def rIxS : R2 := fun x y H Q => ∃ z i c, x = .str z ∧ y = .int i ∧ z.length ≤ sizeLine ∧ atI z.cps.toList i = some c ∧ Q (.str ⟨#[c]⟩) H
theorem ix_list : IxR X (rIxL X.K) := by
  intro value slice pins s σ H x y v u Q I rx ry h hs
  obtain ⟨p, xs, i, z, rfl, rfl, hq, he, q⟩ := h
  cases rx
  obtain ⟨t, rfl⟩ := ry
  obtain ⟨its, r, pl, hz⟩ := I.list hq
  obtain ⟨j, h1, h2, h3, h4, h5⟩ := atI_get he
  obtain ⟨w, ew, rw'⟩ := r.get h2
  have hl := r.length
  have hn := line63
  have fin : EP X pins σ Q w s := ⟨z, H, I, rw', q⟩
  by_cases h0 : 0 ≤ i
  · have hj : i.toNat = j := by
      rw [seqIndex_of h0 h5] at h1
      exact Option.some.inj h1
    exact item_listR pl.isList h0 (by omega) (by rw [hj]; simpa using ew) fin hs
  · have hj : (i + (its.toArray.size : Int)).toNat = j := by
      rw [seqIndex_neg (by omega) h4] at h1
      rw [List.size_toArray, ← hl]
      exact Option.some.inj h1
    exact subscriptTail_builtinR (x := w) pl.isList.typeIs slot_list_getitem.lookup
      (wpAny_getItem_list_neg (Q := fun r s' => r = w ∧ EP X pins σ Q r s') pl.isList (by omega) (by rw [List.size_toArray] <;> omega) (by omega) (by rw [hj]; simpa using ew) ⟨rfl, fin⟩) hs
theorem ix_tup : IxR X (rIxT X.K) := by
  intro value slice pins s σ H x y v u Q I rx ry h hs
  obtain ⟨p, xs, i, z, rfl, rfl, hq, he, q⟩ := h
  cases rx
  obtain ⟨t, rfl⟩ := ry
  obtain ⟨its, r, pl, hz⟩ := I.tuple hq
  obtain ⟨j, h1, h2, h3, h4, h5⟩ := atI_get he
  obtain ⟨w, ew, rw'⟩ := r.get h2
  have hl := r.length
  have hn := line63
  have fin : EP X pins σ Q w s := ⟨z, H, I, rw', q⟩
  exact subscriptTail_builtinR (x := w) pl.typeIs slot_tuple_getitem.lookup
    (getItem_tuple (j := j) (Q := fun r s' => r = w ∧ EP X pins σ Q r s') pl (by omega) (by omega) (by rw [List.size_toArray, ← hl]; exact h1) (by simpa using ew) ⟨rfl, fin⟩) hs
/-- list, tuple or str -/
def rIx (K : PySem.W.Frag) : R2 := fun x y H Q => rIxL K x y H Q ∨ rIxT K x y H Q ∨ rIxS x y H Q

/-! ### xs[i] = v, any sign -/
theorem Inv.lst {pins : List (Addr × Obj)} {σ : St} {H : Hp} {s : Shared} {p : Addr} {xs : List V} (I : Inv X pins σ H s) (h : H p = some (.lst xs)) :
    ∃ (its : List Value) (n : Nat), Vals xs its ∧ s.heap.get? p = some { cls := .type "list", data := .seq its.toArray n } ∧ xs.length ≤ sizeLine := by
  obtain ⟨z, its, n, r, e⟩ := I.hok p _ h
  exact ⟨its, n, r, e, z⟩
def rSetL : V → V → V → Hp → (Hp → Prop) → Prop := fun o i v H Q => ∃ p xs k j, o = .ref p ∧ i = .int k ∧ H p = some (.lst xs) ∧ ixN xs.length k = some j ∧ Q (upd H p (.lst (xs.set j v)))

/-! ### slices -/
/-- xs[lo:hi] of a list: a new list -/
def rSlL (K : PySem.W.Frag) : V → Option Int → Option Int → Hp → VK → Prop := fun x lo hi H Q => ∃ a xs, x = .ref a ∧ SqL K H a xs ∧ ∀ p, H p = none → Q (.ref p) (upd H p (.lst (cutV xs lo hi)))

/-! ### in, not in: flat items -/
def flatV : V → Bool
  | .non => true
  | .bl _ => true
  | .int _ => true
  | .str _ => true
  | _ => false
/-- == of flat values -/
def eqV : V → V → Bool
  | .non, .non => true
  | .bl a, .bl b => a == b
  | .bl a, .int b => (if a then 1 else 0) == b
  | .int a, .bl b => a == (if b then 1 else 0)
  | .int a, .int b => a == b
  | .str a, .str b => a == b
  | _, _ => false
/-- the items' answers, read off the values (a value's own answer does not lean on its token) -/
def eqU (x : V) (u : Value) : Bool := match u with
  | .none => eqV .non x
  | .bool b => eqV (.bl b) x
  | .int i _ => eqV (.int i) x
  | .str z _ => eqV (.str z) x
  | _ => false
def inV (x : V) (xs : List V) : Bool := xs.any fun y => eqV y x
/-- x in a list or tuple of flat items -/
def rIn (K : PySem.W.Frag) (neg : Bool) : R2 := fun x y H Q => ∃ p xs, y = .ref p ∧ (SqL K H p xs ∨ SqT K H p xs) ∧ flatV x = true ∧ xs.all flatV = true ∧ Q (.bl (if neg then !inV x xs else inV x xs)) H

/-! ### len, list(x), tuple(x) of any list or tuple that is read -/
theorem call_len_seq : CallR X (.builtin "len") (fun xs H Q => ∃ p ys, xs = [.ref p] ∧ (SqL X.K H p ys ∨ SqT X.K H p ys) ∧ Q (.int ys.length) H) := by
  intro pins s σ H xs us Q I r h
  obtain ⟨p, ys, rfl, hq, q⟩ := h
  obtain ⟨u, rfl, rx⟩ := vals1 r
  cases rx
  have hn := line63
  rcases hq with hq | hq
  · obtain ⟨its, r', pl, hz⟩ := I.list hq
    have hlen := r'.length
    exact Calls.call_len_list pl.isList (by simp only [List.size_toArray] <;> omega) ⟨.int ys.length, H, I.tok _, ⟨s.toks + 1, by rw [List.size_toArray, hlen]⟩, q⟩
  · obtain ⟨its, r', pl, hz⟩ := I.tuple hq
    have hlen := r'.length
    exact len_tuple pl (by simp only [List.size_toArray] <;> omega) ⟨.int ys.length, H, I.tok _, ⟨s.toks + 1, by rw [List.size_toArray, hlen]⟩, q⟩
theorem CallR.or {f : Value} {r r' : List V → Hp → VK → Prop} (h : CallR X f r) (h' : CallR X f r') : CallR X f (fun xs H Q => r xs H Q ∨ r' xs H Q) := by
  intro pins s σ H xs us Q I rs q
  rcases q with q | q
  · exact h pins s σ H xs us Q I rs q
  · exact h' pins s σ H xs us Q I rs q
theorem call_list_of : CallR X (.type "list") (fun xs H Q => ∃ p ys, xs = [.ref p] ∧ (SqL X.K H p ys ∨ SqT X.K H p ys) ∧ ∀ l, H l = none → Q (.ref l) (upd H l (.lst ys))) := by
  intro pins s σ H xs us Q I r h
  obtain ⟨p, ys, rfl, hq, q⟩ := h
  obtain ⟨u, rfl, rx⟩ := vals1 r
  cases rx
  have fin : ∀ (its : List Value), Vals ys its → ys.length ≤ sizeLine → ∀ (h' : Heap) (c' : Nat), (∀ b o', s.heap.get? b = some o' → h'.get? b = some o') →
      h'.get? s.heap.objs.size = some { cls := .type "list", dict := none, data := .seq its.toArray c', slots := #[] } → EP X pins σ Q (.ref s.heap.objs.size) { s with heap := h' } := fun its r' hz h' c' kp e =>
    ⟨.ref s.heap.objs.size, _, I.laid (t' := s.toks) kp (Nat.le_refl _) (show ObjOk X.prog X.w _ h' _ (.lst ys) from ⟨hz, its, c', r', e⟩), rfl, q _ (I.hok.fresh (Nat.le_refl _))⟩
  rcases hq with hq | hq
  · obtain ⟨its, r', pl, hz⟩ := I.list hq
    have hlen := r'.length
    obtain ⟨o, ho, hc, n, hd⟩ := pl.isList
    exact call_list_seq p (.inl rfl) ho hc hd (fun h' c' kp e => fin its r' hz h' c' kp e) (by simp only [List.size_toArray] <;> omega)
  · obtain ⟨its, r', pl, hz⟩ := I.tuple hq
    have hlen := r'.length
    obtain ⟨o, ho, hc, n, hd⟩ := pl
    exact call_list_seq p (.inr rfl) ho hc hd (fun h' c' kp e => fin its r' hz h' c' kp e) (by simp only [List.size_toArray] <;> omega)
theorem call_tuple_of : CallR X (.type "tuple") (fun xs H Q => ∃ p ys, xs = [.ref p] ∧ ((SqL X.K H p ys ∧ ∀ l, H l = none → Q (.ref l) (upd H l (.tup ys))) ∨ (SqT X.K H p ys ∧ Q (.ref p) H))) := by
  intro pins s σ H xs us Q I r h
  obtain ⟨p, ys, rfl, h⟩ := h
  obtain ⟨u, rfl, rx⟩ := vals1 r
  cases rx
  rcases h with ⟨hq, q⟩ | ⟨hq, q⟩
  · obtain ⟨its, r', pl, hz⟩ := I.list hq
    have hlen := r'.length
    refine call_tuple_list pl.isList (fun h' kp => ?_) (by simp only [List.size_toArray] <;> omega)
    have I1 : Inv X pins σ H { s with heap := h' } := I.kept (t' := s.toks) kp
    have I2 : Inv X pins σ (upd H h'.objs.size (.tup ys)) { s with heap := h'.push { cls := .type "tuple", data := .seq its.toArray } } :=
      I1.laid (t' := s.toks) (fun b o e => Heap.get?_push_of_some _ e) (Nat.le_refl _) (show ObjOk X.prog X.w _ _ _ (.tup ys) from ⟨hz, its, r', IsTup.new _ _⟩)
    exact ⟨.ref h'.objs.size, _, I2, rfl, q _ (I1.hok.fresh (Nat.le_refl _))⟩
  · obtain ⟨its, r', pl, hz⟩ := I.tuple hq
    exact call_tuple_same pl ⟨.ref p, H, I, rfl, q⟩

/-! ### the call of a builtin's method: o.m(..) -/
/-- the value is of that builtin type -/
def tyV (K : PySem.W.Frag) (T : String) (x : V) (H : Hp) : Prop := match x with
  | .str _ => T = "str"
  | .int _ => T = "int"
  | .ref p => (T = "list" ∧ ∃ xs, SqL K H p xs) ∨ (T = "tuple" ∧ ∃ o, K.lookup p = some o ∧ o.cls = .type "tuple" ∧ o.dict = none) ∨
      (T = "dict" ∧ ((∃ kvs, H p = some (.dK kvs)) ∨ ∃ kvs, H p = some (.dT kvs))) ∨ (T = "set" ∧ ∃ S n, H p = some (.set S n))
  | _ => False
theorem tyV_is {pins : List (Addr × Obj)} {σ : St} {H : Hp} {s : Shared} {T : String} {x : V} {v : Value} (I : Inv X pins σ H s) (r : RelV x v) (ty : tyV X.K T x H) :
    s.TypeIs v T ∧ ∀ a, v = .ref a → ∃ ob, s.heap.get? a = some ob ∧ ob.dict = none := by
  cases x with
  | str z =>
    obtain ⟨t, rfl⟩ := r
    cases (show T = "str" from ty)
    exact ⟨typeIs_str s z t, fun _ e => nomatch e⟩
  | int i =>
    obtain ⟨t, rfl⟩ := r
    cases (show T = "int" from ty)
    exact ⟨typeIs_int s i t, fun _ e => nomatch e⟩
  | ref p =>
    cases r
    rcases ty with ⟨rfl, xs, hq⟩ | ⟨rfl, o, hk, hc, hd⟩ | ⟨rfl, hk⟩ | ⟨rfl, S, n, hk⟩
    · obtain ⟨its, _, pl, _⟩ := I.list hq
      refine ⟨pl.isList.typeIs, fun a e => ?_⟩
      cases e
      obtain ⟨o, n, e, c, hd, _⟩ := pl
      exact ⟨o, e, hd⟩
    · refine ⟨⟨o, I.kIn p o hk, hc⟩, fun a e => ?_⟩
      cases e
      exact ⟨o, I.kIn _ o hk, hd⟩
    · have z : ∃ o, s.heap.get? p = some o ∧ o.ExactDict := by
        rcases hk with ⟨kvs, hk⟩ | ⟨kvs, hk⟩
        · obtain ⟨_, _, _, _, o, _, _, e, ex, _⟩ := I.hok p _ hk
          exact ⟨o, e, ex⟩
        · obtain ⟨_, _, _, _, o, _, _, e, ex, _⟩ := I.hok p _ hk
          exact ⟨o, e, ex⟩
      obtain ⟨o, e, ex⟩ := z
      refine ⟨⟨o, e, ex.1⟩, fun a e2 => ?_⟩
      cases e2
      exact ⟨o, e, ex.2.1⟩
    · obtain ⟨o, _, _, _, e, ex, _⟩ := I.hok p _ hk
      refine ⟨⟨o, e, ex.1⟩, fun a e2 => ?_⟩
      cases e2
      exact ⟨o, e, ex.2.1⟩
  | _ => exact False.elim ty
def tBM0 (K : PySem.W.Frag) (T : String) (r : V → List V → Hp → VK → Prop) (to : TE) : TE := fun σ H Q => to σ H fun x H1 => tyV K T x H1 ∧ r x [] H1 Q
def tBM (K : PySem.W.Frag) (T : String) (r : V → List V → Hp → VK → Prop) (to : TE) (t : TA) : TE := fun σ H Q => to σ H fun x H1 => tyV K T x H1 ∧ t σ H1 fun xs H2 => r x xs H2 Q
variable {o e : Expr} {es : List Expr} {to : TE} {t : TA} {name : Str} {apos cpos : Pos} {T id : String} {r : V → List V → Hp → VK → Prop}
theorem pe_bm (pa : PlainAttrs T) (slot : Slot T name id) (hty : typeOf (.builtin id) = pure (.type "method_descriptor")) (hm : MtR X id r) (ho : PE X o to) (ha : PA X (e :: es) t)
    (hbase : attributeBase o name X.env (eval o X.env) = eval o X.env := by rfl)
    (hfew : ((backTo cpos (starEach (e :: es) X.env)).all (fun x => !x.1) && (backToKw cpos (keywordEach [] X.env)).all (fun x => x.1.isSome)
      && decide ((e :: es).length + ([] : List Keyword).length + (if ([] : List Keyword).isEmpty then 0 else 1) < 30)) = true := by rfl)
    (hline : (apos.endLine == cpos.line) = true := by rfl) (hs : starEach (e :: es) X.env = (false, eval e X.env) :: starEach es X.env := by rfl) (hplain : (backTo cpos (starEach es X.env)).any (·.1) = false := by rfl) :
    PE X (.Call (.Attribute o name apos) (e :: es) [] cpos) (tBM X.K T r to t) := by
  intro pins s σ H Q I h
  refine wpAny_Call_method_late hbase hfew hline rfl (thn (ho pins s σ H _ I h) fun v s1 ⟨x, H1, I1, r1, ty, q1⟩ => ?_)
  obtain ⟨h1, h2⟩ := tyV_is I1 r1 ty
  refine ⟨T, id, pa, slot, hty, h1, h2, ?_⟩
  have hA := ha cpos pins s1 σ H1 _ I1 q1
  rw [hs] at hA ⊢
  refine Calls.callWith_builtin (by show (false || (backTo cpos (starEach es X.env)).any (·.1)) = false; rw [hplain] <;> rfl) (Calls.evalArgs_plain ?_)
  exact thn hA fun us s2 ⟨vs, H2, I2, r2, q2⟩ => hm pins s2 σ H2 x vs v us Q I2 r1 r2 q2
/- xs.append(e), list.index on a module's tuple .. are MtR facts of 06m -/
end
end L2

namespace L2
open PySem PySem.Spec PyProof.Rows

def MtM (X : Cx) (id : String) (r : V → List V → Hp → VK → Prop) : Prop :=
  ∀ (pins : List (Addr × Obj)) (s : Shared) (σ : St) (H : Hp) (x : V) (xs : List V) (v : Value) (us : List Value) (Q : VK), Inv X pins σ H s → RelV x v → Vals xs us → r x xs H Q →
    wpAny (model X.prog X.w) X.A (call (.builtin id) (v :: us)) (EP X pins σ Q) X.xe s

/-! ### lists of values -/
theorem Vals.one : ∀ {x : V} {us : List Value}, Vals [x] us → ∃ u, us = [u] ∧ RelV x u
  | _, _, .cons r .nil => ⟨_, rfl, r⟩
theorem Vals.two : ∀ {x y : V} {us : List Value}, Vals [x, y] us → ∃ u v, us = [u, v] ∧ RelV x u ∧ RelV y v
  | _, _, _, .cons r (.cons q .nil) => ⟨_, _, rfl, r, q⟩
theorem Vals.zero : ∀ {us : List Value}, Vals [] us → us = []
  | _, .nil => rfl
theorem Vals.dropLast {xs : List V} {us : List Value} (h : Vals xs us) : Vals xs.dropLast us.dropLast := by
  induction h with
  | nil => exact .nil
  | cons r t ih =>
    cases t with
    | nil => exact .nil
    | cons q t' => exact .cons r ih
theorem Vals.eraseIdx : ∀ {xs : List V} {us : List Value} (i : Nat), Vals xs us → Vals (xs.eraseIdx i) (us.eraseIdx i)
  | _, _, _, .nil => .nil
  | _, _, 0, .cons _ t => t
  | _, _, i + 1, .cons r t => .cons r (Vals.eraseIdx i t)
theorem Vals.reverse {xs : List V} {us : List Value} (h : Vals xs us) : Vals xs.reverse us.reverse := by
  induction h with
  | nil => exact .nil
  | cons r t ih => rw [List.reverse_cons, List.reverse_cons]; exact Vals.append ih (.cons r .nil)

section
variable {X : Cx} {pins : List (Addr × Obj)} {σ : St} {H : Hp} {s : Shared} {l b : Addr} {xs ys zs : List V}

/-! ### the two steps: a tracked list is rewritten, a new list is laid -/
theorem Inv.lset {its its' : List Value} {n : Nat} {f : Array Value → Array Value} {t' : Nat} (I : Inv X pins σ H s) (hH : H l = some (.lst xs))
    (e : s.heap.get? l = some { cls := .type "list", data := .seq its.toArray n }) (hf : f its.toArray = its'.toArray) (hv : Vals ys its') (hz : ys.length ≤ sizeLine) :
    Inv X pins σ (upd H l (.lst ys)) { s with heap := s.heap.update l (Obj.mapSeq f), toks := t' } := by
  have q := PySem.IsL.update e f
  rw [hf] at q
  refine I.write (x := l) (e := l) (by rw [hH]; exact trivial) (.inl rfl) (fun b' u hb hu => (Heap.get?_update_other s.heap (Obj.mapSeq f) (Ne.symm hb)).trans hu) ⟨_, q⟩ ?_
  exact ⟨hz, its', _, hv, q⟩
theorem Inv.fresh (I : Inv X pins σ H s) : H s.heap.objs.size = none := I.hok.fresh (Nat.le_refl _)
theorem Inv.lstM (I : Inv X pins σ H s) (hH : H l = some (.lst xs)) : xs.length ≤ sizeLine ∧ ∃ (its : List Value) (n : Nat), Vals xs its ∧ xs.length = its.length ∧ s.heap.get? l = some { cls := .type "list", data := .seq its.toArray n } := by
  obtain ⟨z, its, n, r, e⟩ := I.hok l _ hH
  exact ⟨z, its, n, r, r.length, e⟩

theorem notLongL {n : Nat} (h : n ≤ sizeLine) : Builtin.List.listTooLong n = false := by
  unfold Builtin.List.listTooLong
  exact decide_eq_false (by omega)
end

section
variable {X : Cx}

/-! ### methods -/
def rAppend : V → List V → Hp → VK → Prop := fun x vs H Q => ∃ l xs y, x = .ref l ∧ vs = [y] ∧ H l = some (.lst xs) ∧ xs.length < sizeLine ∧ Q .non (upd H l (.lst (xs ++ [y])))
theorem mt_append : MtM X "list.append" rAppend := by
  intro pins s σ H x vs v us Q I rx rv h
  obtain ⟨l, xs, y, rfl, rfl, hH, hz, q⟩ := h
  cases rx
  obtain ⟨u, rfl, ru⟩ := rv.one
  obtain ⟨z, its, n, r, hl, e⟩ := I.lstM hH
  refine call_meets F.slot_list_append ⟨_, e, rfl⟩ F.entry_list_append (F.args_list_append_2 _ _) (PySem.list_append l its.toArray n u (by rw [List.size_toArray]; omega)) ⟨e, ?_⟩
  refine ⟨.non, _, I.lset (its' := its ++ [u]) hH e (by simp) (r.append (.cons ru .nil)) ?_, rfl, q⟩
  rw [List.length_append, List.length_singleton]
  omega

def rExtend : V → List V → Hp → VK → Prop := fun x vs H Q => ∃ l b xs zs, x = .ref l ∧ vs = [.ref b] ∧ H l = some (.lst xs) ∧ H b = some (.lst zs) ∧ xs.length + zs.length ≤ sizeLine ∧ Q .non (upd H l (.lst (xs ++ zs)))
theorem mt_extend : MtM X "list.extend" rExtend := by
  intro pins s σ H x vs v us Q I rx rv h
  obtain ⟨l, b, xs, zs, rfl, rfl, hH, hB, hz, q⟩ := h
  cases rx
  obtain ⟨u, rfl, ru⟩ := rv.one
  cases ru
  obtain ⟨z, its, n, r, hl, e⟩ := I.lstM hH
  obtain ⟨z2, its2, n2, r2, hl2, e2⟩ := I.lstM hB
  have hsz : its.toArray.size + its2.toArray.size ≤ sizeLine := by rw [List.size_toArray, List.size_toArray]; omega
  have hlong : ¬ (!its.toArray.isEmpty && Builtin.List.listTooLong (its.toArray.size + its2.toArray.size)) = true := by
    rw [notLongL hsz, Bool.and_false]
    exact Bool.false_ne_true
  refine call_meets F.slot_list_extend ⟨_, e, rfl⟩ F.entry_list_extend (F.args_list_extend_2 _ _)
    (AutoSeq1.list_extend_list_list_0 l its.toArray n b its2.toArray n2 hlong (by rw [List.size_toArray]; omega) (by omega)) ⟨e, e2, ?_⟩
  refine ⟨.non, _, I.lset (its' := its ++ its2) hH e (by simp) (r.append r2) ?_, rfl, q⟩
  rw [List.length_append]
  omega

def rPop : V → List V → Hp → VK → Prop := fun x vs H Q => ∃ l xs y, x = .ref l ∧ vs = [] ∧ H l = some (.lst xs) ∧ xs[xs.length - 1]? = some y ∧ Q y (upd H l (.lst xs.dropLast))

def rPopAt : V → List V → Hp → VK → Prop := fun x vs H Q => ∃ l xs i k y, x = .ref l ∧ vs = [.int i] ∧ H l = some (.lst xs) ∧ -(2 ^ 63) ≤ i ∧ i < 2 ^ 63 ∧ seqIndex? i xs.length = some k ∧ xs[k]? = some y ∧ Q y (upd H l (.lst (xs.eraseIdx k)))

def rReverse : V → List V → Hp → VK → Prop := fun x vs H Q => ∃ l xs, x = .ref l ∧ vs = [] ∧ H l = some (.lst xs) ∧ Q .non (upd H l (.lst xs.reverse))

def rClear : V → List V → Hp → VK → Prop := fun x vs H Q => ∃ l xs, x = .ref l ∧ vs = [] ∧ H l = some (.lst xs) ∧ Q .non (upd H l (.lst []))

/-! ### list + list, list += list, list * int -/
def rCat : R2 := fun x y H Q => ∃ l b xs zs, x = .ref l ∧ y = .ref b ∧ H l = some (.lst xs) ∧ H b = some (.lst zs) ∧ xs.length + zs.length ≤ sizeLine ∧ ∀ p, H p = none → Q (.ref p) (upd H p (.lst (xs ++ zs)))
/-- a list times an int (a negative one is nothing) -/
def rRep : R2 := fun x y H Q => ∃ l k xs, x = .ref l ∧ y = .int k ∧ H l = some (.lst xs) ∧ -(2 ^ 63) ≤ k ∧ k < 2 ^ 63 ∧ xs.length * k.toNat ≤ sizeLine ∧
  ∀ p, H p = none → Q (.ref p) (upd H p (.lst (List.replicate k.toNat xs).flatten))

/-! ### del xs[i] -/
end

/-! ### xs[a:b] = ys -/
section
variable {prog : Program} {w : World} {A : Around} {E : Value → Shared → Prop} {s : Shared}
set_option maxRecDepth 100000 in
end

section
variable {X : Cx}
end
end L2

namespace Att
open PySem PySem.W PySem.Calls PyProof.Rows

/-! ### the script -/
theorem ints_of_wellAll {P : Params} {h : Heap} : ∀ (ns : List Int) (vs : List Value), WellAll P h vs (ns.map WData.int) → IntsAre vs ns := by
  intro ns
  induction ns with
  | nil =>
    intro vs w
    rw [List.map_nil] at w
    cases w
    exact .nil
  | cons n ns ih =>
    intro vs w
    rw [List.map_cons] at w
    cases w with
    | cons a b =>
      cases a
      exact .cons _ _ (ih _ b)

theorem script_of {l : OpenLaw} {n : Nat} (hn : l.most = some n) {P : Params} {h : Heap} {args : List WData} {vals : List Value}
    (hpre : l.row.toRowW.claim.pre args = true) (hwl : WellAll P h vals args) :
    ∃ a vs ns, vals = [Value.ref a] ∧ args = [WData.list (ns.map WData.int)] ∧ h.get? a = some { cls := .type "list", data := .seq vs.toArray } ∧ IntsAre vs ns ∧ ns.length ≤ n := by
  have hsh : WShape.hasAll [] args [.list .int] = true := (pre_splitW hpre).1
  have hc : l.pre.holds [] { args := args } = true := (pre_splitW hpre).2
  obtain ⟨d, r, rfl, h1, h2⟩ := hasAllW_cons hsh
  obtain rfl := hasAllW_nil h2
  obtain ⟨xs, rfl, h3⟩ := hasW_list h1
  obtain ⟨ns, rfl⟩ := items_int h3
  have hlen : ns.length ≤ n := by
    unfold OpenLaw.pre at hc
    have h4 : (WTm.not (.lt (.lit (.int (n : Int))) (.len (.arg 0)))).holds [] { args := [.list (ns.map .int)] } = true := by
      have h4 := (holds_andW hc).1
      rw [hn] at h4
      exact h4
    have h5 := condW_of h4 (w_not (w_lt w_lit (w_len_list (w_arg rfl))))
    rw [List.length_map] at h5
    refine Nat.le_of_not_lt fun q => ?_
    have q' : (n : Int) < ((ns.length : Nat) : Int) := by omega
    first
      | (rw [decide_eq_true q'] at h5; exact absurd h5 (by decide))
      | (simp at h5; omega)
  cases hwl with
  | cons w1 w2 =>
    cases w2
    cases w1 with
    | list ho hall => exact ⟨_, _, ns, rfl, rfl, ho, ints_of_wellAll ns _ hall, hlen⟩

theorem post_true (l : OpenLaw) (args : List WData) : l.row.toRowW.claim.post args (.bool true) args = true :=
  postW_of (r := l.row.toRowW) (X := (true == true))
    (show WShape.has [] (.bool true) .bool = true by first | rfl | decide | simp [WShape.has, WShape.arms, WShape.armsAll])
    (show (WTm.eq .res (.lit (.bool true))).value [] { args := args, res := some (.bool true), after := args } = some (.bool (true == true)) from w_eq_bool (w_res rfl) w_lit) rfl

/-! ### the attachment: holds_open's last premise (the goal 'hc' behind k_head) from a wpAny of the law's body -/

/-- the same from a codeAny of the CALL (for a layer whose function contracts speak of calls) -/
theorem attach_call {l : OpenLaw} {n : Nat} {q : Program} {loose : List Str} {XP : (Str → Option Value) → Heap → Prop} {YP : World → Heap → Prop} {d : DefRec}
    (hn : l.most = some n) (hdf : d.params.defaults = [])
    (call : ∀ (w : World) (s₀ s₁ : Shared) (mg mb : Str → Option Value) (fa : Addr) (o : Obj) (pm cd doc : Value) (a : Addr) (vs : List Value) (ns : List Int),
      Ground q loose [] XP w s₀ mg mb s₁.heap → YP w s₁.heap →
      s₁.heap.get? fa = some o → o.data = .func (docDef d.name d.params d.body d.scope pm cd doc) → s₁.heap.CodeRec cd d.name → mg d.name = some (.ref fa) →
      s₁.heap.get? a = some { cls := .type "list", data := .seq vs.toArray } → IntsAre vs ns → ns.length ≤ n → s₁.gens = #[] →
      codeAny (model l.prog w) callerA (.call (.ref fa) ⟨[.ref a], []⟩) (fun r s' => r = .ok (.ret (.bool true)) ∧ OldK s₁.heap s'.heap ∧ s'.os = s₁.os ∧ AllBare s'.gens) s₁) :
    WalkO q loose XP YP l.row.toRowW d [] (fun f vs => PySem.call f vs) := by
  intro w s₀ s₁ mg mb G Y fa o pm cd doc dV kV ho hd hcd hD hmg hg args vals as hpre hlay hrd hwl hlo
  obtain rfl : dV = .none := Dflts.none hD hdf
  obtain rfl : kV = .none := Dflts.noKw hD
  obtain ⟨a, vs, ns, rfl, rfl, hobj, hints, hlen⟩ := script_of hn hpre hwl
  refine enter_call (codeAny_mono (call w s₀ s₁ mg mb fa o pm cd doc a vs ns G Y ho (fd_plain hd) hcd hmg hobj hints hlen hg) fun r s' hq => ?_)
  obtain ⟨rfl, h2, h3, h4⟩ := hq
  exact ⟨.inl ⟨.bool true, .bool true, [], rfl, fun _ => rfl, .bool true, post_true l _, fun _ => ⟨List.Pairwise.nil, fun _ hm => (nomatch hm)⟩⟩, h2, h3, h4⟩


/-! ### rules over ANY heap (no ledger) from facts about the written part K: the library's own take a ledger (News) for what they write -/
section
variable {prog : Program} {w : World} {A : Around} {E : Value → Shared → Prop} {s : Shared} {K : Frag}





/-! the whole heap as the ledger: makes every rule that writes through a ledger a rule over any heap -/
def noObjs (h : Heap) : Heap := { h with objs := #[] }
def ledger (h : Heap) (L d : Addr) : List (Addr × Obj) := (List.range h.objs.size).filterMap fun a => if a = L ∨ a = d then none else (h.get? a).map fun o => (a, o)

end
end Att

namespace L2
open PySem PySem.Spec PyProof.Rows

theorem vals_ints : ∀ {vs : List Value} {ns : List Int}, IntsAre vs ns → Vals (ns.map V.int) vs
  | _, _, .nil => .nil
  | _, _, .cons n t h => .cons ⟨t, rfl⟩ (vals_ints h)

/-- nothing is tracked but the script, known to the object (or it is an object of the module) -/
def Only (H : Hp) : Prop := ∀ b, H b = none ∨ ∃ o xs, H b = some (.frz o (.lst xs))

/-- THE HEAD: the law's promise, at the heap behind the top. F, the promise of the law's def, may use that base is part of the heap (so K.In base, base.Ns mainGlobals mg stand in Mod) -/
theorem law_call {P : Program} {w : World} {K : PySem.W.Frag} {mg mb : Str → Option Value} {CX : CXT} {k : Nat} {fa a : Addr} {fd : FuncData} {x : Str} {sp : Sp} {s₁ : Shared} {vs : List Value} {ns : List Int}
    (KX : K.In s₁.heap) (hns : s₁.heap.Ns mainGlobals mg) (hb : s₁.heap.Ns builtinsNs mb) (hbb : ∀ x : Str, x ≠ "__name__" → mb x = bootBuiltins x) (hlim : s₁.heap.NoLimit) (hg : s₁.gens = #[])
    (ha : s₁.heap.get? a = some { cls := .type "list", data := .seq vs.toArray }) (hi : IntsAre vs ns) (hl : ns.length ≤ sizeLine) (hr : Room k callerA)
    (F : ∀ base : Heap, K.In base → base.Ns mainGlobals mg → FnOk P w K mg base CX k fa fd [x] sp) (hbind : ∀ (s : Shared) (u : Value), BindsTo s fd ⟨[u], []⟩ [(x, u)])
    (hsp : ∀ H : Hp, Only H → SqL K H a (ns.map V.int) → sp [.ref a] H (fun v _ => v = .bl true) fun _ _ _ => False)
    (hCX : ∀ H e s', CX [] H s₁ (fun _ _ _ => False) e s' → False) :
    codeAny (model P w) callerA (.call (.ref fa) ⟨[.ref a], []⟩) (fun r s' => r = .ok (.ret (.bool true)) ∧ OldK s₁.heap s'.heap ∧ s'.os = s₁.os ∧ AllBare s'.gens) s₁ := by
  have rv := vals_ints hi
  have lenV := hi.length
  -- from an abstract heap in which nothing but the script may be tracked
  have core : ∀ H : Hp, Only H → SqL K H a (ns.map V.int) → HOk P w H s₁.heap → (∀ b, H b ≠ none → b = a) → (H a ≠ none → K.lookup a = none) →
      codeAny (model P w) callerA (.call (.ref fa) ⟨[.ref a], []⟩) (fun r s' => r = .ok (.ret (.bool true)) ∧ OldK s₁.heap s'.heap ∧ s'.os = s₁.os ∧ AllBare s'.gens) s₁ := by
    intro H hO hS hok hA hK
    have base_of : ∀ {b : Addr} {o : Obj}, s₁.heap.get? b = some o → H b = none → (hidT s₁.heap H).get? b = some o := fun e n => hidT_get e n
    have noA : ∀ {b : Addr} {o : Obj} {es : Array DictEntry} {ep : Nat}, s₁.heap.get? b = some o → o.data = .dict es ep → H b = none := fun {b o es ep} e d => by
      cases q : H b with
      | none => rfl
      | some u =>
        have e' : b = a := hA b (by rw [q]; simp)
        subst e'
        rw [ha] at e; cases e
        have d' : Data.seq vs.toArray _ = Data.dict es ep := d
        cases d'
    have nsK : ∀ {b : Addr} {m : Str → Option Value}, s₁.heap.Ns b m → (hidT s₁.heap H).Ns b m := fun {b m} ⟨o, es, ep, e, d, r⟩ => ⟨o, es, ep, base_of e (noA e d), d, r⟩
    have hKb : K.In (hidT s₁.heap H) := fun b o e => base_of (KX b o e) (by
      cases q : H b with
      | none => rfl
      | some u =>
        have e' : b = a := hA b (by rw [q]; simp)
        subst e'
        rw [hK (by rw [q]; simp)] at e; cases e)
    have hM : Mod K mg (hidT s₁.heap H) := ⟨hKb, nsK hns, ⟨mb, nsK hb, hbb⟩, let ⟨mc, h1, h2⟩ := hlim; ⟨mc, nsK h1, h2⟩⟩
    have e0 : Env0 P w K mg (hidT s₁.heap H) callerA [] s₁ H := ⟨rfl, hM, fun b o e => of_hidT e, Nat.le_of_eq (hidT_size _ _), trivial, fun b hb => absurd (show b ∈ ([] : List Addr) from hb) (by simp), hok, .of_eq hg⟩
    refine codeAny_mono ((F _ hKb (nsK hns)).run callerA [] s₁ H ⟨[.ref a], []⟩ [.ref a] [.ref a] _ _ hr e0 (hbind s₁ (.ref a)) (.cons rfl .nil) (hsp H hO hS)) fun r s' h => ?_
    cases r with
    | error e => exact (hCX H e s' h).elim
    | ok fl =>
      cases fl with
      | next => exact False.elim h
      | brk => exact False.elim h
      | cont => exact False.elim h
      | ret u =>
        obtain ⟨v, H', os, bare, un, hok', r', q⟩ := h
        have q' : v = .bl true := q
        subst q'
        obtain rfl : u = Value.bool true := r'
        refine ⟨rfl, OldK.of_keep fun b o e => ?_, os, bare⟩
        cases q : H b with
        | none => exact un.keep b o e q (by intro z; exact absurd (show b ∈ ([] : List Addr) from z) (by simp)) (by simp)
        | some u =>
          rcases hO b with z | ⟨ob, xs, z⟩
          · rw [q] at z; cases z
          · have z2 := un.frzs b ob _ z
            obtain ⟨e1, _⟩ := hok b _ z
            obtain ⟨e2, _⟩ := hok' b _ z2
            rw [e] at e1; cases e1
            exact e2
  cases hk : K.lookup a with
  | some o =>
    -- the script is one of the module's own objects
    have e := KX a o hk
    rw [ha] at e
    cases e
    refine core (fun _ => none) (fun _ => .inl rfl) (.inr ⟨_, vs.toArray, _, hk, rfl, rfl, rfl, by rw [List.size_toArray, lenV]; exact hl, by simpa using rv⟩) (fun b u z => by have z' : (none : Option HO) = some u := z; cases z') (fun b z => absurd rfl z) fun z => absurd rfl z
  | none =>
    refine core (fun b => if b = a then some (.frz { cls := .type "list", data := .seq vs.toArray } (.lst (ns.map V.int))) else none) (fun b => ?_) (.inl (.inr ⟨{ cls := .type "list", data := .seq vs.toArray }, if_pos rfl⟩)) (fun b u z => ?_) (fun b z => ?_) fun _ => hk
    · by_cases hb : b = a
      · exact .inr ⟨_, _, if_pos hb⟩
      · exact .inl (if_neg hb)
    · by_cases hb : b = a
      · have z' := (if_pos hb).symm.trans z
        cases z'
        subst hb
        exact ⟨ha, by rw [List.length_map]; exact hl, vs, _, rv, ha⟩
      · have z' := (if_neg hb).symm.trans z
        cases z'
    · by_cases hb : b = a
      · exact hb
      · exact absurd (if_neg hb) z
end L2

namespace L2
open PySem PySem.Spec PyProof.Rows

abbrev KOf {K : PySem.W.Frag} {h : Heap} (_ : K.In h) : PySem.W.Frag := K

/-- the goal that k_head leaves (case hc), from the law's promise. F gives the function object fd (K's own) once, then the promise over every base -/
theorem walk_of {l : PySem.W.OpenLaw} {n k : Nat} {q : Program} {loose : List Str} {XP : (Str → Option Value) → Heap → Prop} {YP : World → Heap → Prop} {d : DefRec} {K : Params → PySem.W.Frag} {CX : World → CXT} {sp : World → Sp} {x : Str}
    (hn : l.most = some n) (hn2 : n ≤ sizeLine) (hdf : d.params.defaults = []) (hr : Room k callerA)
    (hY : ∀ (w : World) (h : Heap), YP w h → (K w.params).In h)
    (F : ∀ (w : World) (mg : Str → Option Value) (fa : Addr) (h : Heap), (K w.params).In h → h.Ns mainGlobals mg → mg d.name = some (.ref fa) →
      ∃ fd : FuncData, (∀ (s : Shared) (u : Value), BindsTo s fd ⟨[u], []⟩ [(x, u)]) ∧
        ∀ base : Heap, (K w.params).In base → base.Ns mainGlobals mg → FnOk l.prog w (K w.params) mg base (CX w) k fa fd [x] (sp w))
    (hsp : ∀ (w : World) (H : Hp) (a : Addr) (ns : List Int), ns.length ≤ n → Only H → SqL (K w.params) H a (ns.map V.int) → sp w [.ref a] H (fun v _ => v = .bl true) fun _ _ _ => False)
    (hCX : ∀ (w : World) (H : Hp) (s : Shared) (e : Value) (s' : Shared), CX w [] H s (fun _ _ _ => False) e s' → False) :
    PySem.W.WalkO q loose XP YP l.row.toRowW d [] (fun f vs => PySem.call f vs) := by
  refine Att.attach_call hn hdf fun w s₀ s₁ mg mb fa o pm cd doc a vs ns G Y ho hd hcd hmg hobj hints hlen hg => ?_
  have KX := hY w _ Y
  obtain ⟨fd, hb, hF⟩ := F w mg fa _ KX G.T.g hmg
  exact law_call KX G.T.g G.T.b G.T.builtins G.T.nolimit hg hobj hints (Nat.le_trans hlen hn2) hr hF hb (fun H hO hS => hsp w H a ns hlen hO hS) fun H e s' => hCX w H s₁ e s'
end L2

/- THE LAST THEOREM (shape; LID, My.* are yours):
   My.Adr: a structure of the addresses that your layer names (classes, functions); My.Txt K t: a structure (Prop) of the equations over K;
   My.txt_mk : {K} {implicit addresses ..} (e1 : nsIn K mainGlobals "law" = some (some (.ref f))) (e2 : K.lookup f = some ⟨oc, od, .func (fnOf "law" "law" params body scope dV kV doc pm an cdv ct), sl⟩) (e3 : codeIn K cdv "law" = true) .. : ∃ t, My.Txt K t

set_option maxRecDepth 100000 in
set_option maxHeartbeats 0 in
theorem PySem.Challenge.cw_LID_holds : PySem.Challenge.rw_LID.Holds := by
  w_on; o_law; k_head; (case hw => w_witness2)
  k_fill
  refine L2.walk_of (l := PySem.Challenge.rw_LID) (n := 63) (k := 40) (x := "script") (CX := fun w => ..) (sp := fun _ => My.sp_law) rfl (by decide) rfl ⟨rfl, by decide, by decide⟩ (fun w h Y => PySem.W.kIn_of Y) ?F ?S ?C
  case F =>
    intro w mg fa h KX G hmg
    have T : ∃ t, My.Txt (L2.KOf KX) t := by
      dsimp only [L2.KOf]                          -- K must stand as «<heap const> w.params» for k_is
      refine' My.txt_mk ?e1 ?e2 ?e3 ..
      (case e1 => PySem.W.k_is)                    -- in the order: a name -> its address -> its object -> its parts
      (case e2 => PySem.W.k_is)
      ..
    obtain ⟨t, T⟩ := T
    have e0 := hmg.symm.trans (PySem.W.mg_of KX G T.law)
    cases e0                                       -- fa is the law's own address
    exact ⟨_, fun s u => .of_eq rfl, fun base kb nb => My.law_fn T kb nb⟩     -- if «.of_eq rfl» comes too early: refine' ⟨_, ?b, fun base kb nb => My.law_fn T kb nb⟩; exact fun s u => .of_eq rfl
  case S => exact fun w H a ns hl hO hS => ..
  case C => exact ..
(the tactic k_is has no namespace: write k_is) -/

/-! SHORT WORDS over the layer: a def of the text, its body, what a loop and a test want. -/
namespace L2
open PySem PySem.Spec PyProof.Rows

/-! ### the text by places -/
/-- the j-th statement of a class's body -/
def inClass (s : Stmt) (j : Nat) : Stmt := match s with
  | .ClassDef _ _ _ body _ _ _ _ _ _ _ => body.getD j (.Pass ⟨0, 0, 0, 0⟩)
  | _ => .Pass ⟨0, 0, 0, 0⟩
def defArgs (s : Stmt) : Arguments := match s with
  | .FunctionDef _ a _ _ _ _ _ _ _ _ => a
  | _ => { posonlyargs := [], args := [], vararg := none, kwonlyargs := [], kw_defaults := [], kwarg := none, defaults := [] }
def defBody (s : Stmt) : List Stmt := match s with
  | .FunctionDef _ _ b _ _ _ _ _ _ _ => b
  | _ => []
def defScope (s : Stmt) : Scope := match s with
  | .FunctionDef _ _ _ _ _ _ sc _ _ _ => sc
  | _ => { kind := .function, names := [], isGenerator := false, isCoroutine := false }

/-! ### no exception leaves a def -/
abbrev CX0 : CXT := fun _ _ _ _ _ _ => False
abbrev E0 : XK := fun _ _ _ => False
theorem pass0 {X : Cx} : Passes CX0 X E0 := fun _ _ _ _ _ _ _ h => h.elim

/-! ### a def (or method) of the text as it stands behind the top -/
structure Fun (K : PySem.W.Frag) (x qual : Str) (st : Stmt) (f : Addr) (fd : FuncData) : Prop where
  ex : ∃ (oc : Value) (od : Option Addr) (kV doc pm : Value) (an : Option Addr) (cdv ct : Value) (osl : Array (Option Value)),
    fd = PySem.W.fnOf x qual (defArgs st) (defBody st) (defScope st) .none kV doc pm an cdv ct ∧ K.lookup f = some ⟨oc, od, .func fd, osl⟩ ∧ PySem.W.codeIn K cdv qual = true
  kp : PySem.W.keepIn K (.ref f) = true
section
variable {P : Program} {w : World} {K : PySem.W.Frag} {mg : Str → Option Value} {base : Heap}
/-- THE RULE for a def: its body as a term of rules, and the reading of that term -/
theorem Fun.ok {x qual : Str} {st : Stmt} {f : Addr} {fd : FuncData} {N ps : List Str} {k : Nat} {sp : Sp} (F : Fun K x qual st f fd) (S : FnScope N ps (defScope st)) (len : ∀ vs H Q E, sp vs H Q E → vs.length = ps.length)
    (hbody : ∀ (cdv : Value) (A : Around) (outer : List Env) (s : Shared) (H : Hp) (vs : List V) (Q : VK) (E : XK), Room k (A.deeper (envOfC qual (defScope st) s.heap.objs.size f cdv)) → sp vs H Q E →
      ∃ t, PSs (cxOf CX0 P w K mg base N qual (defScope st) f cdv A outer s H E).nox (defBody st) t ∧ t { nx := fun _ H' => Q .non H', rt := Q } (start N vs) H) : FnOk P w K mg base CX0 (k + 1) f fd ps sp := by
  obtain ⟨oc, od, kV, doc, pm, an, cdv, ct, osl, rfl, lk, hcd⟩ := F.ex
  refine fn_of lk hcd S len fun A outer s H vs Q E hr hsp => ?_
  obtain ⟨t, h, q⟩ := hbody cdv A outer s H vs Q E hr hsp
  exact ⟨t, h.nox, q⟩
/-- how its arguments bind (no defaults): h is «fun _ _ _ _ _ _ us hl => match us, hl with | [_, _], _ => rfl», one _ a parameter -/
theorem Fun.binds {x qual : Str} {st : Stmt} {f : Addr} {fd : FuncData} {ps : List Str} (F : Fun K x qual st f fd)
    (h : ∀ (kV doc pm : Value) (an : Option Addr) (cdv ct : Value) (us : List Value), us.length = ps.length → bindArgs (PySem.W.fnOf x qual (defArgs st) (defBody st) (defScope st) .none kV doc pm an cdv ct) ⟨us, []⟩ = pure (ps.zip us)) : Binds K fd ps [] := by
  obtain ⟨oc, od, kV, doc, pm, an, cdv, ct, osl, rfl, lk, hcd⟩ := F.ex
  exact .all (h kV doc pm an cdv ct)
theorem fun_mk {x qual : Str} {st : Stmt} {f : Addr} {oc : Value} {od an : Option Addr} {osl : Array (Option Value)} {kV doc pm cdv ct : Value} (l : K.lookup f = some ⟨oc, od, .func (PySem.W.fnOf x qual (defArgs st) (defBody st) (defScope st) .none kV doc pm an cdv ct), osl⟩)
    (c : PySem.W.codeIn K cdv qual = true) (k : PySem.W.keepIn K (.ref f) = true) : Fun K x qual st f (PySem.W.fnOf x qual (defArgs st) (defBody st) (defScope st) .none kV doc pm an cdv ct) := ⟨⟨oc, od, kV, doc, pm, an, cdv, ct, osl, rfl, l, c⟩, k⟩
end

/-! ### expressions in short: the name that stands in the i-th slot -/
section
variable {X : Cx}
theorem pv (i : Nat) {x : Str} {pos : Pos} (hN : X.N[i]? = some x := by rfl) (hv : Vis X.env.scope x := by first | exact Or.inl rfl | exact Or.inr (Or.inl rfl) | exact Or.inr (Or.inr rfl)) (hd : (x == ("__debug__" : Str)) = false := by decide)
    (hcd : (x == ("__classdict__" : Str)) = false := by decide) : PE X (.Name x pos) (tVar i) := pe_var hN hv hd hcd
end

/-! ### tests -/
theorem iteF {A B : Prop} (h : B) : if false = true then A else B := by
  rw [if_neg Bool.false_ne_true]
  exact h
theorem iteT {A B : Prop} (h : A) : if true = true then A else B := by
  rw [if_pos rfl]
  exact h
theorem ite2 {c A B : Prop} [Decidable c] (h1 : c → A) (h2 : ¬ c → B) : if c then A else B := by
  by_cases h : c
  · rw [if_pos h]
    exact h1 h
  · rw [if_neg h]
    exact h2 h
theorem iteNS {c A B : Prop} [Decidable c] (hc : c) (h : B) : if (!decide c) = true then A else B := by
  rw [decide_eq_true hc]
  exact iteF h

/-! ### heaps -/
/-- all that was tracked is as it was -/
def Same (H H' : Hp) : Prop := ∀ b o, H b = some o → H' b = some o
theorem Same.refl (H : Hp) : Same H H := fun _ _ h => h
theorem Same.trans {H H1 H2 : Hp} (a : Same H H1) (b : Same H1 H2) : Same H H2 := fun c o h => b c o (a c o h)
theorem Same.free {H H' : Hp} (e : Same H H') {l : Addr} (h : H' l = Option.none) : H l = Option.none := by
  cases q : H l with
  | none => rfl
  | some o =>
    rw [e l o q] at h
    cases h
theorem Same.seq {K : PySem.W.Frag} {H H' : Hp} {a : Addr} {xs : List V} (e : Same H H') (h : SqL K H a xs) : SqL K H' a xs := by
  rcases h with (h | ⟨o, h⟩) | h
  · exact .inl (.inl (e _ _ h))
  · exact .inl (.inr ⟨o, e _ _ h⟩)
  · exact .inr h

end L2


namespace M01
/-- what both loops go down to -/
def gz (a b : Int) : Int := (Nat.gcd a.toNat b.toNat : Nat)
theorem gz_step {a b : Int} (ha : 0 ≤ a) (hb : 0 < b) : gz b (a % b) = gz a b := by
  unfold gz
  rw [Int.toNat_emod ha (by omega), Nat.gcd_comm b.toNat, ← Nat.gcd_rec, Nat.gcd_comm]
theorem gz_end {a : Int} (ha : 0 ≤ a) : gz a 0 = a := by
  unfold gz
  rw [show (0 : Int).toNat = 0 from rfl, Nat.gcd_zero_right]
  omega
def ab (i : Int) : Int := if i < 0 then -i else i
theorem ab_nat (i : Int) : (ab i).toNat = i.natAbs := by unfold ab; split <;> omega
theorem ab_nn (i : Int) : 0 ≤ ab i := by unfold ab; split <;> omega
theorem gz_ab (t b : Int) : gz (ab t) (ab b) = (Nat.gcd t.natAbs b.natAbs : Nat) := by unfold gz; rw [ab_nat, ab_nat]
/-- the divisor of fraction -/
def dv (t b : Int) : Int := if b < 0 then -(gz (ab t) (ab b)) else gz (ab t) (ab b)
def ft (t b : Int) : Int := t.fdiv (dv t b)
def fb (t b : Int) : Int := b.fdiv (dv t b)
theorem g_pos {t b : Int} (h : b ≠ 0) : 0 < Nat.gcd t.natAbs b.natAbs := Nat.gcd_pos_of_pos_right _ (by omega)
theorem dv_abs (t b : Int) : (dv t b).natAbs = Nat.gcd t.natAbs b.natAbs := by
  unfold dv
  rw [gz_ab]
  split
  · rw [Int.natAbs_neg]; rfl
  · rfl
theorem dv_ne {t b : Int} (h : b ≠ 0) : dv t b ≠ 0 := fun z => by
  have := dv_abs t b
  have p := g_pos (t := t) h
  rw [z] at this
  simp at this
  omega
theorem dv_t (t b : Int) : dv t b ∣ t := Int.natAbs_dvd_natAbs.mp (by rw [dv_abs]; exact Nat.gcd_dvd_left _ _)
theorem dv_b (t b : Int) : dv t b ∣ b := Int.natAbs_dvd_natAbs.mp (by rw [dv_abs]; exact Nat.gcd_dvd_right _ _)
theorem ft_mul (t b : Int) : ft t b * dv t b = t := Int.fdiv_mul_cancel (dv_t t b)
theorem fb_mul (t b : Int) : fb t b * dv t b = b := Int.fdiv_mul_cancel (dv_b t b)
theorem cross (t b : Int) : ft t b * b = t * fb t b := by
  have e1 := ft_mul t b
  have e2 := fb_mul t b
  calc ft t b * b = ft t b * (fb t b * dv t b) := by rw [e2]
    _ = (ft t b * dv t b) * fb t b := by rw [Int.mul_comm (fb t b), Int.mul_assoc]
    _ = t * fb t b := by rw [e1]
theorem fb_pos {t b : Int} (h : b ≠ 0) : 1 ≤ fb t b := by
  have e := fb_mul t b
  have p := g_pos (t := t) h
  have ga : dv t b = if b < 0 then -((Nat.gcd t.natAbs b.natAbs : Nat) : Int) else ((Nat.gcd t.natAbs b.natAbs : Nat) : Int) := by unfold dv; rw [gz_ab]
  by_cases hb : b < 0
  · rw [if_pos hb] at ga
    have d0 : dv t b < 0 := by rw [ga]; omega
    by_cases q : 1 ≤ fb t b
    · exact q
    · exfalso
      have q' : fb t b ≤ 0 := by omega
      have : 0 ≤ fb t b * dv t b := Int.mul_nonneg_of_nonpos_of_nonpos q' (by omega)
      omega
  · rw [if_neg hb] at ga
    have d0 : 0 < dv t b := by rw [ga]; omega
    by_cases q : 1 ≤ fb t b
    · exact q
    · exfalso
      have q' : fb t b ≤ 0 := by omega
      have : fb t b * dv t b ≤ 0 := Int.mul_nonpos_of_nonpos_of_nonneg q' (by omega)
      omega
theorem cop {t b : Int} (h : b ≠ 0) : gz (ab (ft t b)) (fb t b) = 1 := by
  have p := g_pos (t := t) h
  have e1 : (ft t b).natAbs * Nat.gcd t.natAbs b.natAbs = t.natAbs := by rw [← dv_abs, ← Int.natAbs_mul, ft_mul]
  have e2 : (fb t b).natAbs * Nat.gcd t.natAbs b.natAbs = b.natAbs := by rw [← dv_abs, ← Int.natAbs_mul, fb_mul]
  have a1 : (ft t b).natAbs = t.natAbs / Nat.gcd t.natAbs b.natAbs := (Nat.div_eq_of_eq_mul_left p e1.symm).symm
  have a2 : (fb t b).natAbs = b.natAbs / Nat.gcd t.natAbs b.natAbs := (Nat.div_eq_of_eq_mul_left p e2.symm).symm
  unfold gz
  have q := fb_pos (t := t) h
  have e3 : (fb t b).toNat = (fb t b).natAbs := by omega
  rw [ab_nat, e3, a1, a2]
  have := Nat.coprime_div_gcd_div_gcd p
  unfold Nat.Coprime at this
  rw [this]
  rfl
/-- what is small enough for every operation -/
def Big (z : Int) : Prop := z.natAbs < 2 ^ 4000
set_option exponentiation.threshold 5000 in
theorem Big.of {z : Int} (h1 : -(10 ^ 120) < z) (h2 : z < 10 ^ 120) : Big z := by
  unfold Big
  have h3 : z.natAbs < 10 ^ 120 := by omega
  exact Nat.lt_trans h3 (by decide)
theorem Big.le {z y : Int} (h : z.natAbs ≤ y.natAbs) (b : Big y) : Big z := Nat.lt_of_le_of_lt h b
theorem dv_le {t b : Int} (h : b ≠ 0) : (dv t b).natAbs ≤ b.natAbs := by rw [dv_abs]; exact Nat.gcd_le_right _ (by omega)
theorem ft_le {t b : Int} (h : b ≠ 0) : (ft t b).natAbs ≤ t.natAbs := by
  have e1 : (ft t b).natAbs * Nat.gcd t.natAbs b.natAbs = t.natAbs := by rw [← dv_abs, ← Int.natAbs_mul, ft_mul]
  have p := g_pos (t := t) h
  calc (ft t b).natAbs = (ft t b).natAbs * 1 := by rw [Nat.mul_one]
    _ ≤ (ft t b).natAbs * Nat.gcd t.natAbs b.natAbs := Nat.mul_le_mul_left _ p
    _ = t.natAbs := e1
theorem fb_le {t b : Int} (h : b ≠ 0) : (fb t b).natAbs ≤ b.natAbs := by
  have e1 : (fb t b).natAbs * Nat.gcd t.natAbs b.natAbs = b.natAbs := by rw [← dv_abs, ← Int.natAbs_mul, fb_mul]
  have p := g_pos (t := t) h
  calc (fb t b).natAbs = (fb t b).natAbs * 1 := by rw [Nat.mul_one]
    _ ≤ (fb t b).natAbs * Nat.gcd t.natAbs b.natAbs := Nat.mul_le_mul_left _ p
    _ = b.natAbs := e1
end M01


set_option maxRecDepth 100000
set_option linter.all false
set_option maxHeartbeats 4000000
set_option Elab.async false
namespace L3
open PySem PySem.Spec PyProof.Rows L2 M01
abbrev St := L2.St

/-! ### numbers of some hundred figures -/
theorem bits_big {z : Int} (h : Big z) : Builtin.Int.intBits z ≤ 4000 := by
  unfold Builtin.Int.intBits
  split
  · exact Nat.zero_le _
  · rename_i q
    have n0 : z.natAbs ≠ 0 := by
      intro e
      apply q
      rw [Int.natAbs_eq_zero.mp e]
      rfl
    have := (Nat.log2_lt n0).mpr h
    omega
theorem mul_ok {a b : Int} (ha : Big a) (hb : Big b) : IntMulOk a b := by
  unfold IntMulOk
  have h1 := bits_big ha
  have h2 := bits_big hb
  have h3 : Builtin.Int.intTooBig ((Builtin.Int.intBits a : Int) + (Builtin.Int.intBits b : Int)) = false := by
    unfold Builtin.Int.intTooBig
    refine decide_eq_false ?_
    have e : (bitsLine : Int) = 134217728 := by decide +kernel
    rw [e]
    omega
  intro z
  rw [Bool.and_eq_true] at z
  have z2 := z.2
  first
    | (rw [h3] at z2; cases z2)
    | (simp only [Nat.cast_add] at z2; rw [h3] at z2; cases z2)
theorem div_ok {a b : Int} (hb : Big b) : Builtin.divisionGoesByPylong a b = false := by
  refine PyProof.noPylong_of_log2 ?_
  by_cases h0 : b.natAbs = 0
  · rw [h0]; decide +kernel
  · have := (Nat.log2_lt h0).mpr hb
    omega
section
variable {X : Cx}
theorem op_mulB : OpR X (binaryOp .Mult) (rI (fun i j => Big i ∧ Big j) fun i j => .int (i * j)) := opI fun _ _ _ _ _ _ _ hc q => mul_int q (mul_ok hc.1 hc.2)
theorem op_fdivB : OpR X (binaryOp .FloorDiv) (rI (fun i j => j ≠ 0 ∧ Big j) fun i j => .int (i.fdiv j)) := opI fun _ _ _ _ _ _ _ hc q => floordiv_int hc.1 q (.inl (div_ok hc.2))

/-! ### isinstance(x, C) -/
theorem call_isinst : CallR X (.builtin "isinstance") (fun xs H Q => ∃ x y c t b, xs = [x, y] ∧ (∀ u, RelV y u → u = c) ∧ TyOf X.K H x t ∧ PySem.W.kitOne X.K t c = some b ∧ Q (.bl b) H) := by
  intro pins s σ H vs us Q I r h
  obtain ⟨x, y, c, t, b, rfl, uq, ty, e, q⟩ := h
  obtain ⟨u, v, rfl, ru, rv⟩ := Vals.two r
  obtain rfl : v = c := uq v rv
  exact isinst_ok I ru ty e fun tk => ⟨.bl b, H, I.tok tk, rfl, q⟩

/-! ### range(lo, hi, step) -/
def Itr3 (lo c : Int) (n : Nat) : It := ⟨fun i _ => i < n, fun i H x H' => H' = H ∧ x = .int (lo + (i : Nat) * c), fun i _ => n ≤ i⟩
def iRng3 (ta : TA) : TI := fun σ H R => ta σ H fun vs H1 => ∃ i j c : Int, vs = [.int i, .int j, .int c] ∧ c ≠ 0 ∧ Big c ∧ Builtin.Range.small i j c = true ∧ 0 ≤ Builtin.Range.rangeSize i j c ∧ R (Itr3 i c (Builtin.Range.rangeSize i j c).toNat) H1
end

/-! ### a, b, c = a list -/
section
variable {prog : Program} {w : World} {A : Around} {E : Value → Shared → Prop}
end
section
variable {X : Cx} {pos : Pos}
def gLst (K : PySem.W.Frag) (n : Nat) (t : TGs) : TG := fun v σ H Q => ∃ a xs, v = .ref a ∧ SqL K H a xs ∧ xs.length = n ∧ t xs σ H Q
end

/-! ### a def with defaults -/
structure FunD (K : PySem.W.Frag) (x qual : Str) (st : Stmt) (f : Addr) (fd : FuncData) : Prop where
  ex : ∃ (oc : Value) (od : Option Addr) (dV kV doc pm : Value) (an : Option Addr) (cdv ct : Value) (osl : Array (Option Value)),
    fd = PySem.W.fnOf x qual (defArgs st) (defBody st) (defScope st) dV kV doc pm an cdv ct ∧ K.lookup f = some ⟨oc, od, .func fd, osl⟩ ∧ PySem.W.codeIn K cdv qual = true
  kp : PySem.W.keepIn K (.ref f) = true
end L3


set_option maxRecDepth 100000
set_option linter.all false
set_option maxHeartbeats 4000000
set_option Elab.async false
namespace L3
open PySem PySem.Spec PyProof.Rows L2 M01
/-! ### two tuples of whole numbers held against one another -/
section
variable {X : Cx}
def rEqT (K : PySem.W.Frag) : R2 := fun x y H Q => ∃ (a b : Addr) (ns ms : List Int), x = .ref a ∧ y = .ref b ∧ SqT K H a (ns.map V.int) ∧ SqT K H b (ms.map V.int) ∧ Q (.bl (decide (ns = ms))) H
end
end L3


set_option maxRecDepth 100000
set_option linter.all false
namespace X8
open PySem

/-- what hangs at an exception's second field: nothing, or the newest entry at T with its mark fl -/
def Tb (h : Heap) (e : Addr) : Option (Addr × Value) → Value → Prop
  | none, v => v = .none
  | some (T, fl), v => v = .ref T ∧ T ≠ e ∧ ∃ oT ts, h.get? T = some oT ∧ oT.data = .fields ts ∧ ts[3]? = some fl
/-- an exception of the class cls with its own dict at dx -/
def XAt (h : Heap) (e : Addr) (cls : Value) (dx : Option Addr) (tb : Option (Addr × Value)) : Prop :=
  ∃ oe vs v1, h.get? e = some oe ∧ oe.cls = cls ∧ oe.dict = dx ∧ oe.data = .fields vs ∧ vs[1]? = some v1 ∧ Tb h e tb v1
/-- only the objects at ch change, and of those at fr the slots -/
structure Chg (fr ch : List Addr) (h h' : Heap) : Prop where
  keep : ∀ b o, h.get? b = some o → b ∉ fr → b ∉ ch → h'.get? b = some o
  slot : ∀ b o, h.get? b = some o → b ∉ ch → ∃ sl, h'.get? b = some { o with slots := sl }
  size : h.objs.size ≤ h'.objs.size
def tbs : Option (Addr × Value) → List Addr
  | none => []
  | some (T, _) => [T]
theorem Chg.trans {fr ch : List Addr} {h h1 h2 : Heap} (x : Chg fr ch h h1) (y : Chg fr ch h1 h2) : Chg fr ch h h2 :=
  ⟨fun b o e a c => y.keep b o (x.keep b o e a c) a c, fun b o e c => let ⟨_, e1⟩ := x.slot b o e c; let ⟨sl, e2⟩ := y.slot b _ e1 c; ⟨sl, e2⟩, Nat.le_trans x.size y.size⟩
theorem Chg.mono {fr ch ch' : List Addr} {h h1 : Heap} (x : Chg fr ch h h1) (k : ∀ b ∈ ch, b ∈ ch') : Chg fr ch' h h1 :=
  ⟨fun b o e a c => x.keep b o e a fun z => c (k b z), fun b o e c => x.slot b o e fun z => c (k b z), x.size⟩
/-- a newer object may change freely -/
theorem Chg.trans' {fr ch ch' : List Addr} {h h1 h2 : Heap} (x : Chg fr ch h h1) (y : Chg fr ch' h1 h2) (k : ∀ b ∈ ch', b ∈ ch ∨ h.objs.size ≤ b) : Chg fr ch h h2 := by
  have nn : ∀ b o, h.get? b = some o → b ∉ ch → b ∉ ch' := fun b o e c z => (k b z).elim c fun q => absurd (Nat.lt_of_lt_of_le (Heap.lt_size e) q) (Nat.lt_irrefl _)
  exact ⟨fun b o e a c => y.keep b o (x.keep b o e a c) a (nn b o e c), fun b o e c => let ⟨_, e1⟩ := x.slot b o e c; let ⟨sl, e2⟩ := y.slot b _ e1 (nn b o e c); ⟨sl, e2⟩, Nat.le_trans x.size y.size⟩
theorem Chg.frames {fr ch : List Addr} {h h1 base : Heap} (x : Chg fr ch h h1) {l : List Env} (hl : h.FunFrames base l) (k : ∀ b ∈ ch, ∀ o, h.get? b = some o → ∃ vs, o.data = .fields vs) : h1.FunFrames base l := by
  refine hl.of_keeps fun b o e nf => ?_
  obtain ⟨sl, q⟩ := x.slot b o e fun z => let ⟨vs, d⟩ := k b z o e; nf vs d
  exact ⟨_, q, rfl⟩

section
variable {M : Model} {A : Around} {E : Value → Shared → Prop} {s : Shared} {base : Heap} {env : Env} {outer : List Env} {L e : Addr} {cls : Value} {dx : Option Addr}

theorem upd_chg {h : Heap} {T : Addr} {oT : Obj} {ts : Array Value} {f : Array Value → Array Value} {fr : List Addr} (hT : h.get? T = some oT) (hd : oT.data = .fields ts) :
    Chg fr [T] h (h.update T (Obj.mapFields f)) := by
  have other : ∀ b, b ∉ [T] → (h.update T (Obj.mapFields f)).get? b = h.get? b := fun b hb => Heap.get?_update_other _ _ fun z => hb (by simp [z])
  exact ⟨fun b o q _ c => (other b c).trans q, fun b o q c => ⟨o.slots, (other b c).trans q⟩, Nat.le_of_eq (Heap.size_after_update ..).symm⟩

/-- a new entry is laid and hung at the exception -/
theorem entry_x {head : Value} {hadNext : Bool} {Q : Unit → Shared → Prop} {oe : Obj} {vs : Array Value} (hfr : A.frames = some (env :: outer)) (hl : s.heap.FunFrames base (env :: outer)) (hf : env.frame = some L)
    (he : s.heap.get? e = some oe) (hd : oe.data = .fields vs) (hsz : 1 < vs.size)
    (h : ∀ h' T, Chg ((env :: outer).filterMap (·.frame)) [e] s.heap h' → s.heap.objs.size ≤ T → XAt h' e oe.cls oe.dict (some (T, rawInt L)) → Q () { s with heap := h' }) :
    wpAny M A (do let a ← frameOf env; let pl ← entryPlaceOf L hadNext; let b ← EntryCells.newEntry head a .none (rawInt L) .none pl; setField (.ref e) 1 b) Q E s := by
  have nfr : e ∉ (env :: outer).filterMap (·.frame) := fun hm => by
    obtain ⟨_, o, ho, nf⟩ := hl.mem hm
    rw [he] at ho
    injection ho with ho
    subst ho
    exact nf vs hd
  refine wpAny_bind (wpAny_frameOf_fun hfr hl hf fun h1 S1 => ?_)
  refine wpAny_bind (wpAny_entryPlaceOf fun pl hpl => ?_)
  unfold EntryCells.newEntry newFields
  refine wpAny_bind (wpAny_newObj_type ?_ (hpl.sizeOk5 _ _ _ _ _))
  have e1 : h1.get? e = some oe := (S1.2.1 e nfr).trans he
  generalize hob : ({ cls := .type "traceback", dict := none, data := .fields ([head, .ref L, .none, rawInt L, .none] ++ (if pl.isEmpty then List.replicate 6 Value.none else pl)).toArray } : Obj) = ob
  have e2 : (h1.push ob).get? e = some oe := Heap.get?_push_of_some _ e1
  refine wpAny_setField e2 hd hsz (h _ h1.objs.size ?_ (Nat.le_of_eq S1.1.symm) ?_)
  · have ne : ∀ b, b ∉ [e] → ((h1.push ob).update e (Obj.mapFields (·.setIfInBounds 1 (Value.ref h1.objs.size)))).get? b = (h1.push ob).get? b := fun b hb => Heap.get?_update_other _ _ fun z => hb (by simp [z])
    refine ⟨fun b o q a c => (ne b c).trans (Heap.get?_push_of_some _ ((S1.2.1 b a).trans q)), fun b o q c => ?_, ?_⟩
    · obtain ⟨sl, q1⟩ := S1.2.2 b o q
      exact ⟨sl, (ne b c).trans (Heap.get?_push_of_some _ q1)⟩
    · rw [Heap.size_after_update, Heap.size_push, S1.1]
      omega
  · have d3 := Obj.data_mapFields hd (·.setIfInBounds 1 (Value.ref h1.objs.size))
    have Te : h1.objs.size ≠ e := Nat.ne_of_gt (Heap.lt_size e1)
    have hT := (Heap.get?_update_other (h1.push ob) (Obj.mapFields (·.setIfInBounds 1 (Value.ref h1.objs.size))) (Ne.symm Te)).trans (Heap.get?_push_size h1 (o := ob) (by subst hob; rfl))
    refine ⟨_, _, .ref h1.objs.size, Heap.get?_update_self _ e2 (Obj.isFreed_of_fields d3), Obj.cls_mapFields _ _, ?_, d3, by simp [hsz], rfl, Te, ob, _, hT, by subst hob; rfl, ?_⟩
    · obtain ⟨c0, dd, dt, sl⟩ := oe
      cases dt <;> rfl
    · first | (simp; done) | (rcases hpl with rfl | ⟨_, _, _, _, _, _, _, rfl⟩ <;> simp)

/-- the frame is noted at an exception that is new, or that came from a callee -/
theorem note_x {tb : Option (Addr × Value)} {Q : Unit → Shared → Prop} (hfr : A.frames = some (env :: outer)) (hl : s.heap.FunFrames base (env :: outer)) (hf : env.frame = some L)
    (hx : XAt s.heap e cls dx tb) (ht : tb = none ∨ ∃ T, tb = some (T, .none))
    (h : ∀ h' T, Chg ((env :: outer).filterMap (·.frame)) (e :: tbs tb) s.heap h' → s.heap.objs.size ≤ T → XAt h' e cls dx (some (T, rawInt L)) → Q () { s with heap := h' }) :
    wpAny M A (noteFrame (.ref e) env) Q E s := by
  obtain ⟨oe, vs, v1, he, hc, hdx, hd, h1, hT⟩ := hx
  subst hc hdx
  unfold noteFrame
  simp only [hf]
  refine wpAny_bind (wpAny_field he hd h1 ?_)
  rcases ht with rfl | ⟨T, rfl⟩
  · obtain rfl : v1 = .none := hT
    rw [if_neg (by decide)]
    exact entry_x hfr hl hf he hd (Array.getElem?_eq_some_iff.mp h1).1 fun h' T c => h h' T (c.mono fun b hb => hb)
  · obtain ⟨rfl, ne, oT, ts, gT, dT, t3⟩ := hT
    rw [if_pos (show (Value.ref T != Value.none) = true from by simp)]
    refine wpAny_bind (wpAny_field gT dT t3 ?_)
    rw [if_neg (show ¬ ((Value.none == rawInt L) = true) from by simp [rawInt])]
    refine wpAny_bind (wpAny_setField gT dT (Array.getElem?_eq_some_iff.mp t3).1 ?_)
    have c1 : Chg ((env :: outer).filterMap (·.frame)) [T] s.heap (s.heap.update T (Obj.mapFields (·.setIfInBounds 3 Value.none))) := upd_chg gT dT
    have he1 : (s.heap.update T (Obj.mapFields (·.setIfInBounds 3 Value.none))).get? e = some oe := (Heap.get?_update_other _ _ ne).trans he
    refine entry_x (s := { s with heap := s.heap.update T (Obj.mapFields (·.setIfInBounds 3 Value.none)) }) hfr (c1.frames hl fun b hb o q => ?_) hf he1 hd (Array.getElem?_eq_some_iff.mp h1).1 fun h' T' c sz => h h' T' ?_ ?_
    · obtain rfl : b = T := by simpa using hb
      rw [gT] at q
      cases q
      exact ⟨ts, dT⟩
    · exact (c1.mono fun b hb => by simp [tbs] at hb ⊢; exact .inr hb).trans (c.mono fun b hb => by simp [tbs] at hb ⊢; exact .inl hb)
    · exact Nat.le_trans c1.size sz


theorem flight_x {T : Addr} {fl : Value} {fr : List Addr} {Q : Unit → Shared → Prop} (hx : XAt s.heap e cls dx (some (T, fl)))
    (h : ∀ h', Chg fr [T] s.heap h' → XAt h' e cls dx (some (T, .none)) → Q () { s with heap := h' }) : wpAny M A (setFlight (.ref e) none) Q E s := by
  obtain ⟨oe, vs, v1, he, hc, hdx, hd, h1, rfl, ne, oT, ts, gT, dT, t3⟩ := hx
  unfold setFlight
  refine wpAny_bind (wpAny_field he hd h1 ?_)
  rw [if_pos (show (Value.ref T != Value.none) = true from by simp)]
  have z3 := (Array.getElem?_eq_some_iff.mp t3).1
  refine wpAny_setField gT dT z3 (h _ (upd_chg gT dT) ?_)
  exact ⟨oe, vs, .ref T, (Heap.get?_update_other _ _ ne).trans he, hc, hdx, hd, h1, rfl, ne, _, _, Heap.get?_update_self _ gT (Obj.isFreed_of_fields (Obj.data_mapFields dT _)), Obj.data_mapFields dT _, by simp [z3]⟩


/-- a def is left -/
theorem leave_x {tb : Option (Addr × Value)} {Q : Unit → Shared → Prop} (hfr : A.frames = some (env :: outer)) (hl : s.heap.FunFrames base (env :: outer)) (hf : env.frame = some L)
    (hx : XAt s.heap e cls dx tb) (ht : tb = none ∨ ∃ T, tb = some (T, .none))
    (h : ∀ h' T, Chg ((env :: outer).filterMap (·.frame)) (e :: tbs tb) s.heap h' → s.heap.objs.size ≤ T → XAt h' e cls dx (some (T, .none)) → Q () { s with heap := h' }) :
    wpAny M A (leaving env (.ref e)) Q E s := by
  unfold leaving
  refine wpAny_bind (note_x hfr hl hf hx ht fun h1 T c1 z1 x1 => ?_)
  exact flight_x (s := { s with heap := h1 }) (fr := (env :: outer).filterMap (·.frame)) x1 fun h2 c2 x2 => h h2 T (c1.trans' c2 fun b hb => .inr (by
    obtain rfl : b = T := by simpa using hb
    exact z1)) z1 x2
end
end X8


set_option maxRecDepth 100000
set_option linter.all false
set_option maxHeartbeats 4000000
namespace X8
open PySem PySem.W PySem.Calls PyProof.Rows Builtin Builtin.ObjectAttr

/-! ### a class of refusals, as it stands in the written part -/
theorem refuse_v (self : Value) : refuseLoop self "__setattr__" [.type "ValueError", .type "Exception", .type "BaseException", .type "object"] = pure () := by kernel_rfl

section
variable {prog : Program} {w : World} {A : Around} {E : Value → Shared → Prop} {s : Shared} {K : Frag} {x C : Addr} {ox : Obj} {od : Option Obj} {name : Str}





end
end X8


set_option maxRecDepth 100000
set_option linter.all false
set_option maxHeartbeats 4000000
namespace X8
open PySem PySem.W PySem.Calls PyProof.Rows Builtin Builtin.ObjectAttr

abbrev rawTup (rest : List Value) : Obj := { cls := .type "tuple", data := .seq rest.toArray }
abbrev rawExc (C t : Addr) (dx : Option Addr) : Obj := { cls := .ref C, dict := dx, data := .fields #[.ref t, .none, .none, .none, .bool false, .none] }
abbrev V4 : List Value := [.type "ValueError", .type "Exception", .type "BaseException", .type "object"]

section
variable {prog : Program} {w : World} {A : Around} {E : Value → Shared → Prop} {h : Heap} {g : Array GenState} {d : Drawn} {t : Nat} {os : OsState} {K : Frag}
variable {nm q : Str} {C N : Addr} {bs bm : List Value} {hdct : Bool} {sn : List Str} {sub : List Value} {ab : Bool} {col : Option Bool} {dd : Option Addr} {k0 k1 k2 k3 k5 : Option Value}

theorem xnew_check {M : Model} {rest : List Value} {Q : Unit → Shared → Prop} (hC : h.get? C = some (excClassObj nm q C N bs bm hdct sn sub ab col dd k0 k1 k2 k3 k5 "ValueError.__new__"))
    (hB : (Value.ref C :: bm).contains (.type "ValueError") = true) (hq : Q () ⟨h, g, d, t, os⟩) : wpAny M A (checkBuiltinCall "ValueError.__new__" ⟨.ref C :: rest, []⟩) Q E ⟨h, g, d, t, os⟩ := by
  have FV := PySem.F.excBase_ValueError
  have st := FV.noStar
  simp only [checkBuiltinCall, FV.newKind, FV.newSplit, FV.newRow]
  repeat (first | refine wpAny_loadPart_at hC ?_ | (refine wpAny_isSubtype_exc hC ?_; rw [hB]) | refine wpAny_staticBase_exc hC ?_ | refine wpAny_madeBy_exc hC ?_ | simp only [bne_self_eq_false, Bool.false_eq_true, if_false] | wp_step)
  exact hq

theorem xnew_run {rest : List Value} {R : Result → Shared → Prop} (hC : h.get? C = some (excClassObj nm q C N bs bm hdct sn sub ab col dd k0 k1 k2 k3 k5 "ValueError.__new__"))
    (hB : (Value.ref C :: bm).contains (.type "ValueError") = true) (hA : (Value.ref C :: bm).contains (.type "AttributeError") = false) (hN : (Value.ref C :: bm).contains (.type "NameError") = false) (hrest : rest.length ≤ sizeLine)
    (hq : R (.ok (.ret (.ref (h.objs.size + 1)))) ⟨(h.push (rawTup rest)).push (rawExc C h.objs.size none), g, d, t, os⟩) :
    codeAny (model prog w) A (.builtin "ValueError.__new__" ⟨.ref C :: rest, []⟩) R ⟨h, g, d, t, os⟩ := by
  have FV := PySem.F.excBase_ValueError
  have en := FV.ends
  refine codeAny_builtinAt FV.entry ?_
  unfold Builtin.«BaseException.__new__»
  refine PySem.wpAt_bind ?_
  show PySem.wpAt _ _ _ (stack >>= _) _ _ _
  refine PySem.wpAt_bind (PySem.wpAt_stack fun p below => PySem.wpAt_of_wpAny ?_)
  wp_walk
  refine PySem.wpAt_of_wpAny ?_
  rw [FV.owner]
  repeat (first | with_reducible refine wpAny_madeHere_exc FV.canon hC ?_ | with_reducible refine wpAny_loadPart_at hC ?_ | (with_reducible refine wpAny_isSubtype_exc hC ?_; first | rw [hB] | rw [hA] | rw [hN]) | wp_step)
  show R _ _
  rw [Heap.size_push]
  exact hq

theorem xtype_call {rest : List Value} {fI : Addr} {Q : Fin → Shared → Prop} (X : K.In h) (hC : h.get? C = some (excClassObj nm q C N bs bm hdct sn sub ab col dd k0 k1 k2 k3 k5 "ValueError.__new__"))
    (hB : (Value.ref C :: bm).contains (.type "ValueError") = true) (hA : (Value.ref C :: bm).contains (.type "AttributeError") = false) (hN : (Value.ref C :: bm).contains (.type "NameError") = false) (hrest : rest.length ≤ sizeLine)
    (hi : findIn K (.ref C) "__init__" = some (some (.ref fI))) (hf : typeIn K (.ref fI) = some (.type "function"))
    (hq : wpAny (model prog w) A (call (.ref fI) (.ref (h.objs.size + 1) :: rest)) (fun r s' => r = .none ∧ Q (.done (.ret (.ref (h.objs.size + 1)))) s') E ⟨(h.push (rawTup rest)).push (rawExc C h.objs.size none), g, d, t, os⟩) :
    wpAny (model prog w) A (Builtin.«type.__call__» ⟨.ref C :: rest, []⟩) Q E ⟨h, g, d, t, os⟩ := by
  have FV := PySem.F.excBase_ValueError
  repeat (first | with_reducible refine wpAny_loadPart_at hC ?_ | with_reducible refine wpAny_madeBy_exc hC ?_ | wp_step)
  refine codeAny_call_builtin_code (Code.quiet_builtin _ FV.quiet) (xnew_check hC hB ?_)
  refine xnew_run hC hB hA hN hrest ?_
  show wpAny _ _ _ _ _ _
  have kp : ∀ b o, h.get? b = some o → ((h.push (rawTup rest)).push (rawExc C h.objs.size none)).get? b = some o := fun b o e => Heap.get?_push_of_some _ (Heap.get?_push_of_some _ e)
  have C1 := kp _ _ hC
  have X1 : K.In ((h.push (rawTup rest)).push (rawExc C h.objs.size none)) := X.keeps kp
  have ge : ((h.push (rawTup rest)).push (rawExc C h.objs.size none)).get? (h.objs.size + 1) = some (rawExc C h.objs.size none) := by heap_get
  have hcC : (Value.ref C :: bm).contains (.ref C) = true := by simp
  unfold isInstance
  repeat (first | with_reducible refine wpAny_loadPart_at ge ?_ | (with_reducible refine wpAny_isSubtype_exc C1 ?_; rw [hcC]) | wp_step)
  show wpAny _ _ (typeLookup (.ref C) _) _ _ _
  refine (looks_findIn X1 hi).at ?_
  refine wpAny_holding (wpAny_bind ((bind_fn X1 _ hf).at ?_))
  refine wpAny_bind (wpAny_mono hq (fun r s' hr => ?_) fun _ _ z => z)
  obtain ⟨rfl, z⟩ := hr
  wp_walk
  exact z

theorem xcall {rest : List Value} {fI : Addr} {Q : Value → Shared → Prop} (X : K.In h) (hC : h.get? C = some (excClassObj nm q C N bs bm hdct sn sub ab col dd k0 k1 k2 k3 k5 "ValueError.__new__"))
    (hB : (Value.ref C :: bm).contains (.type "ValueError") = true) (hA : (Value.ref C :: bm).contains (.type "AttributeError") = false) (hN : (Value.ref C :: bm).contains (.type "NameError") = false) (hrest : rest.length ≤ sizeLine)
    (hi : findIn K (.ref C) "__init__" = some (some (.ref fI))) (hf : typeIn K (.ref fI) = some (.type "function"))
    (hq : wpAny (model prog w) (A.under (.builtin "type.__call__" ⟨.ref C :: rest, []⟩)) (call (.ref fI) (.ref (h.objs.size + 1) :: rest)) (fun r s' => r = .none ∧ Q (.ref (h.objs.size + 1)) s') E ⟨(h.push (rawTup rest)).push (rawExc C h.objs.size none), g, d, t, os⟩) :
    wpAny (model prog w) A (call (.ref C) rest) Q E ⟨h, g, d, t, os⟩ := by
  have f1 := tc_lookup
  have f2 := tc_bind (.ref C)
  have hT : (⟨h, g, d, t, os⟩ : Shared).TypeIs (.ref C) "type" := ⟨_, hC, rfl⟩
  refine wpAny_call (codeAny_of_tree ?_)
  show wpAny _ _ (callAny (.ref C) _) _ _ _
  repeat (any_goals (first | assumption | with_reducible refine wpAny_loadPart_at hC ?_ | wp_step))
  refine ⟨rfl, ?_⟩
  refine codeAny_call_builtin_at (Code.quiet_builtin _ (by decide +kernel)) entry_typeCall (wpAny_check_type_call_sub hC (xtype_call X hC hB hA hN hrest hi hf ?_))
  exact hq

/-- the base's own __init__ -/
theorem xinit_check {M : Model} {e t0 : Addr} {dx : Option Addr} {b : Value} {Q : Unit → Shared → Prop} (hC : h.get? C = some (excClassObj nm q C N bs bm hdct sn sub ab col dd k0 k1 k2 k3 k5 "ValueError.__new__"))
    (hB : (Value.ref C :: bm).contains (.type "ValueError") = true) (he : h.get? e = some (rawExc C t0 dx)) (hq : Q () ⟨h, g, d, t, os⟩) :
    wpAny M A (checkBuiltinCall "ValueError.__init__" ⟨[.ref e, b], []⟩) Q E ⟨h, g, d, t, os⟩ := by
  have FV := PySem.F.excBase_ValueError
  have st := FV.noStar
  simp only [checkBuiltinCall, FV.initKind, FV.initSplit, FV.initRow]
  repeat (first | with_reducible refine wpAny_loadPart_at he ?_ | with_reducible refine wpAny_loadPart_at hC ?_ | (with_reducible refine wpAny_isSubtype_exc hC ?_; rw [hB]) | wp_step)
  exact hq
theorem xinit {e t0 : Addr} {dx : Option Addr} {b : Value} {Q : Value → Shared → Prop} (hC : h.get? C = some (excClassObj nm q C N bs bm hdct sn sub ab col dd k0 k1 k2 k3 k5 "ValueError.__new__"))
    (hB : (Value.ref C :: bm).contains (.type "ValueError") = true) (he : h.get? e = some (rawExc C t0 dx))
    (hq : Q .none ⟨(h.push (rawTup [b])).update e (Obj.mapFields (·.setIfInBounds 0 (.ref h.objs.size))), g, d, t, os⟩) :
    wpAny (model prog w) A (call (.builtin "ValueError.__init__") [.ref e, b]) Q E ⟨h, g, d, t, os⟩ := by
  have FV := PySem.F.excBase_ValueError
  refine wpAny_call (codeAny_call_builtin FV.init.plain FV.initEntry (xinit_check hC hB he ?_))
  have e1 : (h.push (rawTup [b])).get? e = some (rawExc C t0 dx) := Heap.get?_push_of_some _ he
  wp_walk
  exact hq
end
end X8


set_option maxRecDepth 100000
set_option linter.all false
set_option maxHeartbeats 4000000
namespace X8
open PySem PySem.Calls PyProof.Rows

/-- a class of refusals in the written part: its object, its looks -/
structure XCls (K : PySem.W.Frag) (C S : Addr) : Prop where
  obj : ∃ nm q N bs sn sub ab col dd k0 k1 k2 k3 k5, K.lookup C = some (excClassObj nm q C N bs (.ref S :: V4) true sn sub ab col dd k0 k1 k2 k3 k5 "ValueError.__new__")
  ga : PySem.W.findIn K (.ref C) "__getattribute__" = some (some (.builtin "BaseException.__getattribute__"))
  gh : PySem.W.findIn K (.ref C) "__getattr__" = some none
  sa : PySem.W.findIn K (.ref C) "__setattr__" = some (some (.builtin "object.__setattr__"))
  kc : PySem.W.findIn K (.ref C) "__class__" = some (some (.builtin "object.__class__"))
  kg : PySem.W.specialIn K (.builtin "object.__class__") "__get__" = some (some (.builtin "getset_descriptor.__get__"))
  kt : PySem.W.takesIn K (.builtin "object.__class__") = some true
  kp : PySem.W.keepIn K (.ref C) = true
/-- the base of all refusals -/
structure XBase (K : PySem.W.Frag) (S : Addr) : Prop where
  obj : ∃ nm q N bs sn sub ab col dd k0 k1 k2 k3 k5, K.lookup S = some (excClassObj nm q S N bs V4 true sn sub ab col dd k0 k1 k2 k3 k5 "ValueError.__new__")
  ga : PySem.W.specialIn K (.ref S) "__getattribute__" = some (some (.builtin "type.__getattribute__"))
  rd : PySem.W.readsIn K S (.type "type") = true
  it : PySem.W.findCls K (.ref S) (.type "type") "__init__" = some (.val (.builtin "ValueError.__init__"))
theorem XCls.cls {K : PySem.W.Frag} {C S : Addr} (c : XCls K C S) : ∃ cd, PySem.W.clsIn K C = some cd ∧ cd.hasDict = true ∧ cd.mro = .ref C :: .ref S :: V4 := by
  obtain ⟨nm, q, N, bs, sn, sub, ab, col, dd, k0, k1, k2, k3, k5, e⟩ := c.obj
  exact ⟨_, by unfold PySem.W.clsIn; rw [e], rfl, rfl⟩
theorem XCls.mro {K : PySem.W.Frag} {C S : Addr} (c : XCls K C S) {b : Value} : PySem.W.mroIn K C b = some ((Value.ref C :: .ref S :: V4).contains b) := by
  obtain ⟨cd, e, _, m⟩ := c.cls
  unfold PySem.W.mroIn
  rw [e, Option.bind_some, m]
  rfl
theorem XCls.hd {K : PySem.W.Frag} {C S : Addr} (c : XCls K C S) : PySem.W.hasDictIn K C = true := by
  obtain ⟨cd, e, d, _⟩ := c.cls
  unfold PySem.W.hasDictIn
  rw [e]
  exact d

/-! ### a field is stored at a new refusal: its dict is made -/
section
open PySem.W Builtin Builtin.ObjectAttr
variable {prog : Program} {w : World} {A : Around} {E : Value → Shared → Prop} {s : Shared} {K : Frag}
theorem xset {e C S t0 : Addr} {v : Value} {name : Str} {Q : Unit → Shared → Prop} (X : K.In s.heap) (he : s.heap.get? e = some (rawExc C t0 none)) (c : XCls K C S) (hna : findIn K (.ref C) name = some none)
    (hq : ∀ h' tk, h'.get? e = some (rawExc C t0 (some s.heap.objs.size)) → h'.Ns1 s.heap.objs.size (fun y => if y = name then some v else none) → (∀ b o, b ≠ e → s.heap.get? b = some o → h'.get? b = some o) → Q () { s with heap := h', toks := tk }) :
    wpAny (model prog w) A (setAttr (.ref e) name v) Q E s := by
  obtain ⟨cd, hc, hhd, hmro⟩ := c.cls
  have I : InstAt s.heap e (rawExc C t0 none) C none := ⟨he, rfl, rfl, trivial⟩
  refine set_plain X I c.sa ?_
  have SF := PySem.F.store_object
  have sub : Looks (model prog w) s.heap (isInstance (.ref e) (.type "object")) true := I.type.andThen (looks_mroIn X (by rw [c.mro]; rfl))
  refine codeAny_call_builtin SF.slot.plain SF.entry (@check_slot (model prog w) _ _ { s with toks := s.toks + 1 } "object.__setattr__" "object" "__setattr__" (.ref e) [.str name s.toks, v] [] _ SF.kind SF.split sub (SF.args (.ref e) (.str name s.toks) v) ?_)
  have hm : Looks (model prog w) s.heap (mroOf (.ref C)) cd.mro := (looks_clsIn X hc).andThen .now
  rw [osa_eq, refuse_eq]
  refine wpAny_bind (wpAny_bind (Looks.here (s := { s with toks := s.toks + 1 }) I.type (wpAny_bind (Looks.here (s := { s with toks := s.toks + 1 }) hm ?_))))
  rw [hmro, refuseLoop_ref, refuseLoop_ref, refuse_v]
  refine wpAny_pure (wpAny_bind (Looks.here (s := { s with toks := s.toks + 1 }) I.type (wpAny_bind (Looks.here (s := { s with toks := s.toks + 1 }) (looks_findIn X hna) (wpAny_bind (wpAny_pure (a := none) ?_))))))
  show wpAny _ _ (storeInOwnDict (.ref e) (.ref C) (.str name s.toks) name v false) _ _ _
  refine wpAny_bind (wpAny_pure (wpAny_bind (wpAny_bind (wpAny_loadPart he (wpAny_bind (Looks.here (s := { s with toks := s.toks + 1 }) (looks_clsIn X hc) ?_))))))
  rw [hhd]
  have e1 : (s.heap.push { cls := .type "dict", data := .dict #[] }).get? e = some (rawExc C t0 none) := Heap.get?_push_of_some _ he
  have ne : e ≠ s.heap.objs.size := Nat.ne_of_lt (Heap.lt_size he)
  show wpAny _ _ (alloc { cls := .type "dict", data := .dict #[] } >>= _) _ _ _
  refine wpAny_bind (wpAny_alloc (wpAny_bind (wpAny_update e1 (wpAny_pure ?_))))
  have gd : ((s.heap.push { cls := .type "dict", data := .dict #[] }).update e fun o => { o with dict := some s.heap.objs.size }).get? s.heap.objs.size = some { cls := .type "dict", data := .dict #[] } :=
    (Heap.get?_update_ne _ _ _ _ ne.symm).trans (Heap.get?_push_at rfl rfl)
  have nd : ((s.heap.push { cls := .type "dict", data := .dict #[] }).update e fun o => { o with dict := some s.heap.objs.size }).Ns s.heap.objs.size (fun _ => none) :=
    ⟨_, #[], _, gd, rfl, fun e he => absurd he (by simp), fun _ => rfl⟩
  show wpAny _ _ (storeInDict s.heap.objs.size (.str name s.toks) name v) _ _ _
  unfold storeInDict newKeyGuard
  refine wpAny_bind (wpAny_pure (wpAny_bind (wpAny_nsSet1 (Heap.Ns1.of_empty nd) fun h' hn' hs => ?_)))
  obtain ⟨oD, esD, epD, hoD, hdD, hcD⟩ := hn'.count (Within.cons name v Within.nil)
  refine wpAny_bind (wpAny_lookBehind hoD (by rw [hdD]; exact pastItsLine_dict (Nat.le_trans hcD (by rw [List.length_cons, List.length_nil, sizeLine_eq]; omega))) ?_)
  refine wpAny_pure ?_
  refine hq h' _ ?_ hn' fun b o hb q => ?_
  · exact (hs.2 e ne).trans (Heap.get?_update_self _ e1 rfl)
  · exact (hs.2 b (Nat.ne_of_lt (Heap.lt_size q))).trans ((Heap.get?_update_ne _ _ _ _ hb).trans (Heap.get?_push_of_some _ q))

end
end X8


set_option maxRecDepth 100000
set_option linter.all false
set_option maxHeartbeats 4000000
set_option Elab.async false
namespace X8
open PySem PySem.Spec PyProof.Rows L2
abbrev St := L2.St

/-! ### refusals over the layer -/
section
variable {X : Cx} {pins : List (Addr × Obj)} {σ : St} {H : Hp} {s : Shared}
/-- only records of ours and frames' slots have changed -/
theorem Inv.chg {h' : Heap} {ch : List Addr} (I : Inv X pins σ H s) (c : Chg (frs X.stack) ch s.heap h') (hch : ∀ b ∈ ch, FpOk X pins H b) : Inv X pins σ H { s with heap := h' } := by
  have nt : ∀ b o, H b = some o → b ∉ ch := fun b o e z => by rw [(hch b z).1] at e; cases e
  have nf : ∀ b o, H b = some o → b ∉ frs X.stack := fun b o e z => by rw [I.stkFree b z] at e; cases e
  have hok : HOk X.prog X.w H h' := fun b o e => (I.hok b o e).stay (fun a u ha q => by
    rcases ha with rfl | ha
    · exact c.keep a u q (nf a o e) (nt a o e)
    · exact c.keep a u q (nf a _ ha) (nt a _ ha)) (fun _ q => q) fun _ _ q => q
  refine I.call' (s' := { s with heap := h' }) (ch := ch) rfl ⟨fun b o q n a z => c.keep b o q a z, fun b o q n a z => c.slot b o q z, fun b o q n z => n, fun b o q z => let ⟨sl, r⟩ := c.slot b o q z; ⟨_, r⟩, fun _ _ q => q, fun _ _ _ q => q, fun b ps q => ⟨#[], by rw [q]; simp⟩⟩ hok I.bare fun b z => ?_
  obtain ⟨_, f1, f2, f3, f4, f5⟩ := hch b z
  exact ⟨f3, f1, f4, f5⟩
end

/-- how a refusal lies behind a call -/
def CXe (P : Program) (w : World) : CXT := fun outer H s E ev s' =>
  ∃ (e T : Addr) (cls : Value) (dx : Option Addr) (H' : Hp), ev = .ref e ∧ s'.os = s.os ∧ AllBare s'.gens ∧ Un (frs outer) [] H H' s.heap s'.heap ∧ HOk P w H' s'.heap ∧
    s.heap.objs.size ≤ e ∧ s.heap.objs.size ≤ T ∧ H' e = none ∧ H' T = none ∧ XAt s'.heap e cls dx (some (T, .none)) ∧ E cls dx H'

/-- this code takes refusals that E lets by -/
def Catches (X : Cx) (E : St → XK) : Prop := ∀ (pins : List (Addr × Obj)) (σ : St) (H : Hp) (s : Shared) (e : Addr) (cls : Value) (dx : Option Addr) (tb : Option (Addr × Value)), Inv X pins σ H s → XAt s.heap e cls dx tb →
  (tb = none ∨ ∃ T, tb = some (T, .none) ∧ FpOk X pins H T) → FpOk X pins H e → E σ cls dx H → X.xe (.ref e) s

theorem pass1 {P : Program} {w : World} {X : Cx} : Passes (CXe P w) X E0 := fun _ _ _ _ _ _ _ h => by
  obtain ⟨_, _, _, _, _, _, _, _, _, _, _, _, _, _, _, z⟩ := h
  exact False.elim z

/-- a def's body -/
theorem catches_def {P : Program} {w : World} {K : PySem.W.Frag} {mg : Str → Option Value} {base : Heap} {N : List Str} {qual : Str} {scope : Scope} {f : Addr} {cd : Value} {A : Around} {outer : List Env} {s₀ : Shared} {H₀ : Hp} {E : XK} :
    Catches (cxOf (CXe P w) P w K mg base N qual scope f cd A outer s₀ H₀ E) fun _ => E := by
  intro pins σ H s e cls dx tb I xa ht fe q
  have key : ∀ b ∈ e :: tbs tb, FpOk (cxOf (CXe P w) P w K mg base N qual scope f cd A outer s₀ H₀ E) pins H b := fun b hb => by
    rcases List.mem_cons.mp hb with rfl | hb
    · exact fe
    · rcases ht with rfl | ⟨T, rfl, fT⟩
      · exact absurd hb (by simp [tbs])
      · obtain rfl : b = T := by simpa [tbs] using hb
        exact fT
  show wpAny _ _ (leaving _ (.ref e)) _ _ s
  refine leave_x (base := base) (outer := outer) I.ok.frames I.stack rfl xa (ht.imp (fun z => z) fun ⟨T, z, _⟩ => ⟨T, z⟩) fun h' T c sz xa' => ?_
  have I' := Inv.chg I c key
  have hT : H T = none := I.hok.fresh sz
  refine ⟨e, T, cls, dx, H, rfl, I'.os, I'.bare, I'.base, I'.hok, ?_, Nat.le_trans I.sz sz, fe.1, hT, xa', q⟩
  rcases fe.2.2.2.1 with z | z
  · exact absurd (show e ∈ ([] : List Addr) from z) (by simp)
  · exact z

/-- THE RULE for a def that may refuse -/
theorem Fun.okX {P : Program} {w : World} {K : PySem.W.Frag} {mg : Str → Option Value} {base : Heap} {x qual : Str} {st : Stmt} {f : Addr} {fd : FuncData} {N ps : List Str} {k : Nat} {sp : Sp} (F : L2.Fun K x qual st f fd) (S : FnScope N ps (defScope st)) (len : ∀ vs H Q E, sp vs H Q E → vs.length = ps.length)
    (hbody : ∀ (cdv : Value) (A : Around) (outer : List Env) (s : Shared) (H : Hp) (vs : List V) (Q : VK) (E : XK), Room k (A.deeper (envOfC qual (defScope st) s.heap.objs.size f cdv)) → sp vs H Q E →
      ∃ t, PSs (cxOf (CXe P w) P w K mg base N qual (defScope st) f cdv A outer s H E) (defBody st) t ∧ t { nx := fun _ H' => Q .non H', rt := Q } (start N vs) H) : FnOk P w K mg base (CXe P w) (k + 1) f fd ps sp := by
  obtain ⟨oc, od, kV, doc, pm, an, cdv, ct, osl, rfl, lk, hcd⟩ := F.ex
  exact fn_of lk hcd S len fun A outer s H vs Q E hr hsp => hbody cdv A outer s H vs Q E hr hsp
end X8


set_option maxRecDepth 100000
set_option linter.all false
set_option maxHeartbeats 4000000
set_option Elab.async false
namespace X8
open PySem PySem.Spec PyProof.Rows L2

/-! ### a name goes -/
section
variable {X : Cx} {pins : List (Addr × Obj)} {σ : St} {H : Hp} {s : Shared}

/-- what is tracked is forgotten -/
theorem Inv.forget {a : Addr} {φ : Heap → Prop} {H' : Hp} (I : Inv X pins σ H s) (ha : H a = some (.ext φ)) (h1 : ∀ b, b ≠ a → H' b = H b) (h2 : H' a = none) : Inv X pins σ H' s := by
  have ne : ∀ b o, H b = some o → (∀ ψ, o ≠ .ext ψ) → b ≠ a := fun b o e n z => by subst z; rw [ha] at e; cases e; exact n _ rfl
  have hok : HOk X.prog X.w H' s.heap := fun b o e => by
    have hb : b ≠ a := fun z => by rw [z, h2] at e; cases e
    rw [h1 b hb] at e
    exact (I.hok b o e).stay (fun _ _ _ q => q) (fun c q => by rw [h1 c (ne c _ q (fun _ z => by cases z))]; exact q) fun c xs q => by rw [h1 c (ne c _ q (fun _ z => by cases z))]; exact q
  refine I.call' (s' := s) (ch := []) rfl ⟨fun b o q n _ _ => q, fun b o q n _ _ => ⟨o.slots, q⟩, fun b o q n _ => ?_, fun b o q _ => ⟨o, q⟩, fun b xs q => ?_, fun b o u q => ?_, fun b ps q => ⟨#[], ?_⟩⟩ hok I.bare fun b z => absurd z (by simp)
  · by_cases hb : b = a
    · rw [hb]; exact h2
    · rw [h1 b hb]; exact n
  · rw [h1 b (ne b _ q (fun _ z => by cases z))]; exact q
  · rw [h1 b (ne b _ q (fun _ z => by cases z))]; exact q
  · rw [h1 b (ne b _ q (fun _ z => by cases z)), q]; simp
/-- an untracked object of ours is tracked from now on -/
theorem Inv.track {a : Addr} {o : HO} (I : Inv X pins σ H s) (fp : FpOk X pins H a) (nex : X.ex = []) (new : ObjOk X.prog X.w (upd H a o) s.heap a o) : Inv X pins σ (upd H a o) s := by
  obtain ⟨f0, f1, f2, f3, f4, f5⟩ := fp
  have nt : ∀ b u, H b = some u → b ≠ a := fun b u e z => by rw [z, f0] at e; cases e
  have hok : HOk X.prog X.w (upd H a o) s.heap := fun b u e => by
    by_cases hb : b = a
    · subst hb; rw [upd_same] at e; cases e; exact new
    · rw [upd_ne hb] at e
      exact (I.hok b u e).stay (fun _ _ _ q => q) (fun c q => by rw [upd_ne (nt c _ q)]; exact q) fun c xs q => by rw [upd_ne (nt c _ q)]; exact q
  have hs0 : X.s₀.heap.objs.size ≤ a := by
    rcases f3 with z | z
    · rw [nex] at z; exact absurd z (by simp)
    · exact z
  have nb : ∀ b ob, X.s₀.heap.get? b = some ob → b ≠ a := fun b ob e z => absurd (Nat.lt_of_lt_of_le (Heap.lt_size e) (by rw [z]; exact hs0)) (Nat.lt_irrefl _)
  refine ⟨I.ok, I.os, I.bare, ⟨I.base.keep, I.base.slot, fun b ob e n hx => ?_, I.base.there, fun b xs e => ?_, fun b ob u e => ?_, fun b ps e => ?_⟩, I.loc, I.cell, ?_, fun x c e => ?_, fun p hp => ?_, hok, I.len⟩
  · rw [upd_ne (nb b ob e)]; exact I.base.free b ob e n hx
  · have q := I.base.tups b xs e
    rw [upd_ne (nt b _ q)]; exact q
  · have q := I.base.frzs b ob u e
    rw [upd_ne (nt b _ q)]; exact q
  · obtain ⟨more, q⟩ := I.base.tbls b ps e
    exact ⟨more, by rw [upd_ne (nt b _ q)]; exact q⟩
  · rw [upd_ne (Ne.symm f1)]; exact I.free
  · rw [upd_ne (f4 x c e)]; exact I.freeC x c e
  · obtain ⟨e, n, r⟩ := I.pin p hp
    exact ⟨e, by rw [upd_ne (f5 p hp)]; exact n, r⟩
end

/-! ### an exception as a tracked thing -/
def XRaw (e C : Addr) : HO := .ext fun h => ∃ t, h.get? e = some (rawExc C t none)
def XDct (e C dx : Addr) : HO := .ext fun h => ∃ t, h.get? e = some (rawExc C t (some dx))
/-- behind a catch -/
def XGot (e C dx : Addr) : HO := .ext fun h => ∃ oe vs, h.get? e = some oe ∧ oe.cls = .ref C ∧ oe.dict = some dx ∧ oe.data = .fields vs
section
variable {P : Program} {w : World} {H : Hp} {h : Heap}
theorem raw_ok {e C t : Addr} (q : h.get? e = some (rawExc C t none)) : ObjOk P w H h e (XRaw e C) := ⟨⟨t, q⟩, ⟨_, q⟩, fun h1 h2 ⟨t, z⟩ k => ⟨t, k _ z⟩⟩
theorem dct_ok {e C dx t : Addr} (q : h.get? e = some (rawExc C t (some dx))) : ObjOk P w H h e (XDct e C dx) := ⟨⟨t, q⟩, ⟨_, q⟩, fun h1 h2 ⟨t, z⟩ k => ⟨t, k _ z⟩⟩
end

end X8


set_option maxRecDepth 100000
set_option linter.all false
set_option maxHeartbeats 4000000
set_option Elab.async false
namespace X8
open PySem PySem.Spec PyProof.Rows L2

section
variable {X : Cx} {o value a : Expr} {es : List Expr} {f x : Str} {ta tv : TE} {t : TA} {pos pos' apos p np cpos : Pos}
def sXfld (K : PySem.W.Frag) (ta tv : TE) (f : Str) : TS := fun D σ H => tv σ H fun y H1 => ta σ H1 fun x H2 => ∃ e C S, x = .ref e ∧ H2 e = some (XRaw e C) ∧ XCls K C S ∧ PySem.W.findIn K (.ref C) f = some none ∧
  ∀ dx, H2 dx = none → dx ≠ e → D.nx σ (upd (upd H2 dx (.xd [(f, y)])) e (XDct e C dx))
theorem ps_xfld (ha : PE X o ta) (hv : PE X value tv) (hs : swapsWith value (some (.Attribute o f pos')) pos.line X.env = pure false) : PS X (.Assign [.Attribute o f pos'] value pos) (sXfld X.K ta tv f) := by
  intro pins s σ H D I h
  refine plainObj_wpAny_Assign_Attribute (thn (hv pins s σ H _ I h) fun u s1 ⟨y, H1, I1, ry, q⟩ => thn (ha pins s1 σ H1 _ I1 q) fun ov s2 ⟨x, H2, I2, rx, e, C, S, ex, ea, c, n, q2⟩ => ?_) hs
  subst ex
  obtain rfl : ov = Value.ref e := rx
  obtain ⟨⟨t0, ge⟩, _⟩ := (show ObjOk X.prog X.w H2 s2.heap e (XRaw e C) from I2.hok e _ ea)
  have nd : H2 s2.heap.objs.size = none := I2.hok.fresh (Nat.le_refl _)
  have ne : s2.heap.objs.size ≠ e := Nat.ne_of_gt (Heap.lt_size ge)
  refine xset I2.kIn ge c n fun h' tk g1 g2 g3 => ⟨σ, _, ?_, q2 s2.heap.objs.size nd ne⟩
  have nt : ∀ b u, H2 b = some u → b ≠ s2.heap.objs.size := fun b u z => ne_of_none z nd
  have ot : ∀ b u, H2 b = some u → (∀ ψ, u ≠ .ext ψ) → b ≠ e := fun b u z k w => by subst w; rw [ea] at z; cases z; exact k _ rfl
  have hE : ∀ b, b ≠ e → b ≠ s2.heap.objs.size → (upd (upd H2 s2.heap.objs.size (.xd [(f, y)])) e (XDct e C s2.heap.objs.size)) b = H2 b := fun b h1 h2 => by rw [upd_ne h1, upd_ne h2]
  refine I2.un (h' := h') (t' := tk) ⟨fun b ob z k _ _ => g3 b ob (fun w => by subst w; rw [ea] at k; cases k) z, fun b ob z k _ _ => ⟨ob.slots, g3 b ob (fun w => by subst w; rw [ea] at k; cases k) z⟩, fun b ob z k _ => ?_, fun b ob z _ => ?_, fun b xs z => ?_, fun b ob u z => ?_, fun b ps z => ⟨#[], ?_⟩⟩ fun b u z => ?_
  · rw [hE b (fun w => by subst w; rw [ea] at k; cases k) (Nat.ne_of_lt (Heap.lt_size z))]; exact k
  · by_cases w : b = e
    · subst w; exact ⟨_, g1⟩
    · exact ⟨ob, g3 b ob w z⟩
  · rw [hE b (ot b _ z (fun _ w => by cases w)) (nt b _ z)]; exact z
  · rw [hE b (ot b _ z (fun _ w => by cases w)) (nt b _ z)]; exact z
  · rw [hE b (ot b _ z (fun _ w => by cases w)) (nt b _ z), z]; simp
  · by_cases w : b = e
    · subst w; rw [upd_same] at z; cases z; exact dct_ok g1
    · rw [upd_ne w] at z
      by_cases w2 : b = s2.heap.objs.size
      · subst w2; rw [upd_same] at z; cases z
        refine ⟨_, g2, fun g => ?_⟩
        show RelO (([(f, y)] : List (Str × V)).lookup g) (if g = f then some u else none)
        rw [List.lookup_cons]
        by_cases w3 : g = f
        · rw [if_pos w3, beq_iff_eq.mpr w3]; exact ry
        · rw [if_neg w3, beq_eq_false_iff_ne.mpr w3]; exact trivial
      · rw [upd_ne w2] at z
        refine (I2.hok b u z).stay (fun d r hd q => g3 d r (fun w3 => ?_) q) (fun d q => ?_) fun d xs q => ?_
        · subst w3
          rcases hd with rfl | hd
          · exact w rfl
          · rw [ea] at hd; cases hd
        · rw [hE d (ot d _ q (fun _ w => by cases w)) (nt d _ q)]; exact q
        · rw [hE d (ot d _ q (fun _ w => by cases w)) (nt d _ q)]; exact q

/-- S.__init__(self, text), S the base of all refusals -/
def tXBase (K : PySem.W.Frag) (t : TA) : TE := fun σ H Q => t σ H fun vs H1 => ∃ e C S y, vs = [.ref e, y] ∧ H1 e = some (XRaw e C) ∧ XCls K C S ∧ Q .non (upd H1 e (XRaw e C))
theorem pe_xbase {S : Addr} {pl : Sem Bool} (hg : Gl X x) (hm : X.mg x = some (.ref S)) (b : XBase X.K S) (ha : PA X (a :: es) t) (hdb : (x == ("__debug__" : Str)) = false := by decide)
    (hst : starEach (a :: es) X.env = (false, eval a X.env) :: starEach es X.env := by rfl) (hpl : (backTo pos (starEach es X.env)).any (·.1) = false := by rfl)
    (ht : eval (.Call (.Attribute (.Name x p) "__init__" apos) (a :: es) [] pos) X.env = (do
      let ov ← eval (.Name x p) X.env
      standAt apos.atName
      let (f, first) ← holding [ov] (getMethod ov "__init__" pl)
      callWith pos f first (backTo pos (starEach (a :: es) X.env)) (backToKw pos (keywordEach [] X.env))) := by rfl) :
    PE X (.Call (.Attribute (.Name x p) "__init__" apos) (a :: es) [] pos) (tXBase X.K t) := by
  intro pins s σ H Q I h
  refine PySem.W.methodCall_KW (pl := pl) (ld_glob I hg hm ?_ hdb) ht
  refine PySem.W.method_cls I.kIn b.ga (PySem.W.cls_value I.kIn b.rd b.it (by decide +kernel) ?_)
  refine PyProof.Rows.callWith_builtin1 (thn (ha pos pins _ σ H _ (I.tok (s.toks + 1)) h) fun us s1 ⟨vs, H1, I1, r1, q1⟩ => ?_) hst hpl
  obtain ⟨e, C, S', y, rfl, ea, c, q⟩ := q1
  obtain ⟨⟨t0, ge⟩, _⟩ := (show ObjOk X.prog X.w H1 s1.heap e (XRaw e C) from I1.hok e _ ea)
  obtain ⟨u, v, rfl, ru, rv⟩ := Vals.two r1
  obtain rfl : u = Value.ref e := ru
  obtain ⟨hh, g, d, tk, os⟩ := s1
  obtain ⟨nm, qn, N, bs, sn, sub, ab, col, dd, k0, k1, k2, k3, k5, ec⟩ := c.obj
  refine xinit (I1.kIn C _ ec) rfl ge ⟨.non, _, ?_, rfl, q⟩
  have e1 : (hh.push (rawTup [v])).get? e = some (rawExc C t0 none) := Heap.get?_push_of_some _ ge
  have I2 : Inv X pins σ H1 ⟨hh.push (rawTup [v]), g, d, tk, os⟩ := I1.kept (t' := tk) fun b u z => Heap.get?_push_of_some _ z
  have e2 : ((hh.push (rawTup [v])).update e (Obj.mapFields (·.setIfInBounds 0 (.ref hh.objs.size)))).get? e = some (rawExc C hh.objs.size none) := Heap.get?_update_self _ e1 rfl
  exact I2.write (x := e) (e := e) (o := XRaw e C) (t' := tk) (by rw [ea]; exact trivial) (.inl rfl) (fun b u hb z => (Heap.get?_update_other _ _ (Ne.symm hb)).trans z) ⟨_, e2⟩ (raw_ok e2)

/-- what a class of refusals promises of its __init__ -/
def spXInit (C : Addr) (f : Str) : Sp := fun vs H Q _ => ∃ e y, vs = [.ref e, y] ∧ H e = some (XRaw e C) ∧ ∀ dx, H dx = none → dx ≠ e → Q .non (upd (upd H dx (.xd [(f, y)])) e (XDct e C dx))

/-- raise C(a) -/
theorem ps_raise {C S fI : Addr} {fd : FuncData} {k : Nat} {q : Str} {E : St → XK} (c : XCls X.K C S) (hi : PySem.W.findIn X.K (.ref C) "__init__" = some (some (.ref fI))) (hf : PySem.W.isFn X.K (.ref fI) = true)
    (F : FnOk X.prog X.w X.K X.mg X.base CX0 k fI fd ["self", q] (spXInit C f)) (hr : Room (k + 1) X.A) (hg : Gl X x) (hm : X.mg x = some (.ref C)) (hb : Binds X.K fd ["self", q] []) (hc : Catches X E) (ha : PE X a ta)
    (hh : X.calm = true) (hdb : (x == ("__debug__" : Str)) = false := by decide) (he : starEach [a] X.env = (false, eval a X.env) :: starEach [] X.env := by rfl) :
    PS X (.Raise (some (.Call (.Name x np) [a] [] cpos)) none pos) (fun _ σ H => ta σ H fun y H1 => ∀ dx, H1 dx = none → E σ (.ref C) (some dx) (upd H1 dx (.xd [(f, y)]))) := by
  intro pins s σ H D I h
  rw [arm_exec_Raise]
  refine wpAny_bind (wpAny_standAt ?_)
  show wpAny _ _ (raiseStmt X.env (some (do let v ← eval (.Call (.Name x np) [a] [] cpos) X.env; standAt pos; pure v)) none) _ _ _
  unfold raiseStmt
  obtain ⟨nm, qn, N, bs, sn, sub, ab, col, dd, k0, k1, k2, k3, k5, ec⟩ := c.obj
  have made : wpAny (model X.prog X.w) X.A (eval (.Call (.Name x np) [a] [] cpos) X.env) (fun v s1 => ∃ e dx t y H1, v = .ref e ∧ Inv X pins σ (upd H1 dx (.xd [(f, y)])) s1 ∧ s1.heap.get? e = some (rawExc C t (some dx)) ∧
      FpOk X pins (upd H1 dx (.xd [(f, y)])) e ∧ E σ (.ref C) (some dx) (upd H1 dx (.xd [(f, y)]))) X.xe s := by
    refine wpAny_Call_Name_kw (ld_glob I hg hm ?_ hdb)
    refine PySem.W.callWith_K (h₀ := X.base) I.ok.mod.kin c.kp (thn ((pa_cons ha pa_nil he) cpos pins s σ H (fun vs H1 => match vs with | [y] => ∀ dx, H1 dx = none → E σ (.ref C) (some dx) (upd H1 dx (.xd [(f, y)])) | _ => False) I h) fun us s1 ⟨vs, H1, I1, r, q1⟩ => ⟨I1.kIn, ?_⟩) he rfl
    match vs, r, q1 with
    | [y], r, q1 =>
      obtain ⟨gh, g, d, tk, os⟩ := s1
      have hC := I1.kIn C _ ec
      have e0 : H1 (gh.objs.size + 1) = none := I1.hok.fresh (Nat.le_succ _)
      have ge : ((gh.push (rawTup us)).push (rawExc C gh.objs.size none)).get? (gh.objs.size + 1) = some (rawExc C gh.objs.size none) := by heap_get
      have I2 : Inv X pins σ (upd H1 (gh.objs.size + 1) (XRaw (gh.objs.size + 1) C)) ⟨(gh.push (rawTup us)).push (rawExc C gh.objs.size none), g, d, tk, os⟩ :=
        (I1.kept (h' := gh.push (rawTup us)) (t' := tk) fun b u z => Heap.get?_push_of_some _ z).laid (t' := tk) (fun b u z => Heap.get?_push_of_some _ z) (by show (gh.push _).objs.size ≤ _; rw [Heap.size_push]; exact Nat.le_refl _) (raw_ok ge)
      have lu : us.length = 1 := by rw [← r.length]; rfl
      have hl : ((Value.ref (gh.objs.size + 1) :: us) ++ []).length = (["self", q] : List Str).length := by simp [lu]
      have bd := hb ⟨(gh.push (rawTup us)).push (rawExc C gh.objs.size none), g, d, tk, os⟩ (Value.ref (gh.objs.size + 1) :: us) I2.kIn hl
      rw [List.append_nil] at bd
      show wpAny (model X.prog X.w) X.A (call (.ref C) us) _ _ _
      refine xcall I1.kIn hC rfl rfl rfl (by rw [lu, sizeLine_eq]; decide) hi (beq_iff_eq.mp hf) (wpAny_call (codeAny_mono (F.run _ X.stack _ (upd H1 (gh.objs.size + 1) (XRaw (gh.objs.size + 1) C)) ⟨Value.ref (gh.objs.size + 1) :: us, []⟩ (Value.ref (gh.objs.size + 1) :: us) [.ref (gh.objs.size + 1), y]
        (fun v H' => v = .non ∧ ∃ dx, H1 dx = none ∧ dx ≠ gh.objs.size + 1 ∧ H' = upd (upd (upd H1 (gh.objs.size + 1) (XRaw (gh.objs.size + 1) C)) dx (.xd [(f, y)])) (gh.objs.size + 1) (XDct (gh.objs.size + 1) C dx)) E0
        (hr.make C us []) (I2.env0.make C us []) bd (.cons rfl r) ⟨_, y, rfl, upd_same, fun dx nd ne => ⟨rfl, dx, by rw [upd_ne ne] at nd; exact nd, ne, rfl⟩⟩) fun rr s' hq' => ?_))
      cases rr with
      | error e => exact False.elim hq'
      | ok fl =>
        cases fl with
        | next => exact False.elim hq'
        | brk => exact False.elim hq'
        | cont => exact False.elim hq'
        | ret u =>
          obtain ⟨v, H', I3, rv, ev, dx, nd, ne, eH⟩ := I2.after hq'
          subst ev eH
          refine ⟨rv, gh.objs.size + 1, dx, ?_⟩
          obtain ⟨⟨t, g3⟩, _⟩ := (show ObjOk X.prog X.w _ s'.heap (gh.objs.size + 1) (XDct (gh.objs.size + 1) C dx) from I3.hok (gh.objs.size + 1) _ upd_same)
          have n2 : (upd H1 dx (HO.xd [(f, y)])) (gh.objs.size + 1) = none := by rw [upd_ne (Ne.symm ne)]; exact e0
          refine ⟨t, y, H1, rfl, Inv.forget (φ := fun h => ∃ t, h.get? (gh.objs.size + 1) = some (rawExc C t (some dx))) I3 upd_same (fun b hb => ?_) n2, g3, I1.fpOk (Nat.le_succ _) n2, q1 dx nd⟩
          rw [upd_ne hb]
          by_cases z : b = dx
          · subst z; rw [upd_same, upd_same]
          · rw [upd_ne z, upd_ne z, upd_ne hb]
  refine wpAny_bind (wpAny_bind (wpAny_mono made (fun v s1 hv => wpAny_bind (wpAny_standAt (wpAny_pure ?_))) fun _ _ z => z))
  obtain ⟨e, dx, t, y, H1, rfl, I1, ge, fp, q1⟩ := hv
  have hC := I1.kIn C _ ec
  have xa : XAt s1.heap e (.ref C) (some dx) none := ⟨_, _, .none, ge, rfl, rfl, rfl, rfl, rfl⟩
  have fin := hc pins σ _ s1 e _ _ none I1 xa (.inl rfl) fp q1
  have hcB : (Value.ref C :: Value.ref S :: V4).contains (.type "BaseException") = true := rfl
  obtain ⟨hp, g, d, tk, os⟩ := s1
  repeat (first | with_reducible refine wpAny_loadPart_at ge ?_ | with_reducible refine wpAny_loadPart_at hC ?_ | (with_reducible refine wpAny_isSubtype_exc hC ?_; rw [hcB]) | wp_step)
  exact wpAny_raiseNew_none (I.ok.hd hh) fin
end
end X8


set_option maxRecDepth 100000
set_option linter.all false
set_option maxHeartbeats 4000000
set_option Elab.async false
namespace X8
open PySem PySem.Spec PyProof.Rows L2

/-! ### other wishes, other pins -/
abbrev Cx.alt (X : Cx) (pn : List (Addr × Obj)) (xe : Value → Shared → Prop) : Cx := { X with pn := pn, xe := xe }
abbrev Cx.in (X : Cx) (e : Addr) (xe : Value → Shared → Prop) : Cx := { X with A := X.A.mark (some (.ref e)), calm := false, xe := xe }
section
variable {X : Cx} {pins pins' pn : List (Addr × Obj)} {σ : St} {H : Hp} {s : Shared} {xe : Value → Shared → Prop}
end

section
variable {X : Cx} {x n : Str} {np hpos pos : Pos} {body suite : List Stmt} {b0 : Stmt} {i : Nat} {S : Addr} {tb : (St → XK) → TS} {ts : TS}
/-- what a clause wants of a refusal -/
def hWant (K : PySem.W.Frag) (S : Addr) (i : Nat) (ts : TS) (D : Ends) : St → XK := fun σ cls dx H => ∃ C d, cls = .ref C ∧ dx = some d ∧ XCls K C S ∧
  ∀ e, H e = none → ts { nx := fun σ2 H2 => D.nx (σ2.set i none) H2, rt := D.rt, bk := fun σ2 H2 => D.bk (σ2.set i none) H2, ct := fun σ2 H2 => D.ct (σ2.set i none) H2 } (σ.set i (some (.ref e))) (upd H e (XGot e C d))
end

/-! ### a call that may refuse, with the frame's values in the wish -/
section
variable {X : Cx} {k : Nat} {f C : Addr} {fd : FuncData} {ps : List Str} {sp : Sp} {dvs : List V} {ds : List Value} {E : St → XK} {x : Str} {p pos : Pos} {e : Expr} {es : List Expr} {t : TA}
def tCallX (sp : Sp) (dvs : List V) (E : St → XK) (t : TA) : TE := fun σ H Q => t σ H fun vs H1 => sp (vs ++ dvs) H1 Q (E σ)
end

/-! ### what is asked of a caught refusal -/
section
variable {X : Cx} {pins : List (Addr × Obj)} {σ : St} {H : Hp} {s : Shared} {e C S d : Addr} {fs : List (Str × V)}
def tXAt (K : PySem.W.Frag) (ta : TE) (f : Str) : TE := fun σ H Q => ta σ H fun x H1 => ∃ (e C S d : Addr) (fs : List (Str × V)) (y : V), x = .ref e ∧ H1 e = some (XGot e C d) ∧ H1 d = some (.xd fs) ∧ XCls K C S ∧ PySem.W.findIn K (.ref C) f = some none ∧ fs.lookup f = some y ∧ Q y H1
end
end X8


set_option maxRecDepth 100000
set_option linter.all false
set_option maxHeartbeats 4000000
set_option Elab.async false
namespace L6
open PySem PySem.Spec PyProof.Rows L2 L3 X8
/-! ### a def of the text under its global name -/
abbrev Fn (x q : Str) (st : Stmt) (dV kV dc pm : Value) (an : Option Addr) (cd ct : Value) : FuncData := PySem.W.fnOf x q (defArgs st) (defBody st) (defScope st) dV kV dc pm an cd ct
def Th (K : PySem.W.Frag) (mg : Str → Option Value) (x : Str) (st : Stmt) : Prop := ∃ f fd, L2.Fun K x x st f fd ∧ mg x = some (.ref f)
theorem th_mk {K : PySem.W.Frag} {h : Heap} {mg : Str → Option Value} {x : Str} {st : Stmt} {f : Addr} {oc kV dc pm cd ct : Value} {od an : Option Addr} {sl : Array (Option Value)} (X : K.In h) (G : h.Ns mainGlobals mg)
    (a : PySem.W.nsIn K mainGlobals x = some (some (.ref f))) (l : K.lookup f = some ⟨oc, od, .func (Fn x x st .none kV dc pm an cd ct), sl⟩) (c : PySem.W.codeIn K cd x = true) (k : PySem.W.keepIn K (.ref f) = true) : Th K mg x st :=
  ⟨f, _, fun_mk (st := st) l c k, PySem.W.mg_of X G a⟩
/-- a def with one default that is a number -/
def ThD (K : PySem.W.Frag) (mg : Str → Option Value) (x : Str) (st : Stmt) (p q : Str) (d : Int) : Prop := ∃ f fd tk, L3.FunD K x x st f fd ∧ mg x = some (.ref f) ∧ Binds K fd [p, q] [] ∧ Binds K fd [p, q] [.int d tk]
theorem thD_mk {K : PySem.W.Frag} {h : Heap} {mg : Str → Option Value} {x : Str} {st : Stmt} {f Td : Addr} {oc kV dc pm cd ct dV : Value} {od an : Option Addr} {sl : Array (Option Value)} {oTd : Obj} {ntd : Nat} {tk : Tok} {p q : Str} {d : Int} (X : K.In h) (G : h.Ns mainGlobals mg)
    (a : PySem.W.nsIn K mainGlobals x = some (some (.ref f))) (l : K.lookup f = some ⟨oc, od, .func (Fn x x st dV kV dc pm an cd ct), sl⟩) (c : PySem.W.codeIn K cd x = true) (k : PySem.W.keepIn K (.ref f) = true)
    (hTd : (Fn x x st dV kV dc pm an cd ct).defaults = .ref Td) (oT : K.lookup Td = some oTd) (dT : oTd.data = .seq #[.int d tk] ntd)
    (b2 : ∀ (s : Shared) (u v : Value), K.In s.heap → BindsTo s (Fn x x st dV kV dc pm an cd ct) ⟨[u, v], []⟩ [(p, u), (q, v)])
    (b1 : ∀ (s : Shared) (u : Value), K.In s.heap → BindsTo s (Fn x x st dV kV dc pm an cd ct) ⟨[u], []⟩ [(p, u), (q, .int d tk)]) : ThD K mg x st p q d :=
  ⟨f, _, tk, ⟨⟨_, _, _, _, _, _, _, _, _, _, rfl, l, c⟩, k⟩, PySem.W.mg_of X G a, fun s us Xs hl => match us, hl with | [u, v], _ => b2 s u v Xs, fun s us Xs hl => by
    obtain ⟨u, rfl⟩ : ∃ u, us = [u] := by
      cases us with
      | nil => simp at hl
      | cons a t =>
        cases t with
        | nil => exact ⟨a, rfl⟩
        | cons b r => simp at hl
    exact b1 s u Xs⟩
/-! ### the refusals' classes -/
structure XB (K : PySem.W.Frag) (mg : Str → Option Value) (S : Addr) : Prop where
  m : mg "ScrupleError" = some (.ref S)
  b : XBase K S
theorem xb_mk2 {K : PySem.W.Frag} {h : Heap} {mg : Str → Option Value} {S NS : Addr} {nm q : Str} {bs sub : List Value} {sn : List Str} {ab : Bool} {col : Option Bool} {dd : Option Addr} {k0 k1 k2 k3 k5 : Option Value} (X : K.In h) (G : h.Ns mainGlobals mg)
    (a : PySem.W.nsIn K mainGlobals "ScrupleError" = some (some (.ref S))) (o : K.lookup S = some (excClassObj nm q S NS bs V4 true sn sub ab col dd k0 k1 k2 k3 k5 "ValueError.__new__"))
    (sg : PySem.W.specialIn K (.ref S) "__getattribute__" = some (some (.builtin "type.__getattribute__"))) (sr : PySem.W.readsIn K S (.type "type") = true)
    (si : PySem.W.findCls K (.ref S) (.type "type") "__init__" = some (.val (.builtin "ValueError.__init__"))) : ∃ S, XB K mg S ∧ PySem.W.nsIn K mainGlobals "ScrupleError" = some (some (.ref S)) :=
  ⟨S, ⟨PySem.W.mg_of X G a, ⟨⟨_, _, _, _, _, _, _, _, _, _, _, _, _, _, o⟩, sg, sr, si⟩⟩, a⟩
/-- a refusal with a field -/
structure XC (K : PySem.W.Frag) (mg : Str → Option Value) (S : Addr) (x fld q : Str) (st : Stmt) (C : Addr) : Prop where
  m : mg x = some (.ref C)
  c : XCls K C S
  na : PySem.W.findIn K (.ref C) fld = some none
  i : ∃ f fd, PySem.W.findIn K (.ref C) "__init__" = some (some (.ref f)) ∧ PySem.W.isFn K (.ref f) = true ∧ L2.Fun K "__init__" q st f fd
theorem xc_mk2 {K : PySem.W.Frag} {h : Heap} {mg : Str → Option Value} {S S' C f NC : Addr} {x fld qq : Str} {st : Stmt} {nm q : Str} {bs sub : List Value} {sn : List Str} {ab : Bool} {col : Option Bool} {dd od an : Option Addr} {k0 k1 k2 k3 k5 : Option Value}
    {oc kV dc pm cd ct : Value} {sl : Array (Option Value)} (X : K.In h) (G : h.Ns mainGlobals mg) (aS : PySem.W.nsIn K mainGlobals "ScrupleError" = some (some (.ref S)))
    (a0 : PySem.W.nsIn K mainGlobals "ScrupleError" = some (some (.ref S')))
    (a : PySem.W.nsIn K mainGlobals x = some (some (.ref C)))
    (oC : K.lookup C = some (excClassObj nm q C NC bs (.ref S' :: V4) true sn sub ab col dd k0 k1 k2 k3 k5 "ValueError.__new__"))
    (cga : PySem.W.findIn K (.ref C) "__getattribute__" = some (some (.builtin "BaseException.__getattribute__")))
    (cgh : PySem.W.findIn K (.ref C) "__getattr__" = some none)
    (csa : PySem.W.findIn K (.ref C) "__setattr__" = some (some (.builtin "object.__setattr__")))
    (ckc : PySem.W.findIn K (.ref C) "__class__" = some (some (.builtin "object.__class__")))
    (ckg : PySem.W.specialIn K (.builtin "object.__class__") "__get__" = some (some (.builtin "getset_descriptor.__get__")))
    (ckt : PySem.W.takesIn K (.builtin "object.__class__") = some true)
    (ckp : PySem.W.keepIn K (.ref C) = true)
    (na : PySem.W.findIn K (.ref C) fld = some none)
    (ai : PySem.W.findIn K (.ref C) "__init__" = some (some (.ref f)))
    (iI : PySem.W.isFn K (.ref f) = true)
    (lI : K.lookup f = some ⟨oc, od, .func (Fn "__init__" qq st .none kV dc pm an cd ct), sl⟩)
    (cI : PySem.W.codeIn K cd qq = true)
    (kI : PySem.W.keepIn K (.ref f) = true) : ∃ C, XC K mg S x fld qq st C := by
  have e : S' = S := by
    have z := a0.symm.trans aS
    injection z with z
    injection z with z
    injection z
  subst e
  exact ⟨C, PySem.W.mg_of X G a, ⟨⟨_, _, _, _, _, _, _, _, _, _, _, _, _, _, oC⟩, cga, cgh, csa, ckc, ckg, ckt, ckp⟩, na, f, _, ai, iI, fun_mk (st := st) lI cI kI⟩
/-! ### no kin -/
/-- the class at x is none of those -/
def NoKin (K : PySem.W.Frag) (mg : Str → Option Value) (C : Addr) (x : Str) : Prop := ∃ c, mg x = some (.ref c) ∧ PySem.W.kitOne K (.ref C) (.ref c) = some false
/-! ### a def with its promise -/
def Def (P : Program) (w : World) (K : PySem.W.Frag) (mg : Str → Option Value) (base : Heap) (CX : CXT) (k : Nat) (x : Str) (ps : List Str) (sp : Sp) : Prop :=
  ∃ f fd, FnOk P w K mg base CX k f fd ps sp ∧ Binds K fd ps [] ∧ mg x = some (.ref f) ∧ PySem.W.keepIn K (.ref f) = true
section
variable {X : Cx} {CX : CXT} {k : Nat} {ps : List Str} {sp : Sp} {E : XK} {x : Str} {p pos : Pos} {e : Expr} {es : List Expr} {t : TA}
theorem pe_callD (D : Def X.prog X.w X.K X.mg X.base CX k x ps sp) (hr : Room k X.A) (hg : Gl X x) (hx : Passes CX X E)
    (ha : PA X (e :: es) t) (hdb : (x == ("__debug__" : Str)) = false := by decide) (he : starEach (e :: es) X.env = (false, eval e X.env) :: starEach es X.env := by rfl) (hpl : (backTo pos (starEach es X.env)).any (·.1) = false := by rfl) :
    PE X (.Call (.Name x p) (e :: es) [] pos) (tCall sp [] E t) := by
  obtain ⟨f, fd, F, b, m, kp⟩ := D
  exact pe_call F hr hg m kp b .nil hx ha hdb he hpl
end
/-- THE RULE for a def under its name -/
theorem def_of {P : Program} {w : World} {K : PySem.W.Frag} {mg : Str → Option Value} {base : Heap} {x : Str} {st : Stmt} {N ps : List Str} {k : Nat} {sp : Sp} (T : Th K mg x st)
    (hb : ∀ (kV doc pm : Value) (an : Option Addr) (cdv ct : Value) (us : List Value), us.length = ps.length → bindArgs (PySem.W.fnOf x x (defArgs st) (defBody st) (defScope st) .none kV doc pm an cdv ct) ⟨us, []⟩ = pure (ps.zip us))
    (S : FnScope N ps (defScope st)) (len : ∀ vs H Q E, sp vs H Q E → vs.length = ps.length)
    (hbody : ∀ (f : Addr) (cdv : Value) (A : Around) (outer : List Env) (s : Shared) (H : Hp) (vs : List V) (Q : VK) (E : XK), Room k (A.deeper (envOfC x (defScope st) s.heap.objs.size f cdv)) → sp vs H Q E →
      ∃ t, PSs (cxOf CX0 P w K mg base N x (defScope st) f cdv A outer s H E).nox (defBody st) t ∧ t { nx := fun _ H' => Q .non H', rt := Q } (start N vs) H) : Def P w K mg base CX0 (k + 1) x ps sp := by
  obtain ⟨f, fd, F, m⟩ := T
  exact ⟨f, fd, F.ok S len (fun cdv => hbody f cdv), F.binds hb, m, F.kp⟩
/-- .. that may raise -/
theorem def_ofX {P : Program} {w : World} {K : PySem.W.Frag} {mg : Str → Option Value} {base : Heap} {x : Str} {st : Stmt} {N ps : List Str} {k : Nat} {sp : Sp} (T : Th K mg x st)
    (hb : ∀ (kV doc pm : Value) (an : Option Addr) (cdv ct : Value) (us : List Value), us.length = ps.length → bindArgs (PySem.W.fnOf x x (defArgs st) (defBody st) (defScope st) .none kV doc pm an cdv ct) ⟨us, []⟩ = pure (ps.zip us))
    (S : FnScope N ps (defScope st)) (len : ∀ vs H Q E, sp vs H Q E → vs.length = ps.length)
    (hbody : ∀ (f : Addr) (cdv : Value) (A : Around) (outer : List Env) (s : Shared) (H : Hp) (vs : List V) (Q : VK) (E : XK), Room k (A.deeper (envOfC x (defScope st) s.heap.objs.size f cdv)) → sp vs H Q E →
      ∃ t, PSs (cxOf (CXe P w) P w K mg base N x (defScope st) f cdv A outer s H E) (defBody st) t ∧ t { nx := fun _ H' => Q .non H', rt := Q } (start N vs) H) : Def P w K mg base (CXe P w) (k + 1) x ps sp := by
  obtain ⟨f, fd, F, m⟩ := T
  exact ⟨f, fd, Fun.okX F S len (fun cdv => hbody f cdv), F.binds hb, m, F.kp⟩
/-! ### raise -/
structure XR (P : Program) (w : World) (K : PySem.W.Frag) (mg : Str → Option Value) (base : Heap) (S : Addr) (x fld : Str) (C : Addr) : Prop where
  m : mg x = some (.ref C)
  c : XCls K C S
  na : PySem.W.findIn K (.ref C) fld = some none
  i : ∃ f fd q, PySem.W.findIn K (.ref C) "__init__" = some (some (.ref f)) ∧ PySem.W.isFn K (.ref f) = true ∧ FnOk P w K mg base CX0 1 f fd ["self", q] (spXInit C fld) ∧ Binds K fd ["self", q] []
theorem ps_raiseD {X : Cx} {C S : Addr} {f x : Str} {E : L2.St → XK} {a : Expr} {ta : TE} {np cpos pos : Pos} (R : XR X.prog X.w X.K X.mg X.base S x f C) (hr : Room 2 X.A) (hg : Gl X x) (hc : Catches X E) (ha : PE X a ta)
    (hh : X.calm = true) (hdb : (x == ("__debug__" : Str)) = false := by decide) (he : starEach [a] X.env = (false, eval a X.env) :: starEach [] X.env := by rfl) :
    PS X (.Raise (some (.Call (.Name x np) [a] [] cpos)) none pos) (fun _ σ H => ta σ H fun y H1 => ∀ dx, H1 dx = none → E σ (.ref C) (some dx) (upd H1 dx (.xd [(f, y)]))) := by
  obtain ⟨fI, fd, q, hi, hf, F, hb⟩ := R.i
  exact ps_raise R.c hi hf F hr hg R.m hb hc ha hh hdb he
end L6


set_option maxRecDepth 100000
set_option linter.all false
set_option maxHeartbeats 4000000
set_option Elab.async false
namespace PySem
namespace F
end F
end PySem


set_option maxRecDepth 100000
set_option linter.all false
set_option maxHeartbeats 4000000
set_option Elab.async false
namespace PySem
def L5_revS (x : Str) (t : Tok) (i : Int) : Obj := { cls := .type "reversed", data := .fields #[.str x t, rawInt i] }
section
variable {prog : Program} {w : World} {A : Around} {E : Value → Shared → Prop} {s : Shared}
def L5_IsRev (h : Heap) (a : Addr) (x : Str) (t : Tok) (i : Int) : Prop := h.get? a = some (L5_revS x t i)
theorem L5_IsRev.typeIs {a : Addr} {x : Str} {t : Tok} {i : Int} (z : L5_IsRev s.heap a x t i) : s.TypeIs (.ref a) "reversed" := ⟨_, z, rfl⟩
end
end PySem


set_option maxRecDepth 100000
set_option linter.all false
set_option maxHeartbeats 4000000
set_option Elab.async false
namespace L5
open PySem PySem.Spec PyProof.Rows L2 M01
abbrev St := L2.St
/-! ### reversed(text) -/
def Irev (x : Str) : It := ⟨fun i _ => i < x.length, fun i H v H' => H' = H ∧ ∃ c, x.cps[x.length - 1 - i]? = some c ∧ v = .str ⟨#[c]⟩, fun i _ => x.length ≤ i⟩
section
variable {X : Cx} {tg : Expr}
def iRev (ta : TA) : TI := fun σ H R => ta σ H fun vs H1 => ∃ z, vs = [.str z] ∧ z.length ≤ sizeLine ∧ R (Irev z) H1

/-! ### text * n, text.endswith(t), text[a:b] -/
def mulS (x : Str) (n : Int) : Str := if n < 1 then Str.empty else if (n == 1 || x.length == 0) = true then x else ⟨(List.replicate n.toNat x.cps).foldl (· ++ ·) #[]⟩
def rSlS : V → Option Int → Option Int → Hp → VK → Prop := fun x lo hi H Q => ∃ z, x = .str z ∧ z.length ≤ sizeLine ∧ Q (.str (Txt.slice z lo hi)) H

/-! ### a table of the module: texts to numbers -/
def RowsK (es : List DictEntry) (D : List (Str × Int)) : Prop := KTD.Rows (fun d v => PyProof.V.Flat v d) es (D.map fun p => (p.1, PyData.int p.2))
def TabK (K : PySem.W.Frag) (a : Addr) (D : List (Str × Int)) : Prop := (a == sysModules) = false ∧ ∃ o es ep, K.lookup a = some o ∧ o.ExactDict ∧ o.data = .dict es ep ∧ RowsK es.toList D
theorem TabK.here {X : Cx} {pins : List (Addr × Obj)} {σ : St} {H : Hp} {s : Shared} {a : Addr} {D : List (Str × Int)} (I : Inv X pins σ H s) (T : TabK X.K a D) : KTD.Here X.base s.heap a ((D.map fun p => (p.1, PyData.int p.2)).map fun p => (p.1, KTD.Dat.flat p.2)) := by
  obtain ⟨ne, o, es, ep, lk, ex, hd, hr⟩ := T
  exact ⟨⟨ne, o, es, ep, I.mod.kin a o lk, ex, hd, KTD.Rows.mono (f := KTD.Dat.flat) (fun d v z => z) hr⟩, I.bk⟩
/-! o.m(..), o a table of the module -/
variable {o e : Expr} {es : List Expr} {to : TE} {t : TA} {name : Str} {apos cpos : Pos} {T id : String} {r : V → List V → Hp → VK → Prop}
def tBMK (K : PySem.W.Frag) (r : V → List V → Hp → VK → Prop) (to : TE) (t : TA) : TE := fun σ H Q => to σ H fun x H1 => (∃ a D, x = .ref a ∧ TabK K a D) ∧ t σ H1 fun xs H2 => r x xs H2 Q
end
end L5


set_option maxRecDepth 100000
set_option linter.all false
set_option maxHeartbeats 1000000
set_option Elab.async false
namespace L5
open PySem PySem.Spec PyProof.Rows L2 M01
/-! ### a display of constants -/
inductive Cs : List Expr → List V → Prop
  | nil : Cs [] []
  | str {x : Str} {j : Nat} {pos : Pos} {es : List Expr} {vs : List V} : Cs es vs → Cs (.Constant (.str x) j pos :: es) (.str x :: vs)
  | int {i : Int} {j : Nat} {pos : Pos} {es : List Expr} {vs : List V} : Cs es vs → Cs (.Constant (.int i) j pos :: es) (.int i :: vs)
def tCs (vs : List V) : TA := fun _ H Q => Q vs H
theorem pa_cs {X : Cx} {es : List Expr} {vs : List V} (h : Cs es vs) : PA X es (tCs vs) := by
  induction h with
  | nil => exact pa_nil
  | str _ ih =>
    intro pos pins s σ H Q I q
    exact (pa_cons pe_str ih) pos pins s σ H Q I q
  | int _ ih =>
    intro pos pins s σ H Q I q
    exact (pa_cons pe_int ih) pos pins s σ H Q I q
/-- both ways of a statement meet in J -/
theorem ps_join {X : Cx} {st : Stmt} {t : TS} (h : PS X st t) : PS X st (fun D σ H => ∃ J : L2.St → Hp → Prop, t { D with nx := J } σ H ∧ ∀ σ' H', J σ' H' → D.nx σ' H') := by
  rintro pins s σ H D I ⟨J, q, k⟩
  refine thn (h pins s σ H _ I q) fun f s' z => ?_
  cases f with
  | next => obtain ⟨σ', H', I', j⟩ := z; exact ⟨σ', H', I', k _ _ j⟩
  | brk => exact z
  | cont => exact z
  | ret u => exact z
end L5


set_option maxRecDepth 100000
set_option linter.all false
set_option maxHeartbeats 1000000
set_option Elab.async false
/-! The judgements as structures, so that nothing unfolds them. -/
namespace QL
open PySem PySem.Spec PyProof.Rows L2 L3 X8 M01 L6 L5
abbrev St := L2.St
structure QE (X : Cx) (e : Expr) (t : TE) : Prop where
  h : PE X e t
structure QT (X : Cx) (e : Expr) (t : TT) : Prop where
  h : PT X e t
structure QW (X : Cx) (e : Expr) (t : TT) : Prop where
  h : PW X e t
structure QA (X : Cx) (es : List Expr) (t : TA) : Prop where
  h : PA X es t
structure QS (X : Cx) (st : Stmt) (t : TS) : Prop where
  h : PS X st t
structure QSs (X : Cx) (st : List Stmt) (t : TS) : Prop where
  h : PSs X st t
structure QG (X : Cx) (e : Expr) (t : TG) : Prop where
  h : PG X e t
structure QGs (X : Cx) (es : List Expr) (t : TGs) : Prop where
  h : PGs X es t
structure QI (X : Cx) (tg iter : Expr) (wi : TI) : Prop where
  h : PI X tg iter wi
structure QO (X : Cx) (e : Option Expr) (t : TO) : Prop where
  h : PO X e t
theorem QW.pt {X : Cx} {e : Expr} {t : TT} (h : QW X e t) : QT X e t := ⟨h.h.pt⟩
section
variable {X : Cx} {a b c e o value : Expr} {es : List Expr} {rest : List Stmt} {st : Stmt} {ta tb tc te to tv : TE} {t u : TS} {pos pos2 cpos apos np p : Pos} {tA tB2 : TT}
end
theorem qe_int {i j pos} : QE X (.Constant (.int i) j pos) (tC (.int i)) := ⟨pe_int ⟩
theorem qe_bl {b j pos} : QE X (.Constant (.bool b) j pos) (tC (.bl b)) := ⟨pe_bl ⟩
theorem qe_non {j pos} : QE X (.Constant .none j pos) (tC .non) := ⟨pe_non ⟩
theorem qe_glob {x : Str} {v : V} {u : Value} {pos : Pos} (hg : Gl X x) (hm : X.mg x = some u) (r : RelV v u) (hd : (x == ("__debug__" : Str)) = false := by decide) : QE X (.Name x pos) (tC v) := ⟨pe_glob hg hm r hd⟩
theorem qe_bltn {x : Str} {v : V} {u : Value} {pos : Pos} (hg : Gl X x) (hm : X.mg x = none) (hv : bootBuiltins x = some u) (r : RelV v u) (hn : x ≠ "__name__" := by decide) (hd : (x == ("__debug__" : Str)) = false := by decide) : QE X (.Name x pos) (tC v) := ⟨pe_bltn hg hm hv r hn hd⟩
theorem qe_op {op : Operator} {r : R2} (ho : OpR X (binaryOp op) r) (ha : QE X a ta) (hb : QE X b tb) : QE X (.BinOp a op b pos) (tOp r ta tb) := ⟨pe_op ho ha.h hb.h⟩
theorem qe_un {op : UnaryOp} {r : V → Hp → VK → Prop} (ho : UnR X (unaryOp op) r) (ha : QE X a ta) : QE X (.UnaryOp op a pos) (tUn r ta) := ⟨pe_un ho ha.h⟩
theorem qe_cmpR {op : CmpOp} {r : R2} (ho : OpR X (compareOp op) r) (ha : QE X a ta) (hb : QE X b tb) (hm : behindInMarks op b = false) : QE X (.Compare a [op] [b] pos) (tOp r ta tb) := ⟨pe_cmpR ho ha.h hb.h hm⟩
theorem qt_cmpR {op : CmpOp} {r : R2} (ho : OpR X (compareOp op) r) (ha : QE X a ta) (hb : QE X b tb) (hm : behindInMarks op b = false) : QT X (.Compare a [op] [b] pos) (tTest (tOp r ta tb)) := ⟨pt_cmpR ho ha.h hb.h hm⟩
theorem qt_val {e : Expr} {t : TE} (h : QE X e t) (he : ∀ whole, isTrue e X.env whole = (do let v ← whole; standAt e.pos; holding [v] (truthy v)) := by intro _; rfl) : QT X e (tB t) := ⟨pt_val h.h he⟩
theorem qw_and1 (ha : QT X a tA) : QW X (.BoolOp .And [a] pos) tA := ⟨pw_and1 ha.h⟩
theorem qw_or1 (ha : QT X a tA) : QW X (.BoolOp .Or [a] pos) tA := ⟨pw_or1 ha.h⟩
theorem qw_and (ha : QT X a tA) (hb : QW X (.BoolOp .And (b :: rst) pos) tB') : QW X (.BoolOp .And (a :: b :: rst) pos) (tAnd tA tB') := ⟨pw_and ha.h hb.h⟩
theorem qw_or (ha : QT X a tA) (hb : QW X (.BoolOp .Or (b :: rst) pos) tB') : QW X (.BoolOp .Or (a :: b :: rst) pos) (tOr tA tB') := ⟨pw_or ha.h hb.h⟩
theorem qt_not (ha : QT X a tA) : QT X (.UnaryOp .Not a pos) (tNot tA) := ⟨pt_not ha.h⟩
theorem qe_one {op} {t : TE} (h : QE X a t) : QE X (.BoolOp op [a] pos) t := ⟨pe_one h.h⟩
theorem qe_and (ha : QE X a ta) (hb : QE X (.BoolOp .And (b :: rst) pos) tb) : QE X (.BoolOp .And (a :: b :: rst) pos) (tAndV ta tb) := ⟨pe_and ha.h hb.h⟩
theorem qe_not (ha : QE X a ta) : QE X (.UnaryOp .Not a pos) (tNotV ta) := ⟨pe_not ha.h⟩
theorem qe_ifExp {c : Expr} (hc : QT X c tA) (ha : QE X a ta) (hb : QE X b tb) : QE X (.IfExp c a b pos) (tIf tA ta tb) := ⟨pe_ifExp hc.h ha.h hb.h⟩
theorem qe_tup {x1} (h : QA X es t) : QE X (.Tuple es x1 pos) (tTup t) := ⟨pe_tup h.h⟩
theorem qe_lst (h : QA X es t) : QE X (.List es pos) (tLst t) := ⟨pe_lst h.h⟩
theorem qa_nil  : QA X [] tNil := ⟨pa_nil ⟩
theorem qa_cons (ha : QE X e te) (hr : QA X es t) (hs : starEach (e :: es) X.env = (false, eval e X.env) :: starEach es X.env := by rfl) : QA X (e :: es) (tCons te t) := ⟨pa_cons ha.h hr.h hs⟩
theorem qa_cs {X : Cx} {es : List Expr} {vs : List V} (h : Cs es vs) : QA X es (tCs vs) := ⟨pa_cs h⟩
theorem qe_ix {r : R2} (hr : IxR X r) (ha : QE X a ta) (hb : QE X b tb) (hs : PlainIx b) : QE X (.Subscript a b pos) (tOp r ta tb) := ⟨pe_ix hr ha.h hb.h hs⟩
theorem qe_callB (hc : CallR X (.builtin idd) r) (hg : Gl X x) (hm : X.mg x = none) (hv : bootBuiltins x = some (.builtin idd)) (ha : QA X (e :: es) t) (hn : x ≠ "__name__" := by decide) (hdb : (x == ("__debug__" : Str)) = false := by decide) (he : starEach (e :: es) X.env = (false, eval e X.env) :: starEach es X.env := by rfl) (hpl : (backTo pos (starEach es X.env)).any (·.1) = false := by rfl) : QE X (.Call (.Name x p) (e :: es) [] pos) (tCB r t) := ⟨pe_callB hc hg hm hv ha.h hn hdb he hpl⟩
theorem qe_callTy (hc : CallR X (.type T) r) (hg : Gl X x) (hm : X.mg x = none) (hv : bootBuiltins x = some (.type T)) (ha : QA X (e :: es) t) (hn : x ≠ "__name__" := by decide) (hdb : (x == ("__debug__" : Str)) = false := by decide) (he : starEach (e :: es) X.env = (false, eval e X.env) :: starEach es X.env := by rfl) (hpl : (backTo pos (starEach es X.env)).any (·.1) = false := by rfl) : QE X (.Call (.Name x p) (e :: es) [] pos) (tCB r t) := ⟨pe_callTy hc hg hm hv ha.h hn hdb he hpl⟩
theorem qe_callD (D : Def X.prog X.w X.K X.mg X.base CX k x ps sp) (hr : Room k X.A) (hg : Gl X x) (hx : Passes CX X E) (ha : QA X (e :: es) t) (hdb : (x == ("__debug__" : Str)) = false := by decide) (he : starEach (e :: es) X.env = (false, eval e X.env) :: starEach es X.env := by rfl) (hpl : (backTo pos (starEach es X.env)).any (·.1) = false := by rfl) : QE X (.Call (.Name x p) (e :: es) [] pos) (tCall sp [] E t) := ⟨pe_callD D hr hg hx ha.h hdb he hpl⟩
theorem qe_bm (pa : PlainAttrs T) (slot : Slot T name idd) (hty : typeOf (.builtin idd) = pure (.type "method_descriptor")) (hm : MtR X idd r) (ho : QE X o to) (ha : QA X (e :: es) t) (hbase : attributeBase o name X.env (eval o X.env) = eval o X.env := by rfl) (hfew : ((backTo cpos (starEach (e :: es) X.env)).all (fun x => !x.1) && (backToKw cpos (keywordEach [] X.env)).all (fun x => x.1.isSome)
      && decide ((e :: es).length + ([] : List Keyword).length + (if ([] : List Keyword).isEmpty then 0 else 1) < 30)) = true := by rfl) (hline : (apos.endLine == cpos.line) = true := by rfl) (hs : starEach (e :: es) X.env = (false, eval e X.env) :: starEach es X.env := by rfl) (hplain : (backTo cpos (starEach es X.env)).any (·.1) = false := by rfl) : QE X (.Call (.Attribute o name apos) (e :: es) [] cpos) (tBM X.K T r to t) := ⟨pe_bm pa slot hty hm ho.h ha.h hbase hfew hline hs hplain⟩
theorem qss_nil  : QSs X [] tNext := ⟨pss_nil ⟩
theorem qss_cons (h1 : QS X stt t) (h2 : QSs X rst u) : QSs X (stt :: rst) (tSeq t u) := ⟨pss_cons h1.h h2.h⟩
theorem qss_one (h1 : QS X stt t) : QSs X [stt] t := ⟨pss_one h1.h⟩
theorem qs_expr (he : QE X e te) (hs : swapsWith e none pos.line X.env = pure false := by rfl) : QS X (.Expr e pos) (tDrop te) := ⟨ps_expr he.h hs⟩
theorem qs_ret (he : QE X e te) : QS X (.Return (some e) pos) (tRet te) := ⟨ps_ret he.h⟩
theorem qs_if {c : Expr} {a b : List Stmt} {tc : TT} (hc : QT X c tc) (ha : QSs X a t) (hb : QSs X b u) : QS X (.If c a b pos) (tIfS tc t u) := ⟨ps_if hc.h ha.h hb.h⟩
theorem qs_set {i : Nat} {x : Str} {e : Expr} {te : TE} {pos' : Pos} (hN : X.N.Nodup) (hi : X.N[i]? = some x) (hx : Loc X.env.scope x) (he : QE X e te) (hs : swapsWith e (some (.Name x pos')) pos.line X.env = pure false := by rfl) (hf : X.fn x = true ∨ X.env.scope.names.lookup x = some .local := by first | exact .inl rfl | exact .inr rfl | assumption) : QS X (.Assign [.Name x pos'] e pos) (tAsg te (gName i)) := ⟨ps_set hN hi hx he.h hs hf⟩
theorem qs_asg {tg e : Expr} {te : TE} {g : TG} (he : QE X e te) (hg : QG X tg g) (hs : swapsWithSole [tg] e pos.line X.env = pure false := by rfl) (hw : swappedStores [tg] e X.env = pure none := by rfl) (h1 : (assignEach [tg] X.env).map (·.2) = [assign tg X.env] := by rfl) : QS X (.Assign [tg] e pos) (tAsg te g) := ⟨ps_asg he.h hg.h hs hw h1⟩
theorem qs_par {i j : Nat} {x y : Str} {a b : Expr} {ta : TA} {px py pt : Pos} {kt k2 pt2} (hc : X.calm = true) (hN : X.N.Nodup) (hi : X.N[i]? = some x) (hj : X.N[j]? = some y) (hij : i ≠ j) (hx : X.env.scope.names.lookup x = some .local) (hy : X.env.scope.names.lookup y = some .local) (ha : QA X [a, b] ta) (hw : swappedStores [.Tuple [.Name x px, .Name y py] kt pt] (.Tuple [a, b] k2 pt2) X.env = pure (some [x, y])) (hs : swapsWithSole [.Tuple [.Name x px, .Name y py] kt pt] (.Tuple [a, b] k2 pt2) pos.line X.env = pure false := by rfl) : QS X (.Assign [.Tuple [.Name x px, .Name y py] kt pt] (.Tuple [a, b] k2 pt2) pos) (tPar i j ta) := ⟨ps_par hc hN hi hj hij hx hy ha.h hw hs⟩
theorem qs_while {c : Expr} {body : List Stmt} {tc : TT} {tb : TS} (hp : PassesOwn (model X.prog X.w) X.A X.env X.xe) (hc : QT X c tc) (hb : QSs X body tb) : QS X (.While c body [] pos) (tWhile tc tb) := ⟨ps_while hp hc.h hb.h⟩
theorem qs_for {iter : Expr} {body : List Stmt} {wi : TI} {g : TG} {tb : TS} {pos : Pos} (hp : PassesOwn (model X.prog X.w) X.A X.env X.xe) (hc : X.calm = true) (hi : QI X tg iter wi) (hg : QG X tg g) (hb : QSs X body tb) (hs : ∀ x, foldedSetIterable iter X.env x = pure x := by intro _; rfl) : QS X (.For tg iter body [] pos) (tFor wi g tb) := ⟨ps_for hp hc hi.h hg.h hb.h hs⟩
theorem qs_raiseD {X : Cx} {C S : Addr} {f x : Str} {E : L2.St → XK} {a : Expr} {ta : TE} {np cpos pos : Pos} (R : XR X.prog X.w X.K X.mg X.base S x f C) (hr : Room 2 X.A) (hg : Gl X x) (hc : Catches X E) (ha : QE X a ta) (hh : X.calm = true) (hdb : (x == ("__debug__" : Str)) = false := by decide) (he : starEach [a] X.env = (false, eval a X.env) :: starEach [] X.env := by rfl) : QS X (.Raise (some (.Call (.Name x np) [a] [] cpos)) none pos) (fun _ σ H => ta σ H fun y H1 => ∀ dx, H1 dx = none → E σ (.ref C) (some dx) (upd H1 dx (.xd [(f, y)]))) := ⟨ps_raiseD R hr hg hc ha.h hh hdb he⟩
theorem qs_join {X : Cx} {stt : Stmt} {t : TS} (h : QS X stt t) : QS X stt (fun D σ H => ∃ J : L2.St → Hp → Prop, t { D with nx := J } σ H ∧ ∀ σ' H', J σ' H' → D.nx σ' H') := ⟨ps_join h.h⟩
theorem qg_name {i : Nat} {x : Str} (hN : X.N.Nodup) (hi : X.N[i]? = some x) (hx : Loc X.env.scope x) (hf : X.fn x = true ∨ X.env.scope.names.lookup x = some .local := by first | exact .inl rfl | exact .inr rfl | assumption) : QG X (.Name x pos) (gName i) := ⟨pg_name hN hi hx hf⟩
theorem qg_tup {es : List Expr} {k : Nat} {t : TGs} {n : Nat} (hc : X.calm = true) (h : QGs X es t) (hn : (assignEach es X.env).length = n := by rfl) (hst : (assignEach es X.env).findIdx? (·.1) = none := by rfl) : QG X (.Tuple es k pos) (gTup X.K n t) := ⟨pg_tup hc h.h hn hst⟩
theorem qgs_nil  : QGs X [] gNil := ⟨pgs_nil ⟩
theorem qgs_cons {e : Expr} {es : List Expr} {t : TG} {u : TGs} (h1 : QG X e t) (h2 : QGs X es u) (hs : (assignEach (e :: es) X.env).map (·.2) = assign e X.env :: (assignEach es X.env).map (·.2) := by rfl) : QGs X (e :: es) (gCons t u) := ⟨pgs_cons h1.h h2.h hs⟩
theorem qi_list {l : Expr} {tl : TE} (hl : QE X l tl) : QI X tg l (iList X.K tl) := ⟨pi_list hl.h⟩
theorem qi_tup {l : Expr} {tl : TE} (hl : QE X l tl) : QI X tg l (iTup X.K tl) := ⟨pi_tup hl.h⟩
theorem qi_range1 {a : Expr} {ta : TA} {p pos : Pos} (hg : Gl X "range") (hm : X.mg "range" = none) (ha : QA X [a] ta) (hs : starEach [a] X.env = [(false, eval a X.env)] := by rfl) : QI X tg (.Call (.Name "range" p) [a] [] pos) (iRng1 ta) := ⟨pi_range1 hg hm ha.h hs⟩
theorem qi_range2 {a b : Expr} {ta : TA} {p pos : Pos} (hg : Gl X "range") (hm : X.mg "range" = none) (ha : QA X [a, b] ta) (hs : starEach [a, b] X.env = [(false, eval a X.env), (false, eval b X.env)] := by rfl) (hs2 : starEach [b] X.env = [(false, eval b X.env)] := by rfl) : QI X tg (.Call (.Name "range" p) [a, b] [] pos) (iRng2 ta) := ⟨pi_range2 hg hm ha.h hs hs2⟩
theorem qv (i : Nat) {x : Str} {pos : Pos} (hN : X.N[i]? = some x := by rfl) (hv : Vis X.env.scope x := by first | exact Or.inl rfl | exact Or.inr (Or.inl rfl) | exact Or.inr (Or.inr rfl)) (hd : (x == ("__debug__" : Str)) = false := by decide) (hcd : (x == ("__classdict__" : Str)) = false := by decide) : QE X (.Name x pos) (tVar i) := ⟨pv i hN hv hd hcd⟩
/-- THE RULE for a def under its name -/
theorem def_of {P : Program} {w : World} {K : PySem.W.Frag} {mg : Str → Option Value} {base : Heap} {x : Str} {st : Stmt} {N ps : List Str} {k : Nat} {sp : Sp} (T : Th K mg x st)
    (hb : ∀ (kV doc pm : Value) (an : Option Addr) (cdv ct : Value) (us : List Value), us.length = ps.length → bindArgs (PySem.W.fnOf x x (defArgs st) (defBody st) (defScope st) .none kV doc pm an cdv ct) ⟨us, []⟩ = pure (ps.zip us))
    (S : FnScope N ps (defScope st)) (len : ∀ vs H Q E, sp vs H Q E → vs.length = ps.length)
    (hbody : ∀ (f : Addr) (cdv : Value) (A : Around) (outer : List Env) (s : Shared) (H : Hp) (vs : List V) (Q : VK) (E : XK), Room k (A.deeper (envOfC x (defScope st) s.heap.objs.size f cdv)) → sp vs H Q E →
      ∃ t, QSs (cxOf CX0 P w K mg base N x (defScope st) f cdv A outer s H E).nox (defBody st) t ∧ t { nx := fun _ H' => Q .non H', rt := Q } (start N vs) H) : Def P w K mg base CX0 (k + 1) x ps sp :=
  L6.def_of T hb S len fun f cdv A outer s H vs Q E hr h => let ⟨t, a, b⟩ := hbody f cdv A outer s H vs Q E hr h; ⟨t, a.h, b⟩
/-- .. that may raise -/
theorem def_ofX {P : Program} {w : World} {K : PySem.W.Frag} {mg : Str → Option Value} {base : Heap} {x : Str} {st : Stmt} {N ps : List Str} {k : Nat} {sp : Sp} (T : Th K mg x st)
    (hb : ∀ (kV doc pm : Value) (an : Option Addr) (cdv ct : Value) (us : List Value), us.length = ps.length → bindArgs (PySem.W.fnOf x x (defArgs st) (defBody st) (defScope st) .none kV doc pm an cdv ct) ⟨us, []⟩ = pure (ps.zip us))
    (S : FnScope N ps (defScope st)) (len : ∀ vs H Q E, sp vs H Q E → vs.length = ps.length)
    (hbody : ∀ (f : Addr) (cdv : Value) (A : Around) (outer : List Env) (s : Shared) (H : Hp) (vs : List V) (Q : VK) (E : XK), Room k (A.deeper (envOfC x (defScope st) s.heap.objs.size f cdv)) → sp vs H Q E →
      ∃ t, QSs (cxOf (CXe P w) P w K mg base N x (defScope st) f cdv A outer s H E) (defBody st) t ∧ t { nx := fun _ H' => Q .non H', rt := Q } (start N vs) H) : Def P w K mg base (CXe P w) (k + 1) x ps sp :=
  L6.def_ofX T hb S len fun f cdv A outer s H vs Q E hr h => let ⟨t, a, b⟩ := hbody f cdv A outer s H vs Q E hr h; ⟨t, a.h, b⟩
end QL


set_option maxRecDepth 100000
set_option linter.all false
set_option maxHeartbeats 1000000
set_option Elab.async false
namespace L7
open PySem PySem.Spec PyProof.Rows L2 L3 X8 M01 L6 L5
end L7
namespace QL
open PySem PySem.Spec PyProof.Rows L2 L3 X8 M01 L6 L5
theorem fn_law {P : Program} {w : World} {K : PySem.W.Frag} {mg : Str → Option Value} {base : Heap} {x : Str} {st : Stmt} {N ps : List Str} {k : Nat} {sp : Sp} {f : Addr} {fd : FuncData} (F : L2.Fun K x x st f fd)
    (S : FnScope N ps (defScope st)) (len : ∀ vs H Q E, sp vs H Q E → vs.length = ps.length)
    (hbody : ∀ (cdv : Value) (A : Around) (outer : List Env) (s : Shared) (H : Hp) (vs : List V) (Q : VK) (E : XK), Room k (A.deeper (envOfC x (defScope st) s.heap.objs.size f cdv)) → sp vs H Q E →
      ∃ t, QSs (cxOf CX0 P w K mg base N x (defScope st) f cdv A outer s H E).nox (defBody st) t ∧ t { nx := fun _ H' => Q .non H', rt := Q } (start N vs) H) : FnOk P w K mg base CX0 (k + 1) f fd ps sp :=
  F.ok S len fun cdv A outer s H vs Q E hr h => let ⟨t, a, b⟩ := hbody cdv A outer s H vs Q E hr h; ⟨t, a.h, b⟩
end QL


set_option maxRecDepth 100000
set_option linter.all false
set_option maxHeartbeats 1000000
set_option Elab.async false
namespace L8
open PySem PySem.Spec PyProof.Rows L2 L3 X8 M01 L6 L5 QL
abbrev St := L2.St
/-! ### [elt for x in iter] -/
/-- the block of a comprehension -/
def cxB (X : Cx) (NB : List Str) (scope : Scope) (cl : List (Str × Addr)) (C : Addr) (s : Shared) (H : Hp) (ex : List Addr) : Cx where
  prog := X.prog
  w := X.w
  K := X.K
  mg := X.mg
  base := X.base
  A := X.A
  N := NB
  s₀ := s
  H₀ := H
  env := compEnvC scope cl C X.env
  outer := X.stack
  stack := X.stack
  ex := ex
  fn := fun _ => false
  calm := X.calm
  pn := []
  xe := fun _ _ => False
def fv (σ : St) (fidx : List Nat) : St := fidx.map fun i => (σ[i]?).join
/-- what the cells of a comprehension are -/
structure Clo (X : Cx) (scope : Scope) (cl : List (Str × Addr)) : Prop where
  eq : closureFor scope X.env = pure cl
  sub : ∀ y c, cl.lookup y = some c → X.env.cells.lookup y = some c
  has : ∀ y, (y, NameKind.free) ∈ scope.names → ∃ c, cl.lookup y = some c
theorem lookup_mem {κ ν : Type} [BEq κ] [LawfulBEq κ] : ∀ {l : List (κ × ν)} {x : κ} {k : ν}, l.lookup x = some k → (x, k) ∈ l
  | [], _, _, h => by cases h
  | (y, j) :: r, x, k, h => by
    rw [List.lookup_cons] at h
    cases e : x == y with
    | true =>
      rw [e] at h
      have e1 : x = y := by simpa using e
      have e2 : j = k := Option.some.inj h
      subst e1 e2
      exact List.mem_cons_self
    | false =>
      rw [e] at h
      exact List.mem_cons_of_mem _ (lookup_mem h)
/-- of a relabelled scope: cell or free is free -/
theorem relabel_free {env : Env} : ∀ {names : List (Str × NameKind)} {x : Str} {k : NameKind}, (∀ y ∈ names, y.2 ≠ .cell) → (names.map fun (n, k) => if (k == NameKind.free && env.scope.kind == .function && env.kindOf n == some .cell) then (n, NameKind.cell) else (n, k)).lookup x = some k →
    (k = .cell ∨ k = .free) → names.lookup x = some .free
  | [], x, k, _, h, _ => by simp at h
  | (n, j) :: r, x, k, hc, h, hk => by
    have hr : ∀ y ∈ r, y.2 ≠ .cell := fun y hy => hc y (List.mem_cons_of_mem _ hy)
    have hj : j ≠ .cell := hc (n, j) List.mem_cons_self
    rw [List.map_cons] at h
    rw [List.lookup_cons]
    dsimp only at h
    split at h
    · rename_i q
      rw [List.lookup_cons] at h
      cases e : x == n with
      | true =>
        rw [Bool.and_eq_true, Bool.and_eq_true] at q
        have : j = .free := by simpa using q.1.1
        rw [this]
      | false =>
        rw [e] at h
        exact relabel_free hr h hk
    · rename_i q
      rw [List.lookup_cons] at h
      cases e : x == n with
      | true =>
        rw [e] at h
        have z : j = k := Option.some.inj h
        subst z
        rcases hk with z | z
        · exact absurd z hj
        · rw [z]
      | false =>
        rw [e] at h
        exact relabel_free hr h hk
section
variable {X : Cx} {pins : List (Addr × Obj)} {σ : St} {H2 : Hp} {s2 : Shared} {scope : Scope} {cl : List (Str × Addr)} {x : Str} {px pos : Pos} {elt iter : Expr} {fvs : List Str} {fidx : List Nat} {te : TE} {J : It} {fp : List Addr} {it : Addr} {tn : Nat → Heap → Prop}
  {RR : Value → Addr → Result → Shared → Prop} {E : Value → Shared → Prop}
theorem blk_ok (I2 : Inv X pins σ H2 s2) (hnex : X.ex = []) (hfp : ∀ b ∈ fp, FpOk X pins H2 b) (hex : ∀ b ∈ fp, ∃ o, s2.heap.get? b = some o) (cl0 : Clo X scope cl) (hcell : ∀ y ∈ scope.names, y.2 ≠ .cell) (hkind : scope.kind = .function) {C : Addr} (hC : s2.heap.objs.size ≤ C) :
    (cxB X (x :: fvs) scope cl C s2 H2 fp).Ok where
  mod := I2.ok.mod
  kind := hkind
  glob := I2.ok.glob
  blt := I2.ok.blt
  above := hC
  inj := fun a b c e1 e2 => I2.ok.inj a b c (cl0.sub a c e1) (cl0.sub b c e2)
  has := fun y h => by
    rcases h with h | h
    · exact cl0.has y (lookup_mem (relabel_free hcell h (.inl rfl)))
    · exact cl0.has y (lookup_mem (relabel_free hcell h (.inr rfl)))
  cab := fun _ _ z => nomatch z
  hd := I2.ok.hd
  frames := I2.ok.frames
  stk := .inl rfl
  exf := fun b hb => by
    obtain ⟨o, e⟩ := hex b hb
    exact ⟨Nat.ne_of_lt (Nat.lt_of_lt_of_le (Heap.lt_size e) hC), fun y c q => (hfp b hb).2.2.2.2.1 y c (cl0.sub y c q)⟩
  bs := I2.bs
  bsz := Nat.le_trans I2.ok.bsz I2.sz
  noex := fun b o e hb => by
    rcases (hfp b hb).2.2.2.1 with z | z
    · rw [hnex] at z; cases z
    · exact absurd (Nat.lt_of_lt_of_le (Heap.lt_size e) (Nat.le_trans I2.ok.bsz z)) (Nat.lt_irrefl _)
  exfs := fun b hb z => by
    rcases List.mem_cons.mp (I2.stkSub b z) with q | q
    · exact (hfp b hb).2.1 q
    · exact (hfp b hb).2.2.1 q
  funs := I2.stack
  frf := I2.stkFree
theorem relabel_notlocal {env : Env} : ∀ {names : List (Str × NameKind)} {x : Str}, names.lookup x = some .free → (names.map fun (n, k) => if (k == NameKind.free && env.scope.kind == .function && env.kindOf n == some .cell) then (n, NameKind.cell) else (n, k)).lookup x ≠ some .local
  | [], x, h => by simp at h
  | (n, j) :: r, x, h => by
    rw [List.lookup_cons] at h
    rw [List.map_cons]
    dsimp only
    cases e : x == n with
    | true =>
      rw [e] at h
      have : j = .free := Option.some.inj h
      subst this
      split
      · rw [List.lookup_cons, e]; intro z; cases z
      · rw [List.lookup_cons, e]; intro z; cases z
    | false =>
      rw [e] at h
      split
      · rw [List.lookup_cons, e]; exact relabel_notlocal h
      · rw [List.lookup_cons, e]; exact relabel_notlocal h
/-- where the free names stand -/
structure FvOk (X : Cx) (scope : Scope) (fvs : List Str) (fidx : List Nat) : Prop where
  at_ : ∀ (j : Nat) y, fvs[j]? = some y → ∃ i, fidx[j]? = some i ∧ X.N[i]? = some y ∧ (X.env.scope.names.lookup y = some .cell ∨ X.env.scope.names.lookup y = some .free) ∧ scope.names.lookup y = some .free
  len : fidx.length = fvs.length
theorem blk_inv (I2 : Inv X pins σ H2 s2) (ok : (cxB X (x :: fvs) scope cl C s2 H2 fp).Ok) (cl0 : Clo X scope cl) (F : FvOk X scope fvs fidx) (hx : scope.names.lookup x = some .local) (hC : s2.heap.objs.size ≤ C) {h1 : Heap} {tk : Nat} (k : ∀ b o, s2.heap.get? b = some o → h1.get? b = some o)
    (hn : h1.Ns C fun _ => none) : Inv (cxB X (x :: fvs) scope cl C s2 H2 fp) [] (none :: fv σ fidx) H2 { s2 with heap := h1, toks := tk } where
  ok := ok
  os := rfl
  bare := I2.bare
  base := Un.kept k
  loc := by
    refine ⟨_, hn, fun i y v e1 e2 e3 => ?_⟩
    cases i with
    | zero => cases e2
    | succ j =>
      have e1' : fvs[j]? = some y := e1
      have e2' : (fv σ fidx)[j]? = some (some v) := e2
      obtain ⟨i0, f1, f2, f3, f4⟩ := F.at_ j y e1'
      have e4 : (σ[i0]?).join = some v := by
        unfold fv at e2'
        rw [List.getElem?_map, f1] at e2'
        exact Option.some.inj e2'
      have e5 : σ[i0]? = some (some v) := by
        cases q : σ[i0]? with
        | none => rw [q] at e4; cases e4
        | some z => rw [q] at e4; exact congrArg some e4
      obtain ⟨m, hnm, hl⟩ := I2.loc
      obtain ⟨u, r, l⟩ := hl i0 y v f2 e5 (f3.elim (fun z => .inr (.inl z)) fun z => .inr (.inr z))
      refine ⟨u, r, .inr ?_⟩
      rcases l with ⟨q, _⟩ | ⟨_, c, ec, o, ho, hd⟩
      · rcases f3 with z | z
        · have q2 : X.env.scope.names.lookup y = some .local := q
          rw [z] at q2; cases q2
        · have q2 : X.env.scope.names.lookup y = some .local := q
          rw [z] at q2; cases q2
      · obtain ⟨c2, ec2⟩ := cl0.has y (lookup_mem f4)
        have := cl0.sub y c2 ec2
        rw [ec] at this
        cases this
        refine ⟨?_, c, ec2, o, k c o ho, hd⟩
        rcases e3 with z | z | z
        · exfalso
          have z' : (relabel scope X.env).names.lookup y = some .local := z
          exact relabel_notlocal f4 z'
        · exact .inl z
        · exact .inr z
  cell := fun y c e => by
    obtain ⟨v, o, ho, hd⟩ := I2.cell y c (cl0.sub y c e)
    exact ⟨v, o, k c o ho, hd⟩
  free := I2.hok.fresh hC
  freeC := fun y c e => I2.freeC y c (cl0.sub y c e)
  pin := fun p hp => nomatch hp
  hok := I2.hok.kept k
  len := by
    show (none :: fv σ fidx).length = (x :: fvs).length
    unfold fv
    rw [List.length_cons, List.length_map, F.len, List.length_cons]
/-- the block runs: what it comes to, turn by turn -/
def LcW (J : It) (fvals : St) (te : TE) (don : List V → Hp → Prop) (H1 : Hp) : Prop := ∃ W : Nat → Nat → List V → Hp → Prop, (∃ m, W 0 m [] H1) ∧ ∀ i m ys H, W i m ys H → ys.length < sizeLine ∧
  ((J.stop i H ∧ don ys H) ∨ (J.go i H ∧ ∃ N : List V → Hp → Prop, (∀ ys' H', N ys' H' → ∃ m', m' < m ∧ W (i + 1) m' ys' H') ∧ ∀ x H', J.yld i H x H' → te (some x :: fvals) H' fun v H'' => N (ys ++ [v]) H''))
abbrev lobj (its : List Value) (n : Nat) : Obj := { cls := .type "list", data := .seq its.toArray n }
theorem comp_blk {don : List V → Hp → Prop} (I2 : Inv X pins σ H2 s2) (hnex : X.ex = []) (hc : X.calm = true) (T : Turn X.prog X.w X.K (.Name x px) J fp it tn) (tn0 : tn 0 s2.heap) (hfp : ∀ b ∈ fp, FpOk X pins H2 b) (cl0 : Clo X scope cl) (F : FvOk X scope fvs fidx)
    (hcell : ∀ y ∈ scope.names, y.2 ≠ .cell) (hkind : scope.kind = .function) (hx : scope.names.lookup x = some .local) (hnd : (x :: fvs).Nodup) (he : ∀ C s H ex, QE (cxB X (x :: fvs) scope cl C s H ex) elt te) (hw : LcW J (fv σ fidx) te don H2)
    (hRR : ∀ D C s' H ys m, Inv X pins σ (upd H D (.lst ys)) s' → H D = none → s'.heap.Ns C m → FpOk X pins (upd H D (.lst ys)) C → don ys H → RR (.ref D) C (.ok .next) s') :
    wpAny (model X.prog X.w) X.A (newList []) (fun acc s₃ => wpAny (model X.prog X.w) X.A (newFunctionEnv scope X.env.globals cl [] X.env.qual none .none (some X.env)) (fun cenv s₄ =>
      codeAny (model X.prog X.w) X.A (.compStart (.ListComp elt [⟨.Name x px, iter, [], 0⟩] scope pos) 0 (.ref it) acc { cenv with scope := relabel scope X.env }) (RR acc cenv.locals) s₄) E s₃) E s2 := by
  refine wpAny_newObj_type (wpAny_newFunctionEnv hcell (by intro y hy; simp at hy) (fun h₁ hns₁ hsb₁ => ?_) hkind)
  dsimp only at hns₁ hsb₁ ⊢
  generalize hHD : s2.heap.push { cls := .type "list", dict := none, data := .seq ([] : List Value).toArray } = HD at hns₁ hsb₁ ⊢
  have hC : HD.objs.size = s2.heap.objs.size + 1 := by rw [← hHD, Heap.size_push]
  have hDC : s2.heap.objs.size ≠ HD.objs.size := by rw [hC]; exact Nat.ne_of_lt (Nat.lt_succ_self _)
  have old : ∀ b o, s2.heap.get? b = some o → h₁.get? b = some o := fun b o e => hsb₁.extBut b o (by rw [hC]; exact Nat.ne_of_lt (Nat.lt_succ_of_lt (Heap.lt_size e))) (Heap.get?_push_of_some _ (hHD ▸ Heap.get?_push_of_some _ e))
  have hacc : h₁.get? s2.heap.objs.size = some (lobj [] 0) := hsb₁.extBut _ _ hDC (Heap.get?_push_of_some _ (hHD ▸ Heap.get?_push_size _ rfl))
  have hex : ∀ b ∈ fp, ∃ o, s2.heap.get? b = some o := fun b hb => let ⟨o, e, _⟩ := T.obj 0 _ tn0 b hb; ⟨o, e⟩
  have hC2 : s2.heap.objs.size ≤ HD.objs.size := by rw [hC]; exact Nat.le_succ _
  have ok : (cxB X (x :: fvs) scope cl HD.objs.size s2 H2 fp).Ok := blk_ok I2 hnex hfp hex cl0 hcell hkind hC2
  have I4 : Inv (cxB X (x :: fvs) scope cl HD.objs.size s2 H2 fp) [] (none :: fv σ fidx) H2 { s2 with heap := h₁, toks := s2.toks + ([] : List (Str × Value)).length } := blk_inv I2 ok cl0 F hx hC2 old hns₁
  generalize hXB : cxB X (x :: fvs) scope cl HD.objs.size s2 H2 fp = XB at ok I4
  have eP : XB.prog = X.prog := by rw [← hXB]; rfl
  have eW : XB.w = X.w := by rw [← hXB]; rfl
  have eK : XB.K = X.K := by rw [← hXB]; rfl
  have eA : XB.A = X.A := by rw [← hXB]; rfl
  have eE : XB.env = compEnvC scope cl HD.objs.size X.env := by rw [← hXB]; rfl
  have eL : XB.env.locals = HD.objs.size := by rw [eE]; rfl
  have eS : XB.s₀ = s2 := by rw [← hXB]; rfl
  have eX : XB.ex = fp := by rw [← hXB]; rfl
  have eF : XB.fs = frs X.stack := by rw [← hXB]; rfl
  have eN : XB.N = x :: fvs := by rw [← hXB]; rfl
  have ePn : XB.pn = [] := by rw [← hXB]; rfl
  have eH : XB.H₀ = H2 := by rw [← hXB]; rfl
  have eCc : XB.calm = true := by rw [← hXB]; exact hc
  have eXe : XB.xe = fun _ _ => False := by rw [← hXB]; rfl
  have eCl : XB.env.cells = cl := by rw [eE]; rfl
  have hD0 : ∀ y c, XB.env.cells.lookup y = some c → c ≠ s2.heap.objs.size := fun y c e => by
    rw [eCl] at e
    obtain ⟨v, o, ho, _⟩ := I2.cell y c (cl0.sub y c e)
    exact Nat.ne_of_lt (Heap.lt_size ho)
  have hDfs : s2.heap.objs.size ∉ XB.fs := by
    rw [eF]
    intro z
    rcases List.mem_cons.mp (I2.stkSub _ z) with q | q
    · exact absurd I2.lt (by rw [← q]; exact Nat.lt_irrefl _)
    · exact I2.nofs (Nat.le_refl _) q
  -- what stays of the iterator
  have stat : ∀ {H : Hp} {pp : List (Addr × Obj)}, (∀ b ∈ fp, H b = none) → (∀ p ∈ pp, p.1 = s2.heap.objs.size) → ∀ b ∈ fp, FpOk XB pp H b := fun {H pp} hn hp b hb => by
    obtain ⟨o, e⟩ := hex b hb
    refine ⟨hn b hb, by rw [eL, hC]; exact Nat.ne_of_lt (Nat.lt_succ_of_lt (Heap.lt_size e)), ?_, .inl (by rw [eX]; exact hb), fun y c q => ?_, fun p hpp z => ?_⟩
    · rw [eF]
      intro z
      rcases List.mem_cons.mp (I2.stkSub b z) with q | q
      · exact (hfp b hb).2.1 q
      · exact (hfp b hb).2.2.1 q
    · rw [eCl] at q
      exact (hfp b hb).2.2.2.2.1 y c (cl0.sub y c q)
    · rw [ePn, List.nil_append] at hpp
      rw [hp p hpp] at z
      exact absurd (Heap.lt_size e) (by rw [← z]; exact Nat.lt_irrefl _)
  obtain ⟨W, ⟨m0, w0⟩, turn⟩ := hw
  let Inw : Nat → Shared → Prop := fun n s => ∃ i ys its k σx H, Inv XB [(s2.heap.objs.size, lobj its k)] (σx :: fv σ fidx) H s ∧ Vals ys its ∧ tn i s.heap ∧ (∀ b ∈ fp, H b = none) ∧ W i n ys H
  have I40 : Inv XB [(s2.heap.objs.size, lobj [] 0)] (none :: fv σ fidx) H2 { s2 with heap := h₁, toks := s2.toks + ([] : List (Str × Value)).length } := I4.pins_of fun p hp => by
    have e : p = (s2.heap.objs.size, lobj [] 0) := by simpa using hp
    subst e
    exact ⟨hacc, I2.hok.fresh (Nat.le_refl _), by rw [eL]; exact hDC, hDfs, fun v z => by cases z⟩
  have start : Inw m0 { s2 with heap := h₁, toks := s2.toks + ([] : List (Str × Value)).length } := ⟨0, [], [], 0, none, H2, I40, .nil, T.keep _ _ _ tn0 fun b _ o e => old b o e, fun b hb => (hfp b hb).1, w0⟩
  have hDlt : ∀ b ∈ fp, b ≠ s2.heap.objs.size := fun b hb => let ⟨o, e⟩ := hex b hb; Nat.ne_of_lt (Heap.lt_size e)
  have pd : ∀ {o : Obj} (p : Addr × Obj), p ∈ [(s2.heap.objs.size, o)] → p.1 = s2.heap.objs.size := fun p hp => by
    rw [List.mem_singleton.mp hp]
  have fin : ∀ s1 H ys its k σx, Inv XB [(s2.heap.objs.size, lobj its k)] (σx :: fv σ fidx) H s1 → Vals ys its → ys.length < sizeLine → don ys H → RR (.ref s2.heap.objs.size) HD.objs.size (.ok .next) s1 := fun s1 H ys its k σx I rv hz dn => by
    have un : Un (frs X.stack) fp H2 H s2.heap s1.heap := by
      have z := I.base
      rw [eF, eX, eH, eS] at z
      exact z
    have os : s1.os = s2.os := by
      have z := I.os
      rw [eS] at z
      exact z
    have hok : HOk X.prog X.w H s1.heap := by
      have z := I.hok
      rw [eP, eW] at z
      exact z
    have J1 : Inv X pins σ H s1 := I2.call' os un hok I.bare fun b hb => ⟨by
      rcases (hfp b hb).2.2.2.1 with z | z
      · exact .inl z
      · exact .inr z, (hfp b hb).2.1, (hfp b hb).2.2.2.2.1, (hfp b hb).2.2.2.2.2⟩
    obtain ⟨q1, q2, _⟩ := I.pin (s2.heap.objs.size, lobj its k) (by rw [ePn]; simp)
    have J2 : Inv X pins σ (upd H s2.heap.objs.size (.lst ys)) s1 := Inv.track J1 (I2.fpOk (Nat.le_refl _) q2) hnex (show ObjOk X.prog X.w _ s1.heap _ (.lst ys) from ⟨Nat.le_of_lt hz, its, k, rv, q1⟩)
    obtain ⟨m, hn, _⟩ := I.loc
    rw [eL] at hn
    refine hRR _ _ s1 H ys m J2 q2 hn (I2.fpOk hC2 ?_) dn
    rw [upd_ne (Ne.symm hDC)]
    have z := I.free
    rw [eL] at z
    exact z
  have loop : ∀ s₃ : Shared, s₃ = { s2 with heap := h₁, toks := s2.toks + ([] : List (Str × Value)).length } →
      codeAny (model X.prog X.w) X.A (.compLoop (.ListComp elt [⟨.Name x px, iter, [], 0⟩] scope pos) 0 (.ref it) (.ref s2.heap.objs.size) (compEnvC scope cl HD.objs.size X.env)) (RR (.ref s2.heap.objs.size) HD.objs.size) s₃ := by
    rintro s₃ rfl
    rw [← eE]
    refine codeAny_compLoop_tests Inw ?_ m0 start
    rintro n s ⟨i, ys, its, k, σx, H, I, rv, st, fr, wt⟩
    obtain ⟨hsz, tr⟩ := turn i n ys H wt
    rcases tr with ⟨stop, dn⟩ | ⟨go, N, hN, step⟩
    · have Td := T.done XB eP eW eK eCc i _ s _ H (notedBy (model X.prog X.w) X.A XB.env fun e s' => RR (.ref s2.heap.objs.size) HD.objs.size (.error e) s') I (stat fr pd) st stop
      rw [eA] at Td
      refine wpAny_mono Td (fun r s1 ⟨hr, I1⟩ => ?_) fun _ _ e => e
      subst hr
      exact fin s1 H ys its k σx I1 rv hsz dn
    · have Ti := T.item XB eP eW eK eCc i _ s _ H (notedBy (model X.prog X.w) X.A XB.env fun e s' => RR (.ref s2.heap.objs.size) HD.objs.size (.error e) s') I (stat fr pd) st go
      rw [eA] at Ti
      refine wpAny_mono Ti (fun r s1 ⟨u, hr, h4⟩ => ?_) fun _ _ e => e
      subst hr
      dsimp only
      have eq : assign (.Name x px) XB.env u = (letOwnedTupleGo (.Name x px) (.ref it) u >>= fun _ => assign (.Name x px) XB.env u) := rfl
      rw [eq]
      refine wpAny_bind (wpAny_mono h4 (fun _ s5 ⟨v, H5, I5, r5, y5, st5, fr5⟩ => ?_) fun _ _ e => e)
      have I5' := I5.pinned (stat fr5 pd) (T.obj _ _ st5)
      have lc : XB.env.scope.names.lookup x = some .local := by rw [eE]; exact lookup_relabel_local hx
      refine wpAny_assign_Name (store_ok (i := 0) (x := x) I5' (by rw [eN]; exact hnd) (by rw [eN]; rfl) (.inl lc) r5 (fun s6 I6 => ?_) (.inr lc))
      refine wpAny_tests_nil ?_
      simp only [if_true]
      have h7 := he HD.objs.size s2 H2 fp
      rw [hXB] at h7
      have h8 := h7.h _ s6 _ H5 _ I6 (step v H5 y5)
      rw [eP, eW, eA, eXe] at h8
      refine wpAny_mono h8 (fun u7 s7 ⟨v7, H7, I7, r7, n7⟩ => ?_) fun _ _ z => z.elim
      obtain ⟨q1, q2, q3, q4, q5⟩ := I7.pin (s2.heap.objs.size, lobj its k) (by rw [ePn]; simp)
      have fpin : ∀ b ∈ fp, ∀ o, s5.heap.get? b = some o → s7.heap.get? b = some o ∧ H7 b = none := fun b hb o e =>
        let z := I7.pin (b, o) (List.mem_append_right _ (List.mem_append_right _ (mem_pinsAt hb e))); ⟨z.1, z.2.1⟩
      refine append_at (hsz := by rw [List.size_toArray, ← rv.length]; exact Nat.le_of_lt hsz) q1 fun h9 hs9 hD9 => ?_
      obtain ⟨m', hm, w'⟩ := hN _ _ n7
      have I7a : Inv XB (pinsAt fp s5.heap) (some v :: fv σ fidx) H7 s7 := I7.pins_of fun p hp => I7.pin p (List.mem_append_right _ (List.mem_append_right _ hp))
      have pne : ∀ p ∈ XB.pn ++ pinsAt fp s5.heap, p.1 ≠ s2.heap.objs.size := fun p hp => by
        rw [ePn, List.nil_append] at hp
        exact hDlt _ (of_pinsAt hp).1
      have I8 : Inv XB (pinsAt fp s5.heap) (some v :: fv σ fidx) H7 { s7 with heap := h9 } := I7a.turned (t' := s7.toks) (fun b o hb e => hs9.extBut b o hb e) q2 q3 (.inr (by rw [eS]; exact Nat.le_refl _)) hD0 pne
      refine ⟨m', hm, i + 1, ys ++ [v7], its ++ [u7], k + 1, some v, H7, I8.pins_of fun p hp => ?_, rv.append (.cons r7 .nil), ?_, fun b hb => ?_, w'⟩
      · have e : p = (s2.heap.objs.size, lobj (its ++ [u7]) (k + 1)) := by simpa using hp
        subst e
        refine ⟨?_, q2, q3, q4, fun v z => by cases z⟩
        rw [hD9]
        simp
      · refine T.keep _ _ _ st5 fun b hb o e => ?_
        exact hs9.extBut b o (hDlt b hb) (fpin b hb o e).1
      · obtain ⟨o, e, _⟩ := T.obj _ _ st5 b hb
        exact (fpin b hb o e).2
  exact codeAny_compStart_list (loop _ rfl) (T.self _ 0 _ _ _ (T.keep _ _ _ tn0 fun b _ o e => old b o e) (loop _ rfl))
theorem clo_go {env : Env} : ∀ (names : List (Str × NameKind)) (cs : List (Str × Addr)), (∀ y, (y, NameKind.free) ∈ names → ∃ c, env.cells.lookup y = some c) →
    ∃ cl, (forIn names cs (fun (p : Str × NameKind) (cs : List (Str × Addr)) => (if (p.2 == NameKind.free) = true then (do let c ← cellOf env p.1; pure (ForInStep.yield ((p.1, c) :: cs))) else pure (ForInStep.yield cs) : Sem (ForInStep (List (Str × Addr)))))) = (pure cl : Sem (List (Str × Addr))) ∧
      (∀ y c, cl.lookup y = some c → env.cells.lookup y = some c ∨ cs.lookup y = some c) ∧ (∀ y, ((y, NameKind.free) ∈ names ∨ ∃ c, cs.lookup y = some c) → ∃ c, cl.lookup y = some c)
  | [], cs, _ => ⟨cs, rfl, fun y c e => .inr e, fun y h => h.elim (fun z => nomatch z) id⟩
  | (n, k) :: r, cs, h => by
    rw [List.forIn_cons]
    by_cases hk : (k == NameKind.free) = true
    · have kf : k = .free := by simpa using hk
      obtain ⟨c, hc⟩ := h n (by rw [kf]; exact List.mem_cons_self)
      obtain ⟨cl, e1, e2, e3⟩ := clo_go r ((n, c) :: cs) fun y hy => h y (List.mem_cons_of_mem _ hy)
      refine ⟨cl, ?_, fun y c' e => ?_, fun y hy => e3 y ?_⟩
      · simp only [hk, if_true]
        have : cellOf env n = pure c := by unfold cellOf; rw [hc]
        rw [this]
        exact e1
      · rcases e2 y c' e with z | z
        · exact .inl z
        · rw [List.lookup_cons] at z
          cases q : y == n with
          | true =>
            rw [q] at z
            have q' : y = n := by simpa using q
            subst q'
            exact .inl (hc.trans z)
          | false => rw [q] at z; exact .inr z
      · rcases hy with z | ⟨c', z⟩
        · rcases List.mem_cons.mp z with z | z
          · right
            have : y = n := congrArg Prod.fst z
            subst this
            exact ⟨c, by rw [List.lookup_cons, beq_self_eq_true]⟩
          · exact .inl z
        · right
          rw [List.lookup_cons]
          cases q : y == n with
          | true => exact ⟨c, rfl⟩
          | false => exact ⟨c', z⟩
    · obtain ⟨cl, e1, e2, e3⟩ := clo_go r cs fun y hy => h y (List.mem_cons_of_mem _ hy)
      refine ⟨cl, ?_, e2, fun y hy => e3 y ?_⟩
      · simp only [hk, Bool.false_eq_true, if_false]
        exact e1
      · rcases hy with z | z
        · rcases List.mem_cons.mp z with z | z
          · have : k = .free := (congrArg Prod.snd z).symm
            rw [this] at hk
            exact absurd rfl hk
          · exact .inl z
        · exact .inr z
theorem clo_mk {X : Cx} {scope : Scope} (h : ∀ y, (y, NameKind.free) ∈ scope.names → ∃ c, X.env.cells.lookup y = some c) : ∃ cl, Clo X scope cl := by
  obtain ⟨cl, e1, e2, e3⟩ := clo_go (env := X.env) scope.names [] h
  exact ⟨cl, (congrArg (fun m : Sem (List (Str × Addr)) => m >>= fun s => pure s) e1).trans rfl, fun y c e => (e2 y c e).elim id (fun z => nomatch z), fun y hy => e3 y (.inl hy)⟩
/-- what is asked of the scope, all of it by computation -/
structure LcOk (X : Cx) (scope : Scope) (x : Str) (fvs : List Str) (fidx : List Nat) : Prop where
  cell : ∀ y ∈ scope.names, y.2 ≠ .cell
  kind : scope.kind = .function
  names : ∀ y ∈ scope.names, y.2 = .local → scope.names.lookup y.1 = some .local
  hx : scope.names.lookup x = some .local
  nd : (x :: fvs).Nodup
  hfv : FvOk X scope fvs fidx
  free : ∀ y, (y, NameKind.free) ∈ scope.names → X.env.kindOf y = some .cell ∨ X.env.kindOf y = some .free
def tLC (wi : TI) (fidx : List Nat) (te : TE) : TE := fun σ H Q => wi σ H fun J H1 => LcW J (fv σ fidx) te (fun ys H => ∀ D, H D = none → Q (.ref D) (upd H D (.lst ys))) H1
theorem qe_lc (L : LcOk X scope x fvs fidx) (hnex : X.ex = []) (hc : X.calm = true) {wi : TI} (hi : QI X (.Name x px) iter wi) (he : ∀ cl C s H ex, QE (cxB X (x :: fvs) scope cl C s H ex) elt te)
    (hs : ∀ z, foldedSetIterable iter X.env z = pure z := by intro _; rfl) : QE X (.ListComp elt [⟨.Name x px, iter, [], 0⟩] scope pos) (tLC wi fidx te) := by
  refine ⟨fun pins s σ H Q I h => ?_⟩
  obtain ⟨cl, cl0⟩ := clo_mk (X := X) (scope := scope) fun y hy => I.ok.has y (L.free y hy)
  rw [eval_ListComp]
  refine wpAny_comprehension_free (use := none) rfl hs cl0.eq L.kind L.names (wpAny_mono (hi.h pins s σ H _ I h) (fun v s1 h1 => wpAny_mono h1 (fun itv s2 h2 => ?_) fun _ _ e => e) fun _ _ e => e)
  obtain ⟨it, fp, tn, J, H2, e, I2, T, st2, f2, hw⟩ := h2
  subst e
  refine comp_blk (RR := fun acc C => compPost (model X.prog X.w) X.A X.xe none (EP X pins σ Q) acc C) I2 hnex hc T st2 f2 cl0 L.hfv L.cell L.kind L.hx L.nd (he cl) hw fun D C s' H' ys m J1 hD hn fC dn => ?_
  refine ⟨m, hn, fun h' hs' => ?_⟩
  obtain ⟨c0, c1, c2, c3, c4, c5⟩ := fC
  exact ⟨.ref D, _, J1.turned (t' := s'.toks) (fun b o hb e => hs'.extBut b o hb e) c0 c1 c3 c4 c5, rfl, dn D hD⟩
/-- y = [..], y a local name -/
theorem qs_lc (L : LcOk X scope x fvs fidx) (hnex : X.ex = []) (hc : X.calm = true) {j : Nat} {y : Str} {py spos : Pos} (hN : X.N.Nodup) (hj : X.N[j]? = some y) (hy : X.env.scope.names.lookup y = some .local) {wi : TI} (hi : QI X (.Name x px) iter wi)
    (he : ∀ cl C s H ex, QE (cxB X (x :: fvs) scope cl C s H ex) elt te)
    (hsw : swapsWith (.ListComp elt [⟨.Name x px, iter, [], 0⟩] scope pos) (some (.Name y py)) spos.line X.env = pure true := by rfl)
    (hs : ∀ z, foldedSetIterable iter X.env z = pure z := by intro _; rfl) : QS X (.Assign [.Name y py] (.ListComp elt [⟨.Name x px, iter, [], 0⟩] scope pos) spos) (fun D σ H => tLC wi fidx te σ H fun v H' => D.nx (σ.set j (some v)) H') := by
  refine ⟨fun pins s σ H D I h => ?_⟩
  obtain ⟨cl, cl0⟩ := clo_mk (X := X) (scope := scope) fun y hy => I.ok.has y (L.free y hy)
  rw [exec_Assign_Name_used _ _ _ _ hsw]
  refine wpAny_bind (wpAny_standAt (wpAny_bind ?_))
  show wpAny _ X.A (do let _ ← comprehension (.ListComp elt [⟨.Name x px, iter, [], 0⟩] scope pos) scope X.env _ (newList []) false (eval iter X.env) (some (assign (.Name y py) X.env))) _ _ s
  refine wpAny_bind (wpAny_mono (wpAny_comprehension_free (use := some (assign (.Name y py) X.env)) (Q := fun _ s' => SP X pins D .next s') rfl hs cl0.eq L.kind L.names (wpAny_mono (hi.h pins s σ H _ I h) (fun v s1 h1 => wpAny_mono h1 (fun itv s2 h2 => ?_) fun _ _ e => e) fun _ _ e => e)) (fun _ s' hq => wpAny_pure (wpAny_pure hq)) fun _ _ e => e)
  obtain ⟨it, fp, tn, J, H2, e, I2, T, st2, f2, hw⟩ := h2
  subst e
  refine comp_blk (RR := fun acc C => compPost (model X.prog X.w) X.A X.xe (some (assign (.Name y py) X.env)) (fun _ s' => SP X pins D .next s') acc C) I2 hnex hc T st2 f2 cl0 L.hfv L.cell L.kind L.hx L.nd (he cl) hw fun D1 C s' H' ys m J1 hD hn fC dn => ?_
  show wpAny _ X.A (assign (.Name y py) X.env (.ref D1)) _ _ _
  refine wpAny_assign_Name (store_ok2 J1 hN hj (.inl hy) (show RelV (.ref D1) (.ref D1) from rfl) (fun s3 J3 ch => ?_) (.inr hy))
  obtain ⟨c0, c1, c2, c3, c4, c5⟩ := fC
  obtain ⟨a, sb, ha⟩ := ch
  have neC : C ≠ a := fun z => by
    rcases ha with q | q
    · exact c1 (z.trans q)
    · exact c4 _ _ q z.symm
  refine ⟨m, hn.sameBut sb neC, fun h' hs' => ?_⟩
  exact ⟨_, _, J3.turned (t' := s3.toks) (fun b o hb e => hs'.extBut b o hb e) c0 c1 c3 c4 c5, dn D1 hD⟩
end
end L8


set_option maxRecDepth 100000
set_option linter.all false
set_option maxHeartbeats 4000000
set_option Elab.async false
namespace L2
open PySem PySem.Spec PyProof.Rows

/-! ### lists of pairs as tables -/
section
variable {κ : Type} [DecidableEq κ]
def valV (kvs : List (κ × V)) (k : κ) : Option V := (kvs.find? fun kv => decide (kv.1 = k)).map (·.2)
/-- in its place, or at the end -/
def putK (kvs : List (κ × V)) (k : κ) (v : V) : List (κ × V) :=
  if (kvs.any fun kv => decide (kv.1 = k)) = true then kvs.map (fun kv => if kv.1 = k then (kv.1, v) else kv) else kvs ++ [(k, v)]
def dropK (kvs : List (κ × V)) (k : κ) : List (κ × V) := kvs.filter fun kv => decide (kv.1 ≠ k)

theorem valV_pos {p : κ × V} {r : List (κ × V)} {k : κ} (e : p.1 = k) : valV (p :: r) k = some p.2 := by simp [valV, List.find?_cons, e]
theorem valV_neg {p : κ × V} {r : List (κ × V)} {k : κ} (e : ¬ p.1 = k) : valV (p :: r) k = valV r k := by simp [valV, List.find?_cons, e]
theorem valV_any (k : κ) : ∀ kvs : List (κ × V), (kvs.any fun kv => decide (kv.1 = k)) = (valV kvs k).isSome
  | [] => rfl
  | p :: r => by
    rw [List.any_cons]
    by_cases e : p.1 = k
    · simp only [valV_pos e, decide_eq_true e, Bool.true_or, Option.isSome_some]
    · rw [valV_neg e, decide_eq_false e, Bool.false_or]; exact valV_any k r

theorem RelO.isSome_eq {o : Option V} {u : Option Value} (r : RelO o u) : o.isSome = u.isSome := by
  cases o with
  | none => cases u with
    | none => rfl
    | some _ => exact (show False from r).elim
  | some _ => cases u with
    | none => exact (show False from r).elim
    | some _ => rfl
theorem RelO.getD {o : Option V} {u : Option Value} {d : V} {d' : Value} (r : RelO o u) (rd : RelV d d') : RelV (o.getD d) (u.getD d') := by
  cases o with
  | none => cases u with
    | none => exact rd
    | some _ => exact (show False from r).elim
  | some _ => cases u with
    | none => exact (show False from r).elim
    | some _ => exact r

/-- raw tables of the same keys -/
theorem KV.val {kvs : List (κ × V)} {vs : List (κ × Value)} (r : KV kvs vs) (k : κ) : RelO (valV kvs k) (valueAt vs k) := by
  unfold KV at r
  induction r with
  | nil => exact True.intro
  | @cons p q ps qs h t ih =>
    obtain ⟨h1, h2⟩ := h
    by_cases e : p.1 = k
    · have e' : q.1 = k := h1.symm.trans e
      have b : valueAt (q :: qs) k = some q.2 := by simp [valueAt, List.find?_cons, e']
      rw [valV_pos e, b]; exact h2
    · have e' : ¬ q.1 = k := fun z => e (h1.trans z)
      have b : valueAt (q :: qs) k = valueAt qs k := by simp [valueAt, List.find?_cons, e']
      rw [valV_neg e, b]; exact ih
theorem KV.any {kvs : List (κ × V)} {vs : List (κ × Value)} (r : KV kvs vs) (k : κ) : (kvs.any fun kv => decide (kv.1 = k)) = vs.any fun kv => decide (kv.1 = k) := by
  unfold KV at r
  induction r with
  | nil => rfl
  | cons h t ih => rw [List.any_cons, List.any_cons, ih, h.1]
theorem KV.repl {kvs : List (κ × V)} {vs : List (κ × Value)} (r : KV kvs vs) (k : κ) {y : V} {u : Value} (ry : RelV y u) :
    KV (kvs.map fun kv => if kv.1 = k then (kv.1, y) else kv) (vs.map fun kv => if kv.1 = k then (kv.1, u) else kv) := by
  unfold KV at r ⊢
  induction r with
  | nil => exact .nil
  | @cons p q ps qs h t ih =>
    rw [List.map_cons, List.map_cons]
    refine .cons ?_ ih
    obtain ⟨h1, h2⟩ := h
    by_cases e : p.1 = k
    · rw [if_pos e, if_pos (h1.symm.trans e)]; exact ⟨h1, ry⟩
    · rw [if_neg e, if_neg (fun z => e (h1.trans z))]; exact ⟨h1, h2⟩
theorem KV.put {kvs : List (κ × V)} {vs : List (κ × Value)} (r : KV kvs vs) (k : κ) {y : V} {u : Value} (ry : RelV y u) : KV (putK kvs k y) (stored vs k u) := by
  unfold putK stored
  rw [r.any k]
  by_cases e : (vs.any fun kv => decide (kv.1 = k)) = true
  · rw [if_pos e, if_pos e]; exact r.repl k ry
  · rw [if_neg e, if_neg e]; exact Paired.snoc r ⟨rfl, ry⟩
theorem KV.drop {kvs : List (κ × V)} {vs : List (κ × Value)} (r : KV kvs vs) (k : κ) : KV (dropK kvs k) (without vs k) := by
  unfold KV at r ⊢
  unfold dropK without
  induction r with
  | nil => exact .nil
  | @cons p q ps qs h t ih =>
    obtain ⟨h1, h2⟩ := h
    rw [List.filter_cons, List.filter_cons]
    by_cases e : p.1 = k
    · have a : ¬ decide (p.1 ≠ k) = true := by simp [e]
      have b : ¬ decide (q.1 ≠ k) = true := by simp [h1.symm.trans e]
      rw [if_neg a, if_neg b]; exact ih
    · have e' : ¬ q.1 = k := fun z => e (h1.trans z)
      have a : decide (p.1 ≠ k) = true := by simp [e]
      have b : decide (q.1 ≠ k) = true := by simp [e']
      rw [if_pos a, if_pos b]; exact .cons ⟨h1, h2⟩ ih
theorem KV.keys {kvs : List (κ × V)} {vs : List (κ × Value)} (r : KV kvs vs) : kvs.map (·.1) = vs.map (·.1) := by
  unfold KV at r
  induction r with
  | nil => rfl
  | cons h t ih => rw [List.map_cons, List.map_cons, ih, h.1]
theorem KV.length {kvs : List (κ × V)} {vs : List (κ × Value)} (r : KV kvs vs) : kvs.length = vs.length := Paired.length r
end


/-! ### a tracked dict, its keys ints and texts or tuples of these -/

/-- raw entries of a dict with tuple keys -/
abbrev KT (H : Hp) : List (List Key × V) → List (List Key × Addr × Value) → Prop := Paired fun p q => p.1 = q.1 ∧ H q.2.1 = some (.tup (p.1.map kV)) ∧ RelV p.2 q.2.2
theorem KT.val {H : Hp} {kvs : List (List Key × V)} {xs : List (List Key × Addr × Value)} (r : KT H kvs xs) (k : List Key) : RelO (valV kvs k) ((atKey xs k).map (·.2)) := by
  induction r with
  | nil => exact True.intro
  | @cons p q ps qs h t ih =>
    obtain ⟨h1, _, h2⟩ := h
    by_cases e : p.1 = k
    · have e' : q.1 = k := h1.symm.trans e
      have b : atKey (q :: qs) k = some q.2 := by simp [atKey, List.find?_cons, e']
      rw [valV_pos e, b]; exact h2
    · have e' : ¬ q.1 = k := fun z => e (h1.trans z)
      have b : atKey (q :: qs) k = atKey qs k := by simp [atKey, List.find?_cons, e']
      rw [valV_neg e, b]; exact ih
theorem KT.repl {H : Hp} {kvs : List (List Key × V)} {xs : List (List Key × Addr × Value)} (r : KT H kvs xs) (k : List Key) {y : V} {u : Value} (ry : RelV y u) :
    KT H (kvs.map fun kv => if kv.1 = k then (kv.1, y) else kv) (xs.map (putAt k u)) := by
  induction r with
  | nil => exact .nil
  | @cons p q ps qs h t ih =>
    rw [List.map_cons, List.map_cons]
    refine .cons ?_ ih
    obtain ⟨h1, h2, h3⟩ := h
    unfold putAt
    by_cases e : p.1 = k
    · rw [if_pos e, if_pos (h1.symm.trans e)]; exact ⟨h1, h2, ry⟩
    · rw [if_neg e, if_neg (fun z => e (h1.trans z))]; exact ⟨h1, h2, h3⟩
theorem KT.put {H : Hp} {kvs : List (List Key × V)} {xs : List (List Key × Addr × Value)} (r : KT H kvs xs) (k : List Key) {b : Addr} {y : V} {u : Value} (hb : H b = some (.tup (k.map kV))) (ry : RelV y u) :
    KT H (putK kvs k y) (storedH xs k b u) := by
  have e : (kvs.any fun kv => decide (kv.1 = k)) = (atKey xs k).isSome := by
    rw [valV_any, (r.val k).isSome_eq, Option.isSome_map]
  unfold putK storedH
  rw [e]
  by_cases q : (atKey xs k).isSome = true
  · rw [if_pos q, if_pos q]; exact r.repl k ry
  · rw [if_neg q, if_neg q]; exact Paired.snoc r ⟨rfl, hb, ry⟩
theorem KT.keeps {H H' : Hp} {kvs : List (List Key × V)} {xs : List (List Key × Addr × Value)} (r : KT H kvs xs) (ht : ∀ b ys, H b = some (.tup ys) → H' b = some (.tup ys)) : KT H' kvs xs :=
  Paired.mapP r fun _ _ z => ⟨z.1, ht _ _ z.2.1, z.2.2⟩

section
variable {P : Program} {w : World} {H : Hp} {h : Heap} {a : Addr}
end

/-- what the dict at a holds at the key y -/
def DGet (H : Hp) (a : Addr) (y : V) (r : Option V) : Prop :=
  (∃ kvs k, Rd H a (.dK kvs) ∧ y = kV k ∧ r = valV kvs k) ∨ ∃ kvs k b, Rd H a (.dT kvs) ∧ y = .ref b ∧ H b = some (.tup (k.map kV)) ∧ r = valV kvs k
/-- the heap behind a[y] = v -/
def DPut (H : Hp) (a : Addr) (y v : V) (H' : Hp) : Prop :=
  (∃ kvs k, H a = some (.dK kvs) ∧ y = kV k ∧ kvs.length < sizeLine ∧ H' = upd H a (.dK (putK kvs k v))) ∨
  ∃ kvs k b, H a = some (.dT kvs) ∧ y = .ref b ∧ H b = some (.tup (k.map kV)) ∧ kvs.length < sizeLine ∧ H' = upd H a (.dT (putK kvs k v))
theorem DGet.k {H : Hp} {a : Addr} {kvs : List (Key × V)} {k : Key} (e : H a = some (.dK kvs)) : DGet H a (kV k) (valV kvs k) := .inl ⟨kvs, k, .inl e, rfl, rfl⟩
theorem DGet.t {H : Hp} {a b : Addr} {kvs : List (List Key × V)} {k : List Key} (e : H a = some (.dT kvs)) (eb : H b = some (.tup (k.map kV))) : DGet H a (.ref b) (valV kvs k) := .inr ⟨kvs, k, b, .inl e, rfl, eb, rfl⟩
theorem DPut.k {H : Hp} {a : Addr} {kvs : List (Key × V)} {k : Key} {v : V} (e : H a = some (.dK kvs)) (hl : kvs.length < sizeLine) : DPut H a (kV k) v (upd H a (.dK (putK kvs k v))) := .inl ⟨kvs, k, e, rfl, hl, rfl⟩
theorem DPut.t {H : Hp} {a b : Addr} {kvs : List (List Key × V)} {k : List Key} {v : V} (e : H a = some (.dT kvs)) (eb : H b = some (.tup (k.map kV))) (hl : kvs.length < sizeLine) :
    DPut H a (.ref b) v (upd H a (.dT (putK kvs k v))) := .inr ⟨kvs, k, b, e, rfl, eb, hl, rfl⟩


section
variable {X : Cx} {pins : List (Addr × Obj)} {σ : St} {H : Hp} {s : Shared} {a : Addr} {y v : V} {u r : Value} {o : Option V} {A : Around} {E : Value → Shared → Prop}

theorem Inv.big (I : Inv X pins σ H s) : sysModules < s.heap.objs.size := by
  have h : mainGlobals < s.heap.objs.size := (I.mod.glob.keeps I.bk).lt
  exact Nat.lt_trans (by decide) h

end

section
variable {X : Cx} {pins : List (Addr × Obj)} {σ : St} {H : Hp} {s : Shared} {a : Addr} {kvs : List (Key × V)} {k : Key} {u : Value} {A : Around} {E : Value → Shared → Prop}
end


/-! ### readings and rules -/
/-- the element of a subscription, not a slice -/
def NoSl (i : Expr) : Prop := ∀ ov iv, subscripted i false ov iv = operate [ov, iv] (getItem ov iv)


/-- d[y] -/
def tDGet (td ty : TE) : TE := fun σ H Q => td σ H fun x H1 => ty σ H1 fun y H2 => ∃ a v, x = .ref a ∧ DGet H2 a y (some v) ∧ Q v H2
/-- y in d, y not in d -/
def tDIn (ty td : TE) : TE := fun σ H Q => ty σ H fun y H1 => td σ H1 fun x H2 => ∃ a o, x = .ref a ∧ DGet H2 a y o ∧ Q (.bl o.isSome) H2
def tDNotIn (ty td : TE) : TE := fun σ H Q => ty σ H fun y H1 => td σ H1 fun x H2 => ∃ a o, x = .ref a ∧ DGet H2 a y o ∧ Q (.bl (!o.isSome)) H2
/-- d[y] = v -/
def sDPut (td ty tv : TE) : TS := fun D σ H => tv σ H fun v H1 => td σ H1 fun x H2 => ty σ H2 fun y H3 => ∃ a H4, x = .ref a ∧ DPut H3 a y v H4 ∧ D.nx σ H4
/-- d[y] op= v -/
def sDAug (td ty tv : TE) (rd : V → V → Hp → VK → Prop) : TS := fun D σ H => td σ H fun x H1 => ty σ H1 fun y H2 => ∃ a v, x = .ref a ∧ DGet H2 a y (some v) ∧
  tv σ H2 fun y2 H3 => rd v y2 H3 fun z H4 => ∃ H5, DPut H4 a y z H5 ∧ D.nx σ H5
/-- del d[y] -/
def sDDel (td ty : TE) : TS := fun D σ H => td σ H fun x H1 => ty σ H1 fun y H2 => ∃ a kvs k, x = .ref a ∧ H2 a = some (.dK kvs) ∧ y = kV k ∧ (valV kvs k).isSome = true ∧ D.nx σ (upd H2 a (.dK (dropK kvs k)))

section
variable {X : Cx} {o i e value : Expr} {pos pos' tpos : Pos} {td ty tv : TE}
end


/-! ### displays -/
/-- {}, to be a dict of the kind that is wanted -/
def tDNewK : TE := fun _ H Q => ∀ p, H p = none → Q (.ref p) (upd H p (.dK []))
def tDNewT : TE := fun _ H Q => ∀ p, H p = none → Q (.ref p) (upd H p (.dT []))
section
variable {X : Cx} {pos : Pos}
end

/-- the pairs of a display, from the left -/
def tPairs : List (TE × TE) → St → Hp → (List (V × V) → Hp → Prop) → Prop
  | [], _, H, Q => Q [] H
  | (tk, tv) :: r, σ, H, Q => tk σ H fun x H1 => tv σ H1 fun y H2 => tPairs r σ H2 fun ps H3 => Q ((x, y) :: ps) H3
abbrev VV : List (V × V) → List (Value × Value) → Prop := Paired fun p q => RelV p.1 q.1 ∧ RelV p.2 q.2
def PPs (X : Cx) (pos : Pos) (keys : List (Option Expr)) (values : List Expr) (trs : List (TE × TE)) : Prop :=
  ∀ (pins : List (Addr × Obj)) (s : Shared) (σ : St) (H : Hp) (Q : List (V × V) → Hp → Prop), Inv X pins σ H s → tPairs trs σ H Q →
    wpAny (model X.prog X.w) X.A (evalPairs (pairTrees keys values X.env pos)) (fun vs s' => ∃ ps H', Inv X pins σ H' s' ∧ VV ps vs ∧ Q ps H') X.xe s

def mergeK (kvs more : List (Key × V)) : List (Key × V) := more.foldl (fun acc kv => putK acc kv.1 kv.2) kvs
/-- {k: v, ..} with keys ints and texts; the new dict stands empty while the pairs are made -/
def tDisp (trs : List (TE × TE)) : TE := fun σ H Q => ∀ p, H p = none → tPairs trs σ (upd H p (.dK [])) fun ps H2 => H2 p = some (.dK []) ∧ ∃ kvs : List (Key × V), ps = kvs.map (fun kv => (kV kv.1, kv.2)) ∧ kvs.length ≤ 15 ∧ Q (.ref p) (upd H2 p (.dK (mergeK [] kvs)))


/-! ### methods -/
/-- a method call o.m(e) of a built-in, with one argument: what must be seen of the text -/
structure M1 (X : Cx) (o : Expr) (m : Str) (apos : Pos) (e : Expr) (cpos : Pos) : Prop where
  base : attributeBase o m X.env (eval o X.env) = eval o X.env
  few : ((backTo cpos (starEach [e] X.env)).all (fun x => !x.1) && (backToKw cpos (keywordEach [] X.env)).all (fun x => x.1.isSome)
    && decide (([e] : List Expr).length + ([] : List Keyword).length + (if ([] : List Keyword).isEmpty then 0 else 1) < 30)) = true
  line : (apos.endLine == cpos.line) = true
  trees : backTo cpos (starEach [e] X.env) = [(false, eval e X.env)]
structure M2 (X : Cx) (o : Expr) (m : Str) (apos : Pos) (e f : Expr) (cpos : Pos) : Prop where
  base : attributeBase o m X.env (eval o X.env) = eval o X.env
  few : ((backTo cpos (starEach [e, f] X.env)).all (fun x => !x.1) && (backToKw cpos (keywordEach [] X.env)).all (fun x => x.1.isSome)
    && decide (([e, f] : List Expr).length + ([] : List Keyword).length + (if ([] : List Keyword).isEmpty then 0 else 1) < 30)) = true
  line : (apos.endLine == cpos.line) = true
  trees : backTo cpos (starEach [e, f] X.env) = [(false, eval e X.env), (false, eval f X.env)]

/-- a is a dict, whatever its keys -/
def IsD (H : Hp) (a : Addr) : Prop := (∃ kvs, Rd H a (.dK kvs)) ∨ ∃ kvs, Rd H a (.dT kvs)

section
variable {X : Cx} {pins : List (Addr × Obj)} {σ : St} {H : Hp} {s : Shared} {a : Addr} {y d : V} {u r : Value} {o : Option V} {A : Around} {E : Value → Shared → Prop}
end

def tDGet1 (td ty : TE) : TE := fun σ H Q => td σ H fun x H1 => ∃ a, x = .ref a ∧ IsD H1 a ∧ ty σ H1 fun y H2 => ∃ o, DGet H2 a y o ∧ Q (o.getD .non) H2
def tDGet2 (td ty tx : TE) : TE := fun σ H Q => td σ H fun x H1 => ∃ a, x = .ref a ∧ IsD H1 a ∧ ty σ H1 fun y H2 => tx σ H2 fun z H3 => ∃ o, DGet H3 a y o ∧ Q (o.getD z) H3
/-- d.pop(k): there; d.pop(k, x): there or not -/
def tDPop1 (td ty : TE) : TE := fun σ H Q => td σ H fun x H1 => ∃ a, x = .ref a ∧ IsD H1 a ∧ ty σ H1 fun y H2 => ∃ kvs k v, H2 a = some (.dK kvs) ∧ y = kV k ∧ valV kvs k = some v ∧ Q v (upd H2 a (.dK (dropK kvs k)))
def tDPop2 (td ty tx : TE) : TE := fun σ H Q => td σ H fun x H1 => ∃ a, x = .ref a ∧ IsD H1 a ∧ ty σ H1 fun y H2 => tx σ H2 fun z H3 => ∃ kvs k, H3 a = some (.dK kvs) ∧ y = kV k ∧
  (∀ v, valV kvs k = some v → Q v (upd H3 a (.dK (dropK kvs k)))) ∧ (valV kvs k = none → Q z H3)
section
variable {X : Cx} {o e f : Expr} {apos cpos : Pos} {td ty tx : TE}
end

/-! ### dict(d): a copy -/
section
variable {X : Cx} {pins : List (Addr × Obj)} {σ : St} {H : Hp} {s : Shared} {a : Addr} {kvs : List (Key × V)} {A : Around} {E : Value → Shared → Prop}
end


section
variable {X : Cx} {pins : List (Addr × Obj)} {σ : St} {H : Hp} {s : Shared} {a : Addr} {y : V} {u : Value} {A : Around} {E : Value → Shared → Prop}
end
end L2


set_option maxRecDepth 100000
set_option linter.all false
set_option maxHeartbeats 1000000
set_option Elab.async false
namespace L9
open PySem PySem.Spec PyProof.Rows L2 L3 X8 M01 L6 L5 QL
section
variable {X : Cx}
def lcCheck (sc : Scope) (N : List Str) (scope : Scope) (x : Str) (fvs : List Str) (fidx : List Nat) : Bool :=
  decide (∀ y ∈ scope.names, y.2 ≠ .cell) && decide (scope.kind = .function) && decide (∀ y ∈ scope.names, y.2 = .local → scope.names.lookup y.1 = some .local) && decide (scope.names.lookup x = some .local) && decide ((x :: fvs).Nodup) &&
    decide (fidx.length = fvs.length) && decide (∀ j ∈ List.range fvs.length, ∃ y ∈ fvs[j]?, ∃ i ∈ fidx[j]?, N[i]? = some y ∧ (sc.names.lookup y = some .cell ∨ sc.names.lookup y = some .free) ∧ scope.names.lookup y = some .free) &&
    decide (∀ p ∈ scope.names, p.2 = .free → sc.names.lookup p.1 = some .cell ∨ sc.names.lookup p.1 = some .free)
theorem lc_mk {scope : Scope} {x : Str} {fvs : List Str} {fidx : List Nat} (sc : Scope) (N : List Str) (hX : X.env.scope = sc) (hN : X.N = N) (c : lcCheck sc N scope x fvs fidx = true) : L8.LcOk X scope x fvs fidx := by
  unfold lcCheck at c
  simp only [Bool.and_eq_true, decide_eq_true_eq] at c
  obtain ⟨⟨⟨⟨⟨⟨⟨c1, c2⟩, c3⟩, c4⟩, c5⟩, c6⟩, c7⟩, c8⟩ := c
  refine ⟨c1, c2, c3, c4, c5, ⟨fun j y e => ?_, c6⟩, fun y hy => ?_⟩
  · have hj : j < fvs.length := (List.getElem?_eq_some_iff.mp e).1
    obtain ⟨y', hy', i, hi, h1, h2, h3⟩ := c7 j (List.mem_range.mpr hj)
    have e1 : fvs[j]? = some y' := hy'
    rw [e] at e1
    cases e1
    exact ⟨i, hi, by rw [hN]; exact h1, by rw [hX]; exact h2, h3⟩
  · have z := c8 _ hy rfl
    rw [← hX] at z
    exact z
end
end L9


set_option maxRecDepth 100000
set_option linter.all false
set_option maxHeartbeats 1000000
set_option Elab.async false
namespace L10
open PySem PySem.Spec PyProof.Rows L2 L3 X8 M01 L6 L5 QL
theorem sameUpd {H : Hp} {r : Addr} {o : HO} (h : H r = none) : Same H (upd H r o) := fun b u e => by rw [upd_ne (ne_of_none e h)]; exact e
/-! ### a display of pairs (number, text) -/
inductive C2 : List Expr → List (Int × Str) → Prop
  | nil : C2 [] []
  | cons {i : Int} {x : Str} {j k m : Nat} {p q r : Pos} {es : List Expr} {ps : List (Int × Str)} : C2 es ps → C2 (.Tuple [.Constant (.int i) j p, .Constant (.str x) k q] m r :: es) ((i, x) :: ps)
inductive Prs (H : Hp) : List Addr → List (Int × Str) → Prop
  | nil : Prs H [] []
  | cons {a : Addr} {i : Int} {x : Str} {as : List Addr} {ps : List (Int × Str)} : H a = some (.tup [.int i, .str x]) → Prs H as ps → Prs H (a :: as) ((i, x) :: ps)
theorem Prs.mono {H H' : Hp} (s : Same H H') {as : List Addr} {ps : List (Int × Str)} (h : Prs H as ps) : Prs H' as ps := by
  induction h with
  | nil => exact .nil
  | cons e _ ih => exact .cons (s _ _ e) ih
theorem Prs.at_ {H : Hp} {as : List Addr} {ps : List (Int × Str)} (h : Prs H as ps) : ∀ {i : Nat} {v : V}, (as.map V.ref)[i]? = some v → ∃ a n x, v = .ref a ∧ ps[i]? = some (n, x) ∧ H a = some (.tup [.int n, .str x]) := by
  induction h with
  | nil => intro i v e; cases e
  | @cons a n x as ps e _ ih =>
    intro i v ev
    cases i with
    | zero => exact ⟨a, n, x, (Option.some.inj ev).symm, rfl, e⟩
    | succ j => exact ih ev
theorem Prs.len {H : Hp} {as : List Addr} {ps : List (Int × Str)} (h : Prs H as ps) : as.length = ps.length := by
  induction h with
  | nil => rfl
  | cons _ _ ih => rw [List.length_cons, List.length_cons, ih]
def tPrs (ps : List (Int × Str)) : TA := fun _ H Q => ∀ as H', Same H H' → Prs H' as ps → Q (as.map V.ref) H'
/-! ### comprehensions over a list, over a range -/
theorem lc_list {K : PySem.W.Frag} {a : Addr} {xs : List V} {te : TE} {fvals : L2.St} {don : List V → Hp → Prop} {H : Hp} (Pv : Nat → List V → Hp → Prop) (h0 : Pv 0 [] H) (hl : ∀ i ys H, i ≤ xs.length → Pv i ys H → SqL K H a xs ∧ ys.length < sizeLine)
    (hs : ∀ i x ys H, xs[i]? = some x → Pv i ys H → te (some x :: fvals) H fun v H' => Pv (i + 1) (ys ++ [v]) H') (hd : ∀ ys H, Pv xs.length ys H → don ys H) : L8.LcW (Itl K a) fvals te don H := by
  refine ⟨fun i m ys H => m = xs.length - i ∧ i ≤ xs.length ∧ Pv i ys H, ⟨xs.length, by simp, Nat.zero_le _, h0⟩, ?_⟩
  rintro i m ys H ⟨rfl, hi, p⟩
  obtain ⟨q, z⟩ := hl i ys H hi p
  refine ⟨z, ?_⟩
  by_cases hlt : i < xs.length
  · refine .inr ⟨⟨xs, xs[i], q, by simp [hlt]⟩, Pv (i + 1), fun ys' H' p' => ⟨xs.length - (i + 1), by omega, rfl, hlt, p'⟩, fun x H' y => ?_⟩
    obtain ⟨e, y⟩ := y
    subst e
    exact hs i x ys _ (y xs q) p
  · have e : i = xs.length := by omega
    subst e
    exact .inl ⟨⟨xs, q, Nat.le_refl _⟩, hd ys H p⟩
theorem lc_range {lo : Int} {n : Nat} {te : TE} {fvals : L2.St} {don : List V → Hp → Prop} {H : Hp} (Pv : Nat → List V → Hp → Prop) (h0 : Pv 0 [] H) (hl : ∀ i ys H, i ≤ n → Pv i ys H → ys.length < sizeLine)
    (hs : ∀ i ys H, i < n → Pv i ys H → te (some (.int (lo + i)) :: fvals) H fun v H' => Pv (i + 1) (ys ++ [v]) H') (hd : ∀ ys H, Pv n ys H → don ys H) : L8.LcW (Itr lo n) fvals te don H := by
  refine ⟨fun i m ys H => m = n - i ∧ i ≤ n ∧ Pv i ys H, ⟨n, by simp, Nat.zero_le _, h0⟩, ?_⟩
  rintro i m ys H ⟨rfl, hi, p⟩
  refine ⟨hl i ys H hi p, ?_⟩
  by_cases hlt : i < n
  · refine .inr ⟨hlt, Pv (i + 1), fun ys' H' p' => ⟨n - (i + 1), by omega, rfl, hlt, p'⟩, fun x H' y => ?_⟩
    obtain ⟨e, y⟩ := y
    subst e y
    exact hs i ys _ hlt p
  · have e : i = n := by omega
    subst e
    exact .inl ⟨Nat.le_refl _, hd ys H p⟩
end L10


set_option maxRecDepth 100000
set_option linter.all false
set_option maxHeartbeats 1000000
set_option Elab.async false
namespace L20
open PySem PySem.Spec PyProof.Rows L2 L3 X8 M01 L6 L5 QL L8
abbrev St := L2.St
/-! ### [elt for target in iter if test], the target any -/
abbrev tests (ev : Env) (ifs : List Expr) : Sem Bool := forIn ifs true fun c r => if r = true then do let ok ← isTrue c ev (eval c ev); pure (ForInStep.yield ok) else pure (ForInStep.yield r)
theorem loop_own {prog : Program} {w : World} {A : Around} {R : Result → Shared → Prop} {s : Shared} {elt tg iter : Expr} {ifs : List Expr} {scope : Scope} {pos : Pos} {it acc : Value} {ev : Env} {NB : Value → Shared → Prop} (hNB : NB = notedBy (model prog w) A ev fun e s' => R (.error e) s') (I : Nat → Shared → Prop)
    (turn : ∀ n s, I n s → wpAny (model prog w) A (pyNext it) (fun r s1 => match r with
      | none => R (.ok .next) s1
      | some v => wpAny (model prog w) A (letOwnedTupleGo tg it v) (fun _ s1 => wpAny (model prog w) A (assign tg ev v) (fun _ s2 => wpAny (model prog w) A (tests ev ifs) (fun ok s3 =>
            if ok = true then wpAny (model prog w) A (eval elt ev) (fun x s4 => wpAny (model prog w) A (call (.builtin "list.append") [acc, x]) (fun _ s5 => ∃ m, m < n ∧ I m s5) NB s4) NB s3
            else ∃ m, m < n ∧ I m s3) NB s2) NB s1) NB s1) NB s)
    (n : Nat) (h : I n s) : codeAny (model prog w) A (.compLoop (.ListComp elt [⟨tg, iter, ifs, 0⟩] scope pos) 0 it acc ev) R s := by
  subst hNB
  refine codeAny_loop rfl I (fun n s hn => ?_) n h
  show wpAny _ A ((compTurn (.ListComp elt [⟨tg, iter, ifs, 0⟩] scope pos) 0 it acc ev).onRaise (fun x => do noteFrame x ev; theTreesLotGoes x)) _ _ s
  refine wpAny_noted ?_
  rw [compTurn_list]
  refine wpAny_bind (wpAny_standAt (wpAny_bind (wpAny_mono (turn n s hn) (fun r s1 h1 => ?_) fun _ _ z => z)))
  cases r with
  | none => exact wpAny_pure h1
  | some v =>
    refine wpAny_bind (wpAny_mono h1 (fun _ s1 h1 => ?_) fun _ _ z => z)
    refine wpAny_bind (wpAny_mono h1 (fun _ s2 h2 => wpAny_bind (wpAny_mono h2 (fun ok s3 h3 => ?_) fun _ _ z => z)) fun _ _ z => z)
    cases ok with
    | false => exact wpAny_pure ⟨rfl, h3⟩
    | true => exact wpAny_bind (wpAny_bind (wpAny_mono h3 (fun x s4 h4 => wpAny_bind (wpAny_mono h4 (fun _ s5 h5 => wpAny_pure (wpAny_pure ⟨rfl, h5⟩)) fun _ _ z => z)) fun _ _ z => z))
section
variable {X : Cx} {pins : List (Addr × Obj)} {σ : St} {H2 : Hp} {s2 : Shared} {scope : Scope} {cl : List (Str × Addr)} {xs : List Str} {pos : Pos} {elt iter tg : Expr} {ifs : List Expr} {fvs : List Str} {fidx : List Nat} {te : TE} {tc : TT} {g : TG} {J : It} {fp : List Addr} {it : Addr} {tn : Nat → Heap → Prop}
  {RR : Value → Addr → Result → Shared → Prop} {E : Value → Shared → Prop}
theorem ok2 (I2 : Inv X pins σ H2 s2) (hnex : X.ex = []) (hfp : ∀ b ∈ fp, FpOk X pins H2 b) (hex : ∀ b ∈ fp, ∃ o, s2.heap.get? b = some o) (cl0 : Clo X scope cl) (hcell : ∀ y ∈ scope.names, y.2 ≠ .cell) (hkind : scope.kind = .function) {NB : List Str} {C : Addr} (hC : s2.heap.objs.size ≤ C) :
    (cxB X NB scope cl C s2 H2 fp).Ok :=
  let z := blk_ok (x := "") (fvs := []) I2 hnex hfp hex cl0 hcell hkind hC
  ⟨z.mod, z.kind, z.glob, z.blt, z.above, z.inj, z.has, z.cab, z.hd, z.frames, z.stk, z.exf, z.bs, z.bsz, z.noex, z.exfs, z.funs, z.frf⟩
def st0 (xs : List Str) (σ : St) (fidx : List Nat) : St := xs.map (fun _ => none) ++ fv σ fidx
theorem inv2 {C : Addr} (I2 : Inv X pins σ H2 s2) (ok : (cxB X (xs ++ fvs) scope cl C s2 H2 fp).Ok) (cl0 : Clo X scope cl) (F : FvOk X scope fvs fidx) (hC : s2.heap.objs.size ≤ C) {h1 : Heap} {tk : Nat} (k : ∀ b o, s2.heap.get? b = some o → h1.get? b = some o)
    (hn : h1.Ns C fun _ => none) : Inv (cxB X (xs ++ fvs) scope cl C s2 H2 fp) [] (st0 xs σ fidx) H2 { s2 with heap := h1, toks := tk } where
  ok := ok
  os := rfl
  bare := I2.bare
  base := Un.kept k
  loc := by
    refine ⟨_, hn, fun i y v e1 e2 e3 => ?_⟩
    have e1 : (xs ++ fvs)[i]? = some y := e1
    unfold st0 at e2
    by_cases hi : i < xs.length
    · rw [List.getElem?_append_left (by rw [List.length_map]; exact hi), List.getElem?_map, List.getElem?_eq_getElem hi] at e2
      cases e2
    · rw [List.getElem?_append_right (by rw [List.length_map]; omega), List.length_map] at e2
      rw [List.getElem?_append_right (by omega)] at e1
      generalize i - xs.length = j at e1 e2
      obtain ⟨i0, f1, f2, f3, f4⟩ := F.at_ j y e1
      have e4 : (σ[i0]?).join = some v := by
        unfold fv at e2
        rw [List.getElem?_map, f1] at e2
        exact Option.some.inj e2
      have e5 : σ[i0]? = some (some v) := by
        cases q : σ[i0]? with
        | none => rw [q] at e4; cases e4
        | some z => rw [q] at e4; exact congrArg some e4
      obtain ⟨m, hnm, hl⟩ := I2.loc
      obtain ⟨u, r, l⟩ := hl i0 y v f2 e5 (f3.elim (fun z => .inr (.inl z)) fun z => .inr (.inr z))
      refine ⟨u, r, .inr ?_⟩
      rcases l with ⟨q, _⟩ | ⟨_, c, ec, o, ho, hd⟩
      · rcases f3 with z | z
        · have q2 : X.env.scope.names.lookup y = some .local := q
          rw [z] at q2; cases q2
        · have q2 : X.env.scope.names.lookup y = some .local := q
          rw [z] at q2; cases q2
      · obtain ⟨c2, ec2⟩ := cl0.has y (lookup_mem f4)
        have := cl0.sub y c2 ec2
        rw [ec] at this
        cases this
        refine ⟨?_, c, ec2, o, k c o ho, hd⟩
        rcases e3 with z | z | z
        · exfalso
          have z' : (relabel scope X.env).names.lookup y = some .local := z
          exact relabel_notlocal f4 z'
        · exact .inl z
        · exact .inr z
  cell := fun y c e => by
    obtain ⟨v, o, ho, hd⟩ := I2.cell y c (cl0.sub y c e)
    exact ⟨v, o, k c o ho, hd⟩
  free := I2.hok.fresh hC
  freeC := fun y c e => I2.freeC y c (cl0.sub y c e)
  pin := fun p hp => nomatch hp
  hok := I2.hok.kept k
  len := by
    show (st0 xs σ fidx).length = (xs ++ fvs).length
    unfold st0 fv
    rw [List.length_append, List.length_append, List.length_map, List.length_map, F.len]
/-- what the tests come to -/
structure QF (X : Cx) (ifs : List Expr) (t : TT) : Prop where
  h : ∀ (pins : List (Addr × Obj)) (s : Shared) (σ : St) (H : Hp) (Q : Bool → Hp → Prop), Inv X pins σ H s → t σ H Q → wpAny (model X.prog X.w) X.A (tests X.env ifs) (TP X pins σ Q) X.xe s
def tNone : TT := fun _ H Q => Q true H
theorem qf_nil : QF X [] tNone := ⟨fun pins s σ H Q I h => wpAny_tests_nil ⟨H, I, h⟩⟩
/-- the block runs, turn by turn -/
def Sh (n : Nat) (fvals : St) (σt : St) : Prop := ∃ l : St, l.length = n ∧ σt = l ++ fvals
def LcX (J : It) (n : Nat) (fvals : St) (g : TG) (tc : TT) (te : TE) (don : List V → Hp → Prop) (H1 : Hp) : Prop := ∃ W : Nat → Nat → List V → Hp → Prop, (∃ m, W 0 m [] H1) ∧ ∀ i m ys H, W i m ys H → ys.length < sizeLine ∧
  ((J.stop i H ∧ don ys H) ∨ (J.go i H ∧ ∃ N : List V → Hp → Prop, (∀ ys' H', N ys' H' → ∃ m', m' < m ∧ W (i + 1) m' ys' H') ∧
    ∀ x H', J.yld i H x H' → ∀ σt, Sh n fvals σt → g x σt H' fun σ' H3 => tc σ' H3 fun b H4 => if b = true then te σ' H4 fun v H5 => N (ys ++ [v]) H5 else N ys H4))
/-- the target leaves the free names as they are -/
def Keep (n : Nat) (fvals : St) (g : TG) : Prop := ∀ x σt H Q, Sh n fvals σt → g x σt H Q → g x σt H fun σ' H' => Sh n fvals σ' ∧ Q σ' H'
theorem blk2 {don : List V → Hp → Prop} (I2 : Inv X pins σ H2 s2) (hnex : X.ex = []) (hc : X.calm = true) (T : Turn X.prog X.w X.K tg J fp it tn) (tn0 : tn 0 s2.heap) (hfp : ∀ b ∈ fp, FpOk X pins H2 b) (cl0 : Clo X scope cl) (F : FvOk X scope fvs fidx)
    (hcell : ∀ y ∈ scope.names, y.2 ≠ .cell) (hkind : scope.kind = .function) (hg : ∀ C s H ex, QG (cxB X (xs ++ fvs) scope cl C s H ex) tg g) (hq : ∀ C s H ex, QF (cxB X (xs ++ fvs) scope cl C s H ex) ifs tc) (he : ∀ C s H ex, QE (cxB X (xs ++ fvs) scope cl C s H ex) elt te) (hk : Keep xs.length (fv σ fidx) g) (hw : LcX J xs.length (fv σ fidx) g tc te don H2)
    (hRR : ∀ D C s' H ys m, Inv X pins σ (upd H D (.lst ys)) s' → H D = none → s'.heap.Ns C m → FpOk X pins (upd H D (.lst ys)) C → don ys H → RR (.ref D) C (.ok .next) s') :
    wpAny (model X.prog X.w) X.A (newList []) (fun acc s3 => wpAny (model X.prog X.w) X.A (newFunctionEnv scope X.env.globals cl [] X.env.qual none .none (some X.env)) (fun cenv s4 =>
      codeAny (model X.prog X.w) X.A (.compStart (.ListComp elt [⟨tg, iter, ifs, 0⟩] scope pos) 0 (.ref it) acc { cenv with scope := relabel scope X.env }) (RR acc cenv.locals) s4) E s3) E s2 := by
  refine wpAny_newObj_type (wpAny_newFunctionEnv hcell (by intro y hy; simp at hy) (fun h1 hns1 hsb1 => ?_) hkind)
  dsimp only at hns1 hsb1 ⊢
  generalize hHD : s2.heap.push { cls := .type "list", dict := none, data := .seq ([] : List Value).toArray } = HD at hns1 hsb1 ⊢
  have hC : HD.objs.size = s2.heap.objs.size + 1 := by rw [← hHD, Heap.size_push]
  have hDC : s2.heap.objs.size ≠ HD.objs.size := by rw [hC]; exact Nat.ne_of_lt (Nat.lt_succ_self _)
  have old : ∀ b o, s2.heap.get? b = some o → h1.get? b = some o := fun b o e => hsb1.extBut b o (by rw [hC]; exact Nat.ne_of_lt (Nat.lt_succ_of_lt (Heap.lt_size e))) (Heap.get?_push_of_some _ (hHD ▸ Heap.get?_push_of_some _ e))
  have hacc : h1.get? s2.heap.objs.size = some (L8.lobj [] 0) := hsb1.extBut _ _ hDC (Heap.get?_push_of_some _ (hHD ▸ Heap.get?_push_size _ rfl))
  have hex : ∀ b ∈ fp, ∃ o, s2.heap.get? b = some o := fun b hb => let ⟨o, e, _⟩ := T.obj 0 _ tn0 b hb; ⟨o, e⟩
  have hC2 : s2.heap.objs.size ≤ HD.objs.size := by rw [hC]; exact Nat.le_succ _
  have ok : (cxB X (xs ++ fvs) scope cl HD.objs.size s2 H2 fp).Ok := ok2 I2 hnex hfp hex cl0 hcell hkind hC2
  have I4 : Inv (cxB X (xs ++ fvs) scope cl HD.objs.size s2 H2 fp) [] (st0 xs σ fidx) H2 { s2 with heap := h1, toks := s2.toks + ([] : List (Str × Value)).length } := inv2 I2 ok cl0 F hC2 old hns1
  have hg' := hg HD.objs.size s2 H2 fp
  have hq' := hq HD.objs.size s2 H2 fp
  have he' := he HD.objs.size s2 H2 fp
  generalize hXB : cxB X (xs ++ fvs) scope cl HD.objs.size s2 H2 fp = XB at ok I4 hg' hq' he'
  have eP : XB.prog = X.prog := by rw [← hXB]; rfl
  have eW : XB.w = X.w := by rw [← hXB]; rfl
  have eK : XB.K = X.K := by rw [← hXB]; rfl
  have eA : XB.A = X.A := by rw [← hXB]; rfl
  have eE : XB.env = compEnvC scope cl HD.objs.size X.env := by rw [← hXB]; rfl
  have eL : XB.env.locals = HD.objs.size := by rw [eE]; rfl
  have eS : XB.s₀ = s2 := by rw [← hXB]; rfl
  have eX : XB.ex = fp := by rw [← hXB]; rfl
  have eF : XB.fs = frs X.stack := by rw [← hXB]; rfl
  have ePn : XB.pn = [] := by rw [← hXB]; rfl
  have eH : XB.H₀ = H2 := by rw [← hXB]; rfl
  have eCc : XB.calm = true := by rw [← hXB]; exact hc
  have eXe : XB.xe = fun _ _ => False := by rw [← hXB]; rfl
  have eCl : XB.env.cells = cl := by rw [eE]; rfl
  have hD0 : ∀ y c, XB.env.cells.lookup y = some c → c ≠ s2.heap.objs.size := fun y c e => by
    rw [eCl] at e
    obtain ⟨v, o, ho, _⟩ := I2.cell y c (cl0.sub y c e)
    exact Nat.ne_of_lt (Heap.lt_size ho)
  have hDfs : s2.heap.objs.size ∉ XB.fs := by
    rw [eF]
    intro z
    rcases List.mem_cons.mp (I2.stkSub _ z) with q | q
    · exact absurd I2.lt (by rw [← q]; exact Nat.lt_irrefl _)
    · exact I2.nofs (Nat.le_refl _) q
  have stat : ∀ {H : Hp} {pp : List (Addr × Obj)}, (∀ b ∈ fp, H b = none) → (∀ p ∈ pp, p.1 = s2.heap.objs.size) → ∀ b ∈ fp, FpOk XB pp H b := fun {H pp} hn hp b hb => by
    obtain ⟨o, e⟩ := hex b hb
    refine ⟨hn b hb, by rw [eL, hC]; exact Nat.ne_of_lt (Nat.lt_succ_of_lt (Heap.lt_size e)), ?_, .inl (by rw [eX]; exact hb), fun y c q => ?_, fun p hpp z => ?_⟩
    · rw [eF]
      intro z
      rcases List.mem_cons.mp (I2.stkSub b z) with q | q
      · exact (hfp b hb).2.1 q
      · exact (hfp b hb).2.2.1 q
    · rw [eCl] at q
      exact (hfp b hb).2.2.2.2.1 y c (cl0.sub y c q)
    · rw [ePn, List.nil_append] at hpp
      rw [hp p hpp] at z
      exact absurd (Heap.lt_size e) (by rw [← z]; exact Nat.lt_irrefl _)
  obtain ⟨W, ⟨m0, w0⟩, turn⟩ := hw
  let Inw : Nat → Shared → Prop := fun n s => ∃ i ys its k σt H, Inv XB [(s2.heap.objs.size, L8.lobj its k)] σt H s ∧ Vals ys its ∧ tn i s.heap ∧ (∀ b ∈ fp, H b = none) ∧ Sh xs.length (fv σ fidx) σt ∧ W i n ys H
  have I40 : Inv XB [(s2.heap.objs.size, L8.lobj [] 0)] (st0 xs σ fidx) H2 { s2 with heap := h1, toks := s2.toks + ([] : List (Str × Value)).length } := I4.pins_of fun p hp => by
    have e : p = (s2.heap.objs.size, L8.lobj [] 0) := by simpa using hp
    subst e
    exact ⟨hacc, I2.hok.fresh (Nat.le_refl _), by rw [eL]; exact hDC, hDfs, fun v z => by cases z⟩
  have start : Inw m0 { s2 with heap := h1, toks := s2.toks + ([] : List (Str × Value)).length } := ⟨0, [], [], 0, _, H2, I40, .nil, T.keep _ _ _ tn0 fun b _ o e => old b o e, fun b hb => (hfp b hb).1, ⟨_, by rw [List.length_map], rfl⟩, w0⟩
  have hDlt : ∀ b ∈ fp, b ≠ s2.heap.objs.size := fun b hb => let ⟨o, e⟩ := hex b hb; Nat.ne_of_lt (Heap.lt_size e)
  have pd : ∀ {o : Obj} (p : Addr × Obj), p ∈ [(s2.heap.objs.size, o)] → p.1 = s2.heap.objs.size := fun p hp => by
    rw [List.mem_singleton.mp hp]
  have fin : ∀ s1 H ys its k σt, Inv XB [(s2.heap.objs.size, L8.lobj its k)] σt H s1 → Vals ys its → ys.length < sizeLine → don ys H → RR (.ref s2.heap.objs.size) HD.objs.size (.ok .next) s1 := fun s1 H ys its k σt I rv hz dn => by
    have un : Un (frs X.stack) fp H2 H s2.heap s1.heap := by
      have z := I.base
      rw [eF, eX, eH, eS] at z
      exact z
    have os : s1.os = s2.os := by
      have z := I.os
      rw [eS] at z
      exact z
    have hok : HOk X.prog X.w H s1.heap := by
      have z := I.hok
      rw [eP, eW] at z
      exact z
    have J1 : Inv X pins σ H s1 := I2.call' os un hok I.bare fun b hb => ⟨by
      rcases (hfp b hb).2.2.2.1 with z | z
      · exact .inl z
      · exact .inr z, (hfp b hb).2.1, (hfp b hb).2.2.2.2.1, (hfp b hb).2.2.2.2.2⟩
    obtain ⟨q1, q2, _⟩ := I.pin (s2.heap.objs.size, L8.lobj its k) (by rw [ePn]; simp)
    have J2 : Inv X pins σ (upd H s2.heap.objs.size (.lst ys)) s1 := Inv.track J1 (I2.fpOk (Nat.le_refl _) q2) hnex (show ObjOk X.prog X.w _ s1.heap _ (.lst ys) from ⟨Nat.le_of_lt hz, its, k, rv, q1⟩)
    obtain ⟨m, hn, _⟩ := I.loc
    rw [eL] at hn
    refine hRR _ _ s1 H ys m J2 q2 hn (I2.fpOk hC2 ?_) dn
    rw [upd_ne (Ne.symm hDC)]
    have z := I.free
    rw [eL] at z
    exact z
  have loop : ∀ s₃ : Shared, s₃ = { s2 with heap := h1, toks := s2.toks + ([] : List (Str × Value)).length } →
      codeAny (model X.prog X.w) X.A (.compLoop (.ListComp elt [⟨tg, iter, ifs, 0⟩] scope pos) 0 (.ref it) (.ref s2.heap.objs.size) (compEnvC scope cl HD.objs.size X.env)) (RR (.ref s2.heap.objs.size) HD.objs.size) s₃ := by
    rintro s₃ rfl
    rw [← eE]
    refine loop_own rfl Inw ?_ m0 start
    rintro n s ⟨i, ys, its, k, σt, H, I, rv, st, fr, sh, wt⟩
    obtain ⟨hsz, tr⟩ := turn i n ys H wt
    rcases tr with ⟨stop, dn⟩ | ⟨go, N, hN, step⟩
    · have Td := T.done XB eP eW eK eCc i _ s _ H (notedBy (model X.prog X.w) X.A XB.env fun e s' => RR (.ref s2.heap.objs.size) HD.objs.size (.error e) s') I (stat fr pd) st stop
      rw [eA] at Td
      refine wpAny_mono Td (fun r s1 ⟨hr, I1⟩ => ?_) fun _ _ e => e
      subst hr
      exact fin s1 H ys its k σt I1 rv hsz dn
    · have Ti := T.item XB eP eW eK eCc i _ s _ H (notedBy (model X.prog X.w) X.A XB.env fun e s' => RR (.ref s2.heap.objs.size) HD.objs.size (.error e) s') I (stat fr pd) st go
      rw [eA] at Ti
      refine wpAny_mono Ti (fun r s1 ⟨u, hr, h4⟩ => ?_) fun _ _ e => e
      subst hr
      dsimp only
      refine wpAny_mono h4 (fun _ s5 ⟨v, H5, I5, r5, y5, st5, fr5⟩ => ?_) fun _ _ e => e
      have I5' := I5.pinned (stat fr5 pd) (T.obj _ _ st5)
      have h6 := hg'.h _ s5 _ H5 v u _ I5' r5 (hk v σt H5 _ sh (step v H5 y5 σt sh))
      rw [eP, eW, eA, eXe] at h6
      refine wpAny_mono h6 (fun _ s6 ⟨σ6, H6, I6, sh6, q6⟩ => ?_) fun _ _ z => z.elim
      have h7 := hq'.h _ s6 _ H6 _ I6 q6
      rw [eP, eW, eA, eXe] at h7
      -- the turn is over: the list as it is, the iterator moved on
      have again : ∀ (sz : Shared) (Hz : Hp) (ys' : List V) (its' : List Value) (k' : Nat), Inv XB ([(s2.heap.objs.size, L8.lobj its' k')] ++ pinsAt fp s5.heap) σ6 Hz sz → Vals ys' its' → N ys' Hz → ∃ m, m < n ∧ Inw m sz := fun sz Hz ys' its' k' Iz rz nz => by
        obtain ⟨m', hm, w'⟩ := hN _ _ nz
        have fpin : ∀ b ∈ fp, ∀ o, s5.heap.get? b = some o → sz.heap.get? b = some o ∧ Hz b = none := fun b hb o e =>
          let z := Iz.pin (b, o) (List.mem_append_right _ (List.mem_append_right _ (mem_pinsAt hb e))); ⟨z.1, z.2.1⟩
        refine ⟨m', hm, i + 1, ys', its', k', σ6, Hz, Iz.unpinned, rz, T.keep _ _ _ st5 fun b hb o e => (fpin b hb o e).1, fun b hb => ?_, sh6, w'⟩
        obtain ⟨o, e, _⟩ := T.obj _ _ st5 b hb
        exact (fpin b hb o e).2
      refine wpAny_mono h7 (fun ok s7 ⟨H7, I7, q7⟩ => ?_) fun _ _ z => z.elim
      cases ok with
      | false =>
        rw [if_neg (by decide)] at q7 ⊢
        exact again s7 H7 ys its k I7 rv q7
      | true =>
        rw [if_pos rfl] at q7 ⊢
        have h8 := he'.h _ s7 _ H7 _ I7 q7
        rw [eP, eW, eA, eXe] at h8
        refine wpAny_mono h8 (fun u7 s8 ⟨v8, H8, I8, r8, n8⟩ => ?_) fun _ _ z => z.elim
        obtain ⟨q1, q2, q3, q4, q5⟩ := I8.pin (s2.heap.objs.size, L8.lobj its k) (by rw [ePn]; simp)
        refine append_at (hsz := by rw [List.size_toArray, ← rv.length]; exact Nat.le_of_lt hsz) q1 fun h9 hs9 hD9 => ?_
        have I8a : Inv XB (pinsAt fp s5.heap) σ6 H8 s8 := I8.pins_of fun p hp => I8.pin p (List.mem_append_right _ (List.mem_append_right _ hp))
        have pne : ∀ p ∈ XB.pn ++ pinsAt fp s5.heap, p.1 ≠ s2.heap.objs.size := fun p hp => by
          rw [ePn, List.nil_append] at hp
          exact hDlt _ (of_pinsAt hp).1
        have I9 : Inv XB (pinsAt fp s5.heap) σ6 H8 { s8 with heap := h9 } := I8a.turned (t' := s8.toks) (fun b o hb e => hs9.extBut b o hb e) q2 q3 (.inr (by rw [eS]; exact Nat.le_refl _)) hD0 pne
        refine again _ H8 (ys ++ [v8]) (its ++ [u7]) (k + 1) (I9.pins_of fun p hp => ?_) (rv.append (.cons r8 .nil)) n8
        rcases List.mem_append.mp hp with z | z
        · have e : p = (s2.heap.objs.size, L8.lobj (its ++ [u7]) (k + 1)) := by simpa using z
          subst e
          refine ⟨?_, q2, q3, q4, fun v z => by cases z⟩
          rw [hD9]
          simp
        · exact I9.pin p (List.mem_append_right _ z)
  exact codeAny_compStart_list (loop _ rfl) (T.self _ 0 _ _ _ (T.keep _ _ _ tn0 fun b _ o e => old b o e) (loop _ rfl))
structure LcOk2 (X : Cx) (scope : Scope) (xs : List Str) (fvs : List Str) (fidx : List Nat) : Prop where
  cell : ∀ y ∈ scope.names, y.2 ≠ .cell
  kind : scope.kind = .function
  names : ∀ y ∈ scope.names, y.2 = .local → scope.names.lookup y.1 = some .local
  hx : ∀ x ∈ xs, scope.names.lookup x = some .local
  nd : (xs ++ fvs).Nodup
  hfv : FvOk X scope fvs fidx
  free : ∀ y, (y, NameKind.free) ∈ scope.names → X.env.kindOf y = some .cell ∨ X.env.kindOf y = some .free
def lcCheck2 (sc : Scope) (N : List Str) (scope : Scope) (xs : List Str) (fvs : List Str) (fidx : List Nat) : Bool :=
  decide (∀ y ∈ scope.names, y.2 ≠ .cell) && decide (scope.kind = .function) && decide (∀ y ∈ scope.names, y.2 = .local → scope.names.lookup y.1 = some .local) && decide (∀ x ∈ xs, scope.names.lookup x = some .local) && decide ((xs ++ fvs).Nodup) &&
    decide (fidx.length = fvs.length) && decide (∀ j ∈ List.range fvs.length, ∃ y ∈ fvs[j]?, ∃ i ∈ fidx[j]?, N[i]? = some y ∧ (sc.names.lookup y = some .cell ∨ sc.names.lookup y = some .free) ∧ scope.names.lookup y = some .free) &&
    decide (∀ p ∈ scope.names, p.2 = .free → sc.names.lookup p.1 = some .cell ∨ sc.names.lookup p.1 = some .free)
theorem lc_mk2 (sc : Scope) (N : List Str) (hX : X.env.scope = sc) (hN : X.N = N) (c : lcCheck2 sc N scope xs fvs fidx = true) : LcOk2 X scope xs fvs fidx := by
  unfold lcCheck2 at c
  simp only [Bool.and_eq_true, decide_eq_true_eq] at c
  obtain ⟨⟨⟨⟨⟨⟨⟨c1, c2⟩, c3⟩, c4⟩, c5⟩, c6⟩, c7⟩, c8⟩ := c
  refine ⟨c1, c2, c3, c4, c5, ⟨fun j y e => ?_, c6⟩, fun y hy => ?_⟩
  · have hj : j < fvs.length := (List.getElem?_eq_some_iff.mp e).1
    obtain ⟨y', hy', i, hi, h1, h2, h3⟩ := c7 j (List.mem_range.mpr hj)
    have e1 : fvs[j]? = some y' := hy'
    rw [e] at e1
    cases e1
    exact ⟨i, hi, by rw [hN]; exact h1, by rw [hX]; exact h2, h3⟩
  · have z := c8 _ hy rfl
    rw [← hX] at z
    exact z
def tLCX (wi : TI) (xs : List Str) (fidx : List Nat) (g : TG) (tc : TT) (te : TE) : TE := fun σ H Q => wi σ H fun J H1 => LcX J xs.length (fv σ fidx) g tc te (fun ys H => ∀ D, H D = none → Q (.ref D) (upd H D (.lst ys))) H1
theorem qe_lcX (L : LcOk2 X scope xs fvs fidx) (hnex : X.ex = []) (hc : X.calm = true) {wi : TI} (hi : QI X tg iter wi) (hg : ∀ cl C s H ex, QG (cxB X (xs ++ fvs) scope cl C s H ex) tg g) (hq : ∀ cl C s H ex, QF (cxB X (xs ++ fvs) scope cl C s H ex) ifs tc) (he : ∀ cl C s H ex, QE (cxB X (xs ++ fvs) scope cl C s H ex) elt te) (hk : ∀ fvals, Keep xs.length fvals g)
    (hs : ∀ z, foldedSetIterable iter X.env z = pure z := by intro _; rfl) : QE X (.ListComp elt [⟨tg, iter, ifs, 0⟩] scope pos) (tLCX wi xs fidx g tc te) := by
  refine ⟨fun pins s σ H Q I h => ?_⟩
  obtain ⟨cl, cl0⟩ := clo_mk (X := X) (scope := scope) fun y hy => I.ok.has y (L.free y hy)
  rw [eval_ListComp]
  refine wpAny_comprehension_free (use := none) rfl hs cl0.eq L.kind L.names (wpAny_mono (hi.h pins s σ H _ I h) (fun v s1 h1 => wpAny_mono h1 (fun itv s2 h2 => ?_) fun _ _ e => e) fun _ _ e => e)
  obtain ⟨it, fp, tn, J, H2, e, I2, T, st2, f2, hw⟩ := h2
  subst e
  refine blk2 (RR := fun acc C => compPost (model X.prog X.w) X.A X.xe none (EP X pins σ Q) acc C) I2 hnex hc T st2 f2 cl0 L.hfv L.cell L.kind (hg cl) (hq cl) (he cl) (hk _) hw fun D C s' H' ys m J1 hD hn fC dn => ?_
  refine ⟨m, hn, fun h' hs' => ?_⟩
  obtain ⟨c0, c1, c2, c3, c4, c5⟩ := fC
  exact ⟨.ref D, _, J1.turned (t' := s'.toks) (fun b o hb e => hs'.extBut b o hb e) c0 c1 c3 c4 c5, rfl, dn D hD⟩
/-! ### a pair as target -/
abbrev gPair (K : PySem.W.Frag) : TG := gTup K 2 (gCons (gName 0) (gCons (gName 1) gNil))
theorem qg_pair {x y : Str} {px py tp : Pos} {kt : Nat} (hc : X.calm = true) (L : LcOk2 X scope [x, y] fvs fidx) {C : Addr} {s : Shared} {H : Hp} {ex : List Addr} : QG (cxB X ([x, y] ++ fvs) scope cl C s H ex) (.Tuple [.Name x px, .Name y py] kt tp) (gPair X.K) := by
  have l1 : (cxB X ([x, y] ++ fvs) scope cl C s H ex).env.scope.names.lookup x = some .local := lookup_relabel_local (L.hx x (by simp))
  have l2 : (cxB X ([x, y] ++ fvs) scope cl C s H ex).env.scope.names.lookup y = some .local := lookup_relabel_local (L.hx y (by simp))
  exact qg_tup (X := cxB X ([x, y] ++ fvs) scope cl C s H ex) hc (qgs_cons (qg_name (i := 0) L.nd rfl (.inl l1) (.inr l1)) (qgs_cons (qg_name (i := 1) L.nd rfl (.inl l2) (.inr l2)) qgs_nil))
theorem keep_pair {K : PySem.W.Frag} {fvals : St} : Keep 2 fvals (gPair K) := by
  rintro x σt H Q ⟨l, hl, rfl⟩ ⟨a, xs, e1, e2, e3, v, r, e4, w, r2, e5, e6, q⟩
  match l, hl with
  | [u0, v0], _ => exact ⟨a, xs, e1, e2, e3, v, r, e4, w, r2, e5, e6, ⟨[some v, some w], rfl, rfl⟩, q⟩
theorem pairs_of {K : PySem.W.Frag} {J : It} (n : Nat) {fvals : St} {tc : TT} {te : TE} {don : List V → Hp → Prop} {H : Hp} (Pv : Nat → List V → Hp → Prop) (h0 : Pv 0 [] H)
    (hl : ∀ i ys H, i ≤ n → Pv i ys H → ys.length < sizeLine ∧ ((i < n → J.go i H) ∧ (i = n → J.stop i H)))
    (hs : ∀ i x ys H H', i < n → Pv i ys H → J.yld i H x H' → ∃ p u v, x = .ref p ∧ SqT K H' p [u, v] ∧ tc (some u :: some v :: fvals) H' fun b H3 => if b = true then te (some u :: some v :: fvals) H3 fun w H4 => Pv (i + 1) (ys ++ [w]) H4 else Pv (i + 1) ys H3)
    (hd : ∀ ys H, Pv n ys H → don ys H) : LcX J 2 fvals (gPair K) tc te don H := by
  refine ⟨fun i m ys H => m = n - i ∧ i ≤ n ∧ Pv i ys H, ⟨n, by simp, Nat.zero_le _, h0⟩, ?_⟩
  rintro i m ys H ⟨rfl, hi, p⟩
  obtain ⟨l1, l2, l3⟩ := hl i ys H hi p
  refine ⟨l1, ?_⟩
  by_cases hlt : i < n
  · refine .inr ⟨l2 hlt, fun ys' H' => Pv (i + 1) ys' H', fun ys' H' p' => ⟨n - (i + 1), by omega, rfl, hlt, p'⟩, fun x H' y σt sh => ?_⟩
    obtain ⟨l, hl2, rfl⟩ := sh
    obtain ⟨a, u, v, e, sq, q⟩ := hs i x ys H H' hlt p y
    match l, hl2 with
    | [u0, v0], _ => exact ⟨a, [u, v], e, sq, rfl, u, [v], rfl, v, [], rfl, rfl, q⟩
  · have e : i = n := by omega
    subst e
    exact .inl ⟨l3 rfl, hd ys H p⟩
/-- over a tuple of pairs -/
theorem pairs_tup {K : PySem.W.Frag} {a : Addr} (ps : List V) {fvals : St} {tc : TT} {te : TE} {don : List V → Hp → Prop} {H : Hp} (Pv : Nat → List V → Hp → Prop) (h0 : Pv 0 [] H)
    (hl : ∀ i ys H, i ≤ ps.length → Pv i ys H → ys.length < sizeLine ∧ SqT K H a ps)
    (hs : ∀ i x ys H, ps[i]? = some x → Pv i ys H → ∃ p u v, x = .ref p ∧ SqT K H p [u, v] ∧ tc (some u :: some v :: fvals) H fun b H3 => if b = true then te (some u :: some v :: fvals) H3 fun w H4 => Pv (i + 1) (ys ++ [w]) H4 else Pv (i + 1) ys H3)
    (hd : ∀ ys H, Pv ps.length ys H → don ys H) : LcX (Itt K a) 2 fvals (gPair K) tc te don H := by
  refine pairs_of ps.length Pv h0 (fun i ys H hi p => ⟨(hl i ys H hi p).1, fun hlt => ?_, fun e => ?_⟩) (fun i x ys H H' hi p y => ?_) hd
  · exact ⟨ps, ps[i], (hl i ys H hi p).2, by simp [hlt]⟩
  · exact ⟨ps, (hl i ys H hi p).2, by omega⟩
  · obtain ⟨e, y⟩ := y
    subst e
    exact hs i x ys _ (y ps (hl i ys _ (Nat.le_of_lt hi) p).2) p
end
/-! ### sum(list) -/
theorem preSum_take (ns : List Int) : ∀ k, k ≤ ns.length → preSum (fun i => ns.getD i 0) k = (ns.take k).sum
  | 0, _ => by simp [preSum]
  | k + 1, h => by
    have hk : k < ns.length := h
    rw [List.take_add_one, List.getElem?_eq_getElem hk, List.sum_append, ← preSum_take ns k (Nat.le_of_lt hk)]
    show preSum (fun i => ns.getD i 0) k + ns.getD k 0 = _
    rw [List.getD_eq_getElem?_getD, List.getElem?_eq_getElem hk]
    simp
theorem call_sum {X : Cx} (hc : X.calm = true) : CallR X (.builtin "sum") (fun xs H Q => ∃ (p : Addr) (ns : List Int), xs = [.ref p] ∧ SqL X.K H p (ns.map V.int) ∧ Q (.int ns.sum) H) := by
  intro pins s σ H xs us Q I r h
  obtain ⟨p, ns, rfl, hp, q⟩ := h
  obtain ⟨u, rfl, ru⟩ := vals1 r
  cases ru
  obtain ⟨its, rv, pl, _⟩ := I.list hp
  have hh : X.A.in1.handled = none := I.ok.hd hc
  have hlt : p < s.heap.objs.size := by obtain ⟨_, _, e, _⟩ := pl; exact Heap.lt_size e
  have hlen : its.length = ns.length := by rw [← rv.length, List.length_map]
  refine call_sum_walkG (wpAny_pyIter_list pl.isList ⟨s.heap.objs.size, _, _, _, _, _, fun i => ns.getD i 0, rfl, Walks.list hh s.heap.objs.size p (Nat.ne_of_lt hlt) its.toArray, ⟨⟨_, Heap.get?_push_size _ rfl, rfl, rfl⟩, pl.isList.push _⟩, ?_, ?_, fun h' tk t' kk => ?_⟩)
  · intro b hb
    have up : ∀ z, z ≤ s.heap.objs.size → z < (Heap.push s.heap { cls := .type "list_iterator", data := .fields #[.ref p, .int 0 0] }).objs.size := fun z hz => by
      rw [Heap.size_push]
      exact Nat.lt_succ_of_le hz
    rcases List.mem_cons.mp hb with z | z
    · rw [z]; exact up _ (Nat.le_refl _)
    · have z' : b = p := by simpa using z
      rw [z']; exact up _ (Nat.le_of_lt hlt)
  · intro i v hv
    have hv' : its[i]? = some v := by simpa using hv
    have hlt : i < ns.length := by rw [← hlen]; exact (List.getElem?_eq_some_iff.mp hv').1
    have eb : (ns.map V.int)[i]? = some (.int ns[i]) := by rw [List.getElem?_map, List.getElem?_eq_getElem hlt]; rfl
    obtain ⟨w1, g1, t, k1⟩ := rv.get eb
    rw [hv'] at g1
    cases g1
    subst k1
    refine ⟨t, ?_⟩
    show Value.int ns[i] t = Value.int (ns.getD i 0) t
    rw [show ns.getD i 0 = ns[i] from by rw [List.getD_eq_getElem?_getD, List.getElem?_eq_getElem hlt]; rfl]
  · refine ⟨.int ns.sum, H, I.kept (t' := tk) fun b o e => kk b o (fun z => ?_) (Heap.get?_push_of_some _ e), ⟨t', ?_⟩, q⟩
    · have z' : b = s.heap.objs.size := by simpa using z
      exact absurd (Heap.lt_size e) (by rw [z']; exact Nat.lt_irrefl _)
    · congr 1
      rw [List.size_toArray, hlen]
      rw [preSum_take ns _ (Nat.le_refl _), List.take_length]
end L20


namespace M11
open M01
/-- so many bits -/
def Sz (n : Nat) (z : Int) : Prop := z.natAbs < 2 ^ n
theorem Sz.mul {a b : Nat} {x y : Int} (h : Sz a x) (k : Sz b y) : Sz (a + b) (x * y) := by
  unfold Sz at *
  rw [Int.natAbs_mul, Nat.pow_add]
  exact Nat.mul_lt_mul'' h k
theorem Sz.add {n : Nat} {x y : Int} (h : Sz n x) (k : Sz n y) : Sz (n + 1) (x + y) := by
  unfold Sz at *
  have := Int.natAbs_add_le x y
  rw [Nat.pow_succ]
  omega
theorem Sz.neg {n : Nat} {x : Int} (h : Sz n x) : Sz n (-x) := by
  unfold Sz at *
  rw [Int.natAbs_neg]
  exact h
theorem Sz.sub {n : Nat} {x y : Int} (h : Sz n x) (k : Sz n y) : Sz (n + 1) (x - y) := by
  rw [Int.sub_eq_add_neg]
  exact h.add k.neg
theorem Sz.mono {a b : Nat} {x : Int} (h : Sz a x) (k : a ≤ b) : Sz b x := Nat.lt_of_lt_of_le h (Nat.pow_le_pow_right (by decide) k)
theorem Sz.big {a : Nat} {x : Int} (h : Sz a x) (k : a ≤ 4000) : Big x := Nat.lt_of_lt_of_le h (Nat.pow_le_pow_right (by decide) k)
theorem Sz.le {a : Nat} {x y : Int} (h : Sz a x) (k : y.natAbs ≤ x.natAbs) : Sz a y := Nat.lt_of_le_of_lt k h
/-- in lowest terms -/
structure Low (a b : Int) : Prop where
  pos : 0 < b
  cop : gz (ab a) b = 1
theorem Low.gcd {a b : Int} (h : Low a b) : ((Int.gcd a b : Nat) : Int) = 1 := by
  have e := h.cop
  have p := h.pos
  unfold gz at e
  rw [ab_nat, show b.toNat = b.natAbs from by omega] at e
  exact e
/-- x / y brought to lowest terms -/
structure Fq (a b x y : Int) : Prop where
  low : Low a b
  eq : a * y = x * b
  szt : a.natAbs ≤ x.natAbs
  szb : b.natAbs ≤ y.natAbs
theorem fq (x : Int) {y : Int} (h : 0 < y) : Fq (ft x y) (fb x y) x y :=
  have h0 : y ≠ 0 := by omega
  ⟨⟨by have := fb_pos (t := x) h0; omega, M01.cop h0⟩, cross x y, ft_le h0, fb_le h0⟩
theorem Fq.sz {a b x y : Int} {n m : Nat} (h : Fq a b x y) (hx : Sz n x) (hy : Sz m y) : Sz n a ∧ Sz m b := ⟨hx.le h.szt, hy.le h.szb⟩
/-- s / t is S / T -/
structure Rt (s t S T : Int) : Prop where
  pos : 0 < t
  eq : s * T = S * t
theorem Fq.rt {a b x y : Int} (h : Fq a b x y) : Rt a b x y := ⟨h.low.pos, h.eq⟩
theorem cancel {a b c : Int} (h : c ≠ 0) (e : a * c = b * c) : a = b := Int.eq_of_mul_eq_mul_right h e
theorem Rt.mul {s t S T a b A B s' t' : Int} (h : Rt s t S T) (k : Rt a b A B) (f : Fq s' t' (s * a) (t * b)) : Rt s' t' (S * A) (T * B) := by
  refine ⟨f.low.pos, ?_⟩
  have p1 := h.pos
  have p2 := k.pos
  have nz : t * b ≠ 0 := fun z => by rcases Int.mul_eq_zero.mp z with z | z <;> omega
  have e1 := h.eq
  have e2 := k.eq
  have e3 := f.eq
  refine cancel nz ?_
  calc s' * (T * B) * (t * b) = (s' * (t * b)) * (T * B) := by ac_rfl
    _ = (s * a * t') * (T * B) := by rw [e3]
    _ = (s * T) * (a * B) * t' := by ac_rfl
    _ = (S * t) * (A * b) * t' := by rw [e1, e2]
    _ = S * A * t' * (t * b) := by ac_rfl
theorem Rt.meet {a b S T A B : Int} (h : Rt a b S T) (nz : T ≠ 0) (e : A * T = S * B) : a * B = A * b := by
  refine cancel nz ?_
  have e1 := h.eq
  calc a * B * T = (a * T) * B := by ac_rfl
    _ = S * b * B := by rw [e1]
    _ = (S * B) * b := by ac_rfl
    _ = A * b * T := by rw [← e]; ac_rfl
/-- what the program's loop reckons: last, top and bottom of the strength -/
def run (p q : Int) : Int → Int → Int → List (Int × Int) → Int × Int × Int
  | l, S, T, [] => (l, S, T)
  | l, S, T, (f, g) :: r => run p q g (S * (l * q - p)) (T * (q * (l + f))) r
/-- the law's sum -/
def gst (e : Nat → Int × Int) : Nat → Int → Int → Int → Int → List (Int × Int) → Int × Int
  | _, _, _, A, B, [] => (A, B)
  | j, w0, w1, A, B, (f, g) :: r =>
    gst e (j + 2) (g * (e (j + 1)).2 + (e (j + 1)).1) (e (j + 1)).2 (A * (g * (e (j + 1)).2 + (e (j + 1)).1) * (w1 * (e j).2)) (B * (e (j + 1)).2 * (w0 * (e j).2 + (f * (e j).2 + (e j).1) * w1)) r
def giv (e : Nat → Int × Int) (f : Int) (st : List (Int × Int)) : Int × Int := gst e 1 (f * (e 0).2 + (e 0).1) (e 0).2 (f * (e 0).2 + (e 0).1) (e 0).2 st
def Pos1 (st : List (Int × Int)) : Prop := ∀ x ∈ st, 1 ≤ x.1 ∧ 1 ≤ x.2
/-- by turns -/
def alt (p q : Int) (j : Nat) : Int × Int := if j % 2 = 0 then (-p, q) else (p, q)
end M11


set_option maxRecDepth 100000
set_option linter.all false
set_option maxHeartbeats 1000000
set_option Elab.async false
namespace L21
open PySem PySem.Spec PyProof.Rows L2 L3 X8 M01 L6 L5 QL L8 L9 L10 L20 M11
theorem seqT {K : PySem.W.Frag} {H H' : Hp} {a : Addr} {xs : List V} (e : Same H H') (h : SqT K H a xs) : SqT K H' a xs := by
  rcases h with (h | ⟨o, h⟩) | h
  · exact .inl (.inl (e _ _ h))
  · exact .inl (.inr ⟨o, e _ _ h⟩)
  · exact .inr h
/-! ### a plan in the heap -/
inductive Pis (K : PySem.W.Frag) (H : Hp) : List Addr → List (Int × Int) → Prop
  | nil : Pis K H [] []
  | cons {a : Addr} {i j : Int} {as : List Addr} {ps : List (Int × Int)} : SqT K H a [.int i, .int j] → Pis K H as ps → Pis K H (a :: as) ((i, j) :: ps)
theorem Pis.mono {K : PySem.W.Frag} {H H' : Hp} (s : Same H H') {as : List Addr} {ps : List (Int × Int)} (h : Pis K H as ps) : Pis K H' as ps := by
  induction h with
  | nil => exact .nil
  | cons e _ ih => exact .cons (seqT s e) ih
theorem Pis.at_ {K : PySem.W.Frag} {H : Hp} {as : List Addr} {ps : List (Int × Int)} (h : Pis K H as ps) : ∀ {i : Nat} {v : V}, (as.map V.ref)[i]? = some v → ∃ a n m, v = .ref a ∧ ps[i]? = some (n, m) ∧ SqT K H a [.int n, .int m] := by
  induction h with
  | nil => intro i v e; cases e
  | @cons a n m as ps e _ ih =>
    intro i v ev
    cases i with
    | zero => exact ⟨a, n, m, (Option.some.inj ev).symm, rfl, e⟩
    | succ j => exact ih ev
theorem Pis.len {K : PySem.W.Frag} {H : Hp} {as : List Addr} {ps : List (Int × Int)} (h : Pis K H as ps) : as.length = ps.length := by
  induction h with
  | nil => rfl
  | cons _ _ ih => rw [List.length_cons, List.length_cons, ih]
theorem Pis.snoc {K : PySem.W.Frag} {H : Hp} {a : Addr} {i j : Int} (e : SqT K H a [.int i, .int j]) {as : List Addr} {ps : List (Int × Int)} (h : Pis K H as ps) : Pis K H (as ++ [a]) (ps ++ [(i, j)]) := by
  induction h with
  | nil => exact .cons e .nil
  | cons e1 _ ih => exact .cons e1 ih
def PlanAt (K : PySem.W.Frag) (H : Hp) (p : Addr) (f : Int) (st : List (Int × Int)) : Prop := ∃ (s : Addr) (rs : List Addr), SqT K H p [.int f, .ref s] ∧ SqT K H s (rs.map V.ref) ∧ Pis K H rs st
theorem PlanAt.mono {K : PySem.W.Frag} {H H' : Hp} {p : Addr} {f : Int} {st : List (Int × Int)} (s : Same H H') (h : PlanAt K H p f st) : PlanAt K H' p f st :=
  let ⟨a, rs, h1, h2, h3⟩ := h
  ⟨a, rs, seqT s h1, seqT s h2, h3.mono s⟩

theorem at_ints {xs : List Int} {i : Int} (h0 : 0 ≤ i) (h1 : i < xs.length) : atI (xs.map V.int) i = some (.int (xs.getD i.toNat 0)) := by
  have hlt : i.toNat < xs.length := by omega
  have e : (xs.map V.int)[i.toNat]? = some (.int xs[i.toNat]) := by rw [List.getElem?_map, List.getElem?_eq_getElem hlt]; rfl
  have e2 := atI_nat e
  rw [show ((i.toNat : Nat) : Int) = i from by omega] at e2
  rw [e2, List.getD_eq_getElem?_getD, List.getElem?_eq_getElem hlt]
  rfl
/-- numbers of a plan -/
def Pl (m f : Int) (st : List (Int × Int)) : Prop := (1 ≤ f ∧ f ≤ m) ∧ ∀ x ∈ st, (1 ≤ x.1 ∧ x.1 ≤ m) ∧ (1 ≤ x.2 ∧ x.2 ≤ m)
theorem Pis.atI {K : PySem.W.Frag} {H : Hp} {as : List Addr} {ps : List (Int × Int)} (h : Pis K H as ps) {i : Int} (h0 : 0 ≤ i) (h1 : i < ps.length) : ∃ a, atI (as.map V.ref) i = some (.ref a) ∧ SqT K H a [.int (ps.getD i.toNat (0, 1)).1, .int (ps.getD i.toNat (0, 1)).2] := by
  have hl := h.len
  have hlt : i.toNat < as.length := by omega
  have hlt2 : i.toNat < ps.length := by omega
  have e : (as.map V.ref)[i.toNat]? = some (.ref as[i.toNat]) := by rw [List.getElem?_map, List.getElem?_eq_getElem hlt]; rfl
  obtain ⟨a, n, m, e1, e2, e3⟩ := h.at_ e
  injection e1 with e1
  have e4 := atI_nat e
  rw [show ((i.toNat : Nat) : Int) = i from by omega] at e4
  refine ⟨_, e4, ?_⟩
  rw [List.getD_eq_getElem?_getD, e2, e1]
  exact e3
theorem ix_listK {X : Cx} {K : PySem.W.Frag} (h : X.K = K) : IxR X (rIxL K) := h ▸ ix_list
end L21


set_option maxRecDepth 100000
set_option linter.all false
set_option maxHeartbeats 1000000
set_option Elab.async false
namespace L11
open PySem PySem.Spec PyProof.Rows L2 L3 X8 M01 L6 L5 QL
/-! ### for sign in text -/
def Ist (x : Str) : It := ⟨fun i _ => i < x.length, fun i H v H' => H' = H ∧ ∃ c, x.cps[i]? = some c ∧ v = .str ⟨#[c]⟩, fun i _ => x.length ≤ i⟩
section
variable {X : Cx} {tg : Expr}
def iStr (te : TE) : TI := fun σ H R => te σ H fun x H1 => ∃ z, x = .str z ∧ R (Ist z) H1
/-! ### all(list), int(text), text.split(sep) -/
end
end L11


set_option maxRecDepth 100000
set_option linter.all false
set_option maxHeartbeats 4000000
set_option Elab.async false
namespace X8
open PySem PySem.Spec PyProof.Rows L2

section
variable {X : Cx} {x : Str} {np hpos pos : Pos} {body suite : List Stmt} {b0 : Stmt} {C S : Addr} {tb : (St → XK) → TS} {ts : TS}
def hWant0 (C : Addr) (ts : TS) (D : Ends) : St → XK := fun σ cls dx H => ∃ d, cls = .ref C ∧ dx = some d ∧ ts D σ H
end
end X8


set_option maxRecDepth 100000
set_option linter.all false
set_option maxHeartbeats 4000000
set_option Elab.async false
namespace PySem.SeqAt
open AutoSeq1 (wpAny_loadPart')
open MeetsSeq MeetsSeq2 MeetsSeq3 SeqRoads2
end PySem.SeqAt

namespace L13
open PySem PySem.Spec PyProof.Rows L2 L3 L6 X8 QL M01
section
variable {X : Cx}
/-! ### tuples: index, != -/
def rTIdx (K : PySem.W.Frag) : V → List V → Hp → VK → Prop := fun x xs H Q => ∃ (a : Addr) (ss : List Str) (w : Str) (j : Nat), x = .ref a ∧ xs = [.str w] ∧ SqT K H a (ss.map V.str) ∧ ss[j]? = some w ∧ (∀ m, m < j → ss[m]? ≠ some w) ∧ Q (.int j) H
def rNeT (K : PySem.W.Frag) : R2 := fun x y H Q => ∃ (a b : Addr) (ns ms : List Int), x = .ref a ∧ y = .ref b ∧ SqT K H a (ns.map V.int) ∧ SqT K H b (ms.map V.int) ∧ Q (.bl (!decide (ns = ms))) H
end
/-! ### a class of the text with its methods -/
structure CL (K : PySem.W.Frag) (mg : Str → Option Value) (x : Str) (C : Addr) : Prop where
  m : mg x = some (.ref C)
  cl : Cls K C
  mkd : PySem.W.makesIn K C = true
  kp : PySem.W.keepIn K (.ref C) = true
def Met (K : PySem.W.Frag) (C : Addr) (x q : Str) (st : Stmt) : Prop := ∃ f fd, Meth K C x f ∧ L2.Fun K x q st f fd
def MDef (P : Program) (w : World) (K : PySem.W.Frag) (mg : Str → Option Value) (base : Heap) (CX : CXT) (k : Nat) (C : Addr) (x : Str) (ps : List Str) (sp : Sp) : Prop :=
  ∃ f fd, Meth K C x f ∧ FnOk P w K mg base CX k f fd ps sp ∧ Binds K fd ps []
section
variable {X : Cx} {CX : CXT} {k : Nat} {C : Addr} {ps : List Str} {sp : Sp} {E : XK} {m x : Str} {p apos pos : Pos} {o e : Expr} {es : List Expr} {ta : TE} {t : TA}
/-- a call of a def whose second argument has a number as default -/
def DefD (P : Program) (w : World) (K : PySem.W.Frag) (mg : Str → Option Value) (base : Heap) (CX : CXT) (k : Nat) (x : Str) (ps : List Str) (d : Int) (sp : Sp) : Prop :=
  ∃ f fd tk, FnOk P w K mg base CX k f fd ps sp ∧ Binds K fd ps [] ∧ Binds K fd ps [.int d tk] ∧ mg x = some (.ref f) ∧ PySem.W.keepIn K (.ref f) = true
theorem DefD.all {P : Program} {w : World} {K : PySem.W.Frag} {mg : Str → Option Value} {base : Heap} {d : Int} (D : DefD P w K mg base CX k x ps d sp) : Def P w K mg base CX k x ps sp := by
  obtain ⟨f, fd, tk, F, b, _, m, kp⟩ := D
  exact ⟨f, fd, F, b, m, kp⟩
theorem qe_callDef {d : Int} (D : DefD X.prog X.w X.K X.mg X.base CX k x ps d sp) (hr : Room k X.A) (hg : Gl X x) (hx : Passes CX X E)
    (ha : QA X (e :: es) t) (hdb : (x == ("__debug__" : Str)) = false := by decide) (he : starEach (e :: es) X.env = (false, eval e X.env) :: starEach es X.env := by rfl) (hpl : (backTo pos (starEach es X.env)).any (·.1) = false := by rfl) :
    QE X (.Call (.Name x p) (e :: es) [] pos) (tCall sp [.int d] E t) := by
  obtain ⟨f, fd, tk, F, _, b, m, kp⟩ := D
  exact ⟨pe_call F hr hg m kp b (.cons ⟨tk, rfl⟩ .nil) hx ha.h hdb he hpl⟩
end
end L13


set_option maxRecDepth 100000
set_option linter.all false
set_option maxHeartbeats 1000000
set_option Elab.async false
namespace L22
open PySem PySem.Spec PyProof.Rows L2 L3 X8 M01 L6 L5 QL L8 L9 L10 L13 L20 L21
/-! ### things of lists, tuples and ints held against each other -/
inductive Fa {α : Type} (r : V → α → Prop) : List V → List α → Prop
  | nil : Fa r [] []
  | cons {v : V} {a : α} {vs : List V} {as : List α} : r v a → Fa r vs as → Fa r (v :: vs) (a :: as)
theorem Fa.len {α : Type} {r : V → α → Prop} {vs : List V} {as : List α} (h : Fa r vs as) : vs.length = as.length := by
  induction h with
  | nil => rfl
  | cons _ _ ih => rw [List.length_cons, List.length_cons, ih]
theorem Fa.at {α : Type} {r : V → α → Prop} {vs : List V} {as : List α} (h : Fa r vs as) : ∀ {j : Nat} (hv : j < vs.length) (ha : j < as.length), r vs[j] as[j] := by
  induction h with
  | nil => intro j hv; exact absurd hv (Nat.not_lt_zero _)
  | cons h1 _ ih =>
    intro j hv ha
    cases j with
    | zero => exact h1
    | succ k => exact ih (Nat.lt_of_succ_lt_succ hv) (Nat.lt_of_succ_lt_succ ha)
theorem Fa.fn {α : Type} {r : V → α → Prop} (hf : ∀ v a b, r v a → r v b → a = b) {vs : List V} {as : List α} (h : Fa r vs as) : ∀ {bs : List α}, Fa r vs bs → as = bs := by
  induction h with
  | nil => intro bs k; cases k; rfl
  | cons h1 _ ih =>
    intro bs k
    cases k with
    | cons k1 k2 => rw [hf _ _ _ h1 k1, ih k2]
theorem Fa.mono {α : Type} {r r' : V → α → Prop} (hr : ∀ v a, r v a → r' v a) {vs : List V} {as : List α} (h : Fa r vs as) : Fa r' vs as := by
  induction h with
  | nil => exact .nil
  | cons h1 _ ih => exact .cons (hr _ _ h1) ih
abbrev Rp (α : Type) := Hp → V → α → Prop
def rpI : Rp Int := fun _ v i => v = .int i
def rpL {α : Type} (r : Rp α) : Rp (List α) := fun H v as => ∃ p vs, v = .ref p ∧ H p = some (.lst vs) ∧ Fa (r H) vs as
def rpT {α : Type} (r : Rp α) : Rp (List α) := fun H v as => ∃ p vs, v = .ref p ∧ H p = some (.tup vs) ∧ Fa (r H) vs as
structure EqOk {α : Type} [DecidableEq α] (X : Cx) (d : Nat) (r : Rp α) : Prop where
  fn : ∀ H v a b, r H v a → r H v b → a = b
  eq : ∀ {pins : List (Addr × Obj)} {s : Shared} {σ : L2.St} {H : Hp}, Inv X pins σ H s → ∀ A : Around, A.units + d < cLine → ∀ v u v' u' a b, r H v a → r H u b → RelV v v' → RelV u u' → SeqAt.EqAt A s v' u' (decide (a = b))
theorem all_at {α : Type} [DecidableEq α] (ns ms : List α) (h : ns.length = ms.length) : (List.range ns.length).all (fun j => decide (ns[j]? = ms[j]?)) = decide (ns = ms) := by
  by_cases e : ns = ms
  · subst e; rw [decide_eq_true rfl]; simp
  · rw [decide_eq_false e, Bool.eq_false_iff]
    intro a
    refine e (List.ext_getElem? fun j => ?_)
    by_cases hj : j < ns.length
    · exact of_decide_eq_true (List.all_eq_true.mp a j (List.mem_range.mpr hj))
    · rw [List.getElem?_eq_none (by omega), List.getElem?_eq_none (by omega)]
section
variable {X : Cx} {α : Type} [DecidableEq α] {d : Nat} {r : Rp α}
theorem ok_int : EqOk X 0 rpI where
  fn := fun _ v a b h k => by
    have h' : v = .int a := h
    have k' : v = .int b := k
    rw [h'] at k'
    injection k'
  eq := fun I A hu v u v' u' a b h k rv ru => by
    have h' : v = .int a := h
    have k' : u = .int b := k
    subst h' k'
    obtain ⟨t, rfl⟩ := rv
    obtain ⟨t2, rfl⟩ := ru
    rw [show decide (a = b) = (a == b) from rfl]
    exact SeqAt.EqAt.int_int _ _ _ _
theorem el_eq (h : EqOk X d r) {pins : List (Addr × Obj)} {s : Shared} {σ : L2.St} {H : Hp} (I : Inv X pins σ H s) {A : Around} (hu : A.units + d < cLine) {vs us : List V} {as bs : List α} {its its2 : List Value} (h1 : Fa (r H) vs as) (h2 : Fa (r H) us bs) (r1 : Vals vs its) (r2 : Vals us its2) {j : Nat} (j1 : j < its.length) (j2 : j < its2.length) :
    SeqAt.EqAt A s its[j] its2[j] (decide (as[j]? = bs[j]?)) := by
  have l1 := r1.length
  have l2 := r2.length
  have n1 := h1.len
  have n2 := h2.len
  have v1 : j < vs.length := by omega
  have v2 : j < us.length := by omega
  have a1 : j < as.length := by omega
  have a2 : j < bs.length := by omega
  obtain ⟨w1, g1, k1⟩ := r1.get (List.getElem?_eq_getElem v1)
  obtain ⟨w2, g2, k2⟩ := r2.get (List.getElem?_eq_getElem v2)
  have f1 : its[j] = w1 := (List.getElem?_eq_some_iff.mp g1).2
  have f2 : its2[j] = w2 := (List.getElem?_eq_some_iff.mp g2).2
  rw [f1, f2, List.getElem?_eq_getElem a1, List.getElem?_eq_getElem a2, show decide (some as[j] = some bs[j]) = decide (as[j] = bs[j]) from by
    by_cases z : as[j] = bs[j]
    · rw [z, decide_eq_true rfl, decide_eq_true rfl]
    · rw [decide_eq_false z, decide_eq_false (fun w => z (Option.some.inj w))]]
  exact h.eq I A hu _ _ _ _ _ _ (h1.at v1 a1) (h2.at v2 a2) k1 k2
theorem rc_lst (h : EqOk X d r) {pins : List (Addr × Obj)} {s : Shared} {σ : L2.St} {H : Hp} (I : Inv X pins σ H s) {A : Around} (hu : A.units + (d + 1) < cLine) {p q : Addr} {vs us : List V} {as bs : List α} (hp : H p = some (.lst vs)) (hq : H q = some (.lst us)) (h1 : Fa (r H) vs as) (h2 : Fa (r H) us bs) :
    SeqAt.RcAt A s (.ref p) (.ref q) (decide (as = bs)) ∧ SeqAt.RcNeAt A s (.ref p) (.ref q) (!decide (as = bs)) := by
  obtain ⟨its, r1, p1, _⟩ := I.list (SqL.of (K := X.K) hp)
  obtain ⟨its2, r2, p2, _⟩ := I.list (SqL.of (K := X.K) hq)
  have l1 := r1.length
  have l2 := r2.length
  have n1 := h1.len
  have n2 := h2.len
  have hu1 : A.units < cLine := by omega
  have hu2 : A.in1.units + d < cLine := by show A.units + 1 + d < cLine; omega
  by_cases hl : as.length = bs.length
  · have e := all_at as bs hl
    rw [show as.length = its.toArray.size from by rw [List.size_toArray]; omega] at e
    have el : ∀ j (h1' : j < its.toArray.size) (h2' : j < its2.toArray.size), SeqAt.EqAt A.in1 s its.toArray[j] its2.toArray[j] (decide (as[j]? = bs[j]?)) := fun j j1 j2 => by
      have := el_eq h I hu2 h1 h2 r1 r2 (j := j) (by simpa using j1) (by simpa using j2)
      simpa using this
    constructor
    · rw [← e]
      exact SeqAt.RcAt.lists p1.isList p2.isList (by simp; omega) hu1 el
    · rw [← e]
      exact SeqAt.RcNeAt.lists p1.isList p2.isList (by simp; omega) hu1 el
  · have e : decide (as = bs) = false := decide_eq_false fun z => hl (by rw [z])
    have hsz : (its.toArray.size != its2.toArray.size) = true := by simp; omega
    rw [e]
    exact ⟨SeqAt.RcAt.lists_lengths p1.isList p2.isList hsz hu1, SeqAt.RcNeAt.lists_lengths p1.isList p2.isList hsz hu1⟩
def rEqD {β : Type} [DecidableEq β] (r : Rp β) : R2 := fun x y H Q => ∃ a b : β, r H x a ∧ r H y b ∧ Q (.bl (decide (a = b))) H
def rNeD {β : Type} [DecidableEq β] (r : Rp β) : R2 := fun x y H Q => ∃ a b : β, r H x a ∧ r H y b ∧ Q (.bl (!decide (a = b))) H
theorem op_neDL (h : EqOk X d r) (hu : X.A.units + (d + 1) < cLine) : OpR X (compareOp .NotEq) (rNeD (rpL r)) := by
  intro pins s σ H x y v u Q I rx ry hh
  obtain ⟨a, b, ⟨p, vs, rfl, e2, e3⟩, ⟨q, us, rfl, f2, f3⟩, k⟩ := hh
  cases rx
  cases ry
  exact (rc_lst h I hu e2 f2 e3 f3).2 X.prog X.w _ _ ⟨.bl _, H, I, rfl, k⟩
end
end L22


set_option maxRecDepth 100000
set_option linter.all false
set_option maxHeartbeats 1000000
set_option Elab.async false
namespace PySem.SeqAt
open AutoSeq1 (wpAny_loadPart')
open MeetsSeq MeetsSeq2 MeetsSeq3 SeqRoads2
/-! ### tuples held against each other by < -/
def RcLtAt (A : Around) (s : Shared) (y x : Value) (b : Bool) : Prop :=
  ∀ (prog : Program) (w : World) (E : Value → Shared → Prop) (Q : Value → Shared → Prop), Q (.bool b) s → wpAny (model prog w) A (richCompare .Lt y x) Q E s
def lexB (e l : Nat → Bool) (fin : Bool) : List Nat → Bool
  | [] => fin
  | i :: r => if e i = true then lexB e l fin r else l i
theorem tuple_ltAt (l b : Addr) (items items2 : Array Value) (n n2 : Nat) (dd dd2 : Option Addr) (sl sl2 : Array (Option Value)) (e lt : Nat → Bool) :
    Meets (Builtin.«tuple.__lt__» ⟨[.ref l, .ref b], []⟩)
      (fun A R s => s.heap.get? l = some { cls := .type "tuple", dict := dd, data := .seq items n, slots := sl } ∧ s.heap.get? b = some { cls := .type "tuple", dict := dd2, data := .seq items2 n2, slots := sl2 } ∧
        (∀ j (h1 : j < items.size) (h2 : j < items2.size), EqAt A.in1 s items[j] items2[j] (e j)) ∧ (∀ j (h1 : j < items.size) (h2 : j < items2.size), e j = false → RcLtAt A.in1 s items[j] items2[j] (lt j)) ∧
        R (.ok (.ret (.bool (lexB e lt (decide (items.size < items2.size)) (List.range (min items.size items2.size)))))) s) := .of_wp fun prog w A R s h => by
  obtain ⟨hp, g, d, tk, os⟩ := s; obtain ⟨hl, hb, he, hlt', h⟩ := h
  have f2 := AutoSeq1.sub_tuple_tuple
  have hZ : (items.toList.zip items2.toList).length = min items.size items2.size := by simp
  wp_walk using wpAny_loadPart' hl, wpAny_loadPart' hb, wpAny_forIn_list _ (fun rest b s' => b.1 = none ∧ s' = ⟨hp, g, d, tk, os⟩ ∧ ∃ i, rest = (items.toList.zip items2.toList).drop i ∧
      R (.ok (.ret (.bool (lexB e lt (decide (items.size < items2.size)) ((List.range (min items.size items2.size)).drop i))))) ⟨hp, g, d, tk, os⟩) _
  case turn =>
    rintro ⟨y, x⟩ rest b s' ⟨hb', rfl, i, hz, hR⟩
    have hlt : i < (items.toList.zip items2.toList).length := by
      rcases Nat.lt_or_ge i (items.toList.zip items2.toList).length with h' | h'
      · exact h'
      · rw [List.drop_of_length_le h'] at hz; cases hz
    have hm : i < min items.size items2.size := hZ ▸ hlt
    have h1 : i < items.size := Nat.lt_of_lt_of_le hm (Nat.min_le_left _ _)
    have h2 : i < items2.size := Nat.lt_of_lt_of_le hm (Nat.min_le_right _ _)
    rw [List.drop_eq_getElem_cons hlt] at hz
    injection hz with hyx hrest
    have hy : y = items[i] := by have := congrArg Prod.fst hyx; simpa using this
    have hx : x = items2[i] := by have := congrArg Prod.snd hyx; simpa using this
    subst hy hx
    have hd : (List.range (min items.size items2.size)).drop i = i :: (List.range (min items.size items2.size)).drop (i + 1) := by simp [List.drop_eq_getElem_cons, hm]
    rw [hd] at hR
    refine wpAny_bind (he i h1 h2 prog w _ _ ?_)
    cases hy : e i with
    | true =>
      have hR' : R (.ok (.ret (.bool (lexB e lt (decide (items.size < items2.size)) ((List.range (min items.size items2.size)).drop (i + 1)))))) ⟨hp, g, d, tk, os⟩ := by
        have : lexB e lt (decide (items.size < items2.size)) (i :: (List.range (min items.size items2.size)).drop (i + 1)) = lexB e lt (decide (items.size < items2.size)) ((List.range (min items.size items2.size)).drop (i + 1)) := by
          show (if e i = true then _ else _) = _
          rw [hy, if_pos rfl]
        rw [this] at hR
        exact hR
      wp_walk
      exact ⟨rfl, rfl, i + 1, hrest, hR'⟩
    | false =>
      have hR' : R (.ok (.ret (.bool (lt i)))) ⟨hp, g, d, tk, os⟩ := by
        have : lexB e lt (decide (items.size < items2.size)) (i :: (List.range (min items.size items2.size)).drop (i + 1)) = lt i := by
          show (if e i = true then _ else _) = _
          rw [hy, if_neg (by decide)]
        rw [this] at hR
        exact hR
      have hq := hlt' i h1 h2 hy prog w
      wp_walk using hq _ _
      exact ⟨_, rfl, hR'⟩
  case fin =>
    rintro ⟨b1, b2⟩ s' ⟨hb', rfl, i, hz, hR⟩
    simp only at hb'
    subst hb'
    have hge : min items.size items2.size ≤ i := by
      rcases Nat.lt_or_ge i (items.toList.zip items2.toList).length with h' | h'
      · rw [List.drop_eq_getElem_cons h'] at hz; cases hz
      · exact hZ ▸ h'
    rw [List.drop_of_length_le (by simpa using hge)] at hR
    wp_walk
    exact ⟨_, rfl, by simpa [Builtin.Tuple.tupleCompareSizes, lexB] using hR⟩
  case h =>
    exact ⟨rfl, rfl, 0, rfl, by simpa using h⟩
section
variable {A : Around} {s : Shared}
theorem RcLtAt.tuples {l b : Addr} {items items2 : Array Value} {e lt : Nat → Bool} (hl : s.heap.IsTuple l items) (hb : s.heap.IsTuple b items2) (hu : A.units < cLine)
    (he : ∀ j (h1 : j < items.size) (h2 : j < items2.size), EqAt A.in1 s items[j] items2[j] (e j)) (ht : ∀ j (h1 : j < items.size) (h2 : j < items2.size), e j = false → RcLtAt A.in1 s items[j] items2[j] (lt j)) :
    RcLtAt A s (.ref l) (.ref b) (lexB e lt (decide (items.size < items2.size)) (List.range (min items.size items2.size))) := fun prog w E Q h => by
  obtain ⟨⟨cls, dd, data, sl⟩, ho, hc, n, hd⟩ := id hl
  obtain ⟨⟨cls2, dd2, data2, sl2⟩, ho2, hc2, n2, hd2⟩ := id hb
  simp only at hc hd hc2 hd2
  subst hc hd hc2 hd2
  exact richCompare_meets_room (op := .Lt) ⟨_, ho, rfl⟩ ⟨_, ho2, rfl⟩ F.slot_tuple_lt F.entry_tuple_lt (F.args_tuple_lt_2 _ _) (tuple_ltAt l b items items2 n n2 dd dd2 sl sl2 e lt)
    ⟨ho, ho2, he, ht, show Value.bool (lexB e lt (decide (items.size < items2.size)) (List.range (min items.size items2.size))) ≠ Value.notImplemented ∧ Q (.bool (lexB e lt (decide (items.size < items2.size)) (List.range (min items.size items2.size)))) s from ⟨(fun x => nomatch x), h⟩⟩ hu
end
end PySem.SeqAt


set_option maxRecDepth 100000
set_option linter.all false
set_option maxHeartbeats 1000000
set_option Elab.async false
namespace L44
open PySem PySem.Spec PyProof.Rows L2 L3 X8 M01 L6 L5 QL L8 L9 L10 L13 L20 L21 L22
/-! ### tuples of any shape, by == and < -/
structure CmpOk {α : Type} [DecidableEq α] (X : Cx) (d : Nat) (r : Rp α) (lt : α → α → Bool) : Prop where
  fn : ∀ H v a b, r H v a → r H v b → a = b
  eq : ∀ {pins : List (Addr × Obj)} {s : Shared} {σ : L2.St} {H : Hp}, Inv X pins σ H s → ∀ A : Around, A.units + d < cLine → ∀ v u v' u' a b, r H v a → r H u b → RelV v v' → RelV u u' → SeqAt.EqAt A s v' u' (decide (a = b))
  lt : ∀ {pins : List (Addr × Obj)} {s : Shared} {σ : L2.St} {H : Hp}, Inv X pins σ H s → ∀ A : Around, A.units + d < cLine → ∀ v u v' u' a b, r H v a → r H u b → RelV v v' → RelV u u' → SeqAt.RcLtAt A s v' u' (lt a b)
abbrev Rw (α : Type) := Hp → List V → α → Prop
structure Cmp2 {α : Type} [DecidableEq α] (A : Around) (s : Shared) (lt : α → α → Bool) (its its2 : List Value) (a b : α) : Prop where
  ex : ∃ e l : Nat → Bool, (∀ j (h1 : j < its.length) (h2 : j < its2.length), SeqAt.EqAt A s its[j] its2[j] (e j)) ∧ (∀ j (h1 : j < its.length) (h2 : j < its2.length), SeqAt.RcLtAt A s its[j] its2[j] (l j)) ∧
    ((List.range (min its.length its2.length)).all e && its.length == its2.length) = decide (a = b) ∧ SeqAt.lexB e l (decide (its.length < its2.length)) (List.range (min its.length its2.length)) = lt a b
structure RowOk {α : Type} [DecidableEq α] (X : Cx) (d : Nat) (R : Rw α) (lt : α → α → Bool) : Prop where
  fn : ∀ H vs a b, R H vs a → R H vs b → a = b
  cmp : ∀ {pins : List (Addr × Obj)} {s : Shared} {σ : L2.St} {H : Hp}, Inv X pins σ H s → ∀ A : Around, A.units + d < cLine → ∀ vs us its its2 a b, R H vs a → R H us b → Vals vs its → Vals us its2 → Cmp2 A s lt its its2 a b
theorem lexB_succ {e l e' l' : Nat → Bool} {fin : Bool} (he : ∀ j, e (j + 1) = e' j) (hl : ∀ j, l (j + 1) = l' j) : ∀ r : List Nat, SeqAt.lexB e l fin (r.map Nat.succ) = SeqAt.lexB e' l' fin r
  | [] => rfl
  | j :: r => by
    show (if e (j + 1) = true then SeqAt.lexB e l fin (r.map Nat.succ) else l (j + 1)) = (if e' j = true then SeqAt.lexB e' l' fin r else l' j)
    rw [he, hl, lexB_succ he hl r]
/-- the first ones, then the rest -/
theorem cons_cmp {α β γ : Type} [DecidableEq α] [DecidableEq β] [DecidableEq γ] {A : Around} {s : Shared} {l1 : α → α → Bool} {l2 : β → β → Bool} {l3 : γ → γ → Bool} {x y : Value} {its its2 : List Value} {a b : α} {a2 b2 : β} {c d : γ}
    (he : SeqAt.EqAt A s x y (decide (a = b))) (hl : SeqAt.RcLtAt A s x y (l1 a b)) (h : Cmp2 A s l2 its its2 a2 b2) (hcd : c = d ↔ a = b ∧ a2 = b2) (h3 : l3 c d = if a = b then l2 a2 b2 else l1 a b) : Cmp2 A s l3 (x :: its) (y :: its2) c d := by
  obtain ⟨e, l, k1, k2, k3, k4⟩ := h
  refine ⟨fun j => match j with | 0 => decide (a = b) | j + 1 => e j, fun j => match j with | 0 => l1 a b | j + 1 => l j, ?_, ?_, ?_, ?_⟩
  · intro j h1 h2
    cases j with
    | zero => exact he
    | succ j => exact k1 j (Nat.lt_of_succ_lt_succ h1) (Nat.lt_of_succ_lt_succ h2)
  · intro j h1 h2
    cases j with
    | zero => exact hl
    | succ j => exact k2 j (Nat.lt_of_succ_lt_succ h1) (Nat.lt_of_succ_lt_succ h2)
  · rw [List.length_cons, List.length_cons, Nat.succ_min_succ, List.range_succ_eq_map, List.all_cons, List.all_map]
    have e1 : ((its.length + 1 == its2.length + 1) : Bool) = (its.length == its2.length) := by
      by_cases z : its.length = its2.length
      · rw [z]; simp
      · rw [beq_eq_false_iff_ne.mpr z, beq_eq_false_iff_ne.mpr (by omega)]
    rw [e1]
    show (decide (a = b) && (List.range (min its.length its2.length)).all e && _) = _
    rw [Bool.and_assoc, k3]
    by_cases z : a = b
    · by_cases z2 : a2 = b2
      · rw [decide_eq_true z, decide_eq_true z2, decide_eq_true (hcd.mpr ⟨z, z2⟩)]; rfl
      · rw [decide_eq_true z, decide_eq_false z2, decide_eq_false (fun w => z2 (hcd.mp w).2)]; rfl
    · rw [decide_eq_false z, decide_eq_false (fun w => z (hcd.mp w).1)]; rfl
  · rw [List.length_cons, List.length_cons, Nat.succ_min_succ, List.range_succ_eq_map]
    show (if decide (a = b) = true then _ else l1 a b) = _
    rw [lexB_succ (e' := e) (l' := l) (fun _ => rfl) (fun _ => rfl), h3]
    have e2 : decide (its.length + 1 < its2.length + 1) = decide (its.length < its2.length) := decide_eq_decide.mpr (by omega)
    rw [e2, k4]
    by_cases z : a = b
    · rw [if_pos z, if_pos (decide_eq_true z)]
    · rw [if_neg z, if_neg (by simpa using z)]
theorem CmpOk.up {α : Type} [DecidableEq α] {X : Cx} {d d' : Nat} {r : Rp α} {lt : α → α → Bool} (h : CmpOk X d r lt) (k : d ≤ d') : CmpOk X d' r lt :=
  ⟨h.fn, fun I A hu => h.eq I A (by omega), fun I A hu => h.lt I A (by omega)⟩
theorem RowOk.up {α : Type} [DecidableEq α] {X : Cx} {d d' : Nat} {R : Rw α} {lt : α → α → Bool} (h : RowOk X d R lt) (k : d ≤ d') : RowOk X d' R lt :=
  ⟨h.fn, fun I A hu => h.cmp I A (by omega)⟩
def rwNil : Rw Unit := fun _ vs _ => vs = []
def rwCons {α β : Type} (r : Rp α) (R : Rw β) : Rw (α × β) := fun H vs a => ∃ v rest, vs = v :: rest ∧ r H v a.1 ∧ R H rest a.2
def rwStar {α : Type} (r : Rp α) : Rw (List α) := fun H vs as => Fa (r H) vs as
def ltNil : Unit → Unit → Bool := fun _ _ => false
def ltCons {α β : Type} [DecidableEq α] (l1 : α → α → Bool) (l2 : β → β → Bool) : α × β → α × β → Bool := fun a b => if a.1 = b.1 then l2 a.2 b.2 else l1 a.1 b.1
def ltStar {α : Type} [DecidableEq α] (l : α → α → Bool) : List α → List α → Bool
  | [], [] => false
  | [], _ :: _ => true
  | _ :: _, [] => false
  | a :: as, b :: bs => if a = b then ltStar l as bs else l a b
def ltI : Int → Int → Bool := fun a b => decide (a < b)
section
variable {X : Cx} {α β : Type} [DecidableEq α] [DecidableEq β] {d : Nat} {r : Rp α} {R : Rw β} {l1 : α → α → Bool} {l2 : β → β → Bool}
theorem cmp_int : CmpOk X 0 rpI ltI where
  fn := ok_int (X := X).fn
  eq := ok_int.eq
  lt := fun I A hu v u v' u' a b h k rv ru prog w E Q hq => by
    have h' : v = .int a := h
    have k' : u = .int b := k
    subst h' k'
    obtain ⟨t, rfl⟩ := rv
    obtain ⟨t2, rfl⟩ := ru
    have z : wpAny (model prog w) A (compareOp .Lt (.int a t) (.int b t2)) Q E _ := lt_int hq
    exact z
theorem row_nil : RowOk X d rwNil ltNil where
  fn := fun _ _ _ _ _ _ => rfl
  cmp := fun I A hu vs us its its2 a b h k rv ru => by
    have h' : vs = [] := h
    have k' : us = [] := k
    subst h' k'
    cases rv
    cases ru
    exact ⟨fun _ => true, fun _ => false, fun j h1 => absurd h1 (Nat.not_lt_zero _), fun j h1 => absurd h1 (Nat.not_lt_zero _), rfl, rfl⟩
theorem row_cons (h1 : CmpOk X d r l1) (h2 : RowOk X d R l2) : RowOk X d (rwCons r R) (ltCons l1 l2) where
  fn := fun H vs a b ⟨v, rest, e1, e2, e3⟩ ⟨u, rest2, f1, f2, f3⟩ => by
    rw [e1] at f1
    injection f1 with g1 g2
    subst g1 g2
    exact Prod.ext (h1.fn _ _ _ _ e2 f2) (h2.fn _ _ _ _ e3 f3)
  cmp := fun I A hu vs us its its2 a b ⟨v, rest, e1, e2, e3⟩ ⟨u, rest2, f1, f2, f3⟩ rv ru => by
    subst e1 f1
    cases rv with
    | cons q1 q2 =>
      cases ru with
      | cons p1 p2 =>
        refine cons_cmp (h1.eq I A hu _ _ _ _ _ _ e2 f2 q1 p1) (h1.lt I A hu _ _ _ _ _ _ e2 f2 q1 p1) (h2.cmp I A hu _ _ _ _ _ _ e3 f3 q2 p2) ?_ rfl
        exact ⟨fun z => by rw [z]; exact ⟨rfl, rfl⟩, fun ⟨z1, z2⟩ => Prod.ext z1 z2⟩
theorem row_star (h1 : CmpOk X d r l1) : RowOk X d (rwStar r) (ltStar l1) where
  fn := fun H vs a b e f => Fa.fn (h1.fn H) e f
  cmp := fun {pins s σ H} I A hu vs us its its2 a b e f rv ru => by
    have e' : Fa (r H) vs a := e
    clear e
    induction e' generalizing us its its2 b with
    | nil =>
      cases rv
      cases f with
      | nil =>
        cases ru
        exact ⟨fun _ => true, fun _ => false, fun j h1 => absurd h1 (Nat.not_lt_zero _), fun j h1 => absurd h1 (Nat.not_lt_zero _), rfl, rfl⟩
      | cons f1 f2 =>
        cases ru with
        | cons p1 p2 =>
          refine ⟨fun _ => true, fun _ => false, fun j h1 => absurd h1 (Nat.not_lt_zero _), fun j h1 => absurd h1 (Nat.not_lt_zero _), ?_, ?_⟩
          · rw [decide_eq_false (fun z => by cases z)]; rfl
          · rw [show min ([] : List Value).length (_ :: _ : List Value).length = 0 from Nat.zero_min _]
            show decide _ = true
            exact decide_eq_true (Nat.succ_pos _)
    | cons e1 e2 ih =>
      cases rv with
      | cons q1 q2 =>
        cases f with
        | nil =>
          cases ru
          refine ⟨fun _ => true, fun _ => false, fun j _ h1 => absurd h1 (Nat.not_lt_zero _), fun j _ h1 => absurd h1 (Nat.not_lt_zero _), ?_, ?_⟩
          · rw [decide_eq_false (fun z => by cases z)]
            rfl
          · rw [show min (_ :: _ : List Value).length ([] : List Value).length = 0 from Nat.min_zero _]
            show decide _ = false
            exact decide_eq_false (Nat.not_lt_zero _)
        | cons f1 f2 =>
          cases ru with
          | cons p1 p2 =>
            refine cons_cmp (h1.eq I A hu _ _ _ _ _ _ e1 f1 q1 p1) (h1.lt I A hu _ _ _ _ _ _ e1 f1 q1 p1) (ih _ _ _ _ f2 q2 p2) ?_ rfl
            exact ⟨fun z => by injection z with z1 z2; exact ⟨z1, z2⟩, fun ⟨z1, z2⟩ => by rw [z1, z2]⟩
def rpTup (R : Rw β) : Rp β := fun H v a => ∃ p vs, v = .ref p ∧ H p = some (.tup vs) ∧ R H vs a
theorem rc_tupR (h : RowOk X d R l2) {pins : List (Addr × Obj)} {s : Shared} {σ : L2.St} {H : Hp} (I : Inv X pins σ H s) {A : Around} (hu : A.units + (d + 1) < cLine) {p q : Addr} {vs us : List V} {a b : β} (hp : H p = some (.tup vs)) (hq : H q = some (.tup us)) (h1 : R H vs a) (h2 : R H us b) :
    SeqAt.RcAt A s (.ref p) (.ref q) (decide (a = b)) ∧ SeqAt.RcNeAt A s (.ref p) (.ref q) (!decide (a = b)) ∧ SeqAt.RcLtAt A s (.ref p) (.ref q) (l2 a b) := by
  obtain ⟨its, r1, p1, _⟩ := I.tuple (SqT.of (K := X.K) hp)
  obtain ⟨its2, r2, p2, _⟩ := I.tuple (SqT.of (K := X.K) hq)
  have hu1 : A.units < cLine := by omega
  have hu2 : A.in1.units + d < cLine := by show A.units + 1 + d < cLine; omega
  obtain ⟨e, l, k1, k2, k3, k4⟩ := h.cmp I A.in1 hu2 _ _ _ _ _ _ h1 h2 r1 r2
  have el : ∀ j (h1' : j < its.toArray.size) (h2' : j < its2.toArray.size), SeqAt.EqAt A.in1 s its.toArray[j] its2.toArray[j] (e j) := fun j j1 j2 => by
    have := k1 j (by simpa using j1) (by simpa using j2)
    simpa using this
  have ll : ∀ j (h1' : j < its.toArray.size) (h2' : j < its2.toArray.size), e j = false → SeqAt.RcLtAt A.in1 s its.toArray[j] its2.toArray[j] (l j) := fun j j1 j2 _ => by
    have := k2 j (by simpa using j1) (by simpa using j2)
    simpa using this
  rw [← k3, ← k4]
  exact ⟨SeqAt.RcAt.tuples p1 p2 hu1 el, SeqAt.RcNeAt.tuples p1 p2 hu1 el, SeqAt.RcLtAt.tuples p1 p2 hu1 el ll⟩
theorem cmp_tup (h : RowOk X d R l2) : CmpOk X (d + 1) (rpTup R) l2 where
  fn := fun H v a b ⟨p, vs, e1, e2, e3⟩ ⟨q, us, f1, f2, f3⟩ => by
    rw [e1] at f1
    injection f1 with f1
    subst f1
    rw [e2] at f2
    injection f2 with f2
    injection f2 with f2
    subst f2
    exact h.fn _ _ _ _ e3 f3
  eq := fun {pins s σ H} I A hu v u v' u' a b hv hk rv ru => by
    obtain ⟨p, vs, rfl, e2, e3⟩ := id hv
    obtain ⟨q, us, rfl, f2, f3⟩ := id hk
    cases rv
    cases ru
    by_cases z : p = q
    · subst z
      rw [e2] at f2
      injection f2 with f2
      injection f2 with f2
      subst f2
      rw [h.fn _ _ _ _ e3 f3, decide_eq_true rfl]
      exact SeqAt.EqAt.same _
    · exact SeqAt.EqAt.of_refs z (rc_tupR h I hu e2 f2 e3 f3).1
  lt := fun {pins s σ H} I A hu v u v' u' a b hv hk rv ru => by
    obtain ⟨p, vs, rfl, e2, e3⟩ := id hv
    obtain ⟨q, us, rfl, f2, f3⟩ := id hk
    cases rv
    cases ru
    exact (rc_tupR h I hu e2 f2 e3 f3).2.2
def rLtD (r : Rp β) (lt : β → β → Bool) : R2 := fun x y H Q => ∃ a b : β, r H x a ∧ r H y b ∧ Q (.bl (lt a b)) H
theorem op_ltT (h : RowOk X d R l2) (hu : X.A.units + (d + 1) < cLine) : OpR X (compareOp .Lt) (rLtD (rpTup R) l2) := by
  intro pins s σ H x y v u Q I rx ry hh
  obtain ⟨a, b, ⟨p, vs, rfl, e2, e3⟩, ⟨q, us, rfl, f2, f3⟩, k⟩ := hh
  cases rx
  cases ry
  exact (rc_tupR h I hu e2 f2 e3 f3).2.2 X.prog X.w _ _ ⟨.bl _, H, I, rfl, k⟩
theorem op_neR (h : RowOk X d R l2) (hu : X.A.units + (d + 1) < cLine) : OpR X (compareOp .NotEq) (rNeD (rpTup R)) := by
  intro pins s σ H x y v u Q I rx ry hh
  obtain ⟨a, b, ⟨p, vs, rfl, e2, e3⟩, ⟨q, us, rfl, f2, f3⟩, k⟩ := hh
  cases rx
  cases ry
  exact (rc_tupR h I hu e2 f2 e3 f3).2.1 X.prog X.w _ _ ⟨.bl _, H, I, rfl, k⟩
end
/-! ### a def with defaults, called with all its arguments -/
def ThE (K : PySem.W.Frag) (mg : Str → Option Value) (x : Str) (st : Stmt) (ps : List Str) : Prop := ∃ f fd, L3.FunD K x x st f fd ∧ mg x = some (.ref f) ∧ Binds K fd ps []
theorem thE_mk5 {K : PySem.W.Frag} {h : Heap} {mg : Str → Option Value} {x : Str} {st : Stmt} {f : Addr} {oc kV dc pm cd ct dV : Value} {od an : Option Addr} {sl : Array (Option Value)} {p1 p2 p3 p4 p5 : Str} (X : K.In h) (G : h.Ns mainGlobals mg)
    (a : PySem.W.nsIn K mainGlobals x = some (some (.ref f))) (l : K.lookup f = some ⟨oc, od, .func (Fn x x st dV kV dc pm an cd ct), sl⟩) (c : PySem.W.codeIn K cd x = true) (k : PySem.W.keepIn K (.ref f) = true)
    (b5 : ∀ (s : Shared) (u1 u2 u3 u4 u5 : Value), K.In s.heap → BindsTo s (Fn x x st dV kV dc pm an cd ct) ⟨[u1, u2, u3, u4, u5], []⟩ [(p1, u1), (p2, u2), (p3, u3), (p4, u4), (p5, u5)]) : ThE K mg x st [p1, p2, p3, p4, p5] :=
  ⟨f, _, ⟨⟨_, _, _, _, _, _, _, _, _, _, rfl, l, c⟩, k⟩, PySem.W.mg_of X G a, fun s us Xs hl => match us, hl with | [u1, u2, u3, u4, u5], _ => b5 s u1 u2 u3 u4 u5 Xs⟩
/-- a def that is never called -/
def spNever : Sp := fun _ _ _ _ => False
/-! ### plans and offers -/
abbrev planR : Rw (Int × List (List Int) × Unit) := rwCons rpI (rwCons (rpTup (rwStar (rpTup (rwStar rpI)))) rwNil)
abbrev planLt : Int × List (List Int) × Unit → Int × List (List Int) × Unit → Bool := ltCons ltI (ltCons (ltStar (ltStar ltI)) ltNil)
theorem row_plan {X : Cx} : RowOk X 2 planR planLt :=
  row_cons (cmp_int.up (by decide)) (row_cons (cmp_tup (row_star (cmp_tup (row_star cmp_int)))) row_nil)
abbrev offerR : Rw (Int × (Int × List (List Int) × Unit) × Unit) := rwCons rpI (rwCons (rpTup planR) rwNil)
abbrev offerLt : Int × (Int × List (List Int) × Unit) × Unit → Int × (Int × List (List Int) × Unit) × Unit → Bool := ltCons ltI (ltCons planLt ltNil)
theorem row_offer {X : Cx} : RowOk X 3 offerR offerLt :=
  row_cons (cmp_int.up (by decide)) (row_cons (cmp_tup row_plan) row_nil)
end L44


set_option maxRecDepth 100000
set_option linter.all false
set_option maxHeartbeats 1000000
set_option Elab.async false
namespace L23
open PySem PySem.Spec PySem.W PyProof.Rows L2 L3 X8 M01 L6 L5 QL L8 L9 L10 L13 L20 L21 L22
section
variable {prog : Program} {w : World} {A : Around} {E : Value → Shared → Prop} {s : Shared}
abbrev tupO (x y : Value) : Obj := { cls := .type "tuple", data := .seq #[x, y] }
end
end L23


set_option maxRecDepth 100000
set_option linter.all false
set_option maxHeartbeats 1000000
set_option Elab.async false
namespace L24
open PySem PySem.Spec PySem.W PyProof.Rows L2 L3 X8 M01 L6 L5 QL L8 L9 L10 L13 L20 L21 L22 L23
section
variable {prog : Program} {w : World} {A : Around} {E : Value → Shared → Prop} {s : Shared}
end
/-! ### dict(a list of pairs) -/
section
variable {prog : Program} {w : World} {A : Around} {E : Value → Shared → Prop} {κ : Type} [DecidableEq κ] {knd : KeyKind prog w κ} {R : Result → Shared → Prop}
inductive Prd (knd : KeyKind prog w κ) (h : Heap) : List Value → List (κ × Value) → Prop
  | nil : Prd knd h [] []
  | cons {a : Addr} {key x : Value} {k : κ} {vs : List Value} {ps : List (κ × Value)} : h.IsTuple a #[key, x] → knd.is k key = true → Prd knd h vs ps → Prd knd h (.ref a :: vs) ((k, x) :: ps)
theorem Prd.keep {h h' : Heap} (hk : ∀ a xs, h.IsTuple a xs → h'.IsTuple a xs) {vs : List Value} {ps : List (κ × Value)} (p : Prd knd h vs ps) : Prd knd h' vs ps := by
  induction p with
  | nil => exact .nil
  | cons t k _ ih => exact .cons (hk _ _ t) k ih
end
section
variable {X : Cx}
def mkD (ps : List (Int × Int)) : List (Key × V) := ps.foldl (fun m p => putK m (.inl p.1) (.int p.2)) []
def rDictL (K : PySem.W.Frag) : List V → Hp → VK → Prop := fun xs H Q => ∃ (l : Addr) (as : List Addr) (ps : List (Int × Int)), xs = [.ref l] ∧ H l = some (.lst (as.map V.ref)) ∧ Pis K H as ps ∧ ps.length ≤ 50000 ∧ ∀ d, H d = none → Q (.ref d) (upd H d (.dK (mkD ps)))
end
end L24


set_option maxRecDepth 100000
set_option linter.all false
set_option maxHeartbeats 1000000
set_option Elab.async false
namespace L25
open PySem PySem.Spec PySem.W PyProof.Rows L2 L3 X8 M01 L6 L5 QL L8 L9 L10 L13 L20 L21 L22 L23 L24
section
variable {X : Cx}
/-! ### sorted(d.items()), three entries -/
def itV (p v : Addr) : HO := .ext fun h => h.IsItemsView v p
def kv3 (k0 k1 k2 y0 y1 y2 : Int) : List (Key × V) := [(.inl k0, .int y0), (.inl k1, .int y1), (.inl k2, .int y2)]
end
end L25


set_option maxRecDepth 100000
set_option linter.all false
set_option maxHeartbeats 1000000
set_option Elab.async false
namespace L26
open PySem PySem.Spec PySem.W PyProof.Rows L2 L3 X8 M01 L6 L5 QL L8 L9 L10 L13 L20 L21 L22 L23 L24 L25
/-! ### list(zip(a, b)), a of none or one -/
section
variable {prog : Program} {w : World} {A : Around} {E : Value → Shared → Prop} {s : Shared} {R : Result → Shared → Prop}
end
section
variable {X : Cx}
theorem apart {N l1 l2 : Nat} (h1 : l1 < N) (h2 : l2 < N) : ZipApart (N + 4) (N + 2) (N + 3) N (N + 1) l1 l2 := by
  constructor <;> (exact fun y => absurd (show @Eq Nat _ _ from y) (by omega))
def tLZ (ta : TA) : TE := fun σ H Q => ta σ H fun vs H1 => ∃ (l1 l2 : Addr) (y : V) (ys : List V), vs = [.ref l1, .ref l2] ∧ H1 l2 = some (.lst (y :: ys)) ∧
  ((H1 l1 = some (.lst []) ∧ ∀ l, H1 l = none → Q (.ref l) (upd H1 l (.lst []))) ∨ (∃ x, H1 l1 = some (.lst [x]) ∧ ∀ (T l : Addr) (H' : Hp), Same H1 H' → H' l = some (.lst [.ref T]) → H' T = some (.tup [x, y]) → Q (.ref l) H'))
end
end L26


set_option maxRecDepth 100000
set_option linter.all false
set_option maxHeartbeats 1000000
set_option Elab.async false
namespace L27
open PySem PySem.Spec PySem.W PyProof.Rows L2 L3 X8 M01 L6 L5 QL L8 L9 L10 L13 L20 L21 L22 L23 L24 L25 L26
/-! ### reversed(a list) -/
def Irl (a : Addr) (xs : List V) : It := ⟨fun i H => H a = some (.lst xs) ∧ i < xs.length, fun i H v H' => H' = H ∧ xs.reverse[i]? = some v, fun i H => H a = some (.lst xs) ∧ xs.length ≤ i⟩
section
variable {X : Cx} {tg : Expr}
def iRevL (ta : TA) : TI := fun σ H R => ta σ H fun vs H1 => ∃ a xs, vs = [.ref a] ∧ H1 a = some (.lst xs) ∧ R (Irl a xs) H1
end
end L27


set_option maxRecDepth 100000
set_option linter.all false
set_option maxHeartbeats 1000000
set_option Elab.async false
namespace L28
open PySem PySem.Spec PySem.W PyProof.Rows L2 L3 X8 M01 L6 L5 QL L8 L9 L10 L13 L20 L21 L22 L23 L24 L25 L26 L27
section
variable {X : Cx}
theorem hu_d {A : Around} {k d : Nat} (hr : Room k A) (hd : d ≤ 64) : A.units + d < cLine := Nat.lt_of_le_of_lt (Nat.add_le_add_left hd _) hr.units
/-- sorted(a list of fewer than 64 ints) -/
theorem vals_of_ints : ∀ {us : List Value} {ns : List Int}, IntsAre us ns → Vals (ns.map V.int) us
  | _, _, .nil => .nil
  | _, _, .cons i t h => .cons ⟨t, rfl⟩ (vals_of_ints h)
theorem ints_of_vals : ∀ {ns : List Int} {us : List Value}, Vals (ns.map V.int) us → IntsAre us ns
  | [], _, h => by cases h; exact .nil
  | n :: r, us, h => by
    rw [List.map_cons] at h
    cases h with
    | cons h1 h2 =>
      obtain ⟨t, rfl⟩ := h1
      exact .cons n t (ints_of_vals h2)
theorem call_sortedN : CallR X (.builtin "sorted") (fun xs H Q => ∃ (l : Addr) (ns : List Int), xs = [.ref l] ∧ H l = some (.lst (ns.map V.int)) ∧ ns.length < 64 ∧ ∀ (l' : Addr) (ns' : List Int), H l' = none → ns'.Perm ns → ns'.Pairwise (· ≤ ·) → Q (.ref l') (upd H l' (.lst (ns'.map V.int)))) := by
  intro pins s σ H xs us Q I r h
  obtain ⟨l, ns, rfl, hl, hn, q⟩ := h
  obtain ⟨u, rfl, ru⟩ := vals1 r
  cases ru
  obtain ⟨its, n, rv, ho, _⟩ := I.lst hl
  have ln := rv.length
  rw [List.length_map] at ln
  refine sorted_ints (vs := its) (ns := ns) ⟨_, ho, rfl, n, rfl⟩ (ints_of_vals rv) (by omega) fun out ns' h1 h2 h3 => ?_
  obtain ⟨e, he⟩ := sortedAll_at s.heap its out
  have b0 : s.heap.objs.size ≤ s.heap.objs.size + 1 := Nat.le_succ _
  have hl2 : (ns'.map V.int).length ≤ sizeLine := by rw [List.length_map, h2.length_eq, sizeLine_eq]; omega
  refine ⟨.ref (s.heap.objs.size + 1), _, I.laid (a := s.heap.objs.size + 1) (o := .lst (ns'.map V.int)) (t' := s.toks) (fun b o x => sortedAll_old x) b0 ⟨hl2, out.toList, e, vals_of_ints h1, ?_⟩, rfl, q _ ns' (I.hok.fresh b0) h2 h3⟩
  rw [Array.toArray_toList]
  exact he
end
end L28


set_option maxRecDepth 100000
set_option linter.all false
set_option maxHeartbeats 1000000
set_option Elab.async false
namespace L29
open PySem
/-! ### the table of a set: its places rise, it has no dummies -/
structure Tab (b : Bool) (t : SetTable) : Prop where
  dum : t.dummies = #[]
  rise : t.place.toList.Pairwise (· < ·)
  led : t.led = b
theorem below_go {xs : Array Nat} {j : Nat} (hp : xs.toList.Pairwise (· < ·)) : ∀ (fuel lo hi : Nat), lo ≤ hi → hi ≤ xs.size → hi - lo ≤ fuel → (∀ (i : Nat) (h : i < xs.size), i < lo → xs[i] < j) → (∀ (i : Nat) (h : i < xs.size), hi ≤ i → j ≤ xs[i]) →
    SetTable.below.go xs j fuel lo hi ≤ xs.size ∧ (∀ (i : Nat) (h : i < xs.size), i < SetTable.below.go xs j fuel lo hi → xs[i] < j) ∧ (∀ (i : Nat) (h : i < xs.size), SetTable.below.go xs j fuel lo hi ≤ i → j ≤ xs[i]) := by
  have mono : ∀ {a b : Nat} (ha : a < xs.size) (hb : b < xs.size), a < b → xs[a] < xs[b] := fun {a b} ha hb h => by
    have := List.pairwise_iff_getElem.mp hp a b (by simpa using ha) (by simpa using hb) h
    simpa using this
  intro fuel
  induction fuel with
  | zero =>
    intro lo hi h1 h2 h3 h4 h5
    have e : lo = hi := by omega
    subst e
    unfold SetTable.below.go
    exact ⟨h2, h4, h5⟩
  | succ n ih =>
    intro lo hi h1 h2 h3 h4 h5
    unfold SetTable.below.go
    by_cases c : lo < hi
    · rw [if_pos c]
      have hm : (lo + hi) / 2 < xs.size := by omega
      have hg : xs.getD ((lo + hi) / 2) j = xs[(lo + hi) / 2] := by simp [Array.getD, hm]
      dsimp only
      rw [hg]
      by_cases c2 : xs[(lo + hi) / 2] < j
      · rw [if_pos c2]
        refine ih _ _ (by omega) h2 (by omega) (fun i h hi' => ?_) h5
        by_cases e : i = (lo + hi) / 2
        · subst e; exact c2
        · exact Nat.lt_trans (mono h hm (by omega)) c2
      · rw [if_neg c2]
        refine ih _ _ (by omega) (by omega) (by omega) h4 (fun i h hi' => ?_)
        by_cases e : i = (lo + hi) / 2
        · subst e; omega
        · have := mono hm h (by omega)
          omega
    · rw [if_neg c]
      have e : lo = hi := by omega
      subst e
      exact ⟨h2, h4, h5⟩
theorem below_ok {xs : Array Nat} (hp : xs.toList.Pairwise (· < ·)) (j : Nat) : SetTable.below xs j ≤ xs.size ∧ (∀ (i : Nat) (h : i < xs.size), i < SetTable.below xs j → xs[i] < j) ∧ (∀ (i : Nat) (h : i < xs.size), SetTable.below xs j ≤ i → j ≤ xs[i]) := by
  unfold SetTable.below
  exact below_go hp _ _ _ (Nat.zero_le _) (Nat.le_refl _) (by omega) (fun i _ h => absurd h (by omega)) (fun i h k => absurd k (by omega))
theorem insertAt_list {α : Type} (xs : Array α) (p : Nat) (x : α) : (SetTable.insertAt xs p x).toList = xs.toList.take p ++ x :: xs.toList.drop p := by
  unfold SetTable.insertAt
  simp [Array.toList_extract, List.extract_eq_take_drop]
  exact List.take_of_length_le (by simp)
theorem insert_rise {xs : Array Nat} (hp : xs.toList.Pairwise (· < ·)) {j : Nat} (hj : xs[SetTable.below xs j]? ≠ some j) : (SetTable.insertAt xs (SetTable.below xs j) j).toList.Pairwise (· < ·) := by
  obtain ⟨h1, h2, h3⟩ := below_ok hp j
  rw [insertAt_list]
  have up : ∀ (i : Nat) (h : i < xs.size), SetTable.below xs j ≤ i → j < xs[i] := fun i h k => by
    have a := h3 i h k
    by_cases e : i = SetTable.below xs j
    · subst e
      have : xs[SetTable.below xs j] ≠ j := fun z => hj (by rw [Array.getElem?_eq_getElem h, z])
      omega
    · have hb : SetTable.below xs j < xs.size := by omega
      have b := h3 _ hb (Nat.le_refl _)
      have c := List.pairwise_iff_getElem.mp hp (SetTable.below xs j) i (by simpa using hb) (by simpa using h) (by omega)
      simp at c
      omega
  refine List.pairwise_append.mpr ⟨hp.sublist (List.take_sublist _ _), List.pairwise_cons.mpr ⟨fun y hy => ?_, hp.sublist (List.drop_sublist _ _)⟩, fun a ha b hb => ?_⟩
  · obtain ⟨i, hi, rfl⟩ := List.getElem_of_mem hy
    rw [List.getElem_drop]
    rw [List.length_drop] at hi
    have := up (SetTable.below xs j + i) (by simpa using (by omega : SetTable.below xs j + i < xs.toList.length)) (by omega)
    simpa using this
  · have la : a < j := by
      obtain ⟨i, hi, rfl⟩ := List.getElem_of_mem ha
      rw [List.length_take] at hi
      rw [List.getElem_take]
      have := h2 i (by simpa using (by omega : i < xs.toList.length)) (by omega)
      simpa using this
    rcases List.mem_cons.mp hb with rfl | hb
    · exact la
    · obtain ⟨i, hi, rfl⟩ := List.getElem_of_mem hb
      rw [List.getElem_drop]
      rw [List.length_drop] at hi
      have := up (SetTable.below xs j + i) (by simpa using (by omega : SetTable.below xs j + i < xs.toList.length)) (by omega)
      have t : xs.toList[SetTable.below xs j + i] = xs[SetTable.below xs j + i]'(by simpa using (by omega : SetTable.below xs j + i < xs.toList.length)) := by simp
      rw [t]
      omega
theorem has_nil (j : Nat) : SetTable.has #[] j = false := by
  unfold SetTable.has
  simp
theorem probe_free {t : SetTable} (hd : t.dummies = #[]) {f : Nat → Int} {h : Int} : ∀ (fuel : Nat) (p : SetTable.Probe), p.dummy = none → ∀ {j : Nat} {d : Option Nat}, SetTable.probe.go t f h fuel p = some (.empty j d) → d = none ∧ t.place[SetTable.below t.place j]? ≠ some j
  | 0, p, _, j, d, e => by
    unfold SetTable.probe.go at e
    cases e
  | fuel + 1, p, hp, j, d, e => by
    unfold SetTable.probe.go at e
    have adv : (t.advance p).dummy = none := by
      unfold SetTable.advance
      split
      · exact hp
      · exact hp
    cases hs : t.slot p.j with
    | empty =>
      rw [hs] at e
      cases e
      refine ⟨hp, fun z => ?_⟩
      unfold SetTable.slot at hs
      dsimp only at hs
      rw [z] at hs
      simp at hs
    | dummy =>
      exfalso
      unfold SetTable.slot at hs
      dsimp only at hs
      rw [hd, has_nil] at hs
      split at hs <;> simp at hs
    | live i =>
      rw [hs] at e
      dsimp only at e
      split at e
      · cases e
      · exact probe_free hd fuel _ adv e
theorem freeSlot_ok {t : SetTable} (hd : t.dummies = #[]) {h : Int} {j : Nat} {b : Bool} (e : t.freeSlot h = some (j, b)) : t.place[SetTable.below t.place j]? ≠ some j := by
  unfold SetTable.freeSlot SetTable.probe at e
  split at e
  · rename_i j' d heq
    obtain ⟨rfl, k⟩ := probe_free hd _ _ rfl heq
    cases e
    exact k
  · cases e
theorem range_rise (n : Nat) : (Array.range n).toList.Pairwise (· < ·) := by
  rw [Array.toList_range]
  exact List.pairwise_lt_range
theorem standIn_tab {b : Bool} {t : SetTable} (h : Tab b t) (n : Nat) : Tab b (t.standIn n) := ⟨rfl, range_rise n, h.led⟩
theorem put_tab {b : Bool} {t : SetTable} (h : Tab b t) {j : Nat} (hj : t.place[SetTable.below t.place j]? ≠ some j) : Tab b (t.put j).1 := by
  refine ⟨?_, insert_rise h.rise hj, h.led⟩
  show (if SetTable.has t.dummies j then _ else t.dummies) = #[]
  rw [h.dum, has_nil]
  rfl
theorem layNew_tab {b : Bool} {t : SetTable} (h : Tab b t) (es : Array (Int × Value)) (k : Int) (x : Value) : Tab b (layNew t es k x).2.1 := by
  unfold layNew
  split
  · rename_i slot wasDummy heq
    have p := put_tab h (freeSlot_ok h.dum heq)
    dsimp only
    unfold SetTable.orStandIn
    split
    · exact p
    · exact standIn_tab p _
  · exact standIn_tab h _
theorem fm_rise {α : Type} (f : Nat → Option α) : ∀ (l : List Nat), l.Pairwise (· < ·) → ((l.filterMap fun j => (f j).map (j, ·)).map (·.1)).Pairwise (· < ·)
  | [], _ => .nil
  | j :: r, h => by
    obtain ⟨h1, h2⟩ := List.pairwise_cons.mp h
    have ih := fm_rise f r h2
    rw [List.filterMap_cons]
    cases e : (f j).map (j, ·) with
    | none => exact ih
    | some y =>
      have ey : y.1 = j := by
        cases hf : f j with
        | none => rw [hf] at e; cases e
        | some z => rw [hf] at e; cases e; rfl
      refine List.pairwise_cons.mpr ⟨fun z hz => ?_, ih⟩
      obtain ⟨q, hq, rfl⟩ := List.mem_map.mp hz
      obtain ⟨i, hi, e2⟩ := List.mem_filterMap.mp hq
      have eq : q.1 = i := by
        cases hf : f i with
        | none => rw [hf] at e2; cases e2
        | some z => rw [hf] at e2; cases e2; rfl
      show y.1 < q.1
      rw [ey, eq]
      exact h1 i hi
theorem laid_tab {mask finger moves : Nat} {led plain : Bool} {hs : Array Int} {t' : SetTable} {o : Array Nat} (e : SetTable.laid mask finger moves led plain hs = some (t', o)) : Tab led t' := by
  unfold SetTable.laid at e
  cases ho : SetTable.layClean mask hs with
  | none => rw [ho] at e; cases e
  | some owner =>
    rw [ho] at e
    cases e
    exact ⟨rfl, fm_rise _ _ List.pairwise_lt_range, rfl⟩
theorem relayAll_tab {b : Bool} {t : SetTable} (h : Tab b t) (es : Array (Int × Value)) (n : Nat) : Tab b (relayAll t es n).2.1 := by
  unfold relayAll
  split
  · rename_i t' order heq
    unfold SetTable.relaid at heq
    have k := laid_tab heq
    rw [h.led] at k
    dsimp only
    split
    · exact k
    · exact standIn_tab h _
  · exact standIn_tab h _
end L29


set_option maxRecDepth 100000
set_option linter.all false
set_option maxHeartbeats 1000000
set_option Elab.async false
namespace L30
open PySem PySem.Spec PyProof.Rows L29
section
variable {prog : Program} {w : World} {A : Around} {E : Value → Shared → Prop} {s : Shared}
/-- the number that stands in an element -/
def num (e : Int × Value) : Int := match e.2 with | .int k _ => k | _ => 0
/-- a set of these numbers, each once -/
def SetP (prog : Program) (w : World) (b : Bool) (h : Heap) (a : Addr) (ns : List Int) : Prop :=
  ∃ o es ep t, h.get? a = some o ∧ o.ExactSet ∧ o.data = .set es ep t ∧ ElemsOf (intKind prog w) es.toList ∧ (es.toList.map num).Perm ns ∧ es.size < scanBound ∧ t.fits es.size = true ∧ Tab b t
theorem num_of {e : Int × Value} {k : Int} (h : (intKind prog w).is k e.2 = true) : num e = k := by
  obtain ⟨t, ht⟩ := Value.isInt_shape (show Value.isInt k e.2 = true from h)
  unfold num
  rw [ht]
theorem is_num {l : List (Int × Value)} (hel : ElemsOf (intKind prog w) l) {e : Int × Value} (he : e ∈ l) : (intKind prog w).is (num e) e.2 = true := by
  obtain ⟨⟨k, hk, _⟩, _⟩ := hel e he
  rw [num_of hk]
  exact hk
theorem store_p {b : Bool} {a : Addr} {o : Obj} {es es' : Array (Int × Value)} {ep : Nat} {t t' : SetTable} {ns : List Int} {h : Heap} (ho : h.get? a = some o) (hex : o.ExactSet) (hd : o.data = .set es ep t)
    (h1 : ElemsOf (intKind prog w) es'.toList) (h2 : (es'.toList.map num).Perm ns) (h3 : es'.size < scanBound) (h4 : t'.fits es'.size = true) (h5 : Tab b t') :
    (h.update a (Obj.putSet es' t')).get? a = some { o with data := .set es' (ep + 1) t' } ∧ SetP prog w b (h.update a (Obj.putSet es' t')) a ns := by
  have hg : (h.update a (Obj.putSet es' t')).get? a = some { o with data := .set es' (ep + 1) t' } := by
    have z := Heap.get?_update_self (Obj.putSet es' t') ho (by rw [putSet_of es' t' hd]; rfl)
    rw [putSet_of es' t' hd] at z
    exact z
  exact ⟨hg, _, es', ep + 1, t', hg, hex, rfl, h1, h2, h3, h4, h5⟩
theorem add_p {b : Bool} {a : Addr} {ns : List Int} {k : Int} {tk : Tok} {Q : Bool → Shared → Prop} (hS : SetP prog w b s.heap a ns) (hroom : ns.length + 1 < scanBound)
    (h : ∀ r h', Heap.SameBut a s.heap h' → SetP prog w b h' a (step_dedup ns k) → Q r { s with heap := h' }) :
    wpAny (model prog w) A (setAddHashed a (.int k tk) ((intKind prog w).hash k)) Q E s := by
  obtain ⟨o, es, ep, t, ho, hex, hd, hel, hpm, hb, hf, ht⟩ := hS
  have hkey : (intKind prog w).is k (.int k tk) = true := intKind_is _ _ _ _
  have hlen : es.size = ns.length := by
    have z := hpm.length_eq
    rw [List.length_map, Array.length_toList] at z
    exact z
  unfold setAddHashed setAddHashedIn
  refine wpAny_holding (wpAny_bind (wpAny_setState_of ho hd hf ?_))
  dsimp only
  rw [byScan_of (x := .int k tk) rfl hb hel]
  simp only [↓reduceIte]
  unfold setAddByScan
  refine wpAny_bind (wpAny_bind (wpAny_rule (wpAny_bind (wpAny_setScan_of hkey ho hd hf hel ?_))))
  cases hr : es.toList.findIdx? (fun e => (intKind prog w).is k e.2) with
  | some j =>
    dsimp only
    obtain ⟨hj, hpj, _⟩ := List.findIdx?_eq_some_iff_getElem.mp hr
    have hin : ns.any (· == k) = true := by
      refine List.any_eq_true.mpr ⟨k, hpm.mem_iff.mp (List.mem_map.mpr ⟨_, List.getElem_mem hj, num_of hpj⟩), ?_⟩
      exact beq_self_eq_true k
    refine wpAny_pure (wpAny_pure ?_)
    have z := h false s.heap (Heap.SameBut.refl a s.heap) (by
      unfold step_dedup
      rw [if_pos hin]
      exact ⟨o, es, ep, t, ho, hex, hd, hel, hpm, hb, hf, ht⟩)
    exact z
  | none =>
    dsimp only
    have hout : ¬ ns.any (· == k) = true := fun z => by
      obtain ⟨k', hk', e⟩ := List.any_eq_true.mp z
      have e' : k' = k := eq_of_beq e
      subst e'
      obtain ⟨x, hx, ex⟩ := List.mem_map.mp (hpm.mem_iff.mpr hk')
      have i := is_num hel hx
      rw [ex] at i
      have n := List.findIdx?_eq_none_iff.mp hr x hx
      rw [i] at n
      cases n
    have sd : step_dedup ns k = ns ++ [k] := by unfold step_dedup; rw [if_neg hout]
    rw [sd] at h
    have p1 := layNew_perm t es ((intKind prog w).hash k) (.int k tk)
    have f1 := layNew_fits t es ((intKind prog w).hash k) (.int k tk)
    have t1 := layNew_tab ht es ((intKind prog w).hash k) (.int k tk)
    generalize layNew t es ((intKind prog w).hash k) (.int k tk) = L at p1 f1 t1 ⊢
    obtain ⟨es1, tb1, wd, gv⟩ := L
    dsimp only at p1 f1 t1 ⊢
    rw [Array.toList_push] at p1
    have hel1 : ElemsOf (intKind prog w) es1.toList := (hel.push hkey rfl).perm p1
    have hpm1 : (es1.toList.map num).Perm (ns ++ [k]) := (p1.map num).trans (by
      rw [List.map_append]
      exact hpm.append (List.Perm.refl _))
    have hsz : es1.size = ns.length + 1 := by
      have z := hpm1.length_eq
      rw [List.length_map, Array.length_toList, List.length_append] at z
      exact z
    have hb1 : es1.size < scanBound := by omega
    have gw : ∀ (g : Bool) {s₁ : Shared} {Q' : Unit → Shared → Prop}, Q' () s₁ → wpAny (model prog w) A (match g with | true => rule "set.scan.the-table-gave-way" | false => pure ()) Q' E s₁ :=
      fun g s₁ Q' hq => by cases g <;> first | exact wpAny_pure hq | exact wpAny_rule hq
    refine wpAny_bind (gw _ ?_)
    have hv : hashByValue 8 (.int k tk) = pure true := hashByValue_scannable 8 (x := .int k tk) rfl
    split
    · refine wpAny_bind ?_
      rw [hv]
      refine wpAny_pure ?_
      simp only [↓reduceIte]
      refine wpAny_bind (wpAny_storeSet_of ho hd ?_ (fits_of_scanBound hb1))
      obtain ⟨ho1, P1⟩ := store_p (prog := prog) (w := w) (b := b) (ns := ns ++ [k]) ho hex hd hel1 hpm1 hb1 f1 t1
      have sb1 := Heap.SameBut.update s.heap a (Obj.putSet es1 tb1)
      split
      · have p2 := relayAll_perm tb1 es1 (SetTable.grown es1.size)
        have f2 := relayAll_fits tb1 es1 (SetTable.grown es1.size)
        have t2 := relayAll_tab t1 es1 (SetTable.grown es1.size)
        generalize relayAll tb1 es1 (SetTable.grown es1.size) = L2 at p2 f2 t2 ⊢
        obtain ⟨es2, tb2, gv2⟩ := L2
        dsimp only at p2 f2 t2 ⊢
        have hsz2 : es2.size = es1.size := by
          have z := p2.length_eq
          rw [Array.length_toList, Array.length_toList] at z
          exact z
        have hb2 : es2.size < scanBound := by omega
        refine wpAny_bind (gw _ ?_)
        refine wpAny_bind (wpAny_storeSet_of ho1 rfl ?_ (fits_of_scanBound hb2))
        obtain ⟨_, P2⟩ := store_p (prog := prog) (w := w) (b := b) (ns := ns ++ [k]) ho1 hex rfl (hel1.perm p2) ((p2.map num).trans hpm1) hb2 f2 t2
        exact wpAny_pure (wpAny_pure (h true _ (sb1.trans (Heap.SameBut.update _ a _)) P2))
      · exact wpAny_pure (wpAny_pure (h true _ sb1 P1))
    · refine wpAny_bind (wpAny_pure ?_)
      simp only [↓reduceIte]
      refine wpAny_bind (wpAny_storeSet_of ho hd ?_ (fits_of_scanBound hb1))
      obtain ⟨ho1, P1⟩ := store_p (prog := prog) (w := w) (b := b) (ns := ns ++ [k]) ho hex hd hel1 hpm1 hb1 f1 t1
      have sb1 := Heap.SameBut.update s.heap a (Obj.putSet es1 tb1)
      split
      · have p2 := relayAll_perm tb1 es1 (SetTable.grown es1.size)
        have f2 := relayAll_fits tb1 es1 (SetTable.grown es1.size)
        have t2 := relayAll_tab t1 es1 (SetTable.grown es1.size)
        generalize relayAll tb1 es1 (SetTable.grown es1.size) = L2 at p2 f2 t2 ⊢
        obtain ⟨es2, tb2, gv2⟩ := L2
        dsimp only at p2 f2 t2 ⊢
        have hsz2 : es2.size = es1.size := by
          have z := p2.length_eq
          rw [Array.length_toList, Array.length_toList] at z
          exact z
        have hb2 : es2.size < scanBound := by omega
        refine wpAny_bind (gw _ ?_)
        refine wpAny_bind (wpAny_storeSet_of ho1 rfl ?_ (fits_of_scanBound hb2))
        obtain ⟨_, P2⟩ := store_p (prog := prog) (w := w) (b := b) (ns := ns ++ [k]) ho1 hex rfl (hel1.perm p2) ((p2.map num).trans hpm1) hb2 f2 t2
        exact wpAny_pure (wpAny_pure (h true _ (sb1.trans (Heap.SameBut.update _ a _)) P2))
      · exact wpAny_pure (wpAny_pure (h true _ sb1 P1))
end
end L30


set_option maxRecDepth 100000
set_option linter.all false
set_option maxHeartbeats 3200000
set_option Elab.async false
namespace L31
open PySem PySem.Spec PyProof.Rows L29 L30
/-- whether sets are led in this world -/
def ledB (w : World) : Bool := !w.params.followText "set-order"
section
variable {prog : Program} {w : World} {A : Around} {E : Value → Shared → Prop} {s : Shared}
theorem fresh_tab (b : Bool) : Tab b (.fresh 0 0 b) := ⟨rfl, .nil, rfl⟩
abbrev set0 (w : World) : Obj := { cls := .type "set", dict := none, data := .set #[] 0 (.fresh 0 0 (ledB w)) }
theorem new_p (a : Value) {Q₁ : Value → Shared → Prop} (h : Q₁ (.ref s.heap.objs.size) { s with heap := s.heap.push (set0 w) }) :
    codeAny (model prog w) A (.call (.builtin "set.__new__") ⟨[.type "set", a], []⟩) (wants Q₁ E) s := by
  refine codeAny_of_tree ?_
  show wpAny _ A.in1 (do checkBuiltinCall "set.__new__" ⟨[.type "set", a], []⟩; again (.builtin "set.__new__" ⟨[.type "set", a], []⟩)) _ _ s
  refine wpAny_bind (wpAny_of_eq (F.newCall_set_1 a) (wpAny_pure ⟨plainId_quiet F.plain_set_new _, codeAny_builtin F.entry_set_new ?_⟩))
  rw [Around.under_plainId F.plain_set_new _]
  unfold Builtin.«set.__new__» Builtin.Frozenset.newClass
  have sub := sub_set_self
  obtain ⟨hp, g, d, tk, os⟩ := s
  dsimp only
  wp_walk
  refine wpAny_askSetting (wpAny_pure ?_)
  dsimp only
  simp only [newObj]
  exact wpAny_bind (wpAny_alloc (wpAny_pure (wpAny_pure h)))
end
section
variable {prog : Program} {w : World} {A : Around} {R : Result → Shared → Prop} {I : Addr} {fp wr : List Addr} {G : Array GenState → Array GenState → Prop} {n : Nat} {P : Nat → Value → Prop} {St : Nat → Shared → Prop}
/-- set.update.loop over what is walked -/
theorem upd_p {b : Bool} (W : WalksS prog w A.in1 I fp wr G n P St) {S : Addr} (hSf : S ∉ fp) {val : Nat → Int} (hval : ∀ i v, P i v → ∃ t, v = .int (val i) t) (hb : n + 1 < scanBound) :
    ∀ (k i : Nat) (s : Shared), n - i = k → i ≤ n → St i s → SetP prog w b s.heap S (firstMet val i) →
      (∀ s', Moved (S :: wr) G s s' → SetP prog w b s'.heap S (firstMet val n) → R (.ok (.ret .none)) s') →
      codeAny (model prog w) A (.builtin "set.update.loop" ⟨[.ref S, .ref I], []⟩) R s := by
  have nw : S ∉ wr := fun h => hSf (W.sub _ h)
  have sub : ∀ c ∈ wr, c ∈ S :: wr := fun c hc => List.mem_cons_of_mem _ hc
  have keep : ∀ {h h' : Heap} {ns : List Int}, (∀ o, h.get? S = some o → h'.get? S = some o) → SetP prog w b h S ns → SetP prog w b h' S ns := fun k ⟨o, es, ep, t, ho, r⟩ => ⟨o, es, ep, t, k o ho, r⟩
  intro k
  induction k with
  | zero =>
    intro i s hk hi st hS hR
    obtain rfl : i = n := by omega
    refine codeAny_builtin F.entry_set_update_loop ?_
    rw [Around.under_plainId F.plain_set_update_loop _]
    show wpAny _ A.in1 (pyNext (.ref I) >>= _) _ _ s
    refine wpAny_bind (W.done s _ _ st fun s' hm => ?_)
    exact wpAny_pure (hR s' (hm.mono sub) (keep (fun o e => hm.heap S o nw e) hS))
  | succ k ih =>
    intro i s hk hi st hS hR
    have lt : i < n := by omega
    refine codeAny_builtin F.entry_set_update_loop ?_
    rw [Around.under_plainId F.plain_set_update_loop _]
    show wpAny _ A.in1 (pyNext (.ref I) >>= _) _ _ s
    refine wpAny_bind (W.item i s _ _ lt st fun v s' hP st' hm => ?_)
    obtain ⟨t, rfl⟩ := hval i v hP
    have hS1 := keep (fun o e => hm.heap S o nw e) hS
    show wpAny _ A.in1 (holding [Value.int (val i) t] (setAdd S (.int (val i) t)) >>= _) _ _ s'
    refine wpAny_bind (wpAny_holding ?_)
    unfold setAdd
    refine wpAny_holding (wpAny_bind ((intKind prog w).pyHash (k := val i) (intKind_is _ _ _ _) ?_))
    refine add_p (s := { s' with toks := s'.toks + 1 }) hS1 (by have := firstMet_length_le val i; omega) fun r h' sb P2 => ?_
    rw [← firstMet_succ] at P2
    refine wpAny_pure ⟨plainId_quiet F.plain_set_update_loop _, ih (i + 1) _ (by omega) lt (W.frame _ s' _ _ st' (Nat.le_succ _) fun c hc o e => ?_) P2 fun s2 hm2 P3 => ?_⟩
    · rw [sb.2 c (fun z => hSf (z ▸ hc))]; exact e
    · refine hR s2 (Moved.trans W.gtrans ((hm.mono sub).then_heap (Nat.le_succ _) fun c o hc e => ?_) hm2) P3
      rw [sb.2 c (fun z => hc (z ▸ List.mem_cons_self))]; exact e
end
end L31


set_option maxRecDepth 100000
set_option linter.all false
set_option maxHeartbeats 3200000
set_option Elab.async false
namespace L32
open PySem PySem.Spec PyProof.Rows L29 L30 L31
section
variable {prog : Program} {w : World} {A : Around} {E : Value → Shared → Prop} {s : Shared}
theorem SetP.push {b : Bool} {h : Heap} {a : Addr} {ns : List Int} {o : Obj} (k : SetP prog w b h a ns) : SetP prog w b (h.push o) a ns := by
  obtain ⟨o1, es, ep, t, ho, r⟩ := k
  exact ⟨o1, es, ep, t, Heap.get?_push_of_some _ ho, r⟩
theorem zero_p {h : Heap} {a : Addr} (hg : h.get? a = some (set0 w)) : SetP prog w (ledB w) h a [] :=
  ⟨_, #[], 0, _, hg, ⟨rfl, rfl, rfl⟩, rfl, fun e he => by simp at he, .refl _, by decide, rfl, fresh_tab _⟩
/-- set(a list of ints) -/
theorem call_set_p {l : Addr} {items : Array Value} {ns : List Int} {Q : Value → Shared → Prop} (hh : A.handled = none) (hl : s.heap.IsList l items) (hi : IntsAre items.toList ns) (hb : items.size + 1 < scanBound)
    (h : ∀ (h' : Heap) (tk : Nat), SetP prog w (ledB w) h' s.heap.objs.size (firstMet (fun i => ns.getD i 0) items.size) → (∀ c o, s.heap.get? c = some o → h'.get? c = some o) → Q (.ref s.heap.objs.size) { s with heap := h', toks := tk }) :
    wpAny (model prog w) A (call (.type "set") [.ref l]) Q E s := by
  obtain ⟨c, tl, hmro⟩ := F.called_set.mro
  have hmade := F.called_set.made
  have hsub := F.called_set.sub
  refine wpAny_call (codeAny_of_tree ?_)
  show wpAny _ _ (callAny (.type "set") _) _ _ _
  refine wpAny_pure ⟨Code.quiet_builtin _ (by decide +kernel), codeAny_builtin F.entry_type_call ?_⟩
  rw [Around.under_plain (weight_type_call_type "set" [.ref l] []) rfl]
  have h1 := F.called_set.notType
  have h2 := F.called_set.canCreate
  have hct := F.typeCall_set_1 (.ref l)
  repeat (any_goals (first | assumption | wp_step))
  refine codeAny_mono (new_p (.ref l) (E := E) (Q₁ := fun obj s₁ => obj = .ref s.heap.objs.size ∧ s₁ = { s with heap := s.heap.push (set0 w) }) ⟨rfl, rfl⟩) fun r s₁ hr => ?_
  cases r with
  | error e => exact hr
  | ok fl =>
    cases fl with
    | ret obj =>
      obtain ⟨rfl, rfl⟩ := hr
      have hS : (s.heap.push (set0 w)).get? s.heap.objs.size = some (set0 w) := Heap.get?_push_size _ rfl
      have hT : Shared.TypeIs { s with heap := s.heap.push (set0 w) } (.ref s.heap.objs.size) "set" := ⟨_, hS, rfl⟩
      have hli := F.called_set.init.lookup
      have hbi := F.called_set.init.bind (.ref s.heap.objs.size)
      repeat (any_goals (first | assumption | wp_step))
      refine codeAny_mono (codeAny_call_builtin (R := wants (fun r s₂ => r = .none ∧ ∃ h' tk, s₂ = { s with heap := h', toks := tk } ∧ SetP prog w (ledB w) h' s.heap.objs.size (firstMet (fun i => ns.getD i 0) items.size) ∧
          (∀ c o, s.heap.get? c = some o → h'.get? c = some o)) E) F.called_set.init.plain F.entry_set_init (check_set_init_1 hT ?_)) fun r₂ s₂ hr₂ => ?_
      · obtain ⟨ol, hol, hcl, nl, hdl⟩ := hl
        obtain ⟨ocls, odict, odata, oslots⟩ := ol
        simp only at hcl hdl
        subst hcl
        subst hdl
        have hol' : (s.heap.push (set0 w)).get? l = some { cls := .type "list", dict := odict, data := .seq items nl, slots := oslots } := Heap.get?_push_of_some _ hol
        have k1 := F.sub_list_set
        have k2 := F.sub_list_frozenset
        have k3 : (Value.type "list" == Value.type "dict") = false := by decide
        have hl1 : (s.heap.push (set0 w)).IsList l items := ⟨_, hol', rfl, nl, rfl⟩
        unfold Builtin.«set.__init__» noKeywords Builtin.Frozenset.updateFrom
        generalize hPI : pyIter = PI
        wp_walk
        subst hPI
        refine wpAny_pyIter_list hl1 ?_
        refine wpAny_bind (wpAny_runValue ?_)
        have lS : l < s.heap.objs.size := Heap.lt_size hol
        have hh3 : A.in1.in1.in1.handled = none := by simp [hh]
        have sz : (s.heap.push (set0 w)).objs.size = s.heap.objs.size + 1 := Heap.size_push _ _
        have nI : l ≠ (s.heap.push (set0 w)).objs.size := by rw [sz]; exact Nat.ne_of_lt (Nat.lt_succ_of_lt lS)
        have nS : s.heap.objs.size ∉ [(s.heap.push (set0 w)).objs.size, l] := by
          rw [sz]
          simp only [List.mem_cons, List.mem_singleton, List.not_mem_nil, or_false, not_or]
          exact ⟨Nat.ne_of_lt (Nat.lt_succ_self _), Nat.ne_of_gt lS⟩
        refine upd_p (b := ledB w) (val := fun i => ns.getD i 0) ((Walks.list hh3 _ l nI items).toS) nS (fun i v hv => IntsAre.int_at hi i v (by rw [Array.getElem?_toList]; exact hv)) hb (items.size - 0) 0 _ (by omega) (Nat.zero_le _)
          ⟨⟨_, Heap.get?_push_size _ rfl, rfl, rfl⟩, (hl1.push _)⟩ (SetP.push (zero_p hS)) fun s' hm P1 => ?_
        obtain ⟨h', g', d', tk', os'⟩ := s'
        have eg : g' = s.gens := hm.gens
        have ed : d' = s.drawn := hm.drawn
        have eo : os' = s.os := hm.os
        subst eg
        subst ed
        subst eo
        refine wpAny_pure (wpAny_pure ⟨rfl, h', tk', rfl, P1, fun c o e => ?_⟩)
        have lc : c < s.heap.objs.size := Heap.lt_size e
        refine hm.heap c o ?_ (Heap.get?_push_of_some _ (Heap.get?_push_of_some _ e))
        rw [sz]
        simp only [List.mem_cons, List.mem_singleton, List.not_mem_nil, or_false, not_or]
        exact ⟨Nat.ne_of_lt lc, Nat.ne_of_lt (Nat.lt_succ_of_lt lc)⟩
      · cases r₂ with
        | error e => exact hr₂
        | ok fl₂ =>
          cases fl₂ with
          | ret r =>
            obtain ⟨rfl, h', tk, rfl, P1, hk'⟩ := hr₂
            repeat (any_goals (first | assumption | wp_step))
            exact h _ _ P1 hk'
          | _ => exact hr₂.elim
    | _ => exact hr.elim
end
end L32


set_option maxRecDepth 100000
set_option linter.all false
set_option maxHeartbeats 1600000
set_option Elab.async false
namespace L33
open PySem PySem.Spec PyProof.Rows L29 L30 L31 L32
theorem below_eq {xs : Array Nat} (hp : xs.toList.Pairwise (· < ·)) {j p : Nat} (h0 : p ≤ xs.size) (h1 : ∀ (i : Nat) (h : i < xs.size), i < p → xs[i] < j) (h2 : ∀ (i : Nat) (h : i < xs.size), p ≤ i → j ≤ xs[i]) : SetTable.below xs j = p := by
  obtain ⟨a0, a1, a2⟩ := below_ok hp j
  rcases Nat.lt_trichotomy (SetTable.below xs j) p with c | c | c
  · have hb : SetTable.below xs j < xs.size := by omega
    have u := h1 _ hb c
    have v := a2 _ hb (Nat.le_refl _)
    omega
  · exact c
  · have hb : p < xs.size := by omega
    have u := a1 _ hb c
    have v := h2 _ hb (Nat.le_refl _)
    omega
/-- where the walk stands ahead of its i-th -/
def sl (xs : Array Nat) : Nat → Nat
  | 0 => 0
  | i + 1 => xs.getD i 0 + 1
theorem below_sl {xs : Array Nat} (hp : xs.toList.Pairwise (· < ·)) {i : Nat} (hi : i ≤ xs.size) : SetTable.below xs (sl xs i) = i := by
  have mono : ∀ {a b : Nat} (ha : a < xs.size) (hb : b < xs.size), a < b → xs[a] < xs[b] := fun {a b} ha hb h => by
    have := List.pairwise_iff_getElem.mp hp a b (by simpa using ha) (by simpa using hb) h
    simpa using this
  cases i with
  | zero => exact below_eq hp (Nat.zero_le _) (fun i _ h => absurd h (by omega)) (fun i h _ => Nat.zero_le _)
  | succ i =>
    have lt : i < xs.size := by omega
    have e : xs.getD i 0 = xs[i] := by simp [Array.getD, lt]
    show SetTable.below xs (xs.getD i 0 + 1) = i + 1
    rw [e]
    refine below_eq hp hi (fun k h hk => ?_) (fun k h hk => ?_)
    · by_cases z : k = i
      · subst z; omega
      · have := mono h lt (by omega); omega
    · have := mono lt h (by omega); omega
theorem erase_perm {α : Type} : ∀ {l : List α} {i : Nat} (h : i < l.length), (l[i] :: l.eraseIdx i).Perm l
  | a :: r, 0, _ => by simp
  | a :: r, i + 1, h => by
    have ih := erase_perm (l := r) (i := i) (by simpa using h)
    rw [List.eraseIdx_cons_succ, List.getElem_cons_succ]
    exact (List.Perm.swap _ _ _).trans (ih.cons a)
/-- the orders -/
theorem pick_go {α : Type} (next : Nat → Nat) : ∀ (fuel k : Nat) (left : List α) (out : Array α), left.length = fuel → (pickOrder.go next fuel k left out).toList.Perm (out.toList ++ left)
  | 0, k, left, out, h => by
    obtain rfl := List.eq_nil_of_length_eq_zero h
    unfold pickOrder.go
    simp
  | fuel + 1, k, left, out, h => by
    unfold pickOrder.go
    have hlt : next k % left.length < left.length := Nat.mod_lt _ (by omega)
    rw [List.getElem?_eq_getElem hlt]
    dsimp only
    refine (pick_go next fuel (k + 1) _ _ (by rw [List.length_eraseIdx_of_lt hlt]; omega)).trans ?_
    rw [Array.toList_push, List.append_assoc]
    refine List.Perm.append_left _ ?_
    have := erase_perm hlt
    exact this
theorem pick_perm {α : Type} (next : Nat → Nat) (xs : Array α) : (pickOrder next xs).toList.Perm xs.toList := by
  unfold pickOrder
  have := pick_go next xs.size 0 xs.toList #[] (by simp)
  simpa using this
section
variable {prog : Program} {w : World} {A : Around} {E : Value → Shared → Prop} {s : Shared}
theorem choose_p {src : Source} {n : Nat} {Q : Nat → Shared → Prop} (hn : n ≠ 0) (h : ∀ i d, i < n → Q i { s with drawn := d }) : wpAny (model prog w) A (choose src n) Q E s := fun Γ p _ => ⟨hn, h _ _ (Nat.mod_lt _ (Nat.pos_of_ne_zero hn))⟩
theorem draw_perm {α : Type} : ∀ (n : Nat) (xs : List α) (s : Shared) {Q : List α → Shared → Prop}, xs.length = n → (∀ ys d, ys.Perm xs → Q ys { s with drawn := d }) → wpAny (model prog w) A (drawOrder n xs) Q E s := by
  intro n
  induction n with
  | zero =>
    intro xs s Q h q
    obtain rfl := List.eq_nil_of_length_eq_zero h
    unfold drawOrder
    exact wpAny_pure (q [] s.drawn (.refl _))
  | succ n ih =>
    intro xs s Q h q
    cases xs with
    | nil => cases h
    | cons x r =>
      unfold drawOrder
      refine wpAny_bind (choose_p (by simp) fun i d hi => ?_)
      rw [List.getElem?_eq_getElem hi]
      dsimp only
      refine wpAny_bind (ih _ _ (by rw [List.length_eraseIdx_of_lt hi]; rw [List.length_cons] at h ⊢; omega) fun ys d2 hp => wpAny_pure ?_)
      exact q _ d2 ((hp.cons _).trans (erase_perm hi))
end
end L33


set_option maxRecDepth 100000
set_option linter.all false
set_option maxHeartbeats 1600000
set_option Elab.async false
namespace L34
open PySem PySem.Spec PyProof.Rows L29 L30 L31 L32 L33
theorem slot_next : Slot "set_iterator" "__next__" "set_iterator.__next__" :=
  .of (owner := "set_iterator") (n := "__next__") (by rw [typeLookup_type, builtinLookup_eq_fast]; kernel_rfl) (by decide +kernel) (by decide +kernel) (by decide +kernel)
    (by first | exact .inl (by decide +kernel) | exact .inr (by decide +kernel)) (by rw [isSubtype_type]; kernel_rfl)
theorem entry_next : entryFor table "set_iterator.__next__" = some Builtin.«set_iterator.__next__» := entryFor_of_tree (by kernel_rfl)
theorem args_next (a : Value) : argsOk "set_iterator.__next__" ⟨[a], []⟩ := by unfold argsOk; kernel_rfl
theorem entry_iter : entryFor table "set.__iter__" = some Builtin.«frozenset.__iter__» := entryFor_alias (id' := "frozenset.__iter__") (by kernel_rfl) rfl (by decide +kernel) (by kernel_rfl)
end L34


set_option maxRecDepth 100000
set_option linter.all false
set_option maxHeartbeats 1600000
set_option Elab.async false
namespace L35
open PySem PySem.Spec PyProof.Rows L29 L30 L31 L32 L33 L34
section
variable {prog : Program} {w : World} {A : Around} {E : Value → Shared → Prop} {s : Shared}
/-- the set that is walked -/
structure At (h : Heap) (a : Addr) (es : Array (Int × Value)) (ep : Nat) (t : SetTable) : Prop where
  at_ : ∃ o, h.get? a = some o ∧ o.data = .set es ep t
  fit : t.fits es.size = true
abbrev itO (first : Value) (i : Nat) (a : Addr) (n ep : Nat) : Obj := { cls := .type "set_iterator", data := .fields #[first, rawInt i, .ref a, rawInt n, rawInt ep] }
theorem next_slots {I a : Addr} {es : Array (Int × Value)} {ep slot i : Nat} {t : SetTable} {x : Value} {j : Nat} {Q : Option Value → Shared → Prop} (hS : At s.heap a es ep t) (hI : s.heap.get? I = some (itO (rawInt slot) i a es.size ep))
    (nx : ∀ (A : Around) (E : Value → Shared → Prop) (R : Option (Value × Nat) → Shared → Prop), R (some (x, j)) s → wpAny (model prog w) A (setNext a slot i ep) R E s)
    (hQ : ∀ h', h'.get? I = some (itO (rawInt j) (i + 1) a es.size ep) → Heap.SameBut I s.heap h' → Q (some x) { s with heap := h' }) : wpAny (model prog w) A (pyNext (.ref I)) Q E s := by
  have hT : s.TypeIs (.ref I) "set_iterator" := ⟨_, hI, rfl⟩
  obtain ⟨o, ho, hd⟩ := hS.at_
  unfold pyNext
  refine wpAny_bind (wpAny_attempt (wpAny_callSpecial?_slot (name := Str.ofString "__next__") hT slot_next (wpAny_call_entry slot_next hT entry_next ?_ (args_next _))))
  show wpAny _ _ (fieldsOf (.ref I) >>= _) _ _ s
  refine wpAny_bind (wpAny_fieldsOf hI rfl ?_)
  dsimp only
  refine wpAny_bind (wpAny_setEntries_of ho hd hS.fit ?_)
  rw [if_neg (by simp)]
  show wpAny _ _ (setNext a ((slot : Int).toNat) ((i : Int).toNat) ((ep : Int).toNat) >>= _) _ _ s
  rw [Int.toNat_natCast, Int.toNat_natCast, Int.toNat_natCast]
  refine wpAny_bind (nx _ _ _ ?_)
  dsimp only
  refine wpAny_bind (wpAny_setField hI rfl (by simp) ?_)
  have g1 := Heap.get?_update_self (Obj.mapFields (·.setIfInBounds 0 (rawInt j))) hI rfl
  refine wpAny_bind (wpAny_setField g1 rfl (by simp) (wpAny_pure ⟨x, rfl, wpAny_pure (hQ _ ?_ ?_)⟩))
  · exact Heap.get?_update_self (Obj.mapFields (·.setIfInBounds 1 (rawInt (i + 1)))) g1 rfl
  · exact (Heap.SameBut.update ..).trans (Heap.SameBut.update ..)
/-- a walk's end: the StopIteration that nobody sees -/
theorem stop_p {I : Addr} {o : Obj} {Q : Option Value → Shared → Prop} (hh : A.handled = none) (hQ : ∀ h', Heap.ExtBut I s.heap h' → Q none { s with heap := h' }) :
    wpAny (model prog w) A.in1 (newExc (.type "StopIteration") [] >>= fun e => raiseNew e) (fun (fin : PySem.Fin) s' => ∃ v, fin = Fin.done (Flow.ret v) ∧ wpAny (model prog w) A (pure (some v)) Q E s')
      (fun e s' => wpAny (model prog w) A (do let b ← isInstance e (Value.type "StopIteration"); if b = true then pure none else throw e) Q E s') s := by
  refine wpAny_bind ?_
  simp only [newExc, newTuple]
  refine wpAny_bind (wpAny_newObj_type ?_ (by size_fits))
  refine wpAny_bind (m := firstArgMember _ _) (wpAny_of_eq (a := Value.none) (by first | rfl | (simp only [firstArgMember]; rfl)) ?_)
  refine wpAny_newObj_type ?_ (by size_fits)
  simp only [raiseNew]
  refine wpAny_bind (wpAny_handled ?_)
  first | rw [show A.in1.handled = none from hh] | rw [hh]
  refine wpAny_bind (wpAny_pure (wpAny_throw ?_))
  refine wpAny_bind (wpAny_isInstance (T := "StopIteration") (b := true) ⟨_, Heap.get?_push_size _ rfl, rfl⟩ isSubtype_stop ?_)
  exact wpAny_pure (hQ _ (((Heap.SameBut.refl I s.heap).extBut.push _).push _))
theorem end_slots {I a : Addr} {es : Array (Int × Value)} {ep slot i : Nat} {t : SetTable} {Q : Option Value → Shared → Prop} (hh : A.handled = none) (hS : At s.heap a es ep t) (hI : s.heap.get? I = some (itO (rawInt slot) i a es.size ep))
    (nx : ∀ (A : Around) (E : Value → Shared → Prop) (R : Option (Value × Nat) → Shared → Prop), R none s → wpAny (model prog w) A (setNext a slot i ep) R E s)
    (hQ : ∀ h', Heap.ExtBut I s.heap h' → Q none { s with heap := h' }) : wpAny (model prog w) A (pyNext (.ref I)) Q E s := by
  have hT : s.TypeIs (.ref I) "set_iterator" := ⟨_, hI, rfl⟩
  obtain ⟨o, ho, hd⟩ := hS.at_
  unfold pyNext
  refine wpAny_bind (wpAny_attempt (wpAny_callSpecial?_slot (name := Str.ofString "__next__") hT slot_next (wpAny_call_entry slot_next hT entry_next ?_ (args_next _))))
  show wpAny _ _ (fieldsOf (.ref I) >>= _) _ _ s
  refine wpAny_bind (wpAny_fieldsOf hI rfl ?_)
  dsimp only
  refine wpAny_bind (wpAny_setEntries_of ho hd hS.fit ?_)
  rw [if_neg (by simp)]
  show wpAny _ _ (setNext a ((slot : Int).toNat) ((i : Int).toNat) ((ep : Int).toNat) >>= _) _ _ s
  rw [Int.toNat_natCast, Int.toNat_natCast, Int.toNat_natCast]
  refine wpAny_bind (nx _ _ _ ?_)
  dsimp only
  refine wpAny_bind (wpAny_setField hI rfl (by simp) ?_)
  exact stop_p (I := I) (o := itO (rawInt slot) i a es.size ep) (s := { s with heap := s.heap.update I (Obj.mapFields (·.setIfInBounds 2 .none)) }) hh fun h' e => hQ h' (fun b o' hb g => e b o' hb ((Heap.SameBut.update s.heap I _).extBut b o' hb g))
theorem next_drawn {I a T : Addr} {es : Array (Int × Value)} {ep i p : Nat} {t : SetTable} {x : Int × Value} {places : Array Value} {tk : Tok} {Q : Option Value → Shared → Prop} (hS : At s.heap a es ep t) (hI : s.heap.get? I = some (itO (.ref T) i a es.size ep))
    (hT0 : s.heap.IsTuple T places) (hp : places[i]? = some (.int p tk)) (hx : es[p]? = some x)
    (hQ : ∀ h', h'.get? I = some (itO (.ref T) (i + 1) a es.size ep) → Heap.SameBut I s.heap h' → Q (some x.2) { s with heap := h' }) : wpAny (model prog w) A (pyNext (.ref I)) Q E s := by
  have hT : s.TypeIs (.ref I) "set_iterator" := ⟨_, hI, rfl⟩
  obtain ⟨o, ho, hd⟩ := hS.at_
  obtain ⟨oT, hoT, _, nT, hdT⟩ := hT0
  unfold pyNext
  refine wpAny_bind (wpAny_attempt (wpAny_callSpecial?_slot (name := Str.ofString "__next__") hT slot_next (wpAny_call_entry slot_next hT entry_next ?_ (args_next _))))
  show wpAny _ _ (fieldsOf (.ref I) >>= _) _ _ s
  refine wpAny_bind (wpAny_fieldsOf hI rfl ?_)
  dsimp only
  refine wpAny_bind (wpAny_setEntries_of ho hd hS.fit ?_)
  rw [if_neg (by simp)]
  refine wpAny_bind (wpAny_seqItems hoT hdT ?_)
  dsimp only
  rw [Int.toNat_natCast, hp]
  dsimp only
  rw [Int.toNat_natCast, Int.toNat_natCast]
  refine wpAny_bind ?_
  unfold setNextDrawn
  refine wpAny_bind (wpAny_setState_of ho hd hS.fit ?_)
  dsimp only
  rw [if_neg (by simp), hx]
  refine wpAny_pure ?_
  refine wpAny_bind (wpAny_setField hI rfl (by simp) (wpAny_pure ⟨x.2, rfl, wpAny_pure (hQ _ ?_ (Heap.SameBut.update ..))⟩))
  exact Heap.get?_update_self (Obj.mapFields (·.setIfInBounds 1 (rawInt (i + 1)))) hI rfl
theorem end_drawn {I a T : Addr} {es : Array (Int × Value)} {ep i : Nat} {t : SetTable} {places : Array Value} {Q : Option Value → Shared → Prop} (hh : A.handled = none) (hS : At s.heap a es ep t) (hI : s.heap.get? I = some (itO (.ref T) i a es.size ep))
    (hT0 : s.heap.IsTuple T places) (hp : places[i]? = none) (hQ : ∀ h', Heap.ExtBut I s.heap h' → Q none { s with heap := h' }) : wpAny (model prog w) A (pyNext (.ref I)) Q E s := by
  have hT : s.TypeIs (.ref I) "set_iterator" := ⟨_, hI, rfl⟩
  obtain ⟨o, ho, hd⟩ := hS.at_
  obtain ⟨oT, hoT, _, nT, hdT⟩ := hT0
  unfold pyNext
  refine wpAny_bind (wpAny_attempt (wpAny_callSpecial?_slot (name := Str.ofString "__next__") hT slot_next (wpAny_call_entry slot_next hT entry_next ?_ (args_next _))))
  show wpAny _ _ (fieldsOf (.ref I) >>= _) _ _ s
  refine wpAny_bind (wpAny_fieldsOf hI rfl ?_)
  dsimp only
  refine wpAny_bind (wpAny_setEntries_of ho hd hS.fit ?_)
  rw [if_neg (by simp)]
  refine wpAny_bind (wpAny_seqItems hoT hdT ?_)
  dsimp only
  rw [Int.toNat_natCast, hp]
  dsimp only
  refine wpAny_bind (wpAny_setField hI rfl (by simp) ?_)
  have g1 := Heap.get?_update_self (Obj.mapFields (·.setIfInBounds 0 (rawInt 0))) hI rfl
  refine wpAny_bind (wpAny_setField g1 rfl (by simp) ?_)
  exact stop_p (I := I) (o := itO (.ref T) i a es.size ep) hh fun h' e => hQ h' (fun b o' hb g => e b o' hb ((Heap.SameBut.update _ I _).extBut b o' hb ((Heap.SameBut.update s.heap I _).extBut b o' hb g)))
end
end L35


set_option maxRecDepth 100000
set_option linter.all false
set_option maxHeartbeats 1600000
set_option Elab.async false
namespace L36
open PySem PySem.Spec PyProof.Rows L29 L30 L31 L32 L33 L34 L35
section
variable {prog : Program} {w : World} {A : Around} {E : Value → Shared → Prop} {s : Shared} {a : Addr} {es : Array (Int × Value)} {ep : Nat} {t : SetTable}
theorem nx_text (hS : At s.heap a es ep t) (hw : w.params.followText "set-order" = true) {slot i : Nat} {R : Option (Value × Nat) → Shared → Prop} (h : R (((pickOrder (w.params.setOrder a ep) es)[i]?).map fun e => (e.2, slot)) s) : wpAny (model prog w) A (setNext a slot i ep) R E s := by
  obtain ⟨o, ho, hd⟩ := hS.at_
  have hw' : (model prog w).w.params.followText "set-order" = true := hw
  unfold setNext setsByText
  refine wpAny_bind (wpAny_setState_of ho hd hS.fit ?_)
  refine wpAny_bind (wpAny_bind (wpAny_askSetting (wpAny_pure ?_)))
  dsimp only
  rw [if_pos hw', if_neg (by simp)]
  refine wpAny_bind ?_
  unfold setWalk setsByText
  refine wpAny_bind (wpAny_setState_of ho hd hS.fit ?_)
  refine wpAny_bind (wpAny_bind (wpAny_askSetting (wpAny_pure ?_)))
  dsimp only
  rw [if_pos hw']
  exact wpAny_bind (wpAny_askSetting (wpAny_pure (wpAny_pure h)))
theorem nx_plain (hS : At s.heap a es ep t) (hw : w.params.followText "set-order" = false) (hp : (!t.plain && decide (es.size > 1)) = false) (hl : t.led = true) {slot i : Nat} {R : Option (Value × Nat) → Shared → Prop}
    (h : R (match es[SetTable.below t.place slot]?, t.place[SetTable.below t.place slot]? with | some (_, x), some j => some (x, j + 1) | _, _ => none) s) : wpAny (model prog w) A (setNext a slot i ep) R E s := by
  obtain ⟨o, ho, hd⟩ := hS.at_
  unfold setNext setsByText
  refine wpAny_bind (wpAny_setState_of ho hd hS.fit ?_)
  refine wpAny_bind (wpAny_bind (wpAny_askSetting (wpAny_pure ?_)))
  dsimp only
  rw [if_neg (by show ¬ w.params.followText "set-order" = true; rw [hw]; decide)]
  show wpAny _ _ (if (!t.plain && decide (es.size > 1)) = true then _ else _) _ _ _
  rw [hp, if_neg (by decide)]
  refine wpAny_bind ?_
  show wpAny _ _ (if (!t.led && !es.isEmpty) = true then unsupported "set:maker-not-led" else pure ()) _ _ _
  rw [hl, if_neg (by simp)]
  exact wpAny_pure (wpAny_pure h)
/-- set.__iter__ -/
theorem iter_p {Q : Value → Shared → Prop} (hc : ∃ o, s.heap.get? a = some o ∧ o.cls = .type "set") (hS : At s.heap a es ep t) (hz : es.size ≤ sizeLine)
    (h1 : (w.params.followText "set-order" = true ∨ (!t.plain && decide (es.size > 1)) = false) → Q (.ref s.heap.objs.size) { s with heap := s.heap.push (itO (rawInt 0) 0 a es.size ep) })
    (h2 : w.params.followText "set-order" = false → ∀ (ys : List Nat) d, ys.Perm (List.range es.size) → Q (.ref (s.heap.objs.size + 1)) { s with heap := (s.heap.push { cls := .type "tuple", data := .seq (ys.map fun (i : Nat) => rawInt i).toArray }).push (itO (.ref s.heap.objs.size) 0 a es.size ep), drawn := d }) :
    wpAny (model prog w) A (pyIter (.ref a)) Q E s := by
  obtain ⟨o, ho, hd⟩ := hS.at_
  have hT : s.TypeIs (.ref a) "set" := hc
  refine wpAny_pyIter_slot hT F.slot_set_iter (wpAny_call_entry F.slot_set_iter hT entry_iter ?_ (F.args_set_iter_1 _))
  unfold Builtin.«frozenset.__iter__»
  show wpAny _ _ (Builtin.Frozenset.sizeOf a >>= _) _ _ _
  unfold Builtin.Frozenset.sizeOf
  refine wpAny_bind (wpAny_bind (wpAny_setEntries_of ho hd hS.fit (wpAny_pure ?_)))
  refine wpAny_bind ?_
  unfold setDrawn setsByText
  refine wpAny_bind (wpAny_setState_of ho hd hS.fit ?_)
  refine wpAny_bind (wpAny_bind (wpAny_askSetting (wpAny_pure (wpAny_pure ?_))))
  dsimp only
  show wpAny _ _ (if (!w.params.followText "set-order" && (!t.plain && decide (es.size > 1))) = true then _ else _) _ _ _
  by_cases c : (!w.params.followText "set-order" && (!t.plain && decide (es.size > 1))) = true
  · rw [if_pos c]
    have hw : w.params.followText "set-order" = false := by
      cases e : w.params.followText "set-order" with
      | false => rfl
      | true => rw [e] at c; cases c
    refine wpAny_bind (draw_perm _ _ _ (by simp) fun ys d hp => ?_)
    have lz : ys.length = es.size := by rw [hp.length_eq, List.length_range]
    simp only [newTuple]
    refine wpAny_bind (wpAny_newObj_type ?_ (by show ((ys.map fun (i : Nat) => rawInt i).toArray).size ≤ _; simp [lz]; exact hz))
    refine wpAny_bind (wpAny_setEpoch_of (Heap.get?_push_of_some _ ho) hd hS.fit ?_)
    refine wpAny_bind (wpAny_newObj_type (wpAny_pure ⟨_, rfl, "set_iterator", _, ⟨_, Heap.get?_push_size _ rfl, rfl⟩, slot_next.lookup, ?_⟩))
    have z := h2 hw ys d hp
    have sz : (s.heap.push { cls := .type "tuple", data := .seq (ys.map fun (i : Nat) => rawInt i).toArray }).objs.size = s.heap.objs.size + 1 := Heap.size_push _ _
    show Q (.ref (s.heap.push { cls := .type "tuple", data := .seq (ys.map fun (i : Nat) => rawInt i).toArray }).objs.size) _
    rw [sz]
    exact z
  · rw [if_neg c]
    refine wpAny_bind (wpAny_pure ?_)
    refine wpAny_bind (wpAny_setEpoch_of ho hd hS.fit ?_)
    refine wpAny_bind (wpAny_newObj_type (wpAny_pure ⟨_, rfl, "set_iterator", _, ⟨_, Heap.get?_push_size _ rfl, rfl⟩, slot_next.lookup, h1 ?_⟩))
    cases e : w.params.followText "set-order" with
    | true => exact .inl rfl
    | false =>
      refine .inr ?_
      rw [e] at c
      simpa using c
end
end L36


set_option maxRecDepth 100000
set_option linter.all false
set_option maxHeartbeats 1600000
set_option Elab.async false
namespace L37
open PySem PySem.Spec PyProof.Rows L29 L30 L31 L32 L33 L34 L35 L36
theorem slot_self : Slot "set_iterator" "__iter__" "set_iterator.__iter__" :=
  .of (owner := "set_iterator") (n := "__iter__") (by rw [typeLookup_type, builtinLookup_eq_fast]; kernel_rfl) (by decide +kernel) (by decide +kernel) (by decide +kernel)
    (by first | exact .inl (by decide +kernel) | exact .inr (by decide +kernel)) (by rw [isSubtype_type]; kernel_rfl)
theorem entry_self : entryFor table "set_iterator.__iter__" = some Builtin.«dict_keyiterator.__iter__» :=
  entryFor_alias (id' := "dict_keyiterator.__iter__") (by kernel_rfl) (by first | rfl | decide +kernel | (unfold String.splitOn; simp +decide [String.splitOnAux])) (by decide +kernel) (by kernel_rfl)
theorem args_self (a : Value) : argsOk "set_iterator.__iter__" ⟨[a], []⟩ := by unfold argsOk; kernel_rfl
section
variable {prog : Program} {w : World} {A : Around} {E : Value → Shared → Prop} {s : Shared}
theorem self_p {I a : Addr} {v : Value} {i n ep : Nat} {Q : Value → Shared → Prop} (hI : s.heap.get? I = some (itO v i a n ep)) (h : Q (.ref I) s) : wpAny (model prog w) A (pyIter (.ref I)) Q E s := by
  have hT : s.TypeIs (.ref I) "set_iterator" := ⟨_, hI, rfl⟩
  refine wpAny_pyIter_slot hT slot_self (wpAny_call_entry slot_self hT entry_self ?_ (args_self _))
  show wpAny _ _ (ret (.ref I)) _ _ s
  exact wpAny_pure ⟨_, rfl, "set_iterator", _, hT, slot_next.lookup, h⟩
end
section
variable {prog : Program} {w : World} {A : Around} {E : Value → Shared → Prop} {s : Shared} {a : Addr} {es : Array (Int × Value)} {ep : Nat} {t : SetTable}
theorem At.keep {h h' : Heap} (k : At h a es ep t) (e : ∀ o, h.get? a = some o → h'.get? a = some o) : At h' a es ep t := ⟨k.at_.imp fun o x => ⟨e o x.1, x.2⟩, k.fit⟩
theorem walk_slots (hh : A.handled = none) {I : Addr} (ne : a ≠ I) {f : Nat → Nat} {vs : List Value} (hv : vs.length = es.size)
    (nx : ∀ (s : Shared), At s.heap a es ep t → ∀ (i : Nat), i ≤ es.size → ∀ (A : Around) (E : Value → Shared → Prop) (R : Option (Value × Nat) → Shared → Prop), R ((vs[i]?).map fun x => (x, f (i + 1))) s → wpAny (model prog w) A (setNext a (f i) i ep) R E s) :
    WalksS prog w A I [I, a] [I] (fun x y => y = x) es.size (fun i v => vs[i]? = some v) (fun i s => At s.heap a es ep t ∧ s.heap.get? I = some (itO (rawInt (f i)) i a es.size ep)) where
  sub := fun b hb => by simp at hb; simp [hb]
  grefl := fun _ => rfl
  gtrans := fun _ _ _ h1 h2 => h2.trans h1
  frame := fun i s h' tk st _ hk => ⟨At.keep st.1 fun o e => hk a (by simp) o e, hk I (by simp) _ st.2⟩
  item := fun i s Q E hi st hQ => by
    have lt : i < vs.length := by omega
    have ex : vs[i]? = some vs[i] := List.getElem?_eq_getElem lt
    refine next_slots (x := vs[i]) (j := f (i + 1)) st.1 st.2 (fun A E R r => nx s st.1 i (by omega) A E R (by rw [ex]; exact r)) fun h' g sb => ?_
    exact hQ _ { s with heap := h' } ex ⟨At.keep st.1 fun o e => sb.extBut a o ne e, g⟩ ⟨fun b o hb e => sb.extBut b o (fun z => hb (by simp [z])) e, rfl, rfl, rfl, Nat.le_refl _⟩
  done := fun s Q E st hQ => by
    have ex : vs[es.size]? = none := List.getElem?_eq_none (by omega)
    refine end_slots hh st.1 st.2 (fun A E R r => nx s st.1 es.size (Nat.le_refl _) A E R (by rw [ex]; exact r)) fun h' e => ?_
    exact hQ { s with heap := h' } ⟨fun b o hb g => e b o (fun z => hb (by simp [z])) g, rfl, rfl, rfl, Nat.le_refl _⟩
  self := fun i s Q E st hQ => self_p st.2 hQ
theorem walk_drawn (hh : A.handled = none) {I T : Addr} (ne : a ≠ I) (nT : T ≠ I) {ps : List Nat} {l : List (Int × Value)} (hv : ps.length = es.size) (hl : ∀ (i p : Nat), ps[i]? = some p → ∃ x, es[p]? = some x ∧ l[i]? = some x) :
    WalksS prog w A I [I, a, T] [I] (fun x y => y = x) es.size (fun i v => (l.map (·.2))[i]? = some v) (fun i s => At s.heap a es ep t ∧ s.heap.get? I = some (itO (.ref T) i a es.size ep) ∧ s.heap.IsTuple T (ps.map fun (i : Nat) => rawInt i).toArray) where
  sub := fun b hb => by simp at hb; simp [hb]
  grefl := fun _ => rfl
  gtrans := fun _ _ _ h1 h2 => h2.trans h1
  frame := fun i s h' tk st _ hk => ⟨At.keep st.1 fun o e => hk a (by simp) o e, hk I (by simp) _ st.2.1, let ⟨o, ho, r⟩ := st.2.2; ⟨o, hk T (by simp) o ho, r⟩⟩
  item := fun i s Q E hi st hQ => by
    have lt : i < ps.length := by omega
    have ex : ps[i]? = some ps[i] := List.getElem?_eq_getElem lt
    obtain ⟨x, h1, h2⟩ := hl i _ ex
    refine next_drawn (T := T) (p := ps[i]) (tk := 0) (x := x) st.1 st.2.1 st.2.2 (by simp [ex]; rfl) h1 fun h' g sb => ?_
    exact hQ _ { s with heap := h' } (by simp [h2]) ⟨At.keep st.1 fun o e => sb.extBut a o ne e, g, let ⟨o, ho, r⟩ := st.2.2; ⟨o, sb.extBut T o nT ho, r⟩⟩ ⟨fun b o hb e => sb.extBut b o (fun z => hb (by simp [z])) e, rfl, rfl, rfl, Nat.le_refl _⟩
  done := fun s Q E st hQ => by
    refine end_drawn (T := T) hh st.1 st.2.1 st.2.2 (by simp [hv]) fun h' e => ?_
    exact hQ { s with heap := h' } ⟨fun b o hb g => e b o (fun z => hb (by simp [z])) g, rfl, rfl, rfl, Nat.le_refl _⟩
  self := fun i s Q E st hQ => self_p st.2.1 hQ
end
end L37


set_option maxRecDepth 100000
set_option linter.all false
set_option maxHeartbeats 1600000
set_option Elab.async false
namespace L38
open PySem PySem.Spec PyProof.Rows L29 L30 L31 L32 L33 L34 L35 L36 L37
section
variable {prog : Program} {w : World} {A : Around} {E : Value → Shared → Prop} {s : Shared} {a : Addr}
theorem fits_size {t : SetTable} {n : Nat} (h : t.fits n = true) : t.place.size = n := by
  unfold SetTable.fits at h
  simp at h
  exact h.1
/-- iter(a set): a walk over its elements, in some order -/
theorem iter_walk {ns : List Int} (hP : SetP prog w (ledB w) s.heap a ns) {Q : Value → Shared → Prop}
    (h : ∀ (I : Addr) (fp : List Addr) (n : Nat) (l : List (Int × Value)) (St : Nat → Shared → Prop) (s2 : Shared), (∀ A : Around, A.handled = none → WalksS prog w A I fp [I] (fun x y => y = x) n (fun i v => (l.map (·.2))[i]? = some v) St) → St 0 s2 → n = l.length → l.length < scanBound →
      ElemsOf (intKind prog w) l → (l.map num).Perm ns → s.heap.objs.size ≤ I → (∀ b ∈ fp, b < s.heap.objs.size → b = a) → (∀ b o, s.heap.get? b = some o → s2.heap.get? b = some o) → (∃ hp d, s2 = { s with heap := hp, drawn := d }) → Q (.ref I) s2) :
    wpAny (model prog w) A (pyIter (.ref a)) Q E s := by
  obtain ⟨o, es, ep, t, ho, hex, hd, hel, hpm, hb, hf, ht⟩ := hP
  have hS : At s.heap a es ep t := ⟨⟨o, ho, hd⟩, hf⟩
  have la : a < s.heap.objs.size := Heap.lt_size ho
  have hz : es.size ≤ sizeLine := fits_of_scanBound hb
  have ps := fits_size hf
  refine iter_p ⟨o, ho, hex.1⟩ hS hz (fun c => ?_) (fun hw ys d hp => ?_)
  · have ne : a ≠ s.heap.objs.size := Nat.ne_of_lt la
    have st1 : At (s.heap.push (itO (rawInt 0) 0 a es.size ep)) a es ep t := At.keep hS fun o e => Heap.get?_push_of_some _ e
    have fpb : ∀ b ∈ [s.heap.objs.size, a], b < s.heap.objs.size → b = a := fun b hb lt => by
      simp at hb
      rcases hb with rfl | rfl
      · exact absurd lt (Nat.lt_irrefl _)
      · rfl
    cases hw : w.params.followText "set-order" with
    | true =>
      have pp := pick_perm (w.params.setOrder a ep) es
      have pl : (pickOrder (w.params.setOrder a ep) es).toList.length = es.size := by rw [pp.length_eq, Array.length_toList]
      refine h s.heap.objs.size [s.heap.objs.size, a] es.size (pickOrder (w.params.setOrder a ep) es).toList _ _ (fun A hh => walk_slots (t := t) (ep := ep) hh ne (f := fun _ => 0) (by rw [List.length_map, pl]) fun s hA i hi A E R r => nx_text hA hw (by simp [Function.comp_def] at r; exact r)) ⟨st1, Heap.get?_push_size _ rfl⟩ pl.symm (by rw [pl]; exact hb) (hel.perm pp) ((pp.map num).trans hpm) (Nat.le_refl _) fpb (fun b o e => Heap.get?_push_of_some _ e) ⟨_, s.drawn, rfl⟩
    | false =>
      have hp : (!t.plain && decide (es.size > 1)) = false := by
        rcases c with c | c
        · rw [hw] at c; cases c
        · exact c
      have hl : t.led = true := by rw [ht.led]; unfold ledB; rw [hw]; rfl
      refine h s.heap.objs.size [s.heap.objs.size, a] es.size es.toList _ _ (fun A hh => walk_slots (t := t) (ep := ep) hh ne (f := sl t.place) (by rw [List.length_map, Array.length_toList]) fun s hA i hi A E R r => nx_plain hA hw hp hl ?_) ⟨st1, Heap.get?_push_size _ rfl⟩ (by rw [Array.length_toList]) (by rw [Array.length_toList]; exact hb) hel hpm (Nat.le_refl _) fpb (fun b o e => Heap.get?_push_of_some _ e) ⟨_, s.drawn, rfl⟩
      rw [below_sl ht.rise (by omega)]
      by_cases lt : i < es.size
      · have e1 : es[i]? = some es[i] := Array.getElem?_eq_getElem lt
        have e2 : t.place[i]? = some (t.place[i]'(by omega)) := Array.getElem?_eq_getElem (by omega)
        have e3 : t.place.getD i 0 = t.place[i]'(by omega) := by simp [Array.getD, ps, lt]
        rw [e1, e2]
        have e4 : (es.toList.map (·.2))[i]? = some es[i].2 := by simp [lt]
        rw [e4] at r
        show R (some (es[i].2, t.place[i]'(by omega) + 1)) s
        have e5 : sl t.place (i + 1) = t.place[i]'(by omega) + 1 := by show t.place.getD i 0 + 1 = _; rw [e3]
        rw [Option.map_some, e5] at r
        exact r
      · have e1 : es[i]? = none := Array.getElem?_eq_none (by omega)
        have e4 : (es.toList.map (·.2))[i]? = none := by simp; omega
        rw [e4] at r
        rw [e1]
        exact r
  · have ne : a ≠ s.heap.objs.size + 1 := Nat.ne_of_lt (Nat.lt_succ_of_lt la)
    have mem : ∀ p ∈ ys, p < es.size := fun p hpm => List.mem_range.mp (hp.mem_iff.mp hpm)
    have ly : ys.length = es.size := by rw [hp.length_eq, List.length_range]
    have lp : (ys.filterMap fun p => es[p]?).Perm es.toList := (hp.filterMap _).trans (by rw [filterMap_getElem?_range])
    have fm : ∀ (zs : List Nat), (∀ p ∈ zs, p < es.size) → ∀ (i p : Nat), zs[i]? = some p → ∃ x, es[p]? = some x ∧ (zs.filterMap fun p => es[p]?)[i]? = some x := by
      intro zs
      induction zs with
      | nil => intro _ i p e; cases e
      | cons z r ih =>
        intro hm i p e
        have zl : z < es.size := hm z (by simp)
        have hz : es[z]? = some es[z] := Array.getElem?_eq_getElem zl
        rw [List.filterMap_cons, hz]
        cases i with
        | zero => cases e; exact ⟨_, hz, rfl⟩
        | succ i => exact ih (fun q hq => hm q (by simp [hq])) i p e
    have ll : (ys.filterMap fun p => es[p]?).length = es.size := by rw [lp.length_eq, Array.length_toList]
    have sz : (s.heap.push { cls := .type "tuple", data := .seq (ys.map fun (i : Nat) => rawInt i).toArray }).objs.size = s.heap.objs.size + 1 := Heap.size_push _ _
    refine h (s.heap.objs.size + 1) [s.heap.objs.size + 1, a, s.heap.objs.size] es.size (ys.filterMap fun p => es[p]?) _ _ (fun A hh => walk_drawn (t := t) (ep := ep) hh ne (Nat.ne_of_lt (Nat.lt_succ_self _)) ly (fm ys mem)) ⟨At.keep hS fun o e => Heap.get?_push_of_some _ (Heap.get?_push_of_some _ e), ?_, ⟨_, Heap.get?_push_of_some _ (Heap.get?_push_size _ rfl), rfl, _, rfl⟩⟩ ll.symm (by rw [ll]; exact hb) (hel.perm lp) ((lp.map num).trans hpm) (Nat.le_succ _) (fun b hb lt => ?_) (fun b o e => Heap.get?_push_of_some _ (Heap.get?_push_of_some _ e)) ⟨_, _, rfl⟩
    · have g := Heap.get?_push_size (s.heap.push { cls := .type "tuple", data := .seq (ys.map fun (i : Nat) => rawInt i).toArray }) (o := itO (.ref s.heap.objs.size) 0 a es.size ep) rfl
      rw [sz] at g
      exact g
    · simp at hb
      rcases hb with rfl | rfl | rfl
      · exact absurd lt (Nat.not_lt.mpr (Nat.le_succ _))
      · rfl
      · exact absurd lt (Nat.lt_irrefl _)
end
end L38


set_option maxRecDepth 100000
set_option linter.all false
set_option maxHeartbeats 1600000
set_option Elab.async false
namespace L39
open PySem PySem.Spec PyProof.Rows L29 L30 L31 L32 L33 L34 L35 L36 L37 L38
section
variable {prog : Program} {w : World} {A : Around} {E : Value → Shared → Prop} {s : Shared} {a : Addr}
theorem set_hint (hT : s.TypeIs (.ref a) "set") {Q : Bool → Shared → Prop} (h : Q false s) : wpAny (model prog w) A (Builtin.List.listLengthHint (.ref a)) Q E s := by
  unfold Builtin.List.listLengthHint
  refine wpAny_bind (wpAny_specialOf hT F.slot_set_len.lookup ?_)
  generalize hid : ("set.__len__" : String) = id0
  wp_delta
  rw [show splitId id0 = some ("set", "__len__") from by subst hid; decide +kernel]
  subst hid
  refine wpAny_bind (wpAny_isInstance (T := "set") (b := true) hT (by rw [isSubtype_type]; kernel_rfl) ?_)
  refine wpAny_ite_split (fun hab => absurd hab (by decide)) (fun _ => ?_)
  refine wpAny_ite_split (fun _ => ?_) (fun hab => absurd (by decide +kernel) hab)
  refine wpAny_bind (wpAny_typeOf hT ?_)
  exact wpAny_pure h
theorem items_list {vs : List Value} {acc : Array Value} (h : ItemsOf (fun i v => vs[i]? = some v) acc vs.length) : acc.toList = vs := by
  refine List.ext_getElem? fun j => ?_
  by_cases lt : j < acc.size
  · have e : acc[j]? = some acc[j] := Array.getElem?_eq_getElem lt
    rw [h.2 j _ e]
    simpa using e
  · have e1 : acc.toList[j]? = none := List.getElem?_eq_none (by rw [Array.length_toList]; omega)
    have e2 : vs[j]? = none := List.getElem?_eq_none (by rw [← h.1]; omega)
    rw [e1, e2]
theorem collect_set (hh : A.handled = none) {ns : List Int} (hP : SetP prog w (ledB w) s.heap a ns) {R : List Value → Shared → Prop}
    (h : ∀ (l : List (Int × Value)) (hp : Heap) (d : Drawn) (tk : Nat), ElemsOf (intKind prog w) l → (l.map num).Perm ns → l.length < scanBound → (∀ b o, s.heap.get? b = some o → hp.get? b = some o) → s.heap.objs.size ≤ hp.objs.size → R (l.map (·.2)) { s with heap := hp, drawn := d, toks := tk }) :
    wpAny (model prog w) A (collect (.ref a)) R E s := by
  obtain ⟨o, ho, hex⟩ : ∃ o, s.heap.get? a = some o ∧ o.ExactSet := let ⟨o, _, _, _, ho, hex, _⟩ := hP; ⟨o, ho, hex⟩
  have la : a < s.heap.objs.size := Heap.lt_size ho
  unfold collect
  refine wpAny_bind (wpAny_runValue (codeAny_builtin F.entry_proto_collect ?_))
  rw [Around.under_plainId F.plain_proto_collect _]
  show wpAny _ A.in1 (newList [] >>= fun l => again (.builtin "list.__iadd__" ⟨[l, .ref a], []⟩)) _ _ s
  refine wpAny_bind (wpAny_newObj_type ?_)
  refine wpAny_pure ⟨plainId_quiet F.plain_list_iadd _, codeAny_builtin F.entry_list_iadd ?_⟩
  rw [Around.under_plainId F.plain_list_iadd _]
  have hS1 : (s.heap.push { cls := .type "list", data := .seq ([] : List Value).toArray }).get? s.heap.objs.size = some { cls := .type "list", data := .seq #[] } := Heap.get?_push_size _ rfl
  have sz1 : (s.heap.push { cls := .type "list", data := .seq ([] : List Value).toArray }).objs.size = s.heap.objs.size + 1 := Heap.size_push _ _
  show wpAny _ A.in1 (Builtin.List.listExtendWith (.ref s.heap.objs.size) (.ref a) (.ref s.heap.objs.size)) _ _ _
  have hT : Shared.TypeIs { s with heap := s.heap.push { cls := .type "list", data := .seq ([] : List Value).toArray } } (.ref a) "set" := ⟨o, Heap.get?_push_of_some _ ho, hex.1⟩
  unfold Builtin.List.listExtendWith
  refine wpAny_bind (wpAny_typeOf (T := "set") hT ?_)
  have h1 : Builtin.List.listSameRef (.ref s.heap.objs.size) (.ref a) = false := by simp [Builtin.List.listSameRef]; exact Nat.ne_of_gt la
  have h2 : (Value.type "set" == Value.type "list") = false := by decide
  have h3 : (Value.type "set" == Value.type "tuple") = false := by decide
  simp only [h1, h2, h3, Bool.or_false, Bool.false_eq_true, if_false]
  refine wpAny_bind (iter_walk (SetP.push hP) fun I fp n l St s2 W st0 hn hb hel hpm hI hfp hk hs2 => ?_)
  obtain ⟨hp, d, rfl⟩ := hs2
  refine wpAny_bind (wpAny_holding (set_hint (let ⟨o', ho', hc'⟩ := hT; ⟨o', hk _ _ ho', hc'⟩) ?_))
  refine wpAny_ite_split (fun _ => ?_) (fun hab => absurd (by decide +kernel) hab)
  refine wpAny_bind (wpAny_rule ?_)
  refine wpAny_bind ?_
  show wpAny _ _ (updateSeq s.heap.objs.size (·.push .none) >>= fun _ => updateSeq s.heap.objs.size (·.pop)) _ _ _
  have g1 := hk _ _ hS1
  refine wpAny_bind (wpAny_updateSeq g1 rfl ?_)
  have g2 := Heap.get?_update_self (Obj.mapSeq (·.push Value.none)) g1 rfl
  refine wpAny_updateSeq (hz := by seq_fits) g2 rfl ?_
  have g3 := Heap.get?_update_self (Obj.mapSeq (·.pop)) g2 rfl
  have nS : s.heap.objs.size ∉ fp := fun z => by
    have e := hfp _ z (by show s.heap.objs.size < (s.heap.push _).objs.size; rw [Heap.size_push]; exact Nat.lt_succ_self _)
    exact absurd la (by rw [e]; exact Nat.lt_irrefl _)
  have hh1 : A.in1.handled = none := hh
  have oth : ∀ b o, b ≠ s.heap.objs.size → hp.get? b = some o → ((hp.update s.heap.objs.size (Obj.mapSeq (·.push Value.none))).update s.heap.objs.size (Obj.mapSeq (·.pop))).get? b = some o := fun b o nb e =>
    (Heap.get?_update_other _ _ (Ne.symm nb)).trans ((Heap.get?_update_other _ _ (Ne.symm nb)).trans e)
  have nz : n ≤ sizeLine := by rw [hn]; exact fits_of_scanBound hb
  have st3 := (W _ hh1).frame 0 { s with heap := hp, drawn := d } ((hp.update s.heap.objs.size (Obj.mapSeq (·.push Value.none))).update s.heap.objs.size (Obj.mapSeq (·.pop))) s.toks st0 (Nat.le_refl _) fun b hbf o e => oth b o (fun z => nS (z ▸ hbf)) e
  refine wpAny_pure ⟨plainId_quiet F.plain_extend_loop _, codeAny_extend_loopS (W _ hh1) nz s.heap.objs.size nS _ n 0 _ _ _ (Nat.sub_zero _) (Nat.zero_le _) st3 g3 (ItemsOf.nil _) fun s' acc c hm hS' hacc => ?_⟩
  obtain ⟨hp', g', d', tk', os'⟩ := s'
  have eg : g' = s.gens := hm.gens
  have ed : d' = d := hm.drawn
  have eo : os' = s.os := hm.os
  subst eg
  subst ed
  subst eo
  show wpAny _ A (load s.heap.objs.size >>= _) _ _ _
  refine wpAny_bind (wpAny_load hS' ?_)
  refine wpAny_pure ?_
  have hl : acc.toList = l.map (·.2) := items_list (by rw [List.length_map, ← hn]; exact hacc)
  rw [hl]
  refine h l hp' d' tk' hel hpm hb (fun b o e => ?_) ?_
  · have lb : b < s.heap.objs.size := Heap.lt_size e
    refine hm.heap b o ?_ (oth b o (Nat.ne_of_lt lb) (hk _ _ (Heap.get?_push_of_some _ e)))
    simp only [List.mem_cons, List.mem_singleton, List.not_mem_nil, or_false, not_or]
    refine ⟨Nat.ne_of_lt lb, fun z => ?_⟩
    have hI' : (s.heap.push { cls := .type "list", data := .seq ([] : List Value).toArray }).objs.size ≤ I := hI
    rw [sz1] at hI'
    rw [← z] at hI'
    exact absurd lb (Nat.not_lt.mpr (Nat.le_trans (Nat.le_succ _) hI'))
  · exact Nat.le_of_lt (Heap.lt_size hS')
end
end L39


set_option maxRecDepth 100000
set_option linter.all false
set_option maxHeartbeats 1600000
set_option Elab.async false
namespace L40
open PySem PySem.Spec PySem.W PyProof.Rows L2 L3 X8 M01 L6 L5 QL L8 L9 L10 L13 L20 L21 L22 L23 L24 L25 L26 L27 L28 L30 L31 L32 L39
theorem ints_of_elems {prog : Program} {w : World} : ∀ {l : List (Int × Value)}, ElemsOf (intKind prog w) l → IntsAre (l.map (·.2)) (l.map num)
  | [], _ => .nil
  | e :: r, h => by
    have i := is_num h (List.mem_cons_self)
    obtain ⟨t, ht⟩ := Value.isInt_shape (show Value.isInt (num e) e.2 = true from i)
    rw [List.map_cons, List.map_cons, ht]
    exact .cons _ t (ints_of_elems fun x hx => h x (List.mem_cons_of_mem _ hx))
/-- the numbers, each once -/
def ded (ns : List Int) : List Int := firstMet (fun i => ns.getD i 0) ns.length
theorem mem_ded {ns : List Int} {x : Int} : x ∈ ded ns ↔ x ∈ ns := by
  unfold ded
  have h := firstMet_any (fun i => ns.getD i 0) ns.length x
  have e : (List.range ns.length).map (fun i => ns.getD i 0) = ns := by
    refine List.ext_getElem (by simp) fun j h1 h2 => ?_
    rw [List.getElem_map, List.getElem_range, List.getD_eq_getElem?_getD, List.getElem?_eq_getElem h2]
    rfl
  rw [e] at h
  constructor
  · intro z
    have z1 : ns.any (· == x) = true := by rw [← h]; exact List.any_eq_true.mpr ⟨x, z, beq_self_eq_true x⟩
    obtain ⟨y, hy, ey⟩ := List.any_eq_true.mp z1
    rw [← eq_of_beq ey]
    exact hy
  · intro z
    have z1 : (firstMet (fun i => ns.getD i 0) ns.length).any (· == x) = true := by rw [h]; exact List.any_eq_true.mpr ⟨x, z, beq_self_eq_true x⟩
    obtain ⟨y, hy, ey⟩ := List.any_eq_true.mp z1
    rw [← eq_of_beq ey]
    exact hy
theorem ded_len (ns : List Int) : (ded ns).length ≤ ns.length := firstMet_length_le _ _
section
variable {X : Cx}
def setV (prog : Program) (w : World) (a : Addr) (ns : List Int) : HO := .ext fun h => SetP prog w (ledB w) h a ns
/-- set(a list of ints) -/
theorem call_setL (hc : X.calm = true) : CallR X (.type "set") (fun xs H Q => ∃ (l : Addr) (ns : List Int), xs = [.ref l] ∧ H l = some (.lst (ns.map V.int)) ∧ ns.length ≤ 1000 ∧ ∀ a, H a = none → Q (.ref a) (upd H a (setV X.prog X.w a (ded ns)))) := by
  intro pins s σ H xs us Q I r h
  obtain ⟨l, ns, rfl, hl, hn, q⟩ := h
  obtain ⟨u, rfl, ru⟩ := vals1 r
  cases ru
  obtain ⟨its, n, rv, ho, _⟩ := I.lst hl
  have ln := rv.length
  rw [List.length_map] at ln
  have sz : its.toArray.size = ns.length := by rw [List.size_toArray]; exact ln.symm
  refine call_set_p (ns := ns) (I.ok.hd hc) ⟨_, ho, rfl, n, rfl⟩ (by rw [List.toList_toArray]; exact ints_of_vals rv) (by rw [sz]; show _ < 4096; omega) fun h' tk P k => ?_
  rw [sz] at P
  refine ⟨.ref s.heap.objs.size, _, I.laid (a := s.heap.objs.size) (o := setV X.prog X.w s.heap.objs.size (ded ns)) (t' := tk) k (Nat.le_refl _) ⟨P, ?_, fun h1 h2 ⟨o, es, ep, t, ho, r⟩ k => ⟨o, es, ep, t, k o ho, r⟩⟩, rfl, q _ (I.hok.fresh (Nat.le_refl _))⟩
  exact let ⟨o, _, _, _, ho, _⟩ := P; ⟨o, ho⟩
/-- sorted(a set of fewer than 64 ints) -/
theorem call_sortedS (hc : X.calm = true) : CallR X (.builtin "sorted") (fun xs H Q => ∃ (a : Addr) (ns : List Int), xs = [.ref a] ∧ H a = some (setV X.prog X.w a ns) ∧ ns.length < 64 ∧ ∀ (l' : Addr) (ns' : List Int), H l' = none → ns'.Perm ns → ns'.Pairwise (· ≤ ·) → Q (.ref l') (upd H l' (.lst (ns'.map V.int)))) := by
  intro pins s σ H xs us Q I r h
  obtain ⟨a, ns, rfl, ha, hn, q⟩ := h
  obtain ⟨u, rfl, ru⟩ := vals1 r
  cases ru
  have P : SetP X.prog X.w (ledB X.w) s.heap a ns := (show ObjOk X.prog X.w H s.heap a (setV X.prog X.w a ns) from I.hok a _ ha).1
  have hh : X.A.in1.handled = none := I.ok.hd hc
  refine Calls.call_function_entry kind_sorted plain_sorted entry_sorted (args_sorted1 _) ?_
  unfold Builtin.«sorted»
  refine wpAny_bind (m := checkCount "sorted" 1 1 _) (wpAny_pure ?_)
  refine wpAny_bind (collect_set (A := X.A.in1) hh P fun l hp d tk hel hpm hb kp hz => ?_)
  have ln : (l.map (·.2)).length = ns.length := by rw [List.length_map, ← hpm.length_eq, List.length_map]
  refine wpAny_bind (wpAny_newList ?_ (by rw [sizeLine_eq]; omega))
  have hoL : (hp.push (seqObj "list" (l.map (·.2)).toArray 0)).get? hp.objs.size = some (seqObj "list" (l.map (·.2)).toArray 0) := Heap.get?_push_size _ rfl
  show wpAny _ _ _ _ _ { s with heap := hp.push (seqObj "list" (l.map (·.2)).toArray 0), drawn := d, toks := tk }
  refine wpAny_bind (wpAny_holding (wpAny_call_entry slot_list_sort ⟨_, hoL, rfl⟩ entry_list_sort (list_sort_tree (s := { s with heap := hp.push (seqObj "list" (l.map (·.2)).toArray 0), drawn := d, toks := tk }) hoL (ints_of_elems hel) (by omega) fun out ns' a1 a2 a3 => ⟨_, rfl, ?_⟩) (args_list_sort _)))
  refine wpAny_pure ⟨_, rfl, ?_⟩
  have J : Inv X pins σ H { s with drawn := d } := ⟨I.ok, I.os, I.bare, I.base, I.loc, I.cell, I.free, I.freeC, I.pin, I.hok, I.len⟩
  obtain ⟨e, he⟩ := sortedHeap_at (out := out) hoL
  have kk : ∀ b o, s.heap.get? b = some o → (sortedHeap (hp.push (seqObj "list" (l.map (·.2)).toArray 0)) hp.objs.size (l.map (·.2)) out).get? b = some o := fun b o x => by
    have y := kp b o x
    have lt := Heap.lt_size y
    rw [sortedHeap_old (Nat.ne_of_lt lt) (by rw [Heap.size_push]; exact Nat.lt_succ_of_lt lt)]
    exact Heap.get?_push_of_some _ y
  have hl2 : (ns'.map V.int).length ≤ sizeLine := by rw [List.length_map, a2.length_eq, List.length_map, sizeLine_eq]; rw [List.length_map] at ln; omega
  refine ⟨.ref hp.objs.size, _, J.laid (a := hp.objs.size) (o := .lst (ns'.map V.int)) (t' := tk) kk hz ⟨hl2, out.toList, e, vals_of_ints a1, ?_⟩, rfl, q _ ns' (I.hok.fresh hz) (a2.trans hpm) a3⟩
  rw [Array.toArray_toList]
  exact he
end
end L40


set_option maxRecDepth 100000
set_option linter.all false
set_option maxHeartbeats 1600000
set_option Elab.async false
namespace L41
open PySem PySem.Spec PySem.W PyProof.Rows L2 L3 X8 M01 L6 L5 QL L8 L9 L10 L13 L20 L21 L22 L23 L24 L25 L26 L27 L28 L30 L31 L32 L39 L40
section
variable {prog : Program} {w : World} {A : Around} {E : Value → Shared → Prop} {s : Shared} {T : String} {r d : Addr} {n : Nat} {P : Nat → Value → Prop} {OK : Heap → Prop}
end
section
variable {X : Cx}
end
end L41


set_option maxRecDepth 100000
set_option linter.all false
set_option maxHeartbeats 1000000
set_option Elab.async false
namespace L42
open PySem PySem.Spec PyProof.Rows L2 L3 X8 M01 L6 L5 QL L8 L20
/-! ### comprehensions with one name as target and a filter -/
theorem hu_d {A : Around} {k d : Nat} (hr : Room k A) (hd : d ≤ 64) : A.units + d < cLine := Nat.lt_of_le_of_lt (Nat.add_le_add_left hd _) hr.units
theorem call_len_seqK {X : Cx} {K : PySem.W.Frag} (h : X.K = K) : CallR X (.builtin "len") (fun xs H Q => ∃ p ys, xs = [V.ref p] ∧ (SqL K H p ys ∨ SqT K H p ys) ∧ Q (V.int ys.length) H) := h ▸ call_len_seq
end L42


set_option maxRecDepth 100000
set_option linter.all false
set_option maxHeartbeats 800000
set_option Elab.async false
namespace K31
open PySem L2 L3 X8 M01 L6 L5 QL
def top (i : Nat) : Stmt := PySem.Challenge.pw_scruplehouse_k31_plans_without_steps.main.body.getD i (.Pass ⟨0, 0, 0, 0⟩)
abbrev si_NoNumber : Stmt := inClass (top 2) 0
abbrev s_greatest_divisor : Stmt := top 4
abbrev s_fraction : Stmt := top 5
abbrev s_plus : Stmt := top 6
abbrev s_minus : Stmt := top 7
abbrev s_times : Stmt := top 8
abbrev s_over : Stmt := top 9
abbrev s_under : Stmt := top 10
abbrev s_weighed : Stmt := top 13
abbrev s_product : Stmt := top 14
abbrev s_share : Stmt := top 15
abbrev s_mixed : Stmt := top 16
abbrev s_least_mixture : Stmt := top 17
abbrev s_is_there : Stmt := top 18
abbrev s_lies_within : Stmt := top 19
abbrev s_numbers_of : Stmt := top 21
abbrev s_last_of : Stmt := top 22
abbrev s_fillers_of : Stmt := top 23
abbrev s_price_of : Stmt := top 24
abbrev s_ways_to_mix : Stmt := top 26
abbrev s_portions_of : Stmt := top 27
abbrev s_better_offer : Stmt := top 28
abbrev s_rows_of : Stmt := top 29
abbrev s_cheapest : Stmt := top 30
abbrev s_law_cell : Stmt := top 32
abbrev s_law_pick : Stmt := top 33
abbrev s_law_ratio : Stmt := top 34
abbrev s_law_mul : Stmt := top 35
abbrev s_law_less : Stmt := top 36
abbrev s_law_amounts : Stmt := top 37
abbrev s_law_error : Stmt := top 38
abbrev s_law_prices : Stmt := top 39
abbrev s_law_off : Stmt := top 40
abbrev s_law_strength : Stmt := top 41
abbrev s_law_span : Stmt := top 42
abbrev s_law_plan : Stmt := top 43
abbrev s_law_wanted : Stmt := top 44
abbrev s_law_whole : Stmt := top 45
abbrev s_law_is_plan : Stmt := top 46
abbrev s_law_due : Stmt := top 47
abbrev s_law : Stmt := top 48
open L8 L9 L10 L11 L13 L20 L21 L22 L40 L41 L42 L44 M11
theorem kit_bi (K : PySem.W.Frag) (T U : String) (b : Bool) (h : (if (Value.type T == Value.type U) = true then some true else (if PySem.W.kitMeta U = true then (fastBuiltinMro T).map (·.contains (.type U)) else none)) = some b) :
    PySem.W.kitOne K (.type T) (.type U) = some b := h
theorem sc_NoNumber : FnScope ["self", "number"] ["self", "number"] (defScope si_NoNumber) := ⟨rfl, rfl, rfl, by decide +kernel, rfl, by decide +kernel, by decide +kernel⟩
theorem xr_NoNumber {P : Program} {w : World} {K : PySem.W.Frag} {mg : Str → Option Value} {base : Heap} {S C : Addr} (B : XB K mg S) (N : XC K mg S "NoNumber" "number" "NoNumber.__init__" si_NoNumber C) : XR P w K mg base S "NoNumber" "number" C := by
  obtain ⟨f, fd, ai, iI, F⟩ := N.i
  refine ⟨N.m, N.c, N.na, f, fd, "number", ai, iI, ?_, F.binds (ps := ["self", "number"]) fun _ _ _ _ _ _ us hl => match us, hl with | [_, _], _ => rfl⟩
  refine F.ok sc_NoNumber (fun vs H Q E h => ?_) (fun cdv A outer s H vs Q E hr h => ?_)
  · obtain ⟨e, y, rfl, _⟩ := h
    rfl
  · obtain ⟨e, y, rfl, he, k⟩ := h
    refine ⟨_, pss_cons (ps_expr (pe_xbase rfl B.m B.b (pa_cons (pv 0) (pa_cons pe_str pa_nil)))) (pss_one (ps_xfld (pv 0) (pv 1) rfl)), ?_⟩
    refine ⟨_, rfl, e, C, S, _, rfl, he, N.c, ?_⟩
    refine ⟨_, rfl, _, rfl, e, C, S, rfl, upd_same, N.c, N.na, fun dx nd ne => ?_⟩
    rw [upd_ne ne] at nd
    have q := k dx nd ne
    have eq : upd (upd (upd H e (XRaw e C)) dx (HO.xd [("number", y)])) e (XDct e C dx) = upd (upd H dx (HO.xd [("number", y)])) e (XDct e C dx) := by
      funext z
      by_cases h1 : z = e
      · subst h1; rw [upd_same, upd_same]
      · rw [upd_ne h1, upd_ne h1]
        by_cases h2 : z = dx
        · subst h2; rw [upd_same, upd_same]
        · rw [upd_ne h2, upd_ne h2, upd_ne h1]
    show Q .non _
    rw [eq]
    exact q
section
variable {P : Program} {w : World} {K : PySem.W.Frag} {mg : Str → Option Value} {base : Heap} {S C : Addr}
/-! ### greatest_divisor -/
def spG : Sp := fun vs H Q _ => ∃ a b : Int, vs = [.int a, .int b] ∧ 0 ≤ a ∧ 0 ≤ b ∧ Q (.int (gz a b)) H
theorem scG : FnScope ["one", "other", "rest"] ["one", "other"] (defScope s_greatest_divisor) := ⟨rfl, rfl, rfl, by decide +kernel, rfl, by decide +kernel, by decide +kernel⟩
theorem d_gcd (T : Th K mg "greatest_divisor" s_greatest_divisor) : Def P w K mg base CX0 1 "greatest_divisor" ["one", "other"] spG := by
  refine QL.def_of T (fun _ _ _ _ _ _ us hl => match us, hl with | [_, _], _ => rfl) scG (fun vs H Q E h => ?_) (fun f cdv A outer s H vs Q E hr h => ?_)
  · obtain ⟨a, b, rfl, _⟩ := h
    rfl
  · obtain ⟨a, b, rfl, ha, hb, k⟩ := h
    refine ⟨_, (qss_cons (qs_while PassesOwn.never (qt_cmpR op_gt (qv 1) qe_int (nomark _)) (qss_cons (qs_set (i := 2) scG.nd rfl (Or.inl rfl) (qe_op op_mod (qv 0) (qv 1)))
      (qss_cons (qs_set (i := 0) scG.nd rfl (Or.inl rfl) (qv 1))
      (qss_one (qs_set (i := 1) scG.nd rfl (Or.inl rfl) (qv 2))))))
      (qss_one (qs_ret (qv 0)))), ?_⟩
    refine while_by (fun σ H1 => ∃ a1 b1 r, σ = [some (.int a1), some (.int b1), r] ∧ H1 = H ∧ 0 ≤ a1 ∧ 0 ≤ b1 ∧ gz a1 b1 = gz a b) (fun σ _ => match σ with | [_, some (.int b1), _] => b1.toNat | _ => 0) ⟨a, b, none, rfl, rfl, ha, hb, rfl⟩ ?_ ?_
    · rintro σ H1 ⟨a1, b1, r, rfl, rfl, h1, h2, e⟩
      refine ⟨_, rfl, _, _, rfl, rfl, _, rfl, ?_⟩
      refine ite2 (fun q => ?_) (fun q => ?_)
      · have q' : 0 < b1 := of_decide_eq_true q
        refine ⟨_, rfl, _, rfl, _, _, rfl, rfl, q', _, rfl, _, rfl, ⟨b1, a1 % b1, _, rfl, rfl, h2, Int.emod_nonneg _ (by omega), by rw [gz_step h1 q']; exact e⟩, ?_⟩
        show (a1 % b1).toNat < b1.toNat
        have z1 := Int.emod_lt_of_pos a1 q'
        have z2 := Int.emod_nonneg a1 (show b1 ≠ 0 by omega)
        omega
      · have q' : ¬ (0 < b1) := fun z => q (decide_eq_true z)
        have b0 : b1 = 0 := by omega
        subst b0
        refine ⟨_, rfl, ?_⟩
        show Q (.int a1) H1
        rw [gz_end h1] at e
        rw [e]
        exact k
    · rintro σ H1 Q1 Q2 kq ⟨v, e, i, j, q1, q2, c, q3, q⟩
      exact ⟨v, e, i, j, q1, q2, c, q3, kq _ _ q⟩
/-! ### fraction -/
def spF (C : Addr) : Sp := fun vs H Q E => ∃ t b : Int, vs = [.int t, .int b] ∧ Big b ∧ (b ≠ 0 → ∀ p, H p = none → Q (.ref p) (upd H p (.tup [.int (ft t b), .int (fb t b)]))) ∧
  (b = 0 → ∀ dx, H dx = none → E (.ref C) (some dx) (upd H dx (.xd [("number", .int t)])))
theorem scF : FnScope ["top", "bottom", "divisor"] ["top", "bottom"] (defScope s_fraction) := ⟨rfl, rfl, rfl, by decide +kernel, rfl, by decide +kernel, by decide +kernel⟩
theorem d_fr (T : ThD K mg "fraction" s_fraction "top" "bottom" 1) (dG : Def P w K mg base CX0 1 "greatest_divisor" ["one", "other"] spG) (rNoNumber : XR P w K mg base S "NoNumber" "number" C) (zabs : mg "abs" = none) :
    DefD P w K mg base (CXe P w) 3 "fraction" ["top", "bottom"] 1 (spF C) := by
  obtain ⟨f, fd, tk, F, m, b2, b1⟩ := T
  refine ⟨f, fd, tk, ?_, b2, b1, m, F.kp⟩
  obtain ⟨oc, od, dV, kV, doc, pm, an, cdv, ct, osl, rfl, lk, hcd⟩ := F.ex
  refine fn_of lk hcd scF (fun vs H Q E h => ?_) fun A outer s H vs Q E hr h => ?_
  · obtain ⟨t, b, rfl, _⟩ := h
    rfl
  · obtain ⟨t, b, rfl, bb, k1, k2⟩ := h
    refine ⟨_, QSs.h (qss_cons (qs_if (qt_cmpR op_eq (qv 1) qe_int (nomark _)) (qss_one (qs_raiseD rNoNumber (hr.mono (by decide)) rfl catches_def (qv 0) rfl)) qss_nil)
      (qss_cons (qs_set (i := 2) scF.nd rfl (Or.inl rfl) (qe_callD dG (hr.mono (by decide)) rfl pass0 (qa_cons (qe_callB call_abs (by rfl) zabs PyProof.Rows.boot_abs (qa_cons (qv 0) qa_nil)) (qa_cons (qe_callB call_abs (by rfl) zabs PyProof.Rows.boot_abs (qa_cons (qv 1) qa_nil)) qa_nil))))
      (qss_cons (qs_if (qt_cmpR op_lt (qv 1) qe_int (nomark _)) (qss_one (qs_set (i := 2) scF.nd rfl (Or.inl rfl) (qe_un un_neg (qv 2)))) qss_nil)
      (qss_one (qs_ret (qe_tup (qa_cons (qe_op op_fdivB (qv 0) (qv 2)) (qa_cons (qe_op op_fdivB (qv 1) (qv 2)) qa_nil)))))))), ?_⟩
    refine ⟨_, rfl, rfl, _, rfl, ?_⟩
    by_cases b0 : b = 0
    · subst b0
      refine iteT ?_
      exact ⟨_, rfl, k2 rfl⟩
    · rw [show (decide (V.int b = V.int 0)) = false from decide_eq_false (fun z => b0 (by injection z))]
      refine iteF ?_
      refine ⟨_, rfl, _, rfl, _, rfl, _, rfl, ab t, ab b, rfl, ab_nn _, ab_nn _, ?_⟩
      refine ⟨_, rfl, _, _, rfl, rfl, _, rfl, ?_⟩
      have fin : ∀ σ : L2.St, σ = [some (.int t), some (.int b), some (.int (dv t b))] → (tRet (tTup (tCons (tOp (rI (fun i j => j ≠ 0 ∧ Big j) fun i j => .int (i.fdiv j)) (tVar 0) (tVar 2)) (tCons (tOp (rI (fun i j => j ≠ 0 ∧ Big j) fun i j => .int (i.fdiv j)) (tVar 1) (tVar 2)) tNil)))) { nx := fun _ H' => Q .non H', rt := Q } σ H := by
        rintro σ rfl
        have d0 : dv t b ≠ 0 := dv_ne b0
        have dB : Big (dv t b) := Big.le (dv_le b0) bb
        exact ⟨_, rfl, _, rfl, _, _, rfl, rfl, ⟨d0, dB⟩, _, rfl, _, rfl, _, _, rfl, rfl, ⟨d0, dB⟩, (by show 2 ≤ sizeLine; decide), fun p np => k1 b0 p np⟩
      refine ite2 (fun q => ?_) (fun q => ?_)
      · have q' : b < 0 := of_decide_eq_true q
        refine ⟨_, rfl, _, rfl, ?_⟩
        refine fin _ ?_
        show [some (V.int t), some (V.int b), some (V.int (-(gz (ab t) (ab b))))] = _
        rw [show dv t b = -(gz (ab t) (ab b)) from by unfold dv; rw [if_pos q']]
      · have q' : ¬ b < 0 := fun z => q (decide_eq_true z)
        refine fin _ ?_
        show [some (V.int t), some (V.int b), some (V.int (gz (ab t) (ab b)))] = _
        rw [show dv t b = gz (ab t) (ab b) from by unfold dv; rw [if_neg q']]
def spBin (K : PySem.W.Frag) (N M : Int → Int → Int → Int → Int) (G : Int → Prop) : Sp := fun vs H Q _ => ∃ (p q : Addr) (a b c d : Int), vs = [.ref p, .ref q] ∧ SqT K H p [.int a, .int b] ∧ SqT K H q [.int c, .int d] ∧ (Sz 500 a ∧ Sz 500 b ∧ Sz 500 c ∧ Sz 500 d) ∧ 0 < b ∧ 0 < d ∧ G c ∧
  ∀ r x y, H r = none → Fq x y (N a b c d) (M a b c d) → Q (.ref r) (upd H r (.tup [.int x, .int y]))
abbrev spPl (K : PySem.W.Frag) : Sp := spBin K (fun a b c d => a * d + c * b) (fun _ b _ d => b * d) (fun _ => True)
abbrev spMi (K : PySem.W.Frag) : Sp := spBin K (fun a b c d => a * d - c * b) (fun _ b _ d => b * d) (fun _ => True)
abbrev spTi (K : PySem.W.Frag) : Sp := spBin K (fun a _ c _ => a * c) (fun _ b _ d => b * d) (fun _ => True)
abbrev spOv (K : PySem.W.Frag) : Sp := spBin K (fun a _ _ d => a * d) (fun _ b c _ => b * c) (fun c => 0 < c)
theorem b500 {x : Int} (h : Sz 500 x) : Big x := h.big (by decide)
theorem b1000 {x y : Int} (h : Sz 500 x) (k : Sz 500 y) : Big (x * y) := (h.mul k).big (by decide)
theorem scPl : FnScope ["one", "other"] ["one", "other"] (defScope s_plus) := ⟨rfl, rfl, rfl, by decide +kernel, rfl, by decide +kernel, by decide +kernel⟩
theorem d_plus (T : Th K mg "plus" s_plus) (dFr : DefD P w K mg base (CXe P w) 3 "fraction" ["top", "bottom"] 1 (spF C)) : Def P w K mg base (CXe P w) 4 "plus" ["one", "other"] (spPl K) := by
  refine QL.def_ofX T (fun _ _ _ _ _ _ us hl => match us, hl with | [_, _], _ => rfl) scPl (fun vs H Q E h => ?_) (fun f cdv A outer s H vs Q E hr h => ?_)
  · obtain ⟨p, q, a, b, c, d, rfl, _⟩ := h
    rfl
  · obtain ⟨p, q, a, b, c, d, rfl, hp, hq, ⟨za, zb, zc, zd⟩, b0, d0, _, k⟩ := h
    refine ⟨_, (qss_one (qs_ret (qe_callD dFr.all (hr.mono (by decide)) rfl pass1 (qa_cons (qe_op op_add (qe_op op_mulB (qe_ix ix_tup (qv 0) qe_int (fun _ _ => rfl)) (qe_ix ix_tup (qv 1) qe_int (fun _ _ => rfl))) (qe_op op_mulB (qe_ix ix_tup (qv 1) qe_int (fun _ _ => rfl)) (qe_ix ix_tup (qv 0) qe_int (fun _ _ => rfl)))) (qa_cons (qe_op op_mulB (qe_ix ix_tup (qv 0) qe_int (fun _ _ => rfl)) (qe_ix ix_tup (qv 1) qe_int (fun _ _ => rfl))) qa_nil))))), ?_⟩
    have md : 0 < b * d := Int.mul_pos b0 d0
    refine ⟨_, rfl, p, _, _, _, rfl, rfl, hp, rfl, ?_⟩
    refine ⟨_, rfl, q, _, _, _, rfl, rfl, hq, rfl, ?_⟩
    refine ⟨_, _, rfl, rfl, ⟨b500 za, b500 zd⟩, ?_⟩
    refine ⟨_, rfl, q, _, _, _, rfl, rfl, hq, rfl, ?_⟩
    refine ⟨_, rfl, p, _, _, _, rfl, rfl, hp, rfl, ?_⟩
    refine ⟨_, _, rfl, rfl, ⟨b500 zc, b500 zb⟩, _, _, rfl, rfl, ?_⟩
    refine ⟨_, rfl, p, _, _, _, rfl, rfl, hp, rfl, ?_⟩
    refine ⟨_, rfl, q, _, _, _, rfl, rfl, hq, rfl, ?_⟩
    refine ⟨_, _, rfl, rfl, ⟨b500 zb, b500 zd⟩, ?_⟩
    exact ⟨_, _, rfl, b1000 zb zd, fun _ r hr => k r _ _ hr (fq _ md), fun z => absurd z (by omega)⟩
theorem scMi : FnScope ["one", "other"] ["one", "other"] (defScope s_minus) := ⟨rfl, rfl, rfl, by decide +kernel, rfl, by decide +kernel, by decide +kernel⟩
theorem d_minus (T : Th K mg "minus" s_minus) (dFr : DefD P w K mg base (CXe P w) 3 "fraction" ["top", "bottom"] 1 (spF C)) : Def P w K mg base (CXe P w) 4 "minus" ["one", "other"] (spMi K) := by
  refine QL.def_ofX T (fun _ _ _ _ _ _ us hl => match us, hl with | [_, _], _ => rfl) scMi (fun vs H Q E h => ?_) (fun f cdv A outer s H vs Q E hr h => ?_)
  · obtain ⟨p, q, a, b, c, d, rfl, _⟩ := h
    rfl
  · obtain ⟨p, q, a, b, c, d, rfl, hp, hq, ⟨za, zb, zc, zd⟩, b0, d0, _, k⟩ := h
    refine ⟨_, (qss_one (qs_ret (qe_callD dFr.all (hr.mono (by decide)) rfl pass1 (qa_cons (qe_op op_sub (qe_op op_mulB (qe_ix ix_tup (qv 0) qe_int (fun _ _ => rfl)) (qe_ix ix_tup (qv 1) qe_int (fun _ _ => rfl))) (qe_op op_mulB (qe_ix ix_tup (qv 1) qe_int (fun _ _ => rfl)) (qe_ix ix_tup (qv 0) qe_int (fun _ _ => rfl)))) (qa_cons (qe_op op_mulB (qe_ix ix_tup (qv 0) qe_int (fun _ _ => rfl)) (qe_ix ix_tup (qv 1) qe_int (fun _ _ => rfl))) qa_nil))))), ?_⟩
    have md : 0 < b * d := Int.mul_pos b0 d0
    refine ⟨_, rfl, p, _, _, _, rfl, rfl, hp, rfl, ?_⟩
    refine ⟨_, rfl, q, _, _, _, rfl, rfl, hq, rfl, ?_⟩
    refine ⟨_, _, rfl, rfl, ⟨b500 za, b500 zd⟩, ?_⟩
    refine ⟨_, rfl, q, _, _, _, rfl, rfl, hq, rfl, ?_⟩
    refine ⟨_, rfl, p, _, _, _, rfl, rfl, hp, rfl, ?_⟩
    refine ⟨_, _, rfl, rfl, ⟨b500 zc, b500 zb⟩, _, _, rfl, rfl, ?_⟩
    refine ⟨_, rfl, p, _, _, _, rfl, rfl, hp, rfl, ?_⟩
    refine ⟨_, rfl, q, _, _, _, rfl, rfl, hq, rfl, ?_⟩
    refine ⟨_, _, rfl, rfl, ⟨b500 zb, b500 zd⟩, ?_⟩
    exact ⟨_, _, rfl, b1000 zb zd, fun _ r hr => k r _ _ hr (fq _ md), fun z => absurd z (by omega)⟩
theorem scTi : FnScope ["one", "other"] ["one", "other"] (defScope s_times) := ⟨rfl, rfl, rfl, by decide +kernel, rfl, by decide +kernel, by decide +kernel⟩
theorem d_times (T : Th K mg "times" s_times) (dFr : DefD P w K mg base (CXe P w) 3 "fraction" ["top", "bottom"] 1 (spF C)) : Def P w K mg base (CXe P w) 4 "times" ["one", "other"] (spTi K) := by
  refine QL.def_ofX T (fun _ _ _ _ _ _ us hl => match us, hl with | [_, _], _ => rfl) scTi (fun vs H Q E h => ?_) (fun f cdv A outer s H vs Q E hr h => ?_)
  · obtain ⟨p, q, a, b, c, d, rfl, _⟩ := h
    rfl
  · obtain ⟨p, q, a, b, c, d, rfl, hp, hq, ⟨za, zb, zc, zd⟩, b0, d0, _, k⟩ := h
    refine ⟨_, (qss_one (qs_ret (qe_callD dFr.all (hr.mono (by decide)) rfl pass1 (qa_cons (qe_op op_mulB (qe_ix ix_tup (qv 0) qe_int (fun _ _ => rfl)) (qe_ix ix_tup (qv 1) qe_int (fun _ _ => rfl))) (qa_cons (qe_op op_mulB (qe_ix ix_tup (qv 0) qe_int (fun _ _ => rfl)) (qe_ix ix_tup (qv 1) qe_int (fun _ _ => rfl))) qa_nil))))), ?_⟩
    have md : 0 < b * d := Int.mul_pos b0 d0
    refine ⟨_, rfl, p, _, _, _, rfl, rfl, hp, rfl, ?_⟩
    refine ⟨_, rfl, q, _, _, _, rfl, rfl, hq, rfl, ?_⟩
    refine ⟨_, _, rfl, rfl, ⟨b500 za, b500 zc⟩, ?_⟩
    refine ⟨_, rfl, p, _, _, _, rfl, rfl, hp, rfl, ?_⟩
    refine ⟨_, rfl, q, _, _, _, rfl, rfl, hq, rfl, ?_⟩
    refine ⟨_, _, rfl, rfl, ⟨b500 zb, b500 zd⟩, ?_⟩
    exact ⟨_, _, rfl, b1000 zb zd, fun _ r hr => k r _ _ hr (fq _ md), fun z => absurd z (by omega)⟩
end

section
variable {P : Program} {w : World} {K : PySem.W.Frag} {mg : Str → Option Value} {base : Heap} {S C : Addr}
/-! ### rooms -/
/-- a room in the heap -/
structure RoomAt (K : PySem.W.Frag) (H : Hp) (r : Addr) (a b c d : Int) : Prop where
  ex : ∃ x y, SqT K H r [.ref x, .ref y] ∧ SqT K H x [.int a, .int b] ∧ SqT K H y [.int c, .int d]
theorem RoomAt.mono {H H' : Hp} {r : Addr} {a b c d : Int} (s : Same H H') (h : RoomAt K H r a b c d) : RoomAt K H' r a b c d :=
  let ⟨x, y, h1, h2, h3⟩ := h.ex
  ⟨x, y, seqT s h1, seqT s h2, seqT s h3⟩
structure RoomH (H : Hp) (r : Addr) (a b c d : Int) : Prop where
  ex : ∃ x y, H r = some (.tup [.ref x, .ref y]) ∧ H x = some (.tup [.int a, .int b]) ∧ H y = some (.tup [.int c, .int d])
theorem RoomH.at {H : Hp} {r : Addr} {a b c d : Int} (h : RoomH H r a b c d) : RoomAt K H r a b c d :=
  let ⟨x, y, h1, h2, h3⟩ := h.ex
  ⟨x, y, SqT.of h1, SqT.of h2, SqT.of h3⟩
theorem groom_mk {h : Heap} {mg : Str → Option Value} {x : Str} {a b1 b2 : Addr} {o o1 o2 : Obj} {its its1 its2 : Array Value} {n n1 n2 : Nat} (X : K.In h) (G : h.Ns mainGlobals mg) (e : PySem.W.nsIn K mainGlobals x = some (some (.ref a))) (l : K.lookup a = some o) (c : o.cls = .type "tuple") (d : o.data = .seq its n) (z : its.size ≤ sizeLine) (v : Vals [.ref b1, .ref b2] its.toList)
    (l1 : K.lookup b1 = some o1) (c1 : o1.cls = .type "tuple") (d1 : o1.data = .seq its1 n1) (z1 : its1.size ≤ sizeLine) (v1 : Vals [.int 1, .int 1] its1.toList) (l2 : K.lookup b2 = some o2) (c2 : o2.cls = .type "tuple") (d2 : o2.data = .seq its2 n2) (z2 : its2.size ≤ sizeLine) (v2 : Vals [.int 1, .int 1] its2.toList) :
    ∃ a, mg x = some (.ref a) ∧ ∀ H, RoomAt K H a 1 1 1 1 :=
  ⟨a, PySem.W.mg_of X G e, fun H => ⟨b1, b2, .inr ⟨o, its, n, l, c, d, z, v⟩, .inr ⟨o1, its1, n1, l1, c1, d1, z1, v1⟩, .inr ⟨o2, its2, n2, l2, c2, d2, z2, v2⟩⟩⟩
def spWe (K : PySem.W.Frag) : Sp := fun vs H Q _ => ∃ (n : Int) (e : Addr) (p q : Int), vs = [.int n, .ref e] ∧ SqT K H e [.int p, .int q] ∧ Sz 40 n ∧ Sz 80 p ∧ Sz 40 q ∧ 0 < q ∧
  ∀ r a b c d H', Same H H' → Fq a b (n * q - p) q → Fq c d (n * q + p) q → RoomH H' r a b c d → Q (.ref r) H'
theorem scWe : FnScope ["number", "error", "grains"] ["number", "error"] (defScope s_weighed) := ⟨rfl, rfl, rfl, by decide +kernel, rfl, by decide +kernel, by decide +kernel⟩
theorem d_weighed (T : Th K mg "weighed" s_weighed) (dFr : DefD P w K mg base (CXe P w) 3 "fraction" ["top", "bottom"] 1 (spF C)) (dMi : Def P w K mg base (CXe P w) 4 "minus" ["one", "other"] (spMi K)) (dPl : Def P w K mg base (CXe P w) 4 "plus" ["one", "other"] (spPl K)) :
    Def P w K mg base (CXe P w) 5 "weighed" ["number", "error"] (spWe K) := by
  refine QL.def_ofX T (fun _ _ _ _ _ _ us hl => match us, hl with | [_, _], _ => rfl) scWe (fun vs H Q E h => ?_) (fun f cdv A outer s H vs Q E hr h => ?_)
  · obtain ⟨n, e, p, q, rfl, _⟩ := h
    rfl
  · obtain ⟨n, e, p, q, rfl, he, zn, zp, zq, q0, k⟩ := h
    refine ⟨_, (qss_cons (qs_set (i := 2) scWe.nd rfl (Or.inl rfl) (qe_callDef dFr (hr.mono (by decide)) rfl pass1 (qa_cons (qv 0) qa_nil)))
      (qss_one (qs_ret (qe_tup (qa_cons (qe_callD dMi (hr.mono (by decide)) rfl pass1 (qa_cons (qv 2) (qa_cons (qv 1) qa_nil))) (qa_cons (qe_callD dPl (hr.mono (by decide)) rfl pass1 (qa_cons (qv 2) (qa_cons (qv 1) qa_nil))) qa_nil)))))), ?_⟩
    refine ⟨_, rfl, n, 1, rfl, Big.of (by decide) (by decide), fun _ g hg => ?_, fun z => absurd z (by decide)⟩
    have f1 : ft n 1 = n ∧ fb n 1 = 1 := by
      have z := fq n (show (0 : Int) < 1 by decide)
      have z1 := z.szb
      have z2 := z.low.pos
      have z3 := z.eq
      have z4 : (1 : Int).natAbs = 1 := rfl
      have z5 : fb n 1 = 1 := by omega
      rw [z5] at z3
      exact ⟨by omega, z5⟩
    rw [f1.1, f1.2]
    have s1 := sameUpd (o := .tup [.int n, .int 1]) hg
    refine ⟨_, rfl, _, rfl, g, e, n, 1, p, q, rfl, SqT.of upd_same, seqT s1 he, ⟨zn.mono (by decide), (show Sz 500 1 from (show Sz 1 1 by unfold Sz; decide).mono (by decide)), zp.mono (by decide), zq.mono (by decide)⟩, by decide, q0, trivial, fun r1 a b h1 fa => ?_⟩
    have s2 := sameUpd (o := .tup [.int a, .int b]) h1
    refine ⟨_, rfl, _, rfl, g, e, n, 1, p, q, rfl, seqT s2 (SqT.of upd_same), seqT (s1.trans s2) he, ⟨zn.mono (by decide), (show Sz 500 1 from (show Sz 1 1 by unfold Sz; decide).mono (by decide)), zp.mono (by decide), zq.mono (by decide)⟩, by decide, q0, trivial, fun r2 c d h2 fc => ?_⟩
    have s3 := sameUpd (o := .tup [.int c, .int d]) h2
    refine ⟨(by show 2 ≤ sizeLine; decide), fun r hr => ?_⟩
    have s4 := sameUpd (o := .tup [.ref r1, .ref r2]) hr
    dsimp only at fa fc
    rw [Int.mul_one, Int.one_mul] at fa fc
    exact k r a b c d _ (((s1.trans s2).trans s3).trans s4) fa fc ⟨r1, r2, upd_same, s4 _ _ (s3 _ _ upd_same), s4 _ _ upd_same⟩
/-! ### product -/
def spPd (K : PySem.W.Frag) : Sp := fun vs H Q _ => ∃ (r1 r2 : Addr) (a b c d a' b' c' d' : Int), vs = [.ref r1, .ref r2] ∧ RoomAt K H r1 a b c d ∧ RoomAt K H r2 a' b' c' d' ∧ (Sz 500 a ∧ Sz 500 b ∧ Sz 500 c ∧ Sz 500 d) ∧ (Sz 500 a' ∧ Sz 500 b' ∧ Sz 500 c' ∧ Sz 500 d') ∧ (0 < b ∧ 0 < d) ∧ (0 < b' ∧ 0 < d') ∧
  ∀ r x y z v H', Same H H' → Fq x y (a * a') (b * b') → Fq z v (c * c') (d * d') → RoomH H' r x y z v → Q (.ref r) H'
theorem scPd : FnScope ["one", "other"] ["one", "other"] (defScope s_product) := ⟨rfl, rfl, rfl, by decide +kernel, rfl, by decide +kernel, by decide +kernel⟩
theorem d_product (T : Th K mg "product" s_product) (dTi : Def P w K mg base (CXe P w) 4 "times" ["one", "other"] (spTi K)) : Def P w K mg base (CXe P w) 5 "product" ["one", "other"] (spPd K) := by
  refine QL.def_ofX T (fun _ _ _ _ _ _ us hl => match us, hl with | [_, _], _ => rfl) scPd (fun vs H Q E h => ?_) (fun f cdv A outer s H vs Q E hr h => ?_)
  · obtain ⟨r1, r2, a, b, c, d, a', b', c', d', rfl, _⟩ := h
    rfl
  · obtain ⟨r1, r2, a, b, c, d, a', b', c', d', rfl, ⟨x1, y1, h1, h2, h3⟩, ⟨x2, y2, k1, k2, k3⟩, ⟨za, zb, zc, zd⟩, ⟨za', zb', zc', zd'⟩, ⟨b0, d0⟩, ⟨b0', d0'⟩, k⟩ := h
    refine ⟨_, (qss_one (qs_ret (qe_tup (qa_cons (qe_callD dTi (hr.mono (by decide)) rfl pass1 (qa_cons (qe_ix ix_tup (qv 0) qe_int (fun _ _ => rfl)) (qa_cons (qe_ix ix_tup (qv 1) qe_int (fun _ _ => rfl)) qa_nil))) (qa_cons (qe_callD dTi (hr.mono (by decide)) rfl pass1 (qa_cons (qe_ix ix_tup (qv 0) qe_int (fun _ _ => rfl)) (qa_cons (qe_ix ix_tup (qv 1) qe_int (fun _ _ => rfl)) qa_nil))) qa_nil))))), ?_⟩
    refine ⟨_, rfl, r1, _, _, _, rfl, rfl, h1, rfl, _, rfl, r2, _, _, _, rfl, rfl, k1, rfl, x1, x2, a, b, a', b', rfl, h2, k2, ⟨za, zb, za', zb'⟩, b0, b0', trivial, fun t x y ht fx => ?_⟩
    have s1 := sameUpd (o := .tup [.int x, .int y]) ht
    refine ⟨_, rfl, r1, _, _, _, rfl, rfl, seqT s1 h1, rfl, _, rfl, r2, _, _, _, rfl, rfl, seqT s1 k1, rfl, y1, y2, c, d, c', d', rfl, seqT s1 h3, seqT s1 k3, ⟨zc, zd, zc', zd'⟩, d0, d0', trivial, fun u z v hu fz => ?_⟩
    have s2 := sameUpd (o := .tup [.int z, .int v]) hu
    refine ⟨(by show 2 ≤ sizeLine; decide), fun r hr => ?_⟩
    have s3 := sameUpd (o := .tup [.ref t, .ref u]) hr
    exact k r x y z v _ ((s1.trans s2).trans s3) fx fz ⟨t, u, upd_same, s3 _ _ (s2 _ _ upd_same), s3 _ _ upd_same⟩
end

section
variable {P : Program} {w : World} {K : PySem.W.Frag} {mg : Str → Option Value} {base : Heap} {S C : Addr}
def spUn (K : PySem.W.Frag) : Sp := fun vs H Q _ => ∃ (p q : Addr) (a b c d : Int), vs = [.ref p, .ref q] ∧ SqT K H p [.int a, .int b] ∧ SqT K H q [.int c, .int d] ∧ (Big a ∧ Big b ∧ Big c ∧ Big d) ∧ Q (.bl (decide (a * d < c * b))) H
theorem scUn : FnScope ["one", "other"] ["one", "other"] (defScope s_under) := ⟨rfl, rfl, rfl, by decide +kernel, rfl, by decide +kernel, by decide +kernel⟩
theorem d_under (T : Th K mg "under" s_under) : Def P w K mg base CX0 1 "under" ["one", "other"] (spUn K) := by
  refine QL.def_of T (fun _ _ _ _ _ _ us hl => match us, hl with | [_, _], _ => rfl) scUn (fun vs H Q E h => ?_) (fun f cdv A outer s H vs Q E hr h => ?_)
  · obtain ⟨p, q, a, b, c, d, rfl, _⟩ := h
    rfl
  · obtain ⟨p, q, a, b, c, d, rfl, hp, hq, ⟨z1, z2, z3, z4⟩, k⟩ := h
    refine ⟨_, (qss_one (qs_ret (qe_cmpR op_lt (qe_op op_mulB (qe_ix ix_tup (qv 0) qe_int (fun _ _ => rfl)) (qe_ix ix_tup (qv 1) qe_int (fun _ _ => rfl))) (qe_op op_mulB (qe_ix ix_tup (qv 1) qe_int (fun _ _ => rfl)) (qe_ix ix_tup (qv 0) qe_int (fun _ _ => rfl))) (nomark _)))), ?_⟩
    exact ⟨_, rfl, p, _, _, _, rfl, rfl, hp, rfl, _, rfl, q, _, _, _, rfl, rfl, hq, rfl, _, _, rfl, rfl, ⟨z1, z4⟩, _, rfl, q, _, _, _, rfl, rfl, hq, rfl, _, rfl, p, _, _, _, rfl, rfl, hp, rfl, _, _, rfl, rfl, ⟨z3, z2⟩, _, _, rfl, rfl, k⟩
end

section
variable {P : Program} {w : World} {K : PySem.W.Frag} {mg : Str → Option Value} {base : Heap} {S C : Addr}
def flat (st : List (Int × Int)) : List Int := st.flatMap fun x => [x.1, x.2]
def spNo (K : PySem.W.Frag) : Sp := fun vs H Q _ => ∃ (l : Addr) (f : Int) (st : List (Int × Int)), vs = [.ref l] ∧ PlanAt K H l f st ∧ st.length ≤ 10 ∧ ∀ l', H l' = none → Q (.ref l') (upd H l' (.lst ((f :: flat st).map V.int)))
theorem flat_step {st : List (Int × Int)} {i : Nat} {u v : Int} (h : st[i]? = some (u, v)) : flat (st.take (i + 1)) = flat (st.take i) ++ [u, v] := by
  unfold flat
  rw [List.take_add_one, h, List.flatMap_append]
  rfl
theorem flat_len (st : List (Int × Int)) : (flat st).length = 2 * st.length := by
  induction st with
  | nil => rfl
  | cons x r ih => unfold flat at *; rw [List.flatMap_cons, List.length_append, ih, List.length_cons]; show 2 + _ = 2 * (_ + 1); omega
theorem scNo : FnScope ["plan", "numbers", "filler", "part"] ["plan"] (defScope s_numbers_of) := ⟨rfl, rfl, rfl, by decide +kernel, rfl, by decide +kernel, by decide +kernel⟩
theorem d_numbers (T : Th K mg "numbers_of" s_numbers_of) : Def P w K mg base CX0 1 "numbers_of" ["plan"] (spNo K) := by
  refine QL.def_of T (fun _ _ _ _ _ _ us hl => match us, hl with | [_], _ => rfl) scNo (fun vs H Q E h => ?_) (fun f cdv A outer s H vs Q E hr h => ?_)
  · obtain ⟨l, f, st, rfl, _⟩ := h
    rfl
  · obtain ⟨l, f, st, rfl, hl, h10, k⟩ := h
    refine ⟨_, (qss_cons (qs_set (i := 1) scNo.nd rfl (Or.inl rfl) (qe_lst (qa_cons (qe_ix ix_tup (qv 0) qe_int (fun _ _ => rfl)) qa_nil)))
      (qss_cons (qs_for PassesOwn.never rfl (qi_tup (qe_ix ix_tup (qv 0) qe_int (fun _ _ => rfl))) (qg_tup rfl (qgs_cons (qg_name (i := 2) scNo.nd rfl (Or.inl rfl)) (qgs_cons (qg_name (i := 3) scNo.nd rfl (Or.inl rfl)) qgs_nil)))
        (qss_cons (qs_expr (qe_bm PySem.F.plainAttrs_list PySem.F.slot_list_append PySem.F.type_list_append mt_append (qv 1) (qa_cons (qv 2) qa_nil)))
      (qss_one (qs_expr (qe_bm PySem.F.plainAttrs_list PySem.F.slot_list_append PySem.F.type_list_append mt_append (qv 1) (qa_cons (qv 3) qa_nil))))))
      (qss_one (qs_ret (qv 1))))), ?_⟩
    obtain ⟨sp, rs, hp1, hp2, pr⟩ := id hl
    refine ⟨_, rfl, l, _, _, _, rfl, rfl, hp1, rfl, (by show 1 ≤ sizeLine; decide), fun n hn => ?_⟩
    have s1 : ∀ {o : HO}, Same H (upd H n o) := fun {o} => sameUpd hn
    refine ⟨_, rfl, l, _, _, _, rfl, rfl, seqT s1 hp1, rfl, sp, rfl, ⟨_, seqT s1 hp2⟩, for_tup (K := K) (a := sp) (xs := rs.map V.ref) (fun i σ H2 => ∃ v2 v3, σ = [some (.ref l), some (.ref n), v2, v3] ∧ H2 = upd H n (.lst ((f :: flat (st.take i)).map V.int))) ⟨none, none, rfl, rfl⟩ ?_ ?_ ?_⟩
    · rintro i σ H2 _ ⟨v2, v3, _, rfl⟩
      exact seqT s1 hp2
    · rintro i x σ H2 hx ⟨v2, v3, rfl, rfl⟩
      obtain ⟨r, u, v, rfl, e2, e3⟩ := pr.at_ hx
      have lt : i < st.length := (List.getElem?_eq_some_iff.mp e2).1
      have l1 : ((f :: flat (st.take i)).map V.int).length ≤ 21 := by
        rw [List.length_map, List.length_cons, flat_len, List.length_take]; omega
      refine ⟨r, _, rfl, seqT s1 e3, rfl, _, _, rfl, _, _, rfl, rfl, ?_⟩
      refine ⟨_, rfl, .inl ⟨rfl, _, SqL.of upd_same⟩, _, rfl, n, _, _, rfl, rfl, upd_same, by rw [sizeLine_eq]; omega, ?_⟩
      refine ⟨_, rfl, .inl ⟨rfl, _, SqL.of upd_same⟩, _, rfl, n, _, _, rfl, rfl, upd_same, by rw [List.length_append, sizeLine_eq]; show _ + 1 < _; omega, _, _, rfl, ?_⟩
      rw [upd_upd, upd_upd, flat_step e2]
      simp
    · rintro σ H2 ⟨v2, v3, rfl, rfl⟩
      rw [List.length_map, pr.len, List.take_length]
      exact ⟨_, rfl, k n hn⟩
end

section
variable {P : Program} {w : World} {K : PySem.W.Frag} {mg : Str → Option Value} {base : Heap}
/-! ### price_of -/
def sumF (st : List (Int × Int)) : Int := (st.map Prod.fst).sum
def spFil (K : PySem.W.Frag) : Sp := fun vs H Q _ => ∃ (p : Addr) (f : Int) (st : List (Int × Int)), vs = [.ref p] ∧ PlanAt K H p f st ∧ st.length ≤ 3 ∧ ∀ H', Same H H' → Q (.int (sumF st)) H'
theorem scFil : FnScope ["plan"] ["plan"] (defScope s_fillers_of) := ⟨rfl, rfl, rfl, by decide +kernel, rfl, by decide +kernel, by decide +kernel⟩
theorem d_fil (T : Th K mg "fillers_of" s_fillers_of) (zsum : mg "sum" = none) : Def P w K mg base CX0 1 "fillers_of" ["plan"] (spFil K) := by
  refine QL.def_of T (fun _ _ _ _ _ _ us hl => match us, hl with | [_], _ => rfl) scFil (fun vs H Q E h => ?_) (fun f cdv A outer s H vs Q E hr h => ?_)
  · obtain ⟨p, f, st, rfl, _⟩ := h
    rfl
  · obtain ⟨p, f, st, rfl, hp, hn, q⟩ := h
    refine ⟨_, (qss_one (qs_ret (qe_callB (call_sum rfl) (by rfl) zsum PyProof.Rows.boot_sum (qa_cons (qe_lcX (lc_mk2 (xs := ["filler", "part"]) (fvs := []) (fidx := []) (defScope s_fillers_of) ["plan"] rfl rfl (by decide +kernel)) rfl rfl (qi_tup (qe_ix ix_tup (qv 0) qe_int (fun _ _ => rfl))) (fun cl C s H ex => (qg_pair rfl (lc_mk2 (xs := ["filler", "part"]) (fvs := []) (fidx := []) (defScope s_fillers_of) ["plan"] rfl rfl (by decide +kernel)))) (fun cl C s H ex => qf_nil) (fun cl C s H ex => (qv 0)) (fun _ => keep_pair)) qa_nil)))), ?_⟩
    obtain ⟨sp, rs, hp1, hp2, pr⟩ := hp
    refine ⟨_, rfl, p, _, _, _, rfl, rfl, hp1, rfl, sp, rfl, ⟨_, hp2⟩, pairs_tup (K := K) (rs.map V.ref) (fun i ys H2 => H2 = H ∧ ys = ((st.take i).map Prod.fst).map V.int) ⟨rfl, rfl⟩ (fun i ys H2 hi z => ?_) (fun i x ys H2 hx z => ?_) (fun ys H2 z => ?_)⟩
    · obtain ⟨rfl, rfl⟩ := z
      refine ⟨?_, hp2⟩
      rw [List.length_map, List.length_map, List.length_take, sizeLine_eq]
      omega
    · obtain ⟨rfl, rfl⟩ := z
      obtain ⟨r, u, v, e1, e2, e3⟩ := pr.at_ hx
      refine ⟨r, .int u, .int v, e1, e3, ?_⟩
      unfold tNone
      dsimp only
      rw [if_pos rfl]
      refine ⟨_, rfl, rfl, ?_⟩
      rw [List.take_add_one, e2, List.map_append, List.map_append]
      rfl
    · obtain ⟨rfl, rfl⟩ := z
      rw [List.length_map, pr.len, List.take_length]
      intro D hD
      refine ⟨D, _, rfl, SqL.of upd_same, ?_⟩
      exact q _ (sameUpd hD)
def spPr (K : PySem.W.Frag) : Sp := fun vs H Q _ => ∃ (p t : Addr) (f a b c : Int) (st : List (Int × Int)), vs = [.ref p, .ref t] ∧ PlanAt K H p f st ∧ SqT K H t [.int a, .int b, .int c] ∧ st.length ≤ 3 ∧ Big f ∧ Big a ∧ Big b ∧ Big c ∧ Big (sumF st) ∧
  ∀ H', Same H H' → Q (.int (a * f + b * sumF st + c * (1 + 2 * (st.length : Int)))) H'
theorem scPr : FnScope ["plan", "prices", "weighings"] ["plan", "prices"] (defScope s_price_of) := ⟨rfl, rfl, rfl, by decide +kernel, rfl, by decide +kernel, by decide +kernel⟩
theorem d_price (T : Th K mg "price_of" s_price_of) (dFil : Def P w K mg base CX0 1 "fillers_of" ["plan"] (spFil K)) (zlen : mg "len" = none) : Def P w K mg base CX0 2 "price_of" ["plan", "prices"] (spPr K) := by
  refine QL.def_of T (fun _ _ _ _ _ _ us hl => match us, hl with | [_, _], _ => rfl) scPr (fun vs H Q E h => ?_) (fun f cdv A outer s H vs Q E hr h => ?_)
  · obtain ⟨p, t, f, a, b, c, st, rfl, _⟩ := h
    rfl
  · obtain ⟨p, t, f, a, b, c, st, rfl, hp, ht, hn, Bf, Ba, Bb, Bc, Bs, q⟩ := h
    refine ⟨_, (qss_cons (qs_set (i := 2) scPr.nd rfl (Or.inl rfl) (qe_op op_add qe_int (qe_op op_mulB qe_int (qe_callB call_len_seq (by rfl) zlen PySem.boot_len (qa_cons (qe_ix ix_tup (qv 0) qe_int (fun _ _ => rfl)) qa_nil)))))
      (qss_one (qs_ret (qe_op op_add (qe_op op_add (qe_op op_mulB (qe_ix ix_tup (qv 1) qe_int (fun _ _ => rfl)) (qe_ix ix_tup (qv 0) qe_int (fun _ _ => rfl))) (qe_op op_mulB (qe_ix ix_tup (qv 1) qe_int (fun _ _ => rfl)) (qe_callD dFil (hr.mono (by decide)) rfl pass0 (qa_cons (qv 0) qa_nil)))) (qe_op op_mulB (qe_ix ix_tup (qv 1) qe_int (fun _ _ => rfl)) (qv 2)))))), ?_⟩
    obtain ⟨sp, rs, hp1, hp2, pr⟩ := id hp
    have el : (rs.map V.ref).length = st.length := by rw [List.length_map, pr.len]
    refine ⟨_, rfl, p, _, _, _, rfl, rfl, hp1, rfl, sp, _, rfl, .inr hp2, _, _, rfl, rfl, ⟨?_, ?_⟩, _, _, rfl, rfl, ?_⟩
    · exact Big.of (by decide) (by decide)
    · rw [el]; exact Big.of (by omega) (by omega)
    rw [el]
    refine ⟨_, rfl, t, _, _, _, rfl, rfl, ht, rfl, _, rfl, p, _, _, _, rfl, rfl, hp1, rfl, _, _, rfl, rfl, ⟨Ba, Bf⟩, ?_⟩
    refine ⟨_, rfl, t, _, _, _, rfl, rfl, ht, rfl, _, rfl, p, f, st, rfl, hp, hn, fun H3 sm => ?_⟩
    have ht := seqT sm ht
    refine ⟨_, _, rfl, rfl, ⟨Bb, Bs⟩, _, _, rfl, rfl, ?_⟩
    refine ⟨_, rfl, t, _, _, _, rfl, rfl, ht, rfl, _, rfl, _, _, rfl, rfl, ⟨Bc, Big.of (by omega) (by omega)⟩, _, _, rfl, rfl, ?_⟩
    exact q _ sm
end

end K31


set_option maxRecDepth 100000
set_option linter.all false
set_option maxHeartbeats 4000000
set_option Elab.async false
namespace L14
open PySem L2
/-- .. whose test is p -/
theorem if_by {p : Prop} {tc : TT} {t u : TS} {D : Ends} {σ : L2.St} {H : Hp} (h : ∀ Q' : Bool → Hp → Prop, (∀ c H', Same H H' → (c = true ↔ p) → Q' c H') → tc σ H Q') (k1 : ∀ H', Same H H' → p → t D σ H') (k2 : ∀ H', Same H H' → ¬ p → u D σ H') : tIfS tc t u D σ H :=
  h _ fun c H' s hc => by
    cases c
    · exact iteF (k2 H' s (fun z => by have := hc.mpr z; cases this))
    · exact iteT (k1 H' s (hc.mp rfl))
end L14


set_option maxRecDepth 100000
set_option linter.all false
set_option maxHeartbeats 800000
set_option Elab.async false
namespace K31
open PySem L2 L3 X8 M01 L6 L5 QL
open L8 L9 L10 L11 L13 L14 L20 L21 L22 L40 L41 L42 L44 M11
section
variable {P : Program} {w : World} {K : PySem.W.Frag} {mg : Str → Option Value} {base : Heap} {S C : Addr}
/-! ### last_of -/
def lastOf : Int → List (Int × Int) → Int
  | f, [] => f
  | _, x :: t => lastOf x.2 t
theorem last_flat : ∀ (st : List (Int × Int)) (f : Int), (f :: flat st)[2 * st.length]? = some (lastOf f st)
  | [], f => rfl
  | x :: t, f => by
    have e : f :: flat (x :: t) = f :: x.1 :: (x.2 :: flat t) := rfl
    rw [e, List.length_cons, show 2 * (t.length + 1) = (2 * t.length) + 1 + 1 by omega, List.getElem?_cons_succ, List.getElem?_cons_succ, last_flat t x.2]
    rfl
def spLa (K : PySem.W.Frag) : Sp := fun vs H Q _ => ∃ (l : Addr) (f : Int) (st : List (Int × Int)), vs = [.ref l] ∧ PlanAt K H l f st ∧ st.length ≤ 10 ∧ ∀ H', Same H H' → Q (.int (lastOf f st)) H'
theorem scLa : FnScope ["plan"] ["plan"] (defScope s_last_of) := ⟨rfl, rfl, rfl, by decide +kernel, rfl, by decide +kernel, by decide +kernel⟩
theorem d_last (T : Th K mg "last_of" s_last_of) (dNo : Def P w K mg base CX0 1 "numbers_of" ["plan"] (spNo K)) : Def P w K mg base CX0 2 "last_of" ["plan"] (spLa K) := by
  refine QL.def_of T (fun _ _ _ _ _ _ us hl => match us, hl with | [_], _ => rfl) scLa (fun vs H Q E h => ?_) (fun f cdv A outer s H vs Q E hr h => ?_)
  · obtain ⟨l, f, st, rfl, _⟩ := h
    rfl
  · obtain ⟨l, f, st, rfl, hl, h10, k⟩ := h
    refine ⟨_, (qss_one (qs_ret (qe_ix ix_list (qe_callD dNo (hr.mono (by decide)) rfl pass0 (qa_cons (qv 0) qa_nil)) (qe_un un_neg qe_int) (fun _ _ => rfl)))), ?_⟩
    refine ⟨_, rfl, l, f, st, rfl, hl, h10, fun n hn => ?_⟩
    have ll : ((f :: flat st).map V.int).length = 2 * st.length + 1 := by rw [List.length_map, List.length_cons, flat_len]
    have e1 : atI ((f :: flat st).map V.int) (-1) = some (.int (lastOf f st)) := by
      unfold atI ixN
      rw [if_neg (by decide), ll, if_pos (by omega), show ((-1 : Int) + ((2 * st.length + 1 : Nat) : Int)).toNat = 2 * st.length by omega]
      show ((f :: flat st).map V.int)[2 * st.length]? = _
      rw [List.getElem?_map, last_flat]
      rfl
    exact ⟨_, rfl, n, _, -1, _, rfl, rfl, SqL.of upd_same, e1, k _ (sameUpd hn)⟩
/-! ### lies_within -/
def spLw (K : PySem.W.Frag) : Sp := fun vs H Q _ => ∃ (r w : Addr) (a b c d a' b' c' d' : Int), vs = [.ref r, .ref w] ∧ RoomAt K H r a b c d ∧ RoomAt K H w a' b' c' d' ∧ (Big a ∧ Big b ∧ Big c ∧ Big d) ∧ (Big a' ∧ Big b' ∧ Big c' ∧ Big d') ∧ Q (.bl (!decide (a * b' < a' * b) && !decide (c' * d < c * d'))) H
theorem scLw : FnScope ["room", "wanted"] ["room", "wanted"] (defScope s_lies_within) := ⟨rfl, rfl, rfl, by decide +kernel, rfl, by decide +kernel, by decide +kernel⟩
theorem d_lies (T : Th K mg "lies_within" s_lies_within) (dUn : Def P w K mg base CX0 1 "under" ["one", "other"] (spUn K)) : Def P w K mg base CX0 2 "lies_within" ["room", "wanted"] (spLw K) := by
  refine QL.def_of T (fun _ _ _ _ _ _ us hl => match us, hl with | [_, _], _ => rfl) scLw (fun vs H Q E h => ?_) (fun f cdv A outer s H vs Q E hr h => ?_)
  · obtain ⟨r, w, a, b, c, d, a', b', c', d', rfl, _⟩ := h
    rfl
  · obtain ⟨r, w, a, b, c, d, a', b', c', d', rfl, ⟨x, y, h1, h2, h3⟩, ⟨x', y', k1, k2, k3⟩, ⟨za, zb, zc, zd⟩, ⟨za', zb', zc', zd'⟩, k⟩ := h
    refine ⟨_, (qss_one (qs_ret (qe_and (qe_not (qe_callD dUn (hr.mono (by decide)) rfl pass0 (qa_cons (qe_ix ix_tup (qv 0) qe_int (fun _ _ => rfl)) (qa_cons (qe_ix ix_tup (qv 1) qe_int (fun _ _ => rfl)) qa_nil)))) (qe_one (qe_not (qe_callD dUn (hr.mono (by decide)) rfl pass0 (qa_cons (qe_ix ix_tup (qv 1) qe_int (fun _ _ => rfl)) (qa_cons (qe_ix ix_tup (qv 0) qe_int (fun _ _ => rfl)) qa_nil)))))))), ?_⟩
    refine ⟨_, rfl, r, _, _, _, rfl, rfl, h1, rfl, _, rfl, w, _, _, _, rfl, rfl, k1, rfl, x, x', a, b, a', b', rfl, h2, k2, ⟨za, zb, za', zb'⟩, _, rfl, ?_⟩
    refine ⟨_, rfl, ite2 (fun e1 => ?_) (fun e1 => ?_)⟩
    · rw [e1, Bool.true_and] at k
      exact ⟨_, rfl, w, _, _, _, rfl, rfl, k1, rfl, _, rfl, r, _, _, _, rfl, rfl, h1, rfl, y', y, c', d', c, d, rfl, k3, h3, ⟨zc', zd', zc, zd⟩, _, rfl, k⟩
    · rw [Bool.not_eq_true] at e1
      rw [e1] at k
      exact k
/-! ### better_offer, of plans without steps -/
structure PlanH (H : Hp) (l : Addr) (n : Int) : Prop where
  ex : ∃ sp, H l = some (.tup [.int n, .ref sp]) ∧ H sp = some (.tup [])
theorem PlanH.mono {H H' : Hp} {l : Addr} {n : Int} (s : Same H H') (h : PlanH H l n) : PlanH H' l n :=
  let ⟨sp, a, b⟩ := h.ex
  ⟨sp, s _ _ a, s _ _ b⟩
theorem PlanH.at_ {H : Hp} {l : Addr} {n : Int} (h : PlanH H l n) : PlanAt K H l n [] :=
  let ⟨sp, a, b⟩ := h.ex
  ⟨sp, [], SqT.of a, SqT.of b, .nil⟩
theorem PlanH.rp {H : Hp} {l : Addr} {n : Int} (h : PlanH H l n) : rpTup planR H (.ref l) (n, [], ()) :=
  let ⟨sp, a, b⟩ := h.ex
  ⟨l, _, rfl, a, .int n, [.ref sp], rfl, rfl, .ref sp, [], rfl, ⟨sp, [], rfl, b, .nil⟩, rfl⟩
structure PortH (K : PySem.W.Frag) (H : Hp) (r : Addr) (n : Int) : Prop where
  ex : ∃ aP pl, H r = some (.tup [.ref aP, .ref pl]) ∧ RoomAt K H aP 1 1 1 1 ∧ PlanH H pl n
theorem PortH.mono {H H' : Hp} {r : Addr} {n : Int} (s : Same H H') (h : PortH K H r n) : PortH K H' r n :=
  let ⟨aP, pl, a, b, c⟩ := h.ex
  ⟨aP, pl, s _ _ a, b.mono s, c.mono s⟩
inductive Pts (K : PySem.W.Frag) (H : Hp) : List Addr → List Int → Prop
  | nil : Pts K H [] []
  | cons {r : Addr} {n : Int} {rs : List Addr} {ns : List Int} : PortH K H r n → Pts K H rs ns → Pts K H (r :: rs) (n :: ns)
theorem Pts.mono {H H' : Hp} (s : Same H H') {rs : List Addr} {ns : List Int} (h : Pts K H rs ns) : Pts K H' rs ns := by
  induction h with
  | nil => exact .nil
  | cons e _ ih => exact .cons (e.mono s) ih
theorem Pts.len {H : Hp} {rs : List Addr} {ns : List Int} (h : Pts K H rs ns) : rs.length = ns.length := by
  induction h with
  | nil => rfl
  | cons _ _ ih => rw [List.length_cons, List.length_cons, ih]
theorem Pts.at_ {H : Hp} {rs : List Addr} {ns : List Int} (h : Pts K H rs ns) : ∀ {i : Nat} {v : V}, (rs.map V.ref)[i]? = some v → ∃ r n, v = .ref r ∧ ns[i]? = some n ∧ PortH K H r n := by
  induction h with
  | nil => intro i v e; cases e
  | @cons r n rs ns e _ ih =>
    intro i v ev
    cases i with
    | zero => exact ⟨r, n, (Option.some.inj ev).symm, rfl, e⟩
    | succ j => exact ih ev
def WB (p q c0 d0 c1 d1 : Int) (n : Int) : Bool := !decide ((n * q - p) * d0 < c0 * q) && !decide (c1 * q < (n * q + p) * d1)
def lessB (a n : Int) : Option Int → Bool
  | none => true
  | some m => decide (a * n < a * m)
def stepB (W : Int → Bool) (a : Int) (b : Option Int) (n : Int) : Option Int := if (W n && lessB a n b) = true then some n else b
def bestB (W : Int → Bool) (a : Int) (ns : List Int) : Option Int := ns.foldl (stepB W a) none
theorem bestB_mem {W : Int → Bool} {a : Int} : ∀ {ns : List Int} {m : Int} {b : Option Int}, ns.foldl (stepB W a) b = some m → m ∈ ns ∨ b = some m
  | [], m, b, h => .inr h
  | n :: r, m, b, h => by
    rcases bestB_mem (ns := r) h with z | z
    · exact .inl (List.mem_cons_of_mem _ z)
    · unfold stepB at z
      by_cases hc : (W n && lessB a n b) = true
      · rw [if_pos hc] at z; injection z with z; rw [z]; exact .inl List.mem_cons_self
      · rw [if_neg hc] at z; exact .inr z
theorem bestB_take {W : Int → Bool} {a : Int} {ns : List Int} {i : Nat} {n : Int} (h : ns[i]? = some n) : bestB W a (ns.take (i + 1)) = stepB W a (bestB W a (ns.take i)) n := by
  unfold bestB
  rw [List.take_add_one, h, List.foldl_append]
  rfl
def pcB (a b c m : Int) : Int := a * m + b * sumF [] + c * (1 + 2 * ((([] : List (Int × Int)).length : Nat) : Int))
def BestH (a b c : Int) (H : Hp) (v : V) : Option Int → Prop
  | none => v = .non
  | some m => ∃ o pl, v = .ref o ∧ H o = some (.tup [.int (pcB a b c m), .ref pl]) ∧ PlanH H pl m
theorem BestH.mono {a b c : Int} {H H' : Hp} {v : V} (s : Same H H') : ∀ {o : Option Int}, BestH a b c H v o → BestH a b c H' v o
  | none, h => h
  | some m, ⟨o, pl, h1, h2, h3⟩ => ⟨o, pl, h1, s _ _ h2, h3.mono s⟩
theorem offer_rp {H : Hp} {o pl : Addr} {x m : Int} (h : H o = some (.tup [.int x, .ref pl])) (h2 : PlanH H pl m) : rpTup offerR H (.ref o) (x, (m, [], ()), ()) :=
  ⟨o, _, rfl, h, .int x, [.ref pl], rfl, rfl, .ref pl, [], rfl, h2.rp, rfl⟩
theorem offer_lt {a b c n m : Int} (h : m < n) : offerLt (pcB a b c n, (n, [], ()), ()) (pcB a b c m, (m, [], ()), ()) = decide (a * n < a * m) := by
  unfold offerLt ltCons
  dsimp only
  have e : pcB a b c n = pcB a b c m ↔ a * n = a * m := by unfold pcB; omega
  by_cases z : a * n = a * m
  · rw [if_pos (e.mpr z), if_neg (fun w => by injection w; omega)]
    unfold planLt ltCons
    dsimp only
    rw [if_neg (by omega)]
    unfold ltI
    apply decide_eq_decide.mpr
    omega
  · rw [if_neg (fun w => z (e.mp w))]
    unfold ltI pcB
    apply decide_eq_decide.mpr
    omega
theorem eq_chain {x y a b U q : Int} (h1 : x * b = a * y) (h2 : a * q = U * b) (hb : 0 < b) : x * q = U * y := by
  refine cancel (c := b) (by omega) ?_
  calc x * q * b = (x * b) * q := by ac_rfl
    _ = (a * y) * q := by rw [h1]
    _ = (a * q) * y := by ac_rfl
    _ = (U * b) * y := by rw [h2]
    _ = U * y * b := by ac_rfl
theorem lt_one1 {x y U q c d : Int} (hy : 0 < y) (hq : 0 < q) (h : x * q = U * y) : x * d < c * y ↔ U * d < c * q := by
  have e1 : (x * d) * q = (U * d) * y := by rw [show (x * d) * q = (x * q) * d from by ac_rfl, h]; ac_rfl
  have e2 : (c * y) * q = (c * q) * y := by ac_rfl
  constructor
  · intro z
    have z1 := Int.mul_lt_mul_of_pos_right z hq
    rw [e1, e2] at z1
    exact Int.lt_of_mul_lt_mul_right z1 (Int.le_of_lt hy)
  · intro z
    have z1 := Int.mul_lt_mul_of_pos_right z hy
    rw [← e1, ← e2] at z1
    exact Int.lt_of_mul_lt_mul_right z1 (Int.le_of_lt hq)
theorem lt_one2 {x y U q c d : Int} (hy : 0 < y) (hq : 0 < q) (h : x * q = U * y) : c * y < x * d ↔ c * q < U * d := by
  have e1 : (x * d) * q = (U * d) * y := by rw [show (x * d) * q = (x * q) * d from by ac_rfl, h]; ac_rfl
  have e2 : (c * y) * q = (c * q) * y := by ac_rfl
  constructor
  · intro z
    have z1 := Int.mul_lt_mul_of_pos_right z hq
    rw [e1, e2] at z1
    exact Int.lt_of_mul_lt_mul_right z1 (Int.le_of_lt hy)
  · intro z
    have z1 := Int.mul_lt_mul_of_pos_right z hy
    rw [← e1, ← e2] at z1
    exact Int.lt_of_mul_lt_mul_right z1 (Int.le_of_lt hq)
def spBo (K : PySem.W.Frag) : Sp := fun vs H Q _ => ∃ (po wa er pr : Addr) (rs : List Addr) (ns : List Int) (c0 d0 c1 d1 p q a b c : Int), vs = [.non, .ref po, .ref wa, .ref er, .ref pr] ∧ H po = some (.lst (rs.map V.ref)) ∧ Pts K H rs ns ∧ ns.Pairwise (· < ·) ∧ (∀ n ∈ ns, 1 ≤ n ∧ n ≤ 1000) ∧
  RoomAt K H wa c0 d0 c1 d1 ∧ (Sz 400 c0 ∧ Sz 400 d0 ∧ Sz 400 c1 ∧ Sz 400 d1) ∧ (0 < d0 ∧ 0 < d1) ∧ SqT K H er [.int p, .int q] ∧ (Sz 80 p ∧ Sz 40 q ∧ 0 < q) ∧ SqT K H pr [.int a, .int b, .int c] ∧ (Big a ∧ Big b ∧ Big c) ∧
  ∀ v H', Same H H' → BestH a b c H' v (bestB (WB p q c0 d0 c1 d1) a ns) → Q v H'
theorem scBo : FnScope ["best", "portions", "wanted", "error", "prices", "strength", "plan", "offer"] ["best", "portions", "wanted", "error", "prices"] (defScope s_better_offer) := ⟨rfl, rfl, rfl, by decide +kernel, rfl, by decide +kernel, by decide +kernel⟩
theorem d_better (T : Th K mg "better_offer" s_better_offer) (dPr : Def P w K mg base CX0 2 "price_of" ["plan", "prices"] (spPr K)) (dWe : Def P w K mg base (CXe P w) 5 "weighed" ["number", "error"] (spWe K)) (dPd : Def P w K mg base (CXe P w) 5 "product" ["one", "other"] (spPd K)) (dLa : Def P w K mg base CX0 2 "last_of" ["plan"] (spLa K)) (dLw : Def P w K mg base CX0 2 "lies_within" ["room", "wanted"] (spLw K)) : Def P w K mg base (CXe P w) 7 "better_offer" ["best", "portions", "wanted", "error", "prices"] (spBo K) := by
  refine QL.def_ofX T (fun _ _ _ _ _ _ us hl => match us, hl with | [_, _, _, _, _], _ => rfl) scBo (fun vs H Q E h => ?_) (fun f cdv A outer s H vs Q E hr h => ?_)
  · obtain ⟨po, wa, er, pr, rs, ns, c0, d0, c1, d1, p, q, a, b, c, rfl, _⟩ := h
    rfl
  · obtain ⟨po, wa, er, pr, rs, ns, c0, d0, c1, d1, p, q, a, b, c, rfl, hpo, pts, pw, bn, hwa, ⟨z1, z2, z3, z4⟩, ⟨d00, d10⟩, her, ⟨zp, zq, q0⟩, hpr, ⟨ba, bb, bc⟩, k⟩ := h
    refine ⟨_, (qss_cons (qs_for PassesOwn.leaving rfl (qi_list (qv 1)) (qg_tup rfl (qgs_cons (qg_name (i := 5) scBo.nd rfl (Or.inl rfl)) (qgs_cons (qg_name (i := 6) scBo.nd rfl (Or.inl rfl)) qgs_nil)))
        (qss_cons (qs_set (i := 7) scBo.nd rfl (Or.inl rfl) (qe_tup (qa_cons (qe_callD dPr (hr.mono (by decide)) rfl pass0 (qa_cons (qv 6) (qa_cons (qv 4) qa_nil))) (qa_cons (qv 6) qa_nil))))
      (qss_one (qs_if (QW.pt (qw_or (qt_cmpR op_isN (qv 0) qe_non (nomark _)) (qw_or1 (qt_cmpR (op_ltT row_offer (hu_d hr (by decide))) (qv 7) (qv 0) (nomark _))))) (qss_one (qs_if (qt_val (qe_callD dLw (hr.mono (by decide)) rfl pass0 (qa_cons (qe_callD dPd (hr.mono (by decide)) rfl pass1 (qa_cons (qv 5) (qa_cons (qe_callD dWe (hr.mono (by decide)) rfl pass1 (qa_cons (qe_callD dLa (hr.mono (by decide)) rfl pass0 (qa_cons (qv 6) qa_nil)) (qa_cons (qv 3) qa_nil))) qa_nil))) (qa_cons (qv 2) qa_nil)))) (qss_one (qs_set (i := 0) scBo.nd rfl (Or.inl rfl) (qv 7))) qss_nil)) qss_nil))))
      (qss_one (qs_ret (qv 0)))), ?_⟩
    refine ⟨_, rfl, po, rfl, ⟨_, SqL.of hpo⟩, for_list (K := K) (a := po) (xs := rs.map V.ref) (fun i σ H2 => ∃ (v : V) (v5 v6 v7 : Option V), σ = [some v, some (.ref po), some (.ref wa), some (.ref er), some (.ref pr), v5, v6, v7] ∧ Same H H2 ∧ BestH a b c H2 v (bestB (WB p q c0 d0 c1 d1) a (ns.take i))) ⟨.non, none, none, none, rfl, Same.refl _, rfl⟩ ?_ ?_ ?_⟩
    · rintro i σ H2 _ ⟨v, v5, v6, v7, _, sm, _⟩
      exact SqL.of (sm _ _ hpo)
    · rintro i x σ H2 hx ⟨v, v5, v6, v7, rfl, sm, hb⟩
      obtain ⟨r, n, rfl, en, ⟨aP, pl, hr1, hr2, hr3⟩⟩ := (pts.mono sm).at_ hx
      obtain ⟨n1, n2⟩ := bn n (List.mem_of_getElem? en)
      refine ⟨r, _, rfl, SqT.of hr1, rfl, _, _, rfl, _, _, rfl, rfl, ?_⟩
      refine ⟨_, rfl, _, rfl, pl, pr, n, a, b, c, [], rfl, hr3.at_, seqT sm hpr, by decide, Big.of (by omega) (by omega), ba, bb, bc, Big.of (by decide) (by decide), fun H3 s3 => ?_⟩
      refine ⟨_, rfl, (by show 2 ≤ sizeLine; decide), fun o ho => ?_⟩
      have s4 := sameUpd (o := .tup [.int (pcB a b c n), .ref pl]) ho
      have s34 := (sm.trans s3).trans s4
      have hb4 := (hb.mono s3).mono s4
      have ho4 : upd H3 o (.tup [.int (pcB a b c n), .ref pl]) o = some (.tup [.int (pcB a b c n), .ref pl]) := upd_same
      have hpl4 := (hr3.mono s3).mono s4
      have hr24 := (hr2.mono s3).mono s4
      have he : bestB (WB p q c0 d0 c1 d1) a (ns.take (i + 1)) = stepB (WB p q c0 d0 c1 d1) a (bestB (WB p q c0 d0 c1 d1) a (ns.take i)) n := bestB_take en
      -- what is done when the offer is less
      dsimp only [gName]
      refine if_by (p := lessB a n (bestB (WB p q c0 d0 c1 d1) a (ns.take i)) = true) (fun Q' k' => ?_) (fun H5 s5 hp => ?_) (fun H5 s5 hp => ?_)
      · refine ⟨_, rfl, rfl, _, rfl, ite2 (fun cc => ?_) (fun cc => ?_)⟩
        · have cc' : v = .non := of_decide_eq_true cc
          refine k' _ _ (Same.refl _) ?_
          cases hbb : bestB (WB p q c0 d0 c1 d1) a (ns.take i) with
          | none => exact ⟨fun _ => rfl, fun _ => rfl⟩
          | some m =>
            rw [hbb] at hb4
            obtain ⟨o', pl', e, _⟩ := hb4
            rw [cc'] at e
            cases e
        · cases hbb : bestB (WB p q c0 d0 c1 d1) a (ns.take i) with
          | none =>
            rw [hbb] at hb4
            have hb5 : v = .non := hb4
            exact absurd (decide_eq_true hb5) cc
          | some m =>
            have hm : m < n := by
              rcases bestB_mem hbb with z | z
              · obtain ⟨j, hj⟩ := List.mem_iff_getElem?.mp z
                obtain ⟨hj1, hj2⟩ := List.getElem?_eq_some_iff.mp hj
                obtain ⟨hi1, hi2⟩ := List.getElem?_eq_some_iff.mp en
                have hj3 : j < i := by rw [List.length_take] at hj1; omega
                rw [List.getElem_take] at hj2
                have := List.pairwise_iff_getElem.mp pw j i (by omega) hi1 hj3
                omega
              · cases z
            rw [hbb] at hb4 k'
            obtain ⟨o', pl', rfl, h1, h2⟩ := hb4
            refine ⟨_, rfl, _, rfl, _, _, offer_rp ho4 hpl4, offer_rp h1 h2, _, rfl, ?_⟩
            rw [offer_lt hm]
            exact k' _ _ (Same.refl _) Iff.rfl
      · have s05 := s34.trans s5
        have st : stepB (WB p q c0 d0 c1 d1) a (bestB (WB p q c0 d0 c1 d1) a (ns.take i)) n = if WB p q c0 d0 c1 d1 n = true then some n else bestB (WB p q c0 d0 c1 d1) a (ns.take i) := by
          unfold stepB
          rw [hp, Bool.and_true]
        have z1' : Sz 500 1 := (show Sz 1 1 by unfold Sz; decide).mono (by decide)
        have zn : Sz 40 n := by unfold Sz; omega
        refine ⟨_, rfl, _, rfl, pl, n, [], rfl, (hpl4.mono s5).at_, by decide, fun H6 s6 => ?_⟩
        refine ⟨_, rfl, n, er, p, q, rfl, seqT (s05.trans s6) her, zn, zp, zq, q0, fun r1 a1 b1 c1' d1' H7 s7 fa fc rm => ?_⟩
        have za := fa.sz (((zn.mul zq).mono (show 40 + 40 ≤ 80 by decide)).sub zp) zq
        have zc := fc.sz (((zn.mul zq).mono (show 40 + 40 ≤ 80 by decide)).add zp) zq
        refine ⟨aP, r1, 1, 1, 1, 1, a1, b1, c1', d1', rfl, (((hr24.mono s5).mono s6).mono s7), rm.at, ⟨z1', z1', z1', z1'⟩, ⟨za.1.mono (by decide), za.2.mono (by decide), zc.1.mono (by decide), zc.2.mono (by decide)⟩, ⟨by decide, by decide⟩, ⟨fa.low.pos, fc.low.pos⟩, fun r2 x y z v' H8 s8 fx fz rm2 => ?_⟩
        have zx := fx.sz ((z1'.mul (za.1)).mono (show 500 + 81 ≤ 700 by decide)) ((z1'.mul (za.2)).mono (show 500 + 40 ≤ 700 by decide))
        have zz := fz.sz ((z1'.mul (zc.1)).mono (show 500 + 81 ≤ 700 by decide)) ((z1'.mul (zc.2)).mono (show 500 + 40 ≤ 700 by decide))
        have s08 := ((s05.trans s6).trans s7).trans s8
        refine ⟨_, rfl, r2, wa, x, y, z, v', c0, d0, c1, d1, rfl, rm2.at, hwa.mono s08, ⟨zx.1.big (by decide), zx.2.big (by decide), zz.1.big (by decide), zz.2.big (by decide)⟩, ⟨z1.big (by decide), z2.big (by decide), z3.big (by decide), z4.big (by decide)⟩, ?_⟩
        have ex : x * q = (n * q - p) * y := eq_chain (by have := fx.eq; rwa [Int.one_mul, Int.one_mul] at this) fa.eq fa.low.pos
        have ez : z * q = (n * q + p) * v' := eq_chain (by have := fz.eq; rwa [Int.one_mul, Int.one_mul] at this) fc.eq fc.low.pos
        have ew : (!decide (x * d0 < c0 * y) && !decide (c1 * v' < z * d1)) = WB p q c0 d0 c1 d1 n := by
          unfold WB
          rw [decide_eq_decide.mpr (lt_one1 fx.low.pos q0 ex), decide_eq_decide.mpr (lt_one2 fz.low.pos q0 ez)]
        rw [ew]
        refine ⟨_, rfl, ite2 (fun cw => ?_) (fun cw => ?_)⟩
        · refine ⟨_, rfl, _, _, _, _, rfl, s08, ?_⟩
          rw [he, st, if_pos cw]
          exact ⟨o, pl, rfl, s8 _ _ (s7 _ _ (s6 _ _ (s5 _ _ ho4))), (((hpl4.mono s5).mono s6).mono s7).mono s8⟩
        · refine ⟨_, _, _, _, rfl, s08, ?_⟩
          rw [he, st, if_neg cw]
          exact (((hb4.mono s5).mono s6).mono s7).mono s8
      · refine ⟨_, _, _, _, rfl, s34.trans s5, ?_⟩
        have st : stepB (WB p q c0 d0 c1 d1) a (bestB (WB p q c0 d0 c1 d1) a (ns.take i)) n = bestB (WB p q c0 d0 c1 d1) a (ns.take i) := by
          unfold stepB
          rw [Bool.not_eq_true] at hp
          rw [hp, Bool.and_false]
          rfl
        rw [he, st]
        exact hb4.mono s5
    · rintro σ H2 ⟨v, v5, v6, v7, rfl, sm, hb⟩
      rw [List.length_map, pts.len, List.take_length] at hb
      exact ⟨_, rfl, k v H2 sm hb⟩
end
end K31


set_option maxRecDepth 100000
set_option linter.all false
set_option maxHeartbeats 800000
set_option Elab.async false
namespace K31
open PySem L2 L3 X8 M01 L6 L5 QL
open L8 L9 L10 L11 L13 L14 L20 L21 L22 L28 L40 L41 L42 L44 M11
section
variable {P : Program} {w : World} {K : PySem.W.Frag} {mg : Str → Option Value} {base : Heap} {S C : Addr}
theorem scWm : FnScope ["portions", "amounts", "error", "prices", "ways", "strength", "plan", "last", "price", "filler", "room", "mixture", "way"] ["portions", "amounts", "error", "prices"] (defScope s_ways_to_mix) := ⟨rfl, rfl, rfl, by decide +kernel, rfl, by decide +kernel, by decide +kernel⟩
theorem d_ways (T : Th K mg "ways_to_mix" s_ways_to_mix) : Def P w K mg base CX0 1 "ways_to_mix" ["portions", "amounts", "error", "prices"] spNever :=
  QL.def_of T (fun _ _ _ _ _ _ us hl => match us, hl with | [_, _, _, _], _ => rfl) scWm (fun vs H Q E h => h.elim) (fun f cdv A outer s H vs Q E hr h => h.elim)
theorem scPo : FnScope ["ways", "amounts", "error", "portions", "mixture", "way", "plan", "filler", "part"] ["ways", "amounts", "error"] (defScope s_portions_of) := ⟨rfl, rfl, rfl, by decide +kernel, rfl, by decide +kernel, by decide +kernel⟩
theorem d_portions (T : Th K mg "portions_of" s_portions_of) : Def P w K mg base CX0 1 "portions_of" ["ways", "amounts", "error"] spNever :=
  QL.def_of T (fun _ _ _ _ _ _ us hl => match us, hl with | [_, _, _], _ => rfl) scPo (fun vs H Q E h => h.elim) (fun f cdv A outer s H vs Q E hr h => h.elim)
theorem scRo : FnScope ["step", "ways"] ["step", "ways"] (defScope s_rows_of) := ⟨rfl, rfl, rfl, by decide +kernel, rfl, by decide +kernel, by decide +kernel⟩
theorem d_rows (T : Th K mg "rows_of" s_rows_of) : Def P w K mg base CX0 1 "rows_of" ["step", "ways"] spNever :=
  QL.def_of T (fun _ _ _ _ _ _ us hl => match us, hl with | [_, _], _ => rfl) scRo (fun vs H Q E h => h.elim) (fun f cdv A outer s H vs Q E hr h => h.elim)
theorem Pts.snoc {H : Hp} {rs : List Addr} {ns : List Int} (h : Pts K H rs ns) {r : Addr} {n : Int} (e : PortH K H r n) : Pts K H (rs ++ [r]) (ns ++ [n]) := by
  induction h with
  | nil => exact .cons e .nil
  | cons e2 _ ih => exact .cons e2 ih
/-! ### cheapest, with a most of 0 -/
def spCh (K : PySem.W.Frag) : Sp := fun vs H Q _ => ∃ (wa am er pr : Addr) (ns : List Int) (c0 d0 c1 d1 p q a b c : Int), vs = [.ref wa, .ref am, .ref er, .ref pr, .int 0] ∧ H am = some (.lst (ns.map V.int)) ∧ ns.Pairwise (· < ·) ∧ (∀ n ∈ ns, 1 ≤ n ∧ n ≤ 1000) ∧ ns.length ≤ 10 ∧
  RoomAt K H wa c0 d0 c1 d1 ∧ (Sz 400 c0 ∧ Sz 400 d0 ∧ Sz 400 c1 ∧ Sz 400 d1) ∧ (0 < d0 ∧ 0 < d1) ∧ SqT K H er [.int p, .int q] ∧ (Sz 80 p ∧ Sz 40 q ∧ 0 < q) ∧ SqT K H pr [.int a, .int b, .int c] ∧ (Big a ∧ Big b ∧ Big c) ∧
  ∀ r v l H', Same H H' → H' r = some (.tup [v, .ref l]) → H' l = some (.lst []) → (match bestB (WB p q c0 d0 c1 d1) a ns with | none => v = .non | some m => ∃ pl, v = .ref pl ∧ PlanH H' pl m) → Q (.ref r) H'
theorem scCh : FnScope ["wanted", "amounts", "error", "prices", "most", "portions", "best", "paper", "step", "ways", "plan"] ["wanted", "amounts", "error", "prices", "most"] (defScope s_cheapest) := ⟨rfl, rfl, rfl, by decide +kernel, rfl, by decide +kernel, by decide +kernel⟩
theorem d_cheapest {aP : Addr} (T : ThE K mg "cheapest" s_cheapest ["wanted", "amounts", "error", "prices", "most"]) (dBo : Def P w K mg base (CXe P w) 7 "better_offer" ["best", "portions", "wanted", "error", "prices"] (spBo K)) (dWm : Def P w K mg base CX0 1 "ways_to_mix" ["portions", "amounts", "error", "prices"] spNever) (dPo : Def P w K mg base CX0 1 "portions_of" ["ways", "amounts", "error"] spNever) (dRo : Def P w K mg base CX0 1 "rows_of" ["step", "ways"] spNever)
    (zrange : mg "range" = none) (zsorted : mg "sorted" = none) (gP : ∃ aP, mg "PURE" = some (.ref aP) ∧ ∀ H, RoomAt K H aP 1 1 1 1) : Def P w K mg base (CXe P w) 8 "cheapest" ["wanted", "amounts", "error", "prices", "most"] (spCh K) := by
  obtain ⟨f, fd, F, m, b5⟩ := T
  refine ⟨f, fd, ?_, b5, m, F.kp⟩
  obtain ⟨oc, od, dV, kV, doc, pm, an, cdv, ct, osl, rfl, lk, hcd⟩ := F.ex
  obtain ⟨aP, mP, hP⟩ := gP
  refine fn_of lk hcd scCh (fun vs H Q E h => ?_) fun A outer s H vs Q E hr h => ?_
  · obtain ⟨wa, am, er, pr, ns, c0, d0, c1, d1, p, q, a, b, c, rfl, _⟩ := h
    rfl
  · obtain ⟨wa, am, er, pr, ns, c0, d0, c1, d1, p, q, a, b, c, rfl, ham, pw, bn, l10, hwa, zw, d0s, her, zpq, hpr, babc, k⟩ := h
    refine ⟨_, QSs.h (qss_cons (qs_lc (j := 5) (lc_mk (x := "first") (fvs := []) (fidx := []) (defScope s_cheapest) ["wanted", "amounts", "error", "prices", "most", "portions", "best", "paper", "step", "ways", "plan"] rfl rfl (by decide +kernel)) rfl rfl scCh.nd rfl rfl (qi_list (qv 1)) (fun cl C s H ex => (qe_tup (qa_cons (qe_glob (v := .ref aP) rfl mP rfl) (qa_cons (qe_tup (qa_cons (qv 0) (qa_cons (qe_tup qa_nil) qa_nil))) qa_nil)))))
      (qss_cons (qs_set (i := 6) scCh.nd rfl (Or.inl rfl) (qe_callD dBo (hr.mono (by decide)) rfl pass1 (qa_cons qe_non (qa_cons (qv 5) (qa_cons (qv 0) (qa_cons (qv 2) (qa_cons (qv 3) qa_nil)))))))
      (qss_cons (qs_set (i := 7) scCh.nd rfl (Or.inl rfl) (qe_lst qa_nil))
      (qss_cons (qs_for PassesOwn.leaving rfl (qi_range2 rfl zrange (qa_cons qe_int (qa_cons (qe_op op_add (qv 4) qe_int) qa_nil))) (qg_name (i := 8) scCh.nd rfl (Or.inl rfl))
        (qss_cons (qs_set (i := 9) scCh.nd rfl (Or.inl rfl) (qe_callD dWm (hr.mono (by decide)) rfl pass0 (qa_cons (qv 5) (qa_cons (qv 1) (qa_cons (qv 2) (qa_cons (qv 3) qa_nil))))))
      (qss_cons (qs_expr (qe_bm PySem.F.plainAttrs_list PySem.F.slot_list_extend PySem.F.type_list_extend mt_extend (qv 7) (qa_cons (qe_callD dRo (hr.mono (by decide)) rfl pass0 (qa_cons (qv 8) (qa_cons (qv 9) qa_nil))) qa_nil)))
      (qss_cons (qs_set (i := 5) scCh.nd rfl (Or.inl rfl) (qe_callD dPo (hr.mono (by decide)) rfl pass0 (qa_cons (qv 9) (qa_cons (qv 1) (qa_cons (qv 2) qa_nil)))))
      (qss_one (qs_set (i := 6) scCh.nd rfl (Or.inl rfl) (qe_callD dBo (hr.mono (by decide)) rfl pass1 (qa_cons (qv 6) (qa_cons (qv 5) (qa_cons (qv 0) (qa_cons (qv 2) (qa_cons (qv 3) qa_nil))))))))))))
      (qss_cons (qs_set (i := 10) scCh.nd rfl (Or.inl rfl) (qe_ifExp (qt_cmpR op_isN (qv 6) qe_non (nomark _)) qe_non (qe_ix ix_tup (qv 6) qe_int (fun _ _ => rfl))))
      (qss_one (qs_ret (qe_tup (qa_cons (qv 10) (qa_cons (qe_callB call_sortedN (by rfl) zsorted PyProof.Rows.boot_sorted (qa_cons (qv 7) qa_nil)) qa_nil)))))))))), ?_⟩
    refine ⟨_, rfl, am, rfl, ⟨_, SqL.of ham⟩, lc_list (K := K) (a := am) (xs := ns.map V.int) (fun i ys H2 => ∃ rs : List Addr, ys = rs.map V.ref ∧ Pts K H2 rs (ns.take i) ∧ Same H H2) ⟨[], rfl, .nil, Same.refl _⟩ ?_ ?_ ?_⟩
    · rintro i ys H2 hi ⟨rs, rfl, pts, sm⟩
      refine ⟨SqL.of (sm _ _ ham), ?_⟩
      rw [List.length_map, pts.len, List.length_take, sizeLine_eq]
      omega
    · rintro i x ys H2 hx ⟨rs, rfl, pts, sm⟩
      rw [List.getElem?_map] at hx
      obtain ⟨n, en, rfl⟩ := Option.map_eq_some_iff.mp hx
      refine ⟨_, rfl, (by show 0 ≤ sizeLine; decide), fun sp hsp => ⟨(by show 2 ≤ sizeLine; decide), fun pl hpl => ⟨(by show 2 ≤ sizeLine; decide), fun r hr => ?_⟩⟩⟩
      have u1 := sameUpd (o := .tup []) hsp
      have u2 := sameUpd (o := .tup [.int n, .ref sp]) hpl
      have u3 := sameUpd (o := .tup [.ref aP, .ref pl]) hr
      refine ⟨rs ++ [r], by rw [List.map_append]; rfl, ?_, ((sm.trans u1).trans u2).trans u3⟩
      rw [List.take_add_one, en]
      exact (((pts.mono u1).mono u2).mono u3).snoc ⟨aP, pl, upd_same, hP _, sp, u3 _ _ upd_same, u3 _ _ (u2 _ _ upd_same)⟩
    · rintro ys H2 ⟨rs, rfl, pts, sm⟩ D hD
      rw [List.length_map, List.take_length] at pts
      have s1 := sameUpd (o := .lst (rs.map V.ref)) hD
      have s2 := sm.trans s1
      refine ⟨_, rfl, _, rfl, _, rfl, _, rfl, D, wa, er, pr, rs, ns, c0, d0, c1, d1, p, q, a, b, c, rfl, upd_same, pts.mono s1, pw, bn, hwa.mono s2, zw, d0s, seqT s2 her, zpq, seqT s2 hpr, babc, fun v H3 s3 hb => ?_⟩
      refine ⟨(by show 0 ≤ sizeLine; decide), fun pa hpa => ?_⟩
      have s4 := sameUpd (o := .lst []) hpa
      refine ⟨_, rfl, _, _, rfl, rfl, 1, _, rfl, ⟨by decide, by decide, by decide, by decide⟩, for_range (lo := 1) (n := 0) (fun i σ H4 => σ = [some (.ref wa), some (.ref am), some (.ref er), some (.ref pr), some (.int 0), some (.ref D), some v, some (.ref pa), none, none, none] ∧ H4 = upd H3 pa (.lst [])) ⟨rfl, rfl⟩ (fun i σ H4 hi => absurd hi (Nat.not_lt_zero _)) ?_⟩
      rintro σ H4 ⟨rfl, rfl⟩
      have hpa4 : upd H3 pa (.lst []) pa = some (.lst (([] : List Int).map V.int)) := upd_same
      have hb4 := hb.mono s4
      have s04 := (s2.trans s3).trans s4
      cases hbb : bestB (WB p q c0 d0 c1 d1) a ns with
      | none =>
        rw [hbb] at hb4 k
        have hv : v = .non := hb4
        subst hv
        refine ⟨_, rfl, rfl, _, rfl, iteT ?_⟩
        refine ⟨_, rfl, _, rfl, pa, [], rfl, hpa4, by decide, fun l' ns' hl' pm _ => ?_⟩
        rw [List.perm_nil.mp pm]
        have s5 := sameUpd (o := .lst (([] : List Int).map V.int)) hl'
        refine ⟨(by show 2 ≤ sizeLine; decide), fun r hr => ?_⟩
        have s6 := sameUpd (o := .tup [.non, .ref l']) hr
        exact k r .non l' _ ((s04.trans s5).trans s6) upd_same (s6 _ _ upd_same) rfl
      | some m =>
        rw [hbb] at hb4 k
        obtain ⟨o, pl, rfl, h1, h2⟩ := hb4
        refine ⟨_, rfl, rfl, _, rfl, iteF ?_⟩
        refine ⟨_, rfl, o, _, _, _, rfl, rfl, SqT.of h1, rfl, ?_⟩
        refine ⟨_, rfl, _, rfl, pa, [], rfl, hpa4, by decide, fun l' ns' hl' pm _ => ?_⟩
        rw [List.perm_nil.mp pm]
        have s5 := sameUpd (o := .lst (([] : List Int).map V.int)) hl'
        refine ⟨(by show 2 ≤ sizeLine; decide), fun r hr => ?_⟩
        have s6 := sameUpd (o := .tup [.ref pl, .ref l']) hr
        exact k r (.ref pl) l' _ ((s04.trans s5).trans s6) upd_same (s6 _ _ upd_same) ⟨pl, rfl, (h2.mono s5).mono s6⟩
end
end K31


set_option maxRecDepth 100000
set_option linter.all false
set_option maxHeartbeats 800000
set_option Elab.async false
namespace K31
open PySem L2 L3 X8 M01 L6 L5 QL
open L8 L9 L10 L11 L13 L14 L20 L21 L22 L28 L40 L41 L42 L44 M11
section
variable {P : Program} {w : World} {K : PySem.W.Frag} {mg : Str → Option Value} {base : Heap}
/-! ### _law_cell -/
def spCell (K : PySem.W.Frag) : Sp := fun vs H Q _ => ∃ (a : Addr) (ns : List Int) (k : Int), vs = [.ref a, .int k] ∧ SqL K H a (ns.map V.int) ∧ 0 ≤ k ∧ ∀ z, Q (.int z) H
theorem scCell : FnScope ["_law_script", "_law_k"] ["_law_script", "_law_k"] (defScope s_law_cell) := ⟨rfl, rfl, rfl, by decide +kernel, rfl, by decide +kernel, by decide +kernel⟩
theorem d_cell (T : Th K mg "_law_cell" s_law_cell) (zlen : mg "len" = none) : Def P w K mg base CX0 1 "_law_cell" ["_law_script", "_law_k"] (spCell K) := by
  refine QL.def_of T (fun _ _ _ _ _ _ us hl => match us, hl with | [_, _], _ => rfl) scCell (fun vs H Q E h => ?_) (fun f cdv A outer s H vs Q E hr h => ?_)
  · obtain ⟨a, ns, k, rfl, _⟩ := h
    rfl
  · obtain ⟨a, ns, k, rfl, hS, k0, q⟩ := h
    refine ⟨_, (qss_cons (qs_if (qt_cmpR op_lt (qv 1) (qe_callB call_len_seq (by rfl) zlen PySem.boot_len (qa_cons (qv 0) qa_nil)) (nomark _)) (qss_one (qs_ret (qe_ix ix_list (qv 0) (qv 1) (fun _ _ => rfl)))) qss_nil)
      (qss_one (qs_ret qe_int))), ?_⟩
    refine ⟨_, rfl, _, rfl, a, _, rfl, .inl hS, _, _, rfl, rfl, _, rfl, ?_⟩
    refine ite2 (fun z => ?_) (fun _ => ?_)
    · have z' : k < (((ns.map V.int).length : Nat) : Int) := of_decide_eq_true z
      rw [List.length_map] at z'
      have hlt : k.toNat < ns.length := by omega
      have e : (ns.map V.int)[k.toNat]? = some (.int ns[k.toNat]) := by rw [List.getElem?_map, List.getElem?_eq_getElem hlt]; rfl
      have e2 := atI_nat e
      rw [show ((k.toNat : Nat) : Int) = k from by omega] at e2
      exact ⟨_, rfl, _, rfl, a, _, k, _, rfl, rfl, hS, e2, q _⟩
    · exact q 0
end
def spLaw (K : PySem.W.Frag) : Sp := fun vs H Q _ => ∃ (a : Addr) (ns : List Int), vs = [.ref a] ∧ SqL K H a (ns.map V.int) ∧ ns.length ≤ 63 ∧ ∀ H', Q (.bl true) H'
theorem Same.upd {H : Hp} {r : Addr} {o : HO} (h : H r = none) : Same H (upd H r o) := fun b u e => by rw [upd_ne (ne_of_none e h)]; exact e
theorem Same.seqT {K : PySem.W.Frag} {H H' : Hp} {a : Addr} {xs : List V} (e : Same H H') (h : SqT K H a xs) : SqT K H' a xs := by
  rcases h with (h | ⟨o, h⟩) | h
  · exact .inl (.inl (e _ _ h))
  · exact .inl (.inr ⟨o, e _ _ h⟩)
  · exact .inr h

section
variable {P : Program} {w : World} {K : PySem.W.Frag} {mg : Str → Option Value} {base : Heap}
def spPk : Sp := fun vs H Q _ => ∃ (c k m : Int), vs = [.int c, .int k, .int m] ∧ 0 ≤ k ∧ k ≤ 100 ∧ 1 ≤ m ∧ ∀ r : Int, 0 ≤ r → r < m → Q (.int r) H
theorem scPk : FnScope ["_law_cell_here", "_law_k", "_law_many", "_law_rest", "_law_turn", "_law_seed", "_law_blend"] ["_law_cell_here", "_law_k", "_law_many"] (defScope s_law_pick) := ⟨rfl, rfl, rfl, by decide +kernel, rfl, by decide +kernel, by decide +kernel⟩
theorem d_pick (T : Th K mg "_law_pick" s_law_pick) (zrange : mg "range" = none) : Def P w K mg base CX0 1 "_law_pick" ["_law_cell_here", "_law_k", "_law_many"] spPk := by
  refine QL.def_of T (fun _ _ _ _ _ _ us hl => match us, hl with | [_, _, _], _ => rfl) scPk (fun vs H Q E h => ?_) (fun f cdv A outer s H vs Q E hr h => ?_)
  · obtain ⟨c, k, m, rfl, _⟩ := h
    rfl
  · obtain ⟨c, k, m, rfl, k0, k1, m1, q⟩ := h
    refine ⟨_, (qss_cons (qs_set (i := 3) scPk.nd rfl (Or.inl rfl) (qv 0))
      (qss_cons (qs_for PassesOwn.never rfl (qi_range1 rfl zrange (qa_cons (qe_op op_mod (qv 1) qe_int) qa_nil)) (qg_name (i := 4) scPk.nd rfl (Or.inl rfl))
        (qss_one (qs_set (i := 3) scPk.nd rfl (Or.inl rfl) (qe_op op_fdiv (qv 3) qe_int))))
      (qss_cons (qs_if (qt_cmpR op_ge (qv 3) (qe_op op_pow qe_int qe_int) (nomark _)) (qss_one (qs_ret (qe_op op_mod (qe_op op_mod (qv 3) qe_int) (qv 2)))) qss_nil)
      (qss_cons (qs_set (i := 5) scPk.nd rfl (Or.inl rfl) (qe_op op_add (qe_op op_mod (qv 0) qe_int) qe_int))
      (qss_cons (qs_set (i := 6) scPk.nd rfl (Or.inl rfl) (qe_op op_mod (qe_op op_mulB (qv 5) (qe_op op_add (qe_op op_add (qe_op op_mod (qv 5) qe_int) (qe_op op_mulB qe_int (qv 1))) qe_int)) qe_int))
      (qss_one (qs_ret (qe_op op_mod (qe_op op_mod (qe_op op_mulB (qv 6) (qe_op op_add (qe_op op_mod (qv 6) qe_int) qe_int)) qe_int) (qv 2))))))))), ?_⟩
    refine ⟨_, rfl, _, rfl, _, _, rfl, rfl, (by show (0 : Int) < 41; decide), ?_⟩
    have r0 := Int.emod_nonneg k (show (41 : Int) ≠ 0 by decide)
    have r1 := Int.emod_lt_of_pos k (show (0 : Int) < 41 by decide)
    refine ⟨k % 41, rfl, by omega, by omega, for_range (lo := 0) (n := (k % 41).toNat) (fun i σ H2 => ∃ (r : Int) (v4 : Option V), σ = [some (.int c), some (.int k), some (.int m), some (.int r), v4, none, none] ∧ H2 = H) ⟨c, none, rfl, rfl⟩ ?_ ?_⟩
    · rintro i σ H2 hi ⟨r, v4, rfl, rfl⟩
      exact ⟨_, rfl, _, _, rfl, rfl, ⟨by decide, by decide⟩, r / 1000003, some (.int (0 + i)), rfl, rfl⟩
    · rintro σ H2 ⟨r, v4, rfl, rfl⟩
      refine ⟨_, rfl, _, _, rfl, rfl, ⟨by decide, by decide, by decide⟩, _, _, rfl, rfl, _, rfl, ite2 (fun _ => ?_) (fun _ => ?_)⟩
      · exact ⟨_, rfl, _, _, rfl, rfl, (by show (0 : Int) < 1000003; decide), _, rfl, _, _, rfl, rfl, (by show 0 < m; omega), q _ (Int.emod_nonneg _ (by omega)) (Int.emod_lt_of_pos _ (by omega))⟩
      · refine ⟨_, rfl, _, _, rfl, rfl, (by show (0 : Int) < 1000000007; decide), _, _, rfl, rfl, ?_⟩
        have a0 := Int.emod_nonneg c (show (1000000007 : Int) ≠ 0 by decide)
        have a1 := Int.emod_lt_of_pos c (show (0 : Int) < 1000000007 by decide)
        generalize c % 1000000007 = d at a0 a1
        have b0 := Int.emod_nonneg (d + 101) (show (65537 : Int) ≠ 0 by decide)
        have b1 := Int.emod_lt_of_pos (d + 101) (show (0 : Int) < 65537 by decide)
        refine ⟨_, rfl, _, rfl, _, _, rfl, rfl, (by show (0 : Int) < 65537; decide), _, rfl, _, _, rfl, rfl, ⟨Big.of (by decide) (by decide), Big.of (by omega) (by omega)⟩, _, _, rfl, rfl, _, _, rfl, rfl, _, _, rfl, rfl, ⟨Big.of (by omega) (by omega), Big.of (by omega) (by omega)⟩, _, _, rfl, rfl, (by show (0 : Int) < 1000000009; decide), ?_⟩
        have c0 := Int.emod_nonneg ((d + 101) * ((d + 101) % 65537 + 4099 * k + 7)) (show (1000000009 : Int) ≠ 0 by decide)
        have c1 := Int.emod_lt_of_pos ((d + 101) * ((d + 101) % 65537 + 4099 * k + 7)) (show (0 : Int) < 1000000009 by decide)
        generalize (d + 101) * ((d + 101) % 65537 + 4099 * k + 7) % 1000000009 = e at c0 c1
        have d0 := Int.emod_nonneg e (show (8191 : Int) ≠ 0 by decide)
        have d1 := Int.emod_lt_of_pos e (show (0 : Int) < 8191 by decide)
        exact ⟨_, rfl, _, rfl, _, _, rfl, rfl, (by show (0 : Int) < 8191; decide), _, _, rfl, rfl, _, _, rfl, rfl, ⟨Big.of (by omega) (by omega), Big.of (by omega) (by omega)⟩, _, _, rfl, rfl, (by show (0 : Int) < 1000000021; decide), _, rfl, _, _, rfl, rfl, (by show 0 < m; omega), q _ (Int.emod_nonneg _ (by omega)) (Int.emod_lt_of_pos _ (by omega))⟩
end

section
variable {P : Program} {w : World} {K : PySem.W.Frag} {mg : Str → Option Value} {base : Heap} {S C : Addr}
def spRa : Sp := fun vs H Q _ => ∃ t b : Int, vs = [.int t, .int b] ∧ 0 < b ∧ Big b ∧ ∀ r, H r = none → Q (.ref r) (upd H r (.tup [.int (ft t b), .int (fb t b)]))
theorem scRa : FnScope ["_law_top", "_law_bottom", "_law_one", "_law_rest"] ["_law_top", "_law_bottom"] (defScope s_law_ratio) := ⟨rfl, rfl, rfl, by decide +kernel, rfl, by decide +kernel, by decide +kernel⟩
theorem d_ratio (T : Th K mg "_law_ratio" s_law_ratio) (zabs : mg "abs" = none) : Def P w K mg base CX0 1 "_law_ratio" ["_law_top", "_law_bottom"] spRa := by
  refine QL.def_of T (fun _ _ _ _ _ _ us hl => match us, hl with | [_, _], _ => rfl) scRa (fun vs H Q E h => ?_) (fun f cdv A outer s H vs Q E hr h => ?_)
  · obtain ⟨t, b, rfl, _⟩ := h
    rfl
  · obtain ⟨t, b, rfl, b0, bb, k⟩ := h
    refine ⟨_, (qss_cons (qs_set (i := 2) scRa.nd rfl (Or.inl rfl) (qe_callB call_abs (by rfl) zabs PyProof.Rows.boot_abs (qa_cons (qv 0) qa_nil)))
      (qss_cons (qs_set (i := 3) scRa.nd rfl (Or.inl rfl) (qv 1))
      (qss_cons (qs_while PassesOwn.never (qt_cmpR op_gt (qv 3) qe_int (nomark _)) (qss_one (qs_par (i := 2) (j := 3) rfl scRa.nd rfl rfl (by decide) rfl rfl (qa_cons (qv 3) (qa_cons (qe_op op_mod (qv 2) (qv 3)) qa_nil)) rfl)))
      (qss_one (qs_ret (qe_tup (qa_cons (qe_op op_fdivB (qv 0) (qv 2)) (qa_cons (qe_op op_fdivB (qv 1) (qv 2)) qa_nil)))))))), ?_⟩
    refine ⟨_, rfl, _, rfl, _, rfl, ?_⟩
    have eb : ab b = b := by unfold ab; rw [if_neg (by omega)]
    have ed : dv t b = gz (ab t) b := by unfold dv; rw [if_neg (by omega), eb]
    refine while_by (fun σ H1 => ∃ a1 b1, σ = [some (.int t), some (.int b), some (.int a1), some (.int b1)] ∧ H1 = H ∧ 0 ≤ a1 ∧ 0 ≤ b1 ∧ gz a1 b1 = dv t b) (fun σ _ => match σ with | [_, _, _, some (.int b1)] => b1.toNat | _ => 0) ⟨ab t, b, rfl, rfl, (by unfold ab; split <;> omega), Int.le_of_lt b0, ed.symm⟩ ?_ ?_
    · rintro σ H1 ⟨a1, b1, rfl, rfl, h1, h2, e⟩
      refine ⟨_, rfl, _, _, rfl, rfl, _, rfl, ite2 (fun c => ?_) (fun c => ?_)⟩
      · have q' : 0 < b1 := of_decide_eq_true c
        refine ⟨_, rfl, _, rfl, _, rfl, _, _, rfl, rfl, q', _, _, rfl, ⟨b1, a1 % b1, rfl, rfl, h2, Int.emod_nonneg _ (by omega), by rw [gz_step h1 q']; exact e⟩, ?_⟩
        show (a1 % b1).toNat < b1.toNat
        have z1 := Int.emod_lt_of_pos a1 q'
        have z2 := Int.emod_nonneg a1 (show b1 ≠ 0 by omega)
        omega
      · have q' : ¬ (0 < b1) := fun z => c (decide_eq_true z)
        have z0 : b1 = 0 := by omega
        subst z0
        rw [gz_end h1] at e
        subst e
        have d0 : dv t b ≠ 0 := dv_ne (by omega)
        have dB : Big (dv t b) := Big.le (dv_le (by omega)) bb
        exact ⟨_, rfl, _, rfl, _, _, rfl, rfl, ⟨d0, dB⟩, _, rfl, _, rfl, _, _, rfl, rfl, ⟨d0, dB⟩, (by show 2 ≤ sizeLine; decide), fun p np => k p np⟩
    · exact fun σ H Q Q' hq ⟨v, e1, i, j, e5, e6, c, e7, q⟩ => ⟨v, e1, i, j, e5, e6, c, e7, hq _ _ q⟩
def spMu (K : PySem.W.Frag) : Sp := fun vs H Q _ => ∃ (p q : Addr) (a b c d : Int), vs = [.ref p, .ref q] ∧ SqT K H p [.int a, .int b] ∧ SqT K H q [.int c, .int d] ∧ (Sz 1000 a ∧ Sz 1000 b ∧ Sz 1000 c ∧ Sz 1000 d) ∧ 0 < b ∧ 0 < d ∧ ∀ r, H r = none → Q (.ref r) (upd H r (.tup [.int (ft (a * c) (b * d)), .int (fb (a * c) (b * d))]))
theorem scMu : FnScope ["_law_one", "_law_two"] ["_law_one", "_law_two"] (defScope s_law_mul) := ⟨rfl, rfl, rfl, by decide +kernel, rfl, by decide +kernel, by decide +kernel⟩
theorem d_mul (T : Th K mg "_law_mul" s_law_mul) (dRa : Def P w K mg base CX0 1 "_law_ratio" ["_law_top", "_law_bottom"] spRa) : Def P w K mg base CX0 2 "_law_mul" ["_law_one", "_law_two"] (spMu K) := by
  refine QL.def_of T (fun _ _ _ _ _ _ us hl => match us, hl with | [_, _], _ => rfl) scMu (fun vs H Q E h => ?_) (fun f cdv A outer s H vs Q E hr h => ?_)
  · obtain ⟨p, q, a, b, c, d, rfl, _⟩ := h
    rfl
  · obtain ⟨p, q, a, b, c, d, rfl, hp, hq, ⟨za, zb, zc, zd⟩, b0, d0, k⟩ := h
    refine ⟨_, (qss_one (qs_ret (qe_callD dRa (hr.mono (by decide)) rfl pass0 (qa_cons (qe_op op_mulB (qe_ix ix_tup (qv 0) qe_int (fun _ _ => rfl)) (qe_ix ix_tup (qv 1) qe_int (fun _ _ => rfl))) (qa_cons (qe_op op_mulB (qe_ix ix_tup (qv 0) qe_int (fun _ _ => rfl)) (qe_ix ix_tup (qv 1) qe_int (fun _ _ => rfl))) qa_nil))))), ?_⟩
    have B : ∀ {x : Int}, Sz 1000 x → Big x := fun h => h.big (by decide)
    exact ⟨_, rfl, p, _, _, _, rfl, rfl, hp, rfl, _, rfl, q, _, _, _, rfl, rfl, hq, rfl, _, _, rfl, rfl, ⟨B za, B zc⟩, _, rfl, p, _, _, _, rfl, rfl, hp, rfl, _, rfl, q, _, _, _, rfl, rfl, hq, rfl, _, _, rfl, rfl, ⟨B zb, B zd⟩, _, _, rfl, Int.mul_pos b0 d0, (zb.mul zd).big (by decide), k⟩
theorem scLe : FnScope ["_law_one", "_law_two"] ["_law_one", "_law_two"] (defScope s_law_less) := ⟨rfl, rfl, rfl, by decide +kernel, rfl, by decide +kernel, by decide +kernel⟩
theorem d_less (T : Th K mg "_law_less" s_law_less) : Def P w K mg base CX0 1 "_law_less" ["_law_one", "_law_two"] (spUn K) := by
  refine QL.def_of T (fun _ _ _ _ _ _ us hl => match us, hl with | [_, _], _ => rfl) scLe (fun vs H Q E h => ?_) (fun f cdv A outer s H vs Q E hr h => ?_)
  · obtain ⟨p, q, a, b, c, d, rfl, _⟩ := h
    rfl
  · obtain ⟨p, q, a, b, c, d, rfl, hp, hq, ⟨z1, z2, z3, z4⟩, k⟩ := h
    refine ⟨_, (qss_one (qs_ret (qe_cmpR op_lt (qe_op op_mulB (qe_ix ix_tup (qv 0) qe_int (fun _ _ => rfl)) (qe_ix ix_tup (qv 1) qe_int (fun _ _ => rfl))) (qe_op op_mulB (qe_ix ix_tup (qv 1) qe_int (fun _ _ => rfl)) (qe_ix ix_tup (qv 0) qe_int (fun _ _ => rfl))) (nomark _)))), ?_⟩
    exact ⟨_, rfl, p, _, _, _, rfl, rfl, hp, rfl, _, rfl, q, _, _, _, rfl, rfl, hq, rfl, _, _, rfl, rfl, ⟨z1, z4⟩, _, rfl, q, _, _, _, rfl, rfl, hq, rfl, _, rfl, p, _, _, _, rfl, rfl, hp, rfl, _, _, rfl, rfl, ⟨z3, z2⟩, _, _, rfl, rfl, k⟩
def four (a b c d : Int) (i : Int) : Int := if i = 0 then a else if i = 1 then b else if i = 2 then c else d
theorem at4 {a b c d i : Int} (h0 : 0 ≤ i) (h1 : i < 4) : atI [V.int a, V.int b, V.int c, V.int d] i = some (.int (four a b c d i)) := by
  have : i = 0 ∨ i = 1 ∨ i = 2 ∨ i = 3 := by omega
  rcases this with rfl | rfl | rfl | rfl <;> rfl
def six (i : Int) : Int := if i = 0 then 1 else if i = 1 then 2 else if i = 2 then 3 else if i = 3 then 4 else if i = 4 then 6 else 8
theorem at6 {i : Int} (h0 : 0 ≤ i) (h1 : i < 6) : atI [V.int 1, V.int 2, V.int 3, V.int 4, V.int 6, V.int 8] i = some (.int (six i)) := by
  have : i = 0 ∨ i = 1 ∨ i = 2 ∨ i = 3 ∨ i = 4 ∨ i = 5 := by omega
  rcases this with rfl | rfl | rfl | rfl | rfl | rfl <;> rfl
theorem six_b (i : Int) : 1 ≤ six i ∧ six i ≤ 8 := by
  unfold six
  (repeat' split) <;> omega
theorem four_b {a b c d lo hi : Int} (h : (lo ≤ a ∧ a ≤ hi) ∧ (lo ≤ b ∧ b ≤ hi) ∧ (lo ≤ c ∧ c ≤ hi) ∧ (lo ≤ d ∧ d ≤ hi)) (i : Int) : lo ≤ four a b c d i ∧ four a b c d i ≤ hi := by
  unfold four
  (repeat' split) <;> omega
theorem nodup_ded (ns : List Int) : (ded ns).Nodup := by
  unfold ded
  generalize ns.length = k
  induction k with
  | zero => exact List.nodup_nil
  | succ k ih =>
    rw [PyProof.Rows.firstMet_succ]
    unfold PyProof.Rows.step_dedup
    split
    · exact ih
    · rename_i hn
      refine List.nodup_append.mpr ⟨ih, by simp, fun a ha b hb => ?_⟩
      rw [List.mem_singleton.mp hb]
      intro e
      refine hn ?_
      rw [e] at ha
      exact List.any_eq_true.mpr ⟨_, ha, beq_self_eq_true _⟩
def spAm : Sp := fun vs H Q _ => ∃ c m : Int, vs = [.int c, .int m] ∧ (0 ≤ m ∧ m ≤ 8) ∧
  ∀ (l : Addr) (ns : List Int) (H' : Hp), Same H H' → H' l = some (.lst (ns.map V.int)) → ns.Pairwise (· < ·) → (∀ n ∈ ns, 1 ≤ n ∧ n ≤ 1000) → ns.length ≤ 8 → Q (.ref l) H'
theorem scAm : FnScope ["_law_cell_here", "_law_most", "_law_wide", "_law_shift", "_law_unit", "_law_found", "_law_k", "_law_amount"] ["_law_cell_here", "_law_most"] (defScope s_law_amounts) := ⟨rfl, rfl, rfl, by decide +kernel, rfl, by decide +kernel, by decide +kernel⟩
theorem d_amounts (T : Th K mg "_law_amounts" s_law_amounts) (dPk : Def P w K mg base CX0 1 "_law_pick" ["_law_cell_here", "_law_k", "_law_many"] spPk) (zrange : mg "range" = none) (zsorted : mg "sorted" = none) (zset : mg "set" = none) : Def P w K mg base CX0 2 "_law_amounts" ["_law_cell_here", "_law_most"] spAm := by
  refine QL.def_of T (fun _ _ _ _ _ _ us hl => match us, hl with | [_, _], _ => rfl) scAm (fun vs H Q E h => ?_) (fun f cdv A outer s H vs Q E hr h => ?_)
  · obtain ⟨c, m, rfl, _⟩ := h
    rfl
  · obtain ⟨c, m, rfl, ⟨m0, m8⟩, k⟩ := h
    refine ⟨_, (qss_cons (qs_set (i := 2) scAm.nd rfl (Or.inl rfl) (qe_ix ix_list (qe_lst (qa_cs (.int (.int (.int (.int .nil)))))) (qe_callD dPk (hr.mono (by decide)) rfl pass0 (qa_cons (qv 0) (qa_cons qe_int (qa_cons qe_int qa_nil)))) (fun _ _ => rfl)))
      (qss_cons (qs_set (i := 3) scAm.nd rfl (Or.inl rfl) (qe_ix ix_list (qe_lst (qa_cs (.int (.int (.int (.int .nil)))))) (qe_callD dPk (hr.mono (by decide)) rfl pass0 (qa_cons (qv 0) (qa_cons qe_int (qa_cons qe_int qa_nil)))) (fun _ _ => rfl)))
      (qss_cons (qs_set (i := 4) scAm.nd rfl (Or.inl rfl) (qe_op op_add qe_int (qe_callD dPk (hr.mono (by decide)) rfl pass0 (qa_cons (qv 0) (qa_cons qe_int (qa_cons (qe_op op_fdiv (qv 2) qe_int) qa_nil))))))
      (qss_cons (qs_set (i := 5) scAm.nd rfl (Or.inl rfl) (qe_lst qa_nil))
      (qss_cons (qs_for PassesOwn.never rfl (qi_range1 rfl zrange (qa_cons (qe_callD dPk (hr.mono (by decide)) rfl pass0 (qa_cons (qv 0) (qa_cons qe_int (qa_cons (qe_op op_add (qv 1) qe_int) qa_nil)))) qa_nil)) (qg_name (i := 6) scAm.nd rfl (Or.inl rfl))
        (qss_cons (qs_set (i := 7) scAm.nd rfl (Or.inl rfl) (qe_op op_add (qe_op op_add qe_int (qv 3)) (qe_callD dPk (hr.mono (by decide)) rfl pass0 (qa_cons (qv 0) (qa_cons (qe_op op_add qe_int (qv 6)) (qa_cons (qv 2) qa_nil))))))
      (qss_cons (qs_join (qs_if (qt_cmpR op_eq (qe_callD dPk (hr.mono (by decide)) rfl pass0 (qa_cons (qv 0) (qa_cons qe_int (qa_cons qe_int qa_nil)))) qe_int (nomark _)) (qss_one (qs_set (i := 7) scAm.nd rfl (Or.inl rfl) (qe_op op_mul (qv 4) (qe_ix ix_list (qe_lst (qa_cs (.int (.int (.int (.int (.int (.int .nil)))))))) (qe_callD dPk (hr.mono (by decide)) rfl pass0 (qa_cons (qv 0) (qa_cons (qe_op op_add qe_int (qv 6)) (qa_cons qe_int qa_nil)))) (fun _ _ => rfl))))) qss_nil))
      (qss_one (qs_expr (qe_bm PySem.F.plainAttrs_list PySem.F.slot_list_append PySem.F.type_list_append mt_append (qv 5) (qa_cons (qv 7) qa_nil)))))))
      (qss_one (qs_ret (qe_callB (call_sortedS rfl) (by rfl) zsorted PyProof.Rows.boot_sorted (qa_cons (qe_callTy (call_setL rfl) (by rfl) zset PyProof.Rows.boot_set (qa_cons (qv 5) qa_nil)) qa_nil))))))))), ?_⟩
    have z4 : 4 ≤ sizeLine := by decide
    refine ⟨z4, fun l1 h1 => ⟨_, rfl, c, 1, 4, rfl, by decide, by decide, by decide, fun r1 r10 r11 => ⟨l1, _, r1, _, rfl, rfl, SqL.of upd_same, at4 r10 r11, ?_⟩⟩⟩
    refine ⟨z4, fun l2 h2 => ⟨_, rfl, c, 2, 4, rfl, by decide, by decide, by decide, fun r2 r20 r21 => ⟨l2, _, r2, _, rfl, rfl, SqL.of upd_same, at4 r20 r21, ?_⟩⟩⟩
    have w1 : 8 ≤ four 8 24 90 990 r1 ∧ four 8 24 90 990 r1 ≤ 990 := four_b (by decide) r1
    have w2 : 0 ≤ four 0 0 4 9 r2 ∧ four 0 0 4 9 r2 ≤ 9 := four_b (by decide) r2
    generalize four 8 24 90 990 r1 = wd at w1
    generalize four 0 0 4 9 r2 = sh at w2
    have s2 := (sameUpd (o := .lst [.int 8, .int 24, .int 90, .int 990]) h1).trans (sameUpd (o := .lst [.int 0, .int 0, .int 4, .int 9]) h2)
    generalize upd (upd H l1 (.lst [.int 8, .int 24, .int 90, .int 990])) l2 (.lst [.int 0, .int 0, .int 4, .int 9]) = H2 at s2
    have w8 := Int.ediv_le_self 8 (show 0 ≤ wd by omega)
    refine ⟨_, rfl, _, rfl, _, _, rfl, rfl, ⟨by decide, by decide⟩, c, 4, wd / 8, rfl, by decide, by decide, by omega, fun r3 r30 r31 => ⟨_, _, rfl, rfl, ?_⟩⟩
    refine ⟨(by show 0 ≤ sizeLine; decide), fun fo hfo => ?_⟩
    have s3 := sameUpd (o := .lst []) hfo
    refine ⟨_, rfl, _, rfl, _, _, rfl, rfl, c, 3, m + 1, rfl, by decide, by decide, by omega, fun r4 r40 r41 => ⟨r4, rfl, by omega, by omega, ?_⟩⟩
    refine for_range (lo := 0) (n := r4.toNat) (fun i σ H3 => ∃ (v6 v7 : Option V) (xs : List Int), σ = [some (.int c), some (.int m), some (.int wd), some (.int sh), some (.int (1 + r3)), some (.ref fo), v6, v7] ∧ H3 fo = some (.lst (xs.map V.int)) ∧ xs.length = i ∧ (∀ x ∈ xs, 1 ≤ x ∧ x ≤ 1000) ∧ Same H2 H3) ⟨none, none, [], rfl, upd_same, rfl, fun x hx => absurd hx (by simp), s3⟩ ?_ ?_
    · rintro i σ H3 hi ⟨v6, v7, xs, rfl, hfo3, lx, hx, s4⟩
      refine ⟨_, rfl, _, _, rfl, rfl, _, rfl, _, rfl, _, _, rfl, rfl, _, rfl, c, 10 + (0 + (i : Int)), wd, rfl, by omega, by omega, by omega, fun r5 r50 r51 => ⟨_, _, rfl, rfl, ?_⟩⟩
      refine ⟨fun σ' H' => ∃ am : Int, σ' = [some (.int c), some (.int m), some (.int wd), some (.int sh), some (.int (1 + r3)), some (.ref fo), some (.int (0 + (i : Int))), some (.int am)] ∧ (1 ≤ am ∧ am ≤ 1000) ∧ Same H3 H', ?_, ?_⟩
      · refine ⟨_, rfl, c, 5, 3, rfl, by decide, by decide, by decide, fun r6 r60 r61 => ⟨rfl, _, rfl, ite2 (fun _ => ?_) (fun _ => ?_)⟩⟩
        · refine ⟨_, rfl, (by show 6 ≤ sizeLine; decide), fun l6 h6 => ?_⟩
          refine ⟨_, rfl, _, rfl, _, _, rfl, rfl, c, 10 + (0 + (i : Int)), 6, rfl, by omega, by omega, by decide, fun r7 r70 r71 => ⟨l6, _, r7, _, rfl, rfl, SqL.of upd_same, at6 r70 r71, ?_⟩⟩
          have sb := six_b r7
          refine ⟨_, _, rfl, rfl, .inl ⟨by omega, by omega⟩, _, rfl, ?_, sameUpd h6⟩
          have u1 := Int.mul_pos (show 0 < 1 + r3 by omega) (show 0 < six r7 by omega)
          have u2 := Int.mul_le_mul (show 1 + r3 ≤ 124 by omega) sb.2 (by omega) (by omega)
          exact ⟨by omega, by omega⟩
        · exact ⟨_, rfl, ⟨by omega, by omega⟩, Same.refl _⟩
      · rintro σ' H4 ⟨am, rfl, ham, s5⟩
        have hfo4 := s5 _ _ hfo3
        refine ⟨_, rfl, .inl ⟨rfl, _, SqL.of hfo4⟩, _, rfl, fo, _, _, rfl, rfl, hfo4, ?_, ?_⟩
        · rw [List.length_map, lx, sizeLine_eq]; omega
        · refine ⟨_, _, xs ++ [am], rfl, ?_, by rw [List.length_append, lx]; rfl, fun x hxx => ?_, fun b o e => ?_⟩
          · rw [upd_same, List.map_append]; rfl
          · rcases List.mem_append.mp hxx with z | z
            · exact hx x z
            · rw [List.mem_singleton.mp z]; exact ham
          · rw [upd_ne (ne_of_none e hfo)]; exact s5 _ _ (s4 _ _ e)
    · rintro σ H3 ⟨v6, v7, xs, rfl, hfo3, lx, hx, s4⟩
      have l8 : xs.length ≤ 8 := by omega
      have dl := ded_len xs
      refine ⟨_, rfl, fo, xs, rfl, hfo3, by omega, fun sa hsa => ⟨sa, ded xs, rfl, upd_same, by omega, fun l' ns' hl' pm pws => ?_⟩⟩
      have s6 := (s2.trans s4).trans ((sameUpd hsa).trans (sameUpd (o := .lst (ns'.map V.int)) hl'))
      refine k l' ns' _ s6 upd_same ?_ (fun n hn => hx n (mem_ded.mp (pm.mem_iff.mp hn))) (by rw [pm.length_eq]; omega)
      have nd : ns'.Nodup := pm.nodup_iff.mpr (nodup_ded xs)
      exact (pws.and nd).imp fun ⟨h1, h2⟩ => by omega
end
end K31


set_option maxRecDepth 100000
set_option linter.all false
set_option maxHeartbeats 800000
set_option Elab.async false
namespace K31
open PySem L2 L3 X8 M01 L6 L5 QL
open L8 L9 L10 L11 L13 L14 L20 L21 L22 L28 L40 L41 L42 L44 M11
section
variable {P : Program} {w : World} {K : PySem.W.Frag} {mg : Str → Option Value} {base : Heap} {S C : Addr}
def spEr (K : PySem.W.Frag) : Sp := fun vs H Q _ => ∃ (c : Int) (am : Addr) (ns : List Int), vs = [.int c, .ref am] ∧ SqL K H am (ns.map V.int) ∧ (∀ n ∈ ns, 1 ≤ n ∧ n ≤ 1000) ∧
  ∀ (r : Addr) (p q : Int) (H' : Hp), Same H H' → H' r = some (.tup [.int p, .int q]) → Sz 80 p → Sz 40 q → 0 < q → Q (.ref r) H'
theorem scEr : FnScope ["_law_cell_here", "_law_amounts_here", "_law_bottom", "_law_way"] ["_law_cell_here", "_law_amounts_here"] (defScope s_law_error) := ⟨rfl, rfl, rfl, by decide +kernel, rfl, by decide +kernel, by decide +kernel⟩
theorem d_error (T : Th K mg "_law_error" s_law_error) (dPk : Def P w K mg base CX0 1 "_law_pick" ["_law_cell_here", "_law_k", "_law_many"] spPk) (dRa : Def P w K mg base CX0 1 "_law_ratio" ["_law_top", "_law_bottom"] spRa) (zlen : mg "len" = none) : Def P w K mg base CX0 2 "_law_error" ["_law_cell_here", "_law_amounts_here"] (spEr K) := by
  refine QL.def_of T (fun _ _ _ _ _ _ us hl => match us, hl with | [_, _], _ => rfl) scEr (fun vs H Q E h => ?_) (fun f cdv A outer s H vs Q E hr h => ?_)
  · obtain ⟨c, am, ns, rfl, _⟩ := h
    rfl
  · obtain ⟨c, am, ns, rfl, hA, bn, k⟩ := h
    refine ⟨_, (qss_cons (qs_set (i := 2) scEr.nd rfl (Or.inl rfl) (qe_op op_add qe_int (qe_callD dPk (hr.mono (by decide)) rfl pass0 (qa_cons (qv 0) (qa_cons qe_int (qa_cons qe_int qa_nil))))))
      (qss_cons (qs_set (i := 3) scEr.nd rfl (Or.inl rfl) (qe_callD dPk (hr.mono (by decide)) rfl pass0 (qa_cons (qv 0) (qa_cons qe_int (qa_cons qe_int qa_nil)))))
      (qss_cons (qs_if (QW.pt (qw_or (qt_cmpR op_eq (qv 3) qe_int (nomark _)) (qw_or1 (qt_cmpR op_eq (qe_callB call_len_seq (by rfl) zlen PySem.boot_len (qa_cons (qv 1) qa_nil)) qe_int (nomark _))))) (qss_one (qs_ret (qe_tup (qa_cons qe_int (qa_cons qe_int qa_nil))))) qss_nil)
      (qss_cons (qs_if (qt_cmpR op_eq (qv 3) qe_int (nomark _)) (qss_one (qs_ret (qe_callD dRa (hr.mono (by decide)) rfl pass0 (qa_cons (qe_callD dPk (hr.mono (by decide)) rfl pass0 (qa_cons (qv 0) (qa_cons qe_int (qa_cons (qe_op op_mul (qe_ix ix_list (qv 1) qe_int (fun _ _ => rfl)) (qv 2)) qa_nil)))) (qa_cons (qv 2) qa_nil))))) qss_nil)
      (qss_one (qs_ret (qe_callD dRa (hr.mono (by decide)) rfl pass0 (qa_cons (qe_callD dPk (hr.mono (by decide)) rfl pass0 (qa_cons (qv 0) (qa_cons qe_int (qa_cons (qv 2) qa_nil)))) (qa_cons (qe_op op_mul (qv 2) (qv 3)) qa_nil))))))))), ?_⟩
    have sz : ∀ {x : Int} {n : Nat}, 0 ≤ x → x < 2 ^ n → Sz n x := fun h0 h1 => by unfold Sz; rename_i n; have := (show (((2 : Nat) ^ n : Nat) : Int) = (2 : Int) ^ n from by simp); omega
    refine ⟨_, rfl, c, 21, 40, rfl, by decide, by decide, by decide, fun b1 b10 b11 => ⟨_, _, rfl, rfl, ?_⟩⟩
    refine ⟨_, rfl, c, 22, 4, rfl, by decide, by decide, by decide, fun w1 w10 w11 => ?_⟩
    dsimp only [gName, tSeq]
    refine if_by (p := w1 = 0 ∨ ns = []) (fun Q' k' => ?_) (fun H5 s5 hp => ?_) (fun H5 s5 hp => ?_)
    · refine ⟨_, rfl, rfl, _, rfl, ite2 (fun c1 => ?_) (fun c1 => ?_)⟩
      · exact k' _ _ (Same.refl _) ⟨fun _ => .inl (by injection of_decide_eq_true c1), fun _ => rfl⟩
      · refine ⟨_, rfl, am, _, rfl, .inl hA, rfl, _, rfl, k' _ _ (Same.refl _) ?_⟩
        have c2 : ¬ w1 = 0 := fun z => c1 (by rw [z]; exact decide_eq_true rfl)
        rw [List.length_map]
        constructor
        · intro z
          have z1 : V.int ((ns.length : Nat) : Int) = V.int 0 := of_decide_eq_true z
          injection z1 with z2
          exact .inr (List.length_eq_zero_iff.mp (by omega))
        · rintro (z | z)
          · exact absurd z c2
          · rw [z]; rfl
    · refine ⟨(by show 2 ≤ sizeLine; decide), fun r hr => ?_⟩
      exact k r 0 1 _ (s5.trans (sameUpd hr)) upd_same (by unfold Sz; decide) (by unfold Sz; decide) (by decide)
    · have hA5 : SqL K H5 am (ns.map V.int) := s5.seq hA
      refine ⟨_, rfl, rfl, _, rfl, ite2 (fun c1 => ?_) (fun c1 => ?_)⟩
      · have ne : 0 < ns.length := List.length_pos_iff.mpr fun z => hp (.inr z)
        have bn0 := bn (ns.getD 0 0) (by rw [List.getD_eq_getElem?_getD, List.getElem?_eq_getElem ne]; exact List.getElem_mem ne)
        have m0 := Int.mul_pos (show 0 < ns.getD (0 : Int).toNat 0 by show 0 < ns.getD 0 0; omega) (show 0 < 1 + b1 by omega)
        have m1 := Int.mul_le_mul (show ns.getD (0 : Int).toNat 0 ≤ 1000 from bn0.2) (show 1 + b1 ≤ 40 by omega) (by omega) (by omega)
        refine ⟨_, rfl, _, rfl, am, _, 0, _, rfl, rfl, hA5, at_ints (by decide) (by omega), _, rfl, _, _, rfl, rfl, .inl ⟨?_, ?_⟩, c, 23, _, rfl, by decide, by decide, by omega, fun t t0 t1 => ?_⟩
        · have := bn0.1; show -(2 ^ 64) < ns.getD 0 0; omega
        · have := bn0.2; show ns.getD 0 0 < 2 ^ 64; omega
        refine ⟨_, rfl, t, 1 + b1, rfl, by omega, Big.of (by omega) (by omega), fun r hr => ?_⟩
        have f := fq t (show 0 < 1 + b1 by omega)
        have z := f.sz (sz (n := 80) t0 (by omega)) (sz (n := 40) (show 0 ≤ 1 + b1 by omega) (by omega))
        exact k r _ _ _ (s5.trans (sameUpd hr)) upd_same z.1 z.2 f.low.pos
      · refine ⟨_, rfl, _, rfl, c, 24, 1 + b1, rfl, by decide, by decide, by omega, fun t t0 t1 => ?_⟩
        have c2 : ¬ w1 = 0 := fun z => hp (.inl z)
        have m0 := Int.mul_pos (show 0 < 1 + b1 by omega) (show 0 < w1 by omega)
        have m1 := Int.mul_le_mul (show 1 + b1 ≤ 40 by omega) (show w1 ≤ 3 by omega) (by omega) (by omega)
        refine ⟨_, rfl, _, rfl, _, _, rfl, rfl, .inl ⟨by omega, by omega⟩, t, (1 + b1) * w1, rfl, m0, Big.of (by omega) (by omega), fun r hr => ?_⟩
        have f := fq t m0
        have z := f.sz (sz (n := 80) t0 (by omega)) (sz (n := 40) (show 0 ≤ (1 + b1) * w1 by omega) (by omega))
        exact k r _ _ _ (s5.trans (sameUpd hr)) upd_same z.1 z.2 f.low.pos
def spPc : Sp := fun vs H Q _ => ∃ c : Int, vs = [.int c] ∧ ∀ (r : Addr) (x y z : Int) (H' : Hp), Same H H' → H' r = some (.tup [.int x, .int y, .int z]) → (0 ≤ x ∧ x < 10 ^ 9) → (0 ≤ y ∧ y < 10 ^ 9) → (0 ≤ z ∧ z < 10 ^ 9) → Q (.ref r) H'
theorem scPc : FnScope ["_law_cell_here", "_law_wide"] ["_law_cell_here"] (defScope s_law_prices) := ⟨rfl, rfl, rfl, by decide +kernel, rfl, by decide +kernel, by decide +kernel⟩
theorem d_prices (T : Th K mg "_law_prices" s_law_prices) (dPk : Def P w K mg base CX0 1 "_law_pick" ["_law_cell_here", "_law_k", "_law_many"] spPk) (zrange : mg "range" = none) (ztuple : mg "tuple" = none) : Def P w K mg base CX0 2 "_law_prices" ["_law_cell_here"] spPc := by
  refine QL.def_of T (fun _ _ _ _ _ _ us hl => match us, hl with | [_], _ => rfl) scPc (fun vs H Q E h => ?_) (fun f cdv A outer s H vs Q E hr h => ?_)
  · obtain ⟨c, rfl, _⟩ := h
    rfl
  · obtain ⟨c, rfl, k⟩ := h
    refine ⟨_, (qss_cons (qs_set (i := 1) scPc.nd rfl (Or.inr rfl) (qe_ix ix_list (qe_lst (qa_cons qe_int (qa_cons qe_int (qa_cons qe_int (qa_cons (qe_op op_pow qe_int qe_int) qa_nil))))) (qe_callD dPk (hr.mono (by decide)) rfl pass0 (qa_cons (qv 0) (qa_cons qe_int (qa_cons qe_int qa_nil)))) (fun _ _ => rfl)))
      (qss_one (qs_ret (qe_callTy call_tuple_of (by rfl) ztuple PyProof.Rows.boot_tuple (qa_cons (qe_lc (lc_mk (x := "_law_k") (fvs := ["_law_cell_here", "_law_wide"]) (fidx := [0, 1]) (defScope s_law_prices) ["_law_cell_here", "_law_wide"] rfl rfl (by decide +kernel)) rfl rfl (qi_range1 rfl zrange (qa_cons qe_int qa_nil)) (fun cl C s H ex => (qe_callD dPk (hr.mono (by decide)) rfl pass0 (qa_cons (qv 1) (qa_cons (qe_op op_add qe_int (qv 0)) (qa_cons (qv 2) qa_nil)))))) qa_nil))))), ?_⟩
    refine ⟨_, _, rfl, rfl, ⟨by decide, by decide, by decide⟩, (by show 4 ≤ sizeLine; decide), fun l1 h1 => ⟨_, rfl, c, 31, 4, rfl, by decide, by decide, by decide, fun r1 r10 r11 => ⟨l1, _, r1, _, rfl, rfl, SqL.of upd_same, at4 r10 r11, ?_⟩⟩⟩
    have e9 : (10 ^ (9 : Int).toNat : Int) = 1000000000 := by decide
    have w1 : 2 ≤ four 2 10 10 (10 ^ (9 : Int).toNat) r1 ∧ four 2 10 10 (10 ^ (9 : Int).toNat) r1 ≤ 1000000000 := four_b (by rw [e9]; decide) r1
    generalize four 2 10 10 (10 ^ (9 : Int).toNat) r1 = wd at w1
    have s1 := sameUpd (o := .lst [.int 2, .int 10, .int 10, .int (10 ^ (9 : Int).toNat)]) h1
    generalize upd H l1 (.lst [.int 2, .int 10, .int 10, .int (10 ^ (9 : Int).toNat)]) = H1 at s1
    refine ⟨3, rfl, by decide, by decide, lc_range (n := 3) (fun i ys H2 => H2 = H1 ∧ ∃ xs : List Int, ys = xs.map V.int ∧ xs.length = i ∧ ∀ x ∈ xs, 0 ≤ x ∧ x < 10 ^ 9) ⟨rfl, [], rfl, rfl, fun x hx => absurd hx (by simp)⟩ (fun i ys H2 hi z => ?_) ?_ ?_⟩
    · obtain ⟨_, xs, rfl, e, _⟩ := z
      rw [List.length_map, e]
      exact Nat.lt_of_le_of_lt hi (by decide +kernel)
    · rintro i ys H2 hi ⟨rfl, xs, rfl, e, hx⟩
      refine ⟨_, rfl, _, rfl, _, _, rfl, rfl, _, rfl, c, 32 + (0 + (i : Int)), wd, rfl, by omega, by omega, by omega, fun r r0 r1 => ⟨rfl, xs ++ [r], by rw [List.map_append]; rfl, by rw [List.length_append, e]; rfl, fun x hxx => ?_⟩⟩
      rcases List.mem_append.mp hxx with z | z
      · exact hx x z
      · rw [List.mem_singleton.mp z]
        omega
    · rintro ys H2 ⟨rfl, xs, rfl, e, hx⟩ D hD
      refine ⟨D, _, rfl, .inl ⟨SqL.of upd_same, fun t ht => ?_⟩⟩
      match xs, e, hx with
      | [x, y, z], _, hx =>
        exact k t x y z _ ((s1.trans (sameUpd hD)).trans (sameUpd ht)) upd_same (hx x (by simp)) (hx y (by simp)) (hx z (by simp))
def spOf (K : PySem.W.Frag) : Sp := fun vs H Q _ => ∃ (n : Int) (e : Addr) (sg p q : Int), vs = [.int n, .ref e, .int sg] ∧ SqT K H e [.int p, .int q] ∧ (Sz 40 n ∧ Sz 2 sg ∧ Sz 80 p ∧ Sz 40 q) ∧ 0 < q ∧ ∀ r, H r = none → Q (.ref r) (upd H r (.tup [.int (ft (n * q + sg * p) q), .int (fb (n * q + sg * p) q)]))
theorem scOf : FnScope ["_law_number", "_law_error_here", "_law_sign"] ["_law_number", "_law_error_here", "_law_sign"] (defScope s_law_off) := ⟨rfl, rfl, rfl, by decide +kernel, rfl, by decide +kernel, by decide +kernel⟩
theorem d_off (T : Th K mg "_law_off" s_law_off) (dRa : Def P w K mg base CX0 1 "_law_ratio" ["_law_top", "_law_bottom"] spRa) : Def P w K mg base CX0 2 "_law_off" ["_law_number", "_law_error_here", "_law_sign"] (spOf K) := by
  refine QL.def_of T (fun _ _ _ _ _ _ us hl => match us, hl with | [_, _, _], _ => rfl) scOf (fun vs H Q E h => ?_) (fun f cdv A outer s H vs Q E hr h => ?_)
  · obtain ⟨n, e, sg, p, q, rfl, _⟩ := h
    rfl
  · obtain ⟨n, e, sg, p, q, rfl, he, ⟨zn, zs, zp, zq⟩, q0, k⟩ := h
    refine ⟨_, (qss_one (qs_ret (qe_callD dRa (hr.mono (by decide)) rfl pass0 (qa_cons (qe_op op_add (qe_op op_mulB (qv 0) (qe_ix ix_tup (qv 1) qe_int (fun _ _ => rfl))) (qe_op op_mulB (qv 2) (qe_ix ix_tup (qv 1) qe_int (fun _ _ => rfl)))) (qa_cons (qe_ix ix_tup (qv 1) qe_int (fun _ _ => rfl)) qa_nil))))), ?_⟩
    exact ⟨_, rfl, _, rfl, e, _, _, _, rfl, rfl, he, rfl, _, _, rfl, rfl, ⟨zn.big (by decide), zq.big (by decide)⟩, _, rfl, _, rfl, e, _, _, _, rfl, rfl, he, rfl, _, _, rfl, rfl, ⟨zs.big (by decide), zp.big (by decide)⟩, _, _, rfl, rfl, _, rfl, e, _, _, _, rfl, rfl, he, rfl, _, _, rfl, q0, zq.big (by decide), k⟩
theorem scSt : FnScope ["_law_strength_here", "_law_last", "_law_filler", "_law_error_here", "_law_sign"] ["_law_strength_here", "_law_last", "_law_filler", "_law_error_here", "_law_sign"] (defScope s_law_strength) := ⟨rfl, rfl, rfl, by decide +kernel, rfl, by decide +kernel, by decide +kernel⟩
theorem d_strength (T : Th K mg "_law_strength" s_law_strength) : Def P w K mg base CX0 1 "_law_strength" ["_law_strength_here", "_law_last", "_law_filler", "_law_error_here", "_law_sign"] spNever :=
  QL.def_of T (fun _ _ _ _ _ _ us hl => match us, hl with | [_, _, _, _, _], _ => rfl) scSt (fun vs H Q E h => h.elim) (fun f cdv A outer s H vs Q E hr h => h.elim)
def spSn (K : PySem.W.Frag) : Sp := fun vs H Q _ => ∃ (l e : Addr) (n p q : Int), vs = [.ref l, .ref e] ∧ PlanAt K H l n [] ∧ SqT K H e [.int p, .int q] ∧ (Sz 40 n ∧ Sz 80 p ∧ Sz 40 q) ∧ 0 < q ∧
  ∀ (r : Addr) (a b c d : Int) (H' : Hp), Same H H' → RoomH H' r a b c d → (0 < b ∧ a * q = (n * q - p) * b) → (0 < d ∧ c * q = (n * q + p) * d) → (Sz 100 a ∧ Sz 100 b ∧ Sz 100 c ∧ Sz 100 d) → Q (.ref r) H'
theorem span_eq {x y a b U q : Int} (f : Fq x y (1 * a) (1 * b)) (h : Fq a b U q) : 0 < y ∧ x * q = U * y :=
  ⟨f.low.pos, eq_chain (by have := f.eq; rwa [Int.one_mul, Int.one_mul] at this) h.eq h.low.pos⟩
theorem scSn : FnScope ["_law_plan_here", "_law_error_here", "_law_last", "_law_low", "_law_high", "_law_filler", "_law_part"] ["_law_plan_here", "_law_error_here"] (defScope s_law_span) := ⟨rfl, rfl, rfl, by decide +kernel, rfl, by decide +kernel, by decide +kernel⟩
theorem d_span (T : Th K mg "_law_span" s_law_span) (dMu : Def P w K mg base CX0 2 "_law_mul" ["_law_one", "_law_two"] (spMu K)) (dOf : Def P w K mg base CX0 2 "_law_off" ["_law_number", "_law_error_here", "_law_sign"] (spOf K)) (dSt : Def P w K mg base CX0 1 "_law_strength" ["_law_strength_here", "_law_last", "_law_filler", "_law_error_here", "_law_sign"] spNever) : Def P w K mg base CX0 3 "_law_span" ["_law_plan_here", "_law_error_here"] (spSn K) := by
  refine QL.def_of T (fun _ _ _ _ _ _ us hl => match us, hl with | [_, _], _ => rfl) scSn (fun vs H Q E h => ?_) (fun f cdv A outer s H vs Q E hr h => ?_)
  · obtain ⟨l, e, n, p, q, rfl, _⟩ := h
    rfl
  · obtain ⟨l, e, n, p, q, rfl, hl, he, ⟨zn, zp, zq⟩, q0, k⟩ := h
    refine ⟨_, (qss_cons (qs_set (i := 2) scSn.nd rfl (Or.inl rfl) (qe_ix ix_tup (qv 0) qe_int (fun _ _ => rfl)))
      (qss_cons (qs_set (i := 3) scSn.nd rfl (Or.inl rfl) (qe_tup (qa_cons qe_int (qa_cons qe_int qa_nil))))
      (qss_cons (qs_set (i := 4) scSn.nd rfl (Or.inl rfl) (qe_tup (qa_cons qe_int (qa_cons qe_int qa_nil))))
      (qss_cons (qs_for PassesOwn.never rfl (qi_tup (qe_ix ix_tup (qv 0) qe_int (fun _ _ => rfl))) (qg_tup rfl (qgs_cons (qg_name (i := 5) scSn.nd rfl (Or.inl rfl)) (qgs_cons (qg_name (i := 6) scSn.nd rfl (Or.inl rfl)) qgs_nil)))
        (qss_cons (qs_set (i := 3) scSn.nd rfl (Or.inl rfl) (qe_callD dSt (hr.mono (by decide)) rfl pass0 (qa_cons (qv 3) (qa_cons (qv 2) (qa_cons (qv 5) (qa_cons (qv 1) (qa_cons (qe_un un_neg qe_int) qa_nil)))))))
      (qss_cons (qs_set (i := 4) scSn.nd rfl (Or.inl rfl) (qe_callD dSt (hr.mono (by decide)) rfl pass0 (qa_cons (qv 4) (qa_cons (qv 2) (qa_cons (qv 5) (qa_cons (qv 1) (qa_cons qe_int qa_nil)))))))
      (qss_one (qs_set (i := 2) scSn.nd rfl (Or.inl rfl) (qv 6))))))
      (qss_one (qs_ret (qe_tup (qa_cons (qe_callD dMu (hr.mono (by decide)) rfl pass0 (qa_cons (qv 3) (qa_cons (qe_callD dOf (hr.mono (by decide)) rfl pass0 (qa_cons (qv 2) (qa_cons (qv 1) (qa_cons (qe_un un_neg qe_int) qa_nil)))) qa_nil))) (qa_cons (qe_callD dMu (hr.mono (by decide)) rfl pass0 (qa_cons (qv 4) (qa_cons (qe_callD dOf (hr.mono (by decide)) rfl pass0 (qa_cons (qv 2) (qa_cons (qv 1) (qa_cons qe_int qa_nil)))) qa_nil))) qa_nil))))))))), ?_⟩
    obtain ⟨sp, rs, hp1, hp2, pr⟩ := id hl
    have rs0 : rs = [] := List.length_eq_zero_iff.mp pr.len
    subst rs0
    refine ⟨_, rfl, l, _, _, _, rfl, rfl, hp1, rfl, (by show 2 ≤ sizeLine; decide), fun lo hlo => ⟨(by show 2 ≤ sizeLine; decide), fun hi hhi => ?_⟩⟩
    have s1 := sameUpd (o := .tup [.int 1, .int 1]) hlo
    have s2 := sameUpd (o := .tup [.int 1, .int 1]) hhi
    have s12 := s1.trans s2
    have tlo := s2 _ _ (show upd H lo (.tup [.int 1, .int 1]) lo = some _ from upd_same)
    have thi : upd (upd H lo (.tup [.int 1, .int 1])) hi (.tup [.int 1, .int 1]) hi = some _ := upd_same
    generalize upd (upd H lo (.tup [.int 1, .int 1])) hi (.tup [.int 1, .int 1]) = H2 at s12 tlo thi
    refine ⟨_, rfl, l, _, _, _, rfl, rfl, seqT s12 hp1, rfl, sp, rfl, ⟨_, seqT s12 hp2⟩, for_tup (K := K) (a := sp) (xs := []) (fun i σ H3 => σ = [some (.ref l), some (.ref e), some (.int n), some (.ref lo), some (.ref hi), none, none] ∧ H3 = H2) ⟨rfl, rfl⟩ (fun i σ H3 _ z => by rw [z.2]; exact seqT s12 hp2) (fun i x σ H3 hx => by cases hx) ?_⟩
    rintro σ H3 ⟨rfl, rfl⟩
    have z1 : Sz 1000 1 := (show Sz 1 1 by unfold Sz; decide).mono (by decide)
    have z2 : Sz 2 (-1) := by unfold Sz; decide
    have z3 : Sz 2 1 := by unfold Sz; decide
    have zt : ∀ {sg : Int}, Sz 2 sg → Sz 83 (n * q + sg * p) := fun h => ((zn.mul zq).mono (show 40 + 40 ≤ 82 by decide)).add (h.mul zp)
    have f1 := fq (n * q + (-1) * p) q0
    have f2 := fq (n * q + 1 * p) q0
    have y1 := f1.sz (zt z2) zq
    have y2 := f2.sz (zt z3) zq
    refine ⟨_, rfl, _, rfl, _, rfl, _, rfl, n, e, -1, p, q, rfl, seqT s12 he, ⟨zn, z2, zp, zq⟩, q0, fun o1 ho1 => ?_⟩
    have s3 := sameUpd (o := .tup [.int (ft (n * q + (-1) * p) q), .int (fb (n * q + (-1) * p) q)]) ho1
    refine ⟨lo, o1, 1, 1, _, _, rfl, SqT.of (s3 _ _ tlo), SqT.of upd_same, ⟨z1, z1, y1.1.mono (by decide), y1.2.mono (by decide)⟩, by decide, f1.low.pos, fun m1 hm1 => ?_⟩
    have f3 := fq (1 * ft (n * q + (-1) * p) q) (Int.mul_pos (show (0 : Int) < 1 by decide) f1.low.pos)
    have s4 := sameUpd (o := .tup [.int (ft (1 * ft (n * q + (-1) * p) q) (1 * fb (n * q + (-1) * p) q)), .int (fb (1 * ft (n * q + (-1) * p) q) (1 * fb (n * q + (-1) * p) q))]) hm1
    have s34 := (s12.trans s3).trans s4
    refine ⟨_, rfl, _, rfl, _, rfl, n, e, 1, p, q, rfl, seqT s34 he, ⟨zn, z3, zp, zq⟩, q0, fun o2 ho2 => ?_⟩
    have s5 := sameUpd (o := .tup [.int (ft (n * q + 1 * p) q), .int (fb (n * q + 1 * p) q)]) ho2
    refine ⟨hi, o2, 1, 1, _, _, rfl, SqT.of (s5 _ _ (s4 _ _ (s3 _ _ thi))), SqT.of upd_same, ⟨z1, z1, y2.1.mono (by decide), y2.2.mono (by decide)⟩, by decide, f2.low.pos, fun m2 hm2 => ?_⟩
    have f4 := fq (1 * ft (n * q + 1 * p) q) (Int.mul_pos (show (0 : Int) < 1 by decide) f2.low.pos)
    have s6 := sameUpd (o := .tup [.int (ft (1 * ft (n * q + 1 * p) q) (1 * fb (n * q + 1 * p) q)), .int (fb (1 * ft (n * q + 1 * p) q) (1 * fb (n * q + 1 * p) q))]) hm2
    refine ⟨(by show 2 ≤ sizeLine; decide), fun r hr => ?_⟩
    have s7 := sameUpd (o := .tup [.ref m1, .ref m2]) hr
    have g1 := span_eq f3 f1
    have g2 := span_eq f4 f2
    rw [show n * q + (-1) * p = n * q - p by omega] at *
    rw [show n * q + 1 * p = n * q + p by omega] at *
    have one : ∀ {k : Nat} {x : Int}, Sz k x → Sz k (1 * x) := fun h => by rw [Int.one_mul]; exact h
    have v1 := f3.sz (one y1.1) (one y1.2)
    have v2 := f4.sz (one y2.1) (one y2.2)
    exact k r _ _ _ _ _ (((s34.trans s5).trans s6).trans s7) ⟨m1, m2, upd_same, s7 _ _ (s6 _ _ (s5 _ _ upd_same)), s7 _ _ upd_same⟩ g1 g2 ⟨v1.1.mono (by decide), v1.2.mono (by decide), v2.1.mono (by decide), v2.2.mono (by decide)⟩
end
end K31


set_option maxRecDepth 100000
set_option linter.all false
set_option maxHeartbeats 800000
set_option Elab.async false
namespace K31
open PySem L2 L3 X8 M01 L6 L5 QL
open L8 L9 L10 L11 L13 L14 L20 L21 L22 L28 L40 L41 L42 L44 M11
section
variable {P : Program} {w : World} {K : PySem.W.Frag} {mg : Str → Option Value} {base : Heap} {S C : Addr}
def spPn (K : PySem.W.Frag) : Sp := fun vs H Q _ => ∃ (c : Int) (am : Addr) (ns : List Int), vs = [.int c, .ref am, .int 0] ∧ SqL K H am (ns.map V.int) ∧ 0 < ns.length ∧ ∀ (l : Addr) (n : Int) (H' : Hp), Same H H' → n ∈ ns → PlanH H' l n → Q (.ref l) H'
theorem scPn : FnScope ["_law_cell_here", "_law_amounts_here", "_law_steps", "_law_some"] ["_law_cell_here", "_law_amounts_here", "_law_steps"] (defScope s_law_plan) := ⟨rfl, rfl, rfl, by decide +kernel, rfl, by decide +kernel, by decide +kernel⟩
theorem d_plan (T : Th K mg "_law_plan" s_law_plan) (dPk : Def P w K mg base CX0 1 "_law_pick" ["_law_cell_here", "_law_k", "_law_many"] spPk) (zrange : mg "range" = none) (zlen : mg "len" = none) (ztuple : mg "tuple" = none) : Def P w K mg base CX0 2 "_law_plan" ["_law_cell_here", "_law_amounts_here", "_law_steps"] (spPn K) := by
  refine QL.def_of T (fun _ _ _ _ _ _ us hl => match us, hl with | [_, _, _], _ => rfl) scPn (fun vs H Q E h => ?_) (fun f cdv A outer s H vs Q E hr h => ?_)
  · obtain ⟨c, am, ns, rfl, _⟩ := h
    rfl
  · obtain ⟨c, am, ns, rfl, hA, ne, k⟩ := h
    refine ⟨_, (qss_cons (qs_set (i := 3) scPn.nd rfl (Or.inr rfl) (qe_lc (lc_mk (x := "_law_k") (fvs := ["_law_amounts_here", "_law_cell_here"]) (fidx := [1, 0]) (defScope s_law_plan) ["_law_cell_here", "_law_amounts_here", "_law_steps", "_law_some"] rfl rfl (by decide +kernel)) rfl rfl (qi_range1 rfl zrange (qa_cons (qe_op op_add (qe_op op_mul qe_int (qv 2)) qe_int) qa_nil)) (fun cl C s H ex => (qe_ix (ix_listK (K := K) rfl) (qv 1) (qe_callD dPk (hr.mono (by decide)) rfl pass0 (qa_cons (qv 2) (qa_cons (qe_op op_add qe_int (qv 0)) (qa_cons (qe_callB (call_len_seqK (K := K) rfl) (by rfl) zlen PySem.boot_len (qa_cons (qv 1) qa_nil)) qa_nil)))) (fun _ _ => rfl)))))
      (qss_one (qs_ret (qe_tup (qa_cons (qe_ix ix_list (qv 3) qe_int (fun _ _ => rfl)) (qa_cons (qe_callTy call_tuple_of (by rfl) ztuple PyProof.Rows.boot_tuple (qa_cons (qe_lc (lc_mk (x := "_law_k") (fvs := ["_law_some"]) (fidx := [3]) (defScope s_law_plan) ["_law_cell_here", "_law_amounts_here", "_law_steps", "_law_some"] rfl rfl (by decide +kernel)) rfl rfl (qi_range1 rfl zrange (qa_cons (qv 2) qa_nil)) (fun cl C s H ex => (qe_tup (qa_cons (qe_ix (ix_listK (K := K) rfl) (qv 1) (qe_op op_add (qe_op op_mul qe_int (qv 0)) qe_int) (fun _ _ => rfl)) (qa_cons (qe_ix (ix_listK (K := K) rfl) (qv 1) (qe_op op_add (qe_op op_mul qe_int (qv 0)) qe_int) (fun _ _ => rfl)) qa_nil))))) qa_nil)) qa_nil)))))), ?_⟩
    have lA : ((ns.map V.int).length : Int) = (ns.length : Int) := by rw [List.length_map]
    refine ⟨_, rfl, _, _, rfl, rfl, .inl ⟨by decide, by decide⟩, _, _, rfl, rfl, _, rfl, by decide, by decide, lc_range (n := 1) (fun i ys H2 => H2 = H ∧ ∃ xs : List Int, ys = xs.map V.int ∧ xs.length = i ∧ ∀ x ∈ xs, x ∈ ns) ⟨rfl, [], rfl, rfl, fun x hx => absurd hx (by simp)⟩ (fun i ys H2 hi z => ?_) ?_ ?_⟩
    · obtain ⟨_, xs, rfl, e, _⟩ := z
      rw [List.length_map, e]
      exact Nat.lt_of_le_of_lt hi (by decide +kernel)
    · rintro i ys H2 hi ⟨rfl, xs, rfl, e, hx⟩
      refine ⟨_, rfl, _, rfl, _, rfl, _, _, rfl, rfl, _, rfl, am, _, rfl, .inl hA, c, 41 + (0 + (i : Int)), _, rfl, by omega, by omega, by rw [lA]; omega, fun r r0 r1 => ?_⟩
      rw [lA] at r1
      have hj : r.toNat < ns.length := by omega
      refine ⟨am, _, r, _, rfl, rfl, hA, at_ints r0 (by omega), rfl, xs ++ [ns.getD r.toNat 0], by rw [List.map_append]; rfl, by rw [List.length_append, e]; rfl, fun x hxx => ?_⟩
      rcases List.mem_append.mp hxx with z | z
      · exact hx x z
      · rw [List.mem_singleton.mp z, List.getD_eq_getElem?_getD, List.getElem?_eq_getElem hj]
        exact List.getElem_mem hj
    · rintro ys H2 ⟨rfl, xs, rfl, e, hx⟩ D hD
      match xs, e, hx with
      | [n], _, hx =>
        have s1 := sameUpd (o := .lst [.int n]) hD
        refine ⟨_, rfl, D, _, 0, _, rfl, rfl, SqL.of upd_same, rfl, _, rfl, _, rfl, by decide, by decide, lc_range (n := 0) (fun i ys H3 => ys = [] ∧ H3 = upd H2 D (.lst [.int n])) ⟨rfl, rfl⟩ (fun i ys H3 hi z => by rw [z.1]; exact (by decide +kernel : 0 < sizeLine)) (fun i ys H3 hi => absurd hi (Nat.not_lt_zero _)) ?_⟩
        rintro ys H3 ⟨rfl, rfl⟩ D2 hD2
        have s2 := sameUpd (o := .lst []) hD2
        refine ⟨D2, _, rfl, .inl ⟨SqL.of upd_same, fun t ht => ⟨(by show 2 ≤ sizeLine; decide), fun r hr => ?_⟩⟩⟩
        have s3 := sameUpd (o := .tup []) ht
        have s4 := sameUpd (o := .tup [.int n, .ref t]) hr
        exact k r n _ (((s1.trans s2).trans s3).trans s4) (hx n (by simp)) ⟨t, upd_same, s4 _ _ upd_same⟩
theorem if_else {p : Prop} {tc : TT} {t u : TS} {D : Ends} {σ : L2.St} {H : Hp} (h : ∀ Q' : Bool → Hp → Prop, (∀ c H', Same H H' → (c = false → p) → Q' c H') → tc σ H Q') (k1 : ∀ H', Same H H' → t D σ H') (k2 : ∀ H', Same H H' → p → u D σ H') : tIfS tc t u D σ H :=
  h _ fun c H' s hp => by
    cases c
    · exact iteF (k2 H' s (hp rfl))
    · exact iteT (k1 H' s)
def spWa (K : PySem.W.Frag) : Sp := fun vs H Q _ => ∃ (c : Int) (am e : Addr) (ns : List Int) (p q : Int), vs = [.int c, .ref am, .ref e, .int 0] ∧ SqL K H am (ns.map V.int) ∧ (∀ n ∈ ns, 1 ≤ n ∧ n ≤ 1000) ∧ SqT K H e [.int p, .int q] ∧ (Sz 80 p ∧ Sz 40 q) ∧ 0 < q ∧
  ∀ (r : Addr) (c0 d0 c1 d1 : Int) (H' : Hp), Same H H' → RoomH H' r c0 d0 c1 d1 → (Sz 400 c0 ∧ Sz 400 d0 ∧ Sz 400 c1 ∧ Sz 400 d1) → (0 < d0 ∧ 0 < d1) → Q (.ref r) H'
theorem scWa : FnScope ["_law_cell_here", "_law_amounts_here", "_law_error_here", "_law_most", "_law_top", "_law_bottom", "_law_middle", "_law_low", "_law_high", "_law_way", "_law_end"] ["_law_cell_here", "_law_amounts_here", "_law_error_here", "_law_most"] (defScope s_law_wanted) := ⟨rfl, rfl, rfl, by decide +kernel, rfl, by decide +kernel, by decide +kernel⟩
theorem d_wanted (T : Th K mg "_law_wanted" s_law_wanted) (dPk : Def P w K mg base CX0 1 "_law_pick" ["_law_cell_here", "_law_k", "_law_many"] spPk) (dRa : Def P w K mg base CX0 1 "_law_ratio" ["_law_top", "_law_bottom"] spRa) (dMu : Def P w K mg base CX0 2 "_law_mul" ["_law_one", "_law_two"] (spMu K)) (dLe : Def P w K mg base CX0 1 "_law_less" ["_law_one", "_law_two"] (spUn K)) (dSn : Def P w K mg base CX0 3 "_law_span" ["_law_plan_here", "_law_error_here"] (spSn K)) (dPl : Def P w K mg base CX0 2 "_law_plan" ["_law_cell_here", "_law_amounts_here", "_law_steps"] (spPn K)) (zlen : mg "len" = none) : Def P w K mg base CX0 4 "_law_wanted" ["_law_cell_here", "_law_amounts_here", "_law_error_here", "_law_most"] (spWa K) := by
  refine QL.def_of T (fun _ _ _ _ _ _ us hl => match us, hl with | [_, _, _, _], _ => rfl) scWa (fun vs H Q E h => ?_) (fun f cdv A outer s H vs Q E hr h => ?_)
  · obtain ⟨c, am, e, ns, p, q, rfl, _⟩ := h
    rfl
  · obtain ⟨c, am, e, ns, p, q, rfl, hA, bn, he, ⟨zp, zq⟩, q0, k⟩ := h
    refine ⟨_, (qss_cons (qs_set (i := 4) scWa.nd rfl (Or.inl rfl) (qe_op op_add qe_int (qe_callD dPk (hr.mono (by decide)) rfl pass0 (qa_cons (qv 0) (qa_cons qe_int (qa_cons qe_int qa_nil))))))
      (qss_cons (qs_set (i := 5) scWa.nd rfl (Or.inl rfl) (qe_op op_add qe_int (qe_callD dPk (hr.mono (by decide)) rfl pass0 (qa_cons (qv 0) (qa_cons qe_int (qa_cons qe_int qa_nil))))))
      (qss_cons (qs_if (QW.pt (qw_or (qt_cmpR op_eq (qe_callB call_len_seq (by rfl) zlen PySem.boot_len (qa_cons (qv 1) qa_nil)) qe_int (nomark _)) (qw_or1 (qt_cmpR op_eq (qe_callD dPk (hr.mono (by decide)) rfl pass0 (qa_cons (qv 0) (qa_cons qe_int (qa_cons qe_int qa_nil)))) qe_int (nomark _))))) (qss_cons (qs_set (i := 6) scWa.nd rfl (Or.inl rfl) (qe_callD dRa (hr.mono (by decide)) rfl pass0 (qa_cons (qv 4) (qa_cons (qv 5) qa_nil))))
      (qss_one (qs_ret (qe_tup (qa_cons (qv 6) (qa_cons (qe_callD dMu (hr.mono (by decide)) rfl pass0 (qa_cons (qv 6) (qa_cons (qe_tup (qa_cons (qe_op op_add (qv 5) qe_int) (qa_cons (qv 5) qa_nil))) qa_nil))) qa_nil)))))) qss_nil)
      (qss_cons (qs_asg (qe_callD dSn (hr.mono (by decide)) rfl pass0 (qa_cons (qe_callD dPl (hr.mono (by decide)) rfl pass0 (qa_cons (qv 0) (qa_cons (qv 1) (qa_cons (qe_callD dPk (hr.mono (by decide)) rfl pass0 (qa_cons (qv 0) (qa_cons qe_int (qa_cons (qe_op op_add (qv 3) qe_int) qa_nil)))) qa_nil)))) (qa_cons (qv 2) qa_nil))) (qg_tup rfl (qgs_cons (qg_name (i := 7) scWa.nd rfl (Or.inl rfl)) (qgs_cons (qg_name (i := 8) scWa.nd rfl (Or.inl rfl)) qgs_nil))))
      (qss_cons (qs_set (i := 9) scWa.nd rfl (Or.inl rfl) (qe_callD dPk (hr.mono (by decide)) rfl pass0 (qa_cons (qv 0) (qa_cons qe_int (qa_cons qe_int qa_nil)))))
      (qss_cons (qs_if (qt_cmpR op_eq (qv 9) qe_int (nomark _)) (qss_one (qs_ret (qe_tup (qa_cons (qv 7) (qa_cons (qv 8) qa_nil))))) qss_nil)
      (qss_cons (qs_if (qt_cmpR op_eq (qv 9) qe_int (nomark _)) (qss_cons (qs_set (i := 10) scWa.nd rfl (Or.inl rfl) (qe_callD dMu (hr.mono (by decide)) rfl pass0 (qa_cons (qv 8) (qa_cons (qe_tup (qa_cons (qe_op op_mulB qe_int (qv 4)) (qa_cons (qe_op op_add (qe_op op_mulB qe_int (qv 4)) qe_int) qa_nil))) qa_nil))))
      (qss_cons (qs_join (qs_if (qt_val (qe_callD dLe (hr.mono (by decide)) rfl pass0 (qa_cons (qv 10) (qa_cons (qv 7) qa_nil)))) (qss_one (qs_set (i := 10) scWa.nd rfl (Or.inl rfl) (qv 7))) qss_nil))
      (qss_one (qs_ret (qe_tup (qa_cons (qv 7) (qa_cons (qv 10) qa_nil))))))) qss_nil)
      (qss_one (qs_ret (qe_tup (qa_cons (qe_callD dMu (hr.mono (by decide)) rfl pass0 (qa_cons (qv 7) (qa_cons (qe_tup (qa_cons (qv 5) (qa_cons (qe_op op_add (qv 5) qe_int) qa_nil))) qa_nil))) (qa_cons (qe_callD dMu (hr.mono (by decide)) rfl pass0 (qa_cons (qv 8) (qa_cons (qe_tup (qa_cons (qe_op op_add (qv 4) (qv 9)) (qa_cons (qv 4) qa_nil))) qa_nil))) qa_nil)))))))))))), ?_⟩
    have sz : ∀ {x : Int} {n : Nat}, 0 ≤ x → x < 2 ^ n → Sz n x := fun h0 h1 => by unfold Sz; rename_i n; have := (show (((2 : Nat) ^ n : Nat) : Int) = (2 : Int) ^ n from by simp); omega
    refine ⟨_, rfl, c, 51, 200, rfl, by decide, by decide, by decide, fun t0 t00 t01 => ⟨_, _, rfl, rfl, ?_⟩⟩
    refine ⟨_, rfl, c, 52, 60, rfl, by decide, by decide, by decide, fun b0 b00 b01 => ⟨_, _, rfl, rfl, ?_⟩⟩
    dsimp only [gName, tSeq]
    refine if_else (p := 0 < ns.length) (fun Q' k' => ?_) (fun H5 s5 => ?_) (fun H5 s5 ne => ?_)
    · refine ⟨_, rfl, am, _, rfl, .inl hA, rfl, _, rfl, ite2 (fun c1 => k' _ _ (Same.refl _) (fun z => by cases z)) (fun c1 => ?_)⟩
      refine ⟨_, rfl, c, 53, 6, rfl, by decide, by decide, by decide, fun r r0 r1 => ⟨rfl, _, rfl, k' _ _ (Same.refl _) fun _ => ?_⟩⟩
      rcases Nat.eq_zero_or_pos ns.length with z | z
      · rw [List.length_map, z] at c1
        exact absurd rfl c1
      · exact z
    · have zt : Sz 40 (1 + t0) := sz (by omega) (by omega)
      have zb : Sz 40 (1 + b0) := sz (by omega) (by omega)
      have bp : 0 < (1 + b0) := by omega
      have f1 := fq (1 + t0) bp
      have y1 := f1.sz zt zb
      refine ⟨_, rfl, _, rfl, (1 + t0), (1 + b0), rfl, bp, zb.big (by decide), fun mi hmi => ?_⟩
      have s6 := sameUpd (o := .tup [.int (ft (1 + t0) (1 + b0)), .int (fb (1 + t0) (1 + b0))]) hmi
      refine ⟨_, rfl, _, rfl, _, rfl, _, _, rfl, rfl, _, rfl, (by show 2 ≤ sizeLine; decide), fun t2 ht2 => ?_⟩
      have s7 := sameUpd (o := .tup [.int ((1 + b0) + 1), .int (1 + b0)]) ht2
      have zb1 : Sz 40 ((1 + b0) + 1) := sz (by omega) (by omega)
      refine ⟨mi, t2, _, _, _, _, rfl, SqT.of (s7 _ _ upd_same), SqT.of upd_same, ⟨y1.1.mono (by decide), y1.2.mono (by decide), zb1.mono (by decide), zb.mono (by decide)⟩, f1.low.pos, bp, fun m2 hm2 => ?_⟩
      have f2 := fq (ft (1 + t0) (1 + b0) * ((1 + b0) + 1)) (Int.mul_pos f1.low.pos bp)
      have y2 := f2.sz (y1.1.mul zb1) (y1.2.mul zb)
      have s8 := sameUpd (o := .tup [.int (ft (ft (1 + t0) (1 + b0) * ((1 + b0) + 1)) (fb (1 + t0) (1 + b0) * (1 + b0))), .int (fb (ft (1 + t0) (1 + b0) * ((1 + b0) + 1)) (fb (1 + t0) (1 + b0) * (1 + b0)))]) hm2
      refine ⟨(by show 2 ≤ sizeLine; decide), fun r hr => ?_⟩
      have s9 := sameUpd (o := .tup [.ref mi, .ref m2]) hr
      exact k r _ _ _ _ _ ((((s5.trans s6).trans s7).trans s8).trans s9) ⟨mi, m2, upd_same, s9 _ _ (s8 _ _ (s7 _ _ upd_same)), s9 _ _ upd_same⟩ ⟨y1.1.mono (by decide), y1.2.mono (by decide), y2.1.mono (by decide), y2.2.mono (by decide)⟩ ⟨f1.low.pos, f2.low.pos⟩
    · have hA5 : SqL K H5 am (ns.map V.int) := s5.seq hA
      have he5 : SqT K H5 e [.int p, .int q] := seqT s5 he
      refine ⟨_, rfl, _, rfl, _, rfl, _, rfl, _, _, rfl, rfl, c, 54, 0 + 1, rfl, by decide, by decide, by decide, fun r r0 r1 => ?_⟩
      have rz : r = 0 := by omega
      subst rz
      refine ⟨c, am, ns, rfl, hA5, ne, fun pl n H6 s6 hn hpl => ?_⟩
      obtain ⟨n1, n2⟩ := bn n hn
      have zn : Sz 40 n := sz (by omega) (by omega)
      refine ⟨_, rfl, pl, e, n, p, q, rfl, hpl.at_, seqT s6 he5, ⟨zn, zp, zq⟩, q0, fun rm a b c' d H7 s7 hrm ⟨b0', _⟩ ⟨d0', _⟩ ⟨za, zb, zc, zd⟩ => ?_⟩
      obtain ⟨lo, hi, h1, h2, h3⟩ := hrm.ex
      have s57 := (s5.trans s6).trans s7
      refine ⟨rm, _, rfl, SqT.of h1, rfl, _, _, rfl, _, _, rfl, rfl, ?_⟩
      refine ⟨_, rfl, c, 55, 4, rfl, by decide, by decide, by decide, fun wy wy0 wy1 => ?_⟩
      refine ⟨_, rfl, rfl, _, rfl, ite2 (fun _ => ?_) (fun w0 => ?_)⟩
      · refine ⟨_, rfl, _, rfl, (by show 2 ≤ sizeLine; decide), fun r hr => ?_⟩
        have s8 := sameUpd (o := .tup [.ref lo, .ref hi]) hr
        exact k r a b c' d _ (s57.trans s8) ⟨lo, hi, upd_same, s8 _ _ h2, s8 _ _ h3⟩ ⟨za.mono (by decide), zb.mono (by decide), zc.mono (by decide), zd.mono (by decide)⟩ ⟨b0', d0'⟩
      refine ⟨_, rfl, rfl, _, rfl, ite2 (fun _ => ?_) (fun w1 => ?_)⟩
      · have B : ∀ {x : Int}, -(10 ^ 9) < x → x < 10 ^ 9 → Big x := fun h0 h1 => Big.of (by omega) (by omega)
        refine ⟨_, rfl, _, rfl, _, _, rfl, rfl, ⟨B (by decide) (by decide), B (by omega) (by omega)⟩, _, rfl, _, _, rfl, rfl, ⟨B (by decide) (by decide), B (by omega) (by omega)⟩, _, _, rfl, rfl, (by show 2 ≤ sizeLine; decide), fun t2 ht2 => ?_⟩
        have s8 := sameUpd (o := .tup [.int (1000 * (1 + t0)), .int (1000 * (1 + t0) + 1)]) ht2
        have zt : Sz 40 (1000 * (1 + t0)) := sz (by omega) (by omega)
        have zt1 : Sz 40 (1000 * (1 + t0) + 1) := sz (by omega) (by omega)
        have tp : 0 < 1000 * (1 + t0) + 1 := by omega
        refine ⟨hi, t2, c', d, _, _, rfl, SqT.of (s8 _ _ h3), SqT.of upd_same, ⟨zc.mono (by decide), zd.mono (by decide), zt.mono (by decide), zt1.mono (by decide)⟩, d0', tp, fun en hen => ?_⟩
        have f1 := fq (c' * (1000 * (1 + t0))) (Int.mul_pos d0' tp)
        have y1 := f1.sz (zc.mul zt) (zd.mul zt1)
        have s9 := sameUpd (o := .tup [.int (ft (c' * (1000 * (1 + t0))) (d * (1000 * (1 + t0) + 1))), .int (fb (c' * (1000 * (1 + t0))) (d * (1000 * (1 + t0) + 1)))]) hen
        have hen9 : upd (upd H7 t2 (.tup [.int (1000 * (1 + t0)), .int (1000 * (1 + t0) + 1)])) en (.tup [.int (ft (c' * (1000 * (1 + t0))) (d * (1000 * (1 + t0) + 1))), .int (fb (c' * (1000 * (1 + t0))) (d * (1000 * (1 + t0) + 1)))]) en = some _ := upd_same
        have s89 := s8.trans s9
        have f0 := f1.low.pos
        generalize ft (c' * (1000 * (1 + t0))) (d * (1000 * (1 + t0) + 1)) = x1 at y1 s9 s89 hen9 f0
        generalize fb (c' * (1000 * (1 + t0))) (d * (1000 * (1 + t0) + 1)) = x2 at y1 s9 s89 hen9 f0
        generalize upd (upd H7 t2 (.tup [.int (1000 * (1 + t0)), .int (1000 * (1 + t0) + 1)])) en (.tup [.int x1, .int x2]) = H9 at s9 s89 hen9
        have hlo9 := s89 _ _ h2
        refine ⟨fun σ' H' => ∃ (en' : Addr) (u v : Int) (v8 : Option V), σ' = [some (.int c), some (.ref am), some (.ref e), some (.int 0), some (.int (1 + t0)), some (.int (1 + b0)), none, some (.ref lo), some (.ref hi), some (.int wy), some (.ref en')] ∧ H' = H9 ∧ H9 en' = some (.tup [.int u, .int v]) ∧ Sz 400 u ∧ Sz 400 v ∧ 0 < v, ?_, ?_⟩
        · refine ⟨_, rfl, _, rfl, en, lo, x1, x2, a, b, rfl, SqT.of hen9, SqT.of hlo9, ⟨y1.1.big (by decide), y1.2.big (by decide), za.big (by decide), zb.big (by decide)⟩, _, rfl, ite2 (fun _ => ?_) (fun _ => ?_)⟩
          · exact ⟨_, rfl, lo, a, b, none, rfl, rfl, hlo9, za.mono (by decide), zb.mono (by decide), b0'⟩
          · exact ⟨en, x1, x2, none, rfl, rfl, hen9, y1.1.mono (by decide), y1.2.mono (by decide), f0⟩
        · rintro σ' H' ⟨en', u, v, v8, rfl, rfl, hen', zu, zv, v0⟩
          refine ⟨_, rfl, _, rfl, (by show 2 ≤ sizeLine; decide), fun r hr => ?_⟩
          have s10 := sameUpd (o := .tup [.ref lo, .ref en']) hr
          exact k r a b u v _ ((s57.trans s89).trans s10) ⟨lo, en', upd_same, s10 _ _ hlo9, s10 _ _ hen'⟩ ⟨za.mono (by decide), zb.mono (by decide), zu, zv⟩ ⟨b0', v0⟩
      · have zb' : Sz 40 (1 + b0) := sz (by omega) (by omega)
        have zb1 : Sz 40 (1 + b0 + 1) := sz (by omega) (by omega)
        have zt : Sz 40 (1 + t0) := sz (by omega) (by omega)
        have ztw : Sz 40 (1 + t0 + wy) := sz (by omega) (by omega)
        refine ⟨_, rfl, _, rfl, _, rfl, _, _, rfl, rfl, (by show 2 ≤ sizeLine; decide), fun t2 ht2 => ?_⟩
        have s8 := sameUpd (o := .tup [.int (1 + b0), .int (1 + b0 + 1)]) ht2
        have bp : 0 < 1 + b0 + 1 := by omega
        refine ⟨lo, t2, a, b, _, _, rfl, SqT.of (s8 _ _ h2), SqT.of upd_same, ⟨za.mono (by decide), zb.mono (by decide), zb'.mono (by decide), zb1.mono (by decide)⟩, b0', bp, fun m1 hm1 => ?_⟩
        have f1 := fq (a * (1 + b0)) (Int.mul_pos b0' bp)
        have y1 := f1.sz (za.mul zb') (zb.mul zb1)
        have s9 := sameUpd (o := .tup [.int (ft (a * (1 + b0)) (b * (1 + b0 + 1))), .int (fb (a * (1 + b0)) (b * (1 + b0 + 1)))]) hm1
        refine ⟨_, rfl, _, rfl, _, rfl, _, _, rfl, rfl, _, rfl, (by show 2 ≤ sizeLine; decide), fun t3 ht3 => ?_⟩
        have s10 := sameUpd (o := .tup [.int (1 + t0 + wy), .int (1 + t0)]) ht3
        have tp : 0 < 1 + t0 := by omega
        refine ⟨hi, t3, c', d, _, _, rfl, SqT.of (s10 _ _ (s9 _ _ (s8 _ _ h3))), SqT.of upd_same, ⟨zc.mono (by decide), zd.mono (by decide), ztw.mono (by decide), zt.mono (by decide)⟩, d0', tp, fun m2 hm2 => ?_⟩
        have f2 := fq (c' * (1 + t0 + wy)) (Int.mul_pos d0' tp)
        have y2 := f2.sz (zc.mul ztw) (zd.mul zt)
        have s11 := sameUpd (o := .tup [.int (ft (c' * (1 + t0 + wy)) (d * (1 + t0))), .int (fb (c' * (1 + t0 + wy)) (d * (1 + t0)))]) hm2
        refine ⟨(by show 2 ≤ sizeLine; decide), fun r hr => ?_⟩
        have s12 := sameUpd (o := .tup [.ref m1, .ref m2]) hr
        exact k r _ _ _ _ _ (((((s57.trans s8).trans s9).trans s10).trans s11).trans s12) ⟨m1, m2, upd_same, s12 _ _ (s11 _ _ (s10 _ _ upd_same)), s12 _ _ upd_same⟩ ⟨y1.1.mono (by decide), y1.2.mono (by decide), y2.1.mono (by decide), y2.2.mono (by decide)⟩ ⟨f1.low.pos, f2.low.pos⟩
end
end K31


set_option maxRecDepth 100000
set_option linter.all false
set_option maxHeartbeats 800000
set_option Elab.async false
namespace K31
open PySem L2 L3 X8 M01 L6 L5 QL
open L8 L9 L10 L11 L13 L14 L20 L21 L22 L28 L40 L41 L42 L44 M11
section
variable {P : Program} {w : World} {K : PySem.W.Frag} {mg : Str → Option Value} {base : Heap} {S C : Addr}
/-! ### _law_whole -/
def spWh : Sp := fun vs H Q _ => ∃ i : Int, vs = [.int i] ∧ Q (.bl true) H
theorem scWh : FnScope ["_law_found"] ["_law_found"] (defScope s_law_whole) := ⟨rfl, rfl, rfl, by decide +kernel, rfl, by decide +kernel, by decide +kernel⟩
theorem d_whole (T : Th K mg "_law_whole" s_law_whole) (zisinstance : mg "isinstance" = none) (zint : mg "int" = none) (zbool : mg "bool" = none) : Def P w K mg base CX0 1 "_law_whole" ["_law_found"] spWh := by
  refine QL.def_of T (fun _ _ _ _ _ _ us hl => match us, hl with | [_], _ => rfl) scWh (fun vs H Q E h => ?_) (fun f cdv A outer s H vs Q E hr h => ?_)
  · obtain ⟨i, rfl, _⟩ := h
    rfl
  · obtain ⟨i, rfl, q⟩ := h
    refine ⟨_, (qss_one (qs_ret (qe_and (qe_callB call_isinst (by rfl) zisinstance PyProof.Rows.boot_isinstance (qa_cons (qv 0) (qa_cons (qe_bltn (v := .ty "int") rfl zint PyProof.Rows.boot_int rfl) qa_nil))) (qe_one (qe_not (qe_callB call_isinst (by rfl) zisinstance PyProof.Rows.boot_isinstance (qa_cons (qv 0) (qa_cons (qe_bltn (v := .ty "bool") rfl zbool PyProof.Rows.boot_bool rfl) qa_nil)))))))), ?_⟩
    refine ⟨_, rfl, _, _, .type "int", .type "int", true, rfl, fun u z => z, .int i, by rfl, true, rfl, ?_⟩
    refine iteT ?_
    exact ⟨_, rfl, _, _, .type "bool", .type "int", false, rfl, fun u z => z, .int i, kit_bi K "int" "bool" false (by decide +kernel), false, rfl, q⟩
/-! ### _law_is_plan -/
def spIp (K : PySem.W.Frag) : Sp := fun vs H Q _ => ∃ (l : Addr) (n : Int), vs = [.ref l] ∧ PlanH H l n ∧ Q (.bl true) H
theorem scIp : FnScope ["_law_plan_here", "_law_step"] ["_law_plan_here"] (defScope s_law_is_plan) := ⟨rfl, rfl, rfl, by decide +kernel, rfl, by decide +kernel, by decide +kernel⟩
theorem d_isplan (T : Th K mg "_law_is_plan" s_law_is_plan) (dWh : Def P w K mg base CX0 1 "_law_whole" ["_law_found"] spWh) (zisinstance : mg "isinstance" = none) (ztuple : mg "tuple" = none) (zlen : mg "len" = none) : Def P w K mg base CX0 2 "_law_is_plan" ["_law_plan_here"] (spIp K) := by
  refine QL.def_of T (fun _ _ _ _ _ _ us hl => match us, hl with | [_], _ => rfl) scIp (fun vs H Q E h => ?_) (fun f cdv A outer s H vs Q E hr h => ?_)
  · obtain ⟨l, n, rfl, _⟩ := h
    rfl
  · obtain ⟨l, n, rfl, ⟨sp, h1, h2⟩, k⟩ := h
    refine ⟨_, (qss_cons (qs_if (QW.pt (qw_or (qt_not (qt_val (qe_callB call_isinst (by rfl) zisinstance PyProof.Rows.boot_isinstance (qa_cons (qv 0) (qa_cons (qe_bltn (v := .ty "tuple") rfl ztuple PyProof.Rows.boot_tuple rfl) qa_nil))))) (qw_or (qt_cmpR op_ne (qe_callB call_len_seq (by rfl) zlen PySem.boot_len (qa_cons (qv 0) qa_nil)) qe_int (nomark _)) (qw_or (qt_not (qt_val (qe_callD dWh (hr.mono (by decide)) rfl pass0 (qa_cons (qe_ix ix_tup (qv 0) qe_int (fun _ _ => rfl)) qa_nil)))) (qw_or1 (qt_not (qt_val (qe_callB call_isinst (by rfl) zisinstance PyProof.Rows.boot_isinstance (qa_cons (qe_ix ix_tup (qv 0) qe_int (fun _ _ => rfl)) (qa_cons (qe_bltn (v := .ty "tuple") rfl ztuple PyProof.Rows.boot_tuple rfl) qa_nil)))))))))) (qss_one (qs_ret qe_bl)) qss_nil)
      (qss_cons (qs_for PassesOwn.never rfl (qi_tup (qe_ix ix_tup (qv 0) qe_int (fun _ _ => rfl))) (qg_name (i := 1) scIp.nd rfl (Or.inl rfl))
        (qss_one (qs_if (QW.pt (qw_or (qt_not (qt_val (qe_callB call_isinst (by rfl) zisinstance PyProof.Rows.boot_isinstance (qa_cons (qv 1) (qa_cons (qe_bltn (v := .ty "tuple") rfl ztuple PyProof.Rows.boot_tuple rfl) qa_nil))))) (qw_or (qt_cmpR op_ne (qe_callB call_len_seq (by rfl) zlen PySem.boot_len (qa_cons (qv 1) qa_nil)) qe_int (nomark _)) (qw_or (qt_not (qt_val (qe_callD dWh (hr.mono (by decide)) rfl pass0 (qa_cons (qe_ix ix_tup (qv 1) qe_int (fun _ _ => rfl)) qa_nil)))) (qw_or1 (qt_not (qt_val (qe_callD dWh (hr.mono (by decide)) rfl pass0 (qa_cons (qe_ix ix_tup (qv 1) qe_int (fun _ _ => rfl)) qa_nil))))))))) (qss_one (qs_ret qe_bl)) qss_nil)))
      (qss_one (qs_ret qe_bl)))), ?_⟩
    have T : SqT K H l [.int n, .ref sp] := SqT.of h1
    refine ⟨_, rfl, _, _, .type "tuple", .type "tuple", true, rfl, fun u z => z, .tup h1, by rfl, true, rfl, iteF ?_⟩
    refine ⟨_, rfl, l, _, rfl, .inr T, rfl, _, rfl, iteNS rfl ?_⟩
    refine ⟨_, rfl, l, _, _, _, rfl, rfl, T, rfl, n, rfl, true, rfl, iteF ?_⟩
    refine ⟨_, rfl, l, _, _, _, rfl, rfl, T, rfl, _, _, .type "tuple", .type "tuple", true, rfl, fun u z => z, .tup h2, by rfl, true, rfl, iteF ?_⟩
    refine ⟨_, rfl, l, _, _, _, rfl, rfl, T, rfl, sp, rfl, ⟨_, SqT.of h2⟩, for_tup (K := K) (a := sp) (xs := []) (fun i σ H3 => σ = [some (.ref l), none] ∧ H3 = H) ⟨rfl, rfl⟩ (fun i σ H3 _ z => by rw [z.2]; exact SqT.of h2) (fun i x σ H3 hx => by cases hx) ?_⟩
    rintro σ H3 ⟨rfl, rfl⟩
    exact k
/-! ### _law_due -/
def valB : Option Int → V
  | none => .non
  | some m => .int m
def spDu (K : PySem.W.Frag) : Sp := fun vs H Q _ => ∃ (wa am er pr : Addr) (ns : List Int) (c0 d0 c1 d1 p q a b c : Int), vs = [.ref wa, .ref am, .ref er, .ref pr] ∧ SqL K H am (ns.map V.int) ∧ (∀ n ∈ ns, 1 ≤ n ∧ n ≤ 1000) ∧
  RoomAt K H wa c0 d0 c1 d1 ∧ (Sz 400 c0 ∧ Sz 400 d0 ∧ Sz 400 c1 ∧ Sz 400 d1) ∧ (0 < d0 ∧ 0 < d1) ∧ SqT K H er [.int p, .int q] ∧ (Sz 80 p ∧ Sz 40 q ∧ 0 < q) ∧ SqT K H pr [.int a, .int b, .int c] ∧ Big a ∧
  ∀ H', Same H H' → Q (valB (bestB (WB p q c0 d0 c1 d1) a ns)) H'
theorem scDu : FnScope ["_law_wanted_here", "_law_amounts_here", "_law_error_here", "_law_prices_here", "_law_best", "_law_first", "_law_low", "_law_high"] ["_law_wanted_here", "_law_amounts_here", "_law_error_here", "_law_prices_here"] (defScope s_law_due) := ⟨rfl, rfl, rfl, by decide +kernel, rfl, by decide +kernel, by decide +kernel⟩
theorem d_due (T : Th K mg "_law_due" s_law_due) (dSn : Def P w K mg base CX0 3 "_law_span" ["_law_plan_here", "_law_error_here"] (spSn K)) (dLe : Def P w K mg base CX0 1 "_law_less" ["_law_one", "_law_two"] (spUn K)) : Def P w K mg base CX0 4 "_law_due" ["_law_wanted_here", "_law_amounts_here", "_law_error_here", "_law_prices_here"] (spDu K) := by
  refine QL.def_of T (fun _ _ _ _ _ _ us hl => match us, hl with | [_, _, _, _], _ => rfl) scDu (fun vs H Q E h => ?_) (fun f cdv A outer s H vs Q E hr h => ?_)
  · obtain ⟨wa, am, er, pr, ns, c0, d0, c1, d1, p, q, a, b, c, rfl, _⟩ := h
    rfl
  · obtain ⟨wa, am, er, pr, ns, c0, d0, c1, d1, p, q, a, b, c, rfl, hA, bn, hwa, ⟨z1, z2, z3, z4⟩, ⟨d00, d10⟩, her, ⟨zp, zq, q0⟩, hpr, ba, k⟩ := h
    refine ⟨_, (qss_cons (qs_set (i := 4) scDu.nd rfl (Or.inl rfl) qe_non)
      (qss_cons (qs_for PassesOwn.never rfl (qi_list (qv 1)) (qg_name (i := 5) scDu.nd rfl (Or.inl rfl))
        (qss_cons (qs_asg (qe_callD dSn (hr.mono (by decide)) rfl pass0 (qa_cons (qe_tup (qa_cons (qv 5) (qa_cons (qe_tup qa_nil) qa_nil))) (qa_cons (qv 2) qa_nil))) (qg_tup rfl (qgs_cons (qg_name (i := 6) scDu.nd rfl (Or.inl rfl)) (qgs_cons (qg_name (i := 7) scDu.nd rfl (Or.inl rfl)) qgs_nil))))
      (qss_one (qs_if (QW.pt (qw_and (qt_not (qt_val (qe_callD dLe (hr.mono (by decide)) rfl pass0 (qa_cons (qv 6) (qa_cons (qe_ix ix_tup (qv 0) qe_int (fun _ _ => rfl)) qa_nil))))) (qw_and1 (qt_not (qt_val (qe_callD dLe (hr.mono (by decide)) rfl pass0 (qa_cons (qe_ix ix_tup (qv 0) qe_int (fun _ _ => rfl)) (qa_cons (qv 7) qa_nil)))))))) (qss_one (qs_if (QW.pt (qw_or (qt_cmpR op_isN (qv 4) qe_non (nomark _)) (qw_or1 (qt_cmpR op_lt (qe_op op_mulB (qe_ix ix_tup (qv 3) qe_int (fun _ _ => rfl)) (qv 5)) (qe_op op_mulB (qe_ix ix_tup (qv 3) qe_int (fun _ _ => rfl)) (qv 4)) (nomark _))))) (qss_one (qs_set (i := 4) scDu.nd rfl (Or.inl rfl) (qv 5))) qss_nil)) qss_nil))))
      (qss_one (qs_ret (qv 4))))), ?_⟩
    obtain ⟨wx, wy, hw1, hw2, hw3⟩ := hwa.ex
    refine ⟨_, rfl, am, rfl, ⟨_, hA⟩, for_list (K := K) (a := am) (xs := ns.map V.int) (fun i σ H2 => ∃ (v5 v6 v7 : Option V), σ = [some (.ref wa), some (.ref am), some (.ref er), some (.ref pr), some (valB (bestB (WB p q c0 d0 c1 d1) a (ns.take i))), v5, v6, v7] ∧ Same H H2) ⟨none, none, none, rfl, Same.refl _⟩ ?_ ?_ ?_⟩
    · rintro i σ H2 _ ⟨v5, v6, v7, _, sm⟩
      exact sm.seq hA
    · rintro i x σ H2 hx ⟨v5, v6, v7, rfl, sm⟩
      rw [List.getElem?_map] at hx
      obtain ⟨n, en, rfl⟩ := Option.map_eq_some_iff.mp hx
      obtain ⟨n1, n2⟩ := bn n (List.mem_of_getElem? en)
      have zn : Sz 40 n := by unfold Sz; omega
      refine ⟨_, rfl, (by show 0 ≤ sizeLine; decide), fun t0 ht0 => ⟨(by show 2 ≤ sizeLine; decide), fun pl hpl => ?_⟩⟩
      have s1 := sameUpd (o := .tup []) ht0
      have s2 := sameUpd (o := .tup [.int n, .ref t0]) hpl
      have s12 := (sm.trans s1).trans s2
      have ph : PlanH (upd (upd H2 t0 (.tup [])) pl (.tup [.int n, .ref t0])) pl n := ⟨t0, upd_same, s2 _ _ upd_same⟩
      refine ⟨_, rfl, pl, er, n, p, q, rfl, ph.at_, seqT s12 her, ⟨zn, zp, zq⟩, q0, fun rm x y z v H3 s3 hrm ⟨y0, ey⟩ ⟨v0, ev⟩ ⟨zx, zy, zz, zv⟩ => ?_⟩
      obtain ⟨lo, hi, h1, h2, h3⟩ := hrm.ex
      have s13 := s12.trans s3
      refine ⟨rm, _, rfl, SqT.of h1, rfl, _, _, rfl, _, _, rfl, rfl, ?_⟩
      have he : bestB (WB p q c0 d0 c1 d1) a (ns.take (i + 1)) = stepB (WB p q c0 d0 c1 d1) a (bestB (WB p q c0 d0 c1 d1) a (ns.take i)) n := bestB_take en
      have ew : (!decide (x * d0 < c0 * y) && !decide (c1 * v < z * d1)) = WB p q c0 d0 c1 d1 n := by
        unfold WB
        rw [decide_eq_decide.mpr (lt_one1 y0 q0 ey), decide_eq_decide.mpr (lt_one2 v0 q0 ev)]
      dsimp only
      refine if_by (p := WB p q c0 d0 c1 d1 n = true) (fun Q' k' => ?_) (fun H5 s5 hp => ?_) (fun H5 s5 hp => ?_)
      · have w1 := seqT s13 hw1
        refine ⟨_, rfl, _, rfl, wa, _, _, _, rfl, rfl, w1, rfl, lo, wx, x, y, c0, d0, rfl, SqT.of h2, seqT s13 hw2, ⟨zx.big (by decide), zy.big (by decide), z1.big (by decide), z2.big (by decide)⟩, _, rfl, ite2 (fun e1 => ?_) (fun e1 => ?_)⟩
        · refine ⟨_, rfl, wa, _, _, _, rfl, rfl, w1, rfl, _, rfl, wy, hi, c1, d1, z, v, rfl, seqT s13 hw3, SqT.of h3, ⟨z3.big (by decide), z4.big (by decide), zz.big (by decide), zv.big (by decide)⟩, _, rfl, k' _ _ (Same.refl _) ?_⟩
          rw [← ew, e1, Bool.true_and]
        · refine k' _ _ (Same.refl _) ?_
          rw [← ew]
          rw [Bool.not_eq_true] at e1
          rw [e1]
          simp
      · have st : stepB (WB p q c0 d0 c1 d1) a (bestB (WB p q c0 d0 c1 d1) a (ns.take i)) n = if lessB a n (bestB (WB p q c0 d0 c1 d1) a (ns.take i)) = true then some n else bestB (WB p q c0 d0 c1 d1) a (ns.take i) := by
          unfold stepB
          rw [hp, Bool.true_and]
        refine if_by (p := lessB a n (bestB (WB p q c0 d0 c1 d1) a (ns.take i)) = true) (fun Q' k' => ?_) (fun H6 s6 hl => ?_) (fun H6 s6 hl => ?_)
        · refine ⟨_, rfl, rfl, _, rfl, ite2 (fun cc => ?_) (fun cc => ?_)⟩
          · have cc' : valB (bestB (WB p q c0 d0 c1 d1) a (ns.take i)) = .non := of_decide_eq_true cc
            refine k' _ _ (Same.refl _) ?_
            cases hbb : bestB (WB p q c0 d0 c1 d1) a (ns.take i) with
            | none => exact ⟨fun _ => rfl, fun _ => rfl⟩
            | some m =>
              rw [hbb] at cc'
              cases cc'
          · cases hbb : bestB (WB p q c0 d0 c1 d1) a (ns.take i) with
            | none =>
              rw [hbb] at cc
              exact absurd rfl cc
            | some m =>
              rw [hbb] at k'
              have hpr5 := seqT (s13.trans s5) hpr
              have bm : Big m := by
                rcases bestB_mem hbb with z' | z'
                · obtain ⟨m1, m2⟩ := bn m (List.mem_of_mem_take z')
                  exact Big.of (by omega) (by omega)
                · cases z'
              refine ⟨_, rfl, pr, _, _, _, rfl, rfl, hpr5, rfl, _, rfl, _, _, rfl, rfl, ⟨ba, zn.big (by decide)⟩, _, rfl, pr, _, _, _, rfl, rfl, hpr5, rfl, _, rfl, a, m, rfl, rfl, ⟨ba, bm⟩, _, _, rfl, rfl, _, rfl, k' _ _ (Same.refl _) Iff.rfl⟩
        · refine ⟨_, rfl, some (.int n), some (.ref lo), some (.ref hi), ?_, (s13.trans s5).trans s6⟩
          rw [he, st, if_pos hl]
          rfl
        · refine ⟨some (.int n), some (.ref lo), some (.ref hi), ?_, (s13.trans s5).trans s6⟩
          rw [he, st, if_neg hl]
          rfl
      · refine ⟨some (.int n), some (.ref lo), some (.ref hi), ?_, s13.trans s5⟩
        have st : stepB (WB p q c0 d0 c1 d1) a (bestB (WB p q c0 d0 c1 d1) a (ns.take i)) n = bestB (WB p q c0 d0 c1 d1) a (ns.take i) := by
          unfold stepB
          rw [Bool.not_eq_true] at hp
          rw [hp, Bool.false_and]
          rfl
        rw [he, st]
        rfl
    · rintro σ H2 ⟨v5, v6, v7, rfl, sm⟩
      rw [List.length_map, List.take_length]
      exact ⟨_, rfl, k H2 sm⟩
end
end K31


set_option maxRecDepth 100000
set_option linter.all false
set_option maxHeartbeats 800000
set_option Elab.async false
namespace K31
open PySem L2 L3 X8 M01 L6 L5 QL
open L8 L9 L10 L11 L13 L14 L20 L21 L22 L40 L41 L42 L44 M11
section
variable {P : Program} {w : World} {K : PySem.W.Frag} {mg : Str → Option Value} {base : Heap} {S C : Addr}
theorem fa_ints {H : Hp} : ∀ ns : List Int, Fa (rpI H) (ns.map V.int) ns
  | [] => .nil
  | n :: r => .cons rfl (fa_ints r)
theorem rp_ints {H : Hp} {l : Addr} {ns : List Int} (h : H l = some (.lst (ns.map V.int))) : rpL rpI H (.ref l) ns := ⟨l, _, rfl, h, fa_ints ns⟩
theorem scL : FnScope ["_law_script", "_law_amounts_here", "_law_error_here", "_law_prices_here", "_law_k", "_law_wanted_here", "_law_handed", "_law_found", "_law_due_here"] ["_law_script"] (defScope s_law) := ⟨rfl, rfl, rfl, by decide +kernel, rfl, by decide +kernel, by decide +kernel⟩
theorem d_law {f0 : Addr} {fd : FuncData} (F : L2.Fun K "law" "law" s_law f0 fd) (dCell : Def P w K mg base CX0 1 "_law_cell" ["_law_script", "_law_k"] (spCell K)) (dAm : Def P w K mg base CX0 2 "_law_amounts" ["_law_cell_here", "_law_most"] spAm) (dEr : Def P w K mg base CX0 2 "_law_error" ["_law_cell_here", "_law_amounts_here"] (spEr K)) (dPc : Def P w K mg base CX0 2 "_law_prices" ["_law_cell_here"] spPc)
    (dWa : Def P w K mg base CX0 4 "_law_wanted" ["_law_cell_here", "_law_amounts_here", "_law_error_here", "_law_most"] (spWa K)) (dIp : Def P w K mg base CX0 2 "_law_is_plan" ["_law_plan_here"] (spIp K)) (dDu : Def P w K mg base CX0 4 "_law_due" ["_law_wanted_here", "_law_amounts_here", "_law_error_here", "_law_prices_here"] (spDu K)) (dCh : Def P w K mg base (CXe P w) 8 "cheapest" ["wanted", "amounts", "error", "prices", "most"] (spCh K))
    (zrange : mg "range" = none) (zlen : mg "len" = none) (zmax : mg "max" = none) (zmin : mg "min" = none) (zlist : mg "list" = none) (zisinstance : mg "isinstance" = none) (ztuple : mg "tuple" = none) : FnOk P w K mg base CX0 9 f0 fd ["_law_script"] (spLaw K) := by
  refine QL.fn_law F scL (fun vs H Q E h => ?_) (fun cdv A outer s H vs Q E hr h => ?_)
  · obtain ⟨a, ns, rfl, _⟩ := h
    rfl
  · obtain ⟨sc, cs, rfl, hS, hlen, k⟩ := h
    refine ⟨_, (qss_cons (qs_set (i := 1) scL.nd rfl (Or.inl rfl) (qe_callD dAm (hr.mono (by decide)) rfl pass0 (qa_cons (qe_callD dCell (hr.mono (by decide)) rfl pass0 (qa_cons (qv 0) (qa_cons qe_int qa_nil))) (qa_cons qe_int qa_nil))))
      (qss_cons (qs_set (i := 2) scL.nd rfl (Or.inl rfl) (qe_callD dEr (hr.mono (by decide)) rfl pass0 (qa_cons (qe_callD dCell (hr.mono (by decide)) rfl pass0 (qa_cons (qv 0) (qa_cons qe_int qa_nil))) (qa_cons (qv 1) qa_nil))))
      (qss_cons (qs_set (i := 3) scL.nd rfl (Or.inl rfl) (qe_callD dPc (hr.mono (by decide)) rfl pass0 (qa_cons (qe_callD dCell (hr.mono (by decide)) rfl pass0 (qa_cons (qv 0) (qa_cons qe_int qa_nil))) qa_nil)))
      (qss_cons (qs_for PassesOwn.never rfl (qi_range2 rfl zrange (qa_cons qe_int (qa_cons (qe_callB (call_max2 rfl) (by rfl) zmax PyProof.Rows.boot_max (qa_cons qe_int (qa_cons (qe_callB (call_min2 rfl) (by rfl) zmin PyProof.Rows.boot_min (qa_cons qe_int (qa_cons (qe_callB call_len_seq (by rfl) zlen PySem.boot_len (qa_cons (qv 0) qa_nil)) qa_nil))) qa_nil))) qa_nil))) (qg_name (i := 4) scL.nd rfl (Or.inl rfl))
        (qss_cons (qs_set (i := 5) scL.nd rfl (Or.inl rfl) (qe_callD dWa (hr.mono (by decide)) rfl pass0 (qa_cons (qe_callD dCell (hr.mono (by decide)) rfl pass0 (qa_cons (qv 0) (qa_cons (qv 4) qa_nil))) (qa_cons (qv 1) (qa_cons (qv 2) (qa_cons qe_int qa_nil))))))
      (qss_cons (qs_set (i := 6) scL.nd rfl (Or.inl rfl) (qe_callTy call_list_of (by rfl) zlist PyProof.Rows.boot_list (qa_cons (qv 1) qa_nil)))
      (qss_cons (qs_set (i := 7) scL.nd rfl (Or.inl rfl) (qe_callD dCh (hr.mono (by decide)) rfl pass1 (qa_cons (qv 5) (qa_cons (qv 6) (qa_cons (qv 2) (qa_cons (qv 3) (qa_cons qe_int qa_nil)))))))
      (qss_cons (qs_if (QW.pt (qw_or (qt_cmpR (op_neDL ok_int (hu_d hr (by decide))) (qv 6) (qv 1) (nomark _)) (qw_or (qt_not (qt_val (qe_callB call_isinst (by rfl) zisinstance PyProof.Rows.boot_isinstance (qa_cons (qv 7) (qa_cons (qe_bltn (v := .ty "tuple") rfl ztuple PyProof.Rows.boot_tuple rfl) qa_nil))))) (qw_or (qt_cmpR op_ne (qe_callB call_len_seq (by rfl) zlen PySem.boot_len (qa_cons (qv 7) qa_nil)) qe_int (nomark _)) (qw_or1 (qt_cmpR (op_neDL ok_int (hu_d hr (by decide))) (qe_ix ix_tup (qv 7) qe_int (fun _ _ => rfl)) (qe_lst qa_nil) (nomark _))))))) (qss_one (qs_ret qe_bl)) qss_nil)
      (qss_cons (qs_set (i := 8) scL.nd rfl (Or.inl rfl) (qe_callD dDu (hr.mono (by decide)) rfl pass0 (qa_cons (qv 5) (qa_cons (qv 1) (qa_cons (qv 2) (qa_cons (qv 3) qa_nil))))))
      (qss_cons (qs_if (QW.pt (qw_and (qt_cmpR op_isN (qv 8) qe_non (nomark _)) (qw_and1 (qt_cmpR op_notN (qe_ix ix_tup (qv 7) qe_int (fun _ _ => rfl)) qe_non (nomark _))))) (qss_one (qs_ret qe_bl)) qss_nil)
      (qss_one (qs_if (QW.pt (qw_and (qt_cmpR op_notN (qv 8) qe_non (nomark _)) (qw_and1 (QW.pt (qw_or (qt_not (qt_val (qe_callD dIp (hr.mono (by decide)) rfl pass0 (qa_cons (qe_ix ix_tup (qv 7) qe_int (fun _ _ => rfl)) qa_nil)))) (qw_or1 (qt_cmpR (op_neR row_plan (hu_d hr (by decide))) (qe_ix ix_tup (qv 7) qe_int (fun _ _ => rfl)) (qe_tup (qa_cons (qv 8) (qa_cons (qe_tup qa_nil) qa_nil))) (nomark _)))))))) (qss_one (qs_ret qe_bl)) qss_nil)))))))))
      (qss_one (qs_ret qe_bl)))))), ?_⟩
    refine ⟨_, rfl, sc, cs, 0, rfl, hS, by decide, fun y0 => ⟨y0, 8, rfl, by decide, fun am ns H1 s1 ham pw bn l8 => ?_⟩⟩
    refine ⟨_, rfl, sc, cs, 1, rfl, s1.seq hS, by decide, fun y1 => ⟨_, rfl, y1, am, ns, rfl, SqL.of ham, bn, fun er p q H2 s2 her zp zq q0 => ?_⟩⟩
    refine ⟨_, rfl, sc, cs, 2, rfl, (s1.trans s2).seq hS, by decide, fun y2 => ⟨y2, rfl, fun pr a b c H3 s3 hpr ba bb bc => ?_⟩⟩
    have ham3 := s3 _ _ (s2 _ _ ham)
    have her3 := s3 _ _ her
    have s03 := (s1.trans s2).trans s3
    have hS3 := s03.seq hS
    have lS : ((cs.map V.int).length : Int) = (cs.length : Int) := by rw [List.length_map]
    have big : ∀ {x : Int}, 0 ≤ x ∧ x < 10 ^ 9 → Big x := fun h => Big.of (by omega) (by omega)
    refine ⟨_, rfl, sc, _, rfl, .inl hS3, _, _, rfl, _, _, rfl, 3, _, rfl, ⟨by decide, by decide, by (rw [lS]; split <;> split <;> omega), by (rw [lS]; split <;> split <;> omega)⟩, ?_⟩
    refine for_range (lo := 3) (fun i σ H4 => ∃ v4 v5 v6 v7 v8 : Option V, σ = [some (.ref sc), some (.ref am), some (.ref er), some (.ref pr), v4, v5, v6, v7, v8] ∧ Same H3 H4) ⟨none, none, none, none, none, rfl, Same.refl _⟩ ?_ ?_
    · rintro i σ H4 hi ⟨v4, v5, v6, v7, v8, rfl, s4⟩
      have hS4 := s4.seq hS3
      have ham4 := s4 _ _ ham3
      have her4 := s4 _ _ her3
      refine ⟨_, rfl, _, rfl, sc, cs, 3 + (i : Int), rfl, hS4, by omega, fun y => ⟨_, rfl, _, rfl, y, am, er, ns, p, q, rfl, SqL.of ham4, bn, SqT.of her4, ⟨zp, zq⟩, q0, fun wa c0 d0 c1 d1 H5 s5 hwa zw d0s => ?_⟩⟩
      have ham5 := s5 _ _ ham4
      refine ⟨_, rfl, am, _, rfl, .inl (SqL.of ham5), fun hd hhd => ?_⟩
      have s6 := sameUpd (o := .lst (ns.map V.int)) hhd
      have s36 := (s4.trans s5).trans s6
      have hpr6 := s36 _ _ hpr
      have her6 := s36 _ _ her3
      refine ⟨_, rfl, _, rfl, _, rfl, _, rfl, wa, hd, er, pr, ns, c0, d0, c1, d1, p, q, a, b, c, rfl, upd_same, pw, bn, by omega, (hwa.at).mono s6, zw, d0s, SqT.of her6, ⟨zp, zq, q0⟩, SqT.of hpr6, ⟨big ba, big bb, big bc⟩, fun r v l H7 s7 hr' hl hm => ?_⟩
      have hd7 := s7 _ _ (show upd H5 hd (.lst (ns.map V.int)) hd = some _ from upd_same)
      have am7 := s7 _ _ (s6 _ _ ham5)
      have R7 : SqT K H7 r [v, .ref l] := SqT.of hr'
      refine ⟨_, rfl, _, rfl, _, _, rp_ints hd7, rp_ints am7, false, by rw [decide_eq_true rfl]; rfl, iteF ?_⟩
      refine ⟨_, rfl, _, _, .type "tuple", .type "tuple", true, rfl, fun u z => z, .tup hr', by rfl, true, rfl, iteF ?_⟩
      refine ⟨_, rfl, r, _, rfl, .inr R7, rfl, _, rfl, iteNS rfl ?_⟩
      refine ⟨_, rfl, r, _, _, _, rfl, rfl, R7, rfl, (by show 0 ≤ sizeLine; decide), fun em hem => ?_⟩
      have s8 := sameUpd (o := .lst []) hem
      refine ⟨[], [], rp_ints (s8 _ _ hl), rp_ints (ns := []) upd_same, false, by rw [decide_eq_true rfl]; rfl, iteF ?_⟩
      have s38 := (s36.trans s7).trans s8
      have wa8 := (((hwa.at (K := K)).mono s6).mono s7).mono s8
      refine ⟨_, rfl, _, rfl, _, rfl, _, rfl, wa, am, er, pr, ns, c0, d0, c1, d1, p, q, a, b, c, rfl, SqL.of (s8 _ _ am7), bn, wa8, zw, d0s, SqT.of (s38 _ _ her3), ⟨zp, zq, q0⟩, SqT.of (s38 _ _ hpr), big ba, fun H9 s9 => ?_⟩
      have R9 : SqT K H9 r [v, .ref l] := SqT.of (s9 _ _ (s8 _ _ hr'))
      have s39 := s38.trans s9
      cases hbb : bestB (WB p q c0 d0 c1 d1) a ns with
      | none =>
        rw [hbb] at hm
        have hv : v = .non := hm
        subst hv
        refine ⟨_, rfl, rfl, _, rfl, iteT ?_⟩
        refine ⟨_, rfl, r, _, _, _, rfl, rfl, R9, rfl, rfl, _, rfl, iteF ?_⟩
        refine ⟨_, rfl, rfl, _, rfl, iteF ?_⟩
        exact ⟨_, _, _, _, _, rfl, s39⟩
      | some m =>
        rw [hbb] at hm
        obtain ⟨pl, rfl, ph⟩ := hm
        refine ⟨_, rfl, rfl, _, rfl, iteF ?_⟩
        refine ⟨_, rfl, rfl, _, rfl, iteT ?_⟩
        have ph9 := (ph.mono s8).mono s9
        refine ⟨_, rfl, r, _, _, _, rfl, rfl, R9, rfl, pl, m, rfl, ph9, true, rfl, iteF ?_⟩
        refine ⟨_, rfl, r, _, _, _, rfl, rfl, R9, rfl, _, rfl, (by show 0 ≤ sizeLine; decide), fun t0 ht0 => ⟨(by show 2 ≤ sizeLine; decide), fun t1 ht1 => ?_⟩⟩
        have u1 := sameUpd (o := .tup []) ht0
        have u2 := sameUpd (o := .tup [.int m, .ref t0]) ht1
        have pt : PlanH (upd (upd H9 t0 (.tup [])) t1 (.tup [.int m, .ref t0])) t1 m := ⟨t0, upd_same, u2 _ _ upd_same⟩
        refine ⟨_, _, ((ph9.mono u1).mono u2).rp, pt.rp, false, by rw [decide_eq_true rfl]; rfl, iteF ?_⟩
        exact ⟨_, _, _, _, _, rfl, (s39.trans u1).trans u2⟩
    · rintro σ H4 ⟨v4, v5, v6, v7, v8, rfl, s4⟩
      exact k _
end
theorem fin {l : PySem.W.OpenLaw} {w : World} {K : PySem.W.Frag} {mg : Str → Option Value} {fa S C : Addr} (hfa : mg "law" = some (.ref fa)) (B : XB K mg S) (N : XC K mg S "NoNumber" "number" "NoNumber.__init__" si_NoNumber C)
    (tFil : Th K mg "fillers_of" s_fillers_of) (t0 : Th K mg "greatest_divisor" s_greatest_divisor) (t1 : Th K mg "plus" s_plus) (t2 : Th K mg "minus" s_minus) (t3 : Th K mg "times" s_times) (t4 : Th K mg "under" s_under) (t5 : Th K mg "weighed" s_weighed) (t6 : Th K mg "product" s_product) (t7 : Th K mg "lies_within" s_lies_within) (t8 : Th K mg "numbers_of" s_numbers_of) (t9 : Th K mg "last_of" s_last_of) (t10 : Th K mg "price_of" s_price_of) (t11 : Th K mg "ways_to_mix" s_ways_to_mix) (t12 : Th K mg "portions_of" s_portions_of) (t13 : Th K mg "better_offer" s_better_offer) (t14 : Th K mg "rows_of" s_rows_of) (t15 : Th K mg "_law_cell" s_law_cell) (t16 : Th K mg "_law_pick" s_law_pick) (t17 : Th K mg "_law_ratio" s_law_ratio) (t18 : Th K mg "_law_mul" s_law_mul) (t19 : Th K mg "_law_less" s_law_less) (t20 : Th K mg "_law_amounts" s_law_amounts) (t21 : Th K mg "_law_error" s_law_error) (t22 : Th K mg "_law_prices" s_law_prices) (t23 : Th K mg "_law_off" s_law_off) (t24 : Th K mg "_law_strength" s_law_strength) (t25 : Th K mg "_law_span" s_law_span) (t26 : Th K mg "_law_plan" s_law_plan) (t27 : Th K mg "_law_wanted" s_law_wanted) (t28 : Th K mg "_law_whole" s_law_whole) (t29 : Th K mg "_law_is_plan" s_law_is_plan) (t30 : Th K mg "_law_due" s_law_due) (t31 : Th K mg "law" s_law)
    (tF : ThD K mg "fraction" s_fraction "top" "bottom" 1) (tE : L44.ThE K mg "cheapest" s_cheapest ["wanted", "amounts", "error", "prices", "most"])
    (zrange : mg "range" = none) (zlen : mg "len" = none) (zisinstance : mg "isinstance" = none) (zint : mg "int" = none) (zbool : mg "bool" = none) (ztuple : mg "tuple" = none) (zabs : mg "abs" = none) (zmax : mg "max" = none) (zmin : mg "min" = none) (zlist : mg "list" = none) (zsorted : mg "sorted" = none) (zset : mg "set" = none) (zsum : mg "sum" = none)
    (gP : ∃ aP, mg "PURE" = some (.ref aP) ∧ ∀ H, RoomAt K H aP 1 1 1 1) :
    ∃ fd : FuncData, (∀ (s : Shared) (v : Value), BindsTo s fd ⟨[v], []⟩ [("_law_script", v)]) ∧ ∀ base : Heap, K.In base → base.Ns mainGlobals mg → FnOk l.prog w K mg base CX0 9 fa fd ["_law_script"] (spLaw K) := by
  obtain ⟨fL, fdL, F_L, mL⟩ := id t31
  cases hfa.symm.trans mL
  refine ⟨fdL, fun s v => ?_, fun base _ _ => ?_⟩
  · obtain ⟨oc, od, kV, doc, pm, an, cdv, ct, osl, rfl, lk, hcd⟩ := F_L.ex
    exact .of_eq rfl
  have R : XR l.prog w K mg base S "NoNumber" "number" C := xr_NoNumber B N
  have dG := d_gcd (P := l.prog) (w := w) (base := base) (mg := mg) t0 
  have dFr := d_fr (P := l.prog) (w := w) (base := base) tF dG R zabs
  have dPl := d_plus (P := l.prog) (w := w) (base := base) (mg := mg) t1 dFr
  have dMi := d_minus (P := l.prog) (w := w) (base := base) (mg := mg) t2 dFr
  have dTi := d_times (P := l.prog) (w := w) (base := base) (mg := mg) t3 dFr
  have dWe := d_weighed (P := l.prog) (w := w) (base := base) (mg := mg) t5 dFr dMi dPl
  have dPd := d_product (P := l.prog) (w := w) (base := base) (mg := mg) t6 dTi
  have dUn := d_under (P := l.prog) (w := w) (base := base) (mg := mg) t4 
  have dLw := d_lies (P := l.prog) (w := w) (base := base) (mg := mg) t7 dUn
  have dNo := d_numbers (P := l.prog) (w := w) (base := base) (mg := mg) t8 
  have dLa := d_last (P := l.prog) (w := w) (base := base) (mg := mg) t9 dNo
  have dFil := d_fil (P := l.prog) (w := w) (base := base) (mg := mg) tFil zsum
  have dPr := d_price (P := l.prog) (w := w) (base := base) (mg := mg) t10 dFil zlen
  have dWm := d_ways (P := l.prog) (w := w) (base := base) (mg := mg) t11 
  have dPo := d_portions (P := l.prog) (w := w) (base := base) (mg := mg) t12 
  have dRo := d_rows (P := l.prog) (w := w) (base := base) (mg := mg) t14 
  have dBo := d_better (P := l.prog) (w := w) (base := base) (mg := mg) t13 dPr dWe dPd dLa dLw
  have dCh := d_cheapest (P := l.prog) (w := w) (base := base) (aP := S) tE dBo dWm dPo dRo zrange zsorted gP
  have dCe := d_cell (P := l.prog) (w := w) (base := base) (mg := mg) t15 zlen
  have dPk := d_pick (P := l.prog) (w := w) (base := base) (mg := mg) t16 zrange
  have dRa := d_ratio (P := l.prog) (w := w) (base := base) (mg := mg) t17 zabs
  have dMu := d_mul (P := l.prog) (w := w) (base := base) (mg := mg) t18 dRa
  have dLe := d_less (P := l.prog) (w := w) (base := base) (mg := mg) t19 
  have dAm := d_amounts (P := l.prog) (w := w) (base := base) (mg := mg) t20 dPk zrange zsorted zset
  have dEr := d_error (P := l.prog) (w := w) (base := base) (mg := mg) t21 dPk dRa zlen
  have dPc := d_prices (P := l.prog) (w := w) (base := base) (mg := mg) t22 dPk zrange ztuple
  have dOf := d_off (P := l.prog) (w := w) (base := base) (mg := mg) t23 dRa
  have dSt := d_strength (P := l.prog) (w := w) (base := base) (mg := mg) t24 
  have dSn := d_span (P := l.prog) (w := w) (base := base) (mg := mg) t25 dMu dOf dSt
  have dPn := d_plan (P := l.prog) (w := w) (base := base) (mg := mg) t26 dPk zrange zlen ztuple
  have dWa := d_wanted (P := l.prog) (w := w) (base := base) (mg := mg) t27 dPk dRa dMu dLe dSn dPn zlen
  have dWh := d_whole (P := l.prog) (w := w) (base := base) (mg := mg) t28 zisinstance zint zbool
  have dIp := d_isplan (P := l.prog) (w := w) (base := base) (mg := mg) t29 dWh zisinstance ztuple zlen
  have dDu := d_due (P := l.prog) (w := w) (base := base) (mg := mg) t30 dSn dLe
  exact d_law F_L dCe dAm dEr dPc dWa dIp dDu dCh zrange zlen zmax zmin zlist zisinstance ztuple
end K31


set_option maxRecDepth 100000
set_option linter.all false
set_option maxHeartbeats 4000000
set_option Elab.async false
theorem K31.walk {l : PySem.W.OpenLaw} {q : PySem.Program} {loose : List PySem.Str} {XP : (PySem.Str → Option PySem.Value) → PySem.Heap → Prop} {YP : PySem.World → PySem.Heap → Prop} {d : PySem.DefRec} {K : PySem.Params → PySem.W.Frag} (hn : l.most = some 63) (hdf : d.params.defaults = [])
    (hY : ∀ (w : PySem.World) (h : PySem.Heap), YP w h → (K w.params).In h)
    (F : ∀ (w : PySem.World) (mg : PySem.Str → Option PySem.Value) (fa : PySem.Addr) (h : PySem.Heap), (K w.params).In h → h.Ns PySem.mainGlobals mg → mg d.name = some (.ref fa) →
      ∃ fd : PySem.FuncData, (∀ (s : PySem.Shared) (u : PySem.Value), PySem.BindsTo s fd ⟨[u], []⟩ [("_law_script", u)]) ∧ ∀ base : PySem.Heap, (K w.params).In base → base.Ns PySem.mainGlobals mg → L2.FnOk l.prog w (K w.params) mg base L2.CX0 9 fa fd ["_law_script"] (K31.spLaw (K w.params))) :
    PySem.W.WalkO q loose XP YP l.row.toRowW d [] (fun f vs => PySem.call f vs) :=
  L2.walk_of (n := 63) (k := 9) (x := "_law_script") (CX := fun _ => L2.CX0) (sp := fun w => K31.spLaw (K w.params)) hn (by decide) hdf ⟨rfl, by decide, by decide⟩ hY F (fun _ _ a ns hl _ hS => ⟨a, ns, rfl, hS, hl, fun _ => rfl⟩) fun _ _ _ _ _ z => z
open PySem PySem.W PyProof.Rows
set_option maxRecDepth 100000 in
set_option maxHeartbeats 0 in
theorem PySem.Challenge.cw_scruplehouse_k31_plans_without_steps_holds : PySem.Challenge.rw_scruplehouse_k31_plans_without_steps.Holds := by
  w_on; o_law; k_head; (case hw => w_witness2)
  k_fill
  refine K31.walk (l := PySem.Challenge.rw_scruplehouse_k31_plans_without_steps) rfl rfl (fun w h Y => PySem.W.kIn_of Y) ?F
  case F =>
    intro w mg fa h KX G hmg
    have EB : ∃ S, L6.XB (L2.KOf KX) mg S ∧ PySem.W.nsIn (L2.KOf KX) mainGlobals "ScrupleError" = some (some (.ref S)) := by
      dsimp only [L2.KOf]
      refine' L6.xb_mk2 KX G ?a ?o ?sg ?sr ?si
      (case a => k_is)
      (case o => k_is)
      (case sg => k_is)
      (case sr => k_is)
      (case si => k_is)
    obtain ⟨S, B, aS⟩ := EB
    have ECC : ∃ C, L6.XC (L2.KOf KX) mg S "NoNumber" "number" "NoNumber.__init__" K31.si_NoNumber C := by
      dsimp only [L2.KOf] at aS ⊢
      refine' L6.xc_mk2 KX G aS ?a0 ?a ?oC ?cga ?cgh ?csa ?ckc ?ckg ?ckt ?ckp ?na ?ai ?iI ?lI ?cI ?kI
      (case a0 => k_is)
      (case a => k_is)
      (case oC => k_is)
      (case cga => k_is)
      (case cgh => k_is)
      (case csa => k_is)
      (case ckc => k_is)
      (case ckg => k_is)
      (case ckt => k_is)
      (case ckp => k_is)
      (case na => k_is)
      (case ai => k_is)
      (case iI => k_is)
      (case lI => k_is)
      (case cI => k_is)
      (case kI => k_is)
    obtain ⟨C, NC⟩ := ECC
    refine' K31.fin hmg B NC ?t0 ?t1 ?t2 ?t3 ?t4 ?t5 ?t6 ?t7 ?t8 ?t9 ?t10 ?t11 ?t12 ?t13 ?t14 ?t15 ?t16 ?t17 ?t18 ?t19 ?t20 ?t21 ?t22 ?t23 ?t24 ?t25 ?t26 ?t27 ?t28 ?t29 ?t30 ?t31 ?t32 ?d0 ?e0 ?z0 ?z1 ?z2 ?z3 ?z4 ?z5 ?z6 ?z7 ?z8 ?z9 ?z10 ?z11 ?z12 ?wa0
    case t0 =>
      refine' L6.th_mk KX G ?a ?l ?c ?k
      (case a => k_is)
      (case l => k_is)
      (case c => k_is)
      (case k => k_is)
    case t1 =>
      refine' L6.th_mk KX G ?a ?l ?c ?k
      (case a => k_is)
      (case l => k_is)
      (case c => k_is)
      (case k => k_is)
    case t2 =>
      refine' L6.th_mk KX G ?a ?l ?c ?k
      (case a => k_is)
      (case l => k_is)
      (case c => k_is)
      (case k => k_is)
    case t3 =>
      refine' L6.th_mk KX G ?a ?l ?c ?k
      (case a => k_is)
      (case l => k_is)
      (case c => k_is)
      (case k => k_is)
    case t4 =>
      refine' L6.th_mk KX G ?a ?l ?c ?k
      (case a => k_is)
      (case l => k_is)
      (case c => k_is)
      (case k => k_is)
    case t5 =>
      refine' L6.th_mk KX G ?a ?l ?c ?k
      (case a => k_is)
      (case l => k_is)
      (case c => k_is)
      (case k => k_is)
    case t6 =>
      refine' L6.th_mk KX G ?a ?l ?c ?k
      (case a => k_is)
      (case l => k_is)
      (case c => k_is)
      (case k => k_is)
    case t7 =>
      refine' L6.th_mk KX G ?a ?l ?c ?k
      (case a => k_is)
      (case l => k_is)
      (case c => k_is)
      (case k => k_is)
    case t8 =>
      refine' L6.th_mk KX G ?a ?l ?c ?k
      (case a => k_is)
      (case l => k_is)
      (case c => k_is)
      (case k => k_is)
    case t9 =>
      refine' L6.th_mk KX G ?a ?l ?c ?k
      (case a => k_is)
      (case l => k_is)
      (case c => k_is)
      (case k => k_is)
    case t10 =>
      refine' L6.th_mk KX G ?a ?l ?c ?k
      (case a => k_is)
      (case l => k_is)
      (case c => k_is)
      (case k => k_is)
    case t11 =>
      refine' L6.th_mk KX G ?a ?l ?c ?k
      (case a => k_is)
      (case l => k_is)
      (case c => k_is)
      (case k => k_is)
    case t12 =>
      refine' L6.th_mk KX G ?a ?l ?c ?k
      (case a => k_is)
      (case l => k_is)
      (case c => k_is)
      (case k => k_is)
    case t13 =>
      refine' L6.th_mk KX G ?a ?l ?c ?k
      (case a => k_is)
      (case l => k_is)
      (case c => k_is)
      (case k => k_is)
    case t14 =>
      refine' L6.th_mk KX G ?a ?l ?c ?k
      (case a => k_is)
      (case l => k_is)
      (case c => k_is)
      (case k => k_is)
    case t15 =>
      refine' L6.th_mk KX G ?a ?l ?c ?k
      (case a => k_is)
      (case l => k_is)
      (case c => k_is)
      (case k => k_is)
    case t16 =>
      refine' L6.th_mk KX G ?a ?l ?c ?k
      (case a => k_is)
      (case l => k_is)
      (case c => k_is)
      (case k => k_is)
    case t17 =>
      refine' L6.th_mk KX G ?a ?l ?c ?k
      (case a => k_is)
      (case l => k_is)
      (case c => k_is)
      (case k => k_is)
    case t18 =>
      refine' L6.th_mk KX G ?a ?l ?c ?k
      (case a => k_is)
      (case l => k_is)
      (case c => k_is)
      (case k => k_is)
    case t19 =>
      refine' L6.th_mk KX G ?a ?l ?c ?k
      (case a => k_is)
      (case l => k_is)
      (case c => k_is)
      (case k => k_is)
    case t20 =>
      refine' L6.th_mk KX G ?a ?l ?c ?k
      (case a => k_is)
      (case l => k_is)
      (case c => k_is)
      (case k => k_is)
    case t21 =>
      refine' L6.th_mk KX G ?a ?l ?c ?k
      (case a => k_is)
      (case l => k_is)
      (case c => k_is)
      (case k => k_is)
    case t22 =>
      refine' L6.th_mk KX G ?a ?l ?c ?k
      (case a => k_is)
      (case l => k_is)
      (case c => k_is)
      (case k => k_is)
    case t23 =>
      refine' L6.th_mk KX G ?a ?l ?c ?k
      (case a => k_is)
      (case l => k_is)
      (case c => k_is)
      (case k => k_is)
    case t24 =>
      refine' L6.th_mk KX G ?a ?l ?c ?k
      (case a => k_is)
      (case l => k_is)
      (case c => k_is)
      (case k => k_is)
    case t25 =>
      refine' L6.th_mk KX G ?a ?l ?c ?k
      (case a => k_is)
      (case l => k_is)
      (case c => k_is)
      (case k => k_is)
    case t26 =>
      refine' L6.th_mk KX G ?a ?l ?c ?k
      (case a => k_is)
      (case l => k_is)
      (case c => k_is)
      (case k => k_is)
    case t27 =>
      refine' L6.th_mk KX G ?a ?l ?c ?k
      (case a => k_is)
      (case l => k_is)
      (case c => k_is)
      (case k => k_is)
    case t28 =>
      refine' L6.th_mk KX G ?a ?l ?c ?k
      (case a => k_is)
      (case l => k_is)
      (case c => k_is)
      (case k => k_is)
    case t29 =>
      refine' L6.th_mk KX G ?a ?l ?c ?k
      (case a => k_is)
      (case l => k_is)
      (case c => k_is)
      (case k => k_is)
    case t30 =>
      refine' L6.th_mk KX G ?a ?l ?c ?k
      (case a => k_is)
      (case l => k_is)
      (case c => k_is)
      (case k => k_is)
    case t31 =>
      refine' L6.th_mk KX G ?a ?l ?c ?k
      (case a => k_is)
      (case l => k_is)
      (case c => k_is)
      (case k => k_is)
    case t32 =>
      refine' L6.th_mk KX G ?a ?l ?c ?k
      (case a => k_is)
      (case l => k_is)
      (case c => k_is)
      (case k => k_is)
    case d0 =>
      refine' L6.thD_mk KX G ?a ?l ?c ?k ?hTd ?oT ?dT ?b2 ?b1
      (case a => k_is)
      (case l => k_is)
      (case c => k_is)
      (case k => k_is)
      (case hTd => first | k_is | rfl)
      (case oT => k_is)
      (case dT => first | k_is | rfl)
      (case b2 => exact fun s u v Xs => PySem.W.binds_K Xs (by first | k_is | rfl) (by k_is) (by first | k_is | rfl) rfl rfl)
      (case b1 => exact fun s u Xs => PySem.W.binds_K Xs (by first | k_is | rfl) (by k_is) (by first | k_is | rfl) rfl rfl)
    case e0 =>
      refine' L44.thE_mk5 KX G ?a ?l ?c ?k ?b5
      (case a => k_is)
      (case l => k_is)
      (case c => k_is)
      (case k => k_is)
      (case b5 => exact fun s u1 u2 u3 u4 u5 Xs => PySem.W.binds_K Xs (by first | k_is | rfl) (by k_is) (by first | k_is | rfl) rfl rfl)
    case z0 => exact PySem.W.mg_none_of KX G (by k_is)
    case z1 => exact PySem.W.mg_none_of KX G (by k_is)
    case z2 => exact PySem.W.mg_none_of KX G (by k_is)
    case z3 => exact PySem.W.mg_none_of KX G (by k_is)
    case z4 => exact PySem.W.mg_none_of KX G (by k_is)
    case z5 => exact PySem.W.mg_none_of KX G (by k_is)
    case z6 => exact PySem.W.mg_none_of KX G (by k_is)
    case z7 => exact PySem.W.mg_none_of KX G (by k_is)
    case z8 => exact PySem.W.mg_none_of KX G (by k_is)
    case z9 => exact PySem.W.mg_none_of KX G (by k_is)
    case z10 => exact PySem.W.mg_none_of KX G (by k_is)
    case z11 => exact PySem.W.mg_none_of KX G (by k_is)
    case z12 => exact PySem.W.mg_none_of KX G (by k_is)
    case wa0 =>
      refine' K31.groom_mk KX G ?a ?l ?c ?d ?z ?v ?l1 ?c1 ?d1 ?z1 ?v1 ?l2 ?c2 ?d2 ?z2 ?v2
      (case a => k_is)
      (case l => k_is)
      (case c => rfl)
      (case d => rfl)
      (case z => decide)
      (case v => exact .cons rfl (.cons rfl .nil))
      (case l1 => k_is)
      (case c1 => rfl)
      (case d1 => rfl)
      (case z1 => decide)
      (case v1 => exact (.cons ⟨_, rfl⟩ (.cons ⟨_, rfl⟩ .nil)))
      (case l2 => k_is)
      (case c2 => rfl)
      (case d2 => rfl)
      (case z2 => decide)
      (case v2 => exact (.cons ⟨_, rfl⟩ (.cons ⟨_, rfl⟩ .nil)))


