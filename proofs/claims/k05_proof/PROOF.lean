import PyProof.Rows.All
import Wide.All
import OpenK.AllK
import Wide.FinOn
import Lean
import PyProof.EqAt
import PyProof.NeKinds
import PyProof.EqKinds
import PyProof.TupleCall
import PyProof.SumWalkG
import PyProof.FString
import PyProof.ZipIter
import PyProof.TupleIter
import KE.KDictOf
import KE.KDictList
import PyProof.SetKind
import PyProof.Rows.SetFrom
import PyProof.CollectWalk
import KE.KItemsList
import KE.KRevIter
import KE.KSortTup
import KE.KFind
import PyProof.DictIter
import PyProof.DictWalks
import PyProof.AttrMissHeap
import PyProof.Rows.SortWalk
import PyProof.StationsW
import PyProof.RulesAs
import PyProof.ExcArgs
import PyProof.ExcClass
import PyProof.ExcBaseAll.ValueError
import PySem.Challenge.RW_scruplehouse_k05_amounts_read
-- CHANGE: your row's module here, as the last of these rows
set_option Elab.async false
set_option linter.all false
set_option maxRecDepth 100000
/-! THE HAND LAYER, for ints, bools, texts, own classes, LISTS and tuples (index, slices, in, append, pop ..), calls, loops. Paste it whole ahead of your own text; what your proof does not reach may be deleted. -/
namespace L2
open PySem PySem.Spec PyProof.Rows

/-- a key: an int or a str -/
abbrev Key := Sum Int Str
def keyIs : Key → Value → Bool
  | .inl k, v => Value.isInt k v
  | .inr x, v => Value.isStrOf x v
def keyH (w : World) : Key → Int
  | .inl k => hashInt k
  | .inr x => hashStr w x
theorem keyIs_shape : ∀ {k : Key} {v : Value}, keyIs k v = true → (∃ i t, k = Sum.inl i ∧ v = Value.int i t) ∨ (∃ x t, k = Sum.inr x ∧ v = Value.str x t)
  | .inl i, v, h => by
    obtain ⟨t, e⟩ := Value.isInt_shape (k := i) (v := v) h
    exact .inl ⟨i, t, rfl, e⟩
  | .inr x, v, h => by
    obtain ⟨t, e⟩ := Value.isStrOf_shape (x := x) (v := v) h
    exact .inr ⟨x, t, rfl, e⟩
theorem keyIs_int (i : Int) (t : Tok) : keyIs (.inl i) (.int i t) = true := by simp [keyIs, Value.isInt]
theorem keyIs_str (x : Str) (t : Tok) : keyIs (.inr x) (.str x t) = true := by simp [keyIs, Value.isStrOf]
theorem key_ll (a b : Int) : decide ((Sum.inl a : Key) = Sum.inl b) = (a == b) := by
  by_cases e : a = b
  · subst e; simp
  · have h : ¬ (Sum.inl a : Key) = Sum.inl b := fun q => e (Sum.inl.inj q)
    rw [decide_eq_false h]
    exact (beq_eq_false_iff_ne.mpr e).symm
theorem key_rr (a b : Str) : decide ((Sum.inr a : Key) = Sum.inr b) = decide (a = b) := by
  by_cases e : a = b
  · subst e; simp
  · have h : ¬ (Sum.inr a : Key) = Sum.inr b := fun q => e (Sum.inr.inj q)
    rw [decide_eq_false h, decide_eq_false e]
theorem key_lr (a : Int) (b : Str) : decide ((Sum.inl a : Key) = Sum.inr b) = false := decide_eq_false (fun q => nomatch q)
theorem key_rl (a : Str) (b : Int) : decide ((Sum.inr a : Key) = Sum.inl b) = false := decide_eq_false (fun q => nomatch q)

def mixKind (prog : Program) (w : World) : PySem.KeyKind prog w Key where
  is := keyIs
  hash := keyH w
  inj := fun v a b ha hb => by
    rcases keyIs_shape ha with ⟨i, t, rfl, rfl⟩ | ⟨x, t, rfl, rfl⟩
    · rcases keyIs_shape hb with ⟨j, u, rfl, e⟩ | ⟨y, u, rfl, e⟩
      · injection e with e1 _; rw [e1]
      · exact nomatch e
    · rcases keyIs_shape hb with ⟨j, u, rfl, e⟩ | ⟨y, u, rfl, e⟩
      · exact nomatch e
      · injection e with e1 _; rw [e1]
  byValue := fun k v h => by
    rcases keyIs_shape h with ⟨i, t, rfl, rfl⟩ | ⟨x, t, rfl, rfl⟩ <;> rfl
  pyHash := fun hv h => by
    rcases keyIs_shape hv with ⟨i, t, rfl, rfl⟩ | ⟨x, t, rfl, rfl⟩
    · exact wpAny_pyHash_int h
    · exact wpAny_pyHash_str h
  eqBool := fun hu hv h => by
    rcases keyIs_shape hu with ⟨i, t, rfl, rfl⟩ | ⟨x, t, rfl, rfl⟩
    · rcases keyIs_shape hv with ⟨j, u, rfl, rfl⟩ | ⟨y, u, rfl, rfl⟩
      · rw [key_ll] at h; exact wpAny_eqBool_int h
      · rw [key_lr] at h; exact SeqAt.EqAt.int_str i t y u _ _ _ _ h
    · rcases keyIs_shape hv with ⟨j, u, rfl, rfl⟩ | ⟨y, u, rfl, rfl⟩
      · rw [key_rl] at h; exact SeqAt.EqAt.str_int x t j u _ _ _ _ h
      · rw [key_rr] at h; exact wpAny_eqBool_str h
  «strs» := fun k x t v h => by
    rcases keyIs_shape h with ⟨i, u, rfl, e⟩ | ⟨y, u, rfl, e⟩
    · exact nomatch e
    · injection e with e1 _
      subst e1
      cases v <;> rfl

theorem mixKind_int (prog : Program) (w : World) (i : Int) (t : Tok) : (mixKind prog w).is (.inl i) (.int i t) = true := keyIs_int i t
theorem mixKind_str (prog : Program) (w : World) (x : Str) (t : Tok) : (mixKind prog w).is (.inr x) (.str x t) = true := keyIs_str x t
end L2

namespace L2
open PySem PySem.Spec PyProof.Rows

/-- a value, without the heap -/
inductive V where
  | non | bl (b : Bool) | int (i : Int) | str (x : Str) | byt (b : Array UInt8) | flt (b : UInt64) | ref (a : Addr) | ty (n : String)
  deriving DecidableEq

def RelV : V → Value → Prop
  | .non, u => u = Value.none
  | .bl b, u => u = Value.bool b
  | .int i, u => ∃ t, u = Value.int i t
  | .str x, u => ∃ t, u = Value.str x t
  | .byt b, u => ∃ t, u = Value.bytes b t
  | .flt b, u => ∃ t, u = Value.float b t
  | .ref a, u => u = Value.ref a
  | .ty n, u => u = Value.type n

abbrev Vals : List V → List Value → Prop := Paired RelV
theorem Vals.length {xs : List V} {us : List Value} (r : Vals xs us) : xs.length = us.length := Paired.length r
theorem Vals.get : ∀ {xs : List V} {us : List Value} {i : Nat} {x : V}, Vals xs us → xs[i]? = some x → ∃ u, us[i]? = some u ∧ RelV x u
  | _, _, _, _, .nil, e => by simp at e
  | _, _, 0, _, .cons r _, e => by simp at e; subst e; exact ⟨_, rfl, r⟩
  | _, _, i + 1, x, .cons _ t, e => by
    obtain ⟨u, h1, h2⟩ := Vals.get (i := i) (x := x) t (by simpa using e)
    exact ⟨u, by simpa using h1, h2⟩
theorem Vals.set {x : V} {u : Value} (r : RelV x u) : ∀ {xs : List V} {us : List Value} (i : Nat), Vals xs us → Vals (xs.set i x) (us.set i u)
  | _, _, _, .nil => .nil
  | _, _, 0, .cons _ t => .cons r t
  | _, _, i + 1, .cons q t => .cons q (Vals.set r i t)
theorem Vals.append : ∀ {xs ys : List V} {us ws : List Value}, Vals xs us → Vals ys ws → Vals (xs ++ ys) (us ++ ws)
  | _, _, _, _, .nil, s => s
  | _, _, _, _, .cons r t, s => .cons r (Vals.append t s)
theorem Vals.take : ∀ {xs : List V} {us : List Value} (n : Nat), Vals xs us → Vals (xs.take n) (us.take n)
  | _, _, 0, _ => .nil
  | _, _, _ + 1, .nil => .nil
  | _, _, n + 1, .cons r t => .cons r (Vals.take n t)
theorem Vals.drop : ∀ {xs : List V} {us : List Value} (n : Nat), Vals xs us → Vals (xs.drop n) (us.drop n)
  | _, _, 0, r => r
  | _, _, _ + 1, .nil => .nil
  | _, _, n + 1, .cons _ t => Vals.drop n t
theorem Vals.none_of : ∀ {xs : List V} {us : List Value} {i : Nat}, Vals xs us → xs[i]? = none → us[i]? = none := fun {xs us i} r e => by
  have h1 := r.length
  have h2 : xs.length ≤ i := List.getElem?_eq_none_iff.mp e
  exact List.getElem?_eq_none_iff.mpr (by omega)

def RelO : Option V → Option Value → Prop
  | some v, some u => RelV v u
  | none, none => True
  | _, _ => False
def KV {κ : Type} : List (κ × V) → List (κ × Value) → Prop := Paired fun (p : κ × V) (q : κ × Value) => p.1 = q.1 ∧ RelV p.2 q.2

/-- a key of a dict (00_mix): an int or a text -/
def kV : Key → V
  | .inl i => .int i
  | .inr x => .str x

/-- what stands at a tracked address -/
inductive HO where
  /-- a list -/
  | lst (xs : List V)
  /-- a tuple (never changes) -/
  | tup (xs : List V)
  /-- a dict whose keys are ints and texts; one whose keys are tuples of ints and texts (the empty one is both) -/
  | dK (kvs : List (Key × V)) | dT (kvs : List (List Key × V))
  /-- a set of ints: its members, its size -/
  | set (S : Int → Bool) (n : Nat)
  /-- an instance of the class at C, its dict at dx, its attributes -/
  | ins (C dx : Addr) (fs : List (Str × V))
  /-- the dict of the instance at x -/
  | own (x : Addr)
  /-- the dict of an exception -/
  | xd (fs : List (Str × V))
  /-- a bound method, f of x -/
  | met (f x : Addr)
  /-- a range object lo, lo + 1, .. below hi -/
  | rng (lo hi : Int)
  /-- a thing that is known to the object (the script; a dict while a loop walks it): read, never written while it is so -/
  | frz (o : Obj) (u : HO)
  /-- a code object's table -/
  | tbl (ps : Array Value)
  /-- any other thing, by what is true of its one object (a def of one's own: SetO a S n := HO.ext fun h => ..) -/
  | ext (φ : Heap → Prop)

abbrev Hp := Addr → Option HO
def upd (H : Hp) (a : Addr) (o : HO) : Hp := fun b => if b = a then some o else H b
theorem upd_same {H : Hp} {a : Addr} {o : HO} : upd H a o a = some o := by unfold upd; rw [if_pos rfl]
theorem upd_ne {H : Hp} {a b : Addr} {o : HO} (h : b ≠ a) : upd H a o b = H b := by unfold upd; rw [if_neg h]
/-- two objects of different content stand apart -/
theorem ne_of {H : Hp} {a b : Addr} {o u : HO} (h : H a = some o) (h' : H b = some u) (d : o ≠ u) : a ≠ b := by
  intro e; subst e; rw [h] at h'; exact d (Option.some.inj h')
theorem ne_of_none {H : Hp} {a b : Addr} {o : HO} (h : H a = some o) (h' : H b = none) : a ≠ b := by
  intro e; subst e; rw [h] at h'; cases h'

section
variable (P : Program) (w : World)
def ObjOk (H : Hp) (h : Heap) (a : Addr) : HO → Prop
  | .lst xs => xs.length ≤ sizeLine ∧ ∃ (its : List Value) (n : Nat), Vals xs its ∧ h.get? a = some { cls := .type "list", data := .seq its.toArray n }
  | .tup xs => xs.length ≤ sizeLine ∧ ∃ its : List Value, Vals xs its ∧ IsTup h a its.toArray
  | .dK kvs => kvs.length ≤ sizeLine ∧ (a == sysModules) = false ∧ ∃ vs, KV kvs vs ∧ h.DictOf (mixKind P w) a vs
  | .dT kvs => kvs.length ≤ sizeLine ∧ (a == sysModules) = false ∧ ∃ xs : List (List Key × Addr × Value),
      Paired (fun (p : List Key × V) (q : List Key × Addr × Value) => p.1 = q.1 ∧ H q.2.1 = some (.tup (p.1.map kV)) ∧ RelV p.2 q.2.2) kvs xs ∧
      ∃ o es ep, h.get? a = some o ∧ o.ExactDict ∧ o.data = .dict es ep ∧ es.toList = xs.map (entryOfKey (tupleKind (mixKind P w))) ∧ (xs.map (·.1)).Nodup
  | .set S n => h.SetOf (intKind P w) a S n
  | .ins C dx fs => H dx = some (.own a) ∧ fs.length ≤ 1000 ∧ dx ≠ a ∧ h.get? a = some (PySem.W.instObj C dx) ∧
      ∃ mA, h.Ns1 dx mA ∧ (∀ f, RelO (fs.lookup f) (mA f)) ∧ PySem.Within mA (fs.map (·.1))
  | .own _ => ∃ o, h.get? a = some o
  | .xd fs => ∃ mA, h.Ns1 a mA ∧ ∀ f, RelO (fs.lookup f) (mA f)
  | .rng lo hi => ∃ t u v, h.get? a = some { cls := .type "range", data := .fields #[.int lo t, .int hi u, .int 1 v] }
  | .frz o u => h.get? a = some o ∧ ObjOk H h a u
  | .tbl ps => h.get? a = some { cls := .none, data := .fields ps }
  | .met f x => h.get? a = some (PySem.W.methodObj (.ref f) (.ref x))
  | .ext φ => φ h ∧ (∃ o, h.get? a = some o) ∧ ∀ h1 h2 : Heap, φ h1 → (∀ o, h1.get? a = some o → h2.get? a = some o) → φ h2
/-- the abstract heap is held -/
def HOk (H : Hp) (h : Heap) : Prop := ∀ a o, H a = some o → ObjOk P w H h a o
end

section
variable {P : Program} {w : World} {H H' : Hp} {h h' : Heap} {a : Addr} {o : HO}
theorem ObjOk.lt (x : ObjOk P w H h a o) : a < h.objs.size := by
  cases o with
  | lst xs => obtain ⟨_, _, _, _, e⟩ := x; exact Heap.lt_size e
  | tup xs => obtain ⟨_, _, _, p⟩ := x; exact p.lt
  | dK kvs => obtain ⟨_, _, _, _, o, _, _, e, _⟩ := x; exact Heap.lt_size e
  | dT kvs => obtain ⟨_, _, _, _, o, _, _, e, _⟩ := x; exact Heap.lt_size e
  | set S n => obtain ⟨o, _, _, _, e, _⟩ := x; exact Heap.lt_size e
  | ins C dx fs => obtain ⟨_, _, _, e, _⟩ := x; exact Heap.lt_size e
  | own y => obtain ⟨_, e⟩ := x; exact Heap.lt_size e
  | xd fs => obtain ⟨_, ⟨_, _, _, e, _⟩, _⟩ := x; exact Heap.lt_size e
  | rng lo hi => obtain ⟨_, _, _, e⟩ := x; exact Heap.lt_size e
  | frz ob u => obtain ⟨e, _⟩ := x; exact Heap.lt_size e
  | tbl ps => exact Heap.lt_size (show h.get? a = some _ from x)
  | met f y => exact Heap.lt_size (show h.get? a = some _ from x)
  | ext φ => obtain ⟨_, ⟨_, e⟩, _⟩ := x; exact Heap.lt_size e
theorem Paired.mapP {α β : Type} {F G : α → β → Prop} : ∀ {l₁ : List α} {l₂ : List β}, Paired F l₁ l₂ → (∀ a b, F a b → G a b) → Paired G l₁ l₂
  | _, _, .nil, _ => .nil
  | _, _, .cons r t, f => .cons (f _ _ r) (Paired.mapP t f)
/-- what an object's description leans on: its own object, its own dict, the tuples -/
theorem ObjOk.stay (x : ObjOk P w H h a o) (k : ∀ b u, (b = a ∨ H b = some (.own a)) → h.get? b = some u → h'.get? b = some u)
    (ho : ∀ b, H b = some (.own a) → H' b = some (.own a)) (ht : ∀ b xs, H b = some (.tup xs) → H' b = some (.tup xs)) : ObjOk P w H' h' a o := by
  induction o with
  | lst xs => obtain ⟨z, its, n, r, e⟩ := x; exact ⟨z, its, n, r, k _ _ (.inl rfl) e⟩
  | tup xs => obtain ⟨z, its, r, ob, e, c⟩ := x; exact ⟨z, its, r, ob, k _ _ (.inl rfl) e, c⟩
  | dK kvs => obtain ⟨z, y, vs, r, ob, es, ep, e, c⟩ := x; exact ⟨z, y, vs, r, ob, es, ep, k _ _ (.inl rfl) e, c⟩
  | dT kvs =>
    obtain ⟨z, y, xs, r, ob, es, ep, e, c⟩ := x
    exact ⟨z, y, xs, Paired.mapP r fun p q z => ⟨z.1, ht _ _ z.2.1, z.2.2⟩, ob, es, ep, k _ _ (.inl rfl) e, c⟩
  | set S n => obtain ⟨ob, es, ep, t, e, c⟩ := x; exact ⟨ob, es, ep, t, k _ _ (.inl rfl) e, c⟩
  | ins C dx fs =>
    obtain ⟨d, z, ne, e, mA, ⟨od, es, ep, e2, c⟩, r⟩ := x
    exact ⟨ho _ d, z, ne, k _ _ (.inl rfl) e, mA, ⟨od, es, ep, k _ _ (.inr d) e2, c⟩, r⟩
  | own y => obtain ⟨ob, e⟩ := x; exact ⟨ob, k _ _ (.inl rfl) e⟩
  | xd fs => obtain ⟨mA, ⟨od, es, ep, e, c⟩, r⟩ := x; exact ⟨mA, ⟨od, es, ep, k _ _ (.inl rfl) e, c⟩, r⟩
  | rng lo hi => obtain ⟨t, u, v, e⟩ := x; exact ⟨t, u, v, k _ _ (.inl rfl) e⟩
  | frz ob u ih => obtain ⟨e, q⟩ := x; exact ⟨k _ _ (.inl rfl) e, ih q⟩
  | tbl ps =>
    have e : h.get? a = some { cls := .none, data := .fields ps } := x
    show h'.get? a = some { cls := .none, data := .fields ps }
    exact k a _ (.inl rfl) e
  | met f y =>
    have e : h.get? a = some (PySem.W.methodObj (.ref f) (.ref y)) := x
    show h'.get? a = some (PySem.W.methodObj (.ref f) (.ref y))
    exact k a _ (.inl rfl) e
  | ext φ => obtain ⟨p, ⟨o, e⟩, st⟩ := x; exact ⟨st _ _ p fun o q => k _ _ (.inl rfl) q, ⟨o, k _ _ (.inl rfl) e⟩, st⟩
theorem HOk.lt (x : HOk P w H h) (e : H a = some o) : a < h.objs.size := (x a o e).lt
theorem HOk.fresh (x : HOk P w H h) (e : h.objs.size ≤ a) : H a = none := by
  cases q : H a with
  | none => rfl
  | some u => exact absurd (Nat.lt_of_lt_of_le (x.lt q) e) (Nat.lt_irrefl _)
/-- every object of the heap is kept -/
theorem HOk.kept (x : HOk P w H h) (k : ∀ b u, h.get? b = some u → h'.get? b = some u) : HOk P w H h' := fun a o e =>
  (x a o e).stay (fun b u _ q => k b u q) (fun _ q => q) fun _ _ q => q
/-- a new object is laid and tracked -/
theorem HOk.laid (x : HOk P w H h) (k : ∀ b u, h.get? b = some u → h'.get? b = some u) (hp : h.objs.size ≤ a) (new : ObjOk P w (upd H a o) h' a o) : HOk P w (upd H a o) h' := fun b u e => by
  have hn := x.fresh hp
  by_cases hb : b = a
  · subst hb; rw [upd_same] at e; cases e; exact new
  · rw [upd_ne hb] at e
    exact (x b u e).stay (fun c v _ q => k c v q) (fun c q => by rw [upd_ne (ne_of_none q hn)]; exact q) fun c xs q => by rw [upd_ne (ne_of_none q hn)]; exact q
end

/-- what may be read as u: it is u, or a known u -/
def Rd (H : Hp) (a : Addr) (u : HO) : Prop := H a = some u ∨ ∃ o, H a = some (.frz o u)
theorem Rd.of {H : Hp} {a : Addr} {u : HO} (h : H a = some u) : Rd H a u := .inl h
theorem Rd.ok {P : Program} {w : World} {H : Hp} {h : Heap} {a : Addr} {u : HO} (r : Rd H a u) (x : HOk P w H h) : ObjOk P w H h a u := by
  rcases r with r | ⟨o, r⟩
  · exact x a u r
  · obtain ⟨_, q⟩ := x a _ r
    exact q
/-- what may be written -/
def Mut : Option HO → Prop
  | some (.lst _) => True
  | some (.dK _) => True
  | some (.dT _) => True
  | some (.set _ _) => True
  | some (.ins _ _ _) => True
  | some (.ext _) => True
  | _ => False
section
variable {P : Program} {w : World} {H : Hp} {h h' : Heap} {x e : Addr} {o' : HO}
/-- the object at e is changed: x itself, or the dict of the instance x -/
theorem HOk.write (ok : HOk P w H h) (mu : Mut (H x)) (he : e = x ∨ H e = some (.own x)) (k : ∀ b u, b ≠ e → h.get? b = some u → h'.get? b = some u) (heo : ∃ u, h'.get? e = some u)
    (new : ObjOk P w (upd H x o') h' x o') : HOk P w (upd H x o') h' := fun b u q => by
  have nown : ∀ c y, H c = some (.own y) → c ≠ x := fun c y r z => by subst z; rw [r] at mu; exact mu
  have ntup : ∀ c xs, H c = some (.tup xs) → c ≠ x := fun c xs r z => by subst z; rw [r] at mu; exact mu
  by_cases hb : b = x
  · subst hb; rw [upd_same] at q; cases q; exact new
  · rw [upd_ne hb] at q
    by_cases hbe : b = e
    · have q' : H b = some (.own x) := by
        rcases he with z | z
        · exact absurd (hbe.trans z) hb
        · rw [hbe]; exact z
      rw [q] at q'; cases q'
      obtain ⟨v, hv⟩ := heo
      exact ⟨v, by rw [hbe]; exact hv⟩
    · refine (ok b u q).stay (fun c v hc r => k c v ?_ r) (fun c r => by rw [upd_ne (nown c b r)]; exact r) fun c xs r => by rw [upd_ne (ntup c xs r)]; exact r
      rcases hc with rfl | hc
      · exact hbe
      · rintro rfl
        rcases he with z | z
        · exact nown c b hc z
        · rw [hc] at z; cases z; exact hb rfl
end

/-! ### kept unless tracked; of the frames at fs (the callers') the slots may change (an exception that passes writes there); of the records at ex (iterators) nothing is said -/
structure Un (fs ex : List Addr) (H H' : Hp) (h h' : Heap) : Prop where
  keep : ∀ b o, h.get? b = some o → H b = none → b ∉ fs → b ∉ ex → h'.get? b = some o
  slot : ∀ b o, h.get? b = some o → H b = none → b ∈ fs → b ∉ ex → ∃ sl, h'.get? b = some { o with slots := sl }
  free : ∀ b o, h.get? b = some o → H b = none → b ∉ ex → H' b = none
  there : ∀ b o, h.get? b = some o → b ∉ ex → ∃ o', h'.get? b = some o'
  tups : ∀ b xs, H b = some (.tup xs) → H' b = some (.tup xs)
  frzs : ∀ b o u, H b = some (.frz o u) → H' b = some (.frz o u)
  tbls : ∀ b ps, H b = some (.tbl ps) → ∃ more, H' b = some (.tbl (ps ++ more))
section
variable {fs fs' ex ex' : List Addr} {H H1 H2 : Hp} {h h1 h2 h' : Heap} {a x e : Addr} {o : HO}
theorem Un.any (u : Un fs ex H H1 h h1) {b : Addr} {ob : Obj} (q : h.get? b = some ob) (n : H b = none) (hx : b ∉ ex) : ∃ sl, h1.get? b = some { ob with slots := sl } := by
  by_cases hb : b ∈ fs
  · exact u.slot b ob q n hb hx
  · exact ⟨ob.slots, u.keep b ob q n hb hx⟩
theorem Un.trans (a : Un fs ex H H1 h h1) (b : Un fs ex H1 H2 h1 h2) : Un fs ex H H2 h h2 where
  keep := fun c ob q n hc hx => b.keep c ob (a.keep c ob q n hc hx) (a.free c ob q n hx) hc hx
  slot := fun c ob q n hc hx => by
    obtain ⟨sl, e1⟩ := a.slot c ob q n hc hx
    obtain ⟨sl', e2⟩ := b.slot c _ e1 (a.free c ob q n hx) hc hx
    exact ⟨sl', e2⟩
  free := fun c ob q n hx => by
    obtain ⟨o', e1⟩ := a.there c ob q hx
    exact b.free c o' e1 (a.free c ob q n hx) hx
  there := fun c ob q hx => by
    obtain ⟨o', e1⟩ := a.there c ob q hx
    exact b.there c o' e1 hx
  tups := fun c xs q => b.tups c xs (a.tups c xs q)
  frzs := fun c ob xs q => b.frzs c ob xs (a.frzs c ob xs q)
  tbls := fun c ps q => by
    obtain ⟨m1, e1⟩ := a.tbls c ps q
    obtain ⟨m2, e2⟩ := b.tbls c _ e1
    exact ⟨m1 ++ m2, by rw [e2, Array.append_assoc]⟩
theorem Un.kept (k : ∀ b u, h.get? b = some u → h'.get? b = some u) : Un fs ex H H h h' :=
  ⟨fun b ob q _ _ _ => k b ob q, fun b ob q _ _ _ => ⟨ob.slots, k b ob q⟩, fun _ _ _ n _ => n, fun b ob q _ => ⟨ob, k b ob q⟩, fun _ _ q => q, fun _ _ _ q => q, fun _ ps q => ⟨#[], by rw [q]; simp⟩⟩
theorem Un.refl : Un fs ex H H h h := Un.kept fun _ _ q => q
theorem Un.laid (k : ∀ b u, h.get? b = some u → h'.get? b = some u) (hp : h.objs.size ≤ a) (hn : H a = none) : Un fs ex H (upd H a o) h h' where
  keep := fun b u q _ _ _ => k b u q
  slot := fun b u q _ _ _ => ⟨u.slots, k b u q⟩
  free := fun b u q n _ => by rw [upd_ne (Nat.ne_of_lt (Nat.lt_of_lt_of_le (Heap.lt_size q) hp))]; exact n
  there := fun b u q _ => ⟨u, k b u q⟩
  tups := fun b xs q => by rw [upd_ne (ne_of_none q hn)]; exact q
  frzs := fun b u xs q => by rw [upd_ne (ne_of_none q hn)]; exact q
  tbls := fun b ps q => ⟨#[], by rw [upd_ne (ne_of_none q hn), q]; simp⟩
theorem Un.write (mu : Mut (H x)) (he : e = x ∨ H e = some (.own x)) (k : ∀ b u, b ≠ e → h.get? b = some u → h'.get? b = some u) (heo : ∃ u, h'.get? e = some u) : Un fs ex H (upd H x o) h h' := by
  have hx : ∀ b, H b = none → b ≠ x := fun b n z => by subst z; rw [n] at mu; exact mu
  have hb : ∀ b, H b = none → b ≠ e := fun b n z => by
    subst z
    rcases he with r | r
    · exact hx b n r
    · rw [n] at r; cases r
  have hm : ∀ b u, H b = some u → ¬ Mut (some u) → b ≠ x := fun b u q nm z => by subst z; rw [q] at mu; exact nm mu
  refine ⟨fun b u q n _ _ => k b u (hb b n) q, fun b u q n _ _ => ⟨u.slots, k b u (hb b n) q⟩, fun b u q n _ => by rw [upd_ne (hx b n)]; exact n, fun b u q _ => ?_,
    fun b xs q => by rw [upd_ne (hm b _ q fun z => z)]; exact q, fun b u xs q => by rw [upd_ne (hm b _ q fun z => z)]; exact q, fun b ps q => ⟨#[], by rw [upd_ne (hm b _ q fun z => z), q]; simp⟩⟩
  by_cases hbe : b = e
  · subst hbe; exact heo
  · exact ⟨u, k b u hbe q⟩
theorem Un.mono (u : Un fs ex H H1 h h1) (hs : ∀ b ∈ fs, b ∈ fs') (hx : ∀ b ∈ ex, b ∈ ex') : Un fs' ex' H H1 h h1 :=
  ⟨fun b ob q n hb he => u.keep b ob q n (fun z => hb (hs b z)) fun z => he (hx b z), fun _ _ q n _ he => u.any q n fun z => he (hx _ z), fun b ob q n he => u.free b ob q n fun z => he (hx b z), fun b ob q he => u.there b ob q fun z => he (hx b z), u.tups, u.frzs, u.tbls⟩
end

/-! ### the heap without what is tracked -/
def trk (h : Heap) (H : Hp) : List Addr := (List.range h.objs.size).filter fun a => (H a).isSome
def hidT (h : Heap) (H : Hp) : Heap := PySem.W.hideAll h (trk h H)
theorem hidT_size (h : Heap) (H : Hp) : (hidT h H).objs.size = h.objs.size := PySem.W.hideAll_size _ _
theorem hidT_get {h : Heap} {H : Hp} {b : Addr} {o : Obj} (e : h.get? b = some o) (n : H b = none) : (hidT h H).get? b = some o :=
  PySem.W.hideAll_get _ e fun hm => by
    have q : (H b).isSome = true := (List.mem_filter.mp hm).2
    rw [n] at q; simp at q
theorem of_hidT {h : Heap} {H : Hp} {b : Addr} {o : Obj} (e : (hidT h H).get? b = some o) : h.get? b = some o ∧ H b = none := by
  have e' : h.get? b = some o := PySem.W.of_hideAll (trk h H) e
  refine ⟨e', ?_⟩
  cases q : H b with
  | none => rfl
  | some x =>
    have hm : b ∈ trk h H := List.mem_filter.mpr ⟨List.mem_range.mpr (Heap.lt_size e'), by simp [q]⟩
    have z : (hidT h H).get? b = none := PySem.W.hideAll_none (trk h H) hm
    rw [z] at e; cases e

/-! ### OpenK's ledger, filled with every new object but one -/
def allNews (g h : Heap) (L : Addr) : List (Addr × Obj) := (List.range h.objs.size).filterMap fun a => if a = L ∨ (g.get? a).isSome = true then none else (h.get? a).map fun o => (a, o)
def rest (g h : Heap) (L d : Addr) : List (Addr × Obj) := (allNews g h L).filter fun p => decide (p.1 ≠ d)
end L2

namespace L2
open PySem PySem.Spec PyProof.Rows

/-- the module's facts, over the base: the heap at the law's entry without what is tracked there -/
structure Mod (K : PySem.W.Frag) (mg : Str → Option Value) (base : Heap) : Prop where
  kin : K.In base
  glob : base.Ns mainGlobals mg
  blt : ∃ mb, base.Ns builtinsNs mb ∧ ∀ x : Str, x ≠ "__name__" → mb x = bootBuiltins x
  nolimit : base.NoLimit

/-- the context: a def's body (or a comprehension's block) running. base: fixed through the whole law; s₀, H₀: the entry; outer: the frames whose slots others may change (a def's callers); stack: all frames that run;
   ex: iterators that were made ahead of the entry and are walked here (a comprehension's); fn: the names whose cells were made at the entry (a def: all; a comprehension's block: its own); calm: not within an except suite; pn: pins that every state bears; xe: what is wanted of an exception that leaves the code -/
structure Cx where
  prog : Program
  w : World
  K : PySem.W.Frag
  mg : Str → Option Value
  base : Heap
  A : Around
  N : List Str
  s₀ : Shared
  H₀ : Hp
  env : Env
  outer : List Env
  stack : List Env
  ex : List Addr
  fn : Str → Bool
  calm : Bool
  pn : List (Addr × Obj)
  xe : Value → Shared → Prop
/-- the callers' frames -/
def frs (l : List Env) : List Addr := l.filterMap (·.frame)
abbrev Cx.fs (X : Cx) : List Addr := frs X.outer

def Vis (sc : Scope) (x : Str) : Prop := sc.names.lookup x = some .local ∨ sc.names.lookup x = some .cell ∨ sc.names.lookup x = some .free
def Loc (sc : Scope) (x : Str) : Prop := sc.names.lookup x = some .local ∨ sc.names.lookup x = some .cell
def Look (env : Env) (h : Heap) (m : Str → Option Value) (x : Str) (u : Value) : Prop :=
  (env.kindOf x = some .local ∧ m x = some u) ∨ ((env.kindOf x = some .cell ∨ env.kindOf x = some .free) ∧ ∃ c, env.cells.lookup x = some c ∧ h.IsCell c (some u))

structure Cx.Ok (X : Cx) : Prop where
  mod : Mod X.K X.mg X.base
  kind : X.env.scope.kind = .function
  glob : X.env.globals = mainGlobals
  blt : X.env.builtins = builtinsNs
  above : X.s₀.heap.objs.size ≤ X.env.locals
  inj : ∀ x y c, X.env.cells.lookup x = some c → X.env.cells.lookup y = some c → x = y
  has : ∀ x, (X.env.kindOf x = some .cell ∨ X.env.kindOf x = some .free) → ∃ c, X.env.cells.lookup x = some c
  cab : ∀ x c, X.fn x = true → X.env.cells.lookup x = some c → X.s₀.heap.objs.size ≤ c
  hd : X.calm = true → X.A.handled = none
  frames : X.A.frames = some X.stack
  stk : X.stack = X.outer ∨ (X.stack = X.env :: X.outer ∧ X.env.frame = some X.env.locals)
  exf : ∀ b ∈ X.ex, b ≠ X.env.locals ∧ ∀ x c, X.env.cells.lookup x = some c → c ≠ b
  bs : ∀ b o, X.base.get? b = some o → X.s₀.heap.get? b = some o ∧ X.H₀ b = none
  bsz : X.base.objs.size ≤ X.s₀.heap.objs.size
  noex : ∀ b o, X.base.get? b = some o → b ∉ X.ex
  exfs : ∀ b ∈ X.ex, b ∉ X.fs
  funs : X.s₀.heap.FunFrames X.base X.outer
  frf : ∀ b ∈ X.fs, X.H₀ b = none

structure Inv (X : Cx) (pins : List (Addr × Obj)) (σ : List (Option V)) (H : Hp) (s : Shared) : Prop where
  ok : X.Ok
  os : s.os = X.s₀.os
  bare : AllBare s.gens
  base : Un X.fs X.ex X.H₀ H X.s₀.heap s.heap
  loc : ∃ m, s.heap.Ns X.env.locals m ∧ ∀ (i : Nat) (x : Str) (v : V), X.N[i]? = some x → σ[i]? = some (some v) → Vis X.env.scope x → ∃ u, RelV v u ∧ Look X.env s.heap m x u
  cell : ∀ x c, X.env.cells.lookup x = some c → ∃ v, s.heap.IsCell c v
  free : H X.env.locals = none
  freeC : ∀ x c, X.env.cells.lookup x = some c → H c = none
  pin : ∀ p ∈ X.pn ++ pins, s.heap.get? p.1 = some p.2 ∧ H p.1 = none ∧ p.1 ≠ X.env.locals ∧ p.1 ∉ X.fs ∧ ∀ v, p.2.data ≠ .cell v
  hok : HOk X.prog X.w H s.heap
  len : σ.length = X.N.length

section
variable {X : Cx} {pins : List (Addr × Obj)} {σ : List (Option V)} {H H' : Hp} {s : Shared} {h' : Heap}

theorem Cx.Ok.nofr (ok : X.Ok) {b : Addr} {o : Obj} (e : X.base.get? b = some o) : b ∉ X.fs := fun hb => by
  have := (ok.funs.mem hb).1
  rw [e] at this; cases this
theorem Inv.bs (I : Inv X pins σ H s) : ∀ b o, X.base.get? b = some o → s.heap.get? b = some o ∧ H b = none := fun b o e =>
  ⟨I.base.keep b o (I.ok.bs b o e).1 (I.ok.bs b o e).2 (I.ok.nofr e) (I.ok.noex b o e), I.base.free b o (I.ok.bs b o e).1 (I.ok.bs b o e).2 (I.ok.noex b o e)⟩
theorem Inv.bk (I : Inv X pins σ H s) : ∀ b o, X.base.get? b = some o → s.heap.get? b = some o := fun b o e => (I.bs b o e).1
theorem Inv.mod (I : Inv X pins σ H s) : Mod X.K X.mg X.base := I.ok.mod
theorem Inv.kIn (I : Inv X pins σ H s) : X.K.In s.heap := I.ok.mod.kin.keeps I.bk
theorem Inv.nolimit (I : Inv X pins σ H s) : s.heap.NoLimit := I.ok.mod.nolimit.keeps I.bk
/-- the frame over the base: for OpenK's rules (K.In X.base is I.mod.kin) -/
theorem Inv.fr (I : Inv X pins σ H s) : ∃ m, Fr X.base X.env.locals s.heap m :=
  let ⟨m, hn, _⟩ := I.loc
  ⟨m, hn, I.bk, Nat.le_trans I.ok.bsz I.ok.above⟩
theorem Inv.lt (I : Inv X pins σ H s) : X.env.locals < s.heap.objs.size := let ⟨_, hn, _⟩ := I.loc; hn.lt
theorem Inv.sz (I : Inv X pins σ H s) : X.s₀.heap.objs.size ≤ s.heap.objs.size := Nat.le_trans I.ok.above (Nat.le_of_lt I.lt)
theorem Inv.nofs (I : Inv X pins σ H s) {a : Addr} (h : s.heap.objs.size ≤ a) : a ∉ X.fs := fun hb => by
  obtain ⟨_, o, ho, _⟩ := I.ok.funs.mem hb
  exact absurd (Nat.lt_of_lt_of_le (Heap.lt_size ho) (Nat.le_trans I.sz h)) (Nat.lt_irrefl _)
theorem Inv.cne (I : Inv X pins σ H s) : ∀ x c, X.env.cells.lookup x = some c → c ≠ X.env.locals := fun x c e z => by
  obtain ⟨v, o, ho, hd⟩ := I.cell x c e
  obtain ⟨m, ⟨o', es, ep, ho', hd', _⟩, _⟩ := I.loc
  rw [z, ho'] at ho; cases ho; rw [hd'] at hd; cases hd
theorem Inv.funs (I : Inv X pins σ H s) : s.heap.FunFrames X.base X.outer := by
  have all : ∀ (l : List Env), (∀ b ∈ frs l, b ∈ X.fs) → X.s₀.heap.FunFrames X.base l → s.heap.FunFrames X.base l := by
    intro l
    induction l with
    | nil => intro _ _; trivial
    | cons env r ih =>
      intro hs hl
      obtain ⟨hk, ⟨L, o, hf, hn, ho, hd⟩, hr⟩ := hl
      have hL : L ∈ X.fs := hs L (by unfold frs; rw [List.filterMap_cons, hf]; exact List.mem_cons_self)
      obtain ⟨sl, e⟩ := I.base.slot L o ho (I.ok.frf L hL) hL fun z => I.ok.exfs L z hL
      exact ⟨hk, ⟨L, _, hf, hn, e, hd⟩, ih (fun b hb => hs b (by unfold frs; rw [List.filterMap_cons, hf]; exact List.mem_cons_of_mem _ hb)) hr⟩
  exact all X.outer (fun _ hb => hb) I.ok.funs

/-- the frames that run, for a call -/
theorem Inv.stack (I : Inv X pins σ H s) : s.heap.FunFrames X.base X.stack := by
  rcases I.ok.stk with e | ⟨e, hf⟩
  · rw [e]; exact I.funs
  · rw [e]
    obtain ⟨m, hn, _⟩ := I.loc
    refine .cons (by rw [I.ok.kind]; decide) hf hn ?_ I.funs
    exact Heap.get?_none_of_le (Nat.le_trans I.ok.bsz I.ok.above)
theorem Inv.stkSub (I : Inv X pins σ H s) : ∀ b ∈ frs X.stack, b ∈ X.env.locals :: X.fs := fun b hb => by
  rcases I.ok.stk with e | ⟨e, hf⟩
  · rw [e] at hb; exact List.mem_cons_of_mem _ hb
  · rw [e] at hb
    unfold frs at hb
    rw [List.filterMap_cons, hf] at hb
    exact hb
theorem Inv.stkFree (I : Inv X pins σ H s) : ∀ b ∈ frs X.stack, H b = none := fun b hb => by
  rcases List.mem_cons.mp (I.stkSub b hb) with e | hb
  · rw [e]; exact I.free
  · obtain ⟨_, o, ho, _⟩ := I.ok.funs.mem hb
    exact I.base.free b o ho (I.ok.frf b hb) fun z => I.ok.exfs b z hb

/-- THE STEP: the untracked objects but the frame and the records at ch are kept (the callers' frames up to slots), the frame's map is kept, the new abstract heap is held -/
theorem Inv.step {g' : Array GenState} {t' : Nat} {d' : Drawn} {ch : List Addr} (I : Inv X pins σ H s)
    (hch : ∀ b ∈ ch, (b ∈ X.ex ∨ X.s₀.heap.objs.size ≤ b) ∧ b ≠ X.env.locals ∧ (∀ x c, X.env.cells.lookup x = some c → c ≠ b) ∧ ∀ p ∈ X.pn ++ pins, p.1 ≠ b)
    (keep : ∀ b o, b ≠ X.env.locals → b ∉ X.fs → b ∉ ch → s.heap.get? b = some o → H b = none → h'.get? b = some o)
    (slot : ∀ b o, b ≠ X.env.locals → b ∈ X.fs → b ∉ ch → s.heap.get? b = some o → H b = none → ∃ sl, h'.get? b = some { o with slots := sl }) (free : ∀ b o, b ∉ ch → s.heap.get? b = some o → H b = none → H' b = none)
    (there : ∀ b o, b ∉ ch → s.heap.get? b = some o → ∃ o', h'.get? b = some o')
    (tups : ∀ b xs, H b = some (.tup xs) → H' b = some (.tup xs)) (frzs : ∀ b o u, H b = some (.frz o u) → H' b = some (.frz o u)) (tbls : ∀ b ps, H b = some (.tbl ps) → ∃ more, H' b = some (.tbl (ps ++ more)))
    (ns : ∀ m, s.heap.Ns X.env.locals m → h'.Ns X.env.locals m) (hok : HOk X.prog X.w H' h') (hg : AllBare g') :
    Inv X pins σ H' { s with heap := h', gens := g', drawn := d', toks := t' } := by
  have neL : ∀ b o, X.s₀.heap.get? b = some o → b ≠ X.env.locals := fun b o e => Nat.ne_of_lt (Nat.lt_of_lt_of_le (Heap.lt_size e) I.ok.above)
  have neC : ∀ b o, X.s₀.heap.get? b = some o → b ∉ X.ex → b ∉ ch := fun b o e hx hb => by
    rcases (hch b hb).1 with z | z
    · exact hx z
    · exact absurd (Nat.lt_of_lt_of_le (Heap.lt_size e) z) (Nat.lt_irrefl _)
  have cellK : ∀ x c, X.env.cells.lookup x = some c → ∀ v, s.heap.IsCell c v → h'.IsCell c v := fun x c e v ⟨o, ho, hd⟩ => by
    have nch : c ∉ ch := fun z => (hch c z).2.2.1 x c e rfl
    by_cases hc : c ∈ X.fs
    · obtain ⟨sl, q⟩ := slot c o (I.cne x c e) hc nch ho (I.freeC x c e)
      exact ⟨_, q, hd⟩
    · exact ⟨o, keep c o (I.cne x c e) hc nch ho (I.freeC x c e), hd⟩
  refine ⟨I.ok, I.os, hg, ⟨fun b o e n hb hx => ?_, fun b o e n hb hx => ?_, fun b o e n hx => ?_, fun b o e hx => ?_, fun b xs e => tups b xs (I.base.tups b xs e), fun b o xs e => frzs b o xs (I.base.frzs b o xs e), fun b ps e => ?_⟩, ?_, fun x c e => ?_, ?_, fun x c e => ?_, fun p hp => ?_, hok, I.len⟩
  · exact keep b o (neL b o e) hb (neC b o e hx) (I.base.keep b o e n hb hx) (I.base.free b o e n hx)
  · obtain ⟨sl, e1⟩ := I.base.slot b o e n hb hx
    obtain ⟨sl', e2⟩ := slot b _ (neL b o e) hb (neC b o e hx) e1 (I.base.free b o e n hx)
    exact ⟨sl', e2⟩
  · obtain ⟨o', e1⟩ := I.base.there b o e hx
    exact free b o' (neC b o e hx) e1 (I.base.free b o e n hx)
  · obtain ⟨o', e1⟩ := I.base.there b o e hx
    exact there b o' (neC b o e hx) e1
  · obtain ⟨m1, e1⟩ := I.base.tbls b ps e
    obtain ⟨m2, e2⟩ := tbls b _ e1
    exact ⟨m1 ++ m2, by rw [e2, Array.append_assoc]⟩
  · obtain ⟨m, hn, hl⟩ := I.loc
    refine ⟨m, ns m hn, fun i x v e1 e2 e3 => ?_⟩
    obtain ⟨u, r, l⟩ := hl i x v e1 e2 e3
    refine ⟨u, r, ?_⟩
    rcases l with l | ⟨k, c, e, z⟩
    · exact .inl l
    · exact .inr ⟨k, c, e, cellK x c e _ z⟩
  · obtain ⟨v, z⟩ := I.cell x c e
    exact ⟨v, cellK x c e v z⟩
  · obtain ⟨m, ⟨o, _, _, ho, _⟩, _⟩ := I.loc
    exact free _ o (fun z => (hch _ z).2.1 rfl) ho I.free
  · obtain ⟨v, o, ho, hd⟩ := I.cell x c e
    exact free c o (fun z => (hch c z).2.2.1 x c e rfl) ho (I.freeC x c e)
  · obtain ⟨e, n, ne, nf, d⟩ := I.pin p hp
    have nch : p.1 ∉ ch := fun z => (hch p.1 z).2.2.2 p hp rfl
    exact ⟨keep p.1 p.2 ne nf nch e n, free p.1 p.2 nch e n, ne, nf, d⟩
/-- .. where the frame's own object is kept too -/
theorem Inv.un {t' : Nat} (I : Inv X pins σ H s) (u : Un X.fs [] H H' s.heap h') (hok : HOk X.prog X.w H' h') : Inv X pins σ H' { s with heap := h', toks := t' } := by
  obtain ⟨m, ⟨o, es, ep, ho, r⟩, _⟩ := id I.loc
  obtain ⟨sl, hL⟩ := u.any ho I.free (by simp)
  exact I.step (g' := s.gens) (d' := s.drawn) (ch := []) (fun _ z => nomatch z) (fun b o _ hb _ e n => u.keep b o e n hb (by simp)) (fun b o _ hb _ e n => u.slot b o e n hb (by simp)) (fun b o _ e n => u.free b o e n (by simp)) (fun b o _ e => u.there b o e (by simp)) u.tups u.frzs u.tbls (fun m' hm => by
    obtain ⟨o', es', ep', ho', r'⟩ := hm
    rw [ho] at ho'; cases ho'
    exact ⟨_, es', ep', hL, r'⟩) hok I.bare
/-- behind a call (or a comprehension's block): the slots of this frame may have changed too, the records at ch may have turned -/
theorem Inv.call {g' : Array GenState} {t' : Nat} {d' : Drawn} {ch : List Addr} (I : Inv X pins σ H s) (u : Un (frs X.stack) ch H H' s.heap h') (hok : HOk X.prog X.w H' h') (hg : AllBare g')
    (hch : ∀ b ∈ ch, (b ∈ X.ex ∨ X.s₀.heap.objs.size ≤ b) ∧ b ≠ X.env.locals ∧ (∀ x c, X.env.cells.lookup x = some c → c ≠ b) ∧ ∀ p ∈ X.pn ++ pins, p.1 ≠ b) :
    Inv X pins σ H' { s with heap := h', gens := g', drawn := d', toks := t' } := by
  obtain ⟨m, ⟨o, es, ep, ho, r⟩, _⟩ := id I.loc
  obtain ⟨sl, hL⟩ := u.any ho I.free fun z => (hch _ z).2.1 rfl
  exact I.step (ch := ch) hch (fun b o hL hb hc e n => u.keep b o e n (fun z => (List.mem_cons.mp (I.stkSub b z)).elim hL hb) hc) (fun b o _ _ hc e n => u.any e n hc) (fun b o hc e n => u.free b o e n hc) (fun b o hc e => u.there b o e hc) u.tups u.frzs u.tbls (fun m' hm => by
    obtain ⟨o', es', ep', ho', r'⟩ := hm
    rw [ho] at ho'; cases ho'
    exact ⟨_, es', ep', hL, r'⟩) hok hg
/-- an untracked record of ours (an iterator) has turned -/
theorem Inv.turned {t' : Nat} {it : Addr} (I : Inv X pins σ H s) (k : ∀ b o, b ≠ it → s.heap.get? b = some o → h'.get? b = some o) (hn : H it = none) (hL : it ≠ X.env.locals)
    (h1 : it ∈ X.ex ∨ X.s₀.heap.objs.size ≤ it) (h2 : ∀ x c, X.env.cells.lookup x = some c → c ≠ it) (h3 : ∀ p ∈ X.pn ++ pins, p.1 ≠ it) : Inv X pins σ H { s with heap := h', toks := t' } := by
  have nit : ∀ b u, H b = some u → b ≠ it := fun b u e z => by rw [z, hn] at e; cases e
  refine I.step (g' := s.gens) (d' := s.drawn) (ch := [it]) (fun b hb => ?_) (fun b o _ _ hc e _ => k b o (fun z => hc (by simp [z])) e) (fun b o _ _ hc e _ => ⟨o.slots, k b o (fun z => hc (by simp [z])) e⟩) (fun _ _ _ _ n => n)
    (fun b o hc e => ⟨o, k b o (fun z => hc (by simp [z])) e⟩) (fun _ _ e => e) (fun _ _ _ e => e) (fun b ps e => ⟨#[], by rw [e]; simp⟩) (fun m hm => ?_) (fun b u e => ?_) I.bare
  · have e : b = it := by simpa using hb
    subst e
    exact ⟨h1, hL, h2, h3⟩
  · obtain ⟨o, es, ep, ho, r⟩ := hm
    exact ⟨o, es, ep, k _ o (Ne.symm hL) ho, r⟩
  · refine (I.hok b u e).stay (fun c v hc q => k c v ?_ q) (fun _ q => q) fun _ _ q => q
    rcases hc with z | z
    · rw [z]; exact nit b u e
    · exact nit c _ z
theorem Inv.tok (I : Inv X pins σ H s) (t : Nat) : Inv X pins σ H { s with toks := t } := I.un (h' := s.heap) (t' := t) Un.refl I.hok
/-- all objects kept -/
theorem Inv.kept {t' : Nat} (I : Inv X pins σ H s) (k : ∀ b u, s.heap.get? b = some u → h'.get? b = some u) : Inv X pins σ H { s with heap := h', toks := t' } := I.un (Un.kept k) (I.hok.kept k)
/-- a new object laid and tracked -/
theorem Inv.laid {a : Addr} {o : HO} {t' : Nat} (I : Inv X pins σ H s) (k : ∀ b u, s.heap.get? b = some u → h'.get? b = some u) (hp : s.heap.objs.size ≤ a) (new : ObjOk X.prog X.w (upd H a o) h' a o) :
    Inv X pins σ (upd H a o) { s with heap := h', toks := t' } := I.un (Un.laid k hp (I.hok.fresh hp)) (I.hok.laid k hp new)
/-- an object written -/
theorem Inv.write {x e : Addr} {o : HO} {t' : Nat} (I : Inv X pins σ H s) (mu : Mut (H x)) (he : e = x ∨ H e = some (.own x)) (k : ∀ b u, b ≠ e → s.heap.get? b = some u → h'.get? b = some u) (heo : ∃ u, h'.get? e = some u)
    (new : ObjOk X.prog X.w (upd H x o) h' x o) : Inv X pins σ (upd H x o) { s with heap := h', toks := t' } := I.un (Un.write mu he k heo) (I.hok.write mu he k heo new)
theorem Inv.pins_of {pins' : List (Addr × Obj)} (I : Inv X pins σ H s) (h : ∀ p ∈ pins', s.heap.get? p.1 = some p.2 ∧ H p.1 = none ∧ p.1 ≠ X.env.locals ∧ p.1 ∉ X.fs ∧ ∀ v, p.2.data ≠ .cell v) : Inv X pins' σ H s :=
  ⟨I.ok, I.os, I.bare, I.base, I.loc, I.cell, I.free, I.freeC, fun p hp => (List.mem_append.mp hp).elim (fun z => I.pin p (List.mem_append_left _ z)) (h p), I.hok, I.len⟩

theorem nodup_ix {N : List Str} (hN : N.Nodup) {i j : Nat} {x : Str} (a : N[i]? = some x) (b : N[j]? = some x) : i = j := by
  obtain ⟨h1, e1⟩ := List.getElem?_eq_some_iff.mp a
  obtain ⟨h2, e2⟩ := List.getElem?_eq_some_iff.mp b
  exact (List.getElem_inj hN).mp (e1.trans e2.symm)

/-- a name is stored; what changed -/
theorem store_ok2 {M : Model} {A : Around} {E : Value → Shared → Prop} {i : Nat} {x : Str} {v : V} {u : Value} {Q : Unit → Shared → Prop} (I : Inv X pins σ H s) (hN : X.N.Nodup) (hi : X.N[i]? = some x) (hx : Loc X.env.scope x) (r : RelV v u)
    (h : ∀ s', Inv X pins (σ.set i (some v)) H s' → (∃ a, Heap.SameBut a s.heap s'.heap ∧ (a = X.env.locals ∨ X.env.cells.lookup x = some a)) → Q () s') (hf : X.fn x = true ∨ X.env.scope.names.lookup x = some .local := by first | exact .inl rfl | exact .inr rfl | assumption) : wpAny M A (storeName X.env x u) Q E s := by
  obtain ⟨m, hn, hl⟩ := id I.loc
  have hcls : (X.env.scope.kind == .class || (X.env.scope.kind == .module && X.env.locals != X.env.globals)) = false := by rw [I.ok.kind]; rfl
  have hiσ : i < σ.length := by rw [I.len]; exact (List.getElem?_eq_some_iff.mp hi).1
  have cne := I.cne
  have tracked : ∀ {a : Addr} {h' : Heap}, (∃ o, s.heap.get? a = some o ∧ H a = none) → Heap.SameBut a s.heap h' → HOk X.prog X.w H h' := fun {a h'} ha hs b ob e => by
    obtain ⟨_, _, hfree⟩ := ha
    refine (I.hok b ob e).stay (fun c w' hc q => (hs.2 c ?_).trans q) (fun _ q => q) fun _ _ q => q
    rintro rfl
    rcases hc with rfl | hc
    · rw [hfree] at e; cases e
    · rw [hfree] at hc; cases hc
  rcases hx with hk | hk
  · refine wpAny_storeName_local hk hn (fun h' hn' hs => ?_) hcls
    obtain ⟨oL, _, _, hoL, _⟩ := id hn
    refine h _ ⟨I.ok, I.os, I.bare, ⟨fun b o e n hb hx => ?_, fun b o e n hb hx => ?_, I.base.free, fun b o e hx => ?_, I.base.tups, I.base.frzs, I.base.tbls⟩, ⟨_, hn', fun j y v' e1 e2 e3 => ?_⟩, fun y c e => ?_, I.free, I.freeC, fun p hp => ?_, tracked ⟨oL, hoL, I.free⟩ hs, by simpa using I.len⟩ ⟨_, hs, .inl rfl⟩
    · exact (hs.2 b (Nat.ne_of_lt (Nat.lt_of_lt_of_le (Heap.lt_size e) I.ok.above))).trans (I.base.keep b o e n hb hx)
    · obtain ⟨sl, e1⟩ := I.base.slot b o e n hb hx
      exact ⟨sl, (hs.2 b (Nat.ne_of_lt (Nat.lt_of_lt_of_le (Heap.lt_size e) I.ok.above))).trans e1⟩
    · obtain ⟨o', e1⟩ := I.base.there b o e hx
      exact ⟨o', (hs.2 b (Nat.ne_of_lt (Nat.lt_of_lt_of_le (Heap.lt_size e) I.ok.above))).trans e1⟩
    · by_cases hj : j = i
      · subst hj
        rw [hi] at e1; cases e1
        rw [List.getElem?_set_self hiσ] at e2
        cases e2
        exact ⟨u, r, .inl ⟨hk, by simp⟩⟩
      · rw [List.getElem?_set_ne (Ne.symm hj)] at e2
        obtain ⟨u', r', q⟩ := hl j y v' e1 e2 e3
        refine ⟨u', r', ?_⟩
        rcases q with ⟨k, e⟩ | ⟨k, c, e, z⟩
        · refine .inl ⟨k, ?_⟩
          have : y ≠ x := fun e => hj (nodup_ix hN e1 (e ▸ hi))
          simp [this, e]
        · exact .inr ⟨k, c, e, z.sameBut hs (cne y c e)⟩
    · obtain ⟨w', z⟩ := I.cell y c e
      exact ⟨w', z.sameBut hs (cne y c e)⟩
    · obtain ⟨e, n, ne, nf, d⟩ := I.pin p hp
      exact ⟨(hs.2 p.1 ne).trans e, n, ne, nf, d⟩
  · have hfn : X.fn x = true := by
      rcases hf with z | z
      · exact z
      · rw [z] at hk; cases hk
    obtain ⟨c, hc⟩ := I.ok.has x (.inl hk)
    obtain ⟨w', z⟩ := I.cell x c hc
    refine wpAny_storeName_cell I.ok.kind hk hc z (fun h' hc' hs => ?_)
    obtain ⟨oc, hoc, hocd⟩ := id z
    refine h { s with heap := h' } ⟨I.ok, I.os, I.bare, ⟨fun b o e n hb hx => ?_, fun b o e n hb hx => ?_, I.base.free, fun b o e hx => ?_, I.base.tups, I.base.frzs, I.base.tbls⟩, ⟨m, hn.sameBut hs (Ne.symm (cne x c hc)), fun j y v' e1 e2 e3 => ?_⟩, fun y c' e => ?_, I.free, I.freeC, fun p hp => ?_, tracked ⟨oc, hoc, I.freeC x c hc⟩ hs, by simpa using I.len⟩ ⟨c, hs, .inr hc⟩
    · exact (hs.2 b (Nat.ne_of_lt (Nat.lt_of_lt_of_le (Heap.lt_size e) (I.ok.cab x c hfn hc)))).trans (I.base.keep b o e n hb hx)
    · obtain ⟨sl, e1⟩ := I.base.slot b o e n hb hx
      exact ⟨sl, (hs.2 b (Nat.ne_of_lt (Nat.lt_of_lt_of_le (Heap.lt_size e) (I.ok.cab x c hfn hc)))).trans e1⟩
    · obtain ⟨o', e1⟩ := I.base.there b o e hx
      exact ⟨o', (hs.2 b (Nat.ne_of_lt (Nat.lt_of_lt_of_le (Heap.lt_size e) (I.ok.cab x c hfn hc)))).trans e1⟩
    · by_cases hj : j = i
      · subst hj
        rw [hi] at e1; cases e1
        rw [List.getElem?_set_self hiσ] at e2
        cases e2
        exact ⟨u, r, .inr ⟨.inl hk, c, hc, hc'⟩⟩
      · rw [List.getElem?_set_ne (Ne.symm hj)] at e2
        obtain ⟨u', r', q⟩ := hl j y v' e1 e2 e3
        refine ⟨u', r', ?_⟩
        rcases q with q | ⟨k, c', e, z'⟩
        · exact .inl q
        · refine .inr ⟨k, c', e, z'.sameBut hs ?_⟩
          rintro rfl
          exact hj (nodup_ix hN e1 (I.ok.inj _ _ _ e hc ▸ hi))
    · by_cases hcc : c' = c
      · subst hcc; exact ⟨_, hc'⟩
      · obtain ⟨w2, z2⟩ := I.cell y c' e
        exact ⟨w2, z2.sameBut hs hcc⟩
    · obtain ⟨e, n, ne, nf, d⟩ := I.pin p hp
      refine ⟨(hs.2 p.1 ?_).trans e, n, ne, nf, d⟩
      intro q
      rw [q, hoc] at e
      have q' : oc = p.2 := Option.some.inj e
      exact d w' (by rw [← q']; exact hocd)
theorem store_ok {M : Model} {A : Around} {E : Value → Shared → Prop} {i : Nat} {x : Str} {v : V} {u : Value} {Q : Unit → Shared → Prop} (I : Inv X pins σ H s) (hN : X.N.Nodup) (hi : X.N[i]? = some x) (hx : Loc X.env.scope x) (r : RelV v u)
    (h : ∀ s', Inv X pins (σ.set i (some v)) H s' → Q () s') (hf : X.fn x = true ∨ X.env.scope.names.lookup x = some .local := by first | exact .inl rfl | exact .inr rfl | assumption) : wpAny M A (storeName X.env x u) Q E s :=
  store_ok2 I hN hi hx r (fun s' I' _ => h s' I') hf
/-- behind a call or a block, the state as it is -/
theorem Inv.call' {s' : Shared} {ch : List Addr} (I : Inv X pins σ H s) (ho : s'.os = s.os) (u : Un (frs X.stack) ch H H' s.heap s'.heap) (hok : HOk X.prog X.w H' s'.heap) (hg : AllBare s'.gens)
    (hch : ∀ b ∈ ch, (b ∈ X.ex ∨ X.s₀.heap.objs.size ≤ b) ∧ b ≠ X.env.locals ∧ (∀ x c, X.env.cells.lookup x = some c → c ≠ b) ∧ ∀ p ∈ X.pn ++ pins, p.1 ≠ b) : Inv X pins σ H' s' := by
  obtain ⟨h', g', d', t', o'⟩ := s'
  have e : o' = s.os := ho
  subst e
  exact I.call (g' := g') (t' := t') (d' := d') u hok hg hch
end

/-! ### the judgements -/
/-- an exception: its class, its own dict's address (where it has one), the abstract heap behind it -/
abbrev XK := Value → Option Addr → Hp → Prop
abbrev St := List (Option V)
abbrev VK := V → Hp → Prop
/-- an expression's reading; a test's; an argument list's -/
abbrev TE := St → Hp → VK → Prop
abbrev TT := St → Hp → (Bool → Hp → Prop) → Prop
abbrev TA := St → Hp → (List V → Hp → Prop) → Prop
/-- what is wanted behind a statement -/
structure Ends where
  nx : St → Hp → Prop
  rt : VK
  bk : St → Hp → Prop := fun _ _ => False
  ct : St → Hp → Prop := fun _ _ => False
abbrev TS := Ends → St → Hp → Prop

def EP (X : Cx) (pins : List (Addr × Obj)) (σ : St) (Q : VK) (u : Value) (s' : Shared) : Prop := ∃ v H', Inv X pins σ H' s' ∧ RelV v u ∧ Q v H'
def TP (X : Cx) (pins : List (Addr × Obj)) (σ : St) (Q : Bool → Hp → Prop) (b : Bool) (s' : Shared) : Prop := ∃ H', Inv X pins σ H' s' ∧ Q b H'
def AP (X : Cx) (pins : List (Addr × Obj)) (σ : St) (Q : List V → Hp → Prop) (us : List Value) (s' : Shared) : Prop := ∃ vs H', Inv X pins σ H' s' ∧ Vals vs us ∧ Q vs H'
def SP (X : Cx) (pins : List (Addr × Obj)) (D : Ends) (f : Flow) (s' : Shared) : Prop :=
  match f with
  | .next => ∃ σ' H', Inv X pins σ' H' s' ∧ D.nx σ' H'
  | .brk => ∃ σ' H', Inv X pins σ' H' s' ∧ D.bk σ' H'
  | .cont => ∃ σ' H', Inv X pins σ' H' s' ∧ D.ct σ' H'
  | .ret u => ∃ v σ' H', Inv X pins σ' H' s' ∧ RelV v u ∧ D.rt v H'

def PE (X : Cx) (e : Expr) (t : TE) : Prop :=
  ∀ (pins : List (Addr × Obj)) (s : Shared) (σ : St) (H : Hp) (Q : VK), Inv X pins σ H s → t σ H Q → wpAny (model X.prog X.w) X.A (eval e X.env) (EP X pins σ Q) X.xe s
def PT (X : Cx) (e : Expr) (t : TT) : Prop :=
  ∀ (pins : List (Addr × Obj)) (s : Shared) (σ : St) (H : Hp) (Q : Bool → Hp → Prop), Inv X pins σ H s → t σ H Q → wpAny (model X.prog X.w) X.A (isTrue e X.env (eval e X.env)) (TP X pins σ Q) X.xe s
/-- a test whatever its 'whole' is (and, or) -/
def PW (X : Cx) (e : Expr) (t : TT) : Prop :=
  ∀ (whole : Sem Value) (pins : List (Addr × Obj)) (s : Shared) (σ : St) (H : Hp) (Q : Bool → Hp → Prop), Inv X pins σ H s → t σ H Q → wpAny (model X.prog X.w) X.A (isTrue e X.env whole) (TP X pins σ Q) X.xe s
theorem PW.pt {X : Cx} {e : Expr} {t : TT} (h : PW X e t) : PT X e t := h _
/-- an argument list (no star), from the left -/
def PA (X : Cx) (es : List Expr) (t : TA) : Prop :=
  ∀ (pos : Pos) (pins : List (Addr × Obj)) (s : Shared) (σ : St) (H : Hp) (Q : List V → Hp → Prop), Inv X pins σ H s → t σ H Q → wpAny (model X.prog X.w) X.A (spliced (backTo pos (starEach es X.env))) (AP X pins σ Q) X.xe s
def PS (X : Cx) (st : Stmt) (t : TS) : Prop :=
  ∀ (pins : List (Addr × Obj)) (s : Shared) (σ : St) (H : Hp) (D : Ends), Inv X pins σ H s → t D σ H → wpAny (model X.prog X.w) X.A (exec st X.env) (SP X pins D) X.xe s
def PSs (X : Cx) (st : List Stmt) (t : TS) : Prop :=
  ∀ (pins : List (Addr × Obj)) (s : Shared) (σ : St) (H : Hp) (D : Ends), Inv X pins σ H s → t D σ H → wpAny (model X.prog X.w) X.A (execs st X.env) (SP X pins D) X.xe s
/-- weaken the end -/
theorem thn {α : Type} {t : Sem α} {Q Q' : α → Shared → Prop} {M : Model} {A : Around} {E : Value → Shared → Prop} {s : Shared} (h : wpAny M A t Q E s) (hQ : ∀ a s, Q a s → Q' a s) : wpAny M A t Q' E s := wpAny_mono h hQ fun _ _ x => x
end L2

namespace L2
open PySem PySem.Spec PyProof.Rows
section
variable {X : Cx}


/-! ### names and constants -/
def tVar (i : Nat) : TE := fun σ H Q => ∃ v, σ[i]? = some (some v) ∧ Q v H
def tC (v : V) : TE := fun _ H Q => Q v H
theorem pe_var {i : Nat} {x : Str} {pos : Pos} (hN : X.N[i]? = some x) (hv : Vis X.env.scope x) (hd : (x == ("__debug__" : Str)) = false := by decide) (hcd : (x == ("__classdict__" : Str)) = false := by decide) : PE X (.Name x pos) (tVar i) := by
  intro pins s σ H Q I h
  obtain ⟨v, e, h⟩ := h
  obtain ⟨m, hn, hl⟩ := I.loc
  obtain ⟨u, r, l⟩ := hl i x v hN e hv
  have fin : EP X pins σ Q u s := ⟨v, H, I, r, h⟩
  rcases l with ⟨hk, hm⟩ | ⟨hk, c, hc, hcell⟩
  · exact wpAny_Name (wpAny_loadName_local I.ok.kind hk hn hm fin) hd
  · rcases hk with hk | hk
    · exact wpAny_Name (wpAny_loadName_cell I.ok.kind hk hc hcell fin) hd
    · exact wpAny_Name (wpAny_loadName_free I.ok.kind hk hc hcell fin hcd) hd
theorem pe_int {i j pos} : PE X (.Constant (.int i) j pos) (tC (.int i)) := fun _ _ _ H _ I h => wpAny_Constant_int ⟨.int i, H, I.tok _, ⟨_, rfl⟩, h⟩
theorem pe_bl {b j pos} : PE X (.Constant (.bool b) j pos) (tC (.bl b)) := fun _ _ _ H _ I h => Constant_bool ⟨.bl b, H, I, rfl, h⟩
theorem pe_non {j pos} : PE X (.Constant .none j pos) (tC .non) := fun _ _ _ H _ I h => Constant_none ⟨.non, H, I, rfl, h⟩
theorem pe_str {x j pos} : PE X (.Constant (.str x) j pos) (tC (.str x)) := fun _ _ _ H _ I h => Calls.Constant_str ⟨.str x, H, I.tok _, ⟨_, rfl⟩, h⟩

/-- a global name of the def -/
def Gl (X : Cx) (x : Str) : Prop := X.env.kindOf x = some .globalImplicit
theorem ld_glob {E : Value → Shared → Prop} {pins : List (Addr × Obj)} {s : Shared} {σ : St} {H : Hp} {x : Str} {u : Value} {pos : Pos} {Q : Value → Shared → Prop} (I : Inv X pins σ H s) (hg : Gl X x) (hm : X.mg x = some u) (h : Q u s)
    (hd : (x == ("__debug__" : Str)) = false := by decide) : wpAny (model X.prog X.w) X.A (eval (.Name x pos) X.env) Q E s :=
  Calls.Name_function_global I.ok.kind hg (Calls.loadGlobal_global (by rw [I.ok.glob]; exact I.mod.glob.keeps I.bk) hm h) hd
theorem ld_blt {E : Value → Shared → Prop} {pins : List (Addr × Obj)} {s : Shared} {σ : St} {H : Hp} {x : Str} {u : Value} {pos : Pos} {Q : Value → Shared → Prop} (I : Inv X pins σ H s) (hg : Gl X x) (hm : X.mg x = none) (hv : bootBuiltins x = some u) (h : Q u s)
    (hn : x ≠ "__name__" := by decide) (hd : (x == ("__debug__" : Str)) = false := by decide) : wpAny (model X.prog X.w) X.A (eval (.Name x pos) X.env) Q E s := by
  obtain ⟨mb, h1, h2⟩ := I.mod.blt
  exact Calls.Name_function_global I.ok.kind hg (Calls.loadGlobal_builtin (by rw [I.ok.glob]; exact I.mod.glob.keeps I.bk) hm (by rw [I.ok.blt]; exact h1.keeps I.bk) ((h2 x hn).trans hv) h) hd
/-- a module's constant, a class, a function, as a value -/
theorem pe_glob {x : Str} {v : V} {u : Value} {pos : Pos} (hg : Gl X x) (hm : X.mg x = some u) (r : RelV v u) (hd : (x == ("__debug__" : Str)) = false := by decide) : PE X (.Name x pos) (tC v) :=
  fun _ _ _ H _ I h => ld_glob I hg hm ⟨v, H, I, r, h⟩ hd
theorem pe_bltn {x : Str} {v : V} {u : Value} {pos : Pos} (hg : Gl X x) (hm : X.mg x = none) (hv : bootBuiltins x = some u) (r : RelV v u) (hn : x ≠ "__name__" := by decide) (hd : (x == ("__debug__" : Str)) = false := by decide) : PE X (.Name x pos) (tC v) :=
  fun _ _ _ H _ I h => ld_blt I hg hm hv ⟨v, H, I, r, h⟩ hn hd

/-! ### arithmetic -/
/-- two ints -/
def t2I (ta tb : TE) (k : Int → Int → Hp → Prop) : St → Hp → Prop := fun σ H => ta σ H fun x H1 => tb σ H1 fun y H2 => ∃ i j, x = .int i ∧ y = .int j ∧ k i j H2
def tAdd (ta tb : TE) : TE := fun σ H Q => t2I ta tb (fun i j H2 => Q (.int (i + j)) H2) σ H
def tSub (ta tb : TE) : TE := fun σ H Q => t2I ta tb (fun i j H2 => Q (.int (i - j)) H2) σ H
/-- the left factor below 2^64 -/
def tMul (ta tb : TE) : TE := fun σ H Q => t2I ta tb (fun i j H2 => (-(2 ^ 64) < i ∧ i < 2 ^ 64) ∧ Q (.int (i * j)) H2) σ H
variable {a b : Expr} {ta tb : TE} {pos : Pos}

/-! ### comparisons -/
def PC (X : Cx) (op : CmpOp) (a b : Expr) (t : TE) : Prop :=
  ∀ (pins : List (Addr × Obj)) (s : Shared) (σ : St) (H : Hp) (Q : VK), Inv X pins σ H s → t σ H Q →
    wpAny (model X.prog X.w) X.A (eval a X.env) (fun v s₁ => wpAny (model X.prog X.w) X.A (eval b X.env) (fun u s₂ => wpAny (model X.prog X.w) X.A (compareOp op v u) (EP X pins σ Q) X.xe s₂) X.xe s₁) X.xe s
def tCmp (p : Int → Int → Bool) (ta tb : TE) : TE := fun σ H Q => t2I ta tb (fun i j H2 => Q (.bl (p i j)) H2) σ H
abbrev tLt : TE → TE → TE := tCmp fun i j => decide (i < j)
abbrev tLe : TE → TE → TE := tCmp fun i j => decide (i ≤ j)
abbrev tGt : TE → TE → TE := tCmp fun i j => decide (j < i)
abbrev tGe : TE → TE → TE := tCmp fun i j => decide (j ≤ i)
abbrev tEqI : TE → TE → TE := tCmp fun i j => decide (i = j)
abbrev tNeI : TE → TE → TE := tCmp fun i j => !decide (i = j)
/-- is None -/
def tIsN (ta : TE) : TE := fun σ H Q => ta σ H fun x H1 => Q (.bl (decide (x = .non))) H1
def tNotN (ta : TE) : TE := fun σ H Q => ta σ H fun x H1 => Q (.bl (!decide (x = .non))) H1
/-- a comparison as a value, as a test -/
def tB (t : TE) : TT := fun σ H Q => t σ H fun x H1 => ∃ c, x = .bl c ∧ Q c H1
/-- an expression whose value is a bool, as a test -/
theorem pt_val {e : Expr} {t : TE} (h : PE X e t) (he : ∀ whole, isTrue e X.env whole = (do let v ← whole; standAt e.pos; holding [v] (truthy v)) := by intro _; rfl) : PT X e (tB t) := by
  intro pins s σ H Q I hw
  refine isTrue_plain (thn (h pins s σ H _ I hw) fun v s1 ⟨x, H1, I1, r1, q1⟩ => ?_) (he _)
  obtain ⟨d, rfl, q⟩ := q1
  cases r1
  exact wpAny_truthy_bool ⟨H1, I1, q⟩

/-! ### and, or, not -/
variable {tA tB' : TT} {rest : List Expr}
def tAnd (t u : TT) : TT := fun σ H Q => t σ H fun c H1 => if c = true then u σ H1 Q else Q false H1
def tOr (t u : TT) : TT := fun σ H Q => t σ H fun c H1 => if c = true then Q true H1 else u σ H1 Q
def tNot (t : TT) : TT := fun σ H Q => t σ H fun c H1 => Q (!c) H1
theorem pw_and1 (ha : PT X a tA) : PW X (.BoolOp .And [a] pos) tA := by
  intro wh pins s σ H Q I h
  refine isTrue_and (thn (ha pins s σ H Q I h) fun c s1 e => ?_)
  cases c with
  | true => exact isTrue_and_nil e
  | false => exact e
theorem pw_or1 (ha : PT X a tA) : PW X (.BoolOp .Or [a] pos) tA := by
  intro wh pins s σ H Q I h
  refine isTrue_or (thn (ha pins s σ H Q I h) fun c s1 e => ?_)
  cases c with
  | false => exact isTrue_or_nil e
  | true => exact e
theorem pw_and (ha : PT X a tA) (hb : PW X (.BoolOp .And (b :: rest) pos) tB') : PW X (.BoolOp .And (a :: b :: rest) pos) (tAnd tA tB') := by
  intro wh pins s σ H Q I h
  refine isTrue_and (thn (ha pins s σ H _ I h) fun c s1 ⟨H1, I1, q1⟩ => ?_)
  cases c with
  | true => exact hb wh pins s1 σ H1 Q I1 q1
  | false => exact ⟨H1, I1, q1⟩
theorem pw_or (ha : PT X a tA) (hb : PW X (.BoolOp .Or (b :: rest) pos) tB') : PW X (.BoolOp .Or (a :: b :: rest) pos) (tOr tA tB') := by
  intro wh pins s σ H Q I h
  refine isTrue_or (thn (ha pins s σ H _ I h) fun c s1 ⟨H1, I1, q1⟩ => ?_)
  cases c with
  | true => exact ⟨H1, I1, q1⟩
  | false => exact hb wh pins s1 σ H1 Q I1 q1
theorem pt_not (ha : PT X a tA) : PT X (.UnaryOp .Not a pos) (tNot tA) := by
  intro pins s σ H Q I h
  exact isTrue_not (ha pins s σ H (fun c H1 => Q (!c) H1) I h)
/-- .. as values (bools) -/
def tAndV (ta tb : TE) : TE := fun σ H Q => ta σ H fun x H1 => ∃ c, x = .bl c ∧ if c = true then tb σ H1 Q else Q (.bl false) H1
def tOrV (ta tb : TE) : TE := fun σ H Q => ta σ H fun x H1 => ∃ c, x = .bl c ∧ if c = true then Q (.bl true) H1 else tb σ H1 Q
def tNotV (ta : TE) : TE := fun σ H Q => ta σ H fun x H1 => ∃ c, x = .bl c ∧ Q (.bl (!c)) H1
theorem pe_one {op} {t : TE} (h : PE X a t) : PE X (.BoolOp op [a] pos) t := fun pins s σ H Q I hw => BoolOp_one (h pins s σ H Q I hw)
theorem pe_or (ha : PE X a ta) (hb : PE X (.BoolOp .Or (b :: rest) pos) tb) : PE X (.BoolOp .Or (a :: b :: rest) pos) (tOrV ta tb) := by
  intro pins s σ H Q I h
  refine BoolOp_or (thn (ha pins s σ H _ I h) fun v s1 ⟨x, H1, I1, r1, q1⟩ => ?_)
  obtain ⟨c, rfl, q1⟩ := q1
  cases r1
  refine wpAny_truthy_bool ?_
  cases c with
  | false => exact hb pins s1 σ H1 Q I1 q1
  | true => exact ⟨.bl true, H1, I1, rfl, q1⟩
/-- a if t else b -/
def tIf (t : TT) (ta tb : TE) : TE := fun σ H Q => t σ H fun c H1 => if c = true then ta σ H1 Q else tb σ H1 Q
end
end L2

namespace L2
open PySem PySem.Spec PyProof.Rows

/-! ### a list, a tuple that is read: tracked, frozen, or an object of the module -/
def SqL (K : PySem.W.Frag) (H : Hp) (a : Addr) (xs : List V) : Prop :=
  Rd H a (.lst xs) ∨
    ∃ (o : Obj) (its : Array Value) (n : Nat), K.lookup a = some o ∧ o.cls = .type "list" ∧ o.dict = none ∧ o.data = .seq its n ∧ its.size ≤ sizeLine ∧ Vals xs its.toList
def SqT (K : PySem.W.Frag) (H : Hp) (a : Addr) (xs : List V) : Prop :=
  Rd H a (.tup xs) ∨
    ∃ (o : Obj) (its : Array Value) (n : Nat), K.lookup a = some o ∧ o.cls = .type "tuple" ∧ o.data = .seq its n ∧ its.size ≤ sizeLine ∧ Vals xs its.toList
def absV : Value → Option V
  | .none => some .non
  | .bool b => some (.bl b)
  | .int i _ => some (.int i)
  | .str x _ => some (.str x)
  | .bytes b _ => some (.byt b)
  | .float b _ => some (.flt b)
  | .ref a => some (.ref a)
  | .type n => some (.ty n)
  | _ => none
theorem RelV.abs {x : V} {u : Value} (r : RelV x u) : absV u = some x := by
  cases x with
  | non => cases r; rfl
  | bl _ => cases r; rfl
  | int _ => obtain ⟨t, rfl⟩ := r; rfl
  | str _ => obtain ⟨t, rfl⟩ := r; rfl
  | byt _ => obtain ⟨t, rfl⟩ := r; rfl
  | flt _ => obtain ⟨t, rfl⟩ := r; rfl
  | ref _ => cases r; rfl
  | ty _ => cases r; rfl
theorem RelV.inj {x y : V} {u : Value} (r : RelV x u) (q : RelV y u) : x = y := Option.some.inj (r.abs.symm.trans q.abs)
theorem Vals.inj : ∀ {xs ys : List V} {us : List Value}, Vals xs us → Vals ys us → xs = ys
  | _, _, _, .nil, .nil => rfl
  | _, _, _, .cons r t, .cons r' t' => by rw [r.inj r', Vals.inj t t']
section
variable {X : Cx} {pins : List (Addr × Obj)} {σ : St} {H : Hp} {s : Shared} {a : Addr} {xs ys : List V}
theorem SqL.of {K : PySem.W.Frag} (h : H a = some (.lst xs)) : SqL K H a xs := .inl (.inl h)
theorem SqT.of {K : PySem.W.Frag} (h : H a = some (.tup xs)) : SqT K H a xs := .inl (.inl h)
theorem Inv.list (I : Inv X pins σ H s) (h : SqL X.K H a xs) : ∃ its : List Value, Vals xs its ∧ PlainL s.heap a its.toArray ∧ xs.length ≤ sizeLine := by
  rcases h with h | ⟨o, its, n, hk, hc, hd, hs, hz, r⟩
  · obtain ⟨z, its, n, r, e⟩ := h.ok I.hok
    exact ⟨its, r, ⟨_, n, e, rfl, rfl, rfl⟩, z⟩
  · refine ⟨its.toList, r, ⟨o, n, I.kIn a o hk, hc, hd, by simpa using hs⟩, ?_⟩
    have e := r.length
    simp only [Array.length_toList] at e
    omega
theorem Inv.tuple (I : Inv X pins σ H s) (h : SqT X.K H a xs) : ∃ its : List Value, Vals xs its ∧ IsTup s.heap a its.toArray ∧ xs.length ≤ sizeLine := by
  rcases h with h | ⟨o, its, n, hk, hc, hs, hz, r⟩
  · obtain ⟨z, its, r, p⟩ := h.ok I.hok
    exact ⟨its, r, p, z⟩
  · refine ⟨its.toList, r, ⟨o, I.kIn a o hk, hc, n, by simpa using hs⟩, ?_⟩
    have e := r.length
    simp only [Array.length_toList] at e
    omega
theorem Inv.list_inj (I : Inv X pins σ H s) (h : SqL X.K H a xs) (h' : SqL X.K H a ys) : xs = ys := by
  obtain ⟨its, r, ⟨o, n, e, _, _, d⟩, _⟩ := I.list h
  obtain ⟨its', r', ⟨o', n', e', _, _, d'⟩, _⟩ := I.list h'
  rw [e] at e'; cases e'
  rw [d] at d'
  injection d' with d1 _
  have : its = its' := by simpa using congrArg Array.toList d1
  subst this
  exact r.inj r'
theorem Inv.tuple_inj (I : Inv X pins σ H s) (h : SqT X.K H a xs) (h' : SqT X.K H a ys) : xs = ys := by
  obtain ⟨its, r, ⟨o, e, _, n, d⟩, _⟩ := I.tuple h
  obtain ⟨its', r', ⟨o', e', _, n', d'⟩, _⟩ := I.tuple h'
  rw [e] at e'; cases e'
  rw [d] at d'
  injection d' with d1 _
  have : its = its' := by simpa using congrArg Array.toList d1
  subst this
  exact r.inj r'
end

/-! ### another wish about exceptions -/
abbrev Cx.wish (X : Cx) (E : Value → Shared → Prop) : Cx := { X with xe := E }
/-- no exception leaves -/
abbrev Cx.nox (X : Cx) : Cx := X.wish fun _ _ => False
theorem Cx.Ok.wish {X : Cx} (ok : X.Ok) (E : Value → Shared → Prop) : (X.wish E).Ok :=
  ⟨ok.mod, ok.kind, ok.glob, ok.blt, ok.above, ok.inj, ok.has, ok.cab, ok.hd, ok.frames, ok.stk, ok.exf, ok.bs, ok.bsz, ok.noex, ok.exfs, ok.funs, ok.frf⟩
theorem Cx.Ok.unwish {X : Cx} {E : Value → Shared → Prop} (ok : (X.wish E).Ok) : X.Ok :=
  ⟨ok.mod, ok.kind, ok.glob, ok.blt, ok.above, ok.inj, ok.has, ok.cab, ok.hd, ok.frames, ok.stk, ok.exf, ok.bs, ok.bsz, ok.noex, ok.exfs, ok.funs, ok.frf⟩
section
variable {X : Cx} {pins : List (Addr × Obj)} {σ : St} {H : Hp} {s : Shared} {E : Value → Shared → Prop}
theorem Inv.wish (I : Inv X pins σ H s) (E : Value → Shared → Prop) : Inv (X.wish E) pins σ H s := ⟨I.ok.wish E, I.os, I.bare, I.base, I.loc, I.cell, I.free, I.freeC, I.pin, I.hok, I.len⟩
theorem Inv.unwish (I : Inv (X.wish E) pins σ H s) : Inv X pins σ H s := ⟨I.ok.unwish, I.os, I.bare, I.base, I.loc, I.cell, I.free, I.freeC, I.pin, I.hok, I.len⟩
theorem SP.unwish {D : Ends} {f : Flow} {s' : Shared} (h : SP (X.wish E) pins D f s') : SP X pins D f s' := by
  cases f with
  | next => obtain ⟨σ', H', I, q⟩ := h; exact ⟨σ', H', I.unwish, q⟩
  | brk => obtain ⟨σ', H', I, q⟩ := h; exact ⟨σ', H', I.unwish, q⟩
  | cont => obtain ⟨σ', H', I, q⟩ := h; exact ⟨σ', H', I.unwish, q⟩
  | ret u => obtain ⟨v, σ', H', I, r, q⟩ := h; exact ⟨v, σ', H', I.unwish, r, q⟩
theorem PE.nox {e : Expr} {t : TE} (h : PE X.nox e t) : PE X e t := fun pins s σ H Q I hw =>
  wpAny_mono (h pins s σ H Q (I.wish _) hw) (fun _ _ ⟨v, H', I', r, q⟩ => ⟨v, H', I'.unwish, r, q⟩) fun _ _ z => False.elim z
theorem PT.nox {e : Expr} {t : TT} (h : PT X.nox e t) : PT X e t := fun pins s σ H Q I hw =>
  wpAny_mono (h pins s σ H Q (I.wish _) hw) (fun _ _ ⟨H', I', q⟩ => ⟨H', I'.unwish, q⟩) fun _ _ z => False.elim z
theorem PSs.nox {st : List Stmt} {t : TS} (h : PSs X.nox st t) : PSs X st t := fun pins s σ H D I hw =>
  wpAny_mono (h pins s σ H D (I.wish _) hw) (fun _ _ q => q.unwish) fun _ _ z => False.elim z
end

/-! ### blocks and small statements -/
section
variable {X : Cx} {st : Stmt} {rest : List Stmt} {t u : TS} {e : Expr} {te : TE} {pos : Pos}
def tNext : TS := fun D σ H => D.nx σ H
def tSeq (t u : TS) : TS := fun D σ H => t { D with nx := u D } σ H
theorem pss_nil : PSs X [] tNext := fun _ _ σ H _ I h => wpAny_execs_nil ⟨σ, H, I, h⟩
theorem pss_cons (h1 : PS X st t) (h2 : PSs X rest u) : PSs X (st :: rest) (tSeq t u) := by
  intro pins s σ H D I h
  refine wpAny_execs_cons (thn (h1 pins s σ H { D with nx := u D } I h) fun f s1 q => ?_)
  cases f with
  | next =>
    obtain ⟨σ', H', I', q⟩ := q
    exact h2 pins s1 σ' H' D I' q
  | ret v => exact q
  | brk => exact q
  | cont => exact q
theorem pss_one (h1 : PS X st t) : PSs X [st] t := by
  intro pins s σ H D I h
  refine wpAny_execs_cons (thn (h1 pins s σ H D I h) fun f s1 q => ?_)
  cases f with
  | next => exact wpAny_execs_nil q
  | ret v => exact q
  | brk => exact q
  | cont => exact q
def tBreak : TS := fun D σ H => D.bk σ H
def tCont : TS := fun D σ H => D.ct σ H
theorem ps_continue : PS X (.Continue pos) tCont := fun _ _ σ H _ I h => wpAny_Continue ⟨σ, H, I, h⟩
/-- in a def's body nothing is shown -/
theorem Inv.quiet {pins : List (Addr × Obj)} {σ : St} {H : Hp} {s : Shared} (I : Inv X pins σ H s) : interactive X.env = false := by simp [interactive, I.ok.kind]
/-- an expression whose value is dropped -/
def tDrop (te : TE) : TS := fun D σ H => te σ H fun _ H1 => D.nx σ H1
theorem ps_expr (he : PE X e te) (hs : swapsWith e none pos.line X.env = pure false := by rfl) : PS X (.Expr e pos) (tDrop te) := by
  intro pins s σ H D I h
  exact wpAny_Expr_any (thn (he pins s σ H _ I h) fun v s1 ⟨x, H1, I1, r1, q1⟩ => ⟨σ, H1, I1, q1⟩) I.quiet hs
def tRet (te : TE) : TS := fun D σ H => te σ H D.rt
theorem ps_ret (he : PE X e te) : PS X (.Return (some e) pos) (tRet te) := by
  intro pins s σ H D I h
  exact wpAny_Return_some (thn (he pins s σ H _ I h) fun v s1 ⟨x, H1, I1, r1, q1⟩ => ⟨x, σ, H1, I1, r1, q1⟩)
def tRetN : TS := fun D _ H => D.rt .non H
def tIfS (c : TT) (t u : TS) : TS := fun D σ H => c σ H fun b H1 => if b = true then t D σ H1 else u D σ H1
theorem ps_if {c : Expr} {a b : List Stmt} {tc : TT} (hc : PT X c tc) (ha : PSs X a t) (hb : PSs X b u) : PS X (.If c a b pos) (tIfS tc t u) := by
  intro pins s σ H D I h
  refine wpAny_If (thn (hc pins s σ H _ I h) fun d s1 ⟨H1, I1, q1⟩ => ?_)
  cases d with
  | true => exact ha pins s1 σ H1 D I1 q1
  | false => exact hb pins s1 σ H1 D I1 q1
/-- code that the proof never comes to -/
def tNever : TS := fun _ _ _ => False
end

/-! ### targets -/
abbrev TG := V → St → Hp → (St → Hp → Prop) → Prop
abbrev TGs := List V → St → Hp → (St → Hp → Prop) → Prop
def PG (X : Cx) (target : Expr) (t : TG) : Prop :=
  ∀ (pins : List (Addr × Obj)) (s : Shared) (σ : St) (H : Hp) (v : V) (u : Value) (Q : St → Hp → Prop), Inv X pins σ H s → RelV v u → t v σ H Q →
    wpAny (model X.prog X.w) X.A (assign target X.env u) (fun _ s' => ∃ σ' H', Inv X pins σ' H' s' ∧ Q σ' H') X.xe s
/-- several targets, one after another -/
def PGs (X : Cx) (ts : List Expr) (t : TGs) : Prop :=
  ∀ (pins : List (Addr × Obj)) (s : Shared) (σ : St) (H : Hp) (vs : List V) (us : List Value) (Q : St → Hp → Prop), Inv X pins σ H s → Vals vs us → t vs σ H Q →
    wpAny (model X.prog X.w) X.A (assignInOrder ((assignEach ts X.env).map (·.2)) us) (fun _ s' => ∃ σ' H', Inv X pins σ' H' s' ∧ Q σ' H') X.xe s
/-- o[i] = v, by values -/
abbrev TSet := V → V → V → Hp → (Hp → Prop) → Prop
def PSet (X : Cx) (t : TSet) : Prop :=
  ∀ (pins : List (Addr × Obj)) (s : Shared) (σ : St) (H : Hp) (o i v : V) (ov iv u : Value) (Q : Hp → Prop), Inv X pins σ H s → RelV o ov → RelV i iv → RelV v u → t o i v H Q →
    wpAny (model X.prog X.w) X.A (setItem ov iv u) (fun _ s' => ∃ H', Inv X pins σ H' s' ∧ Q H') X.xe s
/-- a op= b, by values -/
abbrev TIp := V → V → Hp → VK → Prop
def PIp (X : Cx) (op : Operator) (t : TIp) : Prop :=
  ∀ (pins : List (Addr × Obj)) (s : Shared) (σ : St) (H : Hp) (x y : V) (v u : Value) (Q : VK), Inv X pins σ H s → RelV x v → RelV y u → t x y H Q →
    wpAny (model X.prog X.w) X.A (inplaceOp op v u) (EP X pins σ Q) X.xe s
section
variable {X : Cx} {pos : Pos}
def gName (i : Nat) : TG := fun v σ H Q => Q (σ.set i (some v)) H
theorem pg_name {i : Nat} {x : Str} (hN : X.N.Nodup) (hi : X.N[i]? = some x) (hx : Loc X.env.scope x) (hf : X.fn x = true ∨ X.env.scope.names.lookup x = some .local := by first | exact .inl rfl | exact .inr rfl | assumption) : PG X (.Name x pos) (gName i) := by
  intro pins s σ H v u Q I r h
  exact wpAny_assign_Name (store_ok I hN hi hx r (fun s' I' => ⟨_, H, I', h⟩) hf)
def gNil : TGs := fun vs σ H Q => vs = [] ∧ Q σ H
def gCons (t : TG) (u : TGs) : TGs := fun vs σ H Q => ∃ v r, vs = v :: r ∧ t v σ H fun σ' H' => u r σ' H' Q
theorem pgs_nil : PGs X [] gNil := by
  intro pins s σ H vs us Q I r h
  obtain ⟨e, h⟩ := h
  subst e
  cases r
  exact assignInOrder_nil ⟨σ, H, I, h⟩
theorem pgs_cons {e : Expr} {es : List Expr} {t : TG} {u : TGs} (h1 : PG X e t) (h2 : PGs X es u)
    (hs : (assignEach (e :: es) X.env).map (·.2) = assign e X.env :: (assignEach es X.env).map (·.2) := by rfl) : PGs X (e :: es) (gCons t u) := by
  intro pins s σ H vs us Q I r h
  obtain ⟨v, vr, e1, h⟩ := h
  subst e1
  cases r with
  | cons r rr =>
    rw [hs]
    refine assignInOrder_cons (thn (h1 pins s σ H _ _ _ I r h) fun _ s1 ⟨σ1, H1, I1, q1⟩ => ?_)
    exact h2 pins s1 σ1 H1 _ _ Q I1 rr q1
/-- (a, b, ..) = a tuple of that length -/
def gTup (K : PySem.W.Frag) (n : Nat) (t : TGs) : TG := fun v σ H Q => ∃ a xs, v = .ref a ∧ SqT K H a xs ∧ xs.length = n ∧ t xs σ H Q
theorem pg_tup {es : List Expr} {k : Nat} {t : TGs} {n : Nat} (hc : X.calm = true) (h : PGs X es t)
    (hn : (assignEach es X.env).length = n := by rfl) (hst : (assignEach es X.env).findIdx? (·.1) = none := by rfl) : PG X (.Tuple es k pos) (gTup X.K n t) := by
  intro pins s σ H v u Q I r hw
  obtain ⟨a, xs, e1, hq, hl, hw⟩ := hw
  subst e1
  cases r
  obtain ⟨its, rv, ht, hz⟩ := I.tuple hq
  refine assign_Tuple_tuple (I.ok.hd hc) ht (by simp [hn, ← hl, rv.length]) hst fun h' hx => ?_
  have I1 : Inv X pins σ H { s with heap := h' } := I.kept (t' := s.toks) fun b o e => hx b o (Nat.ne_of_lt (Heap.lt_size e)) e
  exact h pins _ σ H xs _ Q I1 (by simpa using rv) hw
/-- o[i] = .. -/
def gSub (to ti : TE) (t : TSet) : TG := fun v σ H Q => to σ H fun o H1 => ti σ H1 fun i H2 => t o i v H2 fun H3 => Q σ H3
/-- target = value -/
def tAsg (te : TE) (g : TG) : TS := fun D σ H => te σ H fun x H1 => g x σ H1 D.nx
theorem ps_asg {tg e : Expr} {te : TE} {g : TG} (he : PE X e te) (hg : PG X tg g) (hs : swapsWithSole [tg] e pos.line X.env = pure false := by rfl) (hw : swappedStores [tg] e X.env = pure none := by rfl)
    (h1 : (assignEach [tg] X.env).map (·.2) = [assign tg X.env] := by rfl) : PS X (.Assign [tg] e pos) (tAsg te g) := by
  intro pins s σ H D I h
  refine wpAny_Assign_stores (thn (he pins s σ H _ I h) fun v s1 ⟨x, H1, I1, r1, q1⟩ => ?_) hs hw
  rw [h1]
  exact thn (hg pins s1 σ H1 x v _ I1 r1 q1) fun _ s2 q => q
/-- name = value -/
theorem ps_set {i : Nat} {x : Str} {e : Expr} {te : TE} {pos' : Pos} (hN : X.N.Nodup) (hi : X.N[i]? = some x) (hx : Loc X.env.scope x) (he : PE X e te) (hs : swapsWith e (some (.Name x pos')) pos.line X.env = pure false := by rfl) (hf : X.fn x = true ∨ X.env.scope.names.lookup x = some .local := by first | exact .inl rfl | exact .inr rfl | assumption) :
    PS X (.Assign [.Name x pos'] e pos) (tAsg te (gName i)) := by
  intro pins s σ H D I h
  refine wpAny_Assign_Name (thn (he pins s σ H _ I h) fun v s1 ⟨y, H1, I1, r1, q1⟩ => ?_) hs
  exact store_ok I1 hN hi hx r1 (fun s2 I2 => ⟨_, H1, I2, q1⟩) hf
/-- a, b = x, y with plain local names: stored from the right; the pair itself is not tracked (the opening rows as in PyProof/Rows/TupAssign.lean:23) -/
def tPar (i j : Nat) (ta : TA) : TS := fun D σ H => ta σ H fun vs H1 => ∃ v w, vs = [v, w] ∧ D.nx ((σ.set i (some v)).set j (some w)) H1
theorem ps_par {i j : Nat} {x y : Str} {a b : Expr} {ta : TA} {px py pt : Pos} {kt k2 pt2} (hc : X.calm = true) (hN : X.N.Nodup) (hi : X.N[i]? = some x) (hj : X.N[j]? = some y) (hij : i ≠ j)
    (hx : X.env.scope.names.lookup x = some .local) (hy : X.env.scope.names.lookup y = some .local) (ha : PA X [a, b] ta)
    (hw : swappedStores [.Tuple [.Name x px, .Name y py] kt pt] (.Tuple [a, b] k2 pt2) X.env = pure (some [x, y]))
    (hs : swapsWithSole [.Tuple [.Name x px, .Name y py] kt pt] (.Tuple [a, b] k2 pt2) pos.line X.env = pure false := by rfl) :
    PS X (.Assign [.Tuple [.Name x px, .Name y py] kt pt] (.Tuple [a, b] k2 pt2) pos) (tPar i j ta) := by
  intro pins s σ H D I h
  rw [exec_Assign_arm]
  refine wpAny_bind (wpAny_standAt ?_)
  rw [hs]
  refine wpAny_bind (wpAny_pure ?_)
  rw [if_neg (by decide)]
  refine wpAny_bind (Tuple_ (thn (ha _ pins s σ H _ I h) fun us s1 ⟨vs, H1, I1, r1, q1⟩ => ?_))
  obtain ⟨v, w, e1, q1⟩ := q1
  subst e1
  obtain ⟨u1, u2, rfl, rv, rw'⟩ : ∃ u1 u2, us = [u1, u2] ∧ RelV v u1 ∧ RelV w u2 := by
    cases r1 with
    | cons p q =>
      cases q with
      | cons p' q' =>
        cases q'
        exact ⟨_, _, rfl, p, p'⟩
  refine wpAny_newObj_type ?_ (by show 2 ≤ sizeLine; decide)
  have I2 : Inv X pins σ H1 { s1 with heap := s1.heap.push { cls := .type "tuple", data := .seq [u1, u2].toArray } } := I1.kept (t' := s1.toks) fun b o e => Heap.get?_push_of_some _ e
  rw [hw]
  refine wpAny_bind (wpAny_pure ?_)
  show wpAny (model X.prog X.w) X.A (do rule "assign.swapped-stores"; let items ← unpackItems (.ref s1.heap.objs.size) 2 none; assignInOrder [fun v => bindName X.env y v, fun v => bindName X.env x v] items.reverse; pure Flow.next) _ _ _
  refine wpAny_bind (wpAny_rule (wpAny_bind (unpackItems_tuple (items := #[u1, u2]) (I.ok.hd hc) (IsTup.new s1.heap _) fun h' hx' => ?_)))
  have I3 := I2.kept (h' := h') (t' := s1.toks) fun b o e => hx' b o (Nat.ne_of_lt (Heap.lt_size e)) e
  show wpAny _ _ (assignInOrder [fun v => bindName X.env y v, fun v => bindName X.env x v] [u2, u1] >>= fun _ => pure Flow.next) _ _ _
  refine wpAny_bind (assignInOrder_cons (wpAny_bindName (store_ok I3 hN hj (.inl hy) rw' (fun s2 I4 => ?_) (.inr hy))))
  refine assignInOrder_cons (wpAny_bindName (store_ok I4 hN hi (.inl hx) rv (fun s3 I5 => assignInOrder_nil (wpAny_pure ?_)) (.inr hx)))
  rw [List.set_comm _ _ (Ne.symm hij)] at I5
  exact ⟨_, H1, I5, q1⟩
/-- name op= e -/
def tAug (i : Nat) (te : TE) (ti : TIp) : TS := fun D σ H => ∃ x, σ[i]? = some (some x) ∧ te σ H fun y H1 => ti x y H1 fun z H2 => D.nx (σ.set i (some z)) H2
/-- o[i] op= e -/
def tAugS (to ti te : TE) (tget : V → V → Hp → VK → Prop) (tip : TIp) (tset : TSet) : TS := fun D σ H => to σ H fun o H1 => ti σ H1 fun i H2 => tget o i H2 fun x H3 => te σ H3 fun y H4 => tip x y H4 fun z H5 => tset o i z H5 fun H6 => D.nx σ H6
/-- o[i], by values -/
def PGet (X : Cx) (t : V → V → Hp → VK → Prop) : Prop :=
  ∀ (pins : List (Addr × Obj)) (s : Shared) (σ : St) (H : Hp) (o i : V) (ov iv : Value) (Q : VK), Inv X pins σ H s → RelV o ov → RelV i iv → t o i H Q →
    wpAny (model X.prog X.w) X.A (getItem ov iv) (EP X pins σ Q) X.xe s
/-- ints -/
def ipI (f : Int → Int → Int) : TIp := fun x y H Q => ∃ i j, x = .int i ∧ y = .int j ∧ Q (.int (f i j)) H
end

/-! ### while -/
section
variable {X : Cx} {pos : Pos}
/-- the invariant W with its measure -/
def tWhile (c : TT) (tb : TS) : TS := fun D σ H => ∃ W : Nat → St → Hp → Prop, (∃ m, W m σ H) ∧ ∀ m σ H, W m σ H →
  c σ H fun b H1 => if b = true then ∃ N : St → Hp → Prop, (∀ σ' H', N σ' H' → ∃ m', m' < m ∧ W m' σ' H') ∧ tb { D with nx := N, ct := N, bk := D.nx } σ H1 else D.nx σ H1
theorem ps_while {c : Expr} {body : List Stmt} {tc : TT} {tb : TS} (hp : PassesOwn (model X.prog X.w) X.A X.env X.xe) (hc : PT X c tc) (hb : PSs X body tb) : PS X (.While c body [] pos) (tWhile tc tb) := by
  intro pins s σ H D I h
  obtain ⟨W, ⟨m0, w0⟩, turn⟩ := h
  refine wpAny_While (codeAny_whileLoop (fun n s' => ∃ σ' H', Inv X pins σ' H' s' ∧ W n σ' H') ?_ m0 ⟨σ, H, I, w0⟩)
  rintro n s1 ⟨σ1, H1, I1, w1⟩
  refine wpAny_passesOwn hp (thn (hc pins s1 σ1 H1 _ I1 (turn n σ1 H1 w1)) fun b s2 ⟨H2, I2, q2⟩ => ?_)
  cases b with
  | true =>
    obtain ⟨N, hN, q2⟩ := q2
    rw [if_pos rfl]
    refine wpAny_passesOwn hp (thn (hb pins s2 σ1 H2 _ I2 q2) fun f s3 q3 => ?_)
    cases f with
    | next =>
      obtain ⟨σ3, H3, I3, n3⟩ := q3
      obtain ⟨m', hm, w3⟩ := hN σ3 H3 n3
      exact ⟨m', hm, σ3, H3, I3, w3⟩
    | cont =>
      obtain ⟨σ3, H3, I3, n3⟩ := q3
      obtain ⟨m', hm, w3⟩ := hN σ3 H3 n3
      exact ⟨m', hm, σ3, H3, I3, w3⟩
    | brk => exact q3
    | ret v => exact q3
  | false =>
    rw [if_neg Bool.false_ne_true]
    exact wpAny_execs_nil ⟨σ1, H2, I2, q2⟩
end

/-! ### what a loop or a comprehension walks -/
/-- at turn i: it yields x (the heap may grow), or it stops -/
structure It where
  go : Nat → Hp → Prop
  yld : Nat → Hp → V → Hp → Prop
  stop : Nat → Hp → Prop
/-- the iterator's own objects may turn: they are not the frame's, not pinned, younger than the entry (or a comprehension's own) -/
def FpOk (X : Cx) (pins : List (Addr × Obj)) (H : Hp) (b : Addr) : Prop :=
  H b = none ∧ b ≠ X.env.locals ∧ b ∉ X.fs ∧ (b ∈ X.ex ∨ X.s₀.heap.objs.size ≤ b) ∧ (∀ x c, X.env.cells.lookup x = some c → c ≠ b) ∧ ∀ p ∈ X.pn ++ pins, p.1 ≠ b
theorem Inv.fpOk {X : Cx} {pins : List (Addr × Obj)} {σ : St} {H H' : Hp} {s : Shared} {b : Addr} (I : Inv X pins σ H s) (hb : s.heap.objs.size ≤ b) (hn : H' b = none) : FpOk X pins H' b := by
  refine ⟨hn, Nat.ne_of_gt (Nat.lt_of_lt_of_le I.lt hb), I.nofs hb, .inr (Nat.le_trans I.sz hb), fun x c e z => ?_, fun p hp z => ?_⟩
  · obtain ⟨v, q⟩ := I.cell x c e
    exact absurd (Nat.lt_of_lt_of_le q.lt (by rw [z]; exact hb)) (Nat.lt_irrefl _)
  · exact absurd (Nat.lt_of_lt_of_le (Heap.lt_size (I.pin p hp).1) (by rw [z]; exact hb)) (Nat.lt_irrefl _)
structure Turn (P : Program) (w : World) (K : PySem.W.Frag) (tg : Expr) (J : It) (fp : List Addr) (it : Addr) (tn : Nat → Heap → Prop) : Prop where
  mem : it ∈ fp
  obj : ∀ i h, tn i h → ∀ b ∈ fp, ∃ o, h.get? b = some o ∧ ∀ v, o.data ≠ .cell v
  keep : ∀ i h h', tn i h → (∀ b ∈ fp, ∀ o, h.get? b = some o → h'.get? b = some o) → tn i h'
  item : ∀ (X : Cx), X.prog = P → X.w = w → X.K = K → X.calm = true → ∀ (i : Nat) (pins : List (Addr × Obj)) (s : Shared) (σ : St) (H : Hp) (E : Value → Shared → Prop), Inv X pins σ H s → (∀ b ∈ fp, FpOk X pins H b) → tn i s.heap → J.go i H →
    wpAny (model P w) X.A (pyNext (.ref it)) (fun r s1 => ∃ u, r = some u ∧
      wpAny (model P w) X.A (letOwnedTupleGo tg (.ref it) u) (fun _ s2 => ∃ x H', Inv X pins σ H' s2 ∧ RelV x u ∧ J.yld i H x H' ∧ tn (i + 1) s2.heap ∧ ∀ b ∈ fp, H' b = none) E s1) E s
  done : ∀ (X : Cx), X.prog = P → X.w = w → X.K = K → X.calm = true → ∀ (i : Nat) (pins : List (Addr × Obj)) (s : Shared) (σ : St) (H : Hp) (E : Value → Shared → Prop), Inv X pins σ H s → (∀ b ∈ fp, FpOk X pins H b) → tn i s.heap → J.stop i H →
    wpAny (model P w) X.A (pyNext (.ref it)) (fun r s1 => r = none ∧ Inv X pins σ H s1) E s
  self : ∀ (A : Around) (i : Nat) (s : Shared) (Q : Value → Shared → Prop) (E : Value → Shared → Prop), tn i s.heap → Q (.ref it) s → wpAny (model P w) A (pyIter (.ref it)) Q E s
abbrev TI := St → Hp → (It → Hp → Prop) → Prop
/-- an iterator has come -/
def PIE (X : Cx) (pins : List (Addr × Obj)) (σ : St) (tg : Expr) (R : It → Hp → Prop) (itv : Value) (s2 : Shared) : Prop :=
  ∃ (it : Addr) (fp : List Addr) (tn : Nat → Heap → Prop) (J : It) (H' : Hp), itv = .ref it ∧ Inv X pins σ H' s2 ∧ Turn X.prog X.w X.K tg J fp it tn ∧ tn 0 s2.heap ∧ (∀ b ∈ fp, FpOk X pins H' b) ∧ R J H'
def PI (X : Cx) (tg iter : Expr) (wi : TI) : Prop :=
  ∀ (pins : List (Addr × Obj)) (s : Shared) (σ : St) (H : Hp) (R : It → Hp → Prop), Inv X pins σ H s → wi σ H R →
    wpAny (model X.prog X.w) X.A (eval iter X.env) (fun v s1 => wpAny (model X.prog X.w) X.A (pyIter v) (PIE X pins σ tg R) X.xe s1) X.xe s

/-- the step ahead of the store is nothing for an iterator that keeps no tuple -/
theorem go_of {M : Model} {A : Around} {E : Value → Shared → Prop} {s : Shared} {tg : Expr} {it : Addr} {u : Value} {o : Obj} {n : String} {vs : Array Value} {Q : Unit → Shared → Prop} (ho : s.heap.get? it = some o) (hc : o.cls = .type n) (hd : o.data = .fields vs)
    (hn : ["enumerate", "zip", "dict_itemiterator", "dict_reverseitemiterator", "odict_iterator", "itertools.zip_longest", "itertools.pairwise"].contains n = false) (hQ : Q () s) : wpAny M A (letOwnedTupleGo tg (.ref it) u) Q E s := by
  unfold letOwnedTupleGo
  cases tg <;> first
    | exact wpAny_pure hQ
    | (cases u <;> first
        | exact wpAny_pure hQ
        | (refine wpAny_bind (wpAny_load ho ?_)
           rw [hc, hd]
           show wpAny M A (if (["enumerate", "zip", "dict_itemiterator", "dict_reverseitemiterator", "odict_iterator", "itertools.zip_longest", "itertools.pairwise"].contains n && vs[0]? == some (rawInt _)) = true then _ else _) Q E s
           rw [if_neg (by intro h; rw [hn, Bool.false_and] at h; cases h)]
           exact wpAny_pure hQ))

/-- the list at a, as it stands at each turn (a loop may append to it) -/
def Itl (K : PySem.W.Frag) (a : Addr) : It :=
  ⟨fun i H => ∃ xs x, SqL K H a xs ∧ xs[i]? = some x, fun i H x H' => H' = H ∧ ∀ xs, SqL K H a xs → xs[i]? = some x, fun i H => ∃ xs, SqL K H a xs ∧ xs.length ≤ i⟩
def Itt (K : PySem.W.Frag) (a : Addr) : It :=
  ⟨fun i H => ∃ xs x, SqT K H a xs ∧ xs[i]? = some x, fun i H x H' => H' = H ∧ ∀ xs, SqT K H a xs → xs[i]? = some x, fun i H => ∃ xs, SqT K H a xs ∧ xs.length ≤ i⟩
/-- lo, lo + 1, .. (n of them) -/
def Itr (lo : Int) (n : Nat) : It := ⟨fun i _ => i < n, fun i H x H' => H' = H ∧ x = .int (lo + i), fun i _ => n ≤ i⟩
theorem turn_list {P : Program} {w : World} {K : PySem.W.Frag} {tg : Expr} (a it : Addr) : Turn P w K tg (Itl K a) [it] it (fun i h => h.IsListIter it a i) where
  mem := by simp
  obj := fun i h st b hb => by
    have e : b = it := by simpa using hb
    subst e
    obtain ⟨o, e, c, d⟩ := st
    exact ⟨o, e, fun v z => by rw [d] at z; cases z⟩
  keep := fun i h h' st k => st.at fun o e => k it (by simp) o e
  item := by
    intro X hP hw hK hc i pins s σ H E I hf st hg
    subst hP hw hK
    obtain ⟨xs, x, hq, hx⟩ := hg
    obtain ⟨its, rv, p, hz⟩ := I.list hq
    obtain ⟨u, hu, ru⟩ := rv.get hx
    obtain ⟨f0, f1, f2, f3, f4, f5⟩ := hf it (by simp)
    refine wpAny_pyNext_list_item st p.isList (x := u) (by simpa using hu) fun h' st' sb => ?_
    have I1 : Inv X pins σ H { s with heap := h' } := I.turned (t' := s.toks) (fun b o hb e => (sb.2 b hb).trans e) f0 f1 f3 f4 f5
    obtain ⟨o, e, c, d⟩ := id st'
    exact ⟨u, rfl, go_of (s := { s with heap := h' }) e c d (by decide) ⟨x, H, I1, ru, ⟨rfl, fun ys hy => by rw [I.list_inj hy hq]; exact hx⟩, st', fun b hb => (hf b hb).1⟩⟩
  done := by
    intro X hP hw hK hc i pins s σ H E I hf st hg
    subst hP hw hK
    obtain ⟨xs, hq, hx⟩ := hg
    obtain ⟨its, rv, p, hz⟩ := I.list hq
    obtain ⟨f0, f1, f2, f3, f4, f5⟩ := hf it (by simp)
    have hl := rv.length
    exact wpAny_pyNext_list_end (I.ok.hd hc) st p.isList (by simp; omega) fun h' eb => ⟨rfl, I.turned (t' := s.toks) (fun b o hb e => eb b o hb e) f0 f1 f3 f4 f5⟩
  self := fun _ _ _ _ _ st h => wpAny_pyIter_listiter st h
theorem turn_tuple {P : Program} {w : World} {K : PySem.W.Frag} {tg : Expr} (a it : Addr) : Turn P w K tg (Itt K a) [it] it (fun i h => h.IsTupleIter it a i) where
  mem := by simp
  obj := fun i h st b hb => by
    have e : b = it := by simpa using hb
    subst e
    obtain ⟨o, e, c, d⟩ := st
    exact ⟨o, e, fun v z => by rw [d] at z; cases z⟩
  keep := fun i h h' st k => st.at fun o e => k it (by simp) o e
  item := by
    intro X hP hw hK hc i pins s σ H E I hf st hg
    subst hP hw hK
    obtain ⟨xs, x, hq, hx⟩ := hg
    obtain ⟨its, rv, p, hz⟩ := I.tuple hq
    obtain ⟨u, hu, ru⟩ := rv.get hx
    obtain ⟨f0, f1, f2, f3, f4, f5⟩ := hf it (by simp)
    refine wpAny_pyNext_tuple_item st (show s.heap.IsTuple a its.toArray from p) (x := u) (by simpa using hu) fun h' st' sb => ?_
    have I1 : Inv X pins σ H { s with heap := h' } := I.turned (t' := s.toks) (fun b o hb e => (sb.2 b hb).trans e) f0 f1 f3 f4 f5
    obtain ⟨o, e, c, d⟩ := id st'
    exact ⟨u, rfl, go_of (s := { s with heap := h' }) e c d (by decide) ⟨x, H, I1, ru, ⟨rfl, fun ys hy => by rw [I.tuple_inj hy hq]; exact hx⟩, st', fun b hb => (hf b hb).1⟩⟩
  done := by
    intro X hP hw hK hc i pins s σ H E I hf st hg
    subst hP hw hK
    obtain ⟨xs, hq, hx⟩ := hg
    obtain ⟨its, rv, p, hz⟩ := I.tuple hq
    obtain ⟨f0, f1, f2, f3, f4, f5⟩ := hf it (by simp)
    have hl := rv.length
    exact wpAny_pyNext_tuple_end (I.ok.hd hc) st (show s.heap.IsTuple a its.toArray from p) (by simp; omega) fun h' eb => ⟨rfl, I.turned (t' := s.toks) (fun b o hb e => eb b o hb e) f0 f1 f3 f4 f5⟩
  self := fun _ _ _ _ _ st h => wpAny_pyIter_tupleiter st h
theorem turn_range {P : Program} {w : World} {K : PySem.W.Frag} {tg : Expr} (it : Addr) (lo : Int) (n : Nat) : Turn P w K tg (Itr lo n) [it] it (fun i h => IsRangeIter h it (lo + (i : Nat) * 1) ((n : Int) - (i : Nat)) 1) where
  mem := by simp
  obj := fun i h st b hb => by
    have e : b = it := by simpa using hb
    subst e
    exact ⟨_, st, fun v z => by
      have z' : Data.fields _ = Data.cell v := z
      cases z'⟩
  keep := fun i h h' st k => k it (by simp) _ st
  item := by
    intro X hP hw hK hc i pins s σ H E I hf st hg
    subst hP hw hK
    obtain ⟨f0, f1, f2, f3, f4, f5⟩ := hf it (by simp)
    have W := Walks.range (prog := X.prog) (w := X.w) (I.ok.hd hc) it lo 1 n
    refine W.item i s _ _ hg st fun v h' tk hv st' kk => ?_
    obtain ⟨t, rfl⟩ := hv
    have I1 : Inv X pins σ H { s with heap := h', toks := tk } := I.turned (fun b o hb e => kk b o (by simpa using hb) e) f0 f1 f3 f4 f5
    refine ⟨_, rfl, go_of (s := { s with heap := h', toks := tk }) (n := "range_iterator") st' rfl rfl (by decide) ⟨.int (lo + i), H, I1, ⟨t, ?_⟩, ⟨rfl, rfl⟩, st', fun b hb => (hf b hb).1⟩⟩
    rw [Int.mul_one]
  done := by
    intro X hP hw hK hc i pins s σ H E I hf st hg
    subst hP hw hK
    obtain ⟨f0, f1, f2, f3, f4, f5⟩ := hf it (by simp)
    exact wpAny_pyNext_range_end (I.ok.hd hc) st (by have : n ≤ i := hg; omega) fun h' eb => ⟨rfl, I.turned (t' := s.toks) (fun b o hb e => eb b o hb e) f0 f1 f3 f4 f5⟩
  self := fun _ _ _ _ _ st h => wpAny_pyIter_rangeiter st h
end L2

namespace L2
open PySem PySem.Spec PyProof.Rows
section
variable {X : Cx} {tg : Expr}
def iList (K : PySem.W.Frag) (tl : TE) : TI := fun σ H R => tl σ H fun x H1 => ∃ a, x = .ref a ∧ (∃ xs, SqL K H1 a xs) ∧ R (Itl K a) H1
def iTup (K : PySem.W.Frag) (tl : TE) : TI := fun σ H R => tl σ H fun x H1 => ∃ a, x = .ref a ∧ (∃ xs, SqT K H1 a xs) ∧ R (Itt K a) H1
theorem pi_list {l : Expr} {tl : TE} (hl : PE X l tl) : PI X tg l (iList X.K tl) := by
  intro pins s σ H R I h
  refine thn (hl pins s σ H _ I h) fun v s1 ⟨x, H1, I1, r1, q1⟩ => ?_
  obtain ⟨a, e, ⟨xs, hq⟩, q⟩ := q1
  subst e
  cases r1
  obtain ⟨its, rv, p, hz⟩ := I1.list hq
  refine wpAny_pyIter_list p.isList ?_
  refine ⟨s1.heap.objs.size, [s1.heap.objs.size], _, _, H1, rfl, I1.kept (t' := s1.toks) fun b o e => Heap.get?_push_of_some _ e, turn_list a _, ⟨_, Heap.get?_push_size _ rfl, rfl, rfl⟩, fun b hb => ?_, q⟩
  have e : b = s1.heap.objs.size := by simpa using hb
  subst e
  exact I1.fpOk (Nat.le_refl _) (I1.hok.fresh (Nat.le_refl _))
theorem pi_tup {l : Expr} {tl : TE} (hl : PE X l tl) : PI X tg l (iTup X.K tl) := by
  intro pins s σ H R I h
  refine thn (hl pins s σ H _ I h) fun v s1 ⟨x, H1, I1, r1, q1⟩ => ?_
  obtain ⟨a, e, ⟨xs, hq⟩, q⟩ := q1
  subst e
  cases r1
  obtain ⟨its, rv, p, hz⟩ := I1.tuple hq
  refine wpAny_pyIter_tuple (show s1.heap.IsTuple a its.toArray from p) ?_
  refine ⟨s1.heap.objs.size, [s1.heap.objs.size], _, _, H1, rfl, I1.kept (t' := s1.toks) fun b o e => Heap.get?_push_of_some _ e, turn_tuple a _, ⟨_, Heap.get?_push_size _ rfl, rfl, rfl⟩, fun b hb => ?_, q⟩
  have e : b = s1.heap.objs.size := by simpa using hb
  subst e
  exact I1.fpOk (Nat.le_refl _) (I1.hok.fresh (Nat.le_refl _))
/-- a range object just made, walked -/
theorem range_it {pins : List (Addr × Obj)} {σ : St} {H : Hp} {s : Shared} {R : It → Hp → Prop} {E : Value → Shared → Prop} {lo hi : Int} {t u v : Tok} {tk : Nat} (I : Inv X pins σ H s) (h1 : -(2 ^ 62) ≤ lo) (h2 : lo < 2 ^ 62) (h3 : -(2 ^ 62) ≤ hi) (h4 : hi < 2 ^ 62)
    (q : R (Itr lo (hi - lo).toNat) H) : wpAny (model X.prog X.w) X.A (pyIter (.ref s.heap.objs.size)) (PIE X pins σ tg R) E { s with heap := s.heap.push { cls := .type "range", data := .fields #[.int lo t, .int hi u, .int 1 v] }, toks := tk } := by
  refine wpAny_pyIter_range (IsRange.new ..) (small_one h1 h2 h3 h4) ?_
  have I1 : Inv X pins σ H { s with heap := s.heap.push { cls := .type "range", data := .fields #[.int lo t, .int hi u, .int 1 v] }, toks := tk } := I.kept fun b o e => Heap.get?_push_of_some _ e
  refine ⟨(s.heap.push { cls := .type "range", data := .fields #[.int lo t, .int hi u, .int 1 v] }).objs.size, [(s.heap.push { cls := .type "range", data := .fields #[.int lo t, .int hi u, .int 1 v] }).objs.size], _, _, H, rfl,
    I1.kept (t' := tk) fun b o e => Heap.get?_push_of_some _ e, turn_range _ lo (hi - lo).toNat, ?_, fun b hb => ?_, q⟩
  · have e1 : lo + ((0 : Nat) : Int) * 1 = lo := by simp
    have e2 : (((hi - lo).toNat : Nat) : Int) - ((0 : Nat) : Int) = Builtin.Range.rangeSize lo hi 1 := by rw [rangeSize_one]; split <;> omega
    show IsRangeIter _ _ (lo + ((0 : Nat) : Int) * 1) ((((hi - lo).toNat : Nat) : Int) - ((0 : Nat) : Int)) 1
    rw [e1, e2]
    exact Heap.get?_push_size _ rfl
  · have e : b = (s.heap.push { cls := .type "range", data := .fields #[.int lo t, .int hi u, .int 1 v] }).objs.size := by simpa using hb
    subst e
    exact I1.fpOk (Nat.le_refl _) (I1.hok.fresh (Nat.le_refl _))
def iRng1 (ta : TA) : TI := fun σ H R => ta σ H fun vs H1 => ∃ j : Int, vs = [.int j] ∧ -(2 ^ 62) ≤ j ∧ j < 2 ^ 62 ∧ R (Itr 0 j.toNat) H1
def iRng2 (ta : TA) : TI := fun σ H R => ta σ H fun vs H1 => ∃ i j : Int, vs = [.int i, .int j] ∧ (-(2 ^ 62) ≤ i ∧ i < 2 ^ 62 ∧ -(2 ^ 62) ≤ j ∧ j < 2 ^ 62) ∧ R (Itr i (j - i).toNat) H1
theorem pi_range1 {a : Expr} {ta : TA} {p pos : Pos} (hg : Gl X "range") (hm : X.mg "range" = none) (ha : PA X [a] ta) (hs : starEach [a] X.env = [(false, eval a X.env)] := by rfl) : PI X tg (.Call (.Name "range" p) [a] [] pos) (iRng1 ta) := by
  intro pins s σ H R I h
  refine Call_ (ld_blt I hg hm boot_range (PyProof.Rows.callWith_type1 (thn (ha pos pins s σ H _ I h) fun us s1 ⟨vs, H1, I1, r1, q1⟩ => ?_) hs rfl))
  obtain ⟨j, e, q1, q2, q⟩ := q1
  subst e
  cases r1 with
  | cons r rr =>
    cases rr
    obtain ⟨t, rfl⟩ := r
    exact call_range_1 (range_it I1 (by omega) (by omega) q1 q2 (by simpa using q))

/-! ### for -/
/-- W: the invariant by the turn and a measure; N: what the body is to reach -/
def tFor (wi : TI) (g : TG) (tb : TS) : TS := fun D σ H => wi σ H fun J H1 => ∃ W : Nat → Nat → St → Hp → Prop, (∃ m, W 0 m σ H1) ∧ ∀ i m σ H, W i m σ H →
  (J.stop i H ∧ D.nx σ H) ∨ (J.go i H ∧ ∃ N : St → Hp → Prop, (∀ σ' H', N σ' H' → ∃ m', m' < m ∧ W (i + 1) m' σ' H') ∧ ∀ x H', J.yld i H x H' → g x σ H' fun σ2 H2 => tb { D with nx := N, ct := N, bk := D.nx } σ2 H2)
/-- the records at fp as they stand -/
def pinsAt (fp : List Addr) (h : Heap) : List (Addr × Obj) := fp.filterMap fun b => (h.get? b).map fun o => (b, o)
theorem mem_pinsAt {fp : List Addr} {h : Heap} {b : Addr} {o : Obj} (hb : b ∈ fp) (e : h.get? b = some o) : (b, o) ∈ pinsAt fp h := List.mem_filterMap.mpr ⟨b, hb, by rw [e]; rfl⟩
theorem of_pinsAt {fp : List Addr} {h : Heap} {p : Addr × Obj} (hp : p ∈ pinsAt fp h) : p.1 ∈ fp ∧ h.get? p.1 = some p.2 := by
  obtain ⟨b, hb, e⟩ := List.mem_filterMap.mp hp
  cases q : h.get? b with
  | none => rw [q] at e; cases e
  | some o =>
    rw [q] at e
    have e' : (b, o) = p := Option.some.inj e
    subst e'
    exact ⟨hb, q⟩
theorem Inv.pinned {pins : List (Addr × Obj)} {σ : St} {H : Hp} {s : Shared} {fp : List Addr} (I : Inv X pins σ H s) (hf : ∀ b ∈ fp, FpOk X pins H b) (ho : ∀ b ∈ fp, ∃ o, s.heap.get? b = some o ∧ ∀ v, o.data ≠ .cell v) : Inv X (pins ++ pinsAt fp s.heap) σ H s :=
  I.pins_of fun p hp => (List.mem_append.mp hp).elim (fun z => I.pin p (List.mem_append_right _ z)) fun z => by
    obtain ⟨hb, e⟩ := of_pinsAt z
    obtain ⟨f0, f1, f2, _⟩ := hf p.1 hb
    obtain ⟨o, e', d⟩ := ho p.1 hb
    rw [e] at e'; cases e'
    exact ⟨e, f0, f1, f2, d⟩
theorem Inv.unpinned {pins pl : List (Addr × Obj)} {σ : St} {H : Hp} {s : Shared} (I : Inv X (pins ++ pl) σ H s) : Inv X pins σ H s := I.pins_of fun p hp => I.pin p (List.mem_append_right _ (List.mem_append_left _ hp))
theorem ps_for {iter : Expr} {body : List Stmt} {wi : TI} {g : TG} {tb : TS} {pos : Pos} (hp : PassesOwn (model X.prog X.w) X.A X.env X.xe) (hc : X.calm = true) (hi : PI X tg iter wi) (hg : PG X tg g) (hb : PSs X body tb)
    (hs : ∀ x, foldedSetIterable iter X.env x = pure x := by intro _; rfl) : PS X (.For tg iter body [] pos) (tFor wi g tb) := by
  intro pins s σ H D I h
  refine wpAny_For (thn (hi pins s σ H _ I h) fun v s1 h1 => thn h1 fun itv s2 h2 => ?_) hs
  obtain ⟨it, fp, tn, J, H2, e, I2, T, st2, f2, W, ⟨m0, w0⟩, turn⟩ := h2
  subst e
  -- what stays true of the iterator's objects through the loop
  have stat : ∀ {H' : Hp}, (∀ b ∈ fp, H' b = none) → ∀ b ∈ fp, FpOk X pins H' b := fun hn b hb => ⟨hn b hb, (f2 b hb).2⟩
  refine codeAny_forLoop_any (fun n s' => ∃ i σ' H', Inv X pins σ' H' s' ∧ tn i s'.heap ∧ (∀ b ∈ fp, H' b = none) ∧ W i n σ' H') ?_ m0 ⟨0, σ, H2, I2, st2, fun b hb => (f2 b hb).1, w0⟩
  rintro n s3 ⟨i, σ3, H3, I3, st3, fr3, w3⟩
  rcases turn i n σ3 H3 w3 with ⟨stop, qn⟩ | ⟨go, N, hN, step⟩
  · refine wpAny_passesOwn hp (thn (T.done X rfl rfl rfl hc i pins s3 σ3 H3 X.xe I3 (stat fr3) st3 stop) fun r s4 ⟨hr, I4⟩ => ?_)
    subst hr
    exact wpAny_execs_nil ⟨σ3, H3, I4, qn⟩
  · refine wpAny_passesOwn hp (thn (T.item X rfl rfl rfl hc i pins s3 σ3 H3 X.xe I3 (stat fr3) st3 go) fun r s4 ⟨u, hr, h4⟩ => ?_)
    subst hr
    refine wpAny_passesOwn hp (thn h4 fun _ s5 ⟨x, H5, I5, r5, y5, st5, fr5⟩ => ?_)
    have I5' := I5.pinned (stat fr5) (T.obj _ _ st5)
    refine wpAny_passesOwn hp (thn (hg _ s5 σ3 H5 x u _ I5' r5 (step x H5 y5)) fun _ s6 ⟨σ6, H6, I6, q6⟩ => ?_)
    refine wpAny_passesOwn hp (thn (hb _ s6 σ6 H6 _ I6 q6) fun f s7 q7 => ?_)
    have again : ∀ {σ7 : St} {H7 : Hp}, Inv X (pins ++ pinsAt fp s5.heap) σ7 H7 s7 → N σ7 H7 → ∃ m, m < n ∧ ∃ i σ' H', Inv X pins σ' H' s7 ∧ tn i s7.heap ∧ (∀ b ∈ fp, H' b = none) ∧ W i m σ' H' := fun {σ7 H7} I7 n7 => by
      obtain ⟨m', hm, w7⟩ := hN σ7 H7 n7
      refine ⟨m', hm, i + 1, σ7, H7, I7.unpinned, T.keep _ _ _ st5 fun b hb o e => (I7.pin (b, o) (List.mem_append_right _ (List.mem_append_right _ (mem_pinsAt hb e)))).1, fun b hb => ?_, w7⟩
      obtain ⟨o, e, d⟩ := T.obj _ _ st5 b hb
      exact (I7.pin (b, o) (List.mem_append_right _ (List.mem_append_right _ (mem_pinsAt hb e)))).2.1
    cases f with
    | next => obtain ⟨σ7, H7, I7, n7⟩ := q7; exact again I7 n7
    | cont => obtain ⟨σ7, H7, I7, n7⟩ := q7; exact again I7 n7
    | brk => obtain ⟨σ7, H7, I7, q7⟩ := q7; exact ⟨σ7, H7, I7.unpinned, q7⟩
    | ret v => obtain ⟨x7, σ7, H7, I7, r7, q7⟩ := q7; exact ⟨x7, σ7, H7, I7.unpinned, r7, q7⟩
end

/-! ### the forms one uses -/
/-- over a list that the body leaves as it is -/
theorem for_list {K : PySem.W.Frag} {a : Addr} {xs : List V} {g : TG} {tb : TS} {D : Ends} {σ : St} {H : Hp} (Pv : Nat → St → Hp → Prop) (h0 : Pv 0 σ H) (hl : ∀ i σ H, i ≤ xs.length → Pv i σ H → SqL K H a xs)
    (hs : ∀ i x σ H, xs[i]? = some x → Pv i σ H → g x σ H fun σ2 H2 => tb { D with nx := Pv (i + 1), ct := Pv (i + 1), bk := D.nx } σ2 H2) (hd : ∀ σ H, Pv xs.length σ H → D.nx σ H) :
    ∃ W : Nat → Nat → St → Hp → Prop, (∃ m, W 0 m σ H) ∧ ∀ i m σ H, W i m σ H →
      ((Itl K a).stop i H ∧ D.nx σ H) ∨ ((Itl K a).go i H ∧ ∃ N : St → Hp → Prop, (∀ σ' H', N σ' H' → ∃ m', m' < m ∧ W (i + 1) m' σ' H') ∧ ∀ x H', (Itl K a).yld i H x H' → g x σ H' fun σ2 H2 => tb { D with nx := N, ct := N, bk := D.nx } σ2 H2) := by
  refine ⟨fun i m σ H => m = xs.length - i ∧ i ≤ xs.length ∧ Pv i σ H, ⟨xs.length, by simp, Nat.zero_le _, h0⟩, ?_⟩
  rintro i m σ H ⟨rfl, hi, p⟩
  have q := hl i σ H hi p
  by_cases hlt : i < xs.length
  · refine .inr ⟨⟨xs, xs[i], q, by simp [hlt]⟩, Pv (i + 1), fun σ' H' p' => ⟨xs.length - (i + 1), by omega, rfl, hlt, p'⟩, fun x H' y => ?_⟩
    obtain ⟨e, y⟩ := y
    subst e
    exact hs i x σ _ (y xs q) p
  · have e : i = xs.length := by omega
    subst e
    exact .inl ⟨⟨xs, q, Nat.le_refl _⟩, hd σ H p⟩
theorem for_tup {K : PySem.W.Frag} {a : Addr} {xs : List V} {g : TG} {tb : TS} {D : Ends} {σ : St} {H : Hp} (Pv : Nat → St → Hp → Prop) (h0 : Pv 0 σ H) (hl : ∀ i σ H, i ≤ xs.length → Pv i σ H → SqT K H a xs)
    (hs : ∀ i x σ H, xs[i]? = some x → Pv i σ H → g x σ H fun σ2 H2 => tb { D with nx := Pv (i + 1), ct := Pv (i + 1), bk := D.nx } σ2 H2) (hd : ∀ σ H, Pv xs.length σ H → D.nx σ H) :
    ∃ W : Nat → Nat → St → Hp → Prop, (∃ m, W 0 m σ H) ∧ ∀ i m σ H, W i m σ H →
      ((Itt K a).stop i H ∧ D.nx σ H) ∨ ((Itt K a).go i H ∧ ∃ N : St → Hp → Prop, (∀ σ' H', N σ' H' → ∃ m', m' < m ∧ W (i + 1) m' σ' H') ∧ ∀ x H', (Itt K a).yld i H x H' → g x σ H' fun σ2 H2 => tb { D with nx := N, ct := N, bk := D.nx } σ2 H2) := by
  refine ⟨fun i m σ H => m = xs.length - i ∧ i ≤ xs.length ∧ Pv i σ H, ⟨xs.length, by simp, Nat.zero_le _, h0⟩, ?_⟩
  rintro i m σ H ⟨rfl, hi, p⟩
  have q := hl i σ H hi p
  by_cases hlt : i < xs.length
  · refine .inr ⟨⟨xs, xs[i], q, by simp [hlt]⟩, Pv (i + 1), fun σ' H' p' => ⟨xs.length - (i + 1), by omega, rfl, hlt, p'⟩, fun x H' y => ?_⟩
    obtain ⟨e, y⟩ := y
    subst e
    exact hs i x σ _ (y xs q) p
  · have e : i = xs.length := by omega
    subst e
    exact .inl ⟨⟨xs, q, Nat.le_refl _⟩, hd σ H p⟩
theorem for_range {lo : Int} {n : Nat} {g : TG} {tb : TS} {D : Ends} {σ : St} {H : Hp} (Pv : Nat → St → Hp → Prop) (h0 : Pv 0 σ H)
    (hs : ∀ i σ H, i < n → Pv i σ H → g (.int (lo + i)) σ H fun σ2 H2 => tb { D with nx := Pv (i + 1), ct := Pv (i + 1), bk := D.nx } σ2 H2) (hd : ∀ σ H, Pv n σ H → D.nx σ H) :
    ∃ W : Nat → Nat → St → Hp → Prop, (∃ m, W 0 m σ H) ∧ ∀ i m σ H, W i m σ H →
      ((Itr lo n).stop i H ∧ D.nx σ H) ∨ ((Itr lo n).go i H ∧ ∃ N : St → Hp → Prop, (∀ σ' H', N σ' H' → ∃ m', m' < m ∧ W (i + 1) m' σ' H') ∧ ∀ x H', (Itr lo n).yld i H x H' → g x σ H' fun σ2 H2 => tb { D with nx := N, ct := N, bk := D.nx } σ2 H2) := by
  refine ⟨fun i m σ H => m = n - i ∧ i ≤ n ∧ Pv i σ H, ⟨n, by simp, Nat.zero_le _, h0⟩, ?_⟩
  rintro i m σ H ⟨rfl, hi, p⟩
  by_cases hlt : i < n
  · refine .inr ⟨hlt, Pv (i + 1), fun σ' H' p' => ⟨n - (i + 1), by omega, rfl, hlt, p'⟩, fun x H' y => ?_⟩
    obtain ⟨e, y⟩ := y
    subst e y
    exact hs i σ _ hlt p
  · have e : i = n := by omega
    subst e
    exact .inl ⟨Nat.le_refl _, hd σ H p⟩
/-- while, by a word and a measure of the state -/
theorem while_by {c : TT} {tb : TS} {D : Ends} {σ : St} {H : Hp} (Pv : St → Hp → Prop) (μ : St → Hp → Nat) (h0 : Pv σ H)
    (hs : ∀ σ H, Pv σ H → c σ H fun b H1 => if b = true then tb { D with nx := fun σ' H' => Pv σ' H' ∧ μ σ' H' < μ σ H, ct := fun σ' H' => Pv σ' H' ∧ μ σ' H' < μ σ H, bk := D.nx } σ H1 else D.nx σ H1)
    (mono : ∀ σ H Q Q', (∀ b H1, Q b H1 → Q' b H1) → c σ H Q → c σ H Q') : tWhile c tb D σ H := by
  refine ⟨fun m σ H => m = μ σ H ∧ Pv σ H, ⟨_, rfl, h0⟩, ?_⟩
  rintro m σ H ⟨rfl, p⟩
  refine mono σ H _ _ (fun b H1 q => ?_) (hs σ H p)
  cases b with
  | true => exact ⟨_, fun σ' H' ⟨p', l⟩ => ⟨_, l, rfl, p'⟩, q⟩
  | false => exact q
end L2

namespace L2
open PySem PySem.Spec PyProof.Rows

abbrev R2 := V → V → Hp → VK → Prop
/-- a two-place operation on values: f is binaryOp op, inplaceOp op or compareOp op -/
def OpR (X : Cx) (f : Value → Value → Sem Value) (r : R2) : Prop :=
  ∀ (pins : List (Addr × Obj)) (s : Shared) (σ : St) (H : Hp) (x y : V) (v u : Value) (Q : VK), Inv X pins σ H s → RelV x v → RelV y u → r x y H Q →
    wpAny (model X.prog X.w) X.A (f v u) (EP X pins σ Q) X.xe s
/-- a one-place operation -/
def UnR (X : Cx) (f : Value → Sem Value) (r : V → Hp → VK → Prop) : Prop :=
  ∀ (pins : List (Addr × Obj)) (s : Shared) (σ : St) (H : Hp) (x : V) (v : Value) (Q : VK), Inv X pins σ H s → RelV x v → r x H Q →
    wpAny (model X.prog X.w) X.A (f v) (EP X pins σ Q) X.xe s
/-- a call of a value that is known (a builtin, a type) with values -/
def CallR (X : Cx) (f : Value) (r : List V → Hp → VK → Prop) : Prop :=
  ∀ (pins : List (Addr × Obj)) (s : Shared) (σ : St) (H : Hp) (xs : List V) (us : List Value) (Q : VK), Inv X pins σ H s → Vals xs us → r xs H Q →
    wpAny (model X.prog X.w) X.A (call f us) (EP X pins σ Q) X.xe s
/-- a value's truth -/
def TruR (X : Cx) (r : V → Hp → (Bool → Hp → Prop) → Prop) : Prop :=
  ∀ (pins : List (Addr × Obj)) (s : Shared) (σ : St) (H : Hp) (x : V) (v : Value) (Q : Bool → Hp → Prop), Inv X pins σ H s → RelV x v → r x H Q →
    wpAny (model X.prog X.w) X.A (truthy v) (TP X pins σ Q) X.xe s

def tOp (r : R2) (ta tb : TE) : TE := fun σ H Q => ta σ H fun x H1 => tb σ H1 fun y H2 => r x y H2 Q
def tUn (r : V → Hp → VK → Prop) (ta : TE) : TE := fun σ H Q => ta σ H fun x H1 => r x H1 Q
/-- ints in, under C, and a value out -/
def rI (C : Int → Int → Prop) (g : Int → Int → V) : R2 := fun x y H Q => ∃ i j, x = .int i ∧ y = .int j ∧ C i j ∧ Q (g i j) H
def rI0 (g : Int → Int → V) : R2 := fun x y H Q => ∃ i j, x = .int i ∧ y = .int j ∧ Q (g i j) H
def rU (g : Int → V) : V → Hp → VK → Prop := fun x H Q => ∃ i, x = .int i ∧ Q (g i) H

section
variable {X : Cx} {a b c : Expr} {ta tb tc : TE} {pos : Pos}

theorem binT (ha : PE X a ta) (hb : PE X b tb) {pins : List (Addr × Obj)} {s : Shared} {σ : St} {H : Hp} {R : V → V → Hp → Prop} (I : Inv X pins σ H s)
    (h : ta σ H fun x H1 => tb σ H1 fun y H2 => R x y H2) {Q : Value → Shared → Prop} {f : Value → Value → Sem Value}
    (hf : ∀ v u s2 x y H2, Inv X pins σ H2 s2 → RelV x v → RelV y u → R x y H2 → wpAny (model X.prog X.w) X.A (f v u) Q X.xe s2) :
    wpAny (model X.prog X.w) X.A (eval a X.env) (fun v s₁ => wpAny (model X.prog X.w) X.A (eval b X.env) (fun u s₂ => wpAny (model X.prog X.w) X.A (f v u) Q X.xe s₂) X.xe s₁) X.xe s := by
  refine thn (ha pins s σ H _ I h) fun v s1 ⟨x, H1, I1, r1, q1⟩ => ?_
  refine thn (hb pins s1 σ H1 _ I1 q1) fun u s2 ⟨y, H2, I2, r2, q2⟩ => ?_
  exact hf v u s2 x y H2 I2 r1 r2 q2

theorem pe_op {op : Operator} {r : R2} (ho : OpR X (binaryOp op) r) (ha : PE X a ta) (hb : PE X b tb) : PE X (.BinOp a op b pos) (tOp r ta tb) := by
  intro pins s σ H Q I h
  exact wpAny_BinOp (binT ha hb I h fun v u s2 x y H2 I2 rx ry q => ho pins s2 σ H2 x y v u Q I2 rx ry q)
theorem pe_un {op : UnaryOp} {r : V → Hp → VK → Prop} (ho : UnR X (unaryOp op) r) (ha : PE X a ta) : PE X (.UnaryOp op a pos) (tUn r ta) := by
  intro pins s σ H Q I h
  exact UnaryOp_ (thn (ha pins s σ H _ I h) fun v s1 ⟨x, H1, I1, r1, q1⟩ => ho pins s1 σ H1 x v Q I1 r1 q1)

/-! ### ints -/
theorem opI {f : Value → Value → Sem Value} {C : Int → Int → Prop} {g : Int → Int → Int}
    (rule : ∀ (i j : Int) (t u : Tok) (s : Shared) (Q : Value → Shared → Prop) (E : Value → Shared → Prop), C i j → Q (.int (g i j) s.toks) { s with toks := s.toks + 1 } → wpAny (model X.prog X.w) X.A (f (.int i t) (.int j u)) Q E s) :
    OpR X f (rI C fun i j => .int (g i j)) := by
  intro pins s σ H x y v u Q I rx ry h
  obtain ⟨i, j, rfl, rfl, hc, q⟩ := h
  obtain ⟨t, rfl⟩ := rx
  obtain ⟨t', rfl⟩ := ry
  exact rule i j t t' s _ _ hc ⟨.int (g i j), H, I.tok _, ⟨_, rfl⟩, q⟩
theorem opI0 {f : Value → Value → Sem Value} {g : Int → Int → Int}
    (rule : ∀ (i j : Int) (t u : Tok) (s : Shared) (Q : Value → Shared → Prop) (E : Value → Shared → Prop), Q (.int (g i j) s.toks) { s with toks := s.toks + 1 } → wpAny (model X.prog X.w) X.A (f (.int i t) (.int j u)) Q E s) :
    OpR X f (rI0 fun i j => .int (g i j)) := by
  intro pins s σ H x y v u Q I rx ry h
  obtain ⟨i, j, rfl, rfl, q⟩ := h
  obtain ⟨t, rfl⟩ := rx
  obtain ⟨t', rfl⟩ := ry
  exact rule i j t t' s _ _ ⟨.int (g i j), H, I.tok _, ⟨_, rfl⟩, q⟩
theorem opB0 {f : Value → Value → Sem Value} {g : Int → Int → Bool}
    (rule : ∀ (i j : Int) (t u : Tok) (s : Shared) (Q : Value → Shared → Prop) (E : Value → Shared → Prop), Q (.bool (g i j)) s → wpAny (model X.prog X.w) X.A (f (.int i t) (.int j u)) Q E s) :
    OpR X f (rI0 fun i j => .bl (g i j)) := by
  intro pins s σ H x y v u Q I rx ry h
  obtain ⟨i, j, rfl, rfl, q⟩ := h
  obtain ⟨t, rfl⟩ := rx
  obtain ⟨t', rfl⟩ := ry
  exact rule i j t t' s _ _ ⟨.bl (g i j), H, I, rfl, q⟩

def CDiv (i j : Int) : Prop := 0 < j ∧ j < 1073741824
def CDivN (i j : Int) : Prop := j ≠ 0 ∧ j.natAbs < 1073741824
def CPow (i j : Int) : Prop := 0 ≤ j ∧ j ≤ 1000000 ∧ i.natAbs < 2 ^ 64
def CMul (i j : Int) : Prop := (-(2 ^ 64) < i ∧ i < 2 ^ 64) ∨ (-(2 ^ 64) < j ∧ j < 2 ^ 64)
theorem CMul.ok {i j : Int} (h : CMul i j) : IntMulOk i j := by
  rcases h with ⟨h1, h2⟩ | ⟨h1, h2⟩
  · exact .of_left (intBits_le_64 h1 h2)
  · exact .of_right (intBits_le_64 h1 h2)

theorem op_add : OpR X (binaryOp .Add) (rI0 fun i j => .int (i + j)) := opI0 fun _ _ _ _ _ _ _ q => add_int q
theorem op_sub : OpR X (binaryOp .Sub) (rI0 fun i j => .int (i - j)) := opI0 fun _ _ _ _ _ _ _ q => sub_int q
theorem op_mul : OpR X (binaryOp .Mult) (rI CMul fun i j => .int (i * j)) := opI fun _ _ _ _ _ _ _ hc q => mul_int q hc.ok
/-- // by a positive divisor -/
theorem op_fdiv : OpR X (binaryOp .FloorDiv) (rI CDiv fun i j => .int (i / j)) := opI fun i j _ _ _ _ _ hc q => by
  have h1 : (0 : Int) < j := hc.1
  have h2 : j < 1073741824 := hc.2
  exact floordiv_int (by omega) (by rw [Int.fdiv_eq_ediv_of_nonneg i (by omega)]; exact q) (.inl (PyProof.noPylong_small (by omega)))
/-- % by a positive divisor of any size -/
theorem op_mod : OpR X (binaryOp .Mod) (rI (fun _ j => 0 < j) fun i j => .int (i % j)) := opI fun i j _ _ _ _ _ hc q => by
  have h1 : (0 : Int) < j := hc
  exact mod_int' (by omega) (by rw [Int.fmod_eq_emod_of_nonneg i (by omega)]; exact q)
theorem op_pow : OpR X (binaryOp .Pow) (rI CPow fun i j => .int (i ^ j.toNat)) := opI fun _ _ _ _ _ _ _ hc q => pow_int_small hc.1 hc.2.1 hc.2.2 q
theorem op_shl : OpR X (binaryOp .LShift) (rI CPow fun i j => .int (i * 2 ^ j.toNat)) := opI fun _ _ _ _ _ _ _ hc q => lshift_int_small hc.1 hc.2.1 hc.2.2 q


theorem unI {f : Value → Sem Value} {g : Int → Int}
    (rule : ∀ (i : Int) (t : Tok) (s : Shared) (Q : Value → Shared → Prop) (E : Value → Shared → Prop), Q (.int (g i) s.toks) { s with toks := s.toks + 1 } → wpAny (model X.prog X.w) X.A (f (.int i t)) Q E s) :
    UnR X f (rU fun i => .int (g i)) := by
  intro pins s σ H x v Q I rx h
  obtain ⟨i, rfl, q⟩ := h
  obtain ⟨t, rfl⟩ := rx
  exact rule i t s _ _ ⟨.int (g i), H, I.tok _, ⟨_, rfl⟩, q⟩
theorem un_neg : UnR X (unaryOp .USub) (rU fun i => .int (-i)) := unI fun _ _ _ _ _ q => neg_int q

/-! ### bools among ints: n += (a < b) -/
end

/-! ### comparisons -/
/-- the scalars that == tells apart as data does -/
def scal : V → V → Bool
  | .non, .non => true | .non, .int _ => true | .int _, .non => true | .non, .bl _ => true | .bl _, .non => true | .non, .str _ => true | .str _, .non => true
  | .int _, .int _ => true | .bl _, .bl _ => true | .str _, .str _ => true | .byt _, .byt _ => true
  | .int _, .str _ => true | .str _, .int _ => true | .bl _, .str _ => true | .str _, .bl _ => true
  | _, _ => false
def rEq : R2 := fun x y H Q => scal x y = true ∧ Q (.bl (decide (x = y))) H
def rNe : R2 := fun x y H Q => scal x y = true ∧ Q (.bl (!decide (x = y))) H

theorem dec_int {i j : Int} : decide (V.int i = V.int j) = (i == j) := by
  rw [Bool.eq_iff_iff]
  simp
theorem dec_bl {i j : Bool} : decide (V.bl i = V.bl j) = (i == j) := by
  rw [Bool.eq_iff_iff]
  simp
theorem dec_str {i j : Str} : decide (V.str i = V.str j) = (i == j) := by
  rw [Bool.eq_iff_iff]
  simp
theorem dec_byt {i j : Array UInt8} : decide (V.byt i = V.byt j) = (i.toList == j.toList) := by
  rw [Bool.eq_iff_iff]
  cases i
  cases j
  simp

section
variable {X : Cx} {a b c : Expr} {ta tb tc : TE} {pos : Pos}
theorem fin_bl {pins : List (Addr × Obj)} {σ : St} {H : Hp} {s : Shared} {Q : VK} {k k' : Bool} (I : Inv X pins σ H s) (q : Q (.bl k) H) (e : k = k') : EP X pins σ Q (.bool k') s := by
  subst e
  exact ⟨.bl k, H, I, rfl, q⟩
theorem op_eq : OpR X (compareOp .Eq) rEq := by
  intro pins s σ H x y v u Q I rx ry h
  obtain ⟨hs, q⟩ := h
  cases x with
  | non =>
    cases rx
    cases y with
    | non => cases ry; exact PySem.EqNone.eq_none_none (fin_bl I q (by simp))
    | bl j => cases ry; exact PySem.EqNone.eq_none_bool (fin_bl I q (by simp))
    | int j => obtain ⟨t', rfl⟩ := ry; exact PySem.EqNone.eq_none_int (fin_bl I q (by simp))
    | str j => obtain ⟨t', rfl⟩ := ry; exact PySem.EqNone.eq_none_str (fin_bl I q (by simp))
    | _ => exact absurd (show false = true from hs) Bool.false_ne_true
  | bl i =>
    cases rx
    cases y with
    | non => cases ry; exact PySem.EqNone.eq_bool_none (fin_bl I q (by simp))
    | bl j => cases ry; exact eq_bool (fin_bl I q dec_bl)
    | str j => obtain ⟨t', rfl⟩ := ry; exact PySem.EqMixed.eq_bool_str (fin_bl I q (by simp))
    | _ => exact absurd (show false = true from hs) Bool.false_ne_true
  | int i =>
    obtain ⟨t, rfl⟩ := rx
    cases y with
    | non => cases ry; exact PySem.EqNone.eq_int_none (fin_bl I q (by simp))
    | int j => obtain ⟨t', rfl⟩ := ry; exact eq_int (fin_bl I q dec_int)
    | str j => obtain ⟨t', rfl⟩ := ry; exact PySem.EqMixed.eq_int_str (fin_bl I q (by simp))
    | _ => exact absurd (show false = true from hs) Bool.false_ne_true
  | str i =>
    obtain ⟨t, rfl⟩ := rx
    cases y with
    | non => cases ry; exact PySem.EqNone.eq_str_none (fin_bl I q (by simp))
    | bl j => cases ry; exact PySem.EqMixed.eq_str_bool (fin_bl I q (by simp))
    | int j => obtain ⟨t', rfl⟩ := ry; exact PySem.EqMixed.eq_str_int (fin_bl I q (by simp))
    | str j => obtain ⟨t', rfl⟩ := ry; exact eq_str (fin_bl I q dec_str)
    | _ => exact absurd (show false = true from hs) Bool.false_ne_true
  | byt i =>
    obtain ⟨t, rfl⟩ := rx
    cases y with
    | byt j => obtain ⟨t', rfl⟩ := ry; exact PySem.W.eq_bytes (fin_bl I q dec_byt)
    | _ => exact absurd (show false = true from hs) Bool.false_ne_true
  | _ => cases y <;> exact absurd (show false = true from hs) Bool.false_ne_true
theorem op_ne : OpR X (compareOp .NotEq) rNe := by
  intro pins s σ H x y v u Q I rx ry h
  obtain ⟨hs, q⟩ := h
  cases x with
  | non =>
    cases rx
    cases y with
    | non => cases ry; exact PySem.EqNone.ne_none_none (fin_bl I q (by simp))
    | bl j => cases ry; exact PySem.EqNone.ne_none_bool (fin_bl I q (by simp))
    | int j => obtain ⟨t', rfl⟩ := ry; exact PySem.EqNone.ne_none_int (fin_bl I q (by simp))
    | str j => obtain ⟨t', rfl⟩ := ry; exact PySem.EqNone.ne_none_str (fin_bl I q (by simp))
    | _ => exact absurd (show false = true from hs) Bool.false_ne_true
  | bl i =>
    cases rx
    cases y with
    | non => cases ry; exact PySem.EqNone.ne_bool_none (fin_bl I q (by simp))
    | bl j => cases ry; exact ne_bool (fin_bl I q (congrArg not dec_bl))
    | str j => obtain ⟨t', rfl⟩ := ry; exact PySem.EqMixed.ne_bool_str (fin_bl I q (by simp))
    | _ => exact absurd (show false = true from hs) Bool.false_ne_true
  | int i =>
    obtain ⟨t, rfl⟩ := rx
    cases y with
    | non => cases ry; exact PySem.EqNone.ne_int_none (fin_bl I q (by simp))
    | int j => obtain ⟨t', rfl⟩ := ry; exact ne_int (fin_bl I q (congrArg not dec_int))
    | str j => obtain ⟨t', rfl⟩ := ry; exact PySem.EqMixed.ne_int_str (fin_bl I q (by simp))
    | _ => exact absurd (show false = true from hs) Bool.false_ne_true
  | str i =>
    obtain ⟨t, rfl⟩ := rx
    cases y with
    | non => cases ry; exact PySem.EqNone.ne_str_none (fin_bl I q (by simp))
    | bl j => cases ry; exact PySem.EqMixed.ne_str_bool (fin_bl I q (by simp))
    | int j => obtain ⟨t', rfl⟩ := ry; exact PySem.EqMixed.ne_str_int (fin_bl I q (by simp))
    | str j => obtain ⟨t', rfl⟩ := ry; exact ne_str (fin_bl I q (congrArg not dec_str))
    | _ => exact absurd (show false = true from hs) Bool.false_ne_true
  | byt i =>
    obtain ⟨t, rfl⟩ := rx
    cases y with
    | byt j => obtain ⟨t', rfl⟩ := ry; exact PySem.W.ne_bytes (fin_bl I q (congrArg not dec_byt))
    | _ => exact absurd (show false = true from hs) Bool.false_ne_true
  | _ => cases y <;> exact absurd (show false = true from hs) Bool.false_ne_true

theorem op_lt : OpR X (compareOp .Lt) (rI0 fun i j => .bl (decide (i < j))) := opB0 fun _ _ _ _ _ _ _ q => lt_int q
theorem op_le : OpR X (compareOp .LtE) (rI0 fun i j => .bl (decide (i ≤ j))) := opB0 fun _ _ _ _ _ _ _ q => le_int q
theorem op_gt : OpR X (compareOp .Gt) (rI0 fun i j => .bl (decide (j < i))) := opB0 fun _ _ _ _ _ _ _ q => gt_int q
theorem op_ge : OpR X (compareOp .GtE) (rI0 fun i j => .bl (decide (j ≤ i))) := opB0 fun _ _ _ _ _ _ _ q => ge_int q
/-- the one string within the other -/
theorem op_in_str : OpR X (compareOp .In) (fun x y H Q => ∃ i j, x = .str i ∧ y = .str j ∧ Q (.bl (!(Builtin.Str.occurrences j i 0 j.length 1).isEmpty)) H) := by
  intro pins s σ H x y v u Q I rx ry h
  obtain ⟨i, j, rfl, rfl, q⟩ := h
  obtain ⟨t, rfl⟩ := rx
  obtain ⟨t', rfl⟩ := ry
  exact in_str (fin_bl I q rfl)

/-- is None, is not None: the right side a value none -/
theorem op_isN : OpR X (compareOp .Is) (fun x y H Q => y = .non ∧ Q (.bl (decide (x = .non))) H) := by
  intro pins s σ H x y v u Q I rx ry h
  obtain ⟨rfl, q⟩ := h
  cases ry
  refine is_none_gen (fin_bl I q ?_)
  cases x <;> first
    | (cases rx; rfl)
    | (obtain ⟨t, rfl⟩ := rx; rfl)

/-- is, is not of two objects that are tracked lists or instances -/
def isObj : HO → Bool
  | .lst _ => true
  | .ins _ _ _ => true
  | _ => false

/-- two rules for one operation: by cases -/
theorem OpR.or {f : Value → Value → Sem Value} {r r' : R2} (h : OpR X f r) (h' : OpR X f r') : OpR X f (fun x y H Q => r x y H Q ∨ r' x y H Q) := by
  intro pins s σ H x y v u Q I rx ry q
  rcases q with q | q
  · exact h pins s σ H x y v u Q I rx ry q
  · exact h' pins s σ H x y v u Q I rx ry q

theorem nomark (b : Expr) {op : CmpOp} (h : op ≠ .In := by decide) (h2 : op ≠ .NotIn := by decide) : behindInMarks op b = false := by
  have e1 : (op == CmpOp.In) = false := by cases op <;> first | rfl | exact absurd rfl h
  have e2 : (op == CmpOp.NotIn) = false := by cases op <;> first | rfl | exact absurd rfl h2
  cases b <;> simp [behindInMarks, e1, e2]
/-- a comparison as a value; hm: nomark b, or (for in, not in) by with_unfolding_all rfl -/
theorem pe_cmpR {op : CmpOp} {r : R2} (ho : OpR X (compareOp op) r) (ha : PE X a ta) (hb : PE X b tb) (hm : behindInMarks op b = false) : PE X (.Compare a [op] [b] pos) (tOp r ta tb) := by
  intro pins s σ H Q I h
  exact wpAny_Compare1 (binT ha hb I h fun v u s2 x y H2 I2 rx ry q => ho pins s2 σ H2 x y v u Q I2 rx ry q) hm
/-- a reading of a value as a test -/
def tTest (t : TE) : TT := fun σ H Q => t σ H fun x H' => ∃ k, x = .bl k ∧ Q k H'
theorem pt_cmpR {op : CmpOp} {r : R2} (ho : OpR X (compareOp op) r) (ha : PE X a ta) (hb : PE X b tb) (hm : behindInMarks op b = false) : PT X (.Compare a [op] [b] pos) (tTest (tOp r ta tb)) := by
  intro pins s σ H Q I h
  refine wpAny_isTrue_Compare1 (thn (ha pins s σ H _ I h) fun v s1 ⟨x, H1, I1, r1, q1⟩ => thn (hb pins s1 σ H1 _ I1 q1) fun u s2 ⟨y, H2, I2, r2, q2⟩ =>
    thn (ho pins s2 σ H2 x y v u _ I2 r1 r2 q2) fun c s3 ⟨z, H3, I3, r3, k, e, q3⟩ => ?_) hm
  subst e
  cases r3
  exact wpAny_truthy_bool ⟨H3, I3, q3⟩
/-- a op1 b op2 c -/
def tChain (r r' : R2) (ta tb tc : TE) : TE := fun σ H Q => ta σ H fun x H1 => tb σ H1 fun y H2 => r x y H2 fun z H3 => ∃ k, z = .bl k ∧
  (if k = true then tc σ H3 fun w' H4 => r' y w' H4 Q else Q (.bl false) H3)
theorem pe_chain {op op' : CmpOp} {r r' : R2} (ho : OpR X (compareOp op) r) (ho' : OpR X (compareOp op') r') (ha : PE X a ta) (hb : PE X b tb) (hc : PE X c tc)
    (hm : lastMarks [op, op'] [b, c] = false := by with_unfolding_all rfl) : PE X (.Compare a [op, op'] [b, c] pos) (tChain r r' ta tb tc) := by
  intro pins s σ H Q I h
  refine Compare_chain (thn (ha pins s σ H _ I h) fun v s1 ⟨x, H1, I1, r1, q1⟩ => chain_link (thn (hb pins s1 σ H1 _ I1 q1) fun u s2 ⟨y, H2, I2, r2, q2⟩ =>
    thn (ho pins s2 σ H2 x y v u _ I2 r1 r2 q2) fun d s3 ⟨z, H3, I3, r3, k, e, q3⟩ => ?_)) hm
  subst e
  cases r3
  refine wpAny_truthy_bool ?_
  cases k with
  | false => exact ite_ff ⟨.bl false, H3, I3, rfl, q3⟩
  | true => exact ite_tt (chain_last (thn (hc pins s3 σ H3 _ I3 q3) fun w' s4 ⟨z', H4, I4, r4, q4⟩ => ho' pins s4 σ H4 y z' u w' Q I4 r2 r4 q4))

/-! ### truth -/
/-- a value's truth by the abstract heap -/
def TruV (K : PySem.W.Frag) (x : V) (H : Hp) (k : Bool) : Prop :=
  match x with
  | .non => k = false
  | .bl b => k = b
  | .int i => k = (i != 0)
  | .str y => y.length ≤ sizeLine ∧ k = ((y.length : Int) != 0)
  | .byt y => y.size ≤ sizeLine ∧ k = ((y.size : Int) != 0)
  | .ref p => (∃ xs, SqL K H p xs ∧ k = !xs.isEmpty) ∨ (∃ xs, SqT K H p xs ∧ k = !xs.isEmpty) ∨ ∃ kvs, H p = some (.dK kvs) ∧ k = !kvs.isEmpty
  | _ => False
theorem line63 : (sizeLine : Nat) < 2 ^ 63 := by rw [sizeLine_eq]; decide

/-! ### strs and bytes -/
theorem op_add_str : OpR X (binaryOp .Add) (fun x y H Q => ∃ i j, x = .str i ∧ y = .str j ∧ i.length + j.length ≤ sizeLine ∧ Q (.str (i ++ j)) H) := by
  intro pins s σ H x y v u Q I rx ry h
  obtain ⟨i, j, rfl, rfl, hz, q⟩ := h
  obtain ⟨t, rfl⟩ := rx
  obtain ⟨t', rfl⟩ := ry
  exact add_str (fun t' tk => ⟨.str (i ++ j), H, I.tok _, ⟨_, rfl⟩, q⟩) hz

def PlainIxT (b : Expr) : Prop := ∀ o i, subscripted b false o i = operate [o, i] (getItem o i)

/-! ### scalar builtins, by CallR -/
theorem vals1 {x : V} {us : List Value} (r : Vals [x] us) : ∃ u, us = [u] ∧ RelV x u := by
  cases r with
  | cons r1 r2 => cases r2; exact ⟨_, rfl, r1⟩
theorem vals2 {x y : V} {us : List Value} (r : Vals [x, y] us) : ∃ u w', us = [u, w'] ∧ RelV x u ∧ RelV y w' := by
  cases r with
  | cons r1 r2 =>
    cases r2 with
    | cons r3 r4 => cases r4; exact ⟨_, _, rfl, r1, r3⟩
theorem call_abs : CallR X (.builtin "abs") (fun xs H Q => ∃ i, xs = [.int i] ∧ Q (.int (if i < 0 then -i else i)) H) := by
  intro pins s σ H xs us Q I r h
  obtain ⟨i, rfl, q⟩ := h
  obtain ⟨u, rfl, t, rfl⟩ := vals1 r
  exact call_abs_int fun u tk => ⟨.int (if i < 0 then -i else i), H, I.tok _, ⟨_, rfl⟩, q⟩
theorem call_max2 (hc : X.calm = true) : CallR X (.builtin "max") (fun xs H Q => ∃ i j, xs = [.int i, .int j] ∧ Q (.int (if j > i then j else i)) H) := by
  intro pins s σ H xs us Q I r h
  obtain ⟨i, j, rfl, q⟩ := h
  obtain ⟨u, w', rfl, ⟨t, rfl⟩, ⟨t', rfl⟩⟩ := vals2 r
  refine max_two_ints (I.ok.hd hc) fun h' tk k => ⟨_, H, I.kept k, ?_, q⟩
  by_cases hj : j > i
  · rw [if_pos hj, if_pos hj]; exact ⟨_, rfl⟩
  · rw [if_neg hj, if_neg hj]; exact ⟨_, rfl⟩
theorem call_min2 (hc : X.calm = true) : CallR X (.builtin "min") (fun xs H Q => ∃ i j, xs = [.int i, .int j] ∧ Q (.int (if j < i then j else i)) H) := by
  intro pins s σ H xs us Q I r h
  obtain ⟨i, j, rfl, q⟩ := h
  obtain ⟨u, w', rfl, ⟨t, rfl⟩, ⟨t', rfl⟩⟩ := vals2 r
  refine min_two_ints (I.ok.hd hc) fun h' tk k => ⟨_, H, I.kept k, ?_, q⟩
  by_cases hj : j < i
  · rw [if_pos hj, if_pos hj]; exact ⟨_, rfl⟩
  · rw [if_neg hj, if_neg hj]; exact ⟨_, rfl⟩
theorem call_str_int : CallR X (.type "str") (fun xs H Q => ∃ i, xs = [.int i] ∧ i.natAbs.log2 < 1920 ∧ Q (.str (toString i)) H) := by
  intro pins s σ H xs us Q I r h
  obtain ⟨i, rfl, hz, q⟩ := h
  obtain ⟨u, rfl, t, rfl⟩ := vals1 r
  exact PySem.P.str_of_int hz ⟨.str _, H, I.tok _, ⟨_, rfl⟩, q⟩
/-- len of a str, a bytes, a list, a tuple -/
def LenV (K : PySem.W.Frag) (x : V) (H : Hp) (n : Nat) : Prop :=
  match x with
  | .str y => y.length ≤ sizeLine ∧ n = y.length
  | .byt y => y.size ≤ sizeLine ∧ n = y.size
  | .ref p => (∃ xs, SqL K H p xs ∧ n = xs.length) ∨ ∃ xs, SqT K H p xs ∧ n = xs.length
  | _ => False
end
end L2

namespace L2
open PySem PySem.Spec PyProof.Rows

/-! ### an instance, its attributes a map -/
structure ObjM (h : Heap) (x dx C : Addr) (mA : Str → Option Value) : Prop where
  obj : h.get? x = some (PySem.W.instObj C dx)
  ns : h.Ns1 dx mA
  ne : dx ≠ x

theorem lookIn_ns {h : Heap} {dx : Addr} {mA : Str → Option Value} (n : h.Ns1 dx mA) : ∃ od, h.get? dx = some od ∧ ∀ name, PySem.W.lookIn name od = some (mA name) := by
  obtain ⟨o, es, ep, ho, hd, hk, _, hm⟩ := n
  refine ⟨o, ho, fun name => ?_⟩
  have e := hm name
  unfold nsFind findBy at e
  rw [← Array.find?_toList] at e
  unfold PySem.W.lookIn
  rw [hd]
  dsimp only
  split
  · rename_i y q
    rw [q] at e
    exact congrArg some e
  · rename_i q
    rw [q] at e
    have a : es.toList.any (·.refKey) = false := by
      rw [List.any_eq_false]
      intro y hy
      obtain ⟨z, t, hkey⟩ := hk y (Array.mem_toList_iff.mp hy)
      simp [DictEntry.refKey, hkey]
    have a' : ¬ es.toList.any (·.refKey) = true := by rw [a]; exact Bool.false_ne_true
    rw [if_neg a']
    exact congrArg some e

theorem ObjM.look {h : Heap} {x dx C : Addr} {mA : Str → Option Value} (I : ObjM h x dx C mA) : ∃ od, PySem.W.InstAt h x (PySem.W.instObj C dx) C (some od) ∧ ∀ name, PySem.W.lookIn name od = some (mA name) :=
  let ⟨od, ho, hl⟩ := lookIn_ns I.ns
  ⟨od, ⟨I.obj, rfl, rfl, ho⟩, hl⟩

section
variable {prog : Program} {w : World} {A : Around} {E : Value → Shared → Prop} {s : Shared} {K : PySem.W.Frag} {x dx C f : Addr} {mA : Str → Option Value} {name : Str} {v : Value}

theorem get_map {expr : Bool} {Q : Value → Shared → Prop} (X : K.In s.heap) (I : ObjM s.heap x dx C mA) (hg : PySem.W.plainGet K C name = true) (hh : PySem.W.hasDictIn K C = true)
    (ha : PySem.W.findIn K (.ref C) name = some none) (hv : mA name = some v) (hv' : PySem.W.handedIn v = true) (h : Q v { s with toks := s.toks + 1 }) :
    wpAny (model prog w) A (getAttr (.ref x) name expr) Q E s := by
  obtain ⟨od, J, hl⟩ := I.look
  exact PySem.W.get_value X J (PySem.W.plainGet_of hg).1 (PySem.W.findObj_own hh ha rfl (by rw [hl, hv])) hv' h


theorem get_meth {pl : Sem Bool} {Q : Value × List Value → Shared → Prop} (X : K.In s.heap) (I : ObjM s.heap x dx C mA) (hg : PySem.W.plainGet K C name = true)
    (hf : PySem.W.findIn K (.ref C) name = some (some (.ref f))) (ht : PySem.W.isFn K (.ref f) = true) (hv : mA name = none) (h : Q (.ref f, [.ref x]) s) :
    wpAny (model prog w) A (getMethod (.ref x) name pl) Q E s := by
  obtain ⟨od, J, hl⟩ := I.look
  exact PySem.W.method_fn X J (PySem.W.plainGet_of hg).1 (PySem.W.plainGet_of hg).2 hf (beq_iff_eq.mp ht) (by show (PySem.W.lookIn name od).map (·.isSome) = some false; rw [hl, hv]; rfl) h

theorem set_map {ns : List Str} {Q : Unit → Shared → Prop} (X : K.In s.heap) (I : ObjM s.heap x dx C mA)
    (hs : PySem.W.findIn K (.ref C) "__setattr__" = some (some (.builtin "object.__setattr__"))) (hp : PySem.W.plainOver K C = true) (ht : PySem.W.takerIn K C name = some none) (hh : PySem.W.hasDictIn K C = true)
    (hw : PySem.Within mA ns) (hsz : ns.length ≤ sizeLine)
    (h : ∀ h', ObjM h' x dx C (fun y => if y = name then some v else mA y) → Heap.SameBut dx s.heap h' → Q () { s with heap := h', toks := s.toks + 2 }) :
    wpAny (model prog w) A (setAttr (.ref x) name v) Q E s := by
  obtain ⟨od, J, hl⟩ := I.look
  refine PySem.W.set_plain X J hs (PySem.W.osa_open (s := { s with toks := s.toks + 1 }) (r := none) X J hp ht fun b => ?_)
  obtain ⟨cd, hc, hd'⟩ := PySem.W.any_some hh
  have hx : s.heap.get? x = some ⟨.ref C, some dx, .plain, #[]⟩ := I.obj
  refine wpAny_bind (wpAny_pure (wpAny_bind (wpAny_bind (wpAny_loadPart hx (wpAny_bind (PySem.W.Looks.here (s := { s with toks := s.toks + 1 }) (PySem.W.looks_clsIn X hc) ?_))))))
  rw [hd']
  refine wpAny_pure (a := some dx) (wpAny_bind (wpAny_pure (wpAny_bind ?_)))
  refine wpAny_nsSet1 (s := { s with toks := s.toks + 1 }) I.ns fun h' hn2 hs2 => ?_
  obtain ⟨oD, esD, epD, hoD, hdD, hcD⟩ := hn2.count (PySem.Within.cons name v hw)
  refine wpAny_bind (wpAny_lookBehind hoD (by rw [hdD]; exact pastItsLine_dict (Nat.le_trans hcD (by rw [List.length_cons]; omega))) ?_)
  exact wpAny_pure (h _ ⟨(hs2.2 _ (Ne.symm I.ne)).trans I.obj, hn2, I.ne⟩ hs2)

/-- C(..): the dict at the heap's end, the instance behind it; then its __init__ -/
theorem make_map {R : Result → Shared → Prop} {vs : List Value} {kw : List (Str × Value)} (X : K.In s.heap) (hm : PySem.W.makesIn K C = true)
    (hi : PySem.W.findIn K (.ref C) "__init__" = some (some (.ref f))) (hf : PySem.W.typeIn K (.ref f) = some (.type "function"))
    (h : codeAny (model prog w) (A.under (.builtin "type.__call__" ⟨.ref C :: vs, kw⟩)) (.call (.ref f) ⟨.ref (s.heap.objs.size + 1) :: vs, kw⟩) (PySem.W.InitBack (s.heap.objs.size + 1) R)
      { s with heap := (s.heap.push PySem.W.emptyDict).push (PySem.W.instObj C s.heap.objs.size) }) :
    codeAny (model prog w) A (.call (.ref C) ⟨vs, kw⟩) R s := by
  obtain ⟨hh, g, d, t, os⟩ := s
  exact PySem.W.make_core (PySem.W.makes_of X hm) (PySem.W.looks_findIn X hi) (fun self => PySem.W.bind_fn X self hf) (.inl rfl) h
end

/-! ### the attributes as a list of pairs -/
def putF (f : Str) (v : V) : List (Str × V) → List (Str × V)
  | [] => [(f, v)]
  | (g, x) :: r => if g = f then (g, v) :: r else (g, x) :: putF f v r
theorem lookup_putF (f g : Str) (v : V) : ∀ fs : List (Str × V), (putF f v fs).lookup g = if g = f then some v else fs.lookup g
  | [] => by
    show List.lookup g [(f, v)] = _
    by_cases h : g = f
    · have hb : (g == f) = true := beq_iff_eq.mpr h
      simp only [List.lookup, hb, if_pos h]
    · have hb : (g == f) = false := beq_eq_false_iff_ne.mpr h
      simp only [List.lookup, hb, if_neg h]
  | (k, x) :: r => by
    have ih := lookup_putF f g v r
    rw [show putF f v ((k, x) :: r) = (if k = f then (k, v) :: r else (k, x) :: putF f v r) from rfl]
    by_cases hk : k = f
    · rw [if_pos hk]
      by_cases h : g = k
      · have hb : (g == k) = true := beq_iff_eq.mpr h
        simp only [List.lookup, hb, if_pos (h.trans hk)]
      · have hb : (g == k) = false := beq_eq_false_iff_ne.mpr h
        simp only [List.lookup, hb, if_neg (fun e : g = f => h (e.trans hk.symm))]
    · rw [if_neg hk]
      by_cases h : g = k
      · have hb : (g == k) = true := beq_iff_eq.mpr h
        simp only [List.lookup, hb, if_neg (fun e : g = f => hk (h.symm.trans e))]
      · have hb : (g == k) = false := beq_eq_false_iff_ne.mpr h
        simp only [List.lookup, hb]
        exact ih
theorem keys_putF (f : Str) (v : V) : ∀ fs : List (Str × V), f ∈ (putF f v fs).map (·.1) ∧ ∀ g, g ∈ fs.map (·.1) → g ∈ (putF f v fs).map (·.1)
  | [] => ⟨by simp [putF], fun g h => by simp at h⟩
  | (k, x) :: r => by
    obtain ⟨i1, i2⟩ := keys_putF f v r
    rw [show putF f v ((k, x) :: r) = (if k = f then (k, v) :: r else (k, x) :: putF f v r) from rfl]
    by_cases hk : k = f
    · rw [if_pos hk]
      subst hk
      exact ⟨by simp, fun g h => by simpa using h⟩
    · rw [if_neg hk]
      refine ⟨?_, fun g h => ?_⟩
      · rw [List.map_cons]
        exact List.mem_cons_of_mem _ i1
      · rw [List.map_cons] at h ⊢
        rcases List.mem_cons.mp h with e | e
        · exact List.mem_cons.mpr (.inl e)
        · exact List.mem_cons_of_mem _ (i2 g e)
theorem length_putF (f : Str) (v : V) : ∀ fs : List (Str × V), (putF f v fs).length ≤ fs.length + 1
  | [] => by simp [putF]
  | (k, x) :: r => by
    have ih := length_putF f v r
    rw [show putF f v ((k, x) :: r) = (if k = f then (k, v) :: r else (k, x) :: putF f v r) from rfl]
    by_cases hk : k = f
    · rw [if_pos hk, List.length_cons, List.length_cons]; omega
    · rw [if_neg hk, List.length_cons, List.length_cons]; omega

theorem RelO.some_of {v : V} {o : Option Value} (r : RelO (some v) o) : ∃ u, o = some u ∧ RelV v u := by
  cases o with
  | none => exact (show False from r).elim
  | some u => exact ⟨u, rfl, r⟩
theorem RelO.none_of {o : Option Value} (r : RelO none o) : o = none := by
  cases o with
  | none => rfl
  | some u => exact (show False from r).elim
theorem handed_of {v : V} {u : Value} (r : RelV v u) : PySem.W.handedIn u = true := by
  cases v with
  | non => cases (show u = Value.none from r); rfl
  | bl b => cases (show u = Value.bool b from r); rfl
  | int i => obtain ⟨t, e⟩ := (show ∃ t, u = Value.int i t from r); cases e; rfl
  | str x => obtain ⟨t, e⟩ := (show ∃ t, u = Value.str x t from r); cases e; rfl
  | byt b => obtain ⟨t, e⟩ := (show ∃ t, u = Value.bytes b t from r); cases e; rfl
  | flt b => obtain ⟨t, e⟩ := (show ∃ t, u = Value.float b t from r); cases e; rfl
  | ref a => cases (show u = Value.ref a from r); rfl
  | ty n => cases (show u = Value.type n from r); rfl

section
variable {P : Program} {w : World} {H H' : Hp} {h h' : Heap} {a C dx : Addr} {fs fs' : List (Str × V)}
theorem ins_get (hok : HOk P w H h) (e : H a = some (.ins C dx fs)) : ∃ mA, ObjM h a dx C mA ∧ (∀ f, RelO (fs.lookup f) (mA f)) ∧ PySem.Within mA (fs.map (·.1)) ∧ fs.length ≤ 1000 ∧ H dx = some (.own a) := by
  obtain ⟨d, z, ne, ob, mA, n, r, q⟩ := (show ObjOk P w H h a (.ins C dx fs) from hok a _ e)
  exact ⟨mA, ⟨ob, n, ne⟩, r, q, z, d⟩
end

/-! ### what of the text a class must have -/
structure Cls (K : PySem.W.Frag) (C : Addr) : Prop where
  pg : PySem.W.plainGet K C Str.empty = true
  hd : PySem.W.hasDictIn K C = true
  po : PySem.W.plainOver K C = true
  sa : PySem.W.findIn K (.ref C) "__setattr__" = some (some (.builtin "object.__setattr__"))
theorem Cls.get {K : PySem.W.Frag} {C : Addr} (c : Cls K C) (f : Str) : PySem.W.plainGet K C f = true := c.pg
/-- no class of it has the name -/
def NoAttr (K : PySem.W.Frag) (C : Addr) (f : Str) : Prop := PySem.W.findIn K (.ref C) f = some none
theorem NoAttr.taker {K : PySem.W.Frag} {C : Addr} {f : Str} (n : NoAttr K C f) : PySem.W.takerIn K C f = some none := by
  unfold PySem.W.takerIn
  rw [show PySem.W.findIn K (.ref C) f = some none from n]
  rfl
/-- a constant of the class -/
structure Con (K : PySem.W.Frag) (C : Addr) (f : Str) (v : V) (u : Value) : Prop where
  at_ : PySem.W.findIn K (.ref C) f = some (some u)
  rel : RelV v u
  get : PySem.W.specialIn K u "__get__" = some none
  cp : PySem.W.copiedNames.contains f = false
/-- a method: a plain def of the class or of one above it -/
structure Meth (K : PySem.W.Frag) (C : Addr) (m : Str) (f : Addr) : Prop where
  at_ : PySem.W.findIn K (.ref C) m = some (some (.ref f))
  fn : PySem.W.isFn K (.ref f) = true
  kp : PySem.W.keepIn K (.ref f) = true

section
variable {X : Cx} {pins : List (Addr × Obj)} {σ : St} {H : Hp} {s : Shared} {a C dx : Addr} {fs : List (Str × V)} {f : Str} {v : V} {A : Around} {E : Value → Shared → Prop}

theorem getattr_ok {b : Bool} {Q : Value → Shared → Prop} (I : Inv X pins σ H s) (e : H a = some (.ins C dx fs)) (c : Cls X.K C) (n : NoAttr X.K C f) (l : fs.lookup f = some v)
    (h : ∀ u s', Inv X pins σ H s' → RelV v u → Q u s') : wpAny (model X.prog X.w) A (getAttr (.ref a) f b) Q E s := by
  obtain ⟨mA, O, r, _, _, _⟩ := ins_get I.hok e
  obtain ⟨u, hu, ru⟩ := RelO.some_of (v := v) (o := mA f) (by rw [← l]; exact r f)
  exact get_map I.kIn O (c.get f) c.hd n hu (handed_of ru) (h u _ (I.tok _) ru)


theorem getmeth_ok {m : Str} {g : Addr} {pl : Sem Bool} {Q : Value × List Value → Shared → Prop} (I : Inv X pins σ H s) (e : H a = some (.ins C dx fs)) (c : Cls X.K C) (k : Meth X.K C m g) (l : fs.lookup m = none)
    (h : Q (.ref g, [.ref a]) s) : wpAny (model X.prog X.w) A (getMethod (.ref a) m pl) Q E s := by
  obtain ⟨mA, O, r, _, _, _⟩ := ins_get I.hok e
  have hn : mA m = none := RelO.none_of (by rw [← l]; exact r m)
  exact get_meth I.kIn O (c.get m) k.at_ k.fn hn h

theorem setattr_ok {y : V} {u : Value} {Q : Unit → Shared → Prop} (I : Inv X pins σ H s) (e : H a = some (.ins C dx fs)) (c : Cls X.K C) (n : NoAttr X.K C f) (hl : fs.length < 1000) (ry : RelV y u)
    (h : ∀ s', Inv X pins σ (upd H a (.ins C dx (putF f y fs))) s' → Q () s') : wpAny (model X.prog X.w) A (setAttr (.ref a) f u) Q E s := by
  obtain ⟨mA, O, r, wi, _, ho⟩ := ins_get I.hok e
  have hz : (fs.map (·.1)).length ≤ sizeLine := by rw [List.length_map, sizeLine_eq]; omega
  refine set_map I.kIn O c.sa c.po n.taker c.hd wi hz fun h' O' sb => h _ ?_
  have hd : ∃ o, h'.get? dx = some o := let ⟨o, _, _, e', _⟩ := O'.ns; ⟨o, e'⟩
  refine I.write (x := a) (e := dx) (by rw [e]; exact True.intro) (.inr ho) (fun b q hb z => (sb.2 b hb).trans z) hd ?_
  refine ⟨by rw [upd_ne O.ne]; exact ho, ?_, O.ne, O'.obj, _, O'.ns, fun g => ?_, fun g hg => ?_⟩
  · have := length_putF f y fs; omega
  · show RelO ((putF f y fs).lookup g) (if g = f then some u else mA g)
    rw [lookup_putF]
    by_cases q : g = f
    · rw [if_pos q, if_pos q]; exact ry
    · rw [if_neg q, if_neg q]; exact r g
  · by_cases q : g = f
    · rw [q]; exact (keys_putF f y fs).1
    · refine (keys_putF f y fs).2 g (wi g fun z => hg ?_)
      show (if g = f then some u else mA g) = none
      rw [if_neg q]; exact z

/-- a new instance, tracked, without attributes -/
theorem Inv.made (I : Inv X pins σ H s) : Inv X pins σ (upd (upd H s.heap.objs.size (.own (s.heap.objs.size + 1))) (s.heap.objs.size + 1) (.ins C s.heap.objs.size []))
    { s with heap := (s.heap.push PySem.W.emptyDict).push (PySem.W.instObj C s.heap.objs.size) } := by
  have e1 : (s.heap.push PySem.W.emptyDict).get? s.heap.objs.size = some PySem.W.emptyDict := Heap.get?_push_size s.heap rfl
  have e2 : ((s.heap.push PySem.W.emptyDict).push (PySem.W.instObj C s.heap.objs.size)).get? (s.heap.objs.size + 1) = some (PySem.W.instObj C s.heap.objs.size) := by
    have := Heap.get?_push_size (s.heap.push PySem.W.emptyDict) (o := PySem.W.instObj C s.heap.objs.size) rfl
    rwa [Heap.size_push] at this
  have e3 : (s.heap.push PySem.W.emptyDict).Ns s.heap.objs.size (fun _ => none) := ⟨PySem.W.emptyDict, #[], _, e1, rfl, (fun e he => absurd he (by simp)), fun _ => rfl⟩
  have I1 := I.laid (a := s.heap.objs.size) (o := .own (s.heap.objs.size + 1)) (h' := s.heap.push PySem.W.emptyDict) (t' := s.toks) (fun b u q => Heap.get?_push_of_some _ q) (Nat.le_refl _) ⟨_, e1⟩
  refine I1.laid (a := s.heap.objs.size + 1) (o := .ins C s.heap.objs.size []) (t' := s.toks) (fun b u q => Heap.get?_push_of_some _ q) (Nat.le_of_eq (Heap.size_push _ _)) ?_
  have ne : s.heap.objs.size ≠ s.heap.objs.size + 1 := Nat.ne_of_lt (Nat.lt_succ_self _)
  refine ⟨by rw [upd_ne ne, upd_same], Nat.zero_le _, ne, e2, fun _ => none, (Heap.Ns1.of_empty e3).at fun o q => Heap.get?_push_of_some _ q, fun _ => True.intro, fun y hy => absurd rfl hy⟩

/-- e.f where nothing but the object is asked: through attributeBase (super) and the last hold -/
theorem attr_of {prog : Program} {w : World} {env : Env} {e : Expr} {f : Str} {pos : Pos} {s : Shared} {Q : Value → Shared → Prop} (hb : attributeBase e f env (eval e env) = eval e env)
    (h : wpAny (model prog w) A (eval e env) (fun o s₁ => wpAny (model prog w) A (getAttr o f true) Q E s₁) E s) : wpAny (model prog w) A (eval (.Attribute e f pos) env) Q E s :=
  Attribute_any_ h (by rw [arm_eval_Attribute, hb])
end

/-! ### readings and rules -/
/-- e.f, an attribute of the instance -/
def tFld (K : PySem.W.Frag) (ta : TE) (f : Str) : TE := fun σ H Q => ta σ H fun x H1 => ∃ a C dx fs v, x = .ref a ∧ H1 a = some (.ins C dx fs) ∧ Cls K C ∧ NoAttr K C f ∧ fs.lookup f = some v ∧ Q v H1
/-- e.f, a constant of the class -/
def tCon (K : PySem.W.Frag) (ta : TE) (f : Str) : TE := fun σ H Q => ta σ H fun x H1 => ∃ a C dx fs v u, x = .ref a ∧ H1 a = some (.ins C dx fs) ∧ Cls K C ∧ Con K C f v u ∧ fs.lookup f = none ∧ Q v H1
/-- e.f = value -/
def sFld (K : PySem.W.Frag) (ta tv : TE) (f : Str) : TS := fun D σ H => tv σ H fun y H1 => ta σ H1 fun x H2 => ∃ a C dx fs, x = .ref a ∧ H2 a = some (.ins C dx fs) ∧ Cls K C ∧ NoAttr K C f ∧ fs.length < 1000 ∧
  D.nx σ (upd H2 a (.ins C dx (putF f y fs)))
/-- an augmented operator on two values -/
def InOp (X : Cx) (op : Operator) (rd : V → V → Hp → VK → Prop) : Prop :=
  ∀ (pins : List (Addr × Obj)) (s : Shared) (σ : St) (H : Hp) (x y : V) (u v : Value) (Q : VK), Inv X pins σ H s → RelV x u → RelV y v → rd x y H Q → wpAny (model X.prog X.w) X.A (inplaceOp op u v) (EP X pins σ Q) X.xe s
/-- e.f op= value -/
def sFldAug (K : PySem.W.Frag) (ta tv : TE) (rd : V → V → Hp → VK → Prop) (f : Str) : TS := fun D σ H => ta σ H fun x H1 => ∃ a C dx fs v, x = .ref a ∧ H1 a = some (.ins C dx fs) ∧ Cls K C ∧ NoAttr K C f ∧ fs.lookup f = some v ∧
  tv σ H1 fun y H2 => rd v y H2 fun z H3 => ∃ dx' fs', H3 a = some (.ins C dx' fs') ∧ fs'.length < 1000 ∧ D.nx σ (upd H3 a (.ins C dx' (putF f z fs')))

section
variable {X : Cx} {o e value : Expr} {f : Str} {pos pos' tpos : Pos} {ta tv : TE}
theorem pe_fld (he : PE X e ta) (hb : attributeBase e f X.env (eval e X.env) = eval e X.env) : PE X (.Attribute e f pos) (tFld X.K ta f) := by
  intro pins s σ H Q I h
  refine attr_of hb (thn (he pins s σ H _ I h) fun u s1 ⟨x, H1, I1, rx, a, C, dx, fs, v, ex, ea, c, n, l, q⟩ => ?_)
  subst ex
  obtain rfl : u = Value.ref a := rx
  exact getattr_ok I1 ea c n l fun u' s2 I2 ru => ⟨v, H1, I2, ru, q⟩
theorem ps_fld (ha : PE X o ta) (hv : PE X value tv) (hs : swapsWith value (some (.Attribute o f pos')) pos.line X.env = pure false) : PS X (.Assign [.Attribute o f pos'] value pos) (sFld X.K ta tv f) := by
  intro pins s σ H D I h
  refine plainObj_wpAny_Assign_Attribute (thn (hv pins s σ H _ I h) fun u s1 ⟨y, H1, I1, ry, q⟩ => thn (ha pins s1 σ H1 _ I1 q) fun ov s2 ⟨x, H2, I2, rx, a, C, dx, fs, ex, ea, c, n, l, q2⟩ => ?_) hs
  subst ex
  obtain rfl : ov = Value.ref a := rx
  exact setattr_ok I2 ea c n l ry fun s3 I3 => ⟨σ, _, I3, q2⟩
def rAdd : V → V → Hp → VK → Prop := fun x y H Q => ∃ i j, x = .int i ∧ y = .int j ∧ Q (.int (i + j)) H
def rSub : V → V → Hp → VK → Prop := fun x y H Q => ∃ i j, x = .int i ∧ y = .int j ∧ Q (.int (i - j)) H

end

/-! ### isinstance -/
section
variable {X : Cx} {pins : List (Addr × Obj)} {σ : St} {H : Hp} {s : Shared} {A : Around} {E : Value → Shared → Prop} {Q : Value → Shared → Prop} {c : Value} {b : Bool}
/-- the type of a value, as the fragment's deciders take it; for an instance its class -/
inductive TyOf (K : PySem.W.Frag) (H : Hp) : V → Value → Prop where
  | non : TyOf K H .non (.type "NoneType")
  | bl (x : Bool) : TyOf K H (.bl x) (.type "bool")
  | int (i : Int) : TyOf K H (.int i) (.type "int")
  | str (x : Str) : TyOf K H (.str x) (.type "str")
  | flt (x : UInt64) : TyOf K H (.flt x) (.type "float")
  | lst {a : Addr} {xs : List V} (e : H a = some (.lst xs)) : TyOf K H (.ref a) (.type "list")
  | frz {a : Addr} {o : Obj} {xs : List V} (e : H a = some (.frz o (.lst xs))) : TyOf K H (.ref a) (.type "list")
  | tup {a : Addr} {xs : List V} (e : H a = some (.tup xs)) : TyOf K H (.ref a) (.type "tuple")
  | dK {a : Addr} {kvs : List (Key × V)} (e : H a = some (.dK kvs)) : TyOf K H (.ref a) (.type "dict")
  | dT {a : Addr} {kvs : List (List Key × V)} (e : H a = some (.dT kvs)) : TyOf K H (.ref a) (.type "dict")
  | ins {a C dx : Addr} {fs : List (Str × V)} (e : H a = some (.ins C dx fs)) (cl : Cls K C) (ha : PySem.W.findIn K (.ref C) "__class__" = some (some (.builtin "object.__class__")))
      (hn : PySem.W.specialIn K (.builtin "object.__class__") "__get__" = some (some (.builtin "getset_descriptor.__get__"))) (htk : PySem.W.takesIn K (.builtin "object.__class__") = some true)
      (hm : PySem.W.mroIn K C (.type "object") = some true) : TyOf K H (.ref a) (.ref C)
/-- isinstance(x, c) for one class c, a built-in or an own one: kitOne's answer -/
theorem isinst_ok {x : V} {u t : Value} (I : Inv X pins σ H s) (rx : RelV x u) (ty : TyOf X.K H x t) (e : PySem.W.kitOne X.K t c = some b) (h : ∀ tk, Q (.bool b) { s with toks := tk }) :
    wpAny (model X.prog X.w) A (call (.builtin "isinstance") [u, c]) Q E s := by
  cases ty with
  | non => cases (show u = Value.none from rx); exact PySem.W.kia_one PySem.W.kitx_none I.kIn True.intro e (fun z => nomatch z) h
  | bl y => cases (show u = Value.bool y from rx); exact PySem.W.kia_one PySem.W.kitx_bool I.kIn True.intro e (fun z => nomatch z) h
  | int i => obtain ⟨t, q⟩ := (show ∃ t, u = Value.int i t from rx); cases q; exact PySem.W.kia_one PySem.W.kitx_int I.kIn True.intro e (fun z => nomatch z) h
  | str y => obtain ⟨t, q⟩ := (show ∃ t, u = Value.str y t from rx); cases q; exact PySem.W.kia_one PySem.W.kitx_str I.kIn True.intro e (fun z => nomatch z) h
  | flt y => obtain ⟨t, q⟩ := (show ∃ t, u = Value.float y t from rx); cases q; exact PySem.W.kia_one PySem.W.kitx_float I.kIn True.intro e (fun z => nomatch z) h
  | @lst a xs ea =>
    cases (show u = Value.ref a from rx)
    obtain ⟨_, _, n, _, h1⟩ := (show ObjOk X.prog X.w H s.heap a (.lst xs) from I.hok a _ ea)
    exact PySem.W.kia_one PySem.W.kitx_list I.kIn ⟨_, h1, rfl⟩ e (fun z => nomatch z) h
  | @frz a ob xs ea =>
    cases (show u = Value.ref a from rx)
    obtain ⟨_, _, _, n, _, h1⟩ := (show ObjOk X.prog X.w H s.heap a (.frz ob (.lst xs)) from I.hok a _ ea)
    exact PySem.W.kia_one PySem.W.kitx_list I.kIn ⟨_, h1, rfl⟩ e (fun z => nomatch z) h
  | @tup a xs ea =>
    cases (show u = Value.ref a from rx)
    obtain ⟨_, _, _, p⟩ := (show ObjOk X.prog X.w H s.heap a (.tup xs) from I.hok a _ ea)
    obtain ⟨o, h1, h2, _⟩ := p
    exact PySem.W.kia_one PySem.W.kitx_tuple I.kIn ⟨o, h1, h2⟩ e (fun z => nomatch z) h
  | @dK a kvs ea =>
    cases (show u = Value.ref a from rx)
    obtain ⟨_, _, vs, _, p⟩ := (show ObjOk X.prog X.w H s.heap a (.dK kvs) from I.hok a _ ea)
    obtain ⟨o, es, ep, h1, h2, _⟩ := p
    exact PySem.W.kia_one PySem.W.kitx_dict I.kIn ⟨o, h1, h2.1⟩ e (fun z => nomatch z) h
  | @dT a kvs ea =>
    cases (show u = Value.ref a from rx)
    obtain ⟨_, _, xs, _, o, es, ep, h1, h2, _⟩ := (show ObjOk X.prog X.w H s.heap a (.dT kvs) from I.hok a _ ea)
    exact PySem.W.kia_one PySem.W.kitx_dict I.kIn ⟨o, h1, h2.1⟩ e (fun z => nomatch z) h
  | @ins a C dx fs ea cl ha hn htk hm =>
    cases (show u = Value.ref a from rx)
    obtain ⟨mA, O, _⟩ := ins_get I.hok ea
    obtain ⟨od, J, _⟩ := O.look
    exact PySem.W.kia_one (PySem.W.kitx_own (cl.get _) cl.hd ha hn htk hm) I.kIn J e (fun z => nomatch z) h
end
end L2

namespace L2
open PySem PySem.Spec PyProof.Rows

/-! ### room -/
structure Room (k : Nat) (A : Around) : Prop where
  hd : A.handled = none
  dp : A.depth + 3 * k + 5 < recursionLimit
  un : A.units + 16 * k + 200 < cLine
theorem Room.mono {j k : Nat} {A : Around} (r : Room k A) (h : j ≤ k) : Room j A := ⟨r.hd, by have := r.dp; omega, by have := r.un; omega⟩
theorem Room.deeper {k : Nat} {A : Around} (r : Room (k + 1) A) (env : Env) : Room k (A.deeper env) :=
  ⟨r.hd, by have := r.dp; show A.depth + 1 + 3 * k + 5 < _; omega, by have := r.un; show A.units + 3 + 16 * k + 200 < _; omega⟩
theorem Room.in1 {k : Nat} {A : Around} (r : Room (k + 1) A) : Room k A.in1 :=
  ⟨r.hd, by have := r.dp; show A.depth + 3 * k + 5 < _; omega, by have := r.un; show A.units + 1 + 16 * k + 200 < _; omega⟩
theorem make_depth {A : Around} {C : Addr} {us : List Value} {kw : List (Str × Value)} : (A.under (.builtin "type.__call__" ⟨.ref C :: us, kw⟩)).depth = A.depth + 1 := by
  first | rfl | simp [Around.under, Code.weight, Code.isCreation, Code.isGuard, Code.isCaller, Code.frames, Code.isFrame, guardIds]
theorem make_units {A : Around} {C : Addr} {us : List Value} {kw : List (Str × Value)} : (A.under (.builtin "type.__call__" ⟨.ref C :: us, kw⟩)).units = A.units + 1 := by
  first | rfl | simp [Around.under, Code.cUnits, Code.frames, Code.isFrame]
theorem Room.make {k : Nat} {A : Around} (r : Room (k + 1) A) (C : Addr) (us : List Value) (kw : List (Str × Value)) : Room k (A.under (.builtin "type.__call__" ⟨.ref C :: us, kw⟩)) :=
  ⟨r.hd, by have := r.dp; rw [make_depth]; omega, by have := r.un; rw [make_units]; omega⟩
theorem Room.depth {k : Nat} {A : Around} (r : Room k A) : A.depth < recursionLimit := by have := r.dp; omega
theorem Room.units {k : Nat} {A : Around} (r : Room k A) : A.units + 64 < cLine := by have := r.un; omega

/-! ### argument lists and displays -/
def tNil : TA := fun _ H Q => Q [] H
def tCons (ta : TE) (tr : TA) : TA := fun σ H Q => ta σ H fun x H1 => tr σ H1 fun xs H2 => Q (x :: xs) H2
section
variable {X : Cx} {e : Expr} {es : List Expr} {te : TE} {t : TA} {pos : Pos}
theorem pa_nil : PA X [] tNil := fun _ _ _ _ H Q I h => Calls.spliced_nil ⟨[], H, I, .nil, h⟩
theorem pa_cons (ha : PE X e te) (hr : PA X es t) (hs : starEach (e :: es) X.env = (false, eval e X.env) :: starEach es X.env := by rfl) : PA X (e :: es) (tCons te t) := by
  intro pos pins s σ H Q I h
  rw [hs]
  show wpAny _ _ (spliced ((false, eval e X.env) :: backTo pos (starEach es X.env))) _ _ s
  refine Calls.spliced_cons (thn (ha pins s σ H _ I h) fun u s1 ⟨x, H1, I1, r1, q1⟩ => ?_)
  exact thn (hr pos pins s1 σ H1 _ I1 q1) fun us s2 ⟨xs, H2, I2, r2, q2⟩ => ⟨x :: xs, H2, I2, .cons r1 r2, q2⟩

/-- a tuple, a list of written items -/
def tTup (t : TA) : TE := fun σ H Q => t σ H fun xs H1 => xs.length ≤ sizeLine ∧ ∀ p, H1 p = none → Q (.ref p) (upd H1 p (.tup xs))
def tLst (t : TA) : TE := fun σ H Q => t σ H fun xs H1 => xs.length ≤ sizeLine ∧ ∀ p, H1 p = none → Q (.ref p) (upd H1 p (.lst xs))
theorem pe_tup {x1} (h : PA X es t) : PE X (.Tuple es x1 pos) (tTup t) := by
  intro pins s σ H Q I hq
  refine wpAny_Tuple_spliced (thn (h pos pins s σ H _ I hq) fun us s1 ⟨xs, H1, I1, r, z, q⟩ => ⟨by rw [← r.length]; exact z, ?_⟩)
  have hf : H1 s1.heap.objs.size = none := I1.hok.fresh (Nat.le_refl _)
  refine ⟨.ref s1.heap.objs.size, upd H1 s1.heap.objs.size (.tup xs), I1.laid (t' := s1.toks) (fun b u e => Heap.get?_push_of_some _ e) (Nat.le_refl _) ?_, rfl, q _ hf⟩
  exact ⟨z, us, r, ⟨_, Heap.get?_push_size _ rfl, rfl, _, rfl⟩⟩
theorem pe_lst (h : PA X es t) : PE X (.List es pos) (tLst t) := by
  intro pins s σ H Q I hq
  refine wpAny_List_spliced (thn (h pos pins s σ H _ I hq) fun us s1 ⟨xs, H1, I1, r, z, q⟩ => ⟨by rw [← r.length]; exact z, ?_⟩)
  have hf : H1 s1.heap.objs.size = none := I1.hok.fresh (Nat.le_refl _)
  refine ⟨.ref s1.heap.objs.size, upd H1 s1.heap.objs.size (.lst xs), I1.laid (t' := s1.toks) (fun b u e => Heap.get?_push_of_some _ e) (Nat.le_refl _) ?_, rfl, q _ hf⟩
  exact ⟨z, us, 0, r, Heap.get?_push_size _ rfl⟩
end

/-! ### what a def promises -/
/-- a def's promise: the bound arguments in the parameters' order, the heap, the wanted end, the wanted exception -/
abbrev Sp := List V → Hp → VK → XK → Prop
/-- how an exception lies behind a call (file 08 gives it): the callers' frames, abstract heap and state ahead of the call, the wish, the exception, the state -/
abbrev CXT := List Env → Hp → Shared → XK → Value → Shared → Prop

/-- the state at a call -/
structure Env0 (P : Program) (w : World) (K : PySem.W.Frag) (mg : Str → Option Value) (base : Heap) (A : Around) (outer : List Env) (s : Shared) (H : Hp) : Prop where
  frames : A.frames = some outer
  mod : Mod K mg base
  bs : ∀ b o, base.get? b = some o → s.heap.get? b = some o ∧ H b = none
  bsz : base.objs.size ≤ s.heap.objs.size
  funs : s.heap.FunFrames base outer
  frf : ∀ b ∈ frs outer, H b = none
  hok : HOk P w H s.heap
  bare : AllBare s.gens
/-- a call's end -/
def CE (outer : List Env) (P : Program) (w : World) (H : Hp) (s : Shared) (Q : VK) (u : Value) (s' : Shared) : Prop :=
  ∃ v H', s'.os = s.os ∧ AllBare s'.gens ∧ Un (frs outer) [] H H' s.heap s'.heap ∧ HOk P w H' s'.heap ∧ RelV v u ∧ Q v H'
def CR (CX : CXT) (outer : List Env) (P : Program) (w : World) (H : Hp) (s : Shared) (Q : VK) (E : XK) (r : Result) (s' : Shared) : Prop :=
  match r with
  | .ok (.ret u) => CE outer P w H s Q u s'
  | .ok _ => False
  | .error e => CX outer H s E e s'
structure FnOk (P : Program) (w : World) (K : PySem.W.Frag) (mg : Str → Option Value) (base : Heap) (CX : CXT) (k : Nat) (f : Addr) (fd : FuncData) (ps : List Str) (sp : Sp) : Prop where
  len : ∀ vs H Q E, sp vs H Q E → vs.length = ps.length
  run : ∀ (A : Around) (outer : List Env) (s : Shared) (H : Hp) (args : Args) (us : List Value) (vs : List V) (Q : VK) (E : XK), Room k A → Env0 P w K mg base A outer s H → BindsTo s fd args (ps.zip us) → Vals vs us → sp vs H Q E →
    codeAny (model P w) A (.call (.ref f) args) (CR CX outer P w H s Q E) s
theorem FnOk.mono {P : Program} {w : World} {K : PySem.W.Frag} {mg : Str → Option Value} {base : Heap} {CX : CXT} {j k : Nat} {f : Addr} {fd : FuncData} {ps : List Str} {sp : Sp} (F : FnOk P w K mg base CX j f fd ps sp) (h : j ≤ k) :
    FnOk P w K mg base CX k f fd ps sp := ⟨F.len, fun A outer s H args us vs Q E hr => F.run A outer s H args us vs Q E (hr.mono h)⟩
/-- a weaker promise -/
theorem FnOk.imp {P : Program} {w : World} {K : PySem.W.Frag} {mg : Str → Option Value} {base : Heap} {CX : CXT} {k : Nat} {f : Addr} {fd : FuncData} {ps : List Str} {sp sp' : Sp} (F : FnOk P w K mg base CX k f fd ps sp)
    (h : ∀ vs H Q E, sp' vs H Q E → sp vs H Q E) : FnOk P w K mg base CX k f fd ps sp' :=
  ⟨fun vs H Q E q => F.len vs H Q E (h _ _ _ _ q), fun A outer s H args us vs Q E hr he hb hv hs => F.run A outer s H args us vs Q E hr he hb hv (h _ _ _ _ hs)⟩

theorem Env0.make {P : Program} {w : World} {K : PySem.W.Frag} {mg : Str → Option Value} {base : Heap} {A : Around} {outer : List Env} {s : Shared} {H : Hp} (e : Env0 P w K mg base A outer s H) (C : Addr) (us : List Value) (kw : List (Str × Value)) :
    Env0 P w K mg base (A.under (.builtin "type.__call__" ⟨.ref C :: us, kw⟩)) outer s H := ⟨by first | exact e.frames | (simpa [Around.under, Code.envs, Code.isFrame, pushEnvs] using e.frames), e.mod, e.bs, e.bsz, e.funs, e.frf, e.hok, e.bare⟩
theorem Env0.in1 {P : Program} {w : World} {K : PySem.W.Frag} {mg : Str → Option Value} {base : Heap} {A : Around} {outer : List Env} {s : Shared} {H : Hp} (e : Env0 P w K mg base A outer s H) :
    Env0 P w K mg base A.in1 outer s H := ⟨e.frames, e.mod, e.bs, e.bsz, e.funs, e.frf, e.hok, e.bare⟩

section
variable {X : Cx} {pins : List (Addr × Obj)} {σ : St} {H : Hp} {s s' : Shared}
/-- from a body: what a callee wants -/
theorem Inv.env0 (I : Inv X pins σ H s) : Env0 X.prog X.w X.K X.mg X.base X.A X.stack s H :=
  ⟨I.ok.frames, I.ok.mod, I.bs, Nat.le_trans I.ok.bsz I.sz, I.stack, I.stkFree, I.hok, I.bare⟩
/-- behind a call -/
theorem Inv.after {Q : VK} {u : Value} (I : Inv X pins σ H s) (h : CE X.stack X.prog X.w H s Q u s') : EP X pins σ Q u s' := by
  obtain ⟨v, H', os, bare, un, hok, r, q⟩ := h
  obtain ⟨hh, g, d, t, os'⟩ := s'
  obtain rfl : os' = s.os := os
  exact ⟨v, H', I.call (h' := hh) (g' := g) (d' := d) (t' := t) (ch := []) un hok bare (fun b z => absurd z (by simp)), r, q⟩
end

/-! ### calls -/
/-- f(..): the written arguments, then the defaults dvs; E: what is wanted of an exception -/
def tCall (sp : Sp) (dvs : List V) (E : XK) (t : TA) : TE := fun σ H Q => t σ H fun vs H1 => sp (vs ++ dvs) H1 Q E
/-- o.m(..) of an instance of the class at C -/
def tMeth (C : Addr) (m : Str) (sp : Sp) (dvs : List V) (E : XK) (ta : TE) (t : TA) : TE := fun σ H Q => ta σ H fun x H1 => ∃ a dx fs, x = .ref a ∧ H1 a = some (.ins C dx fs) ∧ fs.lookup m = none ∧
  t σ H1 fun vs H2 => sp (x :: (vs ++ dvs)) H2 Q E
/-- C(..): a new instance and its dict, then __init__ -/
def tMake (C : Addr) (sp : Sp) (dvs : List V) (E : XK) (t : TA) : TE := fun σ H Q => t σ H fun vs H1 => ∀ x dx, H1 x = none → H1 dx = none → dx ≠ x →
  sp (.ref x :: (vs ++ dvs)) (upd (upd H1 dx (.own x)) x (.ins C dx [])) (fun v H2 => v = .non ∧ Q (.ref x) H2) E

/-- how the parameters are bound: us the positional arguments, kw the keywords' values by name, ds the defaults that fill up -/
def Binds (K : PySem.W.Frag) (fd : FuncData) (ps : List Str) (ds : List Value) : Prop :=
  ∀ (s : Shared) (us : List Value), K.In s.heap → (us ++ ds).length = ps.length → BindsTo s fd ⟨us, []⟩ (ps.zip (us ++ ds))
/-- every parameter is given -/
theorem Binds.all {K : PySem.W.Frag} {fd : FuncData} {ps : List Str} (h : ∀ us : List Value, us.length = ps.length → bindArgs fd ⟨us, []⟩ = pure (ps.zip us)) : Binds K fd ps [] := fun s us _ hl => by
  rw [List.append_nil] at hl ⊢
  exact .of_eq (h us hl)

/-- an exception of a callee reaches what this body wants of exceptions -/
def Passes (CX : CXT) (X : Cx) (E : XK) : Prop := ∀ (pins : List (Addr × Obj)) (σ : St) (H : Hp) (s : Shared) (e : Value) (s' : Shared), Inv X pins σ H s → CX X.stack H s E e s' → X.xe e s'

section
variable {X : Cx} {CX : CXT} {k : Nat} {f C : Addr} {fd : FuncData} {ps : List Str} {sp : Sp} {dvs : List V} {ds : List Value} {E : XK} {x m : Str} {p pos apos : Pos} {e o : Expr} {es : List Expr} {ta : TE} {t : TA}

/-- the callee runs -/
theorem run_fn {pins : List (Addr × Obj)} {σ : St} {H : Hp} {s : Shared} {Q : VK} {us : List Value} {vs : List V} (F : FnOk X.prog X.w X.K X.mg X.base CX k f fd ps sp) (hr : Room k X.A) (hb : Binds X.K fd ps ds) (hd : Vals dvs ds) (hx : Passes CX X E)
    (I : Inv X pins σ H s) (r : Vals vs us) (h : sp (vs ++ dvs) H Q E) : wpAny (model X.prog X.w) X.A (call (.ref f) us) (EP X pins σ Q) X.xe s := by
  have r2 : Vals (vs ++ dvs) (us ++ ds) := r.append hd
  have hl : (us ++ ds).length = ps.length := by rw [← r2.length]; exact F.len _ _ _ _ h
  refine wpAny_call (codeAny_mono (F.run X.A X.stack s H ⟨us, []⟩ (us ++ ds) (vs ++ dvs) Q E hr I.env0 (hb s us I.kIn hl) r2 h) fun r s' hq => ?_)
  cases r with
  | error e => exact hx pins σ H s e s' I hq
  | ok fl =>
    cases fl with
    | ret u => exact I.after hq
    | next => exact False.elim hq
    | brk => exact False.elim hq
    | cont => exact False.elim hq

theorem pe_call (F : FnOk X.prog X.w X.K X.mg X.base CX k f fd ps sp) (hr : Room k X.A) (hg : Gl X x) (hm : X.mg x = some (.ref f)) (hk : PySem.W.keepIn X.K (.ref f) = true) (hb : Binds X.K fd ps ds) (hd : Vals dvs ds) (hx : Passes CX X E)
    (ha : PA X (e :: es) t) (hdb : (x == ("__debug__" : Str)) = false := by decide) (he : starEach (e :: es) X.env = (false, eval e X.env) :: starEach es X.env := by rfl) (hpl : (backTo pos (starEach es X.env)).any (·.1) = false := by rfl) :
    PE X (.Call (.Name x p) (e :: es) [] pos) (tCall sp dvs E t) := by
  intro pins s σ H Q I h
  refine wpAny_Call_Name_kw (ld_glob I hg hm ?_ hdb)
  refine PySem.W.callWith_K (h₀ := X.base) I.ok.mod.kin hk (thn (ha pos pins s σ H _ I h) fun us s1 ⟨vs, H1, I1, r, q⟩ => ⟨I1.kIn, ?_⟩) he hpl
  exact run_fn F hr hb hd hx I1 r q

/-- o.m(e, ..) -/
theorem pe_meth {pl : Sem Bool} (he : PE X o ta) (c : Cls X.K C) (hm : Meth X.K C m f) (F : FnOk X.prog X.w X.K X.mg X.base CX k f fd ps sp) (hr : Room k X.A) (hb : Binds X.K fd ps ds) (hd : Vals dvs ds) (hx : Passes CX X E) (ha : PA X (e :: es) t)
    (hst : starEach (e :: es) X.env = (false, eval e X.env) :: starEach es X.env := by rfl) (hpl : (backTo pos (starEach es X.env)).any (·.1) = false := by rfl)
    (ht : eval (.Call (.Attribute o m apos) (e :: es) [] pos) X.env = (do
      let ov ← eval o X.env
      standAt apos.atName
      let (f, first) ← holding [ov] (getMethod ov m pl)
      callWith pos f first (backTo pos (starEach (e :: es) X.env)) (backToKw pos (keywordEach [] X.env))) := by rfl) :
    PE X (.Call (.Attribute o m apos) (e :: es) [] pos) (tMeth C m sp dvs E ta t) := by
  intro pins s σ H Q I h
  refine PySem.W.methodCall_KW (pl := pl) (thn (he pins s σ H _ I h) fun u s1 ⟨x, H1, I1, rx, a, dx, fs, ex, ea, l, q⟩ => ?_) ht
  subst ex
  obtain rfl : u = Value.ref a := rx
  refine getmeth_ok I1 ea c hm l ?_
  refine PySem.W.callWith_K (first := [.ref a]) (h₀ := X.base) I.ok.mod.kin hm.kp (thn (ha pos pins s1 σ H1 _ I1 q) fun us s2 ⟨vs, H2, I2, r, q2⟩ => ⟨I2.kIn, ?_⟩) hst hpl
  exact run_fn (us := .ref a :: us) (vs := .ref a :: vs) F hr hb hd hx I2 (.cons rfl r) q2
/-- o.m() -/
theorem pe_meth0 {pl : Sem Bool} (he : PE X o ta) (c : Cls X.K C) (hm : Meth X.K C m f) (F : FnOk X.prog X.w X.K X.mg X.base CX k f fd ps sp) (hr : Room k X.A) (hb : Binds X.K fd ps ds) (hd : Vals dvs ds) (hx : Passes CX X E)
    (ht : eval (.Call (.Attribute o m apos) [] [] pos) X.env = (do
      let ov ← eval o X.env
      standAt apos.atName
      let (f, first) ← holding [ov] (getMethod ov m pl)
      callWith pos f first (backTo pos (starEach [] X.env)) (backToKw pos (keywordEach [] X.env))) := by rfl) :
    PE X (.Call (.Attribute o m apos) [] [] pos) (tMeth C m sp dvs E ta tNil) := by
  intro pins s σ H Q I h
  refine PySem.W.methodCall_KW (pl := pl) (thn (he pins s σ H _ I h) fun u s1 ⟨x, H1, I1, rx, a, dx, fs, ex, ea, l, q⟩ => ?_) ht
  subst ex
  obtain rfl : u = Value.ref a := rx
  refine getmeth_ok I1 ea c hm l ?_
  exact PySem.W.callWith_K0 (first := [.ref a]) I1.kIn hm.kp (run_fn (us := [.ref a]) (vs := [.ref a]) F hr hb hd hx I1 (.cons rfl .nil) q)

/-- what a class must have to be made -/
structure Mk (K : PySem.W.Frag) (C f : Addr) : Prop where
  makes : PySem.W.makesIn K C = true
  init : PySem.W.findIn K (.ref C) "__init__" = some (some (.ref f))
  fn : PySem.W.isFn K (.ref f) = true
  kp : PySem.W.keepIn K (.ref C) = true

theorem run_make {pins : List (Addr × Obj)} {σ : St} {H : Hp} {s : Shared} {Q : VK} {us : List Value} {vs : List V} (M : Mk X.K C f) (F : FnOk X.prog X.w X.K X.mg X.base CX k f fd ps sp) (hr : Room (k + 1) X.A) (hb : Binds X.K fd ps ds) (hd : Vals dvs ds)
    (hx : Passes CX X E) (I : Inv X pins σ H s) (r : Vals vs us)
    (h : ∀ x dx, H x = none → H dx = none → dx ≠ x → sp (.ref x :: (vs ++ dvs)) (upd (upd H dx (.own x)) x (.ins C dx [])) (fun v H2 => v = .non ∧ Q (.ref x) H2) E) :
    wpAny (model X.prog X.w) X.A (call (.ref C) us) (EP X pins σ Q) X.xe s := by
  have hq := h (s.heap.objs.size + 1) s.heap.objs.size (I.hok.fresh (Nat.le_succ _)) (I.hok.fresh (Nat.le_refl _)) (Nat.ne_of_lt (Nat.lt_succ_self _))
  have I2 := Inv.made (C := C) I
  have r2 : Vals (V.ref (s.heap.objs.size + 1) :: (vs ++ dvs)) (Value.ref (s.heap.objs.size + 1) :: (us ++ ds)) := .cons rfl (r.append hd)
  have hl : (Value.ref (s.heap.objs.size + 1) :: us ++ ds).length = ps.length := by
    have e := r2.length
    rw [F.len _ _ _ _ hq] at e
    exact e.symm
  refine wpAny_call (make_map (f := f) I.kIn M.makes M.init (beq_iff_eq.mp M.fn) (codeAny_mono (F.run _ X.stack _ _ ⟨Value.ref (s.heap.objs.size + 1) :: us, []⟩ (Value.ref (s.heap.objs.size + 1) :: (us ++ ds)) _ _ E (hr.make C us [])
    (I2.env0.make C us []) (hb _ (Value.ref (s.heap.objs.size + 1) :: us) I2.kIn hl) r2 hq) fun r s' hq' => ?_))
  cases r with
  | error e => exact hx pins σ _ _ e s' I2 hq'
  | ok fl =>
    cases fl with
    | ret u =>
      obtain ⟨v, H', I3, rv, ev, q3⟩ := I2.after hq'
      subst ev
      exact ⟨rv, ⟨V.ref (s.heap.objs.size + 1), H', I3, rfl, q3⟩⟩
    | next => exact False.elim hq'
    | brk => exact False.elim hq'
    | cont => exact False.elim hq'
theorem pe_make0 (M : Mk X.K C f) (F : FnOk X.prog X.w X.K X.mg X.base CX k f fd ps sp) (hr : Room (k + 1) X.A) (hg : Gl X x) (hm : X.mg x = some (.ref C)) (hb : Binds X.K fd ps ds) (hd : Vals dvs ds) (hx : Passes CX X E)
    (hdb : (x == ("__debug__" : Str)) = false := by decide) : PE X (.Call (.Name x p) [] [] pos) (tMake C sp dvs E tNil) := by
  intro pins s σ H Q I h
  refine wpAny_Call_Name_kw (ld_glob I hg hm ?_ hdb)
  exact PySem.W.callWith_K0 I.kIn M.kp (run_make (us := []) M F hr hb hd hx I .nil h)
end

/-! ### keywords -/
/-- the values of the keywords, from the left -/
def PK (X : Cx) (kws : List Keyword) (t : TA) : Prop :=
  ∀ (pos : Pos) (pins : List (Addr × Obj)) (s : Shared) (σ : St) (H : Hp) (Q : List V → Hp → Prop), Inv X pins σ H s → t σ H Q → wpAny (model X.prog X.w) X.A (evalAll ((backToKw pos (keywordEach kws X.env)).map (·.2))) (AP X pins σ Q) X.xe s
section
variable {X : Cx} {CX : CXT} {k : Nat} {f C : Addr} {fd : FuncData} {ps ks : List Str} {sp : Sp} {E : XK} {x m : Str} {p pos apos kpos : Pos} {e o : Expr} {es : List Expr} {kws : List Keyword} {te ta : TE} {t tk : TA} {nm : Option Str}

/-- how a call with keywords binds: g puts the positional values us and the keywords' values ws (names ks) in the parameters' order, defaults among them -/
structure KBinds (K : PySem.W.Frag) (fd : FuncData) (ps ks : List Str) (g : List Value → List Value → List Value) (gV : List V → List V → List V) : Prop where
  to : ∀ (s : Shared) (us ws : List Value), K.In s.heap → (g us ws).length = ps.length → BindsTo s fd ⟨us, ks.zip ws⟩ (ps.zip (g us ws))
  rel : ∀ {vs : List V} {us : List Value} {zs : List V} {ws : List Value}, Vals vs us → Vals zs ws → Vals (gV vs zs) (g us ws)
def tCallK (sp : Sp) (gV : List V → List V → List V) (E : XK) (t tk : TA) : TE := fun σ H Q => t σ H fun vs H1 => tk σ H1 fun zs H2 => sp (gV vs zs) H2 Q E
variable {g : List Value → List Value → List Value} {gV : List V → List V → List V}
end

/-! ### a def's body keeps its promise -/
/-- names: the parameters first -/
structure FnScope (N P : List Str) (sc : Scope) : Prop where
  kind : sc.kind = .function
  co : sc.isCoroutine = false
  gen : sc.isGenerator = false
  nd : N.Nodup
  pre : N.take P.length = P
  par : ∀ x ∈ P, sc.names.lookup x = some .local ∨ sc.names.lookup x = some .cell
  nofree : ∀ y ∈ sc.names, y.2 ≠ .free

theorem bindL_out {kindOf : Str → Option NameKind} {x : Str} : ∀ {binds : List (Str × Value)} {m : Str → Option Value}, (∀ v, (x, v) ∉ binds) → bindL kindOf binds m x = m x
  | [], _, _ => rfl
  | (n, v) :: r, m, h => by
    unfold bindL
    rw [bindL_out fun w hw => h w (List.mem_cons_of_mem _ hw)]
    split
    · have : x ≠ n := by rintro rfl; exact h v List.mem_cons_self
      simp [this]
    · rfl
theorem bindC_out {kindOf : Str → Option NameKind} {x : Str} : ∀ {binds : List (Str × Value)} {m : Str → Option Value}, (∀ v, (x, v) ∉ binds) → bindC kindOf binds m x = m x
  | [], _, _ => rfl
  | (n, v) :: r, m, h => by
    unfold bindC
    rw [bindC_out fun w hw => h w (List.mem_cons_of_mem _ hw)]
    split
    · rfl
    · have : x ≠ n := by rintro rfl; exact h v List.mem_cons_self
      simp [this]
theorem bindL_get {kindOf : Str → Option NameKind} {x : Str} {v : Value} : ∀ {P : List Str} {vs : List Value} {i : Nat} {m : Str → Option Value}, P.Nodup → P[i]? = some x → vs[i]? = some v → kindOf x = some .local →
    bindL kindOf (P.zip vs) m x = some v
  | [], _, _, _, _, h, _, _ => by simp at h
  | _ :: _, [], _, _, _, _, h, _ => by simp at h
  | p :: P, w :: vs, 0, m, nd, h1, h2, hk => by
    simp at h1 h2; subst h1; subst h2
    show bindL kindOf ((p, w) :: P.zip vs) m p = _
    unfold bindL
    rw [bindL_out fun v hv => (List.nodup_cons.mp nd).1 (List.of_mem_zip hv).1, if_pos hk]
    simp
  | p :: P, w :: vs, i + 1, m, nd, h1, h2, hk => by
    show bindL kindOf ((p, w) :: P.zip vs) m x = _
    unfold bindL
    exact bindL_get (i := i) (List.nodup_cons.mp nd).2 (by simpa using h1) (by simpa using h2) hk
theorem bindC_get {kindOf : Str → Option NameKind} {x : Str} {v : Value} : ∀ {P : List Str} {vs : List Value} {i : Nat} {m : Str → Option Value}, P.Nodup → P[i]? = some x → vs[i]? = some v → kindOf x ≠ some .local →
    bindC kindOf (P.zip vs) m x = some v
  | [], _, _, _, _, h, _, _ => by simp at h
  | _ :: _, [], _, _, _, _, h, _ => by simp at h
  | p :: P, w :: vs, 0, m, nd, h1, h2, hk => by
    simp at h1 h2; subst h1; subst h2
    show bindC kindOf ((p, w) :: P.zip vs) m p = _
    unfold bindC
    rw [bindC_out fun v hv => (List.nodup_cons.mp nd).1 (List.of_mem_zip hv).1, if_neg hk]
    simp
  | p :: P, w :: vs, i + 1, m, nd, h1, h2, hk => by
    show bindC kindOf ((p, w) :: P.zip vs) m x = _
    unfold bindC
    exact bindC_get (i := i) (List.nodup_cons.mp nd).2 (by simpa using h1) (by simpa using h2) hk

/-- the names' values at the entry -/
def start (N : List Str) (vs : List V) : St := vs.map some ++ List.replicate (N.length - vs.length) none

/-- the context of a def's body, at its entry; an exception leaves the frame, then lies as CX says -/
def cxOf (CX : CXT) (P : Program) (w : World) (K : PySem.W.Frag) (mg : Str → Option Value) (base : Heap) (N : List Str) (qual : Str) (scope : Scope) (f : Addr) (cd : Value) (A : Around) (outer : List Env) (s : Shared) (H : Hp) (E : XK) : Cx where
  prog := P
  w := w
  K := K
  mg := mg
  base := base
  A := A.deeper (envOfC qual scope s.heap.objs.size f cd)
  N := N
  s₀ := s
  H₀ := H
  env := envOfC qual scope s.heap.objs.size f cd
  outer := outer
  stack := envOfC qual scope s.heap.objs.size f cd :: outer
  ex := []
  calm := true
  fn := fun _ => true
  pn := []
  xe := fun e s' => wpAny (model P w) (A.deeper (envOfC qual scope s.heap.objs.size f cd)) (leaving (envOfC qual scope s.heap.objs.size f cd) e) (fun _ s'' => CX outer H s E e s'') (fun e' s'' => CX outer H s E e' s'') s'

theorem cell_has {sc : Scope} {n : Nat} {x : Str} (h : sc.names.lookup x = some .cell) : ∃ c, (cellsFrom n sc.names []).lookup x = some c := by
  have q := PySem.W.cellsFrom_some sc.names n [] (.inl h)
  exact Option.isSome_iff_exists.mp q

theorem inv_start {CX : CXT} {P : Program} {w : World} {K : PySem.W.Frag} {mg : Str → Option Value} {base : Heap} {N ps : List Str} {qual : Str} {scope : Scope} {f : Addr} {cd : Value} {A : Around} {outer : List Env} {s s1 : Shared} {H : Hp} {E : XK} {us : List Value} {vs : List V}
    (S : FnScope N ps scope) (hd : A.handled = none) (e0 : Env0 P w K mg base A outer s H) (hl : vs.length = ps.length) (r : Vals vs us)
    (x : InCallC s s.heap.objs.size (bindL (envOfC qual scope s.heap.objs.size f cd).kindOf (ps.zip us) fun _ => none) (cellsFrom (s.heap.objs.size + 1) scope.names []) (bindC (envOfC qual scope s.heap.objs.size f cd).kindOf (ps.zip us) fun _ => none) s1) :
    Inv (cxOf CX P w K mg base N qual scope f cd A outer s H E) [] (start N vs) H s1 := by
  have hpl : ps.length ≤ N.length := by have := congrArg List.length S.pre; rw [List.length_take] at this; omega
  obtain ⟨h1, tk, rfl, hk⟩ := x.done
  have noA : ∀ b : Addr, b ∉ (cxOf CX P w K mg base N qual scope f cd A outer s H E).ex := fun b z => absurd (show b ∈ ([] : List Addr) from z) (by simp)
  refine ⟨⟨e0.mod, S.kind, rfl, rfl, Nat.le_refl _, fun y z c h1 h2 => ?_, fun y hy => ?_, fun y c _ h => ?_, fun _ => hd, Around.frames_deeper e0.frames, .inr ⟨rfl, rfl⟩, fun b z => absurd z (noA b), e0.bs, e0.bsz, fun b _ _ => noA b, fun b z => absurd z (noA b), e0.funs, e0.frf⟩,
    rfl, e0.bare, Un.kept hk, ⟨_, x.toInCall.ns, fun i y v h1 h2 h3 => ?_⟩, fun y c h => ⟨_, x.cell y c h⟩, e0.hok.fresh (Nat.le_refl _), fun y c h => ?_, fun p hp => absurd (show p ∈ ([] : List (Addr × Obj)) from hp) (by simp), e0.hok.kept hk, ?_⟩
  · exact name_of_addr x.apart (PySem.mem_of_lookup h1) (PySem.mem_of_lookup h2)
  · have hy : scope.names.lookup y = some .cell ∨ scope.names.lookup y = some .free := hy
    rcases hy with hy | hy
    · exact cell_has hy
    · exact absurd rfl (S.nofree _ (PySem.mem_of_lookup hy))
  · exact Nat.le_of_lt (x.above y c (PySem.mem_of_lookup h))
  · have hi : i < vs.length := by
      unfold start at h2
      by_cases hi : i < vs.length
      · exact hi
      · rw [List.getElem?_append_right (by simpa using hi)] at h2
        rw [List.getElem?_replicate] at h2
        split at h2 <;> cases h2
    have ha : vs[i]? = some v := by
      unfold start at h2
      rw [List.getElem?_append_left (by simpa using hi), List.getElem?_map] at h2
      cases e : vs[i]? with
      | none => rw [e] at h2; cases h2
      | some a => rw [e] at h2; cases h2; rfl
    obtain ⟨u, hu, rv⟩ := r.get ha
    have hp : ps[i]? = some y := by
      rw [← S.pre, List.getElem?_take_of_lt (by omega)]; exact h1
    have ndP : ps.Nodup := by rw [← S.pre]; exact S.nd.sublist (List.take_sublist _ _)
    refine ⟨u, rv, ?_⟩
    rcases S.par y (List.mem_of_getElem? hp) with k | k
    · exact .inl ⟨k, bindL_get ndP hp hu k⟩
    · obtain ⟨c, e⟩ := cell_has (n := s.heap.objs.size + 1) k
      refine .inr ⟨.inl k, c, e, ?_⟩
      have q := x.cell y c e
      rw [bindC_get ndP hp hu (by show scope.names.lookup y ≠ _; rw [k]; decide)] at q
      exact q
  · exact e0.hok.fresh (Nat.le_of_lt (x.above y c (PySem.mem_of_lookup h)))
  · unfold start
    show _ = N.length
    rw [List.length_append, List.length_map, List.length_replicate]
    omega

/-- THE RULE: a def (or a method) of the text, by its body. The body's reading t is chosen for each entry; it is run at the parameters' values -/
theorem fn_of {CX : CXT} {P : Program} {w : World} {K : PySem.W.Frag} {mg : Str → Option Value} {base : Heap} {k : Nat} {f : Addr} {name qual : Str} {params : Arguments} {body : List Stmt} {scope : Scope} {dV kV doc pm cdv ct oc : Value} {an od : Option Addr}
    {osl : Array (Option Value)} {N ps : List Str} {sp : Sp} (lk : K.lookup f = some ⟨oc, od, .func (PySem.W.fnOf name qual params body scope dV kV doc pm an cdv ct), osl⟩) (hcd : PySem.W.codeIn K cdv qual = true) (S : FnScope N ps scope)
    (len : ∀ vs H Q E, sp vs H Q E → vs.length = ps.length)
    (hbody : ∀ (A : Around) (outer : List Env) (s : Shared) (H : Hp) (vs : List V) (Q : VK) (E : XK), Room k (A.deeper (envOfC qual scope s.heap.objs.size f cdv)) → sp vs H Q E →
      ∃ t, PSs (cxOf CX P w K mg base N qual scope f cdv A outer s H E) body t ∧ t { nx := fun _ H' => Q .non H', rt := Q } (start N vs) H) :
    FnOk P w K mg base CX (k + 1) f (PySem.W.fnOf name qual params body scope dV kV doc pm an cdv ct) ps sp := by
  refine ⟨len, fun A outer s H args us vs Q E hr e0 hb r hsp => ?_⟩
  have hl := len _ _ _ _ hsp
  have KX : K.In s.heap := e0.mod.kin.keeps fun b o e => (e0.bs b o e).1
  have lim : s.heap.NoLimit := e0.mod.nolimit.keeps fun b o e => (e0.bs b o e).1
  have hkind : ∀ y ∈ ps.zip us, scope.names.lookup y.1 = some .local ∨ (scope.names.lookup y.1 = some .cell ∧ ((cellsFrom (s.heap.objs.size + 1) scope.names []).lookup y.1).isSome = true) := fun ⟨n, v⟩ hy => by
    rcases S.par n (List.of_mem_zip hy).1 with q | q
    · exact .inl q
    · exact .inr ⟨q, PySem.W.cellsFrom_some _ _ _ (.inl q)⟩
  refine codeAny_call_function hr.depth (KX _ _ lk) rfl S.co S.gen rfl (PySem.W.codeRec_of KX hcd) (hb _ _ _ _ ?_)
  refine wpAny_newFunctionEnv_cells S.kind hkind fun env he s1 x => ?_
  subst he
  refine ⟨lim.keeps x.toInCall.keep, codeAny_func ?_⟩
  obtain ⟨t, ht, hq⟩ := hbody A outer s H vs Q E (hr.deeper _) hsp
  have I : Inv (cxOf CX P w K mg base N qual scope f cdv A outer s H E) [] (start N vs) H s1 := inv_start S hr.hd e0 hl r x
  refine wpAny_mono (ht [] s1 (start N vs) H _ I hq) (fun fl s' hs => ?_) fun e s' hs => hs
  have fin : ∀ {σ' : St} {H' : Hp} {v : V} {u : Value}, Inv (cxOf CX P w K mg base N qual scope f cdv A outer s H E) [] σ' H' s' → RelV v u → Q v H' → CE outer P w H s Q u s' :=
    fun {σ' H' v u} J rv q => ⟨v, H', J.os, J.bare, J.base, J.hok, rv, q⟩
  cases fl with
  | ret u =>
    obtain ⟨v, σ', H', J, rv, q⟩ := hs
    exact fin J rv q
  | next =>
    obtain ⟨σ', H', J, q⟩ := hs
    exact fin (v := V.non) (u := Value.none) J rfl q
  | brk =>
    obtain ⟨_, _, _, q⟩ := hs
    exact False.elim q
  | cont =>
    obtain ⟨_, _, _, q⟩ := hs
    exact False.elim q
end L2

namespace L2
open PySem PySem.Spec PyProof.Rows
section
variable {X : Cx} {x : Str} {p pos : Pos} {e : Expr} {es : List Expr} {t : TA} {id T : String} {r : List V → Hp → VK → Prop}

def tCB (r : List V → Hp → VK → Prop) (t : TA) : TE := fun σ H Q => t σ H fun vs H1 => r vs H1 Q
/-- f(e, ..), f a built-in function -/
theorem pe_callB (hc : CallR X (.builtin id) r) (hg : Gl X x) (hm : X.mg x = none) (hv : bootBuiltins x = some (.builtin id)) (ha : PA X (e :: es) t) (hn : x ≠ "__name__" := by decide) (hdb : (x == ("__debug__" : Str)) = false := by decide)
    (he : starEach (e :: es) X.env = (false, eval e X.env) :: starEach es X.env := by rfl) (hpl : (backTo pos (starEach es X.env)).any (·.1) = false := by rfl) : PE X (.Call (.Name x p) (e :: es) [] pos) (tCB r t) := by
  intro pins s σ H Q I h
  refine wpAny_Call_Name_kw (ld_blt I hg hm hv ?_ hn hdb)
  exact PyProof.Rows.callWith_builtin1 (thn (ha pos pins s σ H _ I h) fun us s1 ⟨vs, H1, I1, r1, q1⟩ => hc pins s1 σ H1 vs us Q I1 r1 q1) he hpl
/-- T(e, ..), T a built-in type -/
theorem pe_callTy (hc : CallR X (.type T) r) (hg : Gl X x) (hm : X.mg x = none) (hv : bootBuiltins x = some (.type T)) (ha : PA X (e :: es) t) (hn : x ≠ "__name__" := by decide) (hdb : (x == ("__debug__" : Str)) = false := by decide)
    (he : starEach (e :: es) X.env = (false, eval e X.env) :: starEach es X.env := by rfl) (hpl : (backTo pos (starEach es X.env)).any (·.1) = false := by rfl) : PE X (.Call (.Name x p) (e :: es) [] pos) (tCB r t) := by
  intro pins s σ H Q I h
  refine wpAny_Call_Name_kw (ld_blt I hg hm hv ?_ hn hdb)
  exact PyProof.Rows.callWith_type1 (thn (ha pos pins s σ H _ I h) fun us s1 ⟨vs, H1, I1, r1, q1⟩ => hc pins s1 σ H1 vs us Q I1 r1 q1) he hpl
end
end L2

namespace HT
open PySem PyProof.Rows

/-- t < u of tuples of ints -/
def lexLt : List Int → List Int → Bool
  | [], [] => false
  | [], _ :: _ => true
  | _ :: _, [] => false
  | x :: xs, y :: ys => if x = y then lexLt xs ys else decide (x < y)


section
open PySem.SeqAt
open PySem.AutoSeq1 (wpAny_loadPart')
open PySem.MeetsSeq PySem.MeetsSeq2 PySem.MeetsSeq3

end

section
variable {prog : Program} {w : World} {A : Around} {E : Value → Shared → Prop} {s : Shared}



/-! ### t[a:b], not the whole -/
/-- a slice's bound as a place among n (d where it is left out) -/
def sIx (n d : Nat) : Option Int → Nat
  | none => d
  | some v => if v < 0 then (v + (n : Int)).toNat else min v.toNat n

end
end HT

namespace L2
open PySem PySem.Spec PyProof.Rows

/-! ### the parts of a slice -/
abbrev TO := St → Hp → (Option Int → Hp → Prop) → Prop
/-- a slice's part (left out, or an int) -/
def PO (X : Cx) (e : Option Expr) (t : TO) : Prop :=
  ∀ (pins : List (Addr × Obj)) (s : Shared) (σ : St) (H : Hp) (Q : Option Int → Hp → Prop), Inv X pins σ H s → t σ H Q →
    wpAny (model X.prog X.w) X.A (evalPart e X.env) (fun u s' => ∃ o H', Inv X pins σ H' s' ∧ IsPart u o ∧ Q o H') X.xe s
def tNoPart : TO := fun _ H Q => Q none H
def tPart (t : TE) : TO := fun σ H Q => t σ H fun x H1 => ∃ i, x = .int i ∧ Q (some i) H1


section
variable {X : Cx} {e : Expr} {te : TE} {lo hi : Option Expr} {tl th : TO} {pos p2 : Pos}

theorem po_none : PO X none tNoPart := by
  intro pins s σ H Q I h
  rw [evalPart_none]
  exact wpAny_pure ⟨none, H, I, .none, h⟩
theorem po_some (h : PE X e te) : PO X (some e) (tPart te) := by
  intro pins s σ H Q I hw
  rw [evalPart_some]
  refine thn (h pins s σ H _ I hw) fun u s1 ⟨x, H1, I1, r1, q1⟩ => ?_
  obtain ⟨i, rfl, q⟩ := q1
  obtain ⟨t, rfl⟩ := r1
  exact ⟨some i, H1, I1, .int i t, q⟩

/-- what a slice of a value is, by values: the slice object stands at sl -/
def SlR (X : Cx) (r : V → Option Int → Option Int → Hp → VK → Prop) : Prop :=
  ∀ (pins : List (Addr × Obj)) (s : Shared) (σ : St) (H : Hp) (x : V) (v vl vu : Value) (lo hi : Option Int) (sl : Addr) (Q : VK), Inv X pins σ H s → RelV x v → s.heap.IsSliceOf sl vl vu .none → IsPart vl lo → IsPart vu hi → r x lo hi H Q →
    ∃ T id, typeLookup (.type T) "__getitem__" = pure (some (.builtin id)) ∧ s.TypeIs v T ∧ wpAny (model X.prog X.w) X.A (getItem v (.ref sl)) (EP X pins σ Q) X.xe s
theorem SlR.or {r r' : V → Option Int → Option Int → Hp → VK → Prop} (h : SlR X r) (h' : SlR X r') : SlR X (fun x lo hi H Q => r x lo hi H Q ∨ r' x lo hi H Q) := by
  intro pins s σ H x v vl vu lo hi sl Q I rx hs pl pu q
  rcases q with q | q
  · exact h pins s σ H x v vl vu lo hi sl Q I rx hs pl pu q
  · exact h' pins s σ H x v vl vu lo hi sl Q I rx hs pl pu q
def tSl (r : V → Option Int → Option Int → Hp → VK → Prop) (te : TE) (tl th : TO) : TE := fun σ H Q => te σ H fun x H1 => tl σ H1 fun l H2 => th σ H2 fun u H3 => r x l u H3 Q
/-- a[lo:hi], any a -/
theorem pe_slice {r : V → Option Int → Option Int → Hp → VK → Prop} (hr : SlR X r) (he : PE X e te) (hl : PO X lo tl) (hu : PO X hi th) : PE X (.Subscript e (.Slice lo hi none p2) pos) (tSl r te tl th) := by
  intro pins s σ H Q I h
  refine Subscript_ (thn (he pins s σ H _ I h) fun v s1 ⟨x, H1, I1, r1, q1⟩ => ?_)
  refine wpAny_Slice (thn (hl pins s1 σ H1 _ I1 q1) fun vl s2 ⟨l, H2, I2, pl, q2⟩ => thn (hu pins s2 σ H2 _ I2 q2) fun vu s3 ⟨u, H3, I3, pu, q3⟩ => ?_)
  rw [evalPart_none]
  refine wpAny_pure ?_
  have I4 : Inv X pins σ H3 { s3 with heap := s3.heap.push { cls := .type "slice", data := .fields #[vl, vu, .none] } } := I3.kept (t' := s3.toks) fun b ob q => Heap.get?_push_of_some _ q
  obtain ⟨T, id, hT, ht, hg⟩ := hr pins { s3 with heap := s3.heap.push { cls := .type "slice", data := .fields #[vl, vu, .none] } } σ H3 x v vl vu l u s3.heap.objs.size Q I4 r1 (Heap.IsSliceOf.new ..) pl pu q3
  show wpAny (model X.prog X.w) X.A (subscriptTail e (.Slice lo hi none p2) v (.ref s3.heap.objs.size)) (EP X pins σ Q) X.xe { s3 with heap := s3.heap.push { cls := .type "slice", data := .fields #[vl, vu, .none] } }
  exact tail_any (ops := [.ref s3.heap.objs.size, v]) ht hT hg (by with_unfolding_all rfl)

/-- the items of xs[lo:hi] -/
def cutV (xs : List V) (lo hi : Option Int) : List V := (xs.drop (HT.sIx xs.length 0 lo)).take (HT.sIx xs.length xs.length hi - HT.sIx xs.length 0 lo)
theorem cutV_length (xs : List V) (lo hi : Option Int) : (cutV xs lo hi).length ≤ xs.length := by
  unfold cutV
  rw [List.length_take, List.length_drop]
  omega
/-- t[lo:hi], not the whole of it (the whole would be t itself) -/
def rSlT (K : PySem.W.Frag) : V → Option Int → Option Int → Hp → VK → Prop := fun x lo hi H Q => ∃ a xs, x = .ref a ∧ SqT K H a xs ∧
  ¬ (HT.sIx xs.length 0 lo = 0 ∧ HT.sIx xs.length xs.length hi = xs.length) ∧ ∀ p, H p = none → Q (.ref p) (upd H p (.tup (cutV xs lo hi)))

/-! ### t < u, t + u -/
def rLtT (K : PySem.W.Frag) : R2 := fun x y H Q => ∃ a b ns ms, x = .ref a ∧ y = .ref b ∧ SqT K H a (ns.map V.int) ∧ SqT K H b (ms.map V.int) ∧ Q (.bl (HT.lexLt ns ms)) H
/-- t + u, t not empty: u empty gives t itself -/
def rCatT (K : PySem.W.Frag) : R2 := fun x y H Q => ∃ a b xs ys, x = .ref a ∧ y = .ref b ∧ SqT K H a xs ∧ SqT K H b ys ∧ xs ≠ [] ∧ xs.length + ys.length ≤ sizeLine ∧
  (ys = [] → Q (.ref a) H) ∧ (ys ≠ [] → ∀ p, H p = none → Q (.ref p) (upd H p (.tup (xs ++ ys))))
end
end L2

namespace L2
open PySem PySem.Spec PyProof.Rows

/-! ### places -/
/-- the place that an index of any sign means -/
def ixN (n : Nat) (i : Int) : Option Nat := if 0 ≤ i then (if i < n then some i.toNat else none) else if -(n : Int) ≤ i then some (i + n).toNat else none
def atI {α : Type} (xs : List α) (i : Int) : Option α := (ixN xs.length i).bind fun j => xs[j]?
theorem ixN_seq {n : Nat} {i : Int} {j : Nat} (h : ixN n i = some j) : seqIndex? i n = some j ∧ j < n ∧ -(n : Int) ≤ i ∧ i < n := by
  unfold ixN at h
  by_cases h0 : 0 ≤ i
  · rw [if_pos h0] at h
    by_cases h1 : i < n
    · rw [if_pos h1] at h
      have e : i.toNat = j := Option.some.inj h
      exact ⟨by rw [seqIndex_of h0 h1, e], by omega, by omega, h1⟩
    · rw [if_neg h1] at h; cases h
  · rw [if_neg h0] at h
    by_cases h1 : -(n : Int) ≤ i
    · rw [if_pos h1] at h
      have e : (i + n).toNat = j := Option.some.inj h
      exact ⟨by rw [seqIndex_neg (by omega) h1, e], by omega, h1, by omega⟩
    · rw [if_neg h1] at h; cases h
theorem atI_get {α : Type} {xs : List α} {i : Int} {v : α} (h : atI xs i = some v) : ∃ j, seqIndex? i xs.length = some j ∧ xs[j]? = some v ∧ j < xs.length ∧ -(xs.length : Int) ≤ i ∧ i < xs.length := by
  unfold atI at h
  cases e : ixN xs.length i with
  | none => rw [e] at h; cases h
  | some j =>
    rw [e] at h
    obtain ⟨h1, h2, h3, h4⟩ := ixN_seq e
    exact ⟨j, h1, h, h2, h3, h4⟩
theorem atI_nat {α : Type} {xs : List α} {j : Nat} {v : α} (h : xs[j]? = some v) : atI xs (j : Int) = some v := by
  have hj : j < xs.length := (List.getElem?_eq_some_iff.mp h).1
  have e : ixN xs.length (j : Int) = some j := by
    unfold ixN
    rw [if_pos (by omega), if_pos (by omega)]; simp
  unfold atI; rw [e]; exact h

/-! ### what may be subscripted -/
/-- what stands as an index of a plain subscript -/
def PlainIx (b : Expr) : Prop := ∀ o i, subscripted b false o i = operate [o, i] (getItem o i)
/-- a subscript by values -/
def IxR (X : Cx) (r : R2) : Prop :=
  ∀ (value slice : Expr) (pins : List (Addr × Obj)) (s : Shared) (σ : St) (H : Hp) (x y : V) (v u : Value) (Q : VK), Inv X pins σ H s → RelV x v → RelV y u → r x y H Q →
    subscripted slice false v u = operate [v, u] (getItem v u) → wpAny (model X.prog X.w) X.A (subscriptTail value slice v u) (EP X pins σ Q) X.xe s
/-- a call of a builtin's method by values: the receiver, the arguments -/
def MtR (X : Cx) (id : String) (r : V → List V → Hp → VK → Prop) : Prop :=
  ∀ (pins : List (Addr × Obj)) (s : Shared) (σ : St) (H : Hp) (x : V) (xs : List V) (v : Value) (us : List Value) (Q : VK), Inv X pins σ H s → RelV x v → Vals xs us → r x xs H Q →
    wpAny (model X.prog X.w) X.A (call (.builtin id) (v :: us)) (EP X pins σ Q) X.xe s
section
variable {X : Cx} {a b : Expr} {ta tb : TE} {pos : Pos}
theorem IxR.or {r r' : R2} (h : IxR X r) (h' : IxR X r') : IxR X (fun x y H Q => r x y H Q ∨ r' x y H Q) := by
  intro value slice pins s σ H x y v u Q I rx ry q hs
  rcases q with q | q
  · exact h value slice pins s σ H x y v u Q I rx ry q hs
  · exact h' value slice pins s σ H x y v u Q I rx ry q hs
theorem MtR.or {id : String} {r r' : V → List V → Hp → VK → Prop} (h : MtR X id r) (h' : MtR X id r') : MtR X id (fun x xs H Q => r x xs H Q ∨ r' x xs H Q) := by
  intro pins s σ H x xs v us Q I rx rs q
  rcases q with q | q
  · exact h pins s σ H x xs v us Q I rx rs q
  · exact h' pins s σ H x xs v us Q I rx rs q
/-- a[b] -/
theorem pe_ix {r : R2} (hr : IxR X r) (ha : PE X a ta) (hb : PE X b tb) (hs : PlainIx b) : PE X (.Subscript a b pos) (tOp r ta tb) := by
  intro pins s σ H Q I h
  exact Subscript_ (binT ha hb I h fun v u s2 x y H2 I2 rx ry q => hr a b pins s2 σ H2 x y v u Q I2 rx ry q (hs _ _))

def rIxL (K : PySem.W.Frag) : R2 := fun x y H Q => ∃ p xs i v, x = .ref p ∧ y = .int i ∧ SqL K H p xs ∧ atI xs i = some v ∧ Q v H
def rIxT (K : PySem.W.Frag) : R2 := fun x y H Q => ∃ p xs i v, x = .ref p ∧ y = .int i ∧ SqT K H p xs ∧ atI xs i = some v ∧ Q v H
def rIxS : R2 := fun x y H Q => ∃ z i c, x = .str z ∧ y = .int i ∧ z.length ≤ sizeLine ∧ atI z.cps.toList i = some c ∧ Q (.str ⟨#[c]⟩) H
theorem ix_list : IxR X (rIxL X.K) := by
  intro value slice pins s σ H x y v u Q I rx ry h hs
  obtain ⟨p, xs, i, z, rfl, rfl, hq, he, q⟩ := h
  cases rx
  obtain ⟨t, rfl⟩ := ry
  obtain ⟨its, r, pl, hz⟩ := I.list hq
  obtain ⟨j, h1, h2, h3, h4, h5⟩ := atI_get he
  obtain ⟨w, ew, rw'⟩ := r.get h2
  have hl := r.length
  have hn := line63
  have fin : EP X pins σ Q w s := ⟨z, H, I, rw', q⟩
  by_cases h0 : 0 ≤ i
  · have hj : i.toNat = j := by
      rw [seqIndex_of h0 h5] at h1
      exact Option.some.inj h1
    exact item_listR pl.isList h0 (by omega) (by rw [hj]; simpa using ew) fin hs
  · have hj : (i + (its.toArray.size : Int)).toNat = j := by
      rw [seqIndex_neg (by omega) h4] at h1
      rw [List.size_toArray, ← hl]
      exact Option.some.inj h1
    exact subscriptTail_builtinR (x := w) pl.isList.typeIs slot_list_getitem.lookup
      (wpAny_getItem_list_neg (Q := fun r s' => r = w ∧ EP X pins σ Q r s') pl.isList (by omega) (by rw [List.size_toArray] <;> omega) (by omega) (by rw [hj]; simpa using ew) ⟨rfl, fin⟩) hs
theorem ix_tup : IxR X (rIxT X.K) := by
  intro value slice pins s σ H x y v u Q I rx ry h hs
  obtain ⟨p, xs, i, z, rfl, rfl, hq, he, q⟩ := h
  cases rx
  obtain ⟨t, rfl⟩ := ry
  obtain ⟨its, r, pl, hz⟩ := I.tuple hq
  obtain ⟨j, h1, h2, h3, h4, h5⟩ := atI_get he
  obtain ⟨w, ew, rw'⟩ := r.get h2
  have hl := r.length
  have hn := line63
  have fin : EP X pins σ Q w s := ⟨z, H, I, rw', q⟩
  exact subscriptTail_builtinR (x := w) pl.typeIs slot_tuple_getitem.lookup
    (getItem_tuple (j := j) (Q := fun r s' => r = w ∧ EP X pins σ Q r s') pl (by omega) (by omega) (by rw [List.size_toArray, ← hl]; exact h1) (by simpa using ew) ⟨rfl, fin⟩) hs
theorem ix_str : IxR X rIxS := by
  intro value slice pins s σ H x y v u Q I rx ry h hs
  obtain ⟨z, i, c, rfl, rfl, hz, he, q⟩ := h
  obtain ⟨t, rfl⟩ := rx
  obtain ⟨t', rfl⟩ := ry
  obtain ⟨j, h1, h2, h3, h4, h5⟩ := atI_get he
  have hl : z.cps.toList.length = z.length := by simp [Str.length]
  rw [hl] at h1 h4 h5
  have hn := line63
  exact tail_any (typeIs_str s z t) slot_str_getitem.lookup (getItem_str (c := c) (by
    have e1 : decide (i < -(2 ^ 63 : Int)) = false := decide_eq_false (by omega)
    have e2 : decide (i ≥ 2 ^ 63) = false := decide_eq_false (by omega)
    rw [e1, e2, Bool.or_false]) (by rw [h1]; simpa using h2) ⟨.str ⟨#[c]⟩, H, I.tok _, ⟨_, rfl⟩, q⟩) hs
/-- list, tuple or str -/
def rIx (K : PySem.W.Frag) : R2 := fun x y H Q => rIxL K x y H Q ∨ rIxT K x y H Q ∨ rIxS x y H Q

/-! ### xs[i] = v, any sign -/
theorem Inv.lst {pins : List (Addr × Obj)} {σ : St} {H : Hp} {s : Shared} {p : Addr} {xs : List V} (I : Inv X pins σ H s) (h : H p = some (.lst xs)) :
    ∃ (its : List Value) (n : Nat), Vals xs its ∧ s.heap.get? p = some { cls := .type "list", data := .seq its.toArray n } ∧ xs.length ≤ sizeLine := by
  obtain ⟨z, its, n, r, e⟩ := I.hok p _ h
  exact ⟨its, n, r, e, z⟩
def rSetL : V → V → V → Hp → (Hp → Prop) → Prop := fun o i v H Q => ∃ p xs k j, o = .ref p ∧ i = .int k ∧ H p = some (.lst xs) ∧ ixN xs.length k = some j ∧ Q (upd H p (.lst (xs.set j v)))

/-! ### slices -/
theorem slice_bounds (lo hi : Option Int) (n : Nat) : (sliceBounds lo hi none n).1 = ((HT.sIx n 0 lo : Nat) : Int) ∧ (sliceBounds lo hi none n).2.1 = ((HT.sIx n n hi : Nat) : Int) ∧ (sliceBounds lo hi none n).2.2 = 1 := by
  refine ⟨?_, ?_, rfl⟩
  · cases lo with
    | none => simp [sliceBounds, HT.sIx]
    | some i =>
      simp only [sliceBounds, HT.sIx, Option.getD_none, show (1 : Int) > 0 by decide, if_true]
      by_cases h : i < 0
      · simp only [h, if_true] <;> omega
      · simp only [h, if_false] <;> omega
  · cases hi with
    | none => simp [sliceBounds, HT.sIx]
    | some i =>
      simp only [sliceBounds, HT.sIx, Option.getD_none, show (1 : Int) > 0 by decide, if_true]
      by_cases h : i < 0
      · simp only [h, if_true] <;> omega
      · simp only [h, if_false] <;> omega
theorem slicePick_cut (its : List Value) (lo hi : Option Int) : slicePick its.toArray lo hi none = ((its.drop (HT.sIx its.length 0 lo)).take (HT.sIx its.length its.length hi - HT.sIx its.length 0 lo)).toArray := by
  obtain ⟨h1, h2, h3⟩ := slice_bounds lo hi its.toArray.size
  unfold slicePick
  rw [h1, h2, h3]
  simp only [sliceRange_one, pick_run, List.size_toArray] <;> rfl
/-- xs[lo:hi] of a list: a new list -/
def rSlL (K : PySem.W.Frag) : V → Option Int → Option Int → Hp → VK → Prop := fun x lo hi H Q => ∃ a xs, x = .ref a ∧ SqL K H a xs ∧ ∀ p, H p = none → Q (.ref p) (upd H p (.lst (cutV xs lo hi)))
theorem sl_list : SlR X (rSlL X.K) := by
  intro pins s σ H x v vl vu lo hi sl Q I rx hs pl pu h
  obtain ⟨a, xs, rfl, hx, q⟩ := h
  cases rx
  obtain ⟨its, r, ht, hz⟩ := I.list hx
  have hlen := r.length
  refine ⟨"list", _, slot_list_getitem.lookup, ht.isList.typeIs, ?_⟩
  refine wpAny_getItem_list_slice ht.isList hs pl pu .none (by simp) ?_ (by rw [List.size_toArray] <;> omega)
  rw [slicePick_cut, ← hlen]
  refine ⟨.ref s.heap.objs.size, _, I.laid (t' := s.toks) (o := .lst (cutV xs lo hi)) (fun b ob q => Heap.get?_push_of_some _ q) (Nat.le_refl _) ?_, rfl, q _ (I.hok.fresh (Nat.le_refl _))⟩
  exact ⟨Nat.le_trans (cutV_length xs lo hi) hz, _, 0, (r.drop (HT.sIx xs.length 0 lo)).take (HT.sIx xs.length xs.length hi - HT.sIx xs.length 0 lo), Heap.get?_push_size _ rfl⟩

/-! ### in, not in: flat items -/
def flatV : V → Bool
  | .non => true
  | .bl _ => true
  | .int _ => true
  | .str _ => true
  | _ => false
/-- == of flat values -/
def eqV : V → V → Bool
  | .non, .non => true
  | .bl a, .bl b => a == b
  | .bl a, .int b => (if a then 1 else 0) == b
  | .int a, .bl b => a == (if b then 1 else 0)
  | .int a, .int b => a == b
  | .str a, .str b => a == b
  | _, _ => false
theorem eqAt_V {A : Around} {s : Shared} {y x : V} {u v : Value} (ry : RelV y u) (rx : RelV x v) (fy : flatV y = true) (fx : flatV x = true) : SeqAt.EqAt A s u v (eqV y x) := by
  cases y with
  | non =>
    cases ry
    cases x with
    | non => cases rx; exact SeqAt.EqAt.same _
    | bl b => cases rx; exact SeqAt.EqAt.none_bool b
    | int b => obtain ⟨t, rfl⟩ := rx; exact SeqAt.EqAt.none_int b t
    | str b => obtain ⟨t, rfl⟩ := rx; exact SeqAt.EqAt.none_str b t
    | _ => exact absurd (show false = true from fx) Bool.false_ne_true
  | bl a =>
    cases ry
    cases x with
    | non => cases rx; exact SeqAt.EqAt.bool_none a
    | bl b => cases rx; exact SeqAt.EqAt.bool_bool a b
    | int b => obtain ⟨t, rfl⟩ := rx; exact SeqAt.EqAt.bool_int a b t
    | str b => obtain ⟨t, rfl⟩ := rx; exact SeqAt.EqAt.bool_str a b t
    | _ => exact absurd (show false = true from fx) Bool.false_ne_true
  | int a =>
    obtain ⟨t', rfl⟩ := ry
    cases x with
    | non => cases rx; exact SeqAt.EqAt.int_none a t'
    | bl b => cases rx; exact SeqAt.EqAt.int_bool a t' b
    | int b => obtain ⟨t, rfl⟩ := rx; exact SeqAt.EqAt.int_int a t' b t
    | str b => obtain ⟨t, rfl⟩ := rx; exact SeqAt.EqAt.int_str a t' b t
    | _ => exact absurd (show false = true from fx) Bool.false_ne_true
  | str a =>
    obtain ⟨t', rfl⟩ := ry
    cases x with
    | non => cases rx; exact SeqAt.EqAt.str_none a t'
    | bl b => cases rx; exact SeqAt.EqAt.str_bool a t' b
    | int b => obtain ⟨t, rfl⟩ := rx; exact SeqAt.EqAt.str_int a t' b t
    | str b => obtain ⟨t, rfl⟩ := rx; exact SeqAt.EqAt.str_str a t' b t
    | _ => exact absurd (show false = true from fx) Bool.false_ne_true
  | _ => exact absurd (show false = true from fy) Bool.false_ne_true
/-- the items' answers, read off the values (a value's own answer does not lean on its token) -/
def eqU (x : V) (u : Value) : Bool := match u with
  | .none => eqV .non x
  | .bool b => eqV (.bl b) x
  | .int i _ => eqV (.int i) x
  | .str z _ => eqV (.str z) x
  | _ => false
theorem eqU_of {x y : V} {u : Value} (r : RelV y u) (f : flatV y = true) : eqU x u = eqV y x := by
  cases y with
  | non => cases r; rfl
  | bl b => cases r; rfl
  | int i => obtain ⟨t, rfl⟩ := r; rfl
  | str z => obtain ⟨t, rfl⟩ := r; rfl
  | _ => exact absurd (show false = true from f) Bool.false_ne_true
theorem any_eqU {x : V} : ∀ {xs : List V} {us : List Value}, Vals xs us → xs.all flatV = true → us.any (eqU x) = xs.any fun y => eqV y x
  | _, _, .nil, _ => rfl
  | y :: xs, u :: us, .cons r t, f => by
    rw [List.all_cons, Bool.and_eq_true] at f
    rw [List.any_cons, List.any_cons, eqU_of r f.1, any_eqU t f.2]
theorem mem_eqAt {A : Around} {s : Shared} {x : V} {v : Value} (rx : RelV x v) (fx : flatV x = true) : ∀ {xs : List V} {us : List Value}, Vals xs us → xs.all flatV = true → ∀ u ∈ us, SeqAt.EqAt A s u v (eqU x u)
  | _, _, .nil, _ => fun u hu => by cases hu
  | y :: xs, u :: us, .cons r t, f => fun u' hu => by
    rw [List.all_cons, Bool.and_eq_true] at f
    rcases List.mem_cons.mp hu with rfl | hu
    · rw [eqU_of r f.1]; exact eqAt_V r rx f.1 fx
    · exact mem_eqAt rx fx t f.2 u' hu
def inV (x : V) (xs : List V) : Bool := xs.any fun y => eqV y x
/-- x in a list or tuple of flat items -/
def rIn (K : PySem.W.Frag) (neg : Bool) : R2 := fun x y H Q => ∃ p xs, y = .ref p ∧ (SqL K H p xs ∨ SqT K H p xs) ∧ flatV x = true ∧ xs.all flatV = true ∧ Q (.bl (if neg then !inV x xs else inV x xs)) H
theorem op_in_seq : OpR X (compareOp .In) (rIn X.K false) := by
  intro pins s σ H x y v u Q I rx ry h
  obtain ⟨p, xs, rfl, hq, fx, fs, q⟩ := h
  cases ry
  rcases hq with hq | hq
  · obtain ⟨its, r, pl, hz⟩ := I.list hq
    refine SeqAt.in_listAt (eqU x) pl.isList (fun w hw => mem_eqAt rx fx r fs w (by simpa using hw)) ⟨.bl _, H, I, rfl, ?_⟩
    rw [show its.toArray.any (eqU x) = its.any (eqU x) by simp, any_eqU r fs]
    exact q
  · obtain ⟨its, r, pl, hz⟩ := I.tuple hq
    refine SeqAt.in_tupleAt (eqU x) pl (fun w hw => mem_eqAt rx fx r fs w (by simpa using hw)) ⟨.bl _, H, I, rfl, ?_⟩
    rw [show its.toArray.any (eqU x) = its.any (eqU x) by simp, any_eqU r fs]
    exact q
theorem op_notIn_seq : OpR X (compareOp .NotIn) (rIn X.K true) := by
  intro pins s σ H x y v u Q I rx ry h
  obtain ⟨p, xs, rfl, hq, fx, fs, q⟩ := h
  cases ry
  rcases hq with hq | hq
  · obtain ⟨its, r, pl, hz⟩ := I.list hq
    refine SeqAt.notIn_listAt (eqU x) pl.isList (fun w hw => mem_eqAt rx fx r fs w (by simpa using hw)) ⟨.bl _, H, I, rfl, ?_⟩
    rw [show its.toArray.any (eqU x) = its.any (eqU x) by simp, any_eqU r fs]
    exact q
  · obtain ⟨its, r, pl, hz⟩ := I.tuple hq
    refine SeqAt.notIn_tupleAt (eqU x) pl (fun w hw => mem_eqAt rx fx r fs w (by simpa using hw)) ⟨.bl _, H, I, rfl, ?_⟩
    rw [show its.toArray.any (eqU x) = its.any (eqU x) by simp, any_eqU r fs]
    exact q

/-! ### len, list(x), tuple(x) of any list or tuple that is read -/
theorem call_len_seq : CallR X (.builtin "len") (fun xs H Q => ∃ p ys, xs = [.ref p] ∧ (SqL X.K H p ys ∨ SqT X.K H p ys) ∧ Q (.int ys.length) H) := by
  intro pins s σ H xs us Q I r h
  obtain ⟨p, ys, rfl, hq, q⟩ := h
  obtain ⟨u, rfl, rx⟩ := vals1 r
  cases rx
  have hn := line63
  rcases hq with hq | hq
  · obtain ⟨its, r', pl, hz⟩ := I.list hq
    have hlen := r'.length
    exact Calls.call_len_list pl.isList (by simp only [List.size_toArray] <;> omega) ⟨.int ys.length, H, I.tok _, ⟨s.toks + 1, by rw [List.size_toArray, hlen]⟩, q⟩
  · obtain ⟨its, r', pl, hz⟩ := I.tuple hq
    have hlen := r'.length
    exact len_tuple pl (by simp only [List.size_toArray] <;> omega) ⟨.int ys.length, H, I.tok _, ⟨s.toks + 1, by rw [List.size_toArray, hlen]⟩, q⟩
theorem call_len_str : CallR X (.builtin "len") (fun xs H Q => ∃ z, xs = [.str z] ∧ z.length ≤ sizeLine ∧ Q (.int z.length) H) := by
  intro pins s σ H xs us Q I r h
  obtain ⟨z, rfl, hz, q⟩ := h
  obtain ⟨u, rfl, t, rfl⟩ := vals1 r
  have hn := line63
  exact len_str (by omega) ⟨.int z.length, H, I.tok _, ⟨_, rfl⟩, q⟩
theorem CallR.or {f : Value} {r r' : List V → Hp → VK → Prop} (h : CallR X f r) (h' : CallR X f r') : CallR X f (fun xs H Q => r xs H Q ∨ r' xs H Q) := by
  intro pins s σ H xs us Q I rs q
  rcases q with q | q
  · exact h pins s σ H xs us Q I rs q
  · exact h' pins s σ H xs us Q I rs q

/-! ### the call of a builtin's method: o.m(..) -/
/-- the value is of that builtin type -/
def tyV (K : PySem.W.Frag) (T : String) (x : V) (H : Hp) : Prop := match x with
  | .str _ => T = "str"
  | .int _ => T = "int"
  | .ref p => (T = "list" ∧ ∃ xs, SqL K H p xs) ∨ (T = "tuple" ∧ ∃ o, K.lookup p = some o ∧ o.cls = .type "tuple" ∧ o.dict = none) ∨
      (T = "dict" ∧ ((∃ kvs, H p = some (.dK kvs)) ∨ ∃ kvs, H p = some (.dT kvs))) ∨ (T = "set" ∧ ∃ S n, H p = some (.set S n))
  | _ => False
theorem tyV_is {pins : List (Addr × Obj)} {σ : St} {H : Hp} {s : Shared} {T : String} {x : V} {v : Value} (I : Inv X pins σ H s) (r : RelV x v) (ty : tyV X.K T x H) :
    s.TypeIs v T ∧ ∀ a, v = .ref a → ∃ ob, s.heap.get? a = some ob ∧ ob.dict = none := by
  cases x with
  | str z =>
    obtain ⟨t, rfl⟩ := r
    cases (show T = "str" from ty)
    exact ⟨typeIs_str s z t, fun _ e => nomatch e⟩
  | int i =>
    obtain ⟨t, rfl⟩ := r
    cases (show T = "int" from ty)
    exact ⟨typeIs_int s i t, fun _ e => nomatch e⟩
  | ref p =>
    cases r
    rcases ty with ⟨rfl, xs, hq⟩ | ⟨rfl, o, hk, hc, hd⟩ | ⟨rfl, hk⟩ | ⟨rfl, S, n, hk⟩
    · obtain ⟨its, _, pl, _⟩ := I.list hq
      refine ⟨pl.isList.typeIs, fun a e => ?_⟩
      cases e
      obtain ⟨o, n, e, c, hd, _⟩ := pl
      exact ⟨o, e, hd⟩
    · refine ⟨⟨o, I.kIn p o hk, hc⟩, fun a e => ?_⟩
      cases e
      exact ⟨o, I.kIn _ o hk, hd⟩
    · have z : ∃ o, s.heap.get? p = some o ∧ o.ExactDict := by
        rcases hk with ⟨kvs, hk⟩ | ⟨kvs, hk⟩
        · obtain ⟨_, _, _, _, o, _, _, e, ex, _⟩ := I.hok p _ hk
          exact ⟨o, e, ex⟩
        · obtain ⟨_, _, _, _, o, _, _, e, ex, _⟩ := I.hok p _ hk
          exact ⟨o, e, ex⟩
      obtain ⟨o, e, ex⟩ := z
      refine ⟨⟨o, e, ex.1⟩, fun a e2 => ?_⟩
      cases e2
      exact ⟨o, e, ex.2.1⟩
    · obtain ⟨o, _, _, _, e, ex, _⟩ := I.hok p _ hk
      refine ⟨⟨o, e, ex.1⟩, fun a e2 => ?_⟩
      cases e2
      exact ⟨o, e, ex.2.1⟩
  | _ => exact False.elim ty
def tBM0 (K : PySem.W.Frag) (T : String) (r : V → List V → Hp → VK → Prop) (to : TE) : TE := fun σ H Q => to σ H fun x H1 => tyV K T x H1 ∧ r x [] H1 Q
def tBM (K : PySem.W.Frag) (T : String) (r : V → List V → Hp → VK → Prop) (to : TE) (t : TA) : TE := fun σ H Q => to σ H fun x H1 => tyV K T x H1 ∧ t σ H1 fun xs H2 => r x xs H2 Q
variable {o e : Expr} {es : List Expr} {to : TE} {t : TA} {name : Str} {apos cpos : Pos} {T id : String} {r : V → List V → Hp → VK → Prop}
theorem pe_bm (pa : PlainAttrs T) (slot : Slot T name id) (hty : typeOf (.builtin id) = pure (.type "method_descriptor")) (hm : MtR X id r) (ho : PE X o to) (ha : PA X (e :: es) t)
    (hbase : attributeBase o name X.env (eval o X.env) = eval o X.env := by rfl)
    (hfew : ((backTo cpos (starEach (e :: es) X.env)).all (fun x => !x.1) && (backToKw cpos (keywordEach [] X.env)).all (fun x => x.1.isSome)
      && decide ((e :: es).length + ([] : List Keyword).length + (if ([] : List Keyword).isEmpty then 0 else 1) < 30)) = true := by rfl)
    (hline : (apos.endLine == cpos.line) = true := by rfl) (hs : starEach (e :: es) X.env = (false, eval e X.env) :: starEach es X.env := by rfl) (hplain : (backTo cpos (starEach es X.env)).any (·.1) = false := by rfl) :
    PE X (.Call (.Attribute o name apos) (e :: es) [] cpos) (tBM X.K T r to t) := by
  intro pins s σ H Q I h
  refine wpAny_Call_method_late hbase hfew hline rfl (thn (ho pins s σ H _ I h) fun v s1 ⟨x, H1, I1, r1, ty, q1⟩ => ?_)
  obtain ⟨h1, h2⟩ := tyV_is I1 r1 ty
  refine ⟨T, id, pa, slot, hty, h1, h2, ?_⟩
  have hA := ha cpos pins s1 σ H1 _ I1 q1
  rw [hs] at hA ⊢
  refine Calls.callWith_builtin (by show (false || (backTo cpos (starEach es X.env)).any (·.1)) = false; rw [hplain] <;> rfl) (Calls.evalArgs_plain ?_)
  exact thn hA fun us s2 ⟨vs, H2, I2, r2, q2⟩ => hm pins s2 σ H2 x vs v us Q I2 r1 r2 q2
/- xs.append(e), list.index on a module's tuple .. are MtR facts of 06m -/
end
end L2

namespace L2
open PySem PySem.Spec PyProof.Rows

def MtM (X : Cx) (id : String) (r : V → List V → Hp → VK → Prop) : Prop :=
  ∀ (pins : List (Addr × Obj)) (s : Shared) (σ : St) (H : Hp) (x : V) (xs : List V) (v : Value) (us : List Value) (Q : VK), Inv X pins σ H s → RelV x v → Vals xs us → r x xs H Q →
    wpAny (model X.prog X.w) X.A (call (.builtin id) (v :: us)) (EP X pins σ Q) X.xe s

/-! ### lists of values -/
theorem Vals.one : ∀ {x : V} {us : List Value}, Vals [x] us → ∃ u, us = [u] ∧ RelV x u
  | _, _, .cons r .nil => ⟨_, rfl, r⟩
theorem Vals.two : ∀ {x y : V} {us : List Value}, Vals [x, y] us → ∃ u v, us = [u, v] ∧ RelV x u ∧ RelV y v
  | _, _, _, .cons r (.cons q .nil) => ⟨_, _, rfl, r, q⟩
theorem Vals.zero : ∀ {us : List Value}, Vals [] us → us = []
  | _, .nil => rfl
theorem Vals.dropLast {xs : List V} {us : List Value} (h : Vals xs us) : Vals xs.dropLast us.dropLast := by
  induction h with
  | nil => exact .nil
  | cons r t ih =>
    cases t with
    | nil => exact .nil
    | cons q t' => exact .cons r ih
theorem Vals.eraseIdx : ∀ {xs : List V} {us : List Value} (i : Nat), Vals xs us → Vals (xs.eraseIdx i) (us.eraseIdx i)
  | _, _, _, .nil => .nil
  | _, _, 0, .cons _ t => t
  | _, _, i + 1, .cons r t => .cons r (Vals.eraseIdx i t)
theorem Vals.reverse {xs : List V} {us : List Value} (h : Vals xs us) : Vals xs.reverse us.reverse := by
  induction h with
  | nil => exact .nil
  | cons r t ih => rw [List.reverse_cons, List.reverse_cons]; exact Vals.append ih (.cons r .nil)

section
variable {X : Cx} {pins : List (Addr × Obj)} {σ : St} {H : Hp} {s : Shared} {l b : Addr} {xs ys zs : List V}

/-! ### the two steps: a tracked list is rewritten, a new list is laid -/
theorem Inv.lset {its its' : List Value} {n : Nat} {f : Array Value → Array Value} {t' : Nat} (I : Inv X pins σ H s) (hH : H l = some (.lst xs))
    (e : s.heap.get? l = some { cls := .type "list", data := .seq its.toArray n }) (hf : f its.toArray = its'.toArray) (hv : Vals ys its') (hz : ys.length ≤ sizeLine) :
    Inv X pins σ (upd H l (.lst ys)) { s with heap := s.heap.update l (Obj.mapSeq f), toks := t' } := by
  have q := PySem.IsL.update e f
  rw [hf] at q
  refine I.write (x := l) (e := l) (by rw [hH]; exact trivial) (.inl rfl) (fun b' u hb hu => (Heap.get?_update_other s.heap (Obj.mapSeq f) (Ne.symm hb)).trans hu) ⟨_, q⟩ ?_
  exact ⟨hz, its', _, hv, q⟩
theorem Inv.lnew {its : List Value} {t' : Nat} (I : Inv X pins σ H s) (hv : Vals ys its) (hz : ys.length ≤ sizeLine) :
    Inv X pins σ (upd H s.heap.objs.size (.lst ys)) { s with heap := s.heap.push { cls := .type "list", data := .seq its.toArray }, toks := t' } :=
  I.laid (fun _ _ q => Heap.get?_push_of_some _ q) (Nat.le_refl _) ⟨hz, its, 0, hv, Heap.get?_push_size _ rfl⟩
theorem Inv.fresh (I : Inv X pins σ H s) : H s.heap.objs.size = none := I.hok.fresh (Nat.le_refl _)
theorem Inv.lstM (I : Inv X pins σ H s) (hH : H l = some (.lst xs)) : xs.length ≤ sizeLine ∧ ∃ (its : List Value) (n : Nat), Vals xs its ∧ xs.length = its.length ∧ s.heap.get? l = some { cls := .type "list", data := .seq its.toArray n } := by
  obtain ⟨z, its, n, r, e⟩ := I.hok l _ hH
  exact ⟨z, its, n, r, r.length, e⟩

end

section
variable {X : Cx}

/-! ### methods -/
def rAppend : V → List V → Hp → VK → Prop := fun x vs H Q => ∃ l xs y, x = .ref l ∧ vs = [y] ∧ H l = some (.lst xs) ∧ xs.length < sizeLine ∧ Q .non (upd H l (.lst (xs ++ [y])))
theorem mt_append : MtM X "list.append" rAppend := by
  intro pins s σ H x vs v us Q I rx rv h
  obtain ⟨l, xs, y, rfl, rfl, hH, hz, q⟩ := h
  cases rx
  obtain ⟨u, rfl, ru⟩ := rv.one
  obtain ⟨z, its, n, r, hl, e⟩ := I.lstM hH
  refine call_meets F.slot_list_append ⟨_, e, rfl⟩ F.entry_list_append (F.args_list_append_2 _ _) (PySem.list_append l its.toArray n u (by rw [List.size_toArray]; omega)) ⟨e, ?_⟩
  refine ⟨.non, _, I.lset (its' := its ++ [u]) hH e (by simp) (r.append (.cons ru .nil)) ?_, rfl, q⟩
  rw [List.length_append, List.length_singleton]
  omega

def rExtend : V → List V → Hp → VK → Prop := fun x vs H Q => ∃ l b xs zs, x = .ref l ∧ vs = [.ref b] ∧ H l = some (.lst xs) ∧ H b = some (.lst zs) ∧ xs.length + zs.length ≤ sizeLine ∧ Q .non (upd H l (.lst (xs ++ zs)))

def rPop : V → List V → Hp → VK → Prop := fun x vs H Q => ∃ l xs y, x = .ref l ∧ vs = [] ∧ H l = some (.lst xs) ∧ xs[xs.length - 1]? = some y ∧ Q y (upd H l (.lst xs.dropLast))

def rPopAt : V → List V → Hp → VK → Prop := fun x vs H Q => ∃ l xs i k y, x = .ref l ∧ vs = [.int i] ∧ H l = some (.lst xs) ∧ -(2 ^ 63) ≤ i ∧ i < 2 ^ 63 ∧ seqIndex? i xs.length = some k ∧ xs[k]? = some y ∧ Q y (upd H l (.lst (xs.eraseIdx k)))

def rReverse : V → List V → Hp → VK → Prop := fun x vs H Q => ∃ l xs, x = .ref l ∧ vs = [] ∧ H l = some (.lst xs) ∧ Q .non (upd H l (.lst xs.reverse))

def rClear : V → List V → Hp → VK → Prop := fun x vs H Q => ∃ l xs, x = .ref l ∧ vs = [] ∧ H l = some (.lst xs) ∧ Q .non (upd H l (.lst []))

/-! ### list + list, list += list, list * int -/
def rCat : R2 := fun x y H Q => ∃ l b xs zs, x = .ref l ∧ y = .ref b ∧ H l = some (.lst xs) ∧ H b = some (.lst zs) ∧ xs.length + zs.length ≤ sizeLine ∧ ∀ p, H p = none → Q (.ref p) (upd H p (.lst (xs ++ zs)))
theorem op_cat : OpR X (binaryOp .Add) rCat := by
  intro pins s σ H x y v u Q I rx ry h
  obtain ⟨l, b, xs, zs, rfl, rfl, hH, hB, hz, q⟩ := h
  cases rx
  cases ry
  obtain ⟨z, its, n, r, hl, e⟩ := I.lstM hH
  obtain ⟨z2, its2, n2, r2, hl2, e2⟩ := I.lstM hB
  refine PySem.P.add_list e e2 ?_ (by rw [List.size_toArray, List.size_toArray]; omega)
  have ea : its.toArray ++ its2.toArray = (its ++ its2).toArray := by simp
  rw [ea]
  exact ⟨.ref _, _, I.lnew (t' := s.toks) (r.append r2) (by rw [List.length_append]; omega), rfl, q _ I.fresh⟩
/-- a list times an int (a negative one is nothing) -/
def rRep : R2 := fun x y H Q => ∃ l k xs, x = .ref l ∧ y = .int k ∧ H l = some (.lst xs) ∧ -(2 ^ 63) ≤ k ∧ k < 2 ^ 63 ∧ xs.length * k.toNat ≤ sizeLine ∧
  ∀ p, H p = none → Q (.ref p) (upd H p (.lst (List.replicate k.toNat xs).flatten))

/-! ### del xs[i] -/
end

/-! ### xs[a:b] = ys -/
section
variable {prog : Program} {w : World} {A : Around} {E : Value → Shared → Prop} {s : Shared}
set_option maxRecDepth 100000 in
end

section
variable {X : Cx}
end
end L2

namespace Att
open PySem PySem.W PySem.Calls PyProof.Rows

/-! ### the script -/
theorem ints_of_wellAll {P : Params} {h : Heap} : ∀ (ns : List Int) (vs : List Value), WellAll P h vs (ns.map WData.int) → IntsAre vs ns := by
  intro ns
  induction ns with
  | nil =>
    intro vs w
    rw [List.map_nil] at w
    cases w
    exact .nil
  | cons n ns ih =>
    intro vs w
    rw [List.map_cons] at w
    cases w with
    | cons a b =>
      cases a
      exact .cons _ _ (ih _ b)

theorem script_of {l : OpenLaw} {n : Nat} (hn : l.most = some n) {P : Params} {h : Heap} {args : List WData} {vals : List Value}
    (hpre : l.row.toRowW.claim.pre args = true) (hwl : WellAll P h vals args) :
    ∃ a vs ns, vals = [Value.ref a] ∧ args = [WData.list (ns.map WData.int)] ∧ h.get? a = some { cls := .type "list", data := .seq vs.toArray } ∧ IntsAre vs ns ∧ ns.length ≤ n := by
  have hsh : WShape.hasAll [] args [.list .int] = true := (pre_splitW hpre).1
  have hc : l.pre.holds [] { args := args } = true := (pre_splitW hpre).2
  obtain ⟨d, r, rfl, h1, h2⟩ := hasAllW_cons hsh
  obtain rfl := hasAllW_nil h2
  obtain ⟨xs, rfl, h3⟩ := hasW_list h1
  obtain ⟨ns, rfl⟩ := items_int h3
  have hlen : ns.length ≤ n := by
    unfold OpenLaw.pre at hc
    have h4 : (WTm.not (.lt (.lit (.int (n : Int))) (.len (.arg 0)))).holds [] { args := [.list (ns.map .int)] } = true := by
      have h4 := (holds_andW hc).1
      rw [hn] at h4
      exact h4
    have h5 := condW_of h4 (w_not (w_lt w_lit (w_len_list (w_arg rfl))))
    rw [List.length_map] at h5
    refine Nat.le_of_not_lt fun q => ?_
    have q' : (n : Int) < ((ns.length : Nat) : Int) := by omega
    first
      | (rw [decide_eq_true q'] at h5; exact absurd h5 (by decide))
      | (simp at h5; omega)
  cases hwl with
  | cons w1 w2 =>
    cases w2
    cases w1 with
    | list ho hall => exact ⟨_, _, ns, rfl, rfl, ho, ints_of_wellAll ns _ hall, hlen⟩

theorem post_true (l : OpenLaw) (args : List WData) : l.row.toRowW.claim.post args (.bool true) args = true :=
  postW_of (r := l.row.toRowW) (X := (true == true))
    (show WShape.has [] (.bool true) .bool = true by first | rfl | decide | simp [WShape.has, WShape.arms, WShape.armsAll])
    (show (WTm.eq .res (.lit (.bool true))).value [] { args := args, res := some (.bool true), after := args } = some (.bool (true == true)) from w_eq_bool (w_res rfl) w_lit) rfl

/-! ### the attachment: holds_open's last premise (the goal 'hc' behind k_head) from a wpAny of the law's body -/

/-- the same from a codeAny of the CALL (for a layer whose function contracts speak of calls) -/
theorem attach_call {l : OpenLaw} {n : Nat} {q : Program} {loose : List Str} {XP : (Str → Option Value) → Heap → Prop} {YP : World → Heap → Prop} {d : DefRec}
    (hn : l.most = some n) (hdf : d.params.defaults = [])
    (call : ∀ (w : World) (s₀ s₁ : Shared) (mg mb : Str → Option Value) (fa : Addr) (o : Obj) (pm cd doc : Value) (a : Addr) (vs : List Value) (ns : List Int),
      Ground q loose [] XP w s₀ mg mb s₁.heap → YP w s₁.heap →
      s₁.heap.get? fa = some o → o.data = .func (docDef d.name d.params d.body d.scope pm cd doc) → s₁.heap.CodeRec cd d.name → mg d.name = some (.ref fa) →
      s₁.heap.get? a = some { cls := .type "list", data := .seq vs.toArray } → IntsAre vs ns → ns.length ≤ n → s₁.gens = #[] →
      codeAny (model l.prog w) callerA (.call (.ref fa) ⟨[.ref a], []⟩) (fun r s' => r = .ok (.ret (.bool true)) ∧ OldK s₁.heap s'.heap ∧ s'.os = s₁.os ∧ AllBare s'.gens) s₁) :
    WalkO q loose XP YP l.row.toRowW d [] (fun f vs => PySem.call f vs) := by
  intro w s₀ s₁ mg mb G Y fa o pm cd doc dV kV ho hd hcd hD hmg hg args vals as hpre hlay hrd hwl hlo
  obtain rfl : dV = .none := Dflts.none hD hdf
  obtain rfl : kV = .none := Dflts.noKw hD
  obtain ⟨a, vs, ns, rfl, rfl, hobj, hints, hlen⟩ := script_of hn hpre hwl
  refine enter_call (codeAny_mono (call w s₀ s₁ mg mb fa o pm cd doc a vs ns G Y ho (fd_plain hd) hcd hmg hobj hints hlen hg) fun r s' hq => ?_)
  obtain ⟨rfl, h2, h3, h4⟩ := hq
  exact ⟨.inl ⟨.bool true, .bool true, [], rfl, fun _ => rfl, .bool true, post_true l _, fun _ => ⟨List.Pairwise.nil, fun _ hm => (nomatch hm)⟩⟩, h2, h3, h4⟩


/-! ### rules over ANY heap (no ledger) from facts about the written part K: the library's own take a ledger (News) for what they write -/
section
variable {prog : Program} {w : World} {A : Around} {E : Value → Shared → Prop} {s : Shared} {K : Frag}





/-! the whole heap as the ledger: makes every rule that writes through a ledger a rule over any heap -/
def noObjs (h : Heap) : Heap := { h with objs := #[] }
def ledger (h : Heap) (L d : Addr) : List (Addr × Obj) := (List.range h.objs.size).filterMap fun a => if a = L ∨ a = d then none else (h.get? a).map fun o => (a, o)

end
end Att

namespace L2
open PySem PySem.Spec PyProof.Rows

theorem vals_ints : ∀ {vs : List Value} {ns : List Int}, IntsAre vs ns → Vals (ns.map V.int) vs
  | _, _, .nil => .nil
  | _, _, .cons n t h => .cons ⟨t, rfl⟩ (vals_ints h)

/-- nothing is tracked but the script, known to the object (or it is an object of the module) -/
def Only (H : Hp) : Prop := ∀ b, H b = none ∨ ∃ o xs, H b = some (.frz o (.lst xs))

/-- THE HEAD: the law's promise, at the heap behind the top. F, the promise of the law's def, may use that base is part of the heap (so K.In base, base.Ns mainGlobals mg stand in Mod) -/
theorem law_call {P : Program} {w : World} {K : PySem.W.Frag} {mg mb : Str → Option Value} {CX : CXT} {k : Nat} {fa a : Addr} {fd : FuncData} {x : Str} {sp : Sp} {s₁ : Shared} {vs : List Value} {ns : List Int}
    (KX : K.In s₁.heap) (hns : s₁.heap.Ns mainGlobals mg) (hb : s₁.heap.Ns builtinsNs mb) (hbb : ∀ x : Str, x ≠ "__name__" → mb x = bootBuiltins x) (hlim : s₁.heap.NoLimit) (hg : s₁.gens = #[])
    (ha : s₁.heap.get? a = some { cls := .type "list", data := .seq vs.toArray }) (hi : IntsAre vs ns) (hl : ns.length ≤ sizeLine) (hr : Room k callerA)
    (F : ∀ base : Heap, K.In base → base.Ns mainGlobals mg → FnOk P w K mg base CX k fa fd [x] sp) (hbind : ∀ (s : Shared) (u : Value), BindsTo s fd ⟨[u], []⟩ [(x, u)])
    (hsp : ∀ H : Hp, Only H → SqL K H a (ns.map V.int) → sp [.ref a] H (fun v _ => v = .bl true) fun _ _ _ => False)
    (hCX : ∀ H e s', CX [] H s₁ (fun _ _ _ => False) e s' → False) :
    codeAny (model P w) callerA (.call (.ref fa) ⟨[.ref a], []⟩) (fun r s' => r = .ok (.ret (.bool true)) ∧ OldK s₁.heap s'.heap ∧ s'.os = s₁.os ∧ AllBare s'.gens) s₁ := by
  have rv := vals_ints hi
  have lenV := hi.length
  -- from an abstract heap in which nothing but the script may be tracked
  have core : ∀ H : Hp, Only H → SqL K H a (ns.map V.int) → HOk P w H s₁.heap → (∀ b, H b ≠ none → b = a) → (H a ≠ none → K.lookup a = none) →
      codeAny (model P w) callerA (.call (.ref fa) ⟨[.ref a], []⟩) (fun r s' => r = .ok (.ret (.bool true)) ∧ OldK s₁.heap s'.heap ∧ s'.os = s₁.os ∧ AllBare s'.gens) s₁ := by
    intro H hO hS hok hA hK
    have base_of : ∀ {b : Addr} {o : Obj}, s₁.heap.get? b = some o → H b = none → (hidT s₁.heap H).get? b = some o := fun e n => hidT_get e n
    have noA : ∀ {b : Addr} {o : Obj} {es : Array DictEntry} {ep : Nat}, s₁.heap.get? b = some o → o.data = .dict es ep → H b = none := fun {b o es ep} e d => by
      cases q : H b with
      | none => rfl
      | some u =>
        have e' : b = a := hA b (by rw [q]; simp)
        subst e'
        rw [ha] at e; cases e
        have d' : Data.seq vs.toArray _ = Data.dict es ep := d
        cases d'
    have nsK : ∀ {b : Addr} {m : Str → Option Value}, s₁.heap.Ns b m → (hidT s₁.heap H).Ns b m := fun {b m} ⟨o, es, ep, e, d, r⟩ => ⟨o, es, ep, base_of e (noA e d), d, r⟩
    have hKb : K.In (hidT s₁.heap H) := fun b o e => base_of (KX b o e) (by
      cases q : H b with
      | none => rfl
      | some u =>
        have e' : b = a := hA b (by rw [q]; simp)
        subst e'
        rw [hK (by rw [q]; simp)] at e; cases e)
    have hM : Mod K mg (hidT s₁.heap H) := ⟨hKb, nsK hns, ⟨mb, nsK hb, hbb⟩, let ⟨mc, h1, h2⟩ := hlim; ⟨mc, nsK h1, h2⟩⟩
    have e0 : Env0 P w K mg (hidT s₁.heap H) callerA [] s₁ H := ⟨rfl, hM, fun b o e => of_hidT e, Nat.le_of_eq (hidT_size _ _), trivial, fun b hb => absurd (show b ∈ ([] : List Addr) from hb) (by simp), hok, .of_eq hg⟩
    refine codeAny_mono ((F _ hKb (nsK hns)).run callerA [] s₁ H ⟨[.ref a], []⟩ [.ref a] [.ref a] _ _ hr e0 (hbind s₁ (.ref a)) (.cons rfl .nil) (hsp H hO hS)) fun r s' h => ?_
    cases r with
    | error e => exact (hCX H e s' h).elim
    | ok fl =>
      cases fl with
      | next => exact False.elim h
      | brk => exact False.elim h
      | cont => exact False.elim h
      | ret u =>
        obtain ⟨v, H', os, bare, un, hok', r', q⟩ := h
        have q' : v = .bl true := q
        subst q'
        obtain rfl : u = Value.bool true := r'
        refine ⟨rfl, OldK.of_keep fun b o e => ?_, os, bare⟩
        cases q : H b with
        | none => exact un.keep b o e q (by intro z; exact absurd (show b ∈ ([] : List Addr) from z) (by simp)) (by simp)
        | some u =>
          rcases hO b with z | ⟨ob, xs, z⟩
          · rw [q] at z; cases z
          · have z2 := un.frzs b ob _ z
            obtain ⟨e1, _⟩ := hok b _ z
            obtain ⟨e2, _⟩ := hok' b _ z2
            rw [e] at e1; cases e1
            exact e2
  cases hk : K.lookup a with
  | some o =>
    -- the script is one of the module's own objects
    have e := KX a o hk
    rw [ha] at e
    cases e
    refine core (fun _ => none) (fun _ => .inl rfl) (.inr ⟨_, vs.toArray, _, hk, rfl, rfl, rfl, by rw [List.size_toArray, lenV]; exact hl, by simpa using rv⟩) (fun b u z => by have z' : (none : Option HO) = some u := z; cases z') (fun b z => absurd rfl z) fun z => absurd rfl z
  | none =>
    refine core (fun b => if b = a then some (.frz { cls := .type "list", data := .seq vs.toArray } (.lst (ns.map V.int))) else none) (fun b => ?_) (.inl (.inr ⟨{ cls := .type "list", data := .seq vs.toArray }, if_pos rfl⟩)) (fun b u z => ?_) (fun b z => ?_) fun _ => hk
    · by_cases hb : b = a
      · exact .inr ⟨_, _, if_pos hb⟩
      · exact .inl (if_neg hb)
    · by_cases hb : b = a
      · have z' := (if_pos hb).symm.trans z
        cases z'
        subst hb
        exact ⟨ha, by rw [List.length_map]; exact hl, vs, _, rv, ha⟩
      · have z' := (if_neg hb).symm.trans z
        cases z'
    · by_cases hb : b = a
      · exact hb
      · exact absurd (if_neg hb) z
end L2

namespace L2
open PySem PySem.Spec PyProof.Rows

abbrev KOf {K : PySem.W.Frag} {h : Heap} (_ : K.In h) : PySem.W.Frag := K

/-- the goal that k_head leaves (case hc), from the law's promise. F gives the function object fd (K's own) once, then the promise over every base -/
theorem walk_of {l : PySem.W.OpenLaw} {n k : Nat} {q : Program} {loose : List Str} {XP : (Str → Option Value) → Heap → Prop} {YP : World → Heap → Prop} {d : DefRec} {K : Params → PySem.W.Frag} {CX : World → CXT} {sp : World → Sp} {x : Str}
    (hn : l.most = some n) (hn2 : n ≤ sizeLine) (hdf : d.params.defaults = []) (hr : Room k callerA)
    (hY : ∀ (w : World) (h : Heap), YP w h → (K w.params).In h)
    (F : ∀ (w : World) (mg : Str → Option Value) (fa : Addr) (h : Heap), (K w.params).In h → h.Ns mainGlobals mg → mg d.name = some (.ref fa) →
      ∃ fd : FuncData, (∀ (s : Shared) (u : Value), BindsTo s fd ⟨[u], []⟩ [(x, u)]) ∧
        ∀ base : Heap, (K w.params).In base → base.Ns mainGlobals mg → FnOk l.prog w (K w.params) mg base (CX w) k fa fd [x] (sp w))
    (hsp : ∀ (w : World) (H : Hp) (a : Addr) (ns : List Int), ns.length ≤ n → Only H → SqL (K w.params) H a (ns.map V.int) → sp w [.ref a] H (fun v _ => v = .bl true) fun _ _ _ => False)
    (hCX : ∀ (w : World) (H : Hp) (s : Shared) (e : Value) (s' : Shared), CX w [] H s (fun _ _ _ => False) e s' → False) :
    PySem.W.WalkO q loose XP YP l.row.toRowW d [] (fun f vs => PySem.call f vs) := by
  refine Att.attach_call hn hdf fun w s₀ s₁ mg mb fa o pm cd doc a vs ns G Y ho hd hcd hmg hobj hints hlen hg => ?_
  have KX := hY w _ Y
  obtain ⟨fd, hb, hF⟩ := F w mg fa _ KX G.T.g hmg
  exact law_call KX G.T.g G.T.b G.T.builtins G.T.nolimit hg hobj hints (Nat.le_trans hlen hn2) hr hF hb (fun H hO hS => hsp w H a ns hlen hO hS) fun H e s' => hCX w H s₁ e s'
end L2

/- THE LAST THEOREM (shape; LID, My.* are yours):
   My.Adr: a structure of the addresses that your layer names (classes, functions); My.Txt K t: a structure (Prop) of the equations over K;
   My.txt_mk : {K} {implicit addresses ..} (e1 : nsIn K mainGlobals "law" = some (some (.ref f))) (e2 : K.lookup f = some ⟨oc, od, .func (fnOf "law" "law" params body scope dV kV doc pm an cdv ct), sl⟩) (e3 : codeIn K cdv "law" = true) .. : ∃ t, My.Txt K t

set_option maxRecDepth 100000 in
set_option maxHeartbeats 0 in
theorem PySem.Challenge.cw_LID_holds : PySem.Challenge.rw_LID.Holds := by
  w_on; o_law; k_head; (case hw => w_witness2)
  k_fill
  refine L2.walk_of (l := PySem.Challenge.rw_LID) (n := 63) (k := 40) (x := "script") (CX := fun w => ..) (sp := fun _ => My.sp_law) rfl (by decide) rfl ⟨rfl, by decide, by decide⟩ (fun w h Y => PySem.W.kIn_of Y) ?F ?S ?C
  case F =>
    intro w mg fa h KX G hmg
    have T : ∃ t, My.Txt (L2.KOf KX) t := by
      dsimp only [L2.KOf]                          -- K must stand as «<heap const> w.params» for k_is
      refine' My.txt_mk ?e1 ?e2 ?e3 ..
      (case e1 => PySem.W.k_is)                    -- in the order: a name -> its address -> its object -> its parts
      (case e2 => PySem.W.k_is)
      ..
    obtain ⟨t, T⟩ := T
    have e0 := hmg.symm.trans (PySem.W.mg_of KX G T.law)
    cases e0                                       -- fa is the law's own address
    exact ⟨_, fun s u => .of_eq rfl, fun base kb nb => My.law_fn T kb nb⟩     -- if «.of_eq rfl» comes too early: refine' ⟨_, ?b, fun base kb nb => My.law_fn T kb nb⟩; exact fun s u => .of_eq rfl
  case S => exact fun w H a ns hl hO hS => ..
  case C => exact ..
(the tactic k_is has no namespace: write k_is) -/

/-! SHORT WORDS over the layer: a def of the text, its body, what a loop and a test want. -/
namespace L2
open PySem PySem.Spec PyProof.Rows

/-! ### the text by places -/
/-- the j-th statement of a class's body -/
def inClass (s : Stmt) (j : Nat) : Stmt := match s with
  | .ClassDef _ _ _ body _ _ _ _ _ _ _ => body.getD j (.Pass ⟨0, 0, 0, 0⟩)
  | _ => .Pass ⟨0, 0, 0, 0⟩
def defArgs (s : Stmt) : Arguments := match s with
  | .FunctionDef _ a _ _ _ _ _ _ _ _ => a
  | _ => { posonlyargs := [], args := [], vararg := none, kwonlyargs := [], kw_defaults := [], kwarg := none, defaults := [] }
def defBody (s : Stmt) : List Stmt := match s with
  | .FunctionDef _ _ b _ _ _ _ _ _ _ => b
  | _ => []
def defScope (s : Stmt) : Scope := match s with
  | .FunctionDef _ _ _ _ _ _ sc _ _ _ => sc
  | _ => { kind := .function, names := [], isGenerator := false, isCoroutine := false }

/-! ### no exception leaves a def -/
abbrev CX0 : CXT := fun _ _ _ _ _ _ => False
abbrev E0 : XK := fun _ _ _ => False
theorem pass0 {X : Cx} : Passes CX0 X E0 := fun _ _ _ _ _ _ _ h => h.elim

/-! ### a def (or method) of the text as it stands behind the top -/
structure Fun (K : PySem.W.Frag) (x qual : Str) (st : Stmt) (f : Addr) (fd : FuncData) : Prop where
  ex : ∃ (oc : Value) (od : Option Addr) (kV doc pm : Value) (an : Option Addr) (cdv ct : Value) (osl : Array (Option Value)),
    fd = PySem.W.fnOf x qual (defArgs st) (defBody st) (defScope st) .none kV doc pm an cdv ct ∧ K.lookup f = some ⟨oc, od, .func fd, osl⟩ ∧ PySem.W.codeIn K cdv qual = true
  kp : PySem.W.keepIn K (.ref f) = true
section
variable {P : Program} {w : World} {K : PySem.W.Frag} {mg : Str → Option Value} {base : Heap}
/-- THE RULE for a def: its body as a term of rules, and the reading of that term -/
theorem Fun.ok {x qual : Str} {st : Stmt} {f : Addr} {fd : FuncData} {N ps : List Str} {k : Nat} {sp : Sp} (F : Fun K x qual st f fd) (S : FnScope N ps (defScope st)) (len : ∀ vs H Q E, sp vs H Q E → vs.length = ps.length)
    (hbody : ∀ (cdv : Value) (A : Around) (outer : List Env) (s : Shared) (H : Hp) (vs : List V) (Q : VK) (E : XK), Room k (A.deeper (envOfC qual (defScope st) s.heap.objs.size f cdv)) → sp vs H Q E →
      ∃ t, PSs (cxOf CX0 P w K mg base N qual (defScope st) f cdv A outer s H E).nox (defBody st) t ∧ t { nx := fun _ H' => Q .non H', rt := Q } (start N vs) H) : FnOk P w K mg base CX0 (k + 1) f fd ps sp := by
  obtain ⟨oc, od, kV, doc, pm, an, cdv, ct, osl, rfl, lk, hcd⟩ := F.ex
  refine fn_of lk hcd S len fun A outer s H vs Q E hr hsp => ?_
  obtain ⟨t, h, q⟩ := hbody cdv A outer s H vs Q E hr hsp
  exact ⟨t, h.nox, q⟩
/-- how its arguments bind (no defaults): h is «fun _ _ _ _ _ _ us hl => match us, hl with | [_, _], _ => rfl», one _ a parameter -/
theorem Fun.binds {x qual : Str} {st : Stmt} {f : Addr} {fd : FuncData} {ps : List Str} (F : Fun K x qual st f fd)
    (h : ∀ (kV doc pm : Value) (an : Option Addr) (cdv ct : Value) (us : List Value), us.length = ps.length → bindArgs (PySem.W.fnOf x qual (defArgs st) (defBody st) (defScope st) .none kV doc pm an cdv ct) ⟨us, []⟩ = pure (ps.zip us)) : Binds K fd ps [] := by
  obtain ⟨oc, od, kV, doc, pm, an, cdv, ct, osl, rfl, lk, hcd⟩ := F.ex
  exact .all (h kV doc pm an cdv ct)
theorem fun_mk {x qual : Str} {st : Stmt} {f : Addr} {oc : Value} {od an : Option Addr} {osl : Array (Option Value)} {kV doc pm cdv ct : Value} (l : K.lookup f = some ⟨oc, od, .func (PySem.W.fnOf x qual (defArgs st) (defBody st) (defScope st) .none kV doc pm an cdv ct), osl⟩)
    (c : PySem.W.codeIn K cdv qual = true) (k : PySem.W.keepIn K (.ref f) = true) : Fun K x qual st f (PySem.W.fnOf x qual (defArgs st) (defBody st) (defScope st) .none kV doc pm an cdv ct) := ⟨⟨oc, od, kV, doc, pm, an, cdv, ct, osl, rfl, l, c⟩, k⟩
end
theorem hu_of {A : Around} {k : Nat} (hr : Room k A) : A.units + 1 < cLine := Nat.lt_of_le_of_lt (Nat.add_le_add_left (by decide : 1 ≤ 64) _) hr.units

/-! ### expressions in short: the name that stands in the i-th slot -/
section
variable {X : Cx}
theorem pv (i : Nat) {x : Str} {pos : Pos} (hN : X.N[i]? = some x := by rfl) (hv : Vis X.env.scope x := by first | exact Or.inl rfl | exact Or.inr (Or.inl rfl) | exact Or.inr (Or.inr rfl)) (hd : (x == ("__debug__" : Str)) = false := by decide)
    (hcd : (x == ("__classdict__" : Str)) = false := by decide) : PE X (.Name x pos) (tVar i) := pe_var hN hv hd hcd
end

/-! ### tests -/
theorem iteF {A B : Prop} (h : B) : if false = true then A else B := by
  rw [if_neg Bool.false_ne_true]
  exact h
theorem iteT {A B : Prop} (h : A) : if true = true then A else B := by
  rw [if_pos rfl]
  exact h
theorem ite2 {c A B : Prop} [Decidable c] (h1 : c → A) (h2 : ¬ c → B) : if c then A else B := by
  by_cases h : c
  · rw [if_pos h]
    exact h1 h
  · rw [if_neg h]
    exact h2 h
theorem iteNS {c A B : Prop} [Decidable c] (hc : c) (h : B) : if (!decide c) = true then A else B := by
  rw [decide_eq_true hc]
  exact iteF h

/-! ### heaps -/
/-- all that was tracked is as it was -/
def Same (H H' : Hp) : Prop := ∀ b o, H b = some o → H' b = some o
theorem Same.refl (H : Hp) : Same H H := fun _ _ h => h
theorem Same.trans {H H1 H2 : Hp} (a : Same H H1) (b : Same H1 H2) : Same H H2 := fun c o h => b c o (a c o h)
theorem Same.free {H H' : Hp} (e : Same H H') {l : Addr} (h : H' l = Option.none) : H l = Option.none := by
  cases q : H l with
  | none => rfl
  | some o =>
    rw [e l o q] at h
    cases h
theorem Same.seq {K : PySem.W.Frag} {H H' : Hp} {a : Addr} {xs : List V} (e : Same H H') (h : SqL K H a xs) : SqL K H' a xs := by
  rcases h with (h | ⟨o, h⟩) | h
  · exact .inl (.inl (e _ _ h))
  · exact .inl (.inr ⟨o, e _ _ h⟩)
  · exact .inr h

end L2


namespace M01
/-- what both loops go down to -/
def gz (a b : Int) : Int := (Nat.gcd a.toNat b.toNat : Nat)
theorem gz_step {a b : Int} (ha : 0 ≤ a) (hb : 0 < b) : gz b (a % b) = gz a b := by
  unfold gz
  rw [Int.toNat_emod ha (by omega), Nat.gcd_comm b.toNat, ← Nat.gcd_rec, Nat.gcd_comm]
theorem gz_end {a : Int} (ha : 0 ≤ a) : gz a 0 = a := by
  unfold gz
  rw [show (0 : Int).toNat = 0 from rfl, Nat.gcd_zero_right]
  omega
def ab (i : Int) : Int := if i < 0 then -i else i
theorem ab_nat (i : Int) : (ab i).toNat = i.natAbs := by unfold ab; split <;> omega
theorem ab_nn (i : Int) : 0 ≤ ab i := by unfold ab; split <;> omega
theorem gz_ab (t b : Int) : gz (ab t) (ab b) = (Nat.gcd t.natAbs b.natAbs : Nat) := by unfold gz; rw [ab_nat, ab_nat]
/-- the divisor of fraction -/
def dv (t b : Int) : Int := if b < 0 then -(gz (ab t) (ab b)) else gz (ab t) (ab b)
def ft (t b : Int) : Int := t.fdiv (dv t b)
def fb (t b : Int) : Int := b.fdiv (dv t b)
theorem g_pos {t b : Int} (h : b ≠ 0) : 0 < Nat.gcd t.natAbs b.natAbs := Nat.gcd_pos_of_pos_right _ (by omega)
theorem dv_abs (t b : Int) : (dv t b).natAbs = Nat.gcd t.natAbs b.natAbs := by
  unfold dv
  rw [gz_ab]
  split
  · rw [Int.natAbs_neg]; rfl
  · rfl
theorem dv_ne {t b : Int} (h : b ≠ 0) : dv t b ≠ 0 := fun z => by
  have := dv_abs t b
  have p := g_pos (t := t) h
  rw [z] at this
  simp at this
  omega
theorem dv_t (t b : Int) : dv t b ∣ t := Int.natAbs_dvd_natAbs.mp (by rw [dv_abs]; exact Nat.gcd_dvd_left _ _)
theorem dv_b (t b : Int) : dv t b ∣ b := Int.natAbs_dvd_natAbs.mp (by rw [dv_abs]; exact Nat.gcd_dvd_right _ _)
theorem ft_mul (t b : Int) : ft t b * dv t b = t := Int.fdiv_mul_cancel (dv_t t b)
theorem fb_mul (t b : Int) : fb t b * dv t b = b := Int.fdiv_mul_cancel (dv_b t b)
theorem cross (t b : Int) : ft t b * b = t * fb t b := by
  have e1 := ft_mul t b
  have e2 := fb_mul t b
  calc ft t b * b = ft t b * (fb t b * dv t b) := by rw [e2]
    _ = (ft t b * dv t b) * fb t b := by rw [Int.mul_comm (fb t b), Int.mul_assoc]
    _ = t * fb t b := by rw [e1]
theorem fb_pos {t b : Int} (h : b ≠ 0) : 1 ≤ fb t b := by
  have e := fb_mul t b
  have p := g_pos (t := t) h
  have ga : dv t b = if b < 0 then -((Nat.gcd t.natAbs b.natAbs : Nat) : Int) else ((Nat.gcd t.natAbs b.natAbs : Nat) : Int) := by unfold dv; rw [gz_ab]
  by_cases hb : b < 0
  · rw [if_pos hb] at ga
    have d0 : dv t b < 0 := by rw [ga]; omega
    by_cases q : 1 ≤ fb t b
    · exact q
    · exfalso
      have q' : fb t b ≤ 0 := by omega
      have : 0 ≤ fb t b * dv t b := Int.mul_nonneg_of_nonpos_of_nonpos q' (by omega)
      omega
  · rw [if_neg hb] at ga
    have d0 : 0 < dv t b := by rw [ga]; omega
    by_cases q : 1 ≤ fb t b
    · exact q
    · exfalso
      have q' : fb t b ≤ 0 := by omega
      have : fb t b * dv t b ≤ 0 := Int.mul_nonpos_of_nonpos_of_nonneg q' (by omega)
      omega
theorem cop {t b : Int} (h : b ≠ 0) : gz (ab (ft t b)) (fb t b) = 1 := by
  have p := g_pos (t := t) h
  have e1 : (ft t b).natAbs * Nat.gcd t.natAbs b.natAbs = t.natAbs := by rw [← dv_abs, ← Int.natAbs_mul, ft_mul]
  have e2 : (fb t b).natAbs * Nat.gcd t.natAbs b.natAbs = b.natAbs := by rw [← dv_abs, ← Int.natAbs_mul, fb_mul]
  have a1 : (ft t b).natAbs = t.natAbs / Nat.gcd t.natAbs b.natAbs := (Nat.div_eq_of_eq_mul_left p e1.symm).symm
  have a2 : (fb t b).natAbs = b.natAbs / Nat.gcd t.natAbs b.natAbs := (Nat.div_eq_of_eq_mul_left p e2.symm).symm
  unfold gz
  have q := fb_pos (t := t) h
  have e3 : (fb t b).toNat = (fb t b).natAbs := by omega
  rw [ab_nat, e3, a1, a2]
  have := Nat.coprime_div_gcd_div_gcd p
  unfold Nat.Coprime at this
  rw [this]
  rfl
/-- what is small enough for every operation -/
def Big (z : Int) : Prop := z.natAbs < 2 ^ 4000
set_option exponentiation.threshold 5000 in
theorem Big.of {z : Int} (h1 : -(10 ^ 120) < z) (h2 : z < 10 ^ 120) : Big z := by
  unfold Big
  have h3 : z.natAbs < 10 ^ 120 := by omega
  exact Nat.lt_trans h3 (by decide)
theorem Big.le {z y : Int} (h : z.natAbs ≤ y.natAbs) (b : Big y) : Big z := Nat.lt_of_le_of_lt h b
theorem dv_le {t b : Int} (h : b ≠ 0) : (dv t b).natAbs ≤ b.natAbs := by rw [dv_abs]; exact Nat.gcd_le_right _ (by omega)
theorem fb_le {t b : Int} (h : b ≠ 0) : (fb t b).natAbs ≤ b.natAbs := by
  have e1 : (fb t b).natAbs * Nat.gcd t.natAbs b.natAbs = b.natAbs := by rw [← dv_abs, ← Int.natAbs_mul, fb_mul]
  have p := g_pos (t := t) h
  calc (fb t b).natAbs = (fb t b).natAbs * 1 := by rw [Nat.mul_one]
    _ ≤ (fb t b).natAbs * Nat.gcd t.natAbs b.natAbs := Nat.mul_le_mul_left _ p
    _ = b.natAbs := e1
end M01


set_option maxRecDepth 100000
set_option linter.all false
set_option maxHeartbeats 4000000
set_option Elab.async false
namespace L3
open PySem PySem.Spec PyProof.Rows L2 M01
abbrev St := L2.St

/-! ### numbers of some hundred figures -/
theorem div_ok {a b : Int} (hb : Big b) : Builtin.divisionGoesByPylong a b = false := by
  refine PyProof.noPylong_of_log2 ?_
  by_cases h0 : b.natAbs = 0
  · rw [h0]; decide +kernel
  · have := (Nat.log2_lt h0).mpr hb
    omega
section
variable {X : Cx}
theorem op_fdivB : OpR X (binaryOp .FloorDiv) (rI (fun i j => j ≠ 0 ∧ Big j) fun i j => .int (i.fdiv j)) := opI fun _ _ _ _ _ _ _ hc q => floordiv_int hc.1 q (.inl (div_ok hc.2))

/-! ### isinstance(x, C) -/
theorem call_isinst : CallR X (.builtin "isinstance") (fun xs H Q => ∃ x y c t b, xs = [x, y] ∧ (∀ u, RelV y u → u = c) ∧ TyOf X.K H x t ∧ PySem.W.kitOne X.K t c = some b ∧ Q (.bl b) H) := by
  intro pins s σ H vs us Q I r h
  obtain ⟨x, y, c, t, b, rfl, uq, ty, e, q⟩ := h
  obtain ⟨u, v, rfl, ru, rv⟩ := Vals.two r
  obtain rfl : v = c := uq v rv
  exact isinst_ok I ru ty e fun tk => ⟨.bl b, H, I.tok tk, rfl, q⟩

/-! ### range(lo, hi, step) -/
def Itr3 (lo c : Int) (n : Nat) : It := ⟨fun i _ => i < n, fun i H x H' => H' = H ∧ x = .int (lo + (i : Nat) * c), fun i _ => n ≤ i⟩
def iRng3 (ta : TA) : TI := fun σ H R => ta σ H fun vs H1 => ∃ i j c : Int, vs = [.int i, .int j, .int c] ∧ c ≠ 0 ∧ Big c ∧ Builtin.Range.small i j c = true ∧ 0 ≤ Builtin.Range.rangeSize i j c ∧ R (Itr3 i c (Builtin.Range.rangeSize i j c).toNat) H1
end

/-! ### a, b, c = a list -/
section
variable {prog : Program} {w : World} {A : Around} {E : Value → Shared → Prop}
end
section
variable {X : Cx} {pos : Pos}
def gLst (K : PySem.W.Frag) (n : Nat) (t : TGs) : TG := fun v σ H Q => ∃ a xs, v = .ref a ∧ SqL K H a xs ∧ xs.length = n ∧ t xs σ H Q
end

/-! ### a def with defaults -/
structure FunD (K : PySem.W.Frag) (x qual : Str) (st : Stmt) (f : Addr) (fd : FuncData) : Prop where
  ex : ∃ (oc : Value) (od : Option Addr) (dV kV doc pm : Value) (an : Option Addr) (cdv ct : Value) (osl : Array (Option Value)),
    fd = PySem.W.fnOf x qual (defArgs st) (defBody st) (defScope st) dV kV doc pm an cdv ct ∧ K.lookup f = some ⟨oc, od, .func fd, osl⟩ ∧ PySem.W.codeIn K cdv qual = true
  kp : PySem.W.keepIn K (.ref f) = true
end L3


set_option maxRecDepth 100000
set_option linter.all false
set_option maxHeartbeats 4000000
set_option Elab.async false
namespace L3
open PySem PySem.Spec PyProof.Rows L2 M01
/-! ### two tuples of whole numbers held against one another -/
theorem all_eq (ns ms : List Int) : ((List.range (min ns.length ms.length)).all (fun j => decide (ns[j]? = ms[j]?)) && (ns.length == ms.length)) = decide (ns = ms) := by
  by_cases h : ns = ms
  · subst h
    rw [decide_eq_true rfl]
    simp
  · rw [decide_eq_false h, Bool.and_eq_false_iff]
    by_cases hl : ns.length = ms.length
    · left
      rw [Bool.eq_false_iff]
      intro a
      refine h (List.ext_getElem? fun j => ?_)
      by_cases hj : j < ns.length
      · exact of_decide_eq_true (List.all_eq_true.mp a j (List.mem_range.mpr (by omega)))
      · rw [List.getElem?_eq_none (by omega), List.getElem?_eq_none (by omega)]
    · right
      exact beq_eq_false_iff_ne.mpr hl
section
variable {X : Cx}
def rEqT (K : PySem.W.Frag) : R2 := fun x y H Q => ∃ (a b : Addr) (ns ms : List Int), x = .ref a ∧ y = .ref b ∧ SqT K H a (ns.map V.int) ∧ SqT K H b (ms.map V.int) ∧ Q (.bl (decide (ns = ms))) H
theorem op_eqT (hu : X.A.units < cLine) : OpR X (compareOp .Eq) (rEqT X.K) := by
  intro pins s σ H x y v u Q I rx ry h
  obtain ⟨a, b, ns, ms, rfl, rfl, ha, hb, q⟩ := h
  cases rx
  cases ry
  obtain ⟨its, r1, p1, _⟩ := I.tuple ha
  obtain ⟨its2, r2, p2, _⟩ := I.tuple hb
  have l1 : ns.length = its.length := by rw [← r1.length, List.length_map]
  have l2 : ms.length = its2.length := by rw [← r2.length, List.length_map]
  refine SeqAt.eq_tupleAt (e := fun j => decide (ns[j]? = ms[j]?)) p1 p2 hu (fun j h1 h2 => ?_) ⟨.bl (decide (ns = ms)), H, I, ?_, q⟩
  · have j1 : j < ns.length := by rw [l1]; simpa using h1
    have j2 : j < ms.length := by rw [l2]; simpa using h2
    have e1 : (ns.map V.int)[j]? = some (.int ns[j]) := by rw [List.getElem?_map, List.getElem?_eq_getElem j1]; rfl
    have e2 : (ms.map V.int)[j]? = some (.int ms[j]) := by rw [List.getElem?_map, List.getElem?_eq_getElem j2]; rfl
    obtain ⟨w1, g1, t1, k1⟩ := r1.get e1
    obtain ⟨w2, g2, t2, k2⟩ := r2.get e2
    have f1 : its.toArray[j] = w1 := by
      have z := (List.getElem?_eq_some_iff.mp g1).2
      simpa using z
    have f2 : its2.toArray[j] = w2 := by
      have z := (List.getElem?_eq_some_iff.mp g2).2
      simpa using z
    rw [f1, f2, k1, k2, List.getElem?_eq_getElem j1, List.getElem?_eq_getElem j2]
    have e3 : decide (some ns[j] = some ms[j]) = (ns[j] == ms[j]) := by
      by_cases z : ns[j] = ms[j]
      · rw [z, decide_eq_true rfl, beq_self_eq_true]
      · rw [decide_eq_false (fun w => z (Option.some.inj w)), beq_eq_false_iff_ne.mpr z]
    rw [e3]
    exact SeqAt.EqAt.int_int _ _ _ _
  · show Value.bool _ = Value.bool _
    rw [← all_eq ns ms, l1, l2]
    simp
end
end L3


set_option maxRecDepth 100000
set_option linter.all false
namespace X8
open PySem

/-- what hangs at an exception's second field: nothing, or the newest entry at T with its mark fl -/
def Tb (h : Heap) (e : Addr) : Option (Addr × Value) → Value → Prop
  | none, v => v = .none
  | some (T, fl), v => v = .ref T ∧ T ≠ e ∧ ∃ oT ts, h.get? T = some oT ∧ oT.data = .fields ts ∧ ts[3]? = some fl
/-- an exception of the class cls with its own dict at dx -/
def XAt (h : Heap) (e : Addr) (cls : Value) (dx : Option Addr) (tb : Option (Addr × Value)) : Prop :=
  ∃ oe vs v1, h.get? e = some oe ∧ oe.cls = cls ∧ oe.dict = dx ∧ oe.data = .fields vs ∧ vs[1]? = some v1 ∧ Tb h e tb v1
/-- only the objects at ch change, and of those at fr the slots -/
structure Chg (fr ch : List Addr) (h h' : Heap) : Prop where
  keep : ∀ b o, h.get? b = some o → b ∉ fr → b ∉ ch → h'.get? b = some o
  slot : ∀ b o, h.get? b = some o → b ∉ ch → ∃ sl, h'.get? b = some { o with slots := sl }
  size : h.objs.size ≤ h'.objs.size
def tbs : Option (Addr × Value) → List Addr
  | none => []
  | some (T, _) => [T]
theorem Chg.trans {fr ch : List Addr} {h h1 h2 : Heap} (x : Chg fr ch h h1) (y : Chg fr ch h1 h2) : Chg fr ch h h2 :=
  ⟨fun b o e a c => y.keep b o (x.keep b o e a c) a c, fun b o e c => let ⟨_, e1⟩ := x.slot b o e c; let ⟨sl, e2⟩ := y.slot b _ e1 c; ⟨sl, e2⟩, Nat.le_trans x.size y.size⟩
theorem Chg.mono {fr ch ch' : List Addr} {h h1 : Heap} (x : Chg fr ch h h1) (k : ∀ b ∈ ch, b ∈ ch') : Chg fr ch' h h1 :=
  ⟨fun b o e a c => x.keep b o e a fun z => c (k b z), fun b o e c => x.slot b o e fun z => c (k b z), x.size⟩
/-- a newer object may change freely -/
theorem Chg.trans' {fr ch ch' : List Addr} {h h1 h2 : Heap} (x : Chg fr ch h h1) (y : Chg fr ch' h1 h2) (k : ∀ b ∈ ch', b ∈ ch ∨ h.objs.size ≤ b) : Chg fr ch h h2 := by
  have nn : ∀ b o, h.get? b = some o → b ∉ ch → b ∉ ch' := fun b o e c z => (k b z).elim c fun q => absurd (Nat.lt_of_lt_of_le (Heap.lt_size e) q) (Nat.lt_irrefl _)
  exact ⟨fun b o e a c => y.keep b o (x.keep b o e a c) a (nn b o e c), fun b o e c => let ⟨_, e1⟩ := x.slot b o e c; let ⟨sl, e2⟩ := y.slot b _ e1 (nn b o e c); ⟨sl, e2⟩, Nat.le_trans x.size y.size⟩
theorem Chg.frames {fr ch : List Addr} {h h1 base : Heap} (x : Chg fr ch h h1) {l : List Env} (hl : h.FunFrames base l) (k : ∀ b ∈ ch, ∀ o, h.get? b = some o → ∃ vs, o.data = .fields vs) : h1.FunFrames base l := by
  refine hl.of_keeps fun b o e nf => ?_
  obtain ⟨sl, q⟩ := x.slot b o e fun z => let ⟨vs, d⟩ := k b z o e; nf vs d
  exact ⟨_, q, rfl⟩

section
variable {M : Model} {A : Around} {E : Value → Shared → Prop} {s : Shared} {base : Heap} {env : Env} {outer : List Env} {L e : Addr} {cls : Value} {dx : Option Addr}

theorem upd_chg {h : Heap} {T : Addr} {oT : Obj} {ts : Array Value} {f : Array Value → Array Value} {fr : List Addr} (hT : h.get? T = some oT) (hd : oT.data = .fields ts) :
    Chg fr [T] h (h.update T (Obj.mapFields f)) := by
  have other : ∀ b, b ∉ [T] → (h.update T (Obj.mapFields f)).get? b = h.get? b := fun b hb => Heap.get?_update_other _ _ fun z => hb (by simp [z])
  exact ⟨fun b o q _ c => (other b c).trans q, fun b o q c => ⟨o.slots, (other b c).trans q⟩, Nat.le_of_eq (Heap.size_after_update ..).symm⟩

/-- a new entry is laid and hung at the exception -/
theorem entry_x {head : Value} {hadNext : Bool} {Q : Unit → Shared → Prop} {oe : Obj} {vs : Array Value} (hfr : A.frames = some (env :: outer)) (hl : s.heap.FunFrames base (env :: outer)) (hf : env.frame = some L)
    (he : s.heap.get? e = some oe) (hd : oe.data = .fields vs) (hsz : 1 < vs.size)
    (h : ∀ h' T, Chg ((env :: outer).filterMap (·.frame)) [e] s.heap h' → s.heap.objs.size ≤ T → XAt h' e oe.cls oe.dict (some (T, rawInt L)) → Q () { s with heap := h' }) :
    wpAny M A (do let a ← frameOf env; let pl ← entryPlaceOf L hadNext; let b ← EntryCells.newEntry head a .none (rawInt L) .none pl; setField (.ref e) 1 b) Q E s := by
  have nfr : e ∉ (env :: outer).filterMap (·.frame) := fun hm => by
    obtain ⟨_, o, ho, nf⟩ := hl.mem hm
    rw [he] at ho
    injection ho with ho
    subst ho
    exact nf vs hd
  refine wpAny_bind (wpAny_frameOf_fun hfr hl hf fun h1 S1 => ?_)
  refine wpAny_bind (wpAny_entryPlaceOf fun pl hpl => ?_)
  unfold EntryCells.newEntry newFields
  refine wpAny_bind (wpAny_newObj_type ?_ (hpl.sizeOk5 _ _ _ _ _))
  have e1 : h1.get? e = some oe := (S1.2.1 e nfr).trans he
  generalize hob : ({ cls := .type "traceback", dict := none, data := .fields ([head, .ref L, .none, rawInt L, .none] ++ (if pl.isEmpty then List.replicate 6 Value.none else pl)).toArray } : Obj) = ob
  have e2 : (h1.push ob).get? e = some oe := Heap.get?_push_of_some _ e1
  refine wpAny_setField e2 hd hsz (h _ h1.objs.size ?_ (Nat.le_of_eq S1.1.symm) ?_)
  · have ne : ∀ b, b ∉ [e] → ((h1.push ob).update e (Obj.mapFields (·.setIfInBounds 1 (Value.ref h1.objs.size)))).get? b = (h1.push ob).get? b := fun b hb => Heap.get?_update_other _ _ fun z => hb (by simp [z])
    refine ⟨fun b o q a c => (ne b c).trans (Heap.get?_push_of_some _ ((S1.2.1 b a).trans q)), fun b o q c => ?_, ?_⟩
    · obtain ⟨sl, q1⟩ := S1.2.2 b o q
      exact ⟨sl, (ne b c).trans (Heap.get?_push_of_some _ q1)⟩
    · rw [Heap.size_after_update, Heap.size_push, S1.1]
      omega
  · have d3 := Obj.data_mapFields hd (·.setIfInBounds 1 (Value.ref h1.objs.size))
    have Te : h1.objs.size ≠ e := Nat.ne_of_gt (Heap.lt_size e1)
    have hT := (Heap.get?_update_other (h1.push ob) (Obj.mapFields (·.setIfInBounds 1 (Value.ref h1.objs.size))) (Ne.symm Te)).trans (Heap.get?_push_size h1 (o := ob) (by subst hob; rfl))
    refine ⟨_, _, .ref h1.objs.size, Heap.get?_update_self _ e2 (Obj.isFreed_of_fields d3), Obj.cls_mapFields _ _, ?_, d3, by simp [hsz], rfl, Te, ob, _, hT, by subst hob; rfl, ?_⟩
    · obtain ⟨c0, dd, dt, sl⟩ := oe
      cases dt <;> rfl
    · first | (simp; done) | (rcases hpl with rfl | ⟨_, _, _, _, _, _, _, rfl⟩ <;> simp)

/-- the frame is noted at an exception that is new, or that came from a callee -/
theorem note_x {tb : Option (Addr × Value)} {Q : Unit → Shared → Prop} (hfr : A.frames = some (env :: outer)) (hl : s.heap.FunFrames base (env :: outer)) (hf : env.frame = some L)
    (hx : XAt s.heap e cls dx tb) (ht : tb = none ∨ ∃ T, tb = some (T, .none))
    (h : ∀ h' T, Chg ((env :: outer).filterMap (·.frame)) (e :: tbs tb) s.heap h' → s.heap.objs.size ≤ T → XAt h' e cls dx (some (T, rawInt L)) → Q () { s with heap := h' }) :
    wpAny M A (noteFrame (.ref e) env) Q E s := by
  obtain ⟨oe, vs, v1, he, hc, hdx, hd, h1, hT⟩ := hx
  subst hc hdx
  unfold noteFrame
  simp only [hf]
  refine wpAny_bind (wpAny_field he hd h1 ?_)
  rcases ht with rfl | ⟨T, rfl⟩
  · obtain rfl : v1 = .none := hT
    rw [if_neg (by decide)]
    exact entry_x hfr hl hf he hd (Array.getElem?_eq_some_iff.mp h1).1 fun h' T c => h h' T (c.mono fun b hb => hb)
  · obtain ⟨rfl, ne, oT, ts, gT, dT, t3⟩ := hT
    rw [if_pos (show (Value.ref T != Value.none) = true from by simp)]
    refine wpAny_bind (wpAny_field gT dT t3 ?_)
    rw [if_neg (show ¬ ((Value.none == rawInt L) = true) from by simp [rawInt])]
    refine wpAny_bind (wpAny_setField gT dT (Array.getElem?_eq_some_iff.mp t3).1 ?_)
    have c1 : Chg ((env :: outer).filterMap (·.frame)) [T] s.heap (s.heap.update T (Obj.mapFields (·.setIfInBounds 3 Value.none))) := upd_chg gT dT
    have he1 : (s.heap.update T (Obj.mapFields (·.setIfInBounds 3 Value.none))).get? e = some oe := (Heap.get?_update_other _ _ ne).trans he
    refine entry_x (s := { s with heap := s.heap.update T (Obj.mapFields (·.setIfInBounds 3 Value.none)) }) hfr (c1.frames hl fun b hb o q => ?_) hf he1 hd (Array.getElem?_eq_some_iff.mp h1).1 fun h' T' c sz => h h' T' ?_ ?_
    · obtain rfl : b = T := by simpa using hb
      rw [gT] at q
      cases q
      exact ⟨ts, dT⟩
    · exact (c1.mono fun b hb => by simp [tbs] at hb ⊢; exact .inr hb).trans (c.mono fun b hb => by simp [tbs] at hb ⊢; exact .inl hb)
    · exact Nat.le_trans c1.size sz


theorem flight_x {T : Addr} {fl : Value} {fr : List Addr} {Q : Unit → Shared → Prop} (hx : XAt s.heap e cls dx (some (T, fl)))
    (h : ∀ h', Chg fr [T] s.heap h' → XAt h' e cls dx (some (T, .none)) → Q () { s with heap := h' }) : wpAny M A (setFlight (.ref e) none) Q E s := by
  obtain ⟨oe, vs, v1, he, hc, hdx, hd, h1, rfl, ne, oT, ts, gT, dT, t3⟩ := hx
  unfold setFlight
  refine wpAny_bind (wpAny_field he hd h1 ?_)
  rw [if_pos (show (Value.ref T != Value.none) = true from by simp)]
  have z3 := (Array.getElem?_eq_some_iff.mp t3).1
  refine wpAny_setField gT dT z3 (h _ (upd_chg gT dT) ?_)
  exact ⟨oe, vs, .ref T, (Heap.get?_update_other _ _ ne).trans he, hc, hdx, hd, h1, rfl, ne, _, _, Heap.get?_update_self _ gT (Obj.isFreed_of_fields (Obj.data_mapFields dT _)), Obj.data_mapFields dT _, by simp [z3]⟩


/-- a def is left -/
theorem leave_x {tb : Option (Addr × Value)} {Q : Unit → Shared → Prop} (hfr : A.frames = some (env :: outer)) (hl : s.heap.FunFrames base (env :: outer)) (hf : env.frame = some L)
    (hx : XAt s.heap e cls dx tb) (ht : tb = none ∨ ∃ T, tb = some (T, .none))
    (h : ∀ h' T, Chg ((env :: outer).filterMap (·.frame)) (e :: tbs tb) s.heap h' → s.heap.objs.size ≤ T → XAt h' e cls dx (some (T, .none)) → Q () { s with heap := h' }) :
    wpAny M A (leaving env (.ref e)) Q E s := by
  unfold leaving
  refine wpAny_bind (note_x hfr hl hf hx ht fun h1 T c1 z1 x1 => ?_)
  exact flight_x (s := { s with heap := h1 }) (fr := (env :: outer).filterMap (·.frame)) x1 fun h2 c2 x2 => h h2 T (c1.trans' c2 fun b hb => .inr (by
    obtain rfl : b = T := by simpa using hb
    exact z1)) z1 x2
end
end X8


set_option maxRecDepth 100000
set_option linter.all false
set_option maxHeartbeats 4000000
namespace X8
open PySem PySem.W PySem.Calls PyProof.Rows Builtin Builtin.ObjectAttr

/-! ### a class of refusals, as it stands in the written part -/
theorem refuse_v (self : Value) : refuseLoop self "__setattr__" [.type "ValueError", .type "Exception", .type "BaseException", .type "object"] = pure () := by kernel_rfl

section
variable {prog : Program} {w : World} {A : Around} {E : Value → Shared → Prop} {s : Shared} {K : Frag} {x C : Addr} {ox : Obj} {od : Option Obj} {name : Str}





end
end X8


set_option maxRecDepth 100000
set_option linter.all false
set_option maxHeartbeats 4000000
namespace X8
open PySem PySem.W PySem.Calls PyProof.Rows Builtin Builtin.ObjectAttr

abbrev rawTup (rest : List Value) : Obj := { cls := .type "tuple", data := .seq rest.toArray }
abbrev rawExc (C t : Addr) (dx : Option Addr) : Obj := { cls := .ref C, dict := dx, data := .fields #[.ref t, .none, .none, .none, .bool false, .none] }
abbrev V4 : List Value := [.type "ValueError", .type "Exception", .type "BaseException", .type "object"]

section
variable {prog : Program} {w : World} {A : Around} {E : Value → Shared → Prop} {h : Heap} {g : Array GenState} {d : Drawn} {t : Nat} {os : OsState} {K : Frag}
variable {nm q : Str} {C N : Addr} {bs bm : List Value} {hdct : Bool} {sn : List Str} {sub : List Value} {ab : Bool} {col : Option Bool} {dd : Option Addr} {k0 k1 k2 k3 k5 : Option Value}

theorem xnew_check {M : Model} {rest : List Value} {Q : Unit → Shared → Prop} (hC : h.get? C = some (excClassObj nm q C N bs bm hdct sn sub ab col dd k0 k1 k2 k3 k5 "ValueError.__new__"))
    (hB : (Value.ref C :: bm).contains (.type "ValueError") = true) (hq : Q () ⟨h, g, d, t, os⟩) : wpAny M A (checkBuiltinCall "ValueError.__new__" ⟨.ref C :: rest, []⟩) Q E ⟨h, g, d, t, os⟩ := by
  have FV := PySem.F.excBase_ValueError
  have st := FV.noStar
  simp only [checkBuiltinCall, FV.newKind, FV.newSplit, FV.newRow]
  repeat (first | refine wpAny_loadPart_at hC ?_ | (refine wpAny_isSubtype_exc hC ?_; rw [hB]) | refine wpAny_staticBase_exc hC ?_ | refine wpAny_madeBy_exc hC ?_ | simp only [bne_self_eq_false, Bool.false_eq_true, if_false] | wp_step)
  exact hq

theorem xnew_run {rest : List Value} {R : Result → Shared → Prop} (hC : h.get? C = some (excClassObj nm q C N bs bm hdct sn sub ab col dd k0 k1 k2 k3 k5 "ValueError.__new__"))
    (hB : (Value.ref C :: bm).contains (.type "ValueError") = true) (hA : (Value.ref C :: bm).contains (.type "AttributeError") = false) (hN : (Value.ref C :: bm).contains (.type "NameError") = false) (hrest : rest.length ≤ sizeLine)
    (hq : R (.ok (.ret (.ref (h.objs.size + 1)))) ⟨(h.push (rawTup rest)).push (rawExc C h.objs.size none), g, d, t, os⟩) :
    codeAny (model prog w) A (.builtin "ValueError.__new__" ⟨.ref C :: rest, []⟩) R ⟨h, g, d, t, os⟩ := by
  have FV := PySem.F.excBase_ValueError
  have en := FV.ends
  refine codeAny_builtinAt FV.entry ?_
  unfold Builtin.«BaseException.__new__»
  refine PySem.wpAt_bind ?_
  show PySem.wpAt _ _ _ (stack >>= _) _ _ _
  refine PySem.wpAt_bind (PySem.wpAt_stack fun p below => PySem.wpAt_of_wpAny ?_)
  wp_walk
  refine PySem.wpAt_of_wpAny ?_
  rw [FV.owner]
  repeat (first | with_reducible refine wpAny_madeHere_exc FV.canon hC ?_ | with_reducible refine wpAny_loadPart_at hC ?_ | (with_reducible refine wpAny_isSubtype_exc hC ?_; first | rw [hB] | rw [hA] | rw [hN]) | wp_step)
  show R _ _
  rw [Heap.size_push]
  exact hq

theorem xtype_call {rest : List Value} {fI : Addr} {Q : Fin → Shared → Prop} (X : K.In h) (hC : h.get? C = some (excClassObj nm q C N bs bm hdct sn sub ab col dd k0 k1 k2 k3 k5 "ValueError.__new__"))
    (hB : (Value.ref C :: bm).contains (.type "ValueError") = true) (hA : (Value.ref C :: bm).contains (.type "AttributeError") = false) (hN : (Value.ref C :: bm).contains (.type "NameError") = false) (hrest : rest.length ≤ sizeLine)
    (hi : findIn K (.ref C) "__init__" = some (some (.ref fI))) (hf : typeIn K (.ref fI) = some (.type "function"))
    (hq : wpAny (model prog w) A (call (.ref fI) (.ref (h.objs.size + 1) :: rest)) (fun r s' => r = .none ∧ Q (.done (.ret (.ref (h.objs.size + 1)))) s') E ⟨(h.push (rawTup rest)).push (rawExc C h.objs.size none), g, d, t, os⟩) :
    wpAny (model prog w) A (Builtin.«type.__call__» ⟨.ref C :: rest, []⟩) Q E ⟨h, g, d, t, os⟩ := by
  have FV := PySem.F.excBase_ValueError
  repeat (first | with_reducible refine wpAny_loadPart_at hC ?_ | with_reducible refine wpAny_madeBy_exc hC ?_ | wp_step)
  refine codeAny_call_builtin_code (Code.quiet_builtin _ FV.quiet) (xnew_check hC hB ?_)
  refine xnew_run hC hB hA hN hrest ?_
  show wpAny _ _ _ _ _ _
  have kp : ∀ b o, h.get? b = some o → ((h.push (rawTup rest)).push (rawExc C h.objs.size none)).get? b = some o := fun b o e => Heap.get?_push_of_some _ (Heap.get?_push_of_some _ e)
  have C1 := kp _ _ hC
  have X1 : K.In ((h.push (rawTup rest)).push (rawExc C h.objs.size none)) := X.keeps kp
  have ge : ((h.push (rawTup rest)).push (rawExc C h.objs.size none)).get? (h.objs.size + 1) = some (rawExc C h.objs.size none) := by heap_get
  have hcC : (Value.ref C :: bm).contains (.ref C) = true := by simp
  unfold isInstance
  repeat (first | with_reducible refine wpAny_loadPart_at ge ?_ | (with_reducible refine wpAny_isSubtype_exc C1 ?_; rw [hcC]) | wp_step)
  show wpAny _ _ (typeLookup (.ref C) _) _ _ _
  refine (looks_findIn X1 hi).at ?_
  refine wpAny_holding (wpAny_bind ((bind_fn X1 _ hf).at ?_))
  refine wpAny_bind (wpAny_mono hq (fun r s' hr => ?_) fun _ _ z => z)
  obtain ⟨rfl, z⟩ := hr
  wp_walk
  exact z

theorem xcall {rest : List Value} {fI : Addr} {Q : Value → Shared → Prop} (X : K.In h) (hC : h.get? C = some (excClassObj nm q C N bs bm hdct sn sub ab col dd k0 k1 k2 k3 k5 "ValueError.__new__"))
    (hB : (Value.ref C :: bm).contains (.type "ValueError") = true) (hA : (Value.ref C :: bm).contains (.type "AttributeError") = false) (hN : (Value.ref C :: bm).contains (.type "NameError") = false) (hrest : rest.length ≤ sizeLine)
    (hi : findIn K (.ref C) "__init__" = some (some (.ref fI))) (hf : typeIn K (.ref fI) = some (.type "function"))
    (hq : wpAny (model prog w) (A.under (.builtin "type.__call__" ⟨.ref C :: rest, []⟩)) (call (.ref fI) (.ref (h.objs.size + 1) :: rest)) (fun r s' => r = .none ∧ Q (.ref (h.objs.size + 1)) s') E ⟨(h.push (rawTup rest)).push (rawExc C h.objs.size none), g, d, t, os⟩) :
    wpAny (model prog w) A (call (.ref C) rest) Q E ⟨h, g, d, t, os⟩ := by
  have f1 := tc_lookup
  have f2 := tc_bind (.ref C)
  have hT : (⟨h, g, d, t, os⟩ : Shared).TypeIs (.ref C) "type" := ⟨_, hC, rfl⟩
  refine wpAny_call (codeAny_of_tree ?_)
  show wpAny _ _ (callAny (.ref C) _) _ _ _
  repeat (any_goals (first | assumption | with_reducible refine wpAny_loadPart_at hC ?_ | wp_step))
  refine ⟨rfl, ?_⟩
  refine codeAny_call_builtin_at (Code.quiet_builtin _ (by decide +kernel)) entry_typeCall (wpAny_check_type_call_sub hC (xtype_call X hC hB hA hN hrest hi hf ?_))
  exact hq

/-- the base's own __init__ -/
theorem xinit_check {M : Model} {e t0 : Addr} {dx : Option Addr} {b : Value} {Q : Unit → Shared → Prop} (hC : h.get? C = some (excClassObj nm q C N bs bm hdct sn sub ab col dd k0 k1 k2 k3 k5 "ValueError.__new__"))
    (hB : (Value.ref C :: bm).contains (.type "ValueError") = true) (he : h.get? e = some (rawExc C t0 dx)) (hq : Q () ⟨h, g, d, t, os⟩) :
    wpAny M A (checkBuiltinCall "ValueError.__init__" ⟨[.ref e, b], []⟩) Q E ⟨h, g, d, t, os⟩ := by
  have FV := PySem.F.excBase_ValueError
  have st := FV.noStar
  simp only [checkBuiltinCall, FV.initKind, FV.initSplit, FV.initRow]
  repeat (first | with_reducible refine wpAny_loadPart_at he ?_ | with_reducible refine wpAny_loadPart_at hC ?_ | (with_reducible refine wpAny_isSubtype_exc hC ?_; rw [hB]) | wp_step)
  exact hq
theorem xinit {e t0 : Addr} {dx : Option Addr} {b : Value} {Q : Value → Shared → Prop} (hC : h.get? C = some (excClassObj nm q C N bs bm hdct sn sub ab col dd k0 k1 k2 k3 k5 "ValueError.__new__"))
    (hB : (Value.ref C :: bm).contains (.type "ValueError") = true) (he : h.get? e = some (rawExc C t0 dx))
    (hq : Q .none ⟨(h.push (rawTup [b])).update e (Obj.mapFields (·.setIfInBounds 0 (.ref h.objs.size))), g, d, t, os⟩) :
    wpAny (model prog w) A (call (.builtin "ValueError.__init__") [.ref e, b]) Q E ⟨h, g, d, t, os⟩ := by
  have FV := PySem.F.excBase_ValueError
  refine wpAny_call (codeAny_call_builtin FV.init.plain FV.initEntry (xinit_check hC hB he ?_))
  have e1 : (h.push (rawTup [b])).get? e = some (rawExc C t0 dx) := Heap.get?_push_of_some _ he
  wp_walk
  exact hq
end
end X8


set_option maxRecDepth 100000
set_option linter.all false
set_option maxHeartbeats 4000000
namespace X8
open PySem PySem.Calls PyProof.Rows

/-- a class of refusals in the written part: its object, its looks -/
structure XCls (K : PySem.W.Frag) (C S : Addr) : Prop where
  obj : ∃ nm q N bs sn sub ab col dd k0 k1 k2 k3 k5, K.lookup C = some (excClassObj nm q C N bs (.ref S :: V4) true sn sub ab col dd k0 k1 k2 k3 k5 "ValueError.__new__")
  ga : PySem.W.findIn K (.ref C) "__getattribute__" = some (some (.builtin "BaseException.__getattribute__"))
  gh : PySem.W.findIn K (.ref C) "__getattr__" = some none
  sa : PySem.W.findIn K (.ref C) "__setattr__" = some (some (.builtin "object.__setattr__"))
  kc : PySem.W.findIn K (.ref C) "__class__" = some (some (.builtin "object.__class__"))
  kg : PySem.W.specialIn K (.builtin "object.__class__") "__get__" = some (some (.builtin "getset_descriptor.__get__"))
  kt : PySem.W.takesIn K (.builtin "object.__class__") = some true
  kp : PySem.W.keepIn K (.ref C) = true
/-- the base of all refusals -/
structure XBase (K : PySem.W.Frag) (S : Addr) : Prop where
  obj : ∃ nm q N bs sn sub ab col dd k0 k1 k2 k3 k5, K.lookup S = some (excClassObj nm q S N bs V4 true sn sub ab col dd k0 k1 k2 k3 k5 "ValueError.__new__")
  ga : PySem.W.specialIn K (.ref S) "__getattribute__" = some (some (.builtin "type.__getattribute__"))
  rd : PySem.W.readsIn K S (.type "type") = true
  it : PySem.W.findCls K (.ref S) (.type "type") "__init__" = some (.val (.builtin "ValueError.__init__"))
theorem XCls.cls {K : PySem.W.Frag} {C S : Addr} (c : XCls K C S) : ∃ cd, PySem.W.clsIn K C = some cd ∧ cd.hasDict = true ∧ cd.mro = .ref C :: .ref S :: V4 := by
  obtain ⟨nm, q, N, bs, sn, sub, ab, col, dd, k0, k1, k2, k3, k5, e⟩ := c.obj
  exact ⟨_, by unfold PySem.W.clsIn; rw [e], rfl, rfl⟩
theorem XCls.mro {K : PySem.W.Frag} {C S : Addr} (c : XCls K C S) {b : Value} : PySem.W.mroIn K C b = some ((Value.ref C :: .ref S :: V4).contains b) := by
  obtain ⟨cd, e, _, m⟩ := c.cls
  unfold PySem.W.mroIn
  rw [e, Option.bind_some, m]
  rfl
theorem XCls.hd {K : PySem.W.Frag} {C S : Addr} (c : XCls K C S) : PySem.W.hasDictIn K C = true := by
  obtain ⟨cd, e, d, _⟩ := c.cls
  unfold PySem.W.hasDictIn
  rw [e]
  exact d

/-! ### a field is stored at a new refusal: its dict is made -/
section
open PySem.W Builtin Builtin.ObjectAttr
variable {prog : Program} {w : World} {A : Around} {E : Value → Shared → Prop} {s : Shared} {K : Frag}
theorem xset {e C S t0 : Addr} {v : Value} {name : Str} {Q : Unit → Shared → Prop} (X : K.In s.heap) (he : s.heap.get? e = some (rawExc C t0 none)) (c : XCls K C S) (hna : findIn K (.ref C) name = some none)
    (hq : ∀ h' tk, h'.get? e = some (rawExc C t0 (some s.heap.objs.size)) → h'.Ns1 s.heap.objs.size (fun y => if y = name then some v else none) → (∀ b o, b ≠ e → s.heap.get? b = some o → h'.get? b = some o) → Q () { s with heap := h', toks := tk }) :
    wpAny (model prog w) A (setAttr (.ref e) name v) Q E s := by
  obtain ⟨cd, hc, hhd, hmro⟩ := c.cls
  have I : InstAt s.heap e (rawExc C t0 none) C none := ⟨he, rfl, rfl, trivial⟩
  refine set_plain X I c.sa ?_
  have SF := PySem.F.store_object
  have sub : Looks (model prog w) s.heap (isInstance (.ref e) (.type "object")) true := I.type.andThen (looks_mroIn X (by rw [c.mro]; rfl))
  refine codeAny_call_builtin SF.slot.plain SF.entry (@check_slot (model prog w) _ _ { s with toks := s.toks + 1 } "object.__setattr__" "object" "__setattr__" (.ref e) [.str name s.toks, v] [] _ SF.kind SF.split sub (SF.args (.ref e) (.str name s.toks) v) ?_)
  have hm : Looks (model prog w) s.heap (mroOf (.ref C)) cd.mro := (looks_clsIn X hc).andThen .now
  rw [osa_eq, refuse_eq]
  refine wpAny_bind (wpAny_bind (Looks.here (s := { s with toks := s.toks + 1 }) I.type (wpAny_bind (Looks.here (s := { s with toks := s.toks + 1 }) hm ?_))))
  rw [hmro, refuseLoop_ref, refuseLoop_ref, refuse_v]
  refine wpAny_pure (wpAny_bind (Looks.here (s := { s with toks := s.toks + 1 }) I.type (wpAny_bind (Looks.here (s := { s with toks := s.toks + 1 }) (looks_findIn X hna) (wpAny_bind (wpAny_pure (a := none) ?_))))))
  show wpAny _ _ (storeInOwnDict (.ref e) (.ref C) (.str name s.toks) name v false) _ _ _
  refine wpAny_bind (wpAny_pure (wpAny_bind (wpAny_bind (wpAny_loadPart he (wpAny_bind (Looks.here (s := { s with toks := s.toks + 1 }) (looks_clsIn X hc) ?_))))))
  rw [hhd]
  have e1 : (s.heap.push { cls := .type "dict", data := .dict #[] }).get? e = some (rawExc C t0 none) := Heap.get?_push_of_some _ he
  have ne : e ≠ s.heap.objs.size := Nat.ne_of_lt (Heap.lt_size he)
  show wpAny _ _ (alloc { cls := .type "dict", data := .dict #[] } >>= _) _ _ _
  refine wpAny_bind (wpAny_alloc (wpAny_bind (wpAny_update e1 (wpAny_pure ?_))))
  have gd : ((s.heap.push { cls := .type "dict", data := .dict #[] }).update e fun o => { o with dict := some s.heap.objs.size }).get? s.heap.objs.size = some { cls := .type "dict", data := .dict #[] } :=
    (Heap.get?_update_ne _ _ _ _ ne.symm).trans (Heap.get?_push_at rfl rfl)
  have nd : ((s.heap.push { cls := .type "dict", data := .dict #[] }).update e fun o => { o with dict := some s.heap.objs.size }).Ns s.heap.objs.size (fun _ => none) :=
    ⟨_, #[], _, gd, rfl, fun e he => absurd he (by simp), fun _ => rfl⟩
  show wpAny _ _ (storeInDict s.heap.objs.size (.str name s.toks) name v) _ _ _
  unfold storeInDict newKeyGuard
  refine wpAny_bind (wpAny_pure (wpAny_bind (wpAny_nsSet1 (Heap.Ns1.of_empty nd) fun h' hn' hs => ?_)))
  obtain ⟨oD, esD, epD, hoD, hdD, hcD⟩ := hn'.count (Within.cons name v Within.nil)
  refine wpAny_bind (wpAny_lookBehind hoD (by rw [hdD]; exact pastItsLine_dict (Nat.le_trans hcD (by rw [List.length_cons, List.length_nil, sizeLine_eq]; omega))) ?_)
  refine wpAny_pure ?_
  refine hq h' _ ?_ hn' fun b o hb q => ?_
  · exact (hs.2 e ne).trans (Heap.get?_update_self _ e1 rfl)
  · exact (hs.2 b (Nat.ne_of_lt (Heap.lt_size q))).trans ((Heap.get?_update_ne _ _ _ _ hb).trans (Heap.get?_push_of_some _ q))

end
end X8


set_option maxRecDepth 100000
set_option linter.all false
set_option maxHeartbeats 4000000
set_option Elab.async false
namespace X8
open PySem PySem.Spec PyProof.Rows L2
abbrev St := L2.St

/-! ### refusals over the layer -/
section
variable {X : Cx} {pins : List (Addr × Obj)} {σ : St} {H : Hp} {s : Shared}
/-- only records of ours and frames' slots have changed -/
theorem Inv.chg {h' : Heap} {ch : List Addr} (I : Inv X pins σ H s) (c : Chg (frs X.stack) ch s.heap h') (hch : ∀ b ∈ ch, FpOk X pins H b) : Inv X pins σ H { s with heap := h' } := by
  have nt : ∀ b o, H b = some o → b ∉ ch := fun b o e z => by rw [(hch b z).1] at e; cases e
  have nf : ∀ b o, H b = some o → b ∉ frs X.stack := fun b o e z => by rw [I.stkFree b z] at e; cases e
  have hok : HOk X.prog X.w H h' := fun b o e => (I.hok b o e).stay (fun a u ha q => by
    rcases ha with rfl | ha
    · exact c.keep a u q (nf a o e) (nt a o e)
    · exact c.keep a u q (nf a _ ha) (nt a _ ha)) (fun _ q => q) fun _ _ q => q
  refine I.call' (s' := { s with heap := h' }) (ch := ch) rfl ⟨fun b o q n a z => c.keep b o q a z, fun b o q n a z => c.slot b o q z, fun b o q n z => n, fun b o q z => let ⟨sl, r⟩ := c.slot b o q z; ⟨_, r⟩, fun _ _ q => q, fun _ _ _ q => q, fun b ps q => ⟨#[], by rw [q]; simp⟩⟩ hok I.bare fun b z => ?_
  obtain ⟨_, f1, f2, f3, f4, f5⟩ := hch b z
  exact ⟨f3, f1, f4, f5⟩
end

/-- how a refusal lies behind a call -/
def CXe (P : Program) (w : World) : CXT := fun outer H s E ev s' =>
  ∃ (e T : Addr) (cls : Value) (dx : Option Addr) (H' : Hp), ev = .ref e ∧ s'.os = s.os ∧ AllBare s'.gens ∧ Un (frs outer) [] H H' s.heap s'.heap ∧ HOk P w H' s'.heap ∧
    s.heap.objs.size ≤ e ∧ s.heap.objs.size ≤ T ∧ H' e = none ∧ H' T = none ∧ XAt s'.heap e cls dx (some (T, .none)) ∧ E cls dx H'

/-- this code takes refusals that E lets by -/
def Catches (X : Cx) (E : St → XK) : Prop := ∀ (pins : List (Addr × Obj)) (σ : St) (H : Hp) (s : Shared) (e : Addr) (cls : Value) (dx : Option Addr) (tb : Option (Addr × Value)), Inv X pins σ H s → XAt s.heap e cls dx tb →
  (tb = none ∨ ∃ T, tb = some (T, .none) ∧ FpOk X pins H T) → FpOk X pins H e → E σ cls dx H → X.xe (.ref e) s

theorem pass1 {P : Program} {w : World} {X : Cx} : Passes (CXe P w) X E0 := fun _ _ _ _ _ _ _ h => by
  obtain ⟨_, _, _, _, _, _, _, _, _, _, _, _, _, _, _, z⟩ := h
  exact False.elim z

/-- a def's body -/
theorem catches_def {P : Program} {w : World} {K : PySem.W.Frag} {mg : Str → Option Value} {base : Heap} {N : List Str} {qual : Str} {scope : Scope} {f : Addr} {cd : Value} {A : Around} {outer : List Env} {s₀ : Shared} {H₀ : Hp} {E : XK} :
    Catches (cxOf (CXe P w) P w K mg base N qual scope f cd A outer s₀ H₀ E) fun _ => E := by
  intro pins σ H s e cls dx tb I xa ht fe q
  have key : ∀ b ∈ e :: tbs tb, FpOk (cxOf (CXe P w) P w K mg base N qual scope f cd A outer s₀ H₀ E) pins H b := fun b hb => by
    rcases List.mem_cons.mp hb with rfl | hb
    · exact fe
    · rcases ht with rfl | ⟨T, rfl, fT⟩
      · exact absurd hb (by simp [tbs])
      · obtain rfl : b = T := by simpa [tbs] using hb
        exact fT
  show wpAny _ _ (leaving _ (.ref e)) _ _ s
  refine leave_x (base := base) (outer := outer) I.ok.frames I.stack rfl xa (ht.imp (fun z => z) fun ⟨T, z, _⟩ => ⟨T, z⟩) fun h' T c sz xa' => ?_
  have I' := Inv.chg I c key
  have hT : H T = none := I.hok.fresh sz
  refine ⟨e, T, cls, dx, H, rfl, I'.os, I'.bare, I'.base, I'.hok, ?_, Nat.le_trans I.sz sz, fe.1, hT, xa', q⟩
  rcases fe.2.2.2.1 with z | z
  · exact absurd (show e ∈ ([] : List Addr) from z) (by simp)
  · exact z

/-- THE RULE for a def that may refuse -/
theorem Fun.okX {P : Program} {w : World} {K : PySem.W.Frag} {mg : Str → Option Value} {base : Heap} {x qual : Str} {st : Stmt} {f : Addr} {fd : FuncData} {N ps : List Str} {k : Nat} {sp : Sp} (F : L2.Fun K x qual st f fd) (S : FnScope N ps (defScope st)) (len : ∀ vs H Q E, sp vs H Q E → vs.length = ps.length)
    (hbody : ∀ (cdv : Value) (A : Around) (outer : List Env) (s : Shared) (H : Hp) (vs : List V) (Q : VK) (E : XK), Room k (A.deeper (envOfC qual (defScope st) s.heap.objs.size f cdv)) → sp vs H Q E →
      ∃ t, PSs (cxOf (CXe P w) P w K mg base N qual (defScope st) f cdv A outer s H E) (defBody st) t ∧ t { nx := fun _ H' => Q .non H', rt := Q } (start N vs) H) : FnOk P w K mg base (CXe P w) (k + 1) f fd ps sp := by
  obtain ⟨oc, od, kV, doc, pm, an, cdv, ct, osl, rfl, lk, hcd⟩ := F.ex
  exact fn_of lk hcd S len fun A outer s H vs Q E hr hsp => hbody cdv A outer s H vs Q E hr hsp
end X8


set_option maxRecDepth 100000
set_option linter.all false
set_option maxHeartbeats 4000000
set_option Elab.async false
namespace X8
open PySem PySem.Spec PyProof.Rows L2

/-! ### a name goes -/
section
variable {X : Cx} {pins : List (Addr × Obj)} {σ : St} {H : Hp} {s : Shared}

/-- what is tracked is forgotten -/
theorem Inv.forget {a : Addr} {φ : Heap → Prop} {H' : Hp} (I : Inv X pins σ H s) (ha : H a = some (.ext φ)) (h1 : ∀ b, b ≠ a → H' b = H b) (h2 : H' a = none) : Inv X pins σ H' s := by
  have ne : ∀ b o, H b = some o → (∀ ψ, o ≠ .ext ψ) → b ≠ a := fun b o e n z => by subst z; rw [ha] at e; cases e; exact n _ rfl
  have hok : HOk X.prog X.w H' s.heap := fun b o e => by
    have hb : b ≠ a := fun z => by rw [z, h2] at e; cases e
    rw [h1 b hb] at e
    exact (I.hok b o e).stay (fun _ _ _ q => q) (fun c q => by rw [h1 c (ne c _ q (fun _ z => by cases z))]; exact q) fun c xs q => by rw [h1 c (ne c _ q (fun _ z => by cases z))]; exact q
  refine I.call' (s' := s) (ch := []) rfl ⟨fun b o q n _ _ => q, fun b o q n _ _ => ⟨o.slots, q⟩, fun b o q n _ => ?_, fun b o q _ => ⟨o, q⟩, fun b xs q => ?_, fun b o u q => ?_, fun b ps q => ⟨#[], ?_⟩⟩ hok I.bare fun b z => absurd z (by simp)
  · by_cases hb : b = a
    · rw [hb]; exact h2
    · rw [h1 b hb]; exact n
  · rw [h1 b (ne b _ q (fun _ z => by cases z))]; exact q
  · rw [h1 b (ne b _ q (fun _ z => by cases z))]; exact q
  · rw [h1 b (ne b _ q (fun _ z => by cases z)), q]; simp
/-- an untracked object of ours is tracked from now on -/
theorem Inv.track {a : Addr} {o : HO} (I : Inv X pins σ H s) (fp : FpOk X pins H a) (nex : X.ex = []) (new : ObjOk X.prog X.w (upd H a o) s.heap a o) : Inv X pins σ (upd H a o) s := by
  obtain ⟨f0, f1, f2, f3, f4, f5⟩ := fp
  have nt : ∀ b u, H b = some u → b ≠ a := fun b u e z => by rw [z, f0] at e; cases e
  have hok : HOk X.prog X.w (upd H a o) s.heap := fun b u e => by
    by_cases hb : b = a
    · subst hb; rw [upd_same] at e; cases e; exact new
    · rw [upd_ne hb] at e
      exact (I.hok b u e).stay (fun _ _ _ q => q) (fun c q => by rw [upd_ne (nt c _ q)]; exact q) fun c xs q => by rw [upd_ne (nt c _ q)]; exact q
  have hs0 : X.s₀.heap.objs.size ≤ a := by
    rcases f3 with z | z
    · rw [nex] at z; exact absurd z (by simp)
    · exact z
  have nb : ∀ b ob, X.s₀.heap.get? b = some ob → b ≠ a := fun b ob e z => absurd (Nat.lt_of_lt_of_le (Heap.lt_size e) (by rw [z]; exact hs0)) (Nat.lt_irrefl _)
  refine ⟨I.ok, I.os, I.bare, ⟨I.base.keep, I.base.slot, fun b ob e n hx => ?_, I.base.there, fun b xs e => ?_, fun b ob u e => ?_, fun b ps e => ?_⟩, I.loc, I.cell, ?_, fun x c e => ?_, fun p hp => ?_, hok, I.len⟩
  · rw [upd_ne (nb b ob e)]; exact I.base.free b ob e n hx
  · have q := I.base.tups b xs e
    rw [upd_ne (nt b _ q)]; exact q
  · have q := I.base.frzs b ob u e
    rw [upd_ne (nt b _ q)]; exact q
  · obtain ⟨more, q⟩ := I.base.tbls b ps e
    exact ⟨more, by rw [upd_ne (nt b _ q)]; exact q⟩
  · rw [upd_ne (Ne.symm f1)]; exact I.free
  · rw [upd_ne (f4 x c e)]; exact I.freeC x c e
  · obtain ⟨e, n, r⟩ := I.pin p hp
    exact ⟨e, by rw [upd_ne (f5 p hp)]; exact n, r⟩
end

/-! ### an exception as a tracked thing -/
def XRaw (e C : Addr) : HO := .ext fun h => ∃ t, h.get? e = some (rawExc C t none)
def XDct (e C dx : Addr) : HO := .ext fun h => ∃ t, h.get? e = some (rawExc C t (some dx))
/-- behind a catch -/
def XGot (e C dx : Addr) : HO := .ext fun h => ∃ oe vs, h.get? e = some oe ∧ oe.cls = .ref C ∧ oe.dict = some dx ∧ oe.data = .fields vs
section
variable {P : Program} {w : World} {H : Hp} {h : Heap}
theorem raw_ok {e C t : Addr} (q : h.get? e = some (rawExc C t none)) : ObjOk P w H h e (XRaw e C) := ⟨⟨t, q⟩, ⟨_, q⟩, fun h1 h2 ⟨t, z⟩ k => ⟨t, k _ z⟩⟩
theorem dct_ok {e C dx t : Addr} (q : h.get? e = some (rawExc C t (some dx))) : ObjOk P w H h e (XDct e C dx) := ⟨⟨t, q⟩, ⟨_, q⟩, fun h1 h2 ⟨t, z⟩ k => ⟨t, k _ z⟩⟩
end

end X8


set_option maxRecDepth 100000
set_option linter.all false
set_option maxHeartbeats 4000000
set_option Elab.async false
namespace X8
open PySem PySem.Spec PyProof.Rows L2

section
variable {X : Cx} {o value a : Expr} {es : List Expr} {f x : Str} {ta tv : TE} {t : TA} {pos pos' apos p np cpos : Pos}
def sXfld (K : PySem.W.Frag) (ta tv : TE) (f : Str) : TS := fun D σ H => tv σ H fun y H1 => ta σ H1 fun x H2 => ∃ e C S, x = .ref e ∧ H2 e = some (XRaw e C) ∧ XCls K C S ∧ PySem.W.findIn K (.ref C) f = some none ∧
  ∀ dx, H2 dx = none → dx ≠ e → D.nx σ (upd (upd H2 dx (.xd [(f, y)])) e (XDct e C dx))
theorem ps_xfld (ha : PE X o ta) (hv : PE X value tv) (hs : swapsWith value (some (.Attribute o f pos')) pos.line X.env = pure false) : PS X (.Assign [.Attribute o f pos'] value pos) (sXfld X.K ta tv f) := by
  intro pins s σ H D I h
  refine plainObj_wpAny_Assign_Attribute (thn (hv pins s σ H _ I h) fun u s1 ⟨y, H1, I1, ry, q⟩ => thn (ha pins s1 σ H1 _ I1 q) fun ov s2 ⟨x, H2, I2, rx, e, C, S, ex, ea, c, n, q2⟩ => ?_) hs
  subst ex
  obtain rfl : ov = Value.ref e := rx
  obtain ⟨⟨t0, ge⟩, _⟩ := (show ObjOk X.prog X.w H2 s2.heap e (XRaw e C) from I2.hok e _ ea)
  have nd : H2 s2.heap.objs.size = none := I2.hok.fresh (Nat.le_refl _)
  have ne : s2.heap.objs.size ≠ e := Nat.ne_of_gt (Heap.lt_size ge)
  refine xset I2.kIn ge c n fun h' tk g1 g2 g3 => ⟨σ, _, ?_, q2 s2.heap.objs.size nd ne⟩
  have nt : ∀ b u, H2 b = some u → b ≠ s2.heap.objs.size := fun b u z => ne_of_none z nd
  have ot : ∀ b u, H2 b = some u → (∀ ψ, u ≠ .ext ψ) → b ≠ e := fun b u z k w => by subst w; rw [ea] at z; cases z; exact k _ rfl
  have hE : ∀ b, b ≠ e → b ≠ s2.heap.objs.size → (upd (upd H2 s2.heap.objs.size (.xd [(f, y)])) e (XDct e C s2.heap.objs.size)) b = H2 b := fun b h1 h2 => by rw [upd_ne h1, upd_ne h2]
  refine I2.un (h' := h') (t' := tk) ⟨fun b ob z k _ _ => g3 b ob (fun w => by subst w; rw [ea] at k; cases k) z, fun b ob z k _ _ => ⟨ob.slots, g3 b ob (fun w => by subst w; rw [ea] at k; cases k) z⟩, fun b ob z k _ => ?_, fun b ob z _ => ?_, fun b xs z => ?_, fun b ob u z => ?_, fun b ps z => ⟨#[], ?_⟩⟩ fun b u z => ?_
  · rw [hE b (fun w => by subst w; rw [ea] at k; cases k) (Nat.ne_of_lt (Heap.lt_size z))]; exact k
  · by_cases w : b = e
    · subst w; exact ⟨_, g1⟩
    · exact ⟨ob, g3 b ob w z⟩
  · rw [hE b (ot b _ z (fun _ w => by cases w)) (nt b _ z)]; exact z
  · rw [hE b (ot b _ z (fun _ w => by cases w)) (nt b _ z)]; exact z
  · rw [hE b (ot b _ z (fun _ w => by cases w)) (nt b _ z), z]; simp
  · by_cases w : b = e
    · subst w; rw [upd_same] at z; cases z; exact dct_ok g1
    · rw [upd_ne w] at z
      by_cases w2 : b = s2.heap.objs.size
      · subst w2; rw [upd_same] at z; cases z
        refine ⟨_, g2, fun g => ?_⟩
        show RelO (([(f, y)] : List (Str × V)).lookup g) (if g = f then some u else none)
        rw [List.lookup_cons]
        by_cases w3 : g = f
        · rw [if_pos w3, beq_iff_eq.mpr w3]; exact ry
        · rw [if_neg w3, beq_eq_false_iff_ne.mpr w3]; exact trivial
      · rw [upd_ne w2] at z
        refine (I2.hok b u z).stay (fun d r hd q => g3 d r (fun w3 => ?_) q) (fun d q => ?_) fun d xs q => ?_
        · subst w3
          rcases hd with rfl | hd
          · exact w rfl
          · rw [ea] at hd; cases hd
        · rw [hE d (ot d _ q (fun _ w => by cases w)) (nt d _ q)]; exact q
        · rw [hE d (ot d _ q (fun _ w => by cases w)) (nt d _ q)]; exact q

/-- S.__init__(self, text), S the base of all refusals -/
def tXBase (K : PySem.W.Frag) (t : TA) : TE := fun σ H Q => t σ H fun vs H1 => ∃ e C S y, vs = [.ref e, y] ∧ H1 e = some (XRaw e C) ∧ XCls K C S ∧ Q .non (upd H1 e (XRaw e C))
theorem pe_xbase {S : Addr} {pl : Sem Bool} (hg : Gl X x) (hm : X.mg x = some (.ref S)) (b : XBase X.K S) (ha : PA X (a :: es) t) (hdb : (x == ("__debug__" : Str)) = false := by decide)
    (hst : starEach (a :: es) X.env = (false, eval a X.env) :: starEach es X.env := by rfl) (hpl : (backTo pos (starEach es X.env)).any (·.1) = false := by rfl)
    (ht : eval (.Call (.Attribute (.Name x p) "__init__" apos) (a :: es) [] pos) X.env = (do
      let ov ← eval (.Name x p) X.env
      standAt apos.atName
      let (f, first) ← holding [ov] (getMethod ov "__init__" pl)
      callWith pos f first (backTo pos (starEach (a :: es) X.env)) (backToKw pos (keywordEach [] X.env))) := by rfl) :
    PE X (.Call (.Attribute (.Name x p) "__init__" apos) (a :: es) [] pos) (tXBase X.K t) := by
  intro pins s σ H Q I h
  refine PySem.W.methodCall_KW (pl := pl) (ld_glob I hg hm ?_ hdb) ht
  refine PySem.W.method_cls I.kIn b.ga (PySem.W.cls_value I.kIn b.rd b.it (by decide +kernel) ?_)
  refine PyProof.Rows.callWith_builtin1 (thn (ha pos pins _ σ H _ (I.tok (s.toks + 1)) h) fun us s1 ⟨vs, H1, I1, r1, q1⟩ => ?_) hst hpl
  obtain ⟨e, C, S', y, rfl, ea, c, q⟩ := q1
  obtain ⟨⟨t0, ge⟩, _⟩ := (show ObjOk X.prog X.w H1 s1.heap e (XRaw e C) from I1.hok e _ ea)
  obtain ⟨u, v, rfl, ru, rv⟩ := Vals.two r1
  obtain rfl : u = Value.ref e := ru
  obtain ⟨hh, g, d, tk, os⟩ := s1
  obtain ⟨nm, qn, N, bs, sn, sub, ab, col, dd, k0, k1, k2, k3, k5, ec⟩ := c.obj
  refine xinit (I1.kIn C _ ec) rfl ge ⟨.non, _, ?_, rfl, q⟩
  have e1 : (hh.push (rawTup [v])).get? e = some (rawExc C t0 none) := Heap.get?_push_of_some _ ge
  have I2 : Inv X pins σ H1 ⟨hh.push (rawTup [v]), g, d, tk, os⟩ := I1.kept (t' := tk) fun b u z => Heap.get?_push_of_some _ z
  have e2 : ((hh.push (rawTup [v])).update e (Obj.mapFields (·.setIfInBounds 0 (.ref hh.objs.size)))).get? e = some (rawExc C hh.objs.size none) := Heap.get?_update_self _ e1 rfl
  exact I2.write (x := e) (e := e) (o := XRaw e C) (t' := tk) (by rw [ea]; exact trivial) (.inl rfl) (fun b u hb z => (Heap.get?_update_other _ _ (Ne.symm hb)).trans z) ⟨_, e2⟩ (raw_ok e2)

/-- what a class of refusals promises of its __init__ -/
def spXInit (C : Addr) (f : Str) : Sp := fun vs H Q _ => ∃ e y, vs = [.ref e, y] ∧ H e = some (XRaw e C) ∧ ∀ dx, H dx = none → dx ≠ e → Q .non (upd (upd H dx (.xd [(f, y)])) e (XDct e C dx))

/-- raise C(a) -/
theorem ps_raise {C S fI : Addr} {fd : FuncData} {k : Nat} {q : Str} {E : St → XK} (c : XCls X.K C S) (hi : PySem.W.findIn X.K (.ref C) "__init__" = some (some (.ref fI))) (hf : PySem.W.isFn X.K (.ref fI) = true)
    (F : FnOk X.prog X.w X.K X.mg X.base CX0 k fI fd ["self", q] (spXInit C f)) (hr : Room (k + 1) X.A) (hg : Gl X x) (hm : X.mg x = some (.ref C)) (hb : Binds X.K fd ["self", q] []) (hc : Catches X E) (ha : PE X a ta)
    (hh : X.calm = true) (hdb : (x == ("__debug__" : Str)) = false := by decide) (he : starEach [a] X.env = (false, eval a X.env) :: starEach [] X.env := by rfl) :
    PS X (.Raise (some (.Call (.Name x np) [a] [] cpos)) none pos) (fun _ σ H => ta σ H fun y H1 => ∀ dx, H1 dx = none → E σ (.ref C) (some dx) (upd H1 dx (.xd [(f, y)]))) := by
  intro pins s σ H D I h
  rw [arm_exec_Raise]
  refine wpAny_bind (wpAny_standAt ?_)
  show wpAny _ _ (raiseStmt X.env (some (do let v ← eval (.Call (.Name x np) [a] [] cpos) X.env; standAt pos; pure v)) none) _ _ _
  unfold raiseStmt
  obtain ⟨nm, qn, N, bs, sn, sub, ab, col, dd, k0, k1, k2, k3, k5, ec⟩ := c.obj
  have made : wpAny (model X.prog X.w) X.A (eval (.Call (.Name x np) [a] [] cpos) X.env) (fun v s1 => ∃ e dx t y H1, v = .ref e ∧ Inv X pins σ (upd H1 dx (.xd [(f, y)])) s1 ∧ s1.heap.get? e = some (rawExc C t (some dx)) ∧
      FpOk X pins (upd H1 dx (.xd [(f, y)])) e ∧ E σ (.ref C) (some dx) (upd H1 dx (.xd [(f, y)]))) X.xe s := by
    refine wpAny_Call_Name_kw (ld_glob I hg hm ?_ hdb)
    refine PySem.W.callWith_K (h₀ := X.base) I.ok.mod.kin c.kp (thn ((pa_cons ha pa_nil he) cpos pins s σ H (fun vs H1 => match vs with | [y] => ∀ dx, H1 dx = none → E σ (.ref C) (some dx) (upd H1 dx (.xd [(f, y)])) | _ => False) I h) fun us s1 ⟨vs, H1, I1, r, q1⟩ => ⟨I1.kIn, ?_⟩) he rfl
    match vs, r, q1 with
    | [y], r, q1 =>
      obtain ⟨gh, g, d, tk, os⟩ := s1
      have hC := I1.kIn C _ ec
      have e0 : H1 (gh.objs.size + 1) = none := I1.hok.fresh (Nat.le_succ _)
      have ge : ((gh.push (rawTup us)).push (rawExc C gh.objs.size none)).get? (gh.objs.size + 1) = some (rawExc C gh.objs.size none) := by heap_get
      have I2 : Inv X pins σ (upd H1 (gh.objs.size + 1) (XRaw (gh.objs.size + 1) C)) ⟨(gh.push (rawTup us)).push (rawExc C gh.objs.size none), g, d, tk, os⟩ :=
        (I1.kept (h' := gh.push (rawTup us)) (t' := tk) fun b u z => Heap.get?_push_of_some _ z).laid (t' := tk) (fun b u z => Heap.get?_push_of_some _ z) (by show (gh.push _).objs.size ≤ _; rw [Heap.size_push]; exact Nat.le_refl _) (raw_ok ge)
      have lu : us.length = 1 := by rw [← r.length]; rfl
      have hl : ((Value.ref (gh.objs.size + 1) :: us) ++ []).length = (["self", q] : List Str).length := by simp [lu]
      have bd := hb ⟨(gh.push (rawTup us)).push (rawExc C gh.objs.size none), g, d, tk, os⟩ (Value.ref (gh.objs.size + 1) :: us) I2.kIn hl
      rw [List.append_nil] at bd
      show wpAny (model X.prog X.w) X.A (call (.ref C) us) _ _ _
      refine xcall I1.kIn hC rfl rfl rfl (by rw [lu, sizeLine_eq]; decide) hi (beq_iff_eq.mp hf) (wpAny_call (codeAny_mono (F.run _ X.stack _ (upd H1 (gh.objs.size + 1) (XRaw (gh.objs.size + 1) C)) ⟨Value.ref (gh.objs.size + 1) :: us, []⟩ (Value.ref (gh.objs.size + 1) :: us) [.ref (gh.objs.size + 1), y]
        (fun v H' => v = .non ∧ ∃ dx, H1 dx = none ∧ dx ≠ gh.objs.size + 1 ∧ H' = upd (upd (upd H1 (gh.objs.size + 1) (XRaw (gh.objs.size + 1) C)) dx (.xd [(f, y)])) (gh.objs.size + 1) (XDct (gh.objs.size + 1) C dx)) E0
        (hr.make C us []) (I2.env0.make C us []) bd (.cons rfl r) ⟨_, y, rfl, upd_same, fun dx nd ne => ⟨rfl, dx, by rw [upd_ne ne] at nd; exact nd, ne, rfl⟩⟩) fun rr s' hq' => ?_))
      cases rr with
      | error e => exact False.elim hq'
      | ok fl =>
        cases fl with
        | next => exact False.elim hq'
        | brk => exact False.elim hq'
        | cont => exact False.elim hq'
        | ret u =>
          obtain ⟨v, H', I3, rv, ev, dx, nd, ne, eH⟩ := I2.after hq'
          subst ev eH
          refine ⟨rv, gh.objs.size + 1, dx, ?_⟩
          obtain ⟨⟨t, g3⟩, _⟩ := (show ObjOk X.prog X.w _ s'.heap (gh.objs.size + 1) (XDct (gh.objs.size + 1) C dx) from I3.hok (gh.objs.size + 1) _ upd_same)
          have n2 : (upd H1 dx (HO.xd [(f, y)])) (gh.objs.size + 1) = none := by rw [upd_ne (Ne.symm ne)]; exact e0
          refine ⟨t, y, H1, rfl, Inv.forget (φ := fun h => ∃ t, h.get? (gh.objs.size + 1) = some (rawExc C t (some dx))) I3 upd_same (fun b hb => ?_) n2, g3, I1.fpOk (Nat.le_succ _) n2, q1 dx nd⟩
          rw [upd_ne hb]
          by_cases z : b = dx
          · subst z; rw [upd_same, upd_same]
          · rw [upd_ne z, upd_ne z, upd_ne hb]
  refine wpAny_bind (wpAny_bind (wpAny_mono made (fun v s1 hv => wpAny_bind (wpAny_standAt (wpAny_pure ?_))) fun _ _ z => z))
  obtain ⟨e, dx, t, y, H1, rfl, I1, ge, fp, q1⟩ := hv
  have hC := I1.kIn C _ ec
  have xa : XAt s1.heap e (.ref C) (some dx) none := ⟨_, _, .none, ge, rfl, rfl, rfl, rfl, rfl⟩
  have fin := hc pins σ _ s1 e _ _ none I1 xa (.inl rfl) fp q1
  have hcB : (Value.ref C :: Value.ref S :: V4).contains (.type "BaseException") = true := rfl
  obtain ⟨hp, g, d, tk, os⟩ := s1
  repeat (first | with_reducible refine wpAny_loadPart_at ge ?_ | with_reducible refine wpAny_loadPart_at hC ?_ | (with_reducible refine wpAny_isSubtype_exc hC ?_; rw [hcB]) | wp_step)
  exact wpAny_raiseNew_none (I.ok.hd hh) fin
end
end X8


set_option maxRecDepth 100000
set_option linter.all false
set_option maxHeartbeats 4000000
set_option Elab.async false
namespace X8
open PySem PySem.Spec PyProof.Rows L2

/-! ### other wishes, other pins -/
abbrev Cx.alt (X : Cx) (pn : List (Addr × Obj)) (xe : Value → Shared → Prop) : Cx := { X with pn := pn, xe := xe }
abbrev Cx.in (X : Cx) (e : Addr) (xe : Value → Shared → Prop) : Cx := { X with A := X.A.mark (some (.ref e)), calm := false, xe := xe }
section
variable {X : Cx} {pins pins' pn : List (Addr × Obj)} {σ : St} {H : Hp} {s : Shared} {xe : Value → Shared → Prop}
theorem okAlt (ok : X.Ok) : (Cx.alt X pn xe).Ok := ⟨ok.mod, ok.kind, ok.glob, ok.blt, ok.above, ok.inj, ok.has, ok.cab, ok.hd, ok.frames, ok.stk, ok.exf, ok.bs, ok.bsz, ok.noex, ok.exfs, ok.funs, ok.frf⟩
theorem okUnalt (ok : (Cx.alt X pn xe).Ok) : X.Ok := ⟨ok.mod, ok.kind, ok.glob, ok.blt, ok.above, ok.inj, ok.has, ok.cab, ok.hd, ok.frames, ok.stk, ok.exf, ok.bs, ok.bsz, ok.noex, ok.exfs, ok.funs, ok.frf⟩
theorem okIn {e : Addr} (ok : X.Ok) : (Cx.in X e xe).Ok := ⟨ok.mod, ok.kind, ok.glob, ok.blt, ok.above, ok.inj, ok.has, ok.cab, (fun z => nomatch z), ok.frames, ok.stk, ok.exf, ok.bs, ok.bsz, ok.noex, ok.exfs, ok.funs, ok.frf⟩
theorem invAlt (I : Inv X pins σ H s) : Inv (Cx.alt X (X.pn ++ pins) xe) [] σ H s := ⟨okAlt I.ok, I.os, I.bare, I.base, I.loc, I.cell, I.free, I.freeC, fun p hp => I.pin p (by simpa using hp), I.hok, I.len⟩
theorem invUnalt (I : Inv (Cx.alt X (X.pn ++ pins) xe) pins' σ H s) : Inv X pins σ H s := ⟨okUnalt I.ok, I.os, I.bare, I.base, I.loc, I.cell, I.free, I.freeC, fun p hp => I.pin p (List.mem_append_left _ hp), I.hok, I.len⟩
theorem invIn {e : Addr} (I : Inv X pins σ H s) : Inv (Cx.in X e xe) pins σ H s := ⟨okIn I.ok, I.os, I.bare, I.base, I.loc, I.cell, I.free, I.freeC, I.pin, I.hok, I.len⟩
theorem invOut {e : Addr} (ok0 : X.Ok) (I : Inv (Cx.in X e xe) pins σ H s) : Inv X pins σ H s := ⟨ok0, I.os, I.bare, I.base, I.loc, I.cell, I.free, I.freeC, I.pin, I.hok, I.len⟩
theorem fpUnalt {b : Addr} (f : FpOk (Cx.alt X (X.pn ++ pins) xe) pins' H b) : FpOk X pins H b := ⟨f.1, f.2.1, f.2.2.1, f.2.2.2.1, f.2.2.2.2.1, fun p hp => f.2.2.2.2.2 p (List.mem_append_left _ hp)⟩
end

section
variable {X : Cx} {x n : Str} {np hpos pos : Pos} {body suite : List Stmt} {b0 : Stmt} {i : Nat} {S : Addr} {tb : (St → XK) → TS} {ts : TS}
/-- what a clause wants of a refusal -/
def hWant (K : PySem.W.Frag) (S : Addr) (i : Nat) (ts : TS) (D : Ends) : St → XK := fun σ cls dx H => ∃ C d, cls = .ref C ∧ dx = some d ∧ XCls K C S ∧
  ∀ e, H e = none → ts { nx := fun σ2 H2 => D.nx (σ2.set i none) H2, rt := D.rt, bk := fun σ2 H2 => D.bk (σ2.set i none) H2, ct := fun σ2 H2 => D.ct (σ2.set i none) H2 } (σ.set i (some (.ref e))) (upd H e (XGot e C d))
end

/-! ### a call that may refuse, with the frame's values in the wish -/
section
variable {X : Cx} {k : Nat} {f C : Addr} {fd : FuncData} {ps : List Str} {sp : Sp} {dvs : List V} {ds : List Value} {E : St → XK} {x : Str} {p pos : Pos} {e : Expr} {es : List Expr} {t : TA}
def tCallX (sp : Sp) (dvs : List V) (E : St → XK) (t : TA) : TE := fun σ H Q => t σ H fun vs H1 => sp (vs ++ dvs) H1 Q (E σ)
theorem pe_callX (F : FnOk X.prog X.w X.K X.mg X.base (CXe X.prog X.w) k f fd ps sp) (hr : Room k X.A) (hg : Gl X x) (hm : X.mg x = some (.ref f)) (hk : PySem.W.keepIn X.K (.ref f) = true) (hb : Binds X.K fd ps ds) (hd : Vals dvs ds) (hc : Catches X E)
    (ha : PA X (e :: es) t) (hdb : (x == ("__debug__" : Str)) = false := by decide) (he : starEach (e :: es) X.env = (false, eval e X.env) :: starEach es X.env := by rfl) (hpl : (backTo pos (starEach es X.env)).any (·.1) = false := by rfl) :
    PE X (.Call (.Name x p) (e :: es) [] pos) (tCallX sp dvs E t) := by
  intro pins s σ H Q I h
  refine wpAny_Call_Name_kw (ld_glob I hg hm ?_ hdb)
  refine PySem.W.callWith_K (h₀ := X.base) I.ok.mod.kin hk (thn (ha pos pins s σ H _ I h) fun us s1 ⟨vs, H1, I1, r, q⟩ => ⟨I1.kIn, ?_⟩) he hpl
  have r2 : Vals (vs ++ dvs) (us ++ ds) := r.append hd
  have hl : (us ++ ds).length = ps.length := by rw [← r2.length]; exact F.len _ _ _ _ q
  refine wpAny_call (codeAny_mono (F.run X.A X.stack s1 H1 ⟨us, []⟩ (us ++ ds) (vs ++ dvs) Q (E σ) hr I1.env0 (hb s1 us I1.kIn hl) r2 q) fun r s' hq => ?_)
  cases r with
  | error ev =>
    obtain ⟨a, T, cls, dx, H', rfl, ho, bare, un, hok, se, sT, ne, nT, xa, q'⟩ := hq
    have I' := I1.call' ho un hok bare (fun b z => absurd z (by simp))
    exact hc pins σ H' s' a cls dx _ I' xa (.inr ⟨T, rfl, I1.fpOk sT nT⟩) (I1.fpOk se ne) q'
  | ok fl =>
    cases fl with
    | ret u => exact I1.after hq
    | next => exact False.elim hq
    | brk => exact False.elim hq
    | cont => exact False.elim hq
end

/-! ### what is asked of a caught refusal -/
section
variable {X : Cx} {pins : List (Addr × Obj)} {σ : St} {H : Hp} {s : Shared} {e C S d : Addr} {fs : List (Str × V)}
def tXAt (K : PySem.W.Frag) (ta : TE) (f : Str) : TE := fun σ H Q => ta σ H fun x H1 => ∃ (e C S d : Addr) (fs : List (Str × V)) (y : V), x = .ref e ∧ H1 e = some (XGot e C d) ∧ H1 d = some (.xd fs) ∧ XCls K C S ∧ PySem.W.findIn K (.ref C) f = some none ∧ fs.lookup f = some y ∧ Q y H1
end
end X8


set_option maxRecDepth 100000
set_option linter.all false
set_option maxHeartbeats 4000000
set_option Elab.async false
namespace L6
open PySem PySem.Spec PyProof.Rows L2 L3 X8
/-! ### a def of the text under its global name -/
abbrev Fn (x q : Str) (st : Stmt) (dV kV dc pm : Value) (an : Option Addr) (cd ct : Value) : FuncData := PySem.W.fnOf x q (defArgs st) (defBody st) (defScope st) dV kV dc pm an cd ct
def Th (K : PySem.W.Frag) (mg : Str → Option Value) (x : Str) (st : Stmt) : Prop := ∃ f fd, L2.Fun K x x st f fd ∧ mg x = some (.ref f)
theorem th_mk {K : PySem.W.Frag} {h : Heap} {mg : Str → Option Value} {x : Str} {st : Stmt} {f : Addr} {oc kV dc pm cd ct : Value} {od an : Option Addr} {sl : Array (Option Value)} (X : K.In h) (G : h.Ns mainGlobals mg)
    (a : PySem.W.nsIn K mainGlobals x = some (some (.ref f))) (l : K.lookup f = some ⟨oc, od, .func (Fn x x st .none kV dc pm an cd ct), sl⟩) (c : PySem.W.codeIn K cd x = true) (k : PySem.W.keepIn K (.ref f) = true) : Th K mg x st :=
  ⟨f, _, fun_mk (st := st) l c k, PySem.W.mg_of X G a⟩
/-- a def with one default that is a number -/
def ThD (K : PySem.W.Frag) (mg : Str → Option Value) (x : Str) (st : Stmt) (p q : Str) (d : Int) : Prop := ∃ f fd tk, L3.FunD K x x st f fd ∧ mg x = some (.ref f) ∧ Binds K fd [p, q] [] ∧ Binds K fd [p, q] [.int d tk]
theorem thD_mk {K : PySem.W.Frag} {h : Heap} {mg : Str → Option Value} {x : Str} {st : Stmt} {f Td : Addr} {oc kV dc pm cd ct dV : Value} {od an : Option Addr} {sl : Array (Option Value)} {oTd : Obj} {ntd : Nat} {tk : Tok} {p q : Str} {d : Int} (X : K.In h) (G : h.Ns mainGlobals mg)
    (a : PySem.W.nsIn K mainGlobals x = some (some (.ref f))) (l : K.lookup f = some ⟨oc, od, .func (Fn x x st dV kV dc pm an cd ct), sl⟩) (c : PySem.W.codeIn K cd x = true) (k : PySem.W.keepIn K (.ref f) = true)
    (hTd : (Fn x x st dV kV dc pm an cd ct).defaults = .ref Td) (oT : K.lookup Td = some oTd) (dT : oTd.data = .seq #[.int d tk] ntd)
    (b2 : ∀ (s : Shared) (u v : Value), K.In s.heap → BindsTo s (Fn x x st dV kV dc pm an cd ct) ⟨[u, v], []⟩ [(p, u), (q, v)])
    (b1 : ∀ (s : Shared) (u : Value), K.In s.heap → BindsTo s (Fn x x st dV kV dc pm an cd ct) ⟨[u], []⟩ [(p, u), (q, .int d tk)]) : ThD K mg x st p q d :=
  ⟨f, _, tk, ⟨⟨_, _, _, _, _, _, _, _, _, _, rfl, l, c⟩, k⟩, PySem.W.mg_of X G a, fun s us Xs hl => match us, hl with | [u, v], _ => b2 s u v Xs, fun s us Xs hl => by
    obtain ⟨u, rfl⟩ : ∃ u, us = [u] := by
      cases us with
      | nil => simp at hl
      | cons a t =>
        cases t with
        | nil => exact ⟨a, rfl⟩
        | cons b r => simp at hl
    exact b1 s u Xs⟩
/-! ### the refusals' classes -/
structure XB (K : PySem.W.Frag) (mg : Str → Option Value) (S : Addr) : Prop where
  m : mg "ScrupleError" = some (.ref S)
  b : XBase K S
theorem xb_mk2 {K : PySem.W.Frag} {h : Heap} {mg : Str → Option Value} {S NS : Addr} {nm q : Str} {bs sub : List Value} {sn : List Str} {ab : Bool} {col : Option Bool} {dd : Option Addr} {k0 k1 k2 k3 k5 : Option Value} (X : K.In h) (G : h.Ns mainGlobals mg)
    (a : PySem.W.nsIn K mainGlobals "ScrupleError" = some (some (.ref S))) (o : K.lookup S = some (excClassObj nm q S NS bs V4 true sn sub ab col dd k0 k1 k2 k3 k5 "ValueError.__new__"))
    (sg : PySem.W.specialIn K (.ref S) "__getattribute__" = some (some (.builtin "type.__getattribute__"))) (sr : PySem.W.readsIn K S (.type "type") = true)
    (si : PySem.W.findCls K (.ref S) (.type "type") "__init__" = some (.val (.builtin "ValueError.__init__"))) : ∃ S, XB K mg S ∧ PySem.W.nsIn K mainGlobals "ScrupleError" = some (some (.ref S)) :=
  ⟨S, ⟨PySem.W.mg_of X G a, ⟨⟨_, _, _, _, _, _, _, _, _, _, _, _, _, _, o⟩, sg, sr, si⟩⟩, a⟩
/-- a refusal with a field -/
structure XC (K : PySem.W.Frag) (mg : Str → Option Value) (S : Addr) (x fld q : Str) (st : Stmt) (C : Addr) : Prop where
  m : mg x = some (.ref C)
  c : XCls K C S
  na : PySem.W.findIn K (.ref C) fld = some none
  i : ∃ f fd, PySem.W.findIn K (.ref C) "__init__" = some (some (.ref f)) ∧ PySem.W.isFn K (.ref f) = true ∧ L2.Fun K "__init__" q st f fd
theorem xc_mk2 {K : PySem.W.Frag} {h : Heap} {mg : Str → Option Value} {S S' C f NC : Addr} {x fld qq : Str} {st : Stmt} {nm q : Str} {bs sub : List Value} {sn : List Str} {ab : Bool} {col : Option Bool} {dd od an : Option Addr} {k0 k1 k2 k3 k5 : Option Value}
    {oc kV dc pm cd ct : Value} {sl : Array (Option Value)} (X : K.In h) (G : h.Ns mainGlobals mg) (aS : PySem.W.nsIn K mainGlobals "ScrupleError" = some (some (.ref S)))
    (a0 : PySem.W.nsIn K mainGlobals "ScrupleError" = some (some (.ref S')))
    (a : PySem.W.nsIn K mainGlobals x = some (some (.ref C)))
    (oC : K.lookup C = some (excClassObj nm q C NC bs (.ref S' :: V4) true sn sub ab col dd k0 k1 k2 k3 k5 "ValueError.__new__"))
    (cga : PySem.W.findIn K (.ref C) "__getattribute__" = some (some (.builtin "BaseException.__getattribute__")))
    (cgh : PySem.W.findIn K (.ref C) "__getattr__" = some none)
    (csa : PySem.W.findIn K (.ref C) "__setattr__" = some (some (.builtin "object.__setattr__")))
    (ckc : PySem.W.findIn K (.ref C) "__class__" = some (some (.builtin "object.__class__")))
    (ckg : PySem.W.specialIn K (.builtin "object.__class__") "__get__" = some (some (.builtin "getset_descriptor.__get__")))
    (ckt : PySem.W.takesIn K (.builtin "object.__class__") = some true)
    (ckp : PySem.W.keepIn K (.ref C) = true)
    (na : PySem.W.findIn K (.ref C) fld = some none)
    (ai : PySem.W.findIn K (.ref C) "__init__" = some (some (.ref f)))
    (iI : PySem.W.isFn K (.ref f) = true)
    (lI : K.lookup f = some ⟨oc, od, .func (Fn "__init__" qq st .none kV dc pm an cd ct), sl⟩)
    (cI : PySem.W.codeIn K cd qq = true)
    (kI : PySem.W.keepIn K (.ref f) = true) : ∃ C, XC K mg S x fld qq st C := by
  have e : S' = S := by
    have z := a0.symm.trans aS
    injection z with z
    injection z with z
    injection z
  subst e
  exact ⟨C, PySem.W.mg_of X G a, ⟨⟨_, _, _, _, _, _, _, _, _, _, _, _, _, _, oC⟩, cga, cgh, csa, ckc, ckg, ckt, ckp⟩, na, f, _, ai, iI, fun_mk (st := st) lI cI kI⟩
/-! ### no kin -/
/-- the class at x is none of those -/
def NoKin (K : PySem.W.Frag) (mg : Str → Option Value) (C : Addr) (x : Str) : Prop := ∃ c, mg x = some (.ref c) ∧ PySem.W.kitOne K (.ref C) (.ref c) = some false
/-! ### a def with its promise -/
def Def (P : Program) (w : World) (K : PySem.W.Frag) (mg : Str → Option Value) (base : Heap) (CX : CXT) (k : Nat) (x : Str) (ps : List Str) (sp : Sp) : Prop :=
  ∃ f fd, FnOk P w K mg base CX k f fd ps sp ∧ Binds K fd ps [] ∧ mg x = some (.ref f) ∧ PySem.W.keepIn K (.ref f) = true
section
variable {X : Cx} {CX : CXT} {k : Nat} {ps : List Str} {sp : Sp} {E : XK} {x : Str} {p pos : Pos} {e : Expr} {es : List Expr} {t : TA}
theorem pe_callD (D : Def X.prog X.w X.K X.mg X.base CX k x ps sp) (hr : Room k X.A) (hg : Gl X x) (hx : Passes CX X E)
    (ha : PA X (e :: es) t) (hdb : (x == ("__debug__" : Str)) = false := by decide) (he : starEach (e :: es) X.env = (false, eval e X.env) :: starEach es X.env := by rfl) (hpl : (backTo pos (starEach es X.env)).any (·.1) = false := by rfl) :
    PE X (.Call (.Name x p) (e :: es) [] pos) (tCall sp [] E t) := by
  obtain ⟨f, fd, F, b, m, kp⟩ := D
  exact pe_call F hr hg m kp b .nil hx ha hdb he hpl
end
/-- THE RULE for a def under its name -/
theorem def_of {P : Program} {w : World} {K : PySem.W.Frag} {mg : Str → Option Value} {base : Heap} {x : Str} {st : Stmt} {N ps : List Str} {k : Nat} {sp : Sp} (T : Th K mg x st)
    (hb : ∀ (kV doc pm : Value) (an : Option Addr) (cdv ct : Value) (us : List Value), us.length = ps.length → bindArgs (PySem.W.fnOf x x (defArgs st) (defBody st) (defScope st) .none kV doc pm an cdv ct) ⟨us, []⟩ = pure (ps.zip us))
    (S : FnScope N ps (defScope st)) (len : ∀ vs H Q E, sp vs H Q E → vs.length = ps.length)
    (hbody : ∀ (f : Addr) (cdv : Value) (A : Around) (outer : List Env) (s : Shared) (H : Hp) (vs : List V) (Q : VK) (E : XK), Room k (A.deeper (envOfC x (defScope st) s.heap.objs.size f cdv)) → sp vs H Q E →
      ∃ t, PSs (cxOf CX0 P w K mg base N x (defScope st) f cdv A outer s H E).nox (defBody st) t ∧ t { nx := fun _ H' => Q .non H', rt := Q } (start N vs) H) : Def P w K mg base CX0 (k + 1) x ps sp := by
  obtain ⟨f, fd, F, m⟩ := T
  exact ⟨f, fd, F.ok S len (fun cdv => hbody f cdv), F.binds hb, m, F.kp⟩
/-- .. that may raise -/
theorem def_ofX {P : Program} {w : World} {K : PySem.W.Frag} {mg : Str → Option Value} {base : Heap} {x : Str} {st : Stmt} {N ps : List Str} {k : Nat} {sp : Sp} (T : Th K mg x st)
    (hb : ∀ (kV doc pm : Value) (an : Option Addr) (cdv ct : Value) (us : List Value), us.length = ps.length → bindArgs (PySem.W.fnOf x x (defArgs st) (defBody st) (defScope st) .none kV doc pm an cdv ct) ⟨us, []⟩ = pure (ps.zip us))
    (S : FnScope N ps (defScope st)) (len : ∀ vs H Q E, sp vs H Q E → vs.length = ps.length)
    (hbody : ∀ (f : Addr) (cdv : Value) (A : Around) (outer : List Env) (s : Shared) (H : Hp) (vs : List V) (Q : VK) (E : XK), Room k (A.deeper (envOfC x (defScope st) s.heap.objs.size f cdv)) → sp vs H Q E →
      ∃ t, PSs (cxOf (CXe P w) P w K mg base N x (defScope st) f cdv A outer s H E) (defBody st) t ∧ t { nx := fun _ H' => Q .non H', rt := Q } (start N vs) H) : Def P w K mg base (CXe P w) (k + 1) x ps sp := by
  obtain ⟨f, fd, F, m⟩ := T
  exact ⟨f, fd, Fun.okX F S len (fun cdv => hbody f cdv), F.binds hb, m, F.kp⟩
/-! ### raise -/
structure XR (P : Program) (w : World) (K : PySem.W.Frag) (mg : Str → Option Value) (base : Heap) (S : Addr) (x fld : Str) (C : Addr) : Prop where
  m : mg x = some (.ref C)
  c : XCls K C S
  na : PySem.W.findIn K (.ref C) fld = some none
  i : ∃ f fd q, PySem.W.findIn K (.ref C) "__init__" = some (some (.ref f)) ∧ PySem.W.isFn K (.ref f) = true ∧ FnOk P w K mg base CX0 1 f fd ["self", q] (spXInit C fld) ∧ Binds K fd ["self", q] []
theorem ps_raiseD {X : Cx} {C S : Addr} {f x : Str} {E : L2.St → XK} {a : Expr} {ta : TE} {np cpos pos : Pos} (R : XR X.prog X.w X.K X.mg X.base S x f C) (hr : Room 2 X.A) (hg : Gl X x) (hc : Catches X E) (ha : PE X a ta)
    (hh : X.calm = true) (hdb : (x == ("__debug__" : Str)) = false := by decide) (he : starEach [a] X.env = (false, eval a X.env) :: starEach [] X.env := by rfl) :
    PS X (.Raise (some (.Call (.Name x np) [a] [] cpos)) none pos) (fun _ σ H => ta σ H fun y H1 => ∀ dx, H1 dx = none → E σ (.ref C) (some dx) (upd H1 dx (.xd [(f, y)]))) := by
  obtain ⟨fI, fd, q, hi, hf, F, hb⟩ := R.i
  exact ps_raise R.c hi hf F hr hg R.m hb hc ha hh hdb he
theorem pe_callDX {X : Cx} {k : Nat} {ps : List Str} {sp : Sp} {E : L2.St → XK} {x : Str} {p pos : Pos} {e : Expr} {es : List Expr} {t : TA} (D : Def X.prog X.w X.K X.mg X.base (CXe X.prog X.w) k x ps sp) (hr : Room k X.A) (hg : Gl X x) (hc : Catches X E)
    (ha : PA X (e :: es) t) (hdb : (x == ("__debug__" : Str)) = false := by decide) (he : starEach (e :: es) X.env = (false, eval e X.env) :: starEach es X.env := by rfl) (hpl : (backTo pos (starEach es X.env)).any (·.1) = false := by rfl) :
    PE X (.Call (.Name x p) (e :: es) [] pos) (tCallX sp [] E t) := by
  obtain ⟨f, fd, F, b, m, kp⟩ := D
  exact pe_callX F hr hg m kp b .nil hc ha hdb he hpl
end L6


set_option maxRecDepth 100000
set_option linter.all false
set_option maxHeartbeats 4000000
set_option Elab.async false
namespace PySem
namespace F
theorem L5_owner_rev : Manifest.owners.lookup (String.ofList ['d', 'e', 's', 'r', 'e', 'v', 'e', 'r'].reverse) = some Manifest.sig_reversed := by kernel_rfl
theorem L5_slot_rev_next : Slot "reversed" "__next__" "reversed.__next__" :=
  .of (owner := "reversed") (n := "__next__") (by rw [typeLookup_type, builtinLookup_eq_fast]; kernel_rfl) (by decide +kernel) (by decide +kernel) (by decide +kernel)
    (by first | exact .inl (by decide +kernel) | exact .inr (by decide +kernel)) (by rw [isSubtype_type]; kernel_rfl)
theorem L5_entry_rev_next : entryFor table "reversed.__next__" = some Builtin.«reversed.__next__» := entryFor_of_tree (by kernel_rfl)
theorem L5_args_rev_next (a : Value) : argsOk "reversed.__next__" ⟨[a], []⟩ := by
  unfold argsOk; rw [signature?_of (id := "reversed.__next__") (n := ['_', '_', 't', 'x', 'e', 'n', '_', '_']) (o := ['d', 'e', 's', 'r', 'e', 'v', 'e', 'r']) (by kernel_rfl) L5_owner_rev]; kernel_rfl
theorem L5_slot_rev_iter : Slot "reversed" "__iter__" "reversed.__iter__" :=
  .of (owner := "reversed") (n := "__iter__") (by rw [typeLookup_type, builtinLookup_eq_fast]; kernel_rfl) (by decide +kernel) (by decide +kernel) (by decide +kernel)
    (by first | exact .inl (by decide +kernel) | exact .inr (by decide +kernel)) (by rw [isSubtype_type]; kernel_rfl)
theorem L5_args_rev_iter (a : Value) : argsOk "reversed.__iter__" ⟨[a], []⟩ := by
  unfold argsOk; rw [signature?_of (id := "reversed.__iter__") (n := ['_', '_', 'r', 'e', 't', 'i', '_', '_']) (o := ['d', 'e', 's', 'r', 'e', 'v', 'e', 'r']) (by kernel_rfl) L5_owner_rev]; kernel_rfl
theorem L5_entry_rev_iter : entryFor table "reversed.__iter__" = some Builtin.«dict_keyiterator.__iter__» :=
  entryFor_alias (id' := "dict_keyiterator.__iter__") (by kernel_rfl) (by first | rfl | decide +kernel | (unfold String.splitOn; simp +decide [String.splitOnAux])) (by decide +kernel) (by kernel_rfl)
theorem L5_str_norev : typeLookup (.type "str") "__reversed__" = pure none := by rw [typeLookup_type, builtinLookup_eq_fast]; kernel_rfl
theorem L5_sub_str_dict : isSubtype (.type "str") (.type "dict") = pure false := by rw [isSubtype_type]; kernel_rfl
end F
end PySem


set_option maxRecDepth 100000
set_option linter.all false
set_option maxHeartbeats 4000000
set_option Elab.async false
namespace PySem
theorem L5_called_rev : TypeCalled "reversed" "reversed.__new__" "object.__init__" :=
  ⟨by decide +kernel, F.create_reversed, ⟨_, _, F.mro_reversed⟩, F.made_reversed, F.plain_reversed_new, F.sub_reversed_self,
   .of (owner := "object") (n := "__init__") (by rw [typeLookup_type, builtinLookup_eq_fast]; kernel_rfl) (by decide +kernel) (by decide +kernel) (by decide +kernel)
    (by first | exact .inl (by decide +kernel) | exact .inr (by decide +kernel)) (by rw [isSubtype_type]; kernel_rfl)⟩
def L5_revS (x : Str) (t : Tok) (i : Int) : Obj := { cls := .type "reversed", data := .fields #[.str x t, rawInt i] }
theorem L5_meets_rev_new (x : Str) (t : Tok) (hx : x.length ≤ sizeLine) :
    Meets (Builtin.«reversed.__new__» ⟨[.type "reversed", .str x t], []⟩) (fun _ R s => R (.ok (.ret (.ref s.heap.objs.size))) { s with heap := s.heap.push (L5_revS x t ((x.length : Int) - 1)), toks := s.toks + 2 }) := by
  refine Meets.of_wp fun prog w A R s hs => ?_
  unfold Builtin.«reversed.__new__»
  refine wpAny_bind (wpAny_of_eq (newClass_reversed _) ?_)
  try dsimp only
  refine wpAny_bind (wpAny_of_eq (a := ()) (by first | rfl | kernel_rfl) ?_)
  refine wpAny_bind (wpAny_of_eq (a := ()) (by first | rfl | kernel_rfl) ?_)
  try dsimp only
  refine wpAny_bind (wpAny_specialOf (typeIs_str s x t) F.L5_str_norev ?_)
  try dsimp only
  refine wpAny_bind (wpAny_bind (wpAny_isInstance (typeIs_str s x t) F.L5_sub_str_dict ?_))
  rw [if_neg Bool.false_ne_true]
  refine wpAny_bind (wpAny_specialOf (typeIs_str s x t) F.slot_str_getitem.lookup ?_)
  dsimp only
  rw [if_pos (by decide +kernel)]
  refine wpAny_pure ?_
  rw [if_neg (by decide)]
  have h63 : ¬ (x.length : Int) ≥ 2 ^ 63 := by
    have e : sizeLine < 2 ^ 63 := by decide +kernel
    omega
  refine wpAny_bind (P.len_str h63 ?_)
  refine wpAny_bind (wpAny_of_eq (a := some (x.length : Int)) (by first | rfl | kernel_rfl) ?_)
  dsimp only
  refine wpAny_bind (m := Builtin.SmallTypes.newRecord _ _) (show wpAny _ _ (newObj (.type "reversed") (.fields #[.str x t, rawInt ((x.length : Int) - 1)])) _ _ _ from wpAny_newObj_type ?_)
  exact wpAny_pure ⟨_, rfl, hs⟩
section
variable {prog : Program} {w : World} {A : Around} {E : Value → Shared → Prop} {s : Shared}
theorem L5_call_rev {x : Str} {t : Tok} {Q : Value → Shared → Prop} (hx : x.length ≤ sizeLine)
    (h : Q (.ref s.heap.objs.size) { s with heap := s.heap.push (L5_revS x t ((x.length : Int) - 1)), toks := s.toks + 2 }) : wpAny (model prog w) A (call (.type "reversed") [.str x t]) Q E s :=
  callType_new L5_called_rev (by decide) (F.typeCall_reversed_1 _) (F.newCall_reversed_1 _) (fun obj => F.args_object_init_2 obj _) F.entry_reversed_new (L5_meets_rev_new x t hx) ⟨⟨_, Heap.get?_push_size _ rfl, rfl⟩, h⟩
def L5_IsRev (h : Heap) (a : Addr) (x : Str) (t : Tok) (i : Int) : Prop := h.get? a = some (L5_revS x t i)
theorem L5_IsRev.typeIs {a : Addr} {x : Str} {t : Tok} {i : Int} (z : L5_IsRev s.heap a x t i) : s.TypeIs (.ref a) "reversed" := ⟨_, z, rfl⟩
theorem L5_next {it : Addr} {x : Str} {t : Tok} {i c : Nat} {Q : Option Value → Shared → Prop} (hit : L5_IsRev s.heap it x t (i : Int)) (hx : x.length ≤ sizeLine) (hc : x.cps[i]? = some c)
    (hQ : ∀ h' tk, L5_IsRev h' it x t ((i : Int) - 1) → Heap.SameBut it s.heap h' → ∀ u, Q (some (.str ⟨#[c]⟩ u)) { s with heap := h', toks := tk }) : wpAny (model prog w) A (pyNext (.ref it)) Q E s := by
  unfold pyNext
  refine wpAny_bind (wpAny_attempt (wpAny_callSpecial?_slot (name := Str.ofString "__next__") hit.typeIs F.L5_slot_rev_next
    (wpAny_call_entry F.L5_slot_rev_next hit.typeIs F.L5_entry_rev_next ?_ (F.L5_args_rev_next _))))
  unfold Builtin.«reversed.__next__»
  refine wpAny_bind (wpAny_of_eq (a := (Value.ref it, [])) rfl ?_)
  try dsimp only
  refine wpAny_bind (wpAny_field hit rfl (x := .str x t) rfl ?_)
  refine wpAny_bind (wpAny_field hit rfl (x := rawInt (i : Int)) rfl ?_)
  show wpAny _ _ (if (i : Int) < 0 then _ else _) _ _ s
  rw [if_neg (by omega)]
  refine wpAny_bind (wpAny_specialOf (typeIs_str s x t) F.slot_str_getitem.lookup ?_)
  rw [if_neg (by simp)]
  have hi : i < x.length := by
    rcases Nat.lt_or_ge i x.length with z | z
    · exact z
    · rw [Array.getElem?_eq_none (by exact z)] at hc; cases hc
  have e : sizeLine < 2 ^ 63 := by decide +kernel
  refine wpAny_bind (wpAny_mkInt ?_)
  refine wpAny_bind (wpAny_attempt (P.getItem_str (c := c) ?_ ?_ ?_))
  · rw [decide_eq_false (by omega), decide_eq_false (by omega)]; rfl
  · have e1 : seqIndex? (i : Int) x.length = some i := by
      unfold seqIndex?
      simp
      omega
    rw [e1]
    exact hc
  dsimp only
  refine wpAny_bind (wpAny_field (s := { s with toks := s.toks + 1 + 1 }) hit rfl (x := rawInt (i : Int)) rfl ?_)
  show wpAny _ _ (setField (Value.ref it) 1 (rawInt ((i : Int) - 1)) >>= _) _ _ _
  refine wpAny_bind (wpAny_setField (s := { s with toks := s.toks + 1 + 1 }) hit rfl (by simp) ?_)
  refine wpAny_pure ⟨_, rfl, wpAny_pure (hQ _ _ ?_ (Heap.SameBut.update ..) _)⟩
  show (s.heap.update it _).get? it = _
  rw [Heap.get?_update_self _ hit rfl]
  rfl
theorem L5_end {it : Addr} {x : Str} {t : Tok} {Q : Option Value → Shared → Prop} (hh : A.handled = none) (hit : L5_IsRev s.heap it x t (-1))
    (hQ : ∀ h', Heap.ExtBut it s.heap h' → Q none { s with heap := h' }) : wpAny (model prog w) A (pyNext (.ref it)) Q E s := by
  unfold pyNext
  refine wpAny_bind (wpAny_attempt (wpAny_callSpecial?_slot (name := Str.ofString "__next__") hit.typeIs F.L5_slot_rev_next
    (wpAny_call_entry F.L5_slot_rev_next hit.typeIs F.L5_entry_rev_next ?_ (F.L5_args_rev_next _))))
  unfold Builtin.«reversed.__next__»
  refine wpAny_bind (wpAny_of_eq (a := (Value.ref it, [])) rfl ?_)
  try dsimp only
  refine wpAny_bind (wpAny_field hit rfl (x := .str x t) rfl ?_)
  refine wpAny_bind (wpAny_field hit rfl (x := rawInt (-1)) rfl ?_)
  show wpAny _ _ (if (-1 : Int) < 0 then _ else _) _ _ s
  rw [if_pos (by decide)]
  refine wpAny_bind (wpAny_rule ?_)
  refine wpAny_bind (wpAny_bind (wpAny_setField hit rfl (by simp) ?_))
  have h1 : (s.heap.update it (Obj.mapFields fun x => x.setIfInBounds 1 (rawInt (-1)))).get? it = some (L5_revS x t (-1)) := by
    rw [Heap.get?_update_self _ hit rfl]
    rfl
  refine wpAny_setField (s := { s with heap := s.heap.update it (Obj.mapFields fun x => x.setIfInBounds 1 (rawInt (-1))) }) h1 rfl (by simp) ?_
  have kk : Heap.ExtBut it s.heap ((s.heap.update it (Obj.mapFields fun x => x.setIfInBounds 1 (rawInt (-1)))).update it (Obj.mapFields fun x => x.setIfInBounds 0 .none)) := fun b o hb e => by
    rw [Heap.get?_update_other _ _ (Ne.symm hb), Heap.get?_update_other _ _ (Ne.symm hb)]
    exact e
  generalize (s.heap.update it (Obj.mapFields fun x => x.setIfInBounds 1 (rawInt (-1)))).update it (Obj.mapFields fun x => x.setIfInBounds 0 .none) = h2 at kk ⊢
  first
  | show wpAny _ _ (newExc (.type "StopIteration") [] >>= _) _ _ _
  | (refine wpAny_bind ?_; show wpAny _ _ (newExc (.type "StopIteration") [] >>= _) _ _ _)
  refine wpAny_bind ?_
  simp only [newExc, newTuple]
  refine wpAny_bind (wpAny_newObj_type ?_ (by size_fits))
  refine wpAny_bind (m := firstArgMember _ _) (wpAny_of_eq (a := Value.none) (by first | rfl | (simp only [firstArgMember]; rfl)) ?_)
  refine wpAny_newObj_type ?_ (by size_fits)
  simp only [raiseNew]
  refine wpAny_bind (wpAny_handled ?_)
  first | rw [show A.in1.handled = none from hh] | rw [hh]
  refine wpAny_bind (wpAny_pure (wpAny_throw ?_))
  refine wpAny_bind (wpAny_isInstance (T := "StopIteration") (b := true) ⟨_, Heap.get?_push_size _ rfl, rfl⟩ isSubtype_stop ?_)
  exact wpAny_pure (hQ _ ((kk.push _).push _))
theorem L5_iter {it : Addr} {x : Str} {t : Tok} {i : Int} {Q : Value → Shared → Prop} (hit : L5_IsRev s.heap it x t i) (h : Q (.ref it) s) : wpAny (model prog w) A (pyIter (.ref it)) Q E s := by
  refine wpAny_pyIter_slot hit.typeIs F.L5_slot_rev_iter (wpAny_call_entry F.L5_slot_rev_iter hit.typeIs F.L5_entry_rev_iter ?_ (F.L5_args_rev_iter _))
  show wpAny _ _ (ret (.ref it)) _ _ s
  exact wpAny_pure ⟨_, rfl, "reversed", _, hit.typeIs, F.L5_slot_rev_next.lookup, h⟩
end
end PySem


set_option maxRecDepth 100000
set_option linter.all false
set_option maxHeartbeats 4000000
set_option Elab.async false
namespace L5
open PySem PySem.Spec PyProof.Rows L2 M01
abbrev St := L2.St
/-! ### reversed(text) -/
def Irev (x : Str) : It := ⟨fun i _ => i < x.length, fun i H v H' => H' = H ∧ ∃ c, x.cps[x.length - 1 - i]? = some c ∧ v = .str ⟨#[c]⟩, fun i _ => x.length ≤ i⟩
theorem turn_rev {P : Program} {w : World} {K : PySem.W.Frag} {tg : Expr} (it : Addr) (x : Str) (t : Tok) (hx : x.length ≤ sizeLine) : Turn P w K tg (Irev x) [it] it (fun i h => i ≤ x.length ∧ L5_IsRev h it x t ((x.length : Int) - 1 - (i : Nat))) where
  mem := by simp
  obj := fun i h st b hb => by
    have e : b = it := by simpa using hb
    subst e
    exact ⟨_, st.2, fun v z => by
      have z' : Data.fields _ = Data.cell v := z
      cases z'⟩
  keep := fun i h h' st k => ⟨st.1, k it (by simp) _ st.2⟩
  item := by
    intro X hP hw hK hc i pins s σ H E I hf st hg
    subst hP hw hK
    obtain ⟨f0, f1, f2, f3, f4, f5⟩ := hf it (by simp)
    have hi : i < x.length := hg
    have e : (x.length : Int) - 1 - (i : Nat) = ((x.length - 1 - i : Nat) : Int) := by omega
    have hit := st.2
    rw [e] at hit
    have hl : x.length - 1 - i < x.cps.size := by show _ < x.length; omega
    refine L5_next hit hx (Array.getElem?_eq_getElem hl) fun h' tk st' sb u => ?_
    have I1 : Inv X pins σ H { s with heap := h', toks := tk } := I.turned (fun b o hb e => (sb.2 b hb).trans e) f0 f1 f3 f4 f5
    refine ⟨_, rfl, go_of (s := { s with heap := h', toks := tk }) (n := "reversed") st' rfl rfl (by decide) ⟨.str ⟨#[x.cps[x.length - 1 - i]]⟩, H, I1, ⟨_, rfl⟩, ⟨rfl, _, Array.getElem?_eq_getElem hl, rfl⟩, ⟨hi, ?_⟩, fun b hb => (hf b hb).1⟩⟩
    rw [show ((x.length - 1 - i : Nat) : Int) - 1 = (x.length : Int) - 1 - ((i + 1 : Nat) : Int) from by omega] at st'
    exact st'
  done := by
    intro X hP hw hK hc i pins s σ H E I hf st hg
    subst hP hw hK
    obtain ⟨f0, f1, f2, f3, f4, f5⟩ := hf it (by simp)
    have hi : i = x.length := Nat.le_antisymm st.1 hg
    have hit := st.2
    rw [hi, show (x.length : Int) - 1 - (x.length : Nat) = -1 from by omega] at hit
    exact L5_end (I.ok.hd hc) hit fun h' eb => ⟨rfl, I.turned (t' := s.toks) (fun b o hb e => eb b o hb e) f0 f1 f3 f4 f5⟩
  self := fun _ _ _ _ _ st h => L5_iter st.2 h
section
variable {X : Cx} {tg : Expr}
def iRev (ta : TA) : TI := fun σ H R => ta σ H fun vs H1 => ∃ z, vs = [.str z] ∧ z.length ≤ sizeLine ∧ R (Irev z) H1
theorem pi_rev {a : Expr} {ta : TA} {p pos : Pos} (hg : Gl X "reversed") (hm : X.mg "reversed" = none) (ha : PA X [a] ta) (hs : starEach [a] X.env = [(false, eval a X.env)] := by rfl) (hbt : bootBuiltins "reversed" = some (.type "reversed") := by decide +kernel) : PI X tg (.Call (.Name "reversed" p) [a] [] pos) (iRev ta) := by
  intro pins s σ H R I h
  refine Call_ (ld_blt I hg hm hbt (PyProof.Rows.callWith_type1 (thn (ha pos pins s σ H _ I h) fun us s1 ⟨vs, H1, I1, r1, q1⟩ => ?_) hs rfl))
  obtain ⟨z, e, hz, q⟩ := q1
  subst e
  cases r1 with
  | cons r rr =>
    cases rr
    obtain ⟨t, rfl⟩ := r
    refine L5_call_rev hz ?_
    have st : L5_IsRev (s1.heap.push (L5_revS z t ((z.length : Int) - 1))) s1.heap.objs.size z t ((z.length : Int) - 1) := Heap.get?_push_size _ rfl
    have J : Inv X pins σ H1 { s1 with heap := s1.heap.push (L5_revS z t ((z.length : Int) - 1)), toks := s1.toks + 2 } := I1.kept fun b o e => Heap.get?_push_of_some _ e
    refine L5_iter (s := { s1 with heap := s1.heap.push (L5_revS z t ((z.length : Int) - 1)), toks := s1.toks + 2 }) st ?_
    refine ⟨s1.heap.objs.size, [s1.heap.objs.size], _, _, H1, rfl, J, turn_rev _ z t hz, ⟨Nat.zero_le _, ?_⟩, fun b hb => ?_, q⟩
    · show L5_IsRev _ _ z t ((z.length : Int) - 1 - ((0 : Nat) : Int))
      rw [show (z.length : Int) - 1 - ((0 : Nat) : Int) = (z.length : Int) - 1 from by omega]
      exact st
    · have e : b = s1.heap.objs.size := by simpa using hb
      subst e
      exact I1.fpOk (Nat.le_refl _) (I1.hok.fresh (Nat.le_refl _))
theorem for_rev {x : Str} {g : TG} {tb : TS} {D : Ends} {σ : St} {H : Hp} (Pv : Nat → St → Hp → Prop) (h0 : Pv 0 σ H)
    (hs : ∀ i c σ H, x.cps.toList.reverse[i]? = some c → Pv i σ H → g (.str ⟨#[c]⟩) σ H fun σ2 H2 => tb { D with nx := Pv (i + 1), ct := Pv (i + 1), bk := D.nx } σ2 H2) (hd : ∀ σ H, Pv x.length σ H → D.nx σ H) :
    ∃ W : Nat → Nat → St → Hp → Prop, (∃ m, W 0 m σ H) ∧ ∀ i m σ H, W i m σ H →
      ((Irev x).stop i H ∧ D.nx σ H) ∨ ((Irev x).go i H ∧ ∃ N : St → Hp → Prop, (∀ σ' H', N σ' H' → ∃ m', m' < m ∧ W (i + 1) m' σ' H') ∧ ∀ v H', (Irev x).yld i H v H' → g v σ H' fun σ2 H2 => tb { D with nx := N, ct := N, bk := D.nx } σ2 H2) := by
  refine ⟨fun i m σ H => m = x.length - i ∧ i ≤ x.length ∧ Pv i σ H, ⟨x.length, by simp, Nat.zero_le _, h0⟩, ?_⟩
  rintro i m σ H ⟨rfl, hi, p⟩
  by_cases hlt : i < x.length
  · refine .inr ⟨hlt, Pv (i + 1), fun σ' H' p' => ⟨x.length - (i + 1), by omega, rfl, hlt, p'⟩, fun v H' y => ?_⟩
    obtain ⟨e, c, hc, y⟩ := y
    subst e y
    refine hs i c σ _ ?_ p
    have hl : i < x.cps.toList.length := by rw [Array.length_toList]; exact hlt
    rw [List.getElem?_reverse hl]
    have e2 : x.cps.toList.length - 1 - i = x.length - 1 - i := by simp [Str.length]
    rw [e2]
    simpa using hc
  · have e : i = x.length := by omega
    subst e
    exact .inl ⟨Nat.le_refl _, hd σ H p⟩

/-! ### text * n, text.endswith(t), text[a:b] -/
def mulS (x : Str) (n : Int) : Str := if n < 1 then Str.empty else if (n == 1 || x.length == 0) = true then x else ⟨(List.replicate n.toNat x.cps).foldl (· ++ ·) #[]⟩
theorem op_mul_str : OpR X (binaryOp .Mult) (fun x y H Q => ∃ z n, x = .str z ∧ y = .int n ∧ z.length ≤ 100 ∧ 0 ≤ n ∧ n ≤ 100 ∧ (mulS z n).length ≤ sizeLine ∧ Q (.str (mulS z n)) H) := by
  intro pins s σ H x y v u Q I rx ry h
  obtain ⟨z, n, rfl, rfl, hz, n0, n1, hl, q⟩ := h
  obtain ⟨t, rfl⟩ := rx
  obtain ⟨t', rfl⟩ := ry
  refine P.mul_str ?_ (fun h1 _ => ?_) (fun h1 _ => ?_) ?_
  · rw [decide_eq_false (by omega), decide_eq_false (by omega)]; rfl
  · have : (1 : Int) ≤ (2 ^ 63 - 1) / n := by
      rw [Int.le_ediv_iff_mul_le (by omega)]
      omega
    have h100 : (100 : Int) ≤ (2 ^ 63 - 1) / n := by
      rw [Int.le_ediv_iff_mul_le (by omega)]
      omega
    omega
  · unfold Builtin.Str.tooLong
    have e : z.length * n.toNat ≤ 10000 := by
      have a : n.toNat ≤ 100 := by omega
      exact Nat.le_trans (Nat.mul_le_mul hz a) (by decide)
    simp only [decide_eq_false_iff_not]
    have e2 : (10000 : Nat) < sizeLine := by decide +kernel
    omega
  · unfold mulS at hl q
    by_cases c1 : n < 1
    · rw [if_pos c1] at hl q ⊢
      exact ⟨hl, .str Str.empty, H, I.tok _, ⟨_, rfl⟩, q⟩
    · rw [if_neg c1] at hl q ⊢
      by_cases c2 : (n == 1 || z.length == 0) = true
      · rw [if_pos c2] at q ⊢
        exact ⟨.str z, H, I, ⟨_, rfl⟩, q⟩
      · rw [if_neg c2] at hl q ⊢
        exact ⟨hl, .str _, H, I.tok _, ⟨_, rfl⟩, q⟩
theorem mt_endswith : MtR X "str.endswith" (fun x xs H Q => ∃ z y, x = .str z ∧ xs = [.str y] ∧ Q (.bl (Txt.endswith z y)) H) := by
  intro pins s σ H x xs v us Q I rx rs h
  obtain ⟨z, y, rfl, rfl, q⟩ := h
  obtain ⟨t, rfl⟩ := rx
  obtain ⟨u, rfl, t', rfl⟩ := vals1 rs
  exact SC.endswith ⟨.bl _, H, I, rfl, q⟩
def rSlS : V → Option Int → Option Int → Hp → VK → Prop := fun x lo hi H Q => ∃ z, x = .str z ∧ z.length ≤ sizeLine ∧ Q (.str (Txt.slice z lo hi)) H
theorem sl_str : SlR X rSlS := by
  intro pins s σ H x v vl vu lo hi sl Q I rx hs pl pu h
  obtain ⟨z, rfl, hz, q⟩ := h
  obtain ⟨t, rfl⟩ := rx
  refine ⟨"str", _, F.slot_str_getitem.lookup, typeIs_str _ _ _, ?_⟩
  have key : ∀ (l u : Option (Int × Tok)), s.heap.IsSlice sl l u none → l.map (·.1) = lo → u.map (·.1) = hi → wpAny (model X.prog X.w) X.A (getItem (.str z t) (.ref sl)) (EP X pins σ Q) X.xe s := by
    rintro l u hsl rfl rfl
    exact wpAny_getItem_str_slice (l := l) (u := u) (st := none) hsl rfl (post_val_or_str ⟨Nat.le_trans (Txt.slice_le z _ _) hz, fun t' k => ⟨.str (Txt.slice z (l.map (·.1)) (u.map (·.1))), H, I.tok k, ⟨t', rfl⟩, q⟩⟩)
  obtain ⟨o, ho, hc, hd⟩ := hs
  cases pl with
  | none =>
    cases pu with
    | none => exact key none none ⟨o, ho, hc, hd⟩ rfl rfl
    | int j tj => exact key none (some (j, tj)) ⟨o, ho, hc, hd⟩ rfl rfl
  | int i ti =>
    cases pu with
    | none => exact key (some (i, ti)) none ⟨o, ho, hc, hd⟩ rfl rfl
    | int j tj => exact key (some (i, ti)) (some (j, tj)) ⟨o, ho, hc, hd⟩ rfl rfl

/-! ### a table of the module: texts to numbers -/
def RowsK (es : List DictEntry) (D : List (Str × Int)) : Prop := KTD.Rows (fun d v => PyProof.V.Flat v d) es (D.map fun p => (p.1, PyData.int p.2))
def TabK (K : PySem.W.Frag) (a : Addr) (D : List (Str × Int)) : Prop := (a == sysModules) = false ∧ ∃ o es ep, K.lookup a = some o ∧ o.ExactDict ∧ o.data = .dict es ep ∧ RowsK es.toList D
theorem datum_map (k : Str) : ∀ D : List (Str × Int), KTD.datumAt k ((D.map fun p => (p.1, PyData.int p.2)).map fun p => (p.1, KTD.Dat.flat p.2)) = (D.lookup k).map fun i => KTD.Dat.flat (PyData.int i)
  | [] => rfl
  | (x, i) :: D => by
    show (if decide (k = x) = true then some (KTD.Dat.flat (PyData.int i)) else _) = _
    by_cases h : k = x
    · subst h
      simp [List.lookup]
    · rw [if_neg (by simpa using h), datum_map k D]
      have : (k == x) = false := by simpa using h
      simp [List.lookup, this]
theorem TabK.here {X : Cx} {pins : List (Addr × Obj)} {σ : St} {H : Hp} {s : Shared} {a : Addr} {D : List (Str × Int)} (I : Inv X pins σ H s) (T : TabK X.K a D) : KTD.Here X.base s.heap a ((D.map fun p => (p.1, PyData.int p.2)).map fun p => (p.1, KTD.Dat.flat p.2)) := by
  obtain ⟨ne, o, es, ep, lk, ex, hd, hr⟩ := T
  exact ⟨⟨ne, o, es, ep, I.mod.kin a o lk, ex, hd, KTD.Rows.mono (f := KTD.Dat.flat) (fun d v z => z) hr⟩, I.bk⟩
/-- T.get(k, z), T a table of the module -/
theorem mt_getK : MtR X "dict.get" (fun x xs H Q => ∃ a k z D, x = .ref a ∧ xs = [.str k, .int z] ∧ TabK X.K a D ∧ Q (.int ((D.lookup k).getD z)) H) := by
  intro pins s σ H x xs v us Q I rx rs h
  obtain ⟨a, k, z, D, rfl, rfl, T, q⟩ := h
  cases rx
  obtain ⟨u, w', rfl, ⟨t, rfl⟩, ⟨t', rfl⟩⟩ := vals2 rs
  have T' := T.here I
  refine call_meetsIn PySem.F.slot_dict_get T'.typeIs PySem.F.entry_dict_get (PySem.F.args_dict_get_3 _ _ _) (KTD.meets_get2 (h₀ := X.base)) ⟨T', fun d v ha hv => ?_, fun hn => ?_⟩
  · rw [datum_map] at ha
    cases e : D.lookup k with
    | none => rw [e] at ha; cases ha
    | some i =>
      rw [e] at ha q
      cases ha
      obtain ⟨tv, rfl⟩ : ∃ tv, v = Value.int i tv := by
        have z : PyProof.V.Flat v (PyData.int i) := hv
        have z2 := z X.base
        cases z2
        exact ⟨_, rfl⟩
      exact ⟨.int i, H, I.tok _, ⟨_, rfl⟩, q⟩
  · rw [datum_map] at hn
    cases e : D.lookup k with
    | none => rw [e] at q; exact ⟨.int z, H, I.tok _, ⟨_, rfl⟩, q⟩
    | some i => rw [e] at hn; cases hn
/-! o.m(..), o a table of the module -/
variable {o e : Expr} {es : List Expr} {to : TE} {t : TA} {name : Str} {apos cpos : Pos} {T id : String} {r : V → List V → Hp → VK → Prop}
def tBMK (K : PySem.W.Frag) (r : V → List V → Hp → VK → Prop) (to : TE) (t : TA) : TE := fun σ H Q => to σ H fun x H1 => (∃ a D, x = .ref a ∧ TabK K a D) ∧ t σ H1 fun xs H2 => r x xs H2 Q
theorem pe_bmK (slot : Slot "dict" name id) (hty : typeOf (.builtin id) = pure (.type "method_descriptor")) (hm : MtR X id r) (ho : PE X o to) (ha : PA X (e :: es) t)
    (hbase : attributeBase o name X.env (eval o X.env) = eval o X.env := by rfl)
    (hfew : ((backTo cpos (starEach (e :: es) X.env)).all (fun x => !x.1) && (backToKw cpos (keywordEach [] X.env)).all (fun x => x.1.isSome)
      && decide ((e :: es).length + ([] : List Keyword).length + (if ([] : List Keyword).isEmpty then 0 else 1) < 30)) = true := by rfl)
    (hline : (apos.endLine == cpos.line) = true := by rfl) (hs : starEach (e :: es) X.env = (false, eval e X.env) :: starEach es X.env := by rfl) (hplain : (backTo cpos (starEach es X.env)).any (·.1) = false := by rfl) :
    PE X (.Call (.Attribute o name apos) (e :: es) [] cpos) (tBMK X.K r to t) := by
  intro pins s σ H Q I h
  refine wpAny_Call_method_late hbase hfew hline rfl (thn (ho pins s σ H _ I h) fun v s1 ⟨x, H1, I1, r1, ⟨a, D, hx, ty⟩, q1⟩ => ?_)
  subst hx
  cases r1
  have T' := ty.here I1
  refine ⟨"dict", id, PySem.F.plainAttrs_dict, slot, hty, T'.typeIs, T'.noDict, ?_⟩
  have hA := ha cpos pins s1 σ H1 _ I1 q1
  rw [hs] at hA ⊢
  refine Calls.callWith_builtin (by show (false || (backTo cpos (starEach es X.env)).any (·.1)) = false; rw [hplain] <;> rfl) (Calls.evalArgs_plain ?_)
  exact thn hA fun us s2 ⟨vs, H2, I2, r2, q2⟩ => hm pins s2 σ H2 (.ref a) vs (.ref a) us Q I2 rfl r2 q2
end
end L5


set_option maxRecDepth 100000
set_option linter.all false
set_option maxHeartbeats 1000000
set_option Elab.async false
namespace L5
open PySem PySem.Spec PyProof.Rows L2 M01
/-! ### a display of constants -/
inductive Cs : List Expr → List V → Prop
  | nil : Cs [] []
  | str {x : Str} {j : Nat} {pos : Pos} {es : List Expr} {vs : List V} : Cs es vs → Cs (.Constant (.str x) j pos :: es) (.str x :: vs)
  | int {i : Int} {j : Nat} {pos : Pos} {es : List Expr} {vs : List V} : Cs es vs → Cs (.Constant (.int i) j pos :: es) (.int i :: vs)
def tCs (vs : List V) : TA := fun _ H Q => Q vs H
theorem pa_cs {X : Cx} {es : List Expr} {vs : List V} (h : Cs es vs) : PA X es (tCs vs) := by
  induction h with
  | nil => exact pa_nil
  | str _ ih =>
    intro pos pins s σ H Q I q
    exact (pa_cons pe_str ih) pos pins s σ H Q I q
  | int _ ih =>
    intro pos pins s σ H Q I q
    exact (pa_cons pe_int ih) pos pins s σ H Q I q
/-- both ways of a statement meet in J -/
theorem ps_join {X : Cx} {st : Stmt} {t : TS} (h : PS X st t) : PS X st (fun D σ H => ∃ J : L2.St → Hp → Prop, t { D with nx := J } σ H ∧ ∀ σ' H', J σ' H' → D.nx σ' H') := by
  rintro pins s σ H D I ⟨J, q, k⟩
  refine thn (h pins s σ H _ I q) fun f s' z => ?_
  cases f with
  | next => obtain ⟨σ', H', I', j⟩ := z; exact ⟨σ', H', I', k _ _ j⟩
  | brk => exact z
  | cont => exact z
  | ret u => exact z
end L5


set_option maxRecDepth 100000
set_option linter.all false
set_option maxHeartbeats 1000000
set_option Elab.async false
/-! The judgements as structures, so that nothing unfolds them. -/
namespace QL
open PySem PySem.Spec PyProof.Rows L2 L3 X8 M01 L6 L5
abbrev St := L2.St
structure QE (X : Cx) (e : Expr) (t : TE) : Prop where
  h : PE X e t
structure QT (X : Cx) (e : Expr) (t : TT) : Prop where
  h : PT X e t
structure QW (X : Cx) (e : Expr) (t : TT) : Prop where
  h : PW X e t
structure QA (X : Cx) (es : List Expr) (t : TA) : Prop where
  h : PA X es t
structure QS (X : Cx) (st : Stmt) (t : TS) : Prop where
  h : PS X st t
structure QSs (X : Cx) (st : List Stmt) (t : TS) : Prop where
  h : PSs X st t
structure QG (X : Cx) (e : Expr) (t : TG) : Prop where
  h : PG X e t
structure QGs (X : Cx) (es : List Expr) (t : TGs) : Prop where
  h : PGs X es t
structure QI (X : Cx) (tg iter : Expr) (wi : TI) : Prop where
  h : PI X tg iter wi
structure QO (X : Cx) (e : Option Expr) (t : TO) : Prop where
  h : PO X e t
theorem QW.pt {X : Cx} {e : Expr} {t : TT} (h : QW X e t) : QT X e t := ⟨h.h.pt⟩
section
variable {X : Cx} {a b c e o value : Expr} {es : List Expr} {rest : List Stmt} {st : Stmt} {ta tb tc te to tv : TE} {t u : TS} {pos pos2 cpos apos np p : Pos} {tA tB2 : TT}
end
theorem qe_int {i j pos} : QE X (.Constant (.int i) j pos) (tC (.int i)) := ⟨pe_int ⟩
theorem qe_bl {b j pos} : QE X (.Constant (.bool b) j pos) (tC (.bl b)) := ⟨pe_bl ⟩
theorem qe_non {j pos} : QE X (.Constant .none j pos) (tC .non) := ⟨pe_non ⟩
theorem qe_str {x j pos} : QE X (.Constant (.str x) j pos) (tC (.str x)) := ⟨pe_str ⟩
theorem qe_glob {x : Str} {v : V} {u : Value} {pos : Pos} (hg : Gl X x) (hm : X.mg x = some u) (r : RelV v u) (hd : (x == ("__debug__" : Str)) = false := by decide) : QE X (.Name x pos) (tC v) := ⟨pe_glob hg hm r hd⟩
theorem qe_bltn {x : Str} {v : V} {u : Value} {pos : Pos} (hg : Gl X x) (hm : X.mg x = none) (hv : bootBuiltins x = some u) (r : RelV v u) (hn : x ≠ "__name__" := by decide) (hd : (x == ("__debug__" : Str)) = false := by decide) : QE X (.Name x pos) (tC v) := ⟨pe_bltn hg hm hv r hn hd⟩
theorem qe_op {op : Operator} {r : R2} (ho : OpR X (binaryOp op) r) (ha : QE X a ta) (hb : QE X b tb) : QE X (.BinOp a op b pos) (tOp r ta tb) := ⟨pe_op ho ha.h hb.h⟩
theorem qe_un {op : UnaryOp} {r : V → Hp → VK → Prop} (ho : UnR X (unaryOp op) r) (ha : QE X a ta) : QE X (.UnaryOp op a pos) (tUn r ta) := ⟨pe_un ho ha.h⟩
theorem qe_cmpR {op : CmpOp} {r : R2} (ho : OpR X (compareOp op) r) (ha : QE X a ta) (hb : QE X b tb) (hm : behindInMarks op b = false) : QE X (.Compare a [op] [b] pos) (tOp r ta tb) := ⟨pe_cmpR ho ha.h hb.h hm⟩
theorem qt_cmpR {op : CmpOp} {r : R2} (ho : OpR X (compareOp op) r) (ha : QE X a ta) (hb : QE X b tb) (hm : behindInMarks op b = false) : QT X (.Compare a [op] [b] pos) (tTest (tOp r ta tb)) := ⟨pt_cmpR ho ha.h hb.h hm⟩
theorem qe_chain {op op' : CmpOp} {r r' : R2} (ho : OpR X (compareOp op) r) (ho' : OpR X (compareOp op') r') (ha : QE X a ta) (hb : QE X b tb) (hc : QE X c tc) (hm : lastMarks [op, op'] [b, c] = false := by with_unfolding_all rfl) : QE X (.Compare a [op, op'] [b, c] pos) (tChain r r' ta tb tc) := ⟨pe_chain ho ho' ha.h hb.h hc.h hm⟩
theorem qt_val {e : Expr} {t : TE} (h : QE X e t) (he : ∀ whole, isTrue e X.env whole = (do let v ← whole; standAt e.pos; holding [v] (truthy v)) := by intro _; rfl) : QT X e (tB t) := ⟨pt_val h.h he⟩
theorem qw_and1 (ha : QT X a tA) : QW X (.BoolOp .And [a] pos) tA := ⟨pw_and1 ha.h⟩
theorem qw_or1 (ha : QT X a tA) : QW X (.BoolOp .Or [a] pos) tA := ⟨pw_or1 ha.h⟩
theorem qw_and (ha : QT X a tA) (hb : QW X (.BoolOp .And (b :: rst) pos) tB') : QW X (.BoolOp .And (a :: b :: rst) pos) (tAnd tA tB') := ⟨pw_and ha.h hb.h⟩
theorem qw_or (ha : QT X a tA) (hb : QW X (.BoolOp .Or (b :: rst) pos) tB') : QW X (.BoolOp .Or (a :: b :: rst) pos) (tOr tA tB') := ⟨pw_or ha.h hb.h⟩
theorem qt_not (ha : QT X a tA) : QT X (.UnaryOp .Not a pos) (tNot tA) := ⟨pt_not ha.h⟩
theorem qe_one {op} {t : TE} (h : QE X a t) : QE X (.BoolOp op [a] pos) t := ⟨pe_one h.h⟩
theorem qe_or (ha : QE X a ta) (hb : QE X (.BoolOp .Or (b :: rst) pos) tb) : QE X (.BoolOp .Or (a :: b :: rst) pos) (tOrV ta tb) := ⟨pe_or ha.h hb.h⟩
theorem qe_tup {x1} (h : QA X es t) : QE X (.Tuple es x1 pos) (tTup t) := ⟨pe_tup h.h⟩
theorem qe_lst (h : QA X es t) : QE X (.List es pos) (tLst t) := ⟨pe_lst h.h⟩
theorem qa_nil  : QA X [] tNil := ⟨pa_nil ⟩
theorem qa_cons (ha : QE X e te) (hr : QA X es t) (hs : starEach (e :: es) X.env = (false, eval e X.env) :: starEach es X.env := by rfl) : QA X (e :: es) (tCons te t) := ⟨pa_cons ha.h hr.h hs⟩
theorem qa_cs {X : Cx} {es : List Expr} {vs : List V} (h : Cs es vs) : QA X es (tCs vs) := ⟨pa_cs h⟩
theorem qe_ix {r : R2} (hr : IxR X r) (ha : QE X a ta) (hb : QE X b tb) (hs : PlainIx b) : QE X (.Subscript a b pos) (tOp r ta tb) := ⟨pe_ix hr ha.h hb.h hs⟩
theorem qe_slice {r : V → Option Int → Option Int → Hp → VK → Prop} (hr : SlR X r) (he : QE X e te) (hl : QO X lox tl) (hu : QO X hix th) : QE X (.Subscript e (.Slice lox hix none p2) pos) (tSl r te tl th) := ⟨pe_slice hr he.h hl.h hu.h⟩
theorem qo_none  : QO X none tNoPart := ⟨po_none ⟩
theorem qo_some (h : QE X e te) : QO X (some e) (tPart te) := ⟨po_some h.h⟩
theorem qe_callB (hc : CallR X (.builtin idd) r) (hg : Gl X x) (hm : X.mg x = none) (hv : bootBuiltins x = some (.builtin idd)) (ha : QA X (e :: es) t) (hn : x ≠ "__name__" := by decide) (hdb : (x == ("__debug__" : Str)) = false := by decide) (he : starEach (e :: es) X.env = (false, eval e X.env) :: starEach es X.env := by rfl) (hpl : (backTo pos (starEach es X.env)).any (·.1) = false := by rfl) : QE X (.Call (.Name x p) (e :: es) [] pos) (tCB r t) := ⟨pe_callB hc hg hm hv ha.h hn hdb he hpl⟩
theorem qe_callTy (hc : CallR X (.type T) r) (hg : Gl X x) (hm : X.mg x = none) (hv : bootBuiltins x = some (.type T)) (ha : QA X (e :: es) t) (hn : x ≠ "__name__" := by decide) (hdb : (x == ("__debug__" : Str)) = false := by decide) (he : starEach (e :: es) X.env = (false, eval e X.env) :: starEach es X.env := by rfl) (hpl : (backTo pos (starEach es X.env)).any (·.1) = false := by rfl) : QE X (.Call (.Name x p) (e :: es) [] pos) (tCB r t) := ⟨pe_callTy hc hg hm hv ha.h hn hdb he hpl⟩
theorem qe_callD (D : Def X.prog X.w X.K X.mg X.base CX k x ps sp) (hr : Room k X.A) (hg : Gl X x) (hx : Passes CX X E) (ha : QA X (e :: es) t) (hdb : (x == ("__debug__" : Str)) = false := by decide) (he : starEach (e :: es) X.env = (false, eval e X.env) :: starEach es X.env := by rfl) (hpl : (backTo pos (starEach es X.env)).any (·.1) = false := by rfl) : QE X (.Call (.Name x p) (e :: es) [] pos) (tCall sp [] E t) := ⟨pe_callD D hr hg hx ha.h hdb he hpl⟩
theorem qe_callDX {X : Cx} {k : Nat} {ps : List Str} {sp : Sp} {E : L2.St → XK} {x : Str} {p pos : Pos} {e : Expr} {es : List Expr} {t : TA} (D : Def X.prog X.w X.K X.mg X.base (CXe X.prog X.w) k x ps sp) (hr : Room k X.A) (hg : Gl X x) (hc : Catches X E) (ha : QA X (e :: es) t) (hdb : (x == ("__debug__" : Str)) = false := by decide) (he : starEach (e :: es) X.env = (false, eval e X.env) :: starEach es X.env := by rfl) (hpl : (backTo pos (starEach es X.env)).any (·.1) = false := by rfl) : QE X (.Call (.Name x p) (e :: es) [] pos) (tCallX sp [] E t) := ⟨pe_callDX D hr hg hc ha.h hdb he hpl⟩
theorem qe_bm (pa : PlainAttrs T) (slot : Slot T name idd) (hty : typeOf (.builtin idd) = pure (.type "method_descriptor")) (hm : MtR X idd r) (ho : QE X o to) (ha : QA X (e :: es) t) (hbase : attributeBase o name X.env (eval o X.env) = eval o X.env := by rfl) (hfew : ((backTo cpos (starEach (e :: es) X.env)).all (fun x => !x.1) && (backToKw cpos (keywordEach [] X.env)).all (fun x => x.1.isSome)
      && decide ((e :: es).length + ([] : List Keyword).length + (if ([] : List Keyword).isEmpty then 0 else 1) < 30)) = true := by rfl) (hline : (apos.endLine == cpos.line) = true := by rfl) (hs : starEach (e :: es) X.env = (false, eval e X.env) :: starEach es X.env := by rfl) (hplain : (backTo cpos (starEach es X.env)).any (·.1) = false := by rfl) : QE X (.Call (.Attribute o name apos) (e :: es) [] cpos) (tBM X.K T r to t) := ⟨pe_bm pa slot hty hm ho.h ha.h hbase hfew hline hs hplain⟩
theorem qe_bmK (slot : Slot "dict" name idd) (hty : typeOf (.builtin idd) = pure (.type "method_descriptor")) (hm : MtR X idd r) (ho : QE X o to) (ha : QA X (e :: es) t) (hbase : attributeBase o name X.env (eval o X.env) = eval o X.env := by rfl) (hfew : ((backTo cpos (starEach (e :: es) X.env)).all (fun x => !x.1) && (backToKw cpos (keywordEach [] X.env)).all (fun x => x.1.isSome)
      && decide ((e :: es).length + ([] : List Keyword).length + (if ([] : List Keyword).isEmpty then 0 else 1) < 30)) = true := by rfl) (hline : (apos.endLine == cpos.line) = true := by rfl) (hs : starEach (e :: es) X.env = (false, eval e X.env) :: starEach es X.env := by rfl) (hplain : (backTo cpos (starEach es X.env)).any (·.1) = false := by rfl) : QE X (.Call (.Attribute o name apos) (e :: es) [] cpos) (tBMK X.K r to t) := ⟨pe_bmK slot hty hm ho.h ha.h hbase hfew hline hs hplain⟩
theorem qe_fld (he : QE X e ta) (hb : attributeBase e f X.env (eval e X.env) = eval e X.env) : QE X (.Attribute e f pos) (tFld X.K ta f) := ⟨pe_fld he.h hb⟩
theorem qe_meth {pl : Sem Bool} (he : QE X o ta) (c : Cls X.K C) (hm : Meth X.K C m f) (F : FnOk X.prog X.w X.K X.mg X.base CX k f fd ps sp) (hr : Room k X.A) (hb : Binds X.K fd ps ds) (hd : Vals dvs ds) (hx : Passes CX X E) (ha : QA X (e :: es) t) (hst : starEach (e :: es) X.env = (false, eval e X.env) :: starEach es X.env := by rfl) (hpl : (backTo pos (starEach es X.env)).any (·.1) = false := by rfl) (ht : eval (.Call (.Attribute o m apos) (e :: es) [] pos) X.env = (do
      let ov ← eval o X.env
      standAt apos.atName
      let (f, first) ← holding [ov] (getMethod ov m pl)
      callWith pos f first (backTo pos (starEach (e :: es) X.env)) (backToKw pos (keywordEach [] X.env))) := by rfl) : QE X (.Call (.Attribute o m apos) (e :: es) [] pos) (tMeth C m sp dvs E ta t) := ⟨pe_meth he.h c hm F hr hb hd hx ha.h hst hpl ht⟩
theorem qe_meth0 {pl : Sem Bool} (he : QE X o ta) (c : Cls X.K C) (hm : Meth X.K C m f) (F : FnOk X.prog X.w X.K X.mg X.base CX k f fd ps sp) (hr : Room k X.A) (hb : Binds X.K fd ps ds) (hd : Vals dvs ds) (hx : Passes CX X E) (ht : eval (.Call (.Attribute o m apos) [] [] pos) X.env = (do
      let ov ← eval o X.env
      standAt apos.atName
      let (f, first) ← holding [ov] (getMethod ov m pl)
      callWith pos f first (backTo pos (starEach [] X.env)) (backToKw pos (keywordEach [] X.env))) := by rfl) : QE X (.Call (.Attribute o m apos) [] [] pos) (tMeth C m sp dvs E ta tNil) := ⟨pe_meth0 he.h c hm F hr hb hd hx ht⟩
theorem qe_make0 (M : Mk X.K C f) (F : FnOk X.prog X.w X.K X.mg X.base CX k f fd ps sp) (hr : Room (k + 1) X.A) (hg : Gl X x) (hm : X.mg x = some (.ref C)) (hb : Binds X.K fd ps ds) (hd : Vals dvs ds) (hx : Passes CX X E) (hdb : (x == ("__debug__" : Str)) = false := by decide) : QE X (.Call (.Name x p) [] [] pos) (tMake C sp dvs E tNil) := ⟨pe_make0 M F hr hg hm hb hd hx hdb⟩
theorem qss_nil  : QSs X [] tNext := ⟨pss_nil ⟩
theorem qss_cons (h1 : QS X stt t) (h2 : QSs X rst u) : QSs X (stt :: rst) (tSeq t u) := ⟨pss_cons h1.h h2.h⟩
theorem qss_one (h1 : QS X stt t) : QSs X [stt] t := ⟨pss_one h1.h⟩
theorem qs_continue  : QS X (.Continue pos) tCont := ⟨ps_continue ⟩
theorem qs_expr (he : QE X e te) (hs : swapsWith e none pos.line X.env = pure false := by rfl) : QS X (.Expr e pos) (tDrop te) := ⟨ps_expr he.h hs⟩
theorem qs_ret (he : QE X e te) : QS X (.Return (some e) pos) (tRet te) := ⟨ps_ret he.h⟩
theorem qs_if {c : Expr} {a b : List Stmt} {tc : TT} (hc : QT X c tc) (ha : QSs X a t) (hb : QSs X b u) : QS X (.If c a b pos) (tIfS tc t u) := ⟨ps_if hc.h ha.h hb.h⟩
theorem qs_set {i : Nat} {x : Str} {e : Expr} {te : TE} {pos' : Pos} (hN : X.N.Nodup) (hi : X.N[i]? = some x) (hx : Loc X.env.scope x) (he : QE X e te) (hs : swapsWith e (some (.Name x pos')) pos.line X.env = pure false := by rfl) (hf : X.fn x = true ∨ X.env.scope.names.lookup x = some .local := by first | exact .inl rfl | exact .inr rfl | assumption) : QS X (.Assign [.Name x pos'] e pos) (tAsg te (gName i)) := ⟨ps_set hN hi hx he.h hs hf⟩
theorem qs_asg {tg e : Expr} {te : TE} {g : TG} (he : QE X e te) (hg : QG X tg g) (hs : swapsWithSole [tg] e pos.line X.env = pure false := by rfl) (hw : swappedStores [tg] e X.env = pure none := by rfl) (h1 : (assignEach [tg] X.env).map (·.2) = [assign tg X.env] := by rfl) : QS X (.Assign [tg] e pos) (tAsg te g) := ⟨ps_asg he.h hg.h hs hw h1⟩
theorem qs_par {i j : Nat} {x y : Str} {a b : Expr} {ta : TA} {px py pt : Pos} {kt k2 pt2} (hc : X.calm = true) (hN : X.N.Nodup) (hi : X.N[i]? = some x) (hj : X.N[j]? = some y) (hij : i ≠ j) (hx : X.env.scope.names.lookup x = some .local) (hy : X.env.scope.names.lookup y = some .local) (ha : QA X [a, b] ta) (hw : swappedStores [.Tuple [.Name x px, .Name y py] kt pt] (.Tuple [a, b] k2 pt2) X.env = pure (some [x, y])) (hs : swapsWithSole [.Tuple [.Name x px, .Name y py] kt pt] (.Tuple [a, b] k2 pt2) pos.line X.env = pure false := by rfl) : QS X (.Assign [.Tuple [.Name x px, .Name y py] kt pt] (.Tuple [a, b] k2 pt2) pos) (tPar i j ta) := ⟨ps_par hc hN hi hj hij hx hy ha.h hw hs⟩
theorem qs_fld (ha : QE X o ta) (hv : QE X value tv) (hs : swapsWith value (some (.Attribute o f pos')) pos.line X.env = pure false) : QS X (.Assign [.Attribute o f pos'] value pos) (sFld X.K ta tv f) := ⟨ps_fld ha.h hv.h hs⟩
theorem qs_while {c : Expr} {body : List Stmt} {tc : TT} {tb : TS} (hp : PassesOwn (model X.prog X.w) X.A X.env X.xe) (hc : QT X c tc) (hb : QSs X body tb) : QS X (.While c body [] pos) (tWhile tc tb) := ⟨ps_while hp hc.h hb.h⟩
theorem qs_for {iter : Expr} {body : List Stmt} {wi : TI} {g : TG} {tb : TS} {pos : Pos} (hp : PassesOwn (model X.prog X.w) X.A X.env X.xe) (hc : X.calm = true) (hi : QI X tg iter wi) (hg : QG X tg g) (hb : QSs X body tb) (hs : ∀ x, foldedSetIterable iter X.env x = pure x := by intro _; rfl) : QS X (.For tg iter body [] pos) (tFor wi g tb) := ⟨ps_for hp hc hi.h hg.h hb.h hs⟩
theorem qs_raiseD {X : Cx} {C S : Addr} {f x : Str} {E : L2.St → XK} {a : Expr} {ta : TE} {np cpos pos : Pos} (R : XR X.prog X.w X.K X.mg X.base S x f C) (hr : Room 2 X.A) (hg : Gl X x) (hc : Catches X E) (ha : QE X a ta) (hh : X.calm = true) (hdb : (x == ("__debug__" : Str)) = false := by decide) (he : starEach [a] X.env = (false, eval a X.env) :: starEach [] X.env := by rfl) : QS X (.Raise (some (.Call (.Name x np) [a] [] cpos)) none pos) (fun _ σ H => ta σ H fun y H1 => ∀ dx, H1 dx = none → E σ (.ref C) (some dx) (upd H1 dx (.xd [(f, y)]))) := ⟨ps_raiseD R hr hg hc ha.h hh hdb he⟩
theorem qs_join {X : Cx} {stt : Stmt} {t : TS} (h : QS X stt t) : QS X stt (fun D σ H => ∃ J : L2.St → Hp → Prop, t { D with nx := J } σ H ∧ ∀ σ' H', J σ' H' → D.nx σ' H') := ⟨ps_join h.h⟩
theorem qg_name {i : Nat} {x : Str} (hN : X.N.Nodup) (hi : X.N[i]? = some x) (hx : Loc X.env.scope x) (hf : X.fn x = true ∨ X.env.scope.names.lookup x = some .local := by first | exact .inl rfl | exact .inr rfl | assumption) : QG X (.Name x pos) (gName i) := ⟨pg_name hN hi hx hf⟩
theorem qg_tup {es : List Expr} {k : Nat} {t : TGs} {n : Nat} (hc : X.calm = true) (h : QGs X es t) (hn : (assignEach es X.env).length = n := by rfl) (hst : (assignEach es X.env).findIdx? (·.1) = none := by rfl) : QG X (.Tuple es k pos) (gTup X.K n t) := ⟨pg_tup hc h.h hn hst⟩
theorem qgs_nil  : QGs X [] gNil := ⟨pgs_nil ⟩
theorem qgs_cons {e : Expr} {es : List Expr} {t : TG} {u : TGs} (h1 : QG X e t) (h2 : QGs X es u) (hs : (assignEach (e :: es) X.env).map (·.2) = assign e X.env :: (assignEach es X.env).map (·.2) := by rfl) : QGs X (e :: es) (gCons t u) := ⟨pgs_cons h1.h h2.h hs⟩
theorem qi_list {l : Expr} {tl : TE} (hl : QE X l tl) : QI X tg l (iList X.K tl) := ⟨pi_list hl.h⟩
theorem qi_range1 {a : Expr} {ta : TA} {p pos : Pos} (hg : Gl X "range") (hm : X.mg "range" = none) (ha : QA X [a] ta) (hs : starEach [a] X.env = [(false, eval a X.env)] := by rfl) : QI X tg (.Call (.Name "range" p) [a] [] pos) (iRng1 ta) := ⟨pi_range1 hg hm ha.h hs⟩
theorem qi_rev {a : Expr} {ta : TA} {p pos : Pos} (hg : Gl X "reversed") (hm : X.mg "reversed" = none) (ha : QA X [a] ta) (hs : starEach [a] X.env = [(false, eval a X.env)] := by rfl) (hbt : bootBuiltins "reversed" = some (.type "reversed") := by decide +kernel) : QI X tg (.Call (.Name "reversed" p) [a] [] pos) (iRev ta) := ⟨pi_rev hg hm ha.h hs hbt⟩
theorem qv (i : Nat) {x : Str} {pos : Pos} (hN : X.N[i]? = some x := by rfl) (hv : Vis X.env.scope x := by first | exact Or.inl rfl | exact Or.inr (Or.inl rfl) | exact Or.inr (Or.inr rfl)) (hd : (x == ("__debug__" : Str)) = false := by decide) (hcd : (x == ("__classdict__" : Str)) = false := by decide) : QE X (.Name x pos) (tVar i) := ⟨pv i hN hv hd hcd⟩
/-- THE RULE for a def under its name -/
theorem def_of {P : Program} {w : World} {K : PySem.W.Frag} {mg : Str → Option Value} {base : Heap} {x : Str} {st : Stmt} {N ps : List Str} {k : Nat} {sp : Sp} (T : Th K mg x st)
    (hb : ∀ (kV doc pm : Value) (an : Option Addr) (cdv ct : Value) (us : List Value), us.length = ps.length → bindArgs (PySem.W.fnOf x x (defArgs st) (defBody st) (defScope st) .none kV doc pm an cdv ct) ⟨us, []⟩ = pure (ps.zip us))
    (S : FnScope N ps (defScope st)) (len : ∀ vs H Q E, sp vs H Q E → vs.length = ps.length)
    (hbody : ∀ (f : Addr) (cdv : Value) (A : Around) (outer : List Env) (s : Shared) (H : Hp) (vs : List V) (Q : VK) (E : XK), Room k (A.deeper (envOfC x (defScope st) s.heap.objs.size f cdv)) → sp vs H Q E →
      ∃ t, QSs (cxOf CX0 P w K mg base N x (defScope st) f cdv A outer s H E).nox (defBody st) t ∧ t { nx := fun _ H' => Q .non H', rt := Q } (start N vs) H) : Def P w K mg base CX0 (k + 1) x ps sp :=
  L6.def_of T hb S len fun f cdv A outer s H vs Q E hr h => let ⟨t, a, b⟩ := hbody f cdv A outer s H vs Q E hr h; ⟨t, a.h, b⟩
/-- .. that may raise -/
theorem def_ofX {P : Program} {w : World} {K : PySem.W.Frag} {mg : Str → Option Value} {base : Heap} {x : Str} {st : Stmt} {N ps : List Str} {k : Nat} {sp : Sp} (T : Th K mg x st)
    (hb : ∀ (kV doc pm : Value) (an : Option Addr) (cdv ct : Value) (us : List Value), us.length = ps.length → bindArgs (PySem.W.fnOf x x (defArgs st) (defBody st) (defScope st) .none kV doc pm an cdv ct) ⟨us, []⟩ = pure (ps.zip us))
    (S : FnScope N ps (defScope st)) (len : ∀ vs H Q E, sp vs H Q E → vs.length = ps.length)
    (hbody : ∀ (f : Addr) (cdv : Value) (A : Around) (outer : List Env) (s : Shared) (H : Hp) (vs : List V) (Q : VK) (E : XK), Room k (A.deeper (envOfC x (defScope st) s.heap.objs.size f cdv)) → sp vs H Q E →
      ∃ t, QSs (cxOf (CXe P w) P w K mg base N x (defScope st) f cdv A outer s H E) (defBody st) t ∧ t { nx := fun _ H' => Q .non H', rt := Q } (start N vs) H) : Def P w K mg base (CXe P w) (k + 1) x ps sp :=
  L6.def_ofX T hb S len fun f cdv A outer s H vs Q E hr h => let ⟨t, a, b⟩ := hbody f cdv A outer s H vs Q E hr h; ⟨t, a.h, b⟩
end QL


set_option maxRecDepth 100000
set_option linter.all false
set_option maxHeartbeats 4000000
set_option Elab.async false
namespace M03
open PySem L5
def tensL : List Str := ["", "x", "xx", "xxx", "xl", "l", "lx", "lxx", "lxxx", "xc"]
def onesL : List Str := ["", "i", "ii", "iii", "iv", "v", "vi", "vii", "viii", "ix"]
def numT (n : Int) : Str := (mulS "c" (n / 100) ++ tensL.getD (n / 10 % 10).toNat "") ++ onesL.getD (n % 10).toNat ""
def numS (n : Int) : Str := if Txt.endswith (numT n) "i" = true then Txt.slice (numT n) none (some (-1)) ++ "j" else numT n
def worths : List (Str × Int) := [("c", 100), ("l", 50), ("x", 10), ("v", 5), ("i", 1), ("j", 1)]
def wor (c : Nat) : Int := (worths.lookup ⟨#[c]⟩).getD 0
def worGo : List Nat → Int → Int → Int
  | [], t, _ => t
  | c :: r, t, b => if wor c = 0 then 0 else if wor c < b then worGo r (t - wor c) (wor c) else worGo r (t + wor c) (wor c)
def worS (x : Str) : Int := worGo x.cps.toList.reverse 0 0
def okN (n : Nat) : Bool := worS (numS ((n : Int) + 1)) == (n : Int) + 1 && decide ((numS ((n : Int) + 1)).length ≤ 12) && decide ((numT ((n : Int) + 1)).length ≤ 12)
theorem okN_all : (List.range 399).all okN = true := by decide +kernel
theorem mul_c (n : Int) (h0 : 0 ≤ n) (h1 : n ≤ 3) : (mulS "c" n).length ≤ 3 := by
  rcases (show n = 0 ∨ n = 1 ∨ n = 2 ∨ n = 3 by omega) with h | h | h | h <;> subst h <;> decide +kernel
theorem num_facts {n : Int} (h0 : 1 ≤ n) (h1 : n ≤ 399) : worS (numS n) = n ∧ (numS n).length ≤ 12 ∧ (numT n).length ≤ 12 := by
  have h := List.all_eq_true.mp okN_all (n - 1).toNat (List.mem_range.mpr (by omega))
  unfold okN at h
  rw [show (((n - 1).toNat : Nat) : Int) + 1 = n from by omega] at h
  rw [Bool.and_eq_true, Bool.and_eq_true] at h
  exact ⟨by simpa using h.1.1, of_decide_eq_true h.1.2, of_decide_eq_true h.2⟩
end M03


set_option maxRecDepth 100000
set_option linter.all false
set_option maxHeartbeats 1000000
set_option Elab.async false
namespace L7
open PySem PySem.Spec PyProof.Rows L2 L3 X8 M01 L6 L5
theorem gint_mk {K : PySem.W.Frag} {h : Heap} {mg : Str → Option Value} {x : Str} {i : Int} {tk : Tok} (X : K.In h) (G : h.Ns mainGlobals mg) (a : PySem.W.nsIn K mainGlobals x = some (some (.int i tk))) : ∃ tk, mg x = some (.int i tk) := ⟨tk, PySem.W.mg_of X G a⟩
theorem gstr_mk {K : PySem.W.Frag} {h : Heap} {mg : Str → Option Value} {x y : Str} {tk : Tok} (X : K.In h) (G : h.Ns mainGlobals mg) (a : PySem.W.nsIn K mainGlobals x = some (some (.str y tk))) : ∃ tk, mg x = some (.str y tk) := ⟨tk, PySem.W.mg_of X G a⟩
theorem gtup_mk {K : PySem.W.Frag} {h : Heap} {mg : Str → Option Value} {x : Str} {a : Addr} {o : Obj} {its : Array Value} {n : Nat} {xs : List V} (X : K.In h) (G : h.Ns mainGlobals mg) (e : PySem.W.nsIn K mainGlobals x = some (some (.ref a))) (l : K.lookup a = some o)
    (c : o.cls = .type "tuple") (d : o.data = .seq its n) (z : its.size ≤ sizeLine) (v : Vals xs its.toList) : ∃ a, mg x = some (.ref a) ∧ ∀ H, SqT K H a xs :=
  ⟨a, PySem.W.mg_of X G e, fun H => .inr ⟨o, its, n, l, c, d, z, v⟩⟩
theorem gtab_mk {K : PySem.W.Frag} {h : Heap} {mg : Str → Option Value} {x : Str} {a : Addr} {o : Obj} {es : Array DictEntry} {n : Nat} {D : List (Str × Int)} (X : K.In h) (G : h.Ns mainGlobals mg) (e : PySem.W.nsIn K mainGlobals x = some (some (.ref a))) (l : K.lookup a = some o)
    (ne : (a == sysModules) = false) (c : o.ExactDict) (d : o.data = .dict es n) (r : RowsK es.toList D) : ∃ a, mg x = some (.ref a) ∧ TabK K a D :=
  ⟨a, PySem.W.mg_of X G e, ne, o, es, n, l, c, d, r⟩
end L7
namespace QL
open PySem PySem.Spec PyProof.Rows L2 L3 X8 M01 L6 L5
theorem fn_law {P : Program} {w : World} {K : PySem.W.Frag} {mg : Str → Option Value} {base : Heap} {x : Str} {st : Stmt} {N ps : List Str} {k : Nat} {sp : Sp} {f : Addr} {fd : FuncData} (F : L2.Fun K x x st f fd)
    (S : FnScope N ps (defScope st)) (len : ∀ vs H Q E, sp vs H Q E → vs.length = ps.length)
    (hbody : ∀ (cdv : Value) (A : Around) (outer : List Env) (s : Shared) (H : Hp) (vs : List V) (Q : VK) (E : XK), Room k (A.deeper (envOfC x (defScope st) s.heap.objs.size f cdv)) → sp vs H Q E →
      ∃ t, QSs (cxOf CX0 P w K mg base N x (defScope st) f cdv A outer s H E).nox (defBody st) t ∧ t { nx := fun _ H' => Q .non H', rt := Q } (start N vs) H) : FnOk P w K mg base CX0 (k + 1) f fd ps sp :=
  F.ok S len fun cdv A outer s H vs Q E hr h => let ⟨t, a, b⟩ := hbody cdv A outer s H vs Q E hr h; ⟨t, a.h, b⟩
end QL


set_option maxRecDepth 100000
set_option linter.all false
set_option maxHeartbeats 1000000
set_option Elab.async false
namespace L8
open PySem PySem.Spec PyProof.Rows L2 L3 X8 M01 L6 L5 QL
abbrev St := L2.St
/-! ### [elt for x in iter] -/
/-- the block of a comprehension -/
def cxB (X : Cx) (NB : List Str) (scope : Scope) (cl : List (Str × Addr)) (C : Addr) (s : Shared) (H : Hp) (ex : List Addr) : Cx where
  prog := X.prog
  w := X.w
  K := X.K
  mg := X.mg
  base := X.base
  A := X.A
  N := NB
  s₀ := s
  H₀ := H
  env := compEnvC scope cl C X.env
  outer := X.stack
  stack := X.stack
  ex := ex
  fn := fun _ => false
  calm := X.calm
  pn := []
  xe := fun _ _ => False
def fv (σ : St) (fidx : List Nat) : St := fidx.map fun i => (σ[i]?).join
/-- what the cells of a comprehension are -/
structure Clo (X : Cx) (scope : Scope) (cl : List (Str × Addr)) : Prop where
  eq : closureFor scope X.env = pure cl
  sub : ∀ y c, cl.lookup y = some c → X.env.cells.lookup y = some c
  has : ∀ y, (y, NameKind.free) ∈ scope.names → ∃ c, cl.lookup y = some c
theorem lookup_mem {κ ν : Type} [BEq κ] [LawfulBEq κ] : ∀ {l : List (κ × ν)} {x : κ} {k : ν}, l.lookup x = some k → (x, k) ∈ l
  | [], _, _, h => by cases h
  | (y, j) :: r, x, k, h => by
    rw [List.lookup_cons] at h
    cases e : x == y with
    | true =>
      rw [e] at h
      have e1 : x = y := by simpa using e
      have e2 : j = k := Option.some.inj h
      subst e1 e2
      exact List.mem_cons_self
    | false =>
      rw [e] at h
      exact List.mem_cons_of_mem _ (lookup_mem h)
/-- of a relabelled scope: cell or free is free -/
theorem relabel_free {env : Env} : ∀ {names : List (Str × NameKind)} {x : Str} {k : NameKind}, (∀ y ∈ names, y.2 ≠ .cell) → (names.map fun (n, k) => if (k == NameKind.free && env.scope.kind == .function && env.kindOf n == some .cell) then (n, NameKind.cell) else (n, k)).lookup x = some k →
    (k = .cell ∨ k = .free) → names.lookup x = some .free
  | [], x, k, _, h, _ => by simp at h
  | (n, j) :: r, x, k, hc, h, hk => by
    have hr : ∀ y ∈ r, y.2 ≠ .cell := fun y hy => hc y (List.mem_cons_of_mem _ hy)
    have hj : j ≠ .cell := hc (n, j) List.mem_cons_self
    rw [List.map_cons] at h
    rw [List.lookup_cons]
    dsimp only at h
    split at h
    · rename_i q
      rw [List.lookup_cons] at h
      cases e : x == n with
      | true =>
        rw [Bool.and_eq_true, Bool.and_eq_true] at q
        have : j = .free := by simpa using q.1.1
        rw [this]
      | false =>
        rw [e] at h
        exact relabel_free hr h hk
    · rename_i q
      rw [List.lookup_cons] at h
      cases e : x == n with
      | true =>
        rw [e] at h
        have z : j = k := Option.some.inj h
        subst z
        rcases hk with z | z
        · exact absurd z hj
        · rw [z]
      | false =>
        rw [e] at h
        exact relabel_free hr h hk
section
variable {X : Cx} {pins : List (Addr × Obj)} {σ : St} {H2 : Hp} {s2 : Shared} {scope : Scope} {cl : List (Str × Addr)} {x : Str} {px pos : Pos} {elt iter : Expr} {fvs : List Str} {fidx : List Nat} {te : TE} {J : It} {fp : List Addr} {it : Addr} {tn : Nat → Heap → Prop}
  {RR : Value → Addr → Result → Shared → Prop} {E : Value → Shared → Prop}
theorem blk_ok (I2 : Inv X pins σ H2 s2) (hnex : X.ex = []) (hfp : ∀ b ∈ fp, FpOk X pins H2 b) (hex : ∀ b ∈ fp, ∃ o, s2.heap.get? b = some o) (cl0 : Clo X scope cl) (hcell : ∀ y ∈ scope.names, y.2 ≠ .cell) (hkind : scope.kind = .function) {C : Addr} (hC : s2.heap.objs.size ≤ C) :
    (cxB X (x :: fvs) scope cl C s2 H2 fp).Ok where
  mod := I2.ok.mod
  kind := hkind
  glob := I2.ok.glob
  blt := I2.ok.blt
  above := hC
  inj := fun a b c e1 e2 => I2.ok.inj a b c (cl0.sub a c e1) (cl0.sub b c e2)
  has := fun y h => by
    rcases h with h | h
    · exact cl0.has y (lookup_mem (relabel_free hcell h (.inl rfl)))
    · exact cl0.has y (lookup_mem (relabel_free hcell h (.inr rfl)))
  cab := fun _ _ z => nomatch z
  hd := I2.ok.hd
  frames := I2.ok.frames
  stk := .inl rfl
  exf := fun b hb => by
    obtain ⟨o, e⟩ := hex b hb
    exact ⟨Nat.ne_of_lt (Nat.lt_of_lt_of_le (Heap.lt_size e) hC), fun y c q => (hfp b hb).2.2.2.2.1 y c (cl0.sub y c q)⟩
  bs := I2.bs
  bsz := Nat.le_trans I2.ok.bsz I2.sz
  noex := fun b o e hb => by
    rcases (hfp b hb).2.2.2.1 with z | z
    · rw [hnex] at z; cases z
    · exact absurd (Nat.lt_of_lt_of_le (Heap.lt_size e) (Nat.le_trans I2.ok.bsz z)) (Nat.lt_irrefl _)
  exfs := fun b hb z => by
    rcases List.mem_cons.mp (I2.stkSub b z) with q | q
    · exact (hfp b hb).2.1 q
    · exact (hfp b hb).2.2.1 q
  funs := I2.stack
  frf := I2.stkFree
theorem relabel_notlocal {env : Env} : ∀ {names : List (Str × NameKind)} {x : Str}, names.lookup x = some .free → (names.map fun (n, k) => if (k == NameKind.free && env.scope.kind == .function && env.kindOf n == some .cell) then (n, NameKind.cell) else (n, k)).lookup x ≠ some .local
  | [], x, h => by simp at h
  | (n, j) :: r, x, h => by
    rw [List.lookup_cons] at h
    rw [List.map_cons]
    dsimp only
    cases e : x == n with
    | true =>
      rw [e] at h
      have : j = .free := Option.some.inj h
      subst this
      split
      · rw [List.lookup_cons, e]; intro z; cases z
      · rw [List.lookup_cons, e]; intro z; cases z
    | false =>
      rw [e] at h
      split
      · rw [List.lookup_cons, e]; exact relabel_notlocal h
      · rw [List.lookup_cons, e]; exact relabel_notlocal h
/-- where the free names stand -/
structure FvOk (X : Cx) (scope : Scope) (fvs : List Str) (fidx : List Nat) : Prop where
  at_ : ∀ (j : Nat) y, fvs[j]? = some y → ∃ i, fidx[j]? = some i ∧ X.N[i]? = some y ∧ (X.env.scope.names.lookup y = some .cell ∨ X.env.scope.names.lookup y = some .free) ∧ scope.names.lookup y = some .free
  len : fidx.length = fvs.length
theorem blk_inv (I2 : Inv X pins σ H2 s2) (ok : (cxB X (x :: fvs) scope cl C s2 H2 fp).Ok) (cl0 : Clo X scope cl) (F : FvOk X scope fvs fidx) (hx : scope.names.lookup x = some .local) (hC : s2.heap.objs.size ≤ C) {h1 : Heap} {tk : Nat} (k : ∀ b o, s2.heap.get? b = some o → h1.get? b = some o)
    (hn : h1.Ns C fun _ => none) : Inv (cxB X (x :: fvs) scope cl C s2 H2 fp) [] (none :: fv σ fidx) H2 { s2 with heap := h1, toks := tk } where
  ok := ok
  os := rfl
  bare := I2.bare
  base := Un.kept k
  loc := by
    refine ⟨_, hn, fun i y v e1 e2 e3 => ?_⟩
    cases i with
    | zero => cases e2
    | succ j =>
      have e1' : fvs[j]? = some y := e1
      have e2' : (fv σ fidx)[j]? = some (some v) := e2
      obtain ⟨i0, f1, f2, f3, f4⟩ := F.at_ j y e1'
      have e4 : (σ[i0]?).join = some v := by
        unfold fv at e2'
        rw [List.getElem?_map, f1] at e2'
        exact Option.some.inj e2'
      have e5 : σ[i0]? = some (some v) := by
        cases q : σ[i0]? with
        | none => rw [q] at e4; cases e4
        | some z => rw [q] at e4; exact congrArg some e4
      obtain ⟨m, hnm, hl⟩ := I2.loc
      obtain ⟨u, r, l⟩ := hl i0 y v f2 e5 (f3.elim (fun z => .inr (.inl z)) fun z => .inr (.inr z))
      refine ⟨u, r, .inr ?_⟩
      rcases l with ⟨q, _⟩ | ⟨_, c, ec, o, ho, hd⟩
      · rcases f3 with z | z
        · have q2 : X.env.scope.names.lookup y = some .local := q
          rw [z] at q2; cases q2
        · have q2 : X.env.scope.names.lookup y = some .local := q
          rw [z] at q2; cases q2
      · obtain ⟨c2, ec2⟩ := cl0.has y (lookup_mem f4)
        have := cl0.sub y c2 ec2
        rw [ec] at this
        cases this
        refine ⟨?_, c, ec2, o, k c o ho, hd⟩
        rcases e3 with z | z | z
        · exfalso
          have z' : (relabel scope X.env).names.lookup y = some .local := z
          exact relabel_notlocal f4 z'
        · exact .inl z
        · exact .inr z
  cell := fun y c e => by
    obtain ⟨v, o, ho, hd⟩ := I2.cell y c (cl0.sub y c e)
    exact ⟨v, o, k c o ho, hd⟩
  free := I2.hok.fresh hC
  freeC := fun y c e => I2.freeC y c (cl0.sub y c e)
  pin := fun p hp => nomatch hp
  hok := I2.hok.kept k
  len := by
    show (none :: fv σ fidx).length = (x :: fvs).length
    unfold fv
    rw [List.length_cons, List.length_map, F.len, List.length_cons]
/-- the block runs: what it comes to, turn by turn -/
def LcW (J : It) (fvals : St) (te : TE) (don : List V → Hp → Prop) (H1 : Hp) : Prop := ∃ W : Nat → Nat → List V → Hp → Prop, (∃ m, W 0 m [] H1) ∧ ∀ i m ys H, W i m ys H → ys.length < sizeLine ∧
  ((J.stop i H ∧ don ys H) ∨ (J.go i H ∧ ∃ N : List V → Hp → Prop, (∀ ys' H', N ys' H' → ∃ m', m' < m ∧ W (i + 1) m' ys' H') ∧ ∀ x H', J.yld i H x H' → te (some x :: fvals) H' fun v H'' => N (ys ++ [v]) H''))
abbrev lobj (its : List Value) (n : Nat) : Obj := { cls := .type "list", data := .seq its.toArray n }
theorem comp_blk {don : List V → Hp → Prop} (I2 : Inv X pins σ H2 s2) (hnex : X.ex = []) (hc : X.calm = true) (T : Turn X.prog X.w X.K (.Name x px) J fp it tn) (tn0 : tn 0 s2.heap) (hfp : ∀ b ∈ fp, FpOk X pins H2 b) (cl0 : Clo X scope cl) (F : FvOk X scope fvs fidx)
    (hcell : ∀ y ∈ scope.names, y.2 ≠ .cell) (hkind : scope.kind = .function) (hx : scope.names.lookup x = some .local) (hnd : (x :: fvs).Nodup) (he : ∀ C s H ex, QE (cxB X (x :: fvs) scope cl C s H ex) elt te) (hw : LcW J (fv σ fidx) te don H2)
    (hRR : ∀ D C s' H ys m, Inv X pins σ (upd H D (.lst ys)) s' → H D = none → s'.heap.Ns C m → FpOk X pins (upd H D (.lst ys)) C → don ys H → RR (.ref D) C (.ok .next) s') :
    wpAny (model X.prog X.w) X.A (newList []) (fun acc s₃ => wpAny (model X.prog X.w) X.A (newFunctionEnv scope X.env.globals cl [] X.env.qual none .none (some X.env)) (fun cenv s₄ =>
      codeAny (model X.prog X.w) X.A (.compStart (.ListComp elt [⟨.Name x px, iter, [], 0⟩] scope pos) 0 (.ref it) acc { cenv with scope := relabel scope X.env }) (RR acc cenv.locals) s₄) E s₃) E s2 := by
  refine wpAny_newObj_type (wpAny_newFunctionEnv hcell (by intro y hy; simp at hy) (fun h₁ hns₁ hsb₁ => ?_) hkind)
  dsimp only at hns₁ hsb₁ ⊢
  generalize hHD : s2.heap.push { cls := .type "list", dict := none, data := .seq ([] : List Value).toArray } = HD at hns₁ hsb₁ ⊢
  have hC : HD.objs.size = s2.heap.objs.size + 1 := by rw [← hHD, Heap.size_push]
  have hDC : s2.heap.objs.size ≠ HD.objs.size := by rw [hC]; exact Nat.ne_of_lt (Nat.lt_succ_self _)
  have old : ∀ b o, s2.heap.get? b = some o → h₁.get? b = some o := fun b o e => hsb₁.extBut b o (by rw [hC]; exact Nat.ne_of_lt (Nat.lt_succ_of_lt (Heap.lt_size e))) (Heap.get?_push_of_some _ (hHD ▸ Heap.get?_push_of_some _ e))
  have hacc : h₁.get? s2.heap.objs.size = some (lobj [] 0) := hsb₁.extBut _ _ hDC (Heap.get?_push_of_some _ (hHD ▸ Heap.get?_push_size _ rfl))
  have hex : ∀ b ∈ fp, ∃ o, s2.heap.get? b = some o := fun b hb => let ⟨o, e, _⟩ := T.obj 0 _ tn0 b hb; ⟨o, e⟩
  have hC2 : s2.heap.objs.size ≤ HD.objs.size := by rw [hC]; exact Nat.le_succ _
  have ok : (cxB X (x :: fvs) scope cl HD.objs.size s2 H2 fp).Ok := blk_ok I2 hnex hfp hex cl0 hcell hkind hC2
  have I4 : Inv (cxB X (x :: fvs) scope cl HD.objs.size s2 H2 fp) [] (none :: fv σ fidx) H2 { s2 with heap := h₁, toks := s2.toks + ([] : List (Str × Value)).length } := blk_inv I2 ok cl0 F hx hC2 old hns₁
  generalize hXB : cxB X (x :: fvs) scope cl HD.objs.size s2 H2 fp = XB at ok I4
  have eP : XB.prog = X.prog := by rw [← hXB]; rfl
  have eW : XB.w = X.w := by rw [← hXB]; rfl
  have eK : XB.K = X.K := by rw [← hXB]; rfl
  have eA : XB.A = X.A := by rw [← hXB]; rfl
  have eE : XB.env = compEnvC scope cl HD.objs.size X.env := by rw [← hXB]; rfl
  have eL : XB.env.locals = HD.objs.size := by rw [eE]; rfl
  have eS : XB.s₀ = s2 := by rw [← hXB]; rfl
  have eX : XB.ex = fp := by rw [← hXB]; rfl
  have eF : XB.fs = frs X.stack := by rw [← hXB]; rfl
  have eN : XB.N = x :: fvs := by rw [← hXB]; rfl
  have ePn : XB.pn = [] := by rw [← hXB]; rfl
  have eH : XB.H₀ = H2 := by rw [← hXB]; rfl
  have eCc : XB.calm = true := by rw [← hXB]; exact hc
  have eXe : XB.xe = fun _ _ => False := by rw [← hXB]; rfl
  have eCl : XB.env.cells = cl := by rw [eE]; rfl
  have hD0 : ∀ y c, XB.env.cells.lookup y = some c → c ≠ s2.heap.objs.size := fun y c e => by
    rw [eCl] at e
    obtain ⟨v, o, ho, _⟩ := I2.cell y c (cl0.sub y c e)
    exact Nat.ne_of_lt (Heap.lt_size ho)
  have hDfs : s2.heap.objs.size ∉ XB.fs := by
    rw [eF]
    intro z
    rcases List.mem_cons.mp (I2.stkSub _ z) with q | q
    · exact absurd I2.lt (by rw [← q]; exact Nat.lt_irrefl _)
    · exact I2.nofs (Nat.le_refl _) q
  -- what stays of the iterator
  have stat : ∀ {H : Hp} {pp : List (Addr × Obj)}, (∀ b ∈ fp, H b = none) → (∀ p ∈ pp, p.1 = s2.heap.objs.size) → ∀ b ∈ fp, FpOk XB pp H b := fun {H pp} hn hp b hb => by
    obtain ⟨o, e⟩ := hex b hb
    refine ⟨hn b hb, by rw [eL, hC]; exact Nat.ne_of_lt (Nat.lt_succ_of_lt (Heap.lt_size e)), ?_, .inl (by rw [eX]; exact hb), fun y c q => ?_, fun p hpp z => ?_⟩
    · rw [eF]
      intro z
      rcases List.mem_cons.mp (I2.stkSub b z) with q | q
      · exact (hfp b hb).2.1 q
      · exact (hfp b hb).2.2.1 q
    · rw [eCl] at q
      exact (hfp b hb).2.2.2.2.1 y c (cl0.sub y c q)
    · rw [ePn, List.nil_append] at hpp
      rw [hp p hpp] at z
      exact absurd (Heap.lt_size e) (by rw [← z]; exact Nat.lt_irrefl _)
  obtain ⟨W, ⟨m0, w0⟩, turn⟩ := hw
  let Inw : Nat → Shared → Prop := fun n s => ∃ i ys its k σx H, Inv XB [(s2.heap.objs.size, lobj its k)] (σx :: fv σ fidx) H s ∧ Vals ys its ∧ tn i s.heap ∧ (∀ b ∈ fp, H b = none) ∧ W i n ys H
  have I40 : Inv XB [(s2.heap.objs.size, lobj [] 0)] (none :: fv σ fidx) H2 { s2 with heap := h₁, toks := s2.toks + ([] : List (Str × Value)).length } := I4.pins_of fun p hp => by
    have e : p = (s2.heap.objs.size, lobj [] 0) := by simpa using hp
    subst e
    exact ⟨hacc, I2.hok.fresh (Nat.le_refl _), by rw [eL]; exact hDC, hDfs, fun v z => by cases z⟩
  have start : Inw m0 { s2 with heap := h₁, toks := s2.toks + ([] : List (Str × Value)).length } := ⟨0, [], [], 0, none, H2, I40, .nil, T.keep _ _ _ tn0 fun b _ o e => old b o e, fun b hb => (hfp b hb).1, w0⟩
  have hDlt : ∀ b ∈ fp, b ≠ s2.heap.objs.size := fun b hb => let ⟨o, e⟩ := hex b hb; Nat.ne_of_lt (Heap.lt_size e)
  have pd : ∀ {o : Obj} (p : Addr × Obj), p ∈ [(s2.heap.objs.size, o)] → p.1 = s2.heap.objs.size := fun p hp => by
    rw [List.mem_singleton.mp hp]
  have fin : ∀ s1 H ys its k σx, Inv XB [(s2.heap.objs.size, lobj its k)] (σx :: fv σ fidx) H s1 → Vals ys its → ys.length < sizeLine → don ys H → RR (.ref s2.heap.objs.size) HD.objs.size (.ok .next) s1 := fun s1 H ys its k σx I rv hz dn => by
    have un : Un (frs X.stack) fp H2 H s2.heap s1.heap := by
      have z := I.base
      rw [eF, eX, eH, eS] at z
      exact z
    have os : s1.os = s2.os := by
      have z := I.os
      rw [eS] at z
      exact z
    have hok : HOk X.prog X.w H s1.heap := by
      have z := I.hok
      rw [eP, eW] at z
      exact z
    have J1 : Inv X pins σ H s1 := I2.call' os un hok I.bare fun b hb => ⟨by
      rcases (hfp b hb).2.2.2.1 with z | z
      · exact .inl z
      · exact .inr z, (hfp b hb).2.1, (hfp b hb).2.2.2.2.1, (hfp b hb).2.2.2.2.2⟩
    obtain ⟨q1, q2, _⟩ := I.pin (s2.heap.objs.size, lobj its k) (by rw [ePn]; simp)
    have J2 : Inv X pins σ (upd H s2.heap.objs.size (.lst ys)) s1 := Inv.track J1 (I2.fpOk (Nat.le_refl _) q2) hnex (show ObjOk X.prog X.w _ s1.heap _ (.lst ys) from ⟨Nat.le_of_lt hz, its, k, rv, q1⟩)
    obtain ⟨m, hn, _⟩ := I.loc
    rw [eL] at hn
    refine hRR _ _ s1 H ys m J2 q2 hn (I2.fpOk hC2 ?_) dn
    rw [upd_ne (Ne.symm hDC)]
    have z := I.free
    rw [eL] at z
    exact z
  have loop : ∀ s₃ : Shared, s₃ = { s2 with heap := h₁, toks := s2.toks + ([] : List (Str × Value)).length } →
      codeAny (model X.prog X.w) X.A (.compLoop (.ListComp elt [⟨.Name x px, iter, [], 0⟩] scope pos) 0 (.ref it) (.ref s2.heap.objs.size) (compEnvC scope cl HD.objs.size X.env)) (RR (.ref s2.heap.objs.size) HD.objs.size) s₃ := by
    rintro s₃ rfl
    rw [← eE]
    refine codeAny_compLoop_tests Inw ?_ m0 start
    rintro n s ⟨i, ys, its, k, σx, H, I, rv, st, fr, wt⟩
    obtain ⟨hsz, tr⟩ := turn i n ys H wt
    rcases tr with ⟨stop, dn⟩ | ⟨go, N, hN, step⟩
    · have Td := T.done XB eP eW eK eCc i _ s _ H (notedBy (model X.prog X.w) X.A XB.env fun e s' => RR (.ref s2.heap.objs.size) HD.objs.size (.error e) s') I (stat fr pd) st stop
      rw [eA] at Td
      refine wpAny_mono Td (fun r s1 ⟨hr, I1⟩ => ?_) fun _ _ e => e
      subst hr
      exact fin s1 H ys its k σx I1 rv hsz dn
    · have Ti := T.item XB eP eW eK eCc i _ s _ H (notedBy (model X.prog X.w) X.A XB.env fun e s' => RR (.ref s2.heap.objs.size) HD.objs.size (.error e) s') I (stat fr pd) st go
      rw [eA] at Ti
      refine wpAny_mono Ti (fun r s1 ⟨u, hr, h4⟩ => ?_) fun _ _ e => e
      subst hr
      dsimp only
      have eq : assign (.Name x px) XB.env u = (letOwnedTupleGo (.Name x px) (.ref it) u >>= fun _ => assign (.Name x px) XB.env u) := rfl
      rw [eq]
      refine wpAny_bind (wpAny_mono h4 (fun _ s5 ⟨v, H5, I5, r5, y5, st5, fr5⟩ => ?_) fun _ _ e => e)
      have I5' := I5.pinned (stat fr5 pd) (T.obj _ _ st5)
      have lc : XB.env.scope.names.lookup x = some .local := by rw [eE]; exact lookup_relabel_local hx
      refine wpAny_assign_Name (store_ok (i := 0) (x := x) I5' (by rw [eN]; exact hnd) (by rw [eN]; rfl) (.inl lc) r5 (fun s6 I6 => ?_) (.inr lc))
      refine wpAny_tests_nil ?_
      simp only [if_true]
      have h7 := he HD.objs.size s2 H2 fp
      rw [hXB] at h7
      have h8 := h7.h _ s6 _ H5 _ I6 (step v H5 y5)
      rw [eP, eW, eA, eXe] at h8
      refine wpAny_mono h8 (fun u7 s7 ⟨v7, H7, I7, r7, n7⟩ => ?_) fun _ _ z => z.elim
      obtain ⟨q1, q2, q3, q4, q5⟩ := I7.pin (s2.heap.objs.size, lobj its k) (by rw [ePn]; simp)
      have fpin : ∀ b ∈ fp, ∀ o, s5.heap.get? b = some o → s7.heap.get? b = some o ∧ H7 b = none := fun b hb o e =>
        let z := I7.pin (b, o) (List.mem_append_right _ (List.mem_append_right _ (mem_pinsAt hb e))); ⟨z.1, z.2.1⟩
      refine append_at (hsz := by rw [List.size_toArray, ← rv.length]; exact Nat.le_of_lt hsz) q1 fun h9 hs9 hD9 => ?_
      obtain ⟨m', hm, w'⟩ := hN _ _ n7
      have I7a : Inv XB (pinsAt fp s5.heap) (some v :: fv σ fidx) H7 s7 := I7.pins_of fun p hp => I7.pin p (List.mem_append_right _ (List.mem_append_right _ hp))
      have pne : ∀ p ∈ XB.pn ++ pinsAt fp s5.heap, p.1 ≠ s2.heap.objs.size := fun p hp => by
        rw [ePn, List.nil_append] at hp
        exact hDlt _ (of_pinsAt hp).1
      have I8 : Inv XB (pinsAt fp s5.heap) (some v :: fv σ fidx) H7 { s7 with heap := h9 } := I7a.turned (t' := s7.toks) (fun b o hb e => hs9.extBut b o hb e) q2 q3 (.inr (by rw [eS]; exact Nat.le_refl _)) hD0 pne
      refine ⟨m', hm, i + 1, ys ++ [v7], its ++ [u7], k + 1, some v, H7, I8.pins_of fun p hp => ?_, rv.append (.cons r7 .nil), ?_, fun b hb => ?_, w'⟩
      · have e : p = (s2.heap.objs.size, lobj (its ++ [u7]) (k + 1)) := by simpa using hp
        subst e
        refine ⟨?_, q2, q3, q4, fun v z => by cases z⟩
        rw [hD9]
        simp
      · refine T.keep _ _ _ st5 fun b hb o e => ?_
        exact hs9.extBut b o (hDlt b hb) (fpin b hb o e).1
      · obtain ⟨o, e, _⟩ := T.obj _ _ st5 b hb
        exact (fpin b hb o e).2
  exact codeAny_compStart_list (loop _ rfl) (T.self _ 0 _ _ _ (T.keep _ _ _ tn0 fun b _ o e => old b o e) (loop _ rfl))
theorem clo_go {env : Env} : ∀ (names : List (Str × NameKind)) (cs : List (Str × Addr)), (∀ y, (y, NameKind.free) ∈ names → ∃ c, env.cells.lookup y = some c) →
    ∃ cl, (forIn names cs (fun (p : Str × NameKind) (cs : List (Str × Addr)) => (if (p.2 == NameKind.free) = true then (do let c ← cellOf env p.1; pure (ForInStep.yield ((p.1, c) :: cs))) else pure (ForInStep.yield cs) : Sem (ForInStep (List (Str × Addr)))))) = (pure cl : Sem (List (Str × Addr))) ∧
      (∀ y c, cl.lookup y = some c → env.cells.lookup y = some c ∨ cs.lookup y = some c) ∧ (∀ y, ((y, NameKind.free) ∈ names ∨ ∃ c, cs.lookup y = some c) → ∃ c, cl.lookup y = some c)
  | [], cs, _ => ⟨cs, rfl, fun y c e => .inr e, fun y h => h.elim (fun z => nomatch z) id⟩
  | (n, k) :: r, cs, h => by
    rw [List.forIn_cons]
    by_cases hk : (k == NameKind.free) = true
    · have kf : k = .free := by simpa using hk
      obtain ⟨c, hc⟩ := h n (by rw [kf]; exact List.mem_cons_self)
      obtain ⟨cl, e1, e2, e3⟩ := clo_go r ((n, c) :: cs) fun y hy => h y (List.mem_cons_of_mem _ hy)
      refine ⟨cl, ?_, fun y c' e => ?_, fun y hy => e3 y ?_⟩
      · simp only [hk, if_true]
        have : cellOf env n = pure c := by unfold cellOf; rw [hc]
        rw [this]
        exact e1
      · rcases e2 y c' e with z | z
        · exact .inl z
        · rw [List.lookup_cons] at z
          cases q : y == n with
          | true =>
            rw [q] at z
            have q' : y = n := by simpa using q
            subst q'
            exact .inl (hc.trans z)
          | false => rw [q] at z; exact .inr z
      · rcases hy with z | ⟨c', z⟩
        · rcases List.mem_cons.mp z with z | z
          · right
            have : y = n := congrArg Prod.fst z
            subst this
            exact ⟨c, by rw [List.lookup_cons, beq_self_eq_true]⟩
          · exact .inl z
        · right
          rw [List.lookup_cons]
          cases q : y == n with
          | true => exact ⟨c, rfl⟩
          | false => exact ⟨c', z⟩
    · obtain ⟨cl, e1, e2, e3⟩ := clo_go r cs fun y hy => h y (List.mem_cons_of_mem _ hy)
      refine ⟨cl, ?_, e2, fun y hy => e3 y ?_⟩
      · simp only [hk, Bool.false_eq_true, if_false]
        exact e1
      · rcases hy with z | z
        · rcases List.mem_cons.mp z with z | z
          · have : k = .free := (congrArg Prod.snd z).symm
            rw [this] at hk
            exact absurd rfl hk
          · exact .inl z
        · exact .inr z
theorem clo_mk {X : Cx} {scope : Scope} (h : ∀ y, (y, NameKind.free) ∈ scope.names → ∃ c, X.env.cells.lookup y = some c) : ∃ cl, Clo X scope cl := by
  obtain ⟨cl, e1, e2, e3⟩ := clo_go (env := X.env) scope.names [] h
  exact ⟨cl, (congrArg (fun m : Sem (List (Str × Addr)) => m >>= fun s => pure s) e1).trans rfl, fun y c e => (e2 y c e).elim id (fun z => nomatch z), fun y hy => e3 y (.inl hy)⟩
/-- what is asked of the scope, all of it by computation -/
structure LcOk (X : Cx) (scope : Scope) (x : Str) (fvs : List Str) (fidx : List Nat) : Prop where
  cell : ∀ y ∈ scope.names, y.2 ≠ .cell
  kind : scope.kind = .function
  names : ∀ y ∈ scope.names, y.2 = .local → scope.names.lookup y.1 = some .local
  hx : scope.names.lookup x = some .local
  nd : (x :: fvs).Nodup
  hfv : FvOk X scope fvs fidx
  free : ∀ y, (y, NameKind.free) ∈ scope.names → X.env.kindOf y = some .cell ∨ X.env.kindOf y = some .free
def tLC (wi : TI) (fidx : List Nat) (te : TE) : TE := fun σ H Q => wi σ H fun J H1 => LcW J (fv σ fidx) te (fun ys H => ∀ D, H D = none → Q (.ref D) (upd H D (.lst ys))) H1
theorem qe_lc (L : LcOk X scope x fvs fidx) (hnex : X.ex = []) (hc : X.calm = true) {wi : TI} (hi : QI X (.Name x px) iter wi) (he : ∀ cl C s H ex, QE (cxB X (x :: fvs) scope cl C s H ex) elt te)
    (hs : ∀ z, foldedSetIterable iter X.env z = pure z := by intro _; rfl) : QE X (.ListComp elt [⟨.Name x px, iter, [], 0⟩] scope pos) (tLC wi fidx te) := by
  refine ⟨fun pins s σ H Q I h => ?_⟩
  obtain ⟨cl, cl0⟩ := clo_mk (X := X) (scope := scope) fun y hy => I.ok.has y (L.free y hy)
  rw [eval_ListComp]
  refine wpAny_comprehension_free (use := none) rfl hs cl0.eq L.kind L.names (wpAny_mono (hi.h pins s σ H _ I h) (fun v s1 h1 => wpAny_mono h1 (fun itv s2 h2 => ?_) fun _ _ e => e) fun _ _ e => e)
  obtain ⟨it, fp, tn, J, H2, e, I2, T, st2, f2, hw⟩ := h2
  subst e
  refine comp_blk (RR := fun acc C => compPost (model X.prog X.w) X.A X.xe none (EP X pins σ Q) acc C) I2 hnex hc T st2 f2 cl0 L.hfv L.cell L.kind L.hx L.nd (he cl) hw fun D C s' H' ys m J1 hD hn fC dn => ?_
  refine ⟨m, hn, fun h' hs' => ?_⟩
  obtain ⟨c0, c1, c2, c3, c4, c5⟩ := fC
  exact ⟨.ref D, _, J1.turned (t' := s'.toks) (fun b o hb e => hs'.extBut b o hb e) c0 c1 c3 c4 c5, rfl, dn D hD⟩
/-- y = [..], y a local name -/
theorem qs_lc (L : LcOk X scope x fvs fidx) (hnex : X.ex = []) (hc : X.calm = true) {j : Nat} {y : Str} {py spos : Pos} (hN : X.N.Nodup) (hj : X.N[j]? = some y) (hy : X.env.scope.names.lookup y = some .local) {wi : TI} (hi : QI X (.Name x px) iter wi)
    (he : ∀ cl C s H ex, QE (cxB X (x :: fvs) scope cl C s H ex) elt te)
    (hsw : swapsWith (.ListComp elt [⟨.Name x px, iter, [], 0⟩] scope pos) (some (.Name y py)) spos.line X.env = pure true := by rfl)
    (hs : ∀ z, foldedSetIterable iter X.env z = pure z := by intro _; rfl) : QS X (.Assign [.Name y py] (.ListComp elt [⟨.Name x px, iter, [], 0⟩] scope pos) spos) (fun D σ H => tLC wi fidx te σ H fun v H' => D.nx (σ.set j (some v)) H') := by
  refine ⟨fun pins s σ H D I h => ?_⟩
  obtain ⟨cl, cl0⟩ := clo_mk (X := X) (scope := scope) fun y hy => I.ok.has y (L.free y hy)
  rw [exec_Assign_Name_used _ _ _ _ hsw]
  refine wpAny_bind (wpAny_standAt (wpAny_bind ?_))
  show wpAny _ X.A (do let _ ← comprehension (.ListComp elt [⟨.Name x px, iter, [], 0⟩] scope pos) scope X.env _ (newList []) false (eval iter X.env) (some (assign (.Name y py) X.env))) _ _ s
  refine wpAny_bind (wpAny_mono (wpAny_comprehension_free (use := some (assign (.Name y py) X.env)) (Q := fun _ s' => SP X pins D .next s') rfl hs cl0.eq L.kind L.names (wpAny_mono (hi.h pins s σ H _ I h) (fun v s1 h1 => wpAny_mono h1 (fun itv s2 h2 => ?_) fun _ _ e => e) fun _ _ e => e)) (fun _ s' hq => wpAny_pure (wpAny_pure hq)) fun _ _ e => e)
  obtain ⟨it, fp, tn, J, H2, e, I2, T, st2, f2, hw⟩ := h2
  subst e
  refine comp_blk (RR := fun acc C => compPost (model X.prog X.w) X.A X.xe (some (assign (.Name y py) X.env)) (fun _ s' => SP X pins D .next s') acc C) I2 hnex hc T st2 f2 cl0 L.hfv L.cell L.kind L.hx L.nd (he cl) hw fun D1 C s' H' ys m J1 hD hn fC dn => ?_
  show wpAny _ X.A (assign (.Name y py) X.env (.ref D1)) _ _ _
  refine wpAny_assign_Name (store_ok2 J1 hN hj (.inl hy) (show RelV (.ref D1) (.ref D1) from rfl) (fun s3 J3 ch => ?_) (.inr hy))
  obtain ⟨c0, c1, c2, c3, c4, c5⟩ := fC
  obtain ⟨a, sb, ha⟩ := ch
  have neC : C ≠ a := fun z => by
    rcases ha with q | q
    · exact c1 (z.trans q)
    · exact c4 _ _ q z.symm
  refine ⟨m, hn.sameBut sb neC, fun h' hs' => ?_⟩
  exact ⟨_, _, J3.turned (t' := s3.toks) (fun b o hb e => hs'.extBut b o hb e) c0 c1 c3 c4 c5, dn D1 hD⟩
end
end L8


set_option maxRecDepth 100000
set_option linter.all false
set_option maxHeartbeats 4000000
set_option Elab.async false
namespace L2
open PySem PySem.Spec PyProof.Rows

/-! ### lists of pairs as tables -/
section
variable {κ : Type} [DecidableEq κ]
def valV (kvs : List (κ × V)) (k : κ) : Option V := (kvs.find? fun kv => decide (kv.1 = k)).map (·.2)
/-- in its place, or at the end -/
def putK (kvs : List (κ × V)) (k : κ) (v : V) : List (κ × V) :=
  if (kvs.any fun kv => decide (kv.1 = k)) = true then kvs.map (fun kv => if kv.1 = k then (kv.1, v) else kv) else kvs ++ [(k, v)]
def dropK (kvs : List (κ × V)) (k : κ) : List (κ × V) := kvs.filter fun kv => decide (kv.1 ≠ k)

theorem valV_pos {p : κ × V} {r : List (κ × V)} {k : κ} (e : p.1 = k) : valV (p :: r) k = some p.2 := by simp [valV, List.find?_cons, e]
theorem valV_neg {p : κ × V} {r : List (κ × V)} {k : κ} (e : ¬ p.1 = k) : valV (p :: r) k = valV r k := by simp [valV, List.find?_cons, e]

theorem RelO.isSome_eq {o : Option V} {u : Option Value} (r : RelO o u) : o.isSome = u.isSome := by
  cases o with
  | none => cases u with
    | none => rfl
    | some _ => exact (show False from r).elim
  | some _ => cases u with
    | none => exact (show False from r).elim
    | some _ => rfl
theorem RelO.getD {o : Option V} {u : Option Value} {d : V} {d' : Value} (r : RelO o u) (rd : RelV d d') : RelV (o.getD d) (u.getD d') := by
  cases o with
  | none => cases u with
    | none => exact rd
    | some _ => exact (show False from r).elim
  | some _ => cases u with
    | none => exact (show False from r).elim
    | some _ => exact r

/-- raw tables of the same keys -/
theorem KV.val {kvs : List (κ × V)} {vs : List (κ × Value)} (r : KV kvs vs) (k : κ) : RelO (valV kvs k) (valueAt vs k) := by
  unfold KV at r
  induction r with
  | nil => exact True.intro
  | @cons p q ps qs h t ih =>
    obtain ⟨h1, h2⟩ := h
    by_cases e : p.1 = k
    · have e' : q.1 = k := h1.symm.trans e
      have b : valueAt (q :: qs) k = some q.2 := by simp [valueAt, List.find?_cons, e']
      rw [valV_pos e, b]; exact h2
    · have e' : ¬ q.1 = k := fun z => e (h1.trans z)
      have b : valueAt (q :: qs) k = valueAt qs k := by simp [valueAt, List.find?_cons, e']
      rw [valV_neg e, b]; exact ih
theorem KV.any {kvs : List (κ × V)} {vs : List (κ × Value)} (r : KV kvs vs) (k : κ) : (kvs.any fun kv => decide (kv.1 = k)) = vs.any fun kv => decide (kv.1 = k) := by
  unfold KV at r
  induction r with
  | nil => rfl
  | cons h t ih => rw [List.any_cons, List.any_cons, ih, h.1]
theorem KV.drop {kvs : List (κ × V)} {vs : List (κ × Value)} (r : KV kvs vs) (k : κ) : KV (dropK kvs k) (without vs k) := by
  unfold KV at r ⊢
  unfold dropK without
  induction r with
  | nil => exact .nil
  | @cons p q ps qs h t ih =>
    obtain ⟨h1, h2⟩ := h
    rw [List.filter_cons, List.filter_cons]
    by_cases e : p.1 = k
    · have a : ¬ decide (p.1 ≠ k) = true := by simp [e]
      have b : ¬ decide (q.1 ≠ k) = true := by simp [h1.symm.trans e]
      rw [if_neg a, if_neg b]; exact ih
    · have e' : ¬ q.1 = k := fun z => e (h1.trans z)
      have a : decide (p.1 ≠ k) = true := by simp [e]
      have b : decide (q.1 ≠ k) = true := by simp [e']
      rw [if_pos a, if_pos b]; exact .cons ⟨h1, h2⟩ ih
theorem KV.keys {kvs : List (κ × V)} {vs : List (κ × Value)} (r : KV kvs vs) : kvs.map (·.1) = vs.map (·.1) := by
  unfold KV at r
  induction r with
  | nil => rfl
  | cons h t ih => rw [List.map_cons, List.map_cons, ih, h.1]
theorem KV.length {kvs : List (κ × V)} {vs : List (κ × Value)} (r : KV kvs vs) : kvs.length = vs.length := Paired.length r
end


/-! ### a tracked dict, its keys ints and texts or tuples of these -/
theorem kV_is {P : Program} {w : World} {k : Key} {u : Value} (r : RelV (kV k) u) : (mixKind P w).is k u = true := by
  cases k with
  | inl i => obtain ⟨t, e⟩ := (show ∃ t, u = Value.int i t from r); subst e; exact mixKind_int P w i t
  | inr x => obtain ⟨t, e⟩ := (show ∃ t, u = Value.str x t from r); subst e; exact mixKind_str P w x t
theorem items_are {P : Program} {w : World} : ∀ {ks : List Key} {us : List Value}, Vals (ks.map kV) us → ItemsAre (mixKind P w) ks us
  | [], _, r => by rw [List.map_nil] at r; cases r; exact .nil
  | k :: ks, _, r => by
    rw [List.map_cons] at r
    cases r with
    | cons h t => exact .cons (kV_is h) (items_are t)

/-- raw entries of a dict with tuple keys -/
abbrev KT (H : Hp) : List (List Key × V) → List (List Key × Addr × Value) → Prop := Paired fun p q => p.1 = q.1 ∧ H q.2.1 = some (.tup (p.1.map kV)) ∧ RelV p.2 q.2.2
theorem KT.val {H : Hp} {kvs : List (List Key × V)} {xs : List (List Key × Addr × Value)} (r : KT H kvs xs) (k : List Key) : RelO (valV kvs k) ((atKey xs k).map (·.2)) := by
  induction r with
  | nil => exact True.intro
  | @cons p q ps qs h t ih =>
    obtain ⟨h1, _, h2⟩ := h
    by_cases e : p.1 = k
    · have e' : q.1 = k := h1.symm.trans e
      have b : atKey (q :: qs) k = some q.2 := by simp [atKey, List.find?_cons, e']
      rw [valV_pos e, b]; exact h2
    · have e' : ¬ q.1 = k := fun z => e (h1.trans z)
      have b : atKey (q :: qs) k = atKey qs k := by simp [atKey, List.find?_cons, e']
      rw [valV_neg e, b]; exact ih
theorem KT.keeps {H H' : Hp} {kvs : List (List Key × V)} {xs : List (List Key × Addr × Value)} (r : KT H kvs xs) (ht : ∀ b ys, H b = some (.tup ys) → H' b = some (.tup ys)) : KT H' kvs xs :=
  Paired.mapP r fun _ _ z => ⟨z.1, ht _ _ z.2.1, z.2.2⟩

section
variable {P : Program} {w : World} {H : Hp} {h : Heap} {a : Addr}
theorem rd_of {u : HO} (ok : HOk P w H h) (e : Rd H a u) : ObjOk P w H h a u := e.ok ok
theorem dk_rd {kvs : List (Key × V)} (ok : HOk P w H h) (e : Rd H a (.dK kvs)) : kvs.length ≤ sizeLine ∧ (a == sysModules) = false ∧ ∃ vs, KV kvs vs ∧ h.DictOf (mixKind P w) a vs :=
  show ObjOk P w H h a (.dK kvs) from rd_of ok e
/-- a tracked tuple of ints and texts is a key -/
theorem key_of {ks : List Key} (ok : HOk P w H h) (e : H a = some (.tup (ks.map kV))) : (tupleKind (mixKind P w)).is h ks a := by
  obtain ⟨_, its, r, o, h1, h2, n, h3⟩ := (show ObjOk P w H h a (.tup (ks.map kV)) from ok a _ e)
  exact ⟨o, its.toArray, n, h1, h2, h3, by simpa using items_are r⟩
theorem dt_rd {kvs : List (List Key × V)} (ok : HOk P w H h) (e : Rd H a (.dT kvs)) : kvs.length ≤ sizeLine ∧ (a == sysModules) = false ∧
    ∃ xs, KT H kvs xs ∧ h.DictOfH (tupleKind (mixKind P w)) a xs := by
  obtain ⟨z, y, xs, r, o, es, ep, h1, h2, h3, h4, h5⟩ := (show ObjOk P w H h a (.dT kvs) from rd_of ok e)
  refine ⟨z, y, xs, r, o, es, ep, h1, h2, h3, h4, fun x hx => ?_, h5⟩
  have all : ∀ {l : List (List Key × V)} {m : List (List Key × Addr × Value)}, KT H l m → ∀ x ∈ m, (tupleKind (mixKind P w)).is h x.1 x.2.1 := by
    intro l m q
    induction q with
    | nil => intro x hx; exact nomatch hx
    | @cons p q ps qs hq t ih =>
      intro x hx
      rcases List.mem_cons.mp hx with e | hx
      · subst e
        exact key_of ok (by rw [← hq.1]; exact hq.2.1)
      · exact ih x hx
  exact all r x hx
end

/-- what the dict at a holds at the key y -/
def DGet (H : Hp) (a : Addr) (y : V) (r : Option V) : Prop :=
  (∃ kvs k, Rd H a (.dK kvs) ∧ y = kV k ∧ r = valV kvs k) ∨ ∃ kvs k b, Rd H a (.dT kvs) ∧ y = .ref b ∧ H b = some (.tup (k.map kV)) ∧ r = valV kvs k
/-- the heap behind a[y] = v -/
def DPut (H : Hp) (a : Addr) (y v : V) (H' : Hp) : Prop :=
  (∃ kvs k, H a = some (.dK kvs) ∧ y = kV k ∧ kvs.length < sizeLine ∧ H' = upd H a (.dK (putK kvs k v))) ∨
  ∃ kvs k b, H a = some (.dT kvs) ∧ y = .ref b ∧ H b = some (.tup (k.map kV)) ∧ kvs.length < sizeLine ∧ H' = upd H a (.dT (putK kvs k v))
theorem DGet.k {H : Hp} {a : Addr} {kvs : List (Key × V)} {k : Key} (e : H a = some (.dK kvs)) : DGet H a (kV k) (valV kvs k) := .inl ⟨kvs, k, .inl e, rfl, rfl⟩
theorem DGet.t {H : Hp} {a b : Addr} {kvs : List (List Key × V)} {k : List Key} (e : H a = some (.dT kvs)) (eb : H b = some (.tup (k.map kV))) : DGet H a (.ref b) (valV kvs k) := .inr ⟨kvs, k, b, .inl e, rfl, eb, rfl⟩
theorem DPut.k {H : Hp} {a : Addr} {kvs : List (Key × V)} {k : Key} {v : V} (e : H a = some (.dK kvs)) (hl : kvs.length < sizeLine) : DPut H a (kV k) v (upd H a (.dK (putK kvs k v))) := .inl ⟨kvs, k, e, rfl, hl, rfl⟩
theorem DPut.t {H : Hp} {a b : Addr} {kvs : List (List Key × V)} {k : List Key} {v : V} (e : H a = some (.dT kvs)) (eb : H b = some (.tup (k.map kV))) (hl : kvs.length < sizeLine) :
    DPut H a (.ref b) v (upd H a (.dT (putK kvs k v))) := .inr ⟨kvs, k, b, e, rfl, eb, hl, rfl⟩


section
variable {X : Cx} {pins : List (Addr × Obj)} {σ : St} {H : Hp} {s : Shared} {a : Addr} {y v : V} {u r : Value} {o : Option V} {A : Around} {E : Value → Shared → Prop}

theorem Inv.big (I : Inv X pins σ H s) : sysModules < s.heap.objs.size := by
  have h : mainGlobals < s.heap.objs.size := (I.mod.glob.keeps I.bk).lt
  exact Nat.lt_trans (by decide) h

/-- y in d -/
theorem d_in {Q : Value → Shared → Prop} (hu : A.units + 1 < cLine) (I : Inv X pins σ H s) (g : DGet H a y o) (ry : RelV y u) (h : ∀ s', Inv X pins σ H s' → Q (.bool o.isSome) s') :
    wpAny (model X.prog X.w) A (compareOp .In u (.ref a)) Q E s := by
  rcases g with ⟨kvs, k, e, ey, l⟩ | ⟨kvs, k, b, e, ey, eb, l⟩
  · subst ey
    obtain ⟨z, hd, vs, rel, dd⟩ := dk_rd I.hok e
    refine wpAny_in_of (kV_is ry) hd dd.mapOf ?_
    rw [← (rel.val k).isSome_eq, ← l]
    exact h _ (I.tok _)
  · subst ey
    cases (show u = Value.ref b from ry)
    obtain ⟨z, hd, xs, rel, dd⟩ := dt_rd I.hok e
    refine wpAny_in_heap (tupleKind_room_in1 hu) (key_of I.hok eb) hd dd ?_
    have q := (rel.val k).isSome_eq
    rw [Option.isSome_map] at q
    rw [← q, ← l]
    exact h _ (I.tok _)
end

section
variable {X : Cx} {pins : List (Addr × Obj)} {σ : St} {H : Hp} {s : Shared} {a : Addr} {kvs : List (Key × V)} {k : Key} {u : Value} {A : Around} {E : Value → Shared → Prop}
end


/-! ### readings and rules -/
/-- the element of a subscription, not a slice -/
def NoSl (i : Expr) : Prop := ∀ ov iv, subscripted i false ov iv = operate [ov, iv] (getItem ov iv)


/-- d[y] -/
def tDGet (td ty : TE) : TE := fun σ H Q => td σ H fun x H1 => ty σ H1 fun y H2 => ∃ a v, x = .ref a ∧ DGet H2 a y (some v) ∧ Q v H2
/-- y in d, y not in d -/
def tDIn (ty td : TE) : TE := fun σ H Q => ty σ H fun y H1 => td σ H1 fun x H2 => ∃ a o, x = .ref a ∧ DGet H2 a y o ∧ Q (.bl o.isSome) H2
def tDNotIn (ty td : TE) : TE := fun σ H Q => ty σ H fun y H1 => td σ H1 fun x H2 => ∃ a o, x = .ref a ∧ DGet H2 a y o ∧ Q (.bl (!o.isSome)) H2
/-- d[y] = v -/
def sDPut (td ty tv : TE) : TS := fun D σ H => tv σ H fun v H1 => td σ H1 fun x H2 => ty σ H2 fun y H3 => ∃ a H4, x = .ref a ∧ DPut H3 a y v H4 ∧ D.nx σ H4
/-- d[y] op= v -/
def sDAug (td ty tv : TE) (rd : V → V → Hp → VK → Prop) : TS := fun D σ H => td σ H fun x H1 => ty σ H1 fun y H2 => ∃ a v, x = .ref a ∧ DGet H2 a y (some v) ∧
  tv σ H2 fun y2 H3 => rd v y2 H3 fun z H4 => ∃ H5, DPut H4 a y z H5 ∧ D.nx σ H5
/-- del d[y] -/
def sDDel (td ty : TE) : TS := fun D σ H => td σ H fun x H1 => ty σ H1 fun y H2 => ∃ a kvs k, x = .ref a ∧ H2 a = some (.dK kvs) ∧ y = kV k ∧ (valV kvs k).isSome = true ∧ D.nx σ (upd H2 a (.dK (dropK kvs k)))

section
variable {X : Cx} {o i e value : Expr} {pos pos' tpos : Pos} {td ty tv : TE}
end


/-! ### displays -/
/-- {}, to be a dict of the kind that is wanted -/
def tDNewK : TE := fun _ H Q => ∀ p, H p = none → Q (.ref p) (upd H p (.dK []))
def tDNewT : TE := fun _ H Q => ∀ p, H p = none → Q (.ref p) (upd H p (.dT []))
section
variable {X : Cx} {pos : Pos}
end

/-- the pairs of a display, from the left -/
def tPairs : List (TE × TE) → St → Hp → (List (V × V) → Hp → Prop) → Prop
  | [], _, H, Q => Q [] H
  | (tk, tv) :: r, σ, H, Q => tk σ H fun x H1 => tv σ H1 fun y H2 => tPairs r σ H2 fun ps H3 => Q ((x, y) :: ps) H3
abbrev VV : List (V × V) → List (Value × Value) → Prop := Paired fun p q => RelV p.1 q.1 ∧ RelV p.2 q.2
def PPs (X : Cx) (pos : Pos) (keys : List (Option Expr)) (values : List Expr) (trs : List (TE × TE)) : Prop :=
  ∀ (pins : List (Addr × Obj)) (s : Shared) (σ : St) (H : Hp) (Q : List (V × V) → Hp → Prop), Inv X pins σ H s → tPairs trs σ H Q →
    wpAny (model X.prog X.w) X.A (evalPairs (pairTrees keys values X.env pos)) (fun vs s' => ∃ ps H', Inv X pins σ H' s' ∧ VV ps vs ∧ Q ps H') X.xe s

def mergeK (kvs more : List (Key × V)) : List (Key × V) := more.foldl (fun acc kv => putK acc kv.1 kv.2) kvs
/-- {k: v, ..} with keys ints and texts; the new dict stands empty while the pairs are made -/
def tDisp (trs : List (TE × TE)) : TE := fun σ H Q => ∀ p, H p = none → tPairs trs σ (upd H p (.dK [])) fun ps H2 => H2 p = some (.dK []) ∧ ∃ kvs : List (Key × V), ps = kvs.map (fun kv => (kV kv.1, kv.2)) ∧ kvs.length ≤ 15 ∧ Q (.ref p) (upd H2 p (.dK (mergeK [] kvs)))


/-! ### methods -/
/-- a method call o.m(e) of a built-in, with one argument: what must be seen of the text -/
structure M1 (X : Cx) (o : Expr) (m : Str) (apos : Pos) (e : Expr) (cpos : Pos) : Prop where
  base : attributeBase o m X.env (eval o X.env) = eval o X.env
  few : ((backTo cpos (starEach [e] X.env)).all (fun x => !x.1) && (backToKw cpos (keywordEach [] X.env)).all (fun x => x.1.isSome)
    && decide (([e] : List Expr).length + ([] : List Keyword).length + (if ([] : List Keyword).isEmpty then 0 else 1) < 30)) = true
  line : (apos.endLine == cpos.line) = true
  trees : backTo cpos (starEach [e] X.env) = [(false, eval e X.env)]
structure M2 (X : Cx) (o : Expr) (m : Str) (apos : Pos) (e f : Expr) (cpos : Pos) : Prop where
  base : attributeBase o m X.env (eval o X.env) = eval o X.env
  few : ((backTo cpos (starEach [e, f] X.env)).all (fun x => !x.1) && (backToKw cpos (keywordEach [] X.env)).all (fun x => x.1.isSome)
    && decide (([e, f] : List Expr).length + ([] : List Keyword).length + (if ([] : List Keyword).isEmpty then 0 else 1) < 30)) = true
  line : (apos.endLine == cpos.line) = true
  trees : backTo cpos (starEach [e, f] X.env) = [(false, eval e X.env), (false, eval f X.env)]

/-- a is a dict, whatever its keys -/
def IsD (H : Hp) (a : Addr) : Prop := (∃ kvs, Rd H a (.dK kvs)) ∨ ∃ kvs, Rd H a (.dT kvs)

section
variable {X : Cx} {pins : List (Addr × Obj)} {σ : St} {H : Hp} {s : Shared} {a : Addr} {y d : V} {u r : Value} {o : Option V} {A : Around} {E : Value → Shared → Prop}
end

def tDGet1 (td ty : TE) : TE := fun σ H Q => td σ H fun x H1 => ∃ a, x = .ref a ∧ IsD H1 a ∧ ty σ H1 fun y H2 => ∃ o, DGet H2 a y o ∧ Q (o.getD .non) H2
def tDGet2 (td ty tx : TE) : TE := fun σ H Q => td σ H fun x H1 => ∃ a, x = .ref a ∧ IsD H1 a ∧ ty σ H1 fun y H2 => tx σ H2 fun z H3 => ∃ o, DGet H3 a y o ∧ Q (o.getD z) H3
/-- d.pop(k): there; d.pop(k, x): there or not -/
def tDPop1 (td ty : TE) : TE := fun σ H Q => td σ H fun x H1 => ∃ a, x = .ref a ∧ IsD H1 a ∧ ty σ H1 fun y H2 => ∃ kvs k v, H2 a = some (.dK kvs) ∧ y = kV k ∧ valV kvs k = some v ∧ Q v (upd H2 a (.dK (dropK kvs k)))
def tDPop2 (td ty tx : TE) : TE := fun σ H Q => td σ H fun x H1 => ∃ a, x = .ref a ∧ IsD H1 a ∧ ty σ H1 fun y H2 => tx σ H2 fun z H3 => ∃ kvs k, H3 a = some (.dK kvs) ∧ y = kV k ∧
  (∀ v, valV kvs k = some v → Q v (upd H3 a (.dK (dropK kvs k)))) ∧ (valV kvs k = none → Q z H3)
section
variable {X : Cx} {o e f : Expr} {apos cpos : Pos} {td ty tx : TE}
end

/-! ### dict(d): a copy -/
section
variable {X : Cx} {pins : List (Addr × Obj)} {σ : St} {H : Hp} {s : Shared} {a : Addr} {kvs : List (Key × V)} {A : Around} {E : Value → Shared → Prop}
end


section
variable {X : Cx} {pins : List (Addr × Obj)} {σ : St} {H : Hp} {s : Shared} {a : Addr} {y : V} {u : Value} {A : Around} {E : Value → Shared → Prop}
end
end L2


set_option maxRecDepth 100000
set_option linter.all false
set_option maxHeartbeats 1000000
set_option Elab.async false
namespace L9
open PySem PySem.Spec PyProof.Rows L2 L3 X8 M01 L6 L5 QL
section
variable {X : Cx}
def lcCheck (sc : Scope) (N : List Str) (scope : Scope) (x : Str) (fvs : List Str) (fidx : List Nat) : Bool :=
  decide (∀ y ∈ scope.names, y.2 ≠ .cell) && decide (scope.kind = .function) && decide (∀ y ∈ scope.names, y.2 = .local → scope.names.lookup y.1 = some .local) && decide (scope.names.lookup x = some .local) && decide ((x :: fvs).Nodup) &&
    decide (fidx.length = fvs.length) && decide (∀ j ∈ List.range fvs.length, ∃ y ∈ fvs[j]?, ∃ i ∈ fidx[j]?, N[i]? = some y ∧ (sc.names.lookup y = some .cell ∨ sc.names.lookup y = some .free) ∧ scope.names.lookup y = some .free) &&
    decide (∀ p ∈ scope.names, p.2 = .free → sc.names.lookup p.1 = some .cell ∨ sc.names.lookup p.1 = some .free)
theorem lc_mk {scope : Scope} {x : Str} {fvs : List Str} {fidx : List Nat} (sc : Scope) (N : List Str) (hX : X.env.scope = sc) (hN : X.N = N) (c : lcCheck sc N scope x fvs fidx = true) : L8.LcOk X scope x fvs fidx := by
  unfold lcCheck at c
  simp only [Bool.and_eq_true, decide_eq_true_eq] at c
  obtain ⟨⟨⟨⟨⟨⟨⟨c1, c2⟩, c3⟩, c4⟩, c5⟩, c6⟩, c7⟩, c8⟩ := c
  refine ⟨c1, c2, c3, c4, c5, ⟨fun j y e => ?_, c6⟩, fun y hy => ?_⟩
  · have hj : j < fvs.length := (List.getElem?_eq_some_iff.mp e).1
    obtain ⟨y', hy', i, hi, h1, h2, h3⟩ := c7 j (List.mem_range.mpr hj)
    have e1 : fvs[j]? = some y' := hy'
    rw [e] at e1
    cases e1
    exact ⟨i, hi, by rw [hN]; exact h1, by rw [hX]; exact h2, h3⟩
  · have z := c8 _ hy rfl
    rw [← hX] at z
    exact z
theorem strs_of : ∀ {ss : List Str} {us : List Value}, Vals (ss.map V.str) us → StrsAre us ss
  | [], _, r => by cases r; exact .nil
  | s :: r, us, h => by
    rw [List.map_cons] at h
    cases h with
    | cons h1 h2 =>
      obtain ⟨t, rfl⟩ := h1
      exact .cons s t (strs_of h2)
theorem mt_join : MtR X "str.join" (fun x xs H Q => ∃ sep a ss, x = .str sep ∧ xs = [.ref a] ∧ SqL X.K H a (ss.map V.str) ∧ (ss.map (·.length)).sum + ss.length * sep.length ≤ 16777216 ∧ Q (.str (Txt.join sep ss)) H) := by
  intro pins s σ H x xs v us Q I rx rs h
  obtain ⟨sep, a, ss, rfl, rfl, ha, hz, q⟩ := h
  obtain ⟨t, rfl⟩ := rx
  obtain ⟨u, rfl, ru⟩ := vals1 rs
  cases ru
  obtain ⟨its, rv, p, _⟩ := I.list ha
  exact join_list p.isList (by simpa using strs_of rv) hz fun t' k => ⟨.str _, H, I.tok k, ⟨t', rfl⟩, q⟩
end
end L9


set_option maxRecDepth 100000
set_option linter.all false
set_option maxHeartbeats 1000000
set_option Elab.async false
namespace L10
open PySem PySem.Spec PyProof.Rows L2 L3 X8 M01 L6 L5 QL
theorem sameUpd {H : Hp} {r : Addr} {o : HO} (h : H r = none) : Same H (upd H r o) := fun b u e => by rw [upd_ne (ne_of_none e h)]; exact e
/-! ### a display of pairs (number, text) -/
inductive C2 : List Expr → List (Int × Str) → Prop
  | nil : C2 [] []
  | cons {i : Int} {x : Str} {j k m : Nat} {p q r : Pos} {es : List Expr} {ps : List (Int × Str)} : C2 es ps → C2 (.Tuple [.Constant (.int i) j p, .Constant (.str x) k q] m r :: es) ((i, x) :: ps)
inductive Prs (H : Hp) : List Addr → List (Int × Str) → Prop
  | nil : Prs H [] []
  | cons {a : Addr} {i : Int} {x : Str} {as : List Addr} {ps : List (Int × Str)} : H a = some (.tup [.int i, .str x]) → Prs H as ps → Prs H (a :: as) ((i, x) :: ps)
theorem Prs.mono {H H' : Hp} (s : Same H H') {as : List Addr} {ps : List (Int × Str)} (h : Prs H as ps) : Prs H' as ps := by
  induction h with
  | nil => exact .nil
  | cons e _ ih => exact .cons (s _ _ e) ih
theorem Prs.at_ {H : Hp} {as : List Addr} {ps : List (Int × Str)} (h : Prs H as ps) : ∀ {i : Nat} {v : V}, (as.map V.ref)[i]? = some v → ∃ a n x, v = .ref a ∧ ps[i]? = some (n, x) ∧ H a = some (.tup [.int n, .str x]) := by
  induction h with
  | nil => intro i v e; cases e
  | @cons a n x as ps e _ ih =>
    intro i v ev
    cases i with
    | zero => exact ⟨a, n, x, (Option.some.inj ev).symm, rfl, e⟩
    | succ j => exact ih ev
theorem Prs.len {H : Hp} {as : List Addr} {ps : List (Int × Str)} (h : Prs H as ps) : as.length = ps.length := by
  induction h with
  | nil => rfl
  | cons _ _ ih => rw [List.length_cons, List.length_cons, ih]
def tPrs (ps : List (Int × Str)) : TA := fun _ H Q => ∀ as H', Same H H' → Prs H' as ps → Q (as.map V.ref) H'
theorem pa_prs {X : Cx} {es : List Expr} {ps : List (Int × Str)} (h : C2 es ps) : PA X es (tPrs ps) := by
  induction h with
  | nil => intro pos pins s σ H Q I q; exact pa_nil pos pins s σ H Q I (q [] H (Same.refl H) .nil)
  | @cons i x j k m p q r es ps _ ih =>
    intro pos pins s σ H Q I hq
    refine (pa_cons (pe_tup (pa_cons pe_int (pa_cons pe_str pa_nil))) ih) pos pins s σ H Q I ?_
    refine ⟨(by show 2 ≤ sizeLine; decide), fun a ha as H' sm pr => ?_⟩
    exact hq (a :: as) H' (fun b o e => sm b o (sameUpd ha b o e)) (.cons (sm _ _ upd_same) pr)
theorem qa_prs {X : Cx} {es : List Expr} {ps : List (Int × Str)} (h : C2 es ps) : QA X es (tPrs ps) := ⟨pa_prs h⟩
/-! ### comprehensions over a list, over a range -/
theorem lc_range {lo : Int} {n : Nat} {te : TE} {fvals : L2.St} {don : List V → Hp → Prop} {H : Hp} (Pv : Nat → List V → Hp → Prop) (h0 : Pv 0 [] H) (hl : ∀ i ys H, i ≤ n → Pv i ys H → ys.length < sizeLine)
    (hs : ∀ i ys H, i < n → Pv i ys H → te (some (.int (lo + i)) :: fvals) H fun v H' => Pv (i + 1) (ys ++ [v]) H') (hd : ∀ ys H, Pv n ys H → don ys H) : L8.LcW (Itr lo n) fvals te don H := by
  refine ⟨fun i m ys H => m = n - i ∧ i ≤ n ∧ Pv i ys H, ⟨n, by simp, Nat.zero_le _, h0⟩, ?_⟩
  rintro i m ys H ⟨rfl, hi, p⟩
  refine ⟨hl i ys H hi p, ?_⟩
  by_cases hlt : i < n
  · refine .inr ⟨hlt, Pv (i + 1), fun ys' H' p' => ⟨n - (i + 1), by omega, rfl, hlt, p'⟩, fun x H' y => ?_⟩
    obtain ⟨e, y⟩ := y
    subst e y
    exact hs i ys _ hlt p
  · have e : i = n := by omega
    subst e
    exact .inl ⟨Nat.le_refl _, hd ys H p⟩
theorem join_len (sep : Str) (ss : List Str) : (Txt.join sep ss).length ≤ (ss.map (·.length)).sum + ss.length * sep.length := by
  show (Builtin.Str.glued sep ss).length ≤ _
  rw [StrLaws.glued_eq_join]
  exact StrLaws.join_length_le sep ss
end L10


set_option maxRecDepth 100000
set_option linter.all false
set_option maxHeartbeats 1000000
set_option Elab.async false
namespace L11
open PySem PySem.Spec PyProof.Rows L2 L3 X8 M01 L6 L5 QL
/-! ### for sign in text -/
def Ist (x : Str) : It := ⟨fun i _ => i < x.length, fun i H v H' => H' = H ∧ ∃ c, x.cps[i]? = some c ∧ v = .str ⟨#[c]⟩, fun i _ => x.length ≤ i⟩
theorem turn_str {P : Program} {w : World} {K : PySem.W.Frag} {tg : Expr} (it : Addr) (x : Str) (t : Tok) (T : String) (hT : ["enumerate", "zip", "dict_itemiterator", "dict_reverseitemiterator", "odict_iterator", "itertools.zip_longest", "itertools.pairwise"].contains T = false)
    (W : ∀ A : Around, A.handled = none → Walks P w A it [it] [it] x.cps.size (SignAt x) (fun i h => h.IsStrIter it T x t i))
    (hself : ∀ (A : Around) (i : Nat) (s : Shared) (Q : Value → Shared → Prop) (E : Value → Shared → Prop), s.heap.IsStrIter it T x t i → Q (.ref it) s → wpAny (model P w) A (pyIter (.ref it)) Q E s) : Turn P w K tg (Ist x) [it] it (fun i h => i ≤ x.length ∧ h.IsStrIter it T x t i) where
  mem := by simp
  obj := fun i h st b hb => by
    have e : b = it := by simpa using hb
    subst e
    obtain ⟨o, e, c, d⟩ := st.2
    exact ⟨o, e, fun v z => by rw [d] at z; cases z⟩
  keep := fun i h h' st k => ⟨st.1, let ⟨o, e, r⟩ := st.2; ⟨o, k it (by simp) o e, r⟩⟩
  item := by
    intro X hP hw hK hc i pins s σ H E I hf st hg
    subst hP hw hK
    obtain ⟨f0, f1, f2, f3, f4, f5⟩ := hf it (by simp)
    have hi : i < x.length := hg
    refine (W X.A (I.ok.hd hc)).item i s _ _ hi st.2 fun v h' tk hv st' kk => ?_
    obtain ⟨c, u, e1, rfl⟩ := hv
    have I1 : Inv X pins σ H { s with heap := h', toks := tk } := I.turned (fun b o hb e => kk b o (by simpa using hb) e) f0 f1 f3 f4 f5
    obtain ⟨o, eo, co, d⟩ := id st'
    exact ⟨_, rfl, go_of (s := { s with heap := h', toks := tk }) (n := T) eo co d hT ⟨.str ⟨#[c]⟩, H, I1, ⟨u, rfl⟩, ⟨rfl, c, e1, rfl⟩, ⟨hi, st'⟩, fun b hb => (hf b hb).1⟩⟩
  done := by
    intro X hP hw hK hc i pins s σ H E I hf st hg
    subst hP hw hK
    obtain ⟨f0, f1, f2, f3, f4, f5⟩ := hf it (by simp)
    have hi : i = x.cps.size := Nat.le_antisymm st.1 hg
    have st2 := st.2
    rw [hi] at st2
    exact (W X.A (I.ok.hd hc)).done s _ _ st2 fun h' tk kk => ⟨rfl, I.turned (fun b o hb e => kk b o (by simpa using hb) e) f0 f1 f3 f4 f5⟩
  self := fun A i s Q E st h => hself A i s Q E st.2 h
section
variable {X : Cx} {tg : Expr}
def iStr (te : TE) : TI := fun σ H R => te σ H fun x H1 => ∃ z, x = .str z ∧ R (Ist z) H1
theorem pi_str {a : Expr} {te : TE} (ha : PE X a te) : PI X tg a (iStr te) := by
  intro pins s σ H R I h
  refine thn (ha pins s σ H _ I h) fun v s1 ⟨x, H1, I1, r1, q1⟩ => ?_
  obtain ⟨z, rfl, q⟩ := q1
  obtain ⟨t, rfl⟩ := r1
  have fin : ∀ (T : String), ["enumerate", "zip", "dict_itemiterator", "dict_reverseitemiterator", "odict_iterator", "itertools.zip_longest", "itertools.pairwise"].contains T = false →
      (∀ A : Around, A.handled = none → Walks X.prog X.w A s1.heap.objs.size [s1.heap.objs.size] [s1.heap.objs.size] z.cps.size (SignAt z) (fun i h => h.IsStrIter s1.heap.objs.size T z t i)) →
      (∀ (A : Around) (i : Nat) (s : Shared) (Q : Value → Shared → Prop) (E : Value → Shared → Prop), s.heap.IsStrIter s1.heap.objs.size T z t i → Q (.ref s1.heap.objs.size) s → wpAny (model X.prog X.w) A (pyIter (.ref s1.heap.objs.size)) Q E s) →
      PIE X pins σ tg R (.ref s1.heap.objs.size) { s1 with heap := s1.heap.push { cls := .type T, data := .fields #[.str z t, .int 0 0] } } := fun T hT W hself => by
    refine ⟨s1.heap.objs.size, [s1.heap.objs.size], _, _, H1, rfl, I1.kept (t' := s1.toks) fun b o e => Heap.get?_push_of_some _ e, turn_str _ z t T hT W hself, ⟨Nat.zero_le _, _, Heap.get?_push_size _ rfl, rfl, rfl⟩, fun b hb => ?_, q⟩
    have e : b = s1.heap.objs.size := by simpa using hb
    subst e
    exact I1.fpOk (Nat.le_refl _) (I1.hok.fresh (Nat.le_refl _))
  cases ha : z.cps.all (· < 128)
  · exact wpAny_pyIter_wide ha (fin "str_iterator" (by decide) (fun A hA => Walks.strWide hA _ z t) fun A i s Q E st h => wpAny_pyIter_striter_wide st h)
  · exact wpAny_pyIter_ascii ha (fin "str_ascii_iterator" (by decide) (fun A hA => Walks.strAscii hA _ z t) fun A i s Q E st h => wpAny_pyIter_striter_ascii st h)
theorem qi_str {a : Expr} {te : TE} (ha : QE X a te) : QI X tg a (iStr te) := ⟨pi_str ha.h⟩
theorem lc_str {x : Str} {te : TE} {fvals : L2.St} {don : List V → Hp → Prop} {H : Hp} (Pv : Nat → List V → Hp → Prop) (h0 : Pv 0 [] H) (hl : ∀ i ys H, i ≤ x.length → Pv i ys H → ys.length < sizeLine)
    (hs : ∀ i c ys H, x.cps.toList[i]? = some c → Pv i ys H → te (some (.str ⟨#[c]⟩) :: fvals) H fun v H' => Pv (i + 1) (ys ++ [v]) H') (hd : ∀ ys H, Pv x.length ys H → don ys H) : L8.LcW (Ist x) fvals te don H := by
  refine ⟨fun i m ys H => m = x.length - i ∧ i ≤ x.length ∧ Pv i ys H, ⟨x.length, by simp, Nat.zero_le _, h0⟩, ?_⟩
  rintro i m ys H ⟨rfl, hi, p⟩
  refine ⟨hl i ys H hi p, ?_⟩
  by_cases hlt : i < x.length
  · refine .inr ⟨hlt, Pv (i + 1), fun ys' H' p' => ⟨x.length - (i + 1), by omega, rfl, hlt, p'⟩, fun v H' y => ?_⟩
    obtain ⟨e, c, hc, rfl⟩ := y
    subst e
    exact hs i c ys _ (by simpa using hc) p
  · have e : i = x.length := by omega
    subst e
    exact .inl ⟨Nat.le_refl _, hd ys H p⟩
/-! ### all(list), int(text), text.split(sep) -/
theorem all_getD : ∀ bs : List Bool, ((List.range bs.length).all fun i => bs.getD i false) = bs.all id
  | [] => rfl
  | b :: r => by
    rw [List.length_cons, List.range_succ_eq_map, List.all_cons, List.all_map, List.all_cons, ← all_getD r]
    rfl
theorem vals_strs : ∀ (l : List Str) (k : Nat), Vals (l.map V.str) (strsFrom k l)
  | [], _ => .nil
  | x :: r, k => .cons ⟨k, rfl⟩ (vals_strs r (k + 1))
theorem call_all (hc : X.calm = true) : CallR X (.builtin "all") (fun xs H Q => ∃ (p : Addr) (bs : List Bool), xs = [.ref p] ∧ SqL X.K H p (bs.map V.bl) ∧ Q (.bl (bs.all id)) H) := by
  intro pins s σ H xs us Q I r h
  obtain ⟨p, bs, rfl, hp, q⟩ := h
  obtain ⟨u, rfl, ru⟩ := vals1 r
  cases ru
  obtain ⟨its, rv, pl, _⟩ := I.list hp
  have hh : X.A.in1.handled = none := I.ok.hd hc
  have hlt : p < s.heap.objs.size := by obtain ⟨_, _, e, _⟩ := pl; exact Heap.lt_size e
  have hlen : its.length = bs.length := by rw [← rv.length, List.length_map]
  refine call_all_walk (wpAny_pyIter_list pl.isList ⟨s.heap.objs.size, _, _, _, _, _, fun i => bs.getD i false, rfl, Walks.list hh s.heap.objs.size p (Nat.ne_of_lt hlt) its.toArray, ⟨⟨_, Heap.get?_push_size _ rfl, rfl, rfl⟩, pl.isList.push _⟩, ?_, fun h' tk kk => ?_⟩)
  · intro i v s' Q' E' hv h'
    have hv' : its[i]? = some v := by simpa using hv
    have hlt : i < bs.length := by rw [← hlen]; exact (List.getElem?_eq_some_iff.mp hv').1
    have eb : (bs.map V.bl)[i]? = some (.bl bs[i]) := by rw [List.getElem?_map, List.getElem?_eq_getElem hlt]; rfl
    obtain ⟨w1, g1, k1⟩ := rv.get eb
    rw [hv'] at g1
    cases g1
    cases k1
    have e2 : bs.getD i false = bs[i] := by rw [List.getD_eq_getElem?_getD, List.getElem?_eq_getElem hlt]; rfl
    have h2 : Q' (bs.getD i false) s' := h'
    rw [e2] at h2
    exact wpAny_truthy_bool h2
  · refine ⟨.bl (bs.all id), H, I.kept (t' := tk) fun b o e => kk b o (fun z => ?_) (Heap.get?_push_of_some _ e), ?_, q⟩
    · have z' : b = s.heap.objs.size := by simpa using z
      exact absurd (Heap.lt_size e) (by rw [z']; exact Nat.lt_irrefl _)
    · show Value.bool _ = Value.bool _
      congr 1
      rw [List.size_toArray, hlen]
      exact all_getD bs
theorem call_int_str : CallR X (.type "int") (fun xs H Q => ∃ x n, xs = [.str x] ∧ PySem.intText? x = some n ∧ x.length ≤ 640 ∧ Q (.int n) H) := by
  intro pins s σ H xs us Q I r h
  obtain ⟨x, n, rfl, hn, hl, q⟩ := h
  obtain ⟨u, rfl, t, rfl⟩ := vals1 r
  exact PySem.W.KIN.call_text hn hl ⟨.int n, H, I.tok _, ⟨_, rfl⟩, q⟩
theorem mt_split : MtR X "str.split" (fun x xs H Q => ∃ z sep, x = .str z ∧ xs = [.str sep] ∧ (sep.length == 0) = false ∧ z.length ≤ sizeLine ∧ (Txt.split z sep).length ≤ sizeLine ∧ ∀ p, H p = none → Q (.ref p) (upd H p (.lst ((Txt.split z sep).map V.str)))) := by
  intro pins s σ H x xs v us Q I rx rs h
  obtain ⟨z, sep, rfl, rfl, hy, hz, hn, q⟩ := h
  obtain ⟨t, rfl⟩ := rx
  obtain ⟨u, rfl, t', rfl⟩ := vals1 rs
  have fin : ∀ (its : List Value) (tk : Nat), Vals ((Txt.split z sep).map V.str) its → EP X pins σ Q (.ref s.heap.objs.size) { s with heap := s.heap.push { cls := .type "list", data := .seq its.toArray }, toks := tk } := fun its tk rv =>
    ⟨.ref s.heap.objs.size, _, I.laid (a := s.heap.objs.size) (o := .lst ((Txt.split z sep).map V.str)) (t' := tk) (fun b o e => Heap.get?_push_of_some _ e) (Nat.le_refl _) (show ObjOk X.prog X.w _ _ _ (.lst _) from ⟨by rw [List.length_map]; exact hn, its, 0, rv, Heap.get?_push_size _ rfl⟩), rfl, q _ (I.hok.fresh (Nat.le_refl _))⟩
  cases h1 : (decide (z.length < sep.length) || decide (Builtin.Str.strKind z < Builtin.Str.strKind sep))
  · cases hf : (Builtin.Str.occurrences z sep 0 z.length (z.length + 1)).isEmpty
    · have e : Txt.split z sep = Builtin.Str.partsBetween z (Builtin.Str.occurrences z sep 0 z.length (z.length + 1)) sep.length := by
        unfold Txt.split
        rw [h1, hf]
        rfl
      refine call_meets PySem.F.slot_str_split (typeIs_str _ _ _) PySem.F.entry_str_split (PySem.F.args_str_split_2 _ _) (meets_str_split_sep z sep t t' h1 hy hf hz (by rw [← e]; exact hn)) ?_
      refine fin _ _ ?_
      rw [e]
      exact vals_strs _ _
    · have e : Txt.split z sep = [z] := by
        unfold Txt.split
        rw [h1, hf]
        rfl
      refine call_meets PySem.F.slot_str_split (typeIs_str _ _ _) PySem.F.entry_str_split (PySem.F.args_str_split_2 _ _) (meets_str_split_not_found z sep t t' h1 hy hf) ?_
      refine fin [.str z t] s.toks ?_
      rw [e]
      exact .cons ⟨t, rfl⟩ .nil
  · have e : Txt.split z sep = [z] := by
      unfold Txt.split
      rw [h1]
      rfl
    refine call_meets PySem.F.slot_str_split (typeIs_str _ _ _) PySem.F.entry_str_split (PySem.F.args_str_split_2 _ _) (meets_str_split_cannot_occur z sep t t' h1) ?_
    refine fin [.str z t] s.toks ?_
    rw [e]
    exact .cons ⟨t, rfl⟩ .nil
end
end L11


set_option maxRecDepth 100000
set_option linter.all false
set_option maxHeartbeats 4000000
set_option Elab.async false
namespace X8
open PySem PySem.Spec PyProof.Rows L2
theorem match_self {prog : Program} {w : World} {K : PySem.W.Frag} {A : Around} {s : Shared} {E : Value → Shared → Prop} {e C S : Addr} {oe : Obj} {Q : Bool → Shared → Prop} (X : K.In s.heap) (c : XCls K C S) (he : s.heap.get? e = some oe) (hcls : oe.cls = .ref C) (h : Q true s) :
    wpAny (model prog w) A (excMatches (.ref e) (.ref C)) Q E s := by
  obtain ⟨nm, qn, N, bs, sn, sub, ab, col, dd, k0, k1, k2, k3, k5, ec⟩ := c.obj
  have hC := X C _ ec
  have f := tc_notTuple
  have h1 : (Value.ref C :: Value.ref S :: V4).contains (.ref C) = true := by simp
  have h2 : (Value.ref C :: Value.ref S :: V4).contains (.type "BaseException") = true := rfl
  obtain ⟨hp, g, d, tk, os⟩ := s
  unfold excMatches
  repeat (first | (with_reducible refine wpAny_loadPart_at he ?_; rw [hcls]) | with_reducible refine wpAny_loadPart_at hC ?_ | (with_reducible refine wpAny_isSubtype_exc hC ?_; rw [h2]) | (with_reducible refine wpAny_isSubtype_exc hC ?_; rw [h1]) | wp_step)
  exact h

section
variable {X : Cx} {x : Str} {np hpos pos : Pos} {body suite : List Stmt} {b0 : Stmt} {C S : Addr} {tb : (St → XK) → TS} {ts : TS}
def hWant0 (C : Addr) (ts : TS) (D : Ends) : St → XK := fun σ cls dx H => ∃ d, cls = .ref C ∧ dx = some d ∧ ts D σ H
/-- try: body except C: suite -/
theorem ps_try0 (hg : Gl X x) (hm : X.mg x = some (.ref C)) (c : XCls X.K C S) (hst : X.stack = X.env :: X.outer) (hfr : X.env.frame = some X.env.locals)
    (hb : ∀ (pn : List (Addr × Obj)) (xe : Value → Shared → Prop) (E : St → XK), Catches (Cx.alt X pn xe) E → PSs (Cx.alt X pn xe) body (tb E)) (hs : ∀ e, PSs (Cx.in X e fun _ _ => False) (b0 :: suite) ts)
    (hdb : (x == ("__debug__" : Str)) = false := by decide) :
    PS X (.Try body [.ExceptHandler (some (.Name x np)) none (b0 :: suite) hpos] [] [] pos) (fun D σ H => tb (hWant0 C ts D) D σ H) := by
  intro pins s σ H D I h
  have I0 := I.ok
  let xe' : Value → Shared → Prop := fun ev s1 => wpAny (model X.prog X.w) X.A (noteFrame ev X.env) (fun _ s2 => wpAny (model X.prog X.w) X.A (setFlight ev none) (fun _ s3 =>
    wpAny (model X.prog X.w) X.A (handleBy ev X.env [.ExceptHandler (some (.Name x np)) none (b0 :: suite) hpos]) (SP X pins D) X.xe s3) X.xe s2) X.xe s1
  have hc : Catches (Cx.alt X (X.pn ++ pins) xe') (hWant0 C ts D) := by
    intro pins' σ1 H1 s1 e cls dx tbk I1 xa ht fe q
    obtain ⟨d, rfl, rfl, k⟩ := q
    have J1 : Inv X pins σ1 H1 s1 := invUnalt I1
    have fe' : FpOk X pins H1 e := fpUnalt fe
    have key : ∀ a ∈ e :: tbs tbk, FpOk X pins H1 a := fun a ha => by
      rcases List.mem_cons.mp ha with rfl | ha
      · exact fe'
      · rcases ht with rfl | ⟨T, rfl, fT⟩
        · exact absurd ha (by simp [tbs])
        · obtain rfl : a = T := by simpa [tbs] using ha
          exact fpUnalt fT
    show wpAny (model X.prog X.w) X.A (noteFrame (.ref e) X.env) _ _ s1
    have fr2 : X.A.frames = some (X.env :: X.outer) := by rw [← hst]; exact J1.ok.frames
    have fn2 : s1.heap.FunFrames X.base (X.env :: X.outer) := by rw [← hst]; exact J1.stack
    have efr : (X.env :: X.outer).filterMap (·.frame) = frs X.stack := by rw [hst]; rfl
    refine note_x (outer := X.outer) fr2 fn2 hfr xa (ht.imp (fun z => z) fun ⟨T, z, _⟩ => ⟨T, z⟩) fun h2 T c2 z2 x2 => ?_
    rw [efr] at c2
    have J2 : Inv X pins σ1 H1 { s1 with heap := h2 } := Inv.chg J1 c2 key
    have fT : FpOk X pins H1 T := J1.fpOk z2 (J1.hok.fresh z2)
    have kT : ∀ a ∈ [T], FpOk X pins H1 a := fun a ha => by
      obtain rfl : a = T := by simpa using ha
      exact fT
    refine flight_x (s := { s1 with heap := h2 }) (fr := frs X.stack) x2 fun h3 c3 x3 => ?_
    have J3 : Inv X pins σ1 H1 { s1 with heap := h3 } := Inv.chg (s := { s1 with heap := h2 }) J2 c3 kT
    refine wpAny_handleBy_cons (codeAny_handlers_test ?_) (by intro z; cases z)
    have J3i : Inv (Cx.in X e X.xe) pins σ1 H1 { s1 with heap := h3 } := invIn J3
    refine ld_glob (X := Cx.in X e X.xe) J3i hg hm ?_ hdb
    obtain ⟨oe, vs, v1, ge, gc, gd, gf, g1, gt⟩ := id x3
    refine match_self J3.kIn c ge gc ?_
    refine codeAny_handlers_suite ?_
    refine flight_x (s := { s1 with heap := h3 }) (fr := frs X.stack) x3 fun h4 c4 x4 => ?_
    have J4 : Inv X pins σ1 H1 { s1 with heap := h4 } := Inv.chg (s := { s1 with heap := h3 }) J3 c4 kT
    have J5i : Inv (Cx.in X e fun _ _ => False) pins σ1 H1 { s1 with heap := h4 } := invIn J4
    refine wpAny_mono (hs e pins _ _ _ _ J5i k) (fun f s6 q => ?_) fun _ _ z => z.elim
    cases f with
    | next => obtain ⟨σ2, H2, J7, q2⟩ := q; exact ⟨_, H2, invOut I0 J7, q2⟩
    | brk => obtain ⟨σ2, H2, J7, q2⟩ := q; exact ⟨_, H2, invOut I0 J7, q2⟩
    | cont => obtain ⟨σ2, H2, J7, q2⟩ := q; exact ⟨_, H2, invOut I0 J7, q2⟩
    | ret u => obtain ⟨v, σ2, H2, J7, rv, q2⟩ := q; exact ⟨v, _, H2, invOut I0 J7, rv, q2⟩
  have hb' := hb (X.pn ++ pins) xe' (hWant0 C ts D) hc [] s σ H D (invAlt I) h
  refine wpAny_Try_except (wpAny_mono hb' (fun f s1 q => ?_) fun _ _ z => z)
  have conv : ∀ fl, SP (Cx.alt X (X.pn ++ pins) xe') [] D fl s1 → SP X pins D fl s1 := fun fl z => by
    cases fl with
    | next => obtain ⟨a, c, d, e⟩ := z; exact ⟨a, c, invUnalt d, e⟩
    | brk => obtain ⟨a, c, d, e⟩ := z; exact ⟨a, c, invUnalt d, e⟩
    | cont => obtain ⟨a, c, d, e⟩ := z; exact ⟨a, c, invUnalt d, e⟩
    | ret u => obtain ⟨v, a, c, d, e⟩ := z; exact ⟨v, a, c, invUnalt d, e⟩
  cases f with
  | next => exact wpAny_execs_nil (conv _ q)
  | brk => exact conv _ q
  | cont => exact conv _ q
  | ret u => exact conv _ q
end
end X8


set_option maxRecDepth 100000
set_option linter.all false
set_option maxHeartbeats 4000000
set_option Elab.async false
namespace M04
open PySem L5 M03
def pairs : List (Int × Str) := [(100, "c"), (90, "xc"), (50, "l"), (40, "xl"), (10, "x"), (9, "ix"), (5, "v"), (4, "iv"), (1, "i")]
/-- while n >= z -/
def whl (z : Int) (g : Str) : Nat → Int → Str → Int × Str
  | 0, n, t => (n, t)
  | f + 1, n, t => if z ≤ n then whl z g f (n - z) (t ++ g) else (n, t)
theorem whl_fuel {z : Int} (g : Str) (hz : 1 ≤ z) : ∀ (f f' : Nat) (n : Int) (t : Str), n.toNat ≤ f → n.toNat ≤ f' → whl z g f n t = whl z g f' n t
  | 0, 0, n, t, _, _ => rfl
  | 0, f' + 1, n, t, h, _ => by
    have : ¬ z ≤ n := by omega
    show (n, t) = if z ≤ n then _ else _
    rw [if_neg this]
  | f + 1, 0, n, t, _, h => by
    have : ¬ z ≤ n := by omega
    show (if z ≤ n then _ else _) = (n, t)
    rw [if_neg this]
  | f + 1, f' + 1, n, t, h, h' => by
    show (if z ≤ n then _ else _) = if z ≤ n then _ else _
    by_cases q : z ≤ n
    · rw [if_pos q, if_pos q]
      exact whl_fuel g hz f f' (n - z) (t ++ g) (by omega) (by omega)
    · rw [if_neg q, if_neg q]
def wh (z : Int) (g : Str) (n : Int) (t : Str) : Int × Str := whl z g n.toNat n t
theorem wh_step {z : Int} {g : Str} (hz : 1 ≤ z) {n : Int} {t : Str} (h : z ≤ n) : wh z g n t = wh z g (n - z) (t ++ g) := by
  unfold wh
  obtain ⟨f, hf⟩ : ∃ f, n.toNat = f + 1 := ⟨n.toNat - 1, by omega⟩
  rw [hf]
  show (if z ≤ n then _ else _) = _
  rw [if_pos h]
  exact whl_fuel g hz _ _ _ _ (by omega) (Nat.le_refl _)
theorem wh_end {z : Int} {g : Str} (hz : 1 ≤ z) {n : Int} {t : Str} (h : ¬ z ≤ n) : wh z g n t = (n, t) := by
  unfold wh
  cases e : n.toNat with
  | zero => rfl
  | succ f =>
    show (if z ≤ n then _ else _) = _
    rw [if_neg h]
def gos : List (Int × Str) → Int → Str → Int × Str
  | [], n, t => (n, t)
  | (z, g) :: r, n, t => gos r (wh z g n t).1 (wh z g n t).2
def lnT (n : Int) : Str := (gos pairs n "").2
def lnS (n : Int) : Str := if Txt.slice (lnT n) (some (-1)) none = "i" then Txt.slice (lnT n) none (some (-1)) ++ "j" else lnT n
theorem ln_all : (List.range 399).all (fun n => (lnS ((n : Int) + 1)).cps.toList == (numS ((n : Int) + 1)).cps.toList) = true := by decide +kernel
theorem str_ext {a b : Str} (h : a.cps.toList = b.cps.toList) : a = b := by
  have e2 : a.cps = b.cps := by simpa using congrArg List.toArray h
  cases a
  cases b
  exact congrArg Str.mk e2
theorem ln_eq {n : Int} (h0 : 1 ≤ n) (h1 : n ≤ 399) : lnS n = numS n := by
  have h := List.all_eq_true.mp ln_all (n - 1).toNat (List.mem_range.mpr (by omega))
  rw [show (((n - 1).toNat : Nat) : Int) + 1 = n from by omega] at h
  exact str_ext (by simpa using h)
theorem pairs_ok : ∀ p ∈ pairs, 1 ≤ p.1 ∧ p.2.length ≤ 2 := by decide +kernel
/-- what is known of a text -/
def isNum (x : Str) : Prop := 1 ≤ worS x ∧ worS x ≤ 399 ∧ numS (worS x) = x
instance (x : Str) : Decidable (isNum x) := by unfold isNum; infer_instance
def kn (i : Int) (x : Str) : Option Int := if 1 ≤ worS x ∧ worS x ≤ i ∧ numS (worS x) = x then some (worS x) else none
end M04


set_option maxRecDepth 100000
set_option linter.all false
set_option maxHeartbeats 4000000
set_option Elab.async false
namespace M05
open PySem PySem.Builtin PySem.Builtin.Str PySem.StrLaws
/-! ### the pieces between the signs c -/
def one (c : Nat) : Str := ⟨#[c]⟩
theorem occ_all (x : Str) (c : Nat) : ∀ (n a : Nat) (st : Array Nat × Nat), a + n = x.length + 1 → st.snd ≤ a → st.fst.size ≤ a → (∀ i, i < a → At x (one c) x.length i → i ∈ st.fst.toList) →
    ∀ i, At x (one c) x.length i → i ∈ (forIn (List.range' a n) st (occBody x (one c) x.length (x.length + 1))).run.fst.toList
  | 0, a, st, ha, _, _, h, i, hi => by
    have h1 := hi.1
    exact h i (by have : (one c).length = 1 := rfl; omega) hi
  | n + 1, a, st, ha, h1, h2, h, i, hi => by
    rw [List.range'_succ, List.forIn_cons]
    by_cases hc : ((st.fst.size < x.length + 1 ∧ st.snd ≤ a) ∧ a + (one c).length ≤ x.length) ∧ subAt x (one c) a = true
    · have e : occBody x (one c) x.length (x.length + 1) a st = pure (ForInStep.yield (st.fst.push a, a + (one c).length)) := by unfold occBody; rw [if_pos hc]
      rw [e]
      refine occ_all x c n (a + 1) (st.fst.push a, a + (one c).length) (by omega) (Nat.le_refl _) (by simp; omega) (fun j hj aj => ?_) i hi
      rw [Array.toList_push]
      by_cases q : j = a
      · subst q; simp
      · exact List.mem_append_left _ (h j (by omega) aj)
    · have e : occBody x (one c) x.length (x.length + 1) a st = pure (ForInStep.yield (st.fst, st.snd)) := by unfold occBody; rw [if_neg hc]
      rw [e]
      refine occ_all x c n (a + 1) st (by omega) (by omega) (by omega) (fun j hj aj => ?_) i hi
      by_cases q : j = a
      · subst q
        exact absurd ⟨⟨⟨by omega, h1⟩, aj.1⟩, aj.2⟩ hc
      · exact h j (by omega) aj
theorem at_iff (x : Str) (c i : Nat) : At x (one c) x.length i ↔ x.cps.toList[i]? = some c := subAt_one x c i
theorem chain_ge {x y : Str} {hi : Nat} : ∀ {cuts : List Nat} {a f : Nat}, ChainTo x y hi a cuts f → ∀ i ∈ cuts, a ≤ i
  | [], _, _, _, i, h => absurd h (by simp)
  | c0 :: r, a, f, h, i, hi => by
    rcases List.mem_cons.mp hi with rfl | q
    · exact h.1
    · have := chain_ge h.2.2 i q
      have := h.1
      omega
theorem sub_mem {x : Str} {a b c : Nat} (h : c ∈ (strSub x a b).cps.toList) : ∃ i, a ≤ i ∧ i < b ∧ x.cps.toList[i]? = some c := by
  rw [strSub_toList] at h
  obtain ⟨k, hk⟩ := List.mem_iff_getElem?.mp h
  rw [List.getElem?_take] at hk
  split at hk
  · rw [List.getElem?_drop] at hk
    exact ⟨a + k, by omega, by omega, hk⟩
  · cases hk
theorem parts_free (x : Str) (c : Nat) : ∀ (cuts : List Nat) (a f : Nat), ChainTo x (one c) x.length a cuts f → (∀ i, a ≤ i → At x (one c) x.length i → i ∈ cuts) → ∀ p ∈ partsFrom x 1 a cuts, c ∉ p.cps.toList
  | [], a, f, _, h, p, hp, hc => by
    obtain rfl : p = strSub x a x.length := by simpa [partsFrom] using hp
    obtain ⟨i, h1, h2, h3⟩ := sub_mem hc
    exact absurd (h i h1 ((at_iff x c i).mpr h3)) (by simp)
  | c0 :: r, a, f, hch, h, p, hp, hc => by
    rcases List.mem_cons.mp (show p ∈ strSub x a c0 :: partsFrom x 1 (c0 + 1) r from hp) with rfl | q
    · obtain ⟨i, h1, h2, h3⟩ := sub_mem hc
      rcases List.mem_cons.mp (h i h1 ((at_iff x c i).mpr h3)) with rfl | q
      · omega
      · have := chain_ge hch.2.2 i q
        have : (one c).length = 1 := rfl
        omega
    · refine parts_free x c r (c0 + 1) f hch.2.2 (fun i hi ai => ?_) p q hc
      have := hch.1
      rcases List.mem_cons.mp (h i (by omega) ai) with rfl | z
      · omega
      · exact z
theorem split_free (x : Str) (c : Nat) (hc : c < 256) : ∀ p ∈ Txt.split x (one c), c ∉ p.cps.toList := by
  have full := occ_all x c (x.length + 1) 0 (#[], 0) (by omega) (Nat.le_refl _) (Nat.le_refl _) (fun i hi => absurd hi (by omega))
  have eo : (occurrences x (one c) 0 x.length (x.length + 1)) = (forIn (List.range' 0 (x.length + 1)) ((#[] : Array Nat), 0) (occBody x (one c) x.length (x.length + 1))).run.fst.toList := occ_eq x (one c) 0 x.length (x.length + 1)
  rw [← eo] at full
  have none_ : (∀ i, ¬ At x (one c) x.length i) → c ∉ x.cps.toList := fun h m => by
    obtain ⟨i, hi⟩ := List.mem_iff_getElem?.mp m
    exact h i ((at_iff x c i).mpr hi)
  unfold Txt.split
  split
  · rename_i h
    intro p hp
    obtain rfl : p = x := by simpa using hp
    have k1 : Str.strKind (one c) = 1 := by unfold Str.strKind one; rw [if_pos (by simp [hc])]
    have k2 : ¬ Str.strKind p < 1 := by
      unfold Str.strKind
      split
      · omega
      · split <;> omega
    rw [k1, decide_eq_false k2, Bool.or_false] at h
    have l0 : p.length < 1 := of_decide_eq_true h
    intro m
    have e : p.cps.toList.length = 0 := by have : p.cps.toList.length = p.length := Array.length_toList; omega
    rw [List.length_eq_zero_iff.mp e] at m
    exact absurd m (by simp)
  · split
    · rename_i h
      intro p hp
      obtain rfl : p = x := by simpa using hp
      refine none_ fun i ai => ?_
      have := full i ai
      rw [List.isEmpty_iff.mp h] at this
      exact absurd this (by simp)
    · obtain ⟨f, ch⟩ := occ_chain x (one c) (x.length + 1)
      rw [partsBetween_eq]
      exact parts_free x c _ 0 f ch fun i _ ai => full i ai
theorem split_ne (x y : Str) : Txt.split x y ≠ [] := by
  unfold Txt.split
  split
  · simp
  · split
    · simp
    · rw [partsBetween_eq]
      obtain ⟨p, r, e⟩ := partsFrom_ne x y.length 0 (occurrences x y 0 x.length (x.length + 1))
      rw [e]; simp
/-- two ways to cut, none with a sign c in a piece, are the same -/
theorem cut_unique {c : Nat} : ∀ {a b A B : List Nat}, c ∉ a → c ∉ b → a ++ c :: A = b ++ c :: B → a = b ∧ A = B
  | [], [], A, B, _, _, h => ⟨rfl, by simpa using h⟩
  | [], y :: b, A, B, _, hb, h => by
    simp only [List.nil_append, List.cons_append, List.cons.injEq] at h
    exact absurd (h.1 ▸ List.mem_cons_self) hb
  | x :: a, [], A, B, ha, _, h => by
    simp only [List.nil_append, List.cons_append, List.cons.injEq] at h
    exact absurd (h.1 ▸ List.mem_cons_self) ha
  | x :: a, y :: b, A, B, ha, hb, h => by
    simp only [List.cons_append, List.cons.injEq] at h
    obtain ⟨e1, e2⟩ := cut_unique (fun z => ha (List.mem_cons_of_mem _ z)) (fun z => hb (List.mem_cons_of_mem _ z)) h.2
    exact ⟨by rw [h.1, e1], e2⟩
theorem join_unique {c : Nat} : ∀ {ws vs : List Str}, ws ≠ [] → vs ≠ [] → (∀ w ∈ ws, c ∉ w.cps.toList) → (∀ w ∈ vs, c ∉ w.cps.toList) → (Str.join (one c) ws).cps.toList = (Str.join (one c) vs).cps.toList → ws = vs
  | [], _, h, _, _, _, _ => absurd rfl h
  | _ :: _, [], _, h, _, _, _ => absurd rfl h
  | [w], [v], _, _, _, _, e => by rw [M04.str_ext (show w.cps.toList = v.cps.toList from e)]
  | [w], v :: v' :: vs, _, _, h, _, e => by
    have e' : w.cps.toList = (v ++ one c ++ Str.join (one c) (v' :: vs)).cps.toList := e
    simp only [Str.cps_append, Array.toList_append] at e'
    exact absurd (e' ▸ (by simp [one]) : c ∈ w.cps.toList) (h w (by simp))
  | w :: w' :: ws, [v], _, _, _, h, e => by
    have e' : (w ++ one c ++ Str.join (one c) (w' :: ws)).cps.toList = v.cps.toList := e
    simp only [Str.cps_append, Array.toList_append] at e'
    exact absurd (e' ▸ (by simp [one]) : c ∈ v.cps.toList) (h v (by simp))
  | w :: w' :: ws, v :: v' :: vs, _, _, h1, h2, e => by
    have e' : (w ++ one c ++ Str.join (one c) (w' :: ws)).cps.toList = (v ++ one c ++ Str.join (one c) (v' :: vs)).cps.toList := e
    simp only [Str.cps_append, Array.toList_append, one, List.append_assoc] at e'
    obtain ⟨a, b⟩ := cut_unique (c := c) (h1 w (by simp)) (h2 v (by simp)) e'
    rw [M04.str_ext a, join_unique (c := c) (by simp) (by simp) (fun z hz => h1 z (List.mem_cons_of_mem _ hz)) (fun z hz => h2 z (List.mem_cons_of_mem _ hz)) b]
theorem split_join {c : Nat} (hc : c < 256) {ws : List Str} (h0 : ws ≠ []) (h : ∀ w ∈ ws, c ∉ w.cps.toList) : Txt.split (Txt.join (one c) ws) (one c) = ws := by
  refine join_unique (c := c) (split_ne _ _) h0 (split_free _ c hc) h ?_
  rw [join_split]
  show (glued (one c) ws).cps.toList = _
  exact congrArg (fun s : Str => s.cps.toList) (glued_eq_join (one c) ws) |>.symm ▸ rfl
end M05


set_option maxRecDepth 100000
set_option linter.all false
set_option maxHeartbeats 4000000
set_option Elab.async false
namespace M06
open PySem M01
/-! ### figures -/
def isDig (c : Nat) : Bool := decide (48 ≤ c) && decide (c ≤ 57)
def val (l : List Nat) : Int := l.foldl (fun (a : Int) (c : Nat) => 10 * a + ((c : Int) - 48)) 0
theorem it1 : ∀ a : Fin 10, intText? ⟨#[48 + a.val]⟩ = some (val [48 + a.val]) := by decide +kernel
theorem it2 : ∀ a b : Fin 10, intText? ⟨#[48 + a.val, 48 + b.val]⟩ = some (val [48 + a.val, 48 + b.val]) := by decide +kernel
theorem it3 : ∀ a b c : Fin 10, intText? ⟨#[48 + a.val, 48 + b.val, 48 + c.val]⟩ = some (val [48 + a.val, 48 + b.val, 48 + c.val]) := by decide +kernel
theorem dig_fin {c : Nat} (h : isDig c = true) : ∃ a : Fin 10, c = 48 + a.val := by
  unfold isDig at h
  rw [Bool.and_eq_true, decide_eq_true_eq, decide_eq_true_eq] at h
  exact ⟨⟨c - 48, by omega⟩, by show c = 48 + (c - 48); omega⟩
theorem int_text {x : Str} (h1 : x.length ≠ 0) (h3 : x.length ≤ 3) (hd : x.cps.toList.all isDig = true) : intText? x = some (val x.cps.toList) := by
  obtain ⟨⟨l⟩⟩ := x
  have hl : (⟨⟨l⟩⟩ : Str).length = l.length := rfl
  rw [hl] at h1 h3
  change l.all isDig = true at hd
  show intText? ⟨⟨l⟩⟩ = some (val l)
  match l, h1, h3, hd with
  | [], h1, _, _ => exact absurd rfl h1
  | [a], _, _, hd =>
    simp only [List.all_cons, List.all_nil, Bool.and_true] at hd
    obtain ⟨a, rfl⟩ := dig_fin hd
    exact it1 a
  | [a, b], _, _, hd =>
    simp only [List.all_cons, List.all_nil, Bool.and_true, Bool.and_eq_true] at hd
    obtain ⟨a, rfl⟩ := dig_fin hd.1
    obtain ⟨b, rfl⟩ := dig_fin hd.2
    exact it2 a b
  | [a, b, c], _, _, hd =>
    simp only [List.all_cons, List.all_nil, Bool.and_true, Bool.and_eq_true] at hd
    obtain ⟨a, rfl⟩ := dig_fin hd.1
    obtain ⟨b, rfl⟩ := dig_fin hd.2.1
    obtain ⟨c, rfl⟩ := dig_fin hd.2.2
    exact it3 a b c
  | _ :: _ :: _ :: _ :: _, _, h3, _ => exact absurd h3 (by simp)
def sm (x : Str) : Option Int := if x.length = 0 ∨ 3 < x.length ∨ x.cps.toList[0]? = some 48 then none else if x.cps.toList.all isDig = true then some (val x.cps.toList) else none
theorem sm_pos {x : Str} {n : Int} (h : sm x = some n) : 1 ≤ n ∧ n ≤ 999 := by
  unfold sm at h
  split at h
  · cases h
  · rename_i h1
    split at h
    · rename_i hd
      cases h
      obtain ⟨⟨l⟩⟩ := x
      have hl : (⟨⟨l⟩⟩ : Str).length = l.length := rfl
      rw [hl] at h1
      change l.all isDig = true at hd
      change ¬ (l.length = 0 ∨ 3 < l.length ∨ l[0]? = some 48) at h1
      show 1 ≤ val l ∧ val l ≤ 999
      match l, h1, hd with
      | [], h1, _ => exact absurd (Or.inl rfl) h1
      | [a], h1, hd =>
        simp only [List.all_cons, List.all_nil, Bool.and_true] at hd
        obtain ⟨a, rfl⟩ := dig_fin hd
        have : 48 + a.val ≠ 48 := fun z => h1 (.inr (.inr (by simp [z])))
        simp only [val, List.foldl]; omega
      | [a, b], h1, hd =>
        simp only [List.all_cons, List.all_nil, Bool.and_true, Bool.and_eq_true] at hd
        obtain ⟨a, rfl⟩ := dig_fin hd.1
        obtain ⟨b, rfl⟩ := dig_fin hd.2
        have : 48 + a.val ≠ 48 := fun z => h1 (.inr (.inr (by simp [z])))
        simp only [val, List.foldl]; omega
      | [a, b, c], h1, hd =>
        simp only [List.all_cons, List.all_nil, Bool.and_true, Bool.and_eq_true] at hd
        obtain ⟨a, rfl⟩ := dig_fin hd.1
        obtain ⟨b, rfl⟩ := dig_fin hd.2.1
        obtain ⟨c, rfl⟩ := dig_fin hd.2.2
        have : 48 + a.val ≠ 48 := fun z => h1 (.inr (.inr (by simp [z])))
        simp only [val, List.foldl]; omega
      | _ :: _ :: _ :: _ :: _, h1, _ => exact absurd (Or.inr (.inl (by simp))) h1
    · cases h
def okD (n : Nat) : Bool := sm (toString ((n : Int) + 1) : String) == some ((n : Int) + 1) && !(Str.ofString (toString ((n : Int) + 1))).cps.toList.contains 47 && !(Str.ofString (toString ((n : Int) + 1))).cps.toList.contains 32 && decide ((Str.ofString (toString ((n : Int) + 1))).length ≤ 3)
theorem okD_all : (List.range 999).all okD = true := by decide +kernel
/-! ### fractions -/
theorem ft_one (t : Int) : ft t 1 = t ∧ fb t 1 = 1 := by
  have e : dv t 1 = 1 := by
    unfold dv
    rw [if_neg (by decide), gz_ab]
    simp
  unfold ft fb
  rw [e]
  exact ⟨Int.fdiv_one t, rfl⟩
/-- the word's fraction -/
def wf (x : Str) : Option (Int × Int) := match Txt.split x "/" with
  | [p, q] => match sm p, sm q with
    | some a, some b => if a < b ∧ ft a b = a ∧ fb a b = b then some (a, b) else none
    | _, _ => none
  | _ => none
def unL : List Str := ["lb", "oz", "dr", "sc", "gr"]
def grL : List Int := [5760, 480, 60, 20, 1]
def gr (p : Int) : Int := grL.getD p.toNat 0
def ui (w : Str) : Option Nat := if w = "lb" then some 0 else if w = "oz" then some 1 else if w = "dr" then some 2 else if w = "sc" then some 3 else if w = "gr" then some 4 else none
theorem ui_some {w : Str} {j : Nat} (h : ui w = some j) : j < 5 ∧ unL[j]? = some w ∧ ∀ m, m < j → unL[m]? ≠ some w := by
  unfold ui at h
  have d : ∀ i j : Fin 5, i ≠ j → unL[i.val]? ≠ unL[j.val]? := by decide +kernel
  have go : ∀ (k : Fin 5), w = unL.getD k.val "" → k.val < 5 ∧ unL[k.val]? = some w ∧ ∀ m, m < k.val → unL[m]? ≠ some w := fun k e => by
    have e2 : unL[k.val]? = some w := by
      rw [e]
      have : ∀ k : Fin 5, unL[k.val]? = some (unL.getD k.val "") := by decide +kernel
      exact this k
    refine ⟨k.2, e2, fun m hm z => ?_⟩
    rw [← e2] at z
    exact d ⟨m, by omega⟩ k (fun y => by have := congrArg Fin.val y; simp at this; omega) z
  split at h
  · rename_i q; cases h; exact go 0 q
  · split at h
    · rename_i q; cases h; exact go 1 q
    · split at h
      · rename_i q; cases h; exact go 2 q
      · split at h
        · rename_i q; cases h; exact go 3 q
        · split at h
          · rename_i q; cases h; exact go 4 q
          · cases h
theorem ui_none {w : Str} (h : ui w = none) : w ∉ unL := by
  unfold ui at h
  intro m
  simp only [unL, List.mem_cons, List.not_mem_nil, or_false] at m
  rcases m with rfl | rfl | rfl | rfl | rfl <;> revert h <;> decide +kernel
/-! ### the reader -/
structure R5 where
  a : Int
  b : Int
  pl : Int
  la : Int
def part (w : Str) (pl : Int) : Option (Int × Int) := if w = "ss" then some (ft (gr pl) 2, fb (gr pl) 2) else if pl = 4 then wf w else none
def add (st : R5) (c d la : Int) : R5 := ⟨ft (st.a * d + c * st.b) (st.b * d), fb (st.a * d + c * st.b) (st.b * d), st.pl, la⟩
def sUnit (st : R5) (p : Nat) : Option R5 := if st.la = 1 ∨ (p : Int) ≤ st.pl then none else some { st with pl := p, la := 1 }
def sNum (st : R5) (w : Str) : Option R5 := (M04.kn 399 w).map fun n => add st (n * gr st.pl) 1 2
def sPart (st : R5) (w : Str) : Option R5 := (part w st.pl).map fun p => add st p.1 p.2 3
def step (st : R5) (w : Str) : Option R5 := match ui w with
  | some p => sUnit st p
  | none => if st.la = 1 then (match sNum st w with | some s => some s | none => sPart st w) else if st.la = 2 then sPart st w else none
def r0 : R5 := ⟨0, 1, -1, 0⟩
structure Ok (st : R5) : Prop where
  pl : (st.la = 0 ∧ st.pl = -1) ∨ ((st.la = 1 ∨ st.la = 2 ∨ st.la = 3) ∧ 0 ≤ st.pl ∧ st.pl ≤ 4)
  b1 : 1 ≤ st.b
  b2 : st.b ≤ 1000 ^ (st.pl + (if st.la = 3 then 1 else if st.la = 0 then 1 else 0)).toNat
theorem ok_r0 : Ok r0 := ⟨.inl ⟨rfl, rfl⟩, by decide, by decide⟩
theorem kn_pos {w : Str} {n : Int} (h : M04.kn 399 w = some n) : 1 ≤ n ∧ n ≤ 399 := by
  unfold M04.kn at h
  split at h
  · rename_i q; cases h; exact ⟨q.1, q.2.1⟩
  · cases h
theorem wf_pos {x : Str} {a b : Int} (h : wf x = some (a, b)) : 1 ≤ a ∧ a < b ∧ b ≤ 999 := by
  unfold wf at h
  split at h
  · split at h
    · rename_i h1 h2
      split at h
      · rename_i q
        cases h
        exact ⟨(sm_pos h1).1, q.1, (sm_pos h2).2⟩
      · cases h
    · cases h
  · cases h
theorem part_pos {w : Str} {pl c d : Int} (h : part w pl = some (c, d)) : 1 ≤ d ∧ d ≤ 999 := by
  unfold part at h
  split at h
  · cases h
    have p := fb_pos (t := gr pl) (b := 2) (by decide)
    have l := fb_le (t := gr pl) (b := 2) (by decide)
    have : (2 : Int).natAbs = 2 := rfl
    omega
  · split at h
    · have := wf_pos h
      omega
    · cases h
theorem bd_le {st : R5} (o : Ok st) : st.b ≤ 1000 ^ 5 := by
  refine Int.le_trans o.b2 ?_
  have : (st.pl + (if st.la = 3 then 1 else if st.la = 0 then 1 else 0)).toNat ≤ 5 := by
    rcases o.pl with h | h
    · omega
    · split
      · omega
      · split <;> omega
  exact_mod_cast Nat.pow_le_pow_right (by decide) this
end M06


set_option maxRecDepth 100000
set_option linter.all false
set_option maxHeartbeats 4000000
set_option Elab.async false
namespace M06
open PySem M01
theorem add_b {st : R5} {c d la : Int} (h1 : 1 ≤ st.b) (h2 : 1 ≤ d) : 1 ≤ (add st c d la).b ∧ (add st c d la).b ≤ st.b * d := by
  have p : 1 ≤ st.b * d := by
    have := Int.mul_le_mul h1 h2 (by decide) (by omega)
    omega
  have q1 := fb_pos (t := st.a * d + c * st.b) (b := st.b * d) (by omega)
  have q2 := fb_le (t := st.a * d + c * st.b) (b := st.b * d) (by omega)
  show 1 ≤ fb _ _ ∧ fb _ _ ≤ _
  omega
theorem ok_num {st : R5} {c : Int} (o : Ok st) (h : st.la = 1) : Ok (add st c 1 2) := by
  obtain ⟨b1, b2⟩ := add_b (st := st) (c := c) (d := 1) (la := 2) o.b1 (by decide)
  refine ⟨.inr ⟨.inr (.inl rfl), ?_⟩, b1, ?_⟩
  · rcases o.pl with z | z
    · omega
    · exact z.2
  · have := o.b2
    rw [h] at this
    rw [Int.mul_one] at b2
    exact Int.le_trans b2 this
theorem ok_part {st : R5} {c d : Int} (o : Ok st) (h : st.la = 1 ∨ st.la = 2) (d1 : 1 ≤ d) (d2 : d ≤ 999) : Ok (add st c d 3) := by
  obtain ⟨b1, b2⟩ := add_b (st := st) (c := c) (d := d) (la := 3) o.b1 d1
  have pp : 0 ≤ st.pl ∧ st.pl ≤ 4 := by
    rcases o.pl with z | z
    · omega
    · exact z.2
  refine ⟨.inr ⟨.inr (.inr rfl), pp⟩, b1, ?_⟩
  have e0 := o.b2
  have e1 : (if st.la = 3 then (1 : Int) else if st.la = 0 then 1 else 0) = 0 := by
    rw [if_neg (by omega), if_neg (by omega)]
  rw [e1, Int.add_zero] at e0
  show (add st c d 3).b ≤ 1000 ^ (st.pl + 1).toNat
  rw [show (st.pl + 1).toNat = st.pl.toNat + 1 by omega, Int.pow_succ]
  refine Int.le_trans b2 ?_
  exact Int.mul_le_mul e0 (by omega) (by omega) (by have := o.b1; omega)
theorem ok_unit {st : R5} {p : Nat} (o : Ok st) (hp : p < 5) (h : ¬ (st.la = 1 ∨ (p : Int) ≤ st.pl)) : Ok { st with pl := p, la := 1 } := by
  refine ⟨.inr ⟨.inl rfl, by show (0 : Int) ≤ p; omega, by show (p : Int) ≤ 4; omega⟩, o.b1, ?_⟩
  show st.b ≤ 1000 ^ ((p : Int) + 0).toNat
  refine Int.le_trans o.b2 ?_
  have : (st.pl + (if st.la = 3 then 1 else if st.la = 0 then 1 else 0)).toNat ≤ ((p : Int) + 0).toNat := by
    split
    · omega
    · split <;> omega
  exact_mod_cast Nat.pow_le_pow_right (by decide) this
theorem ok_sPart {st st' : R5} {w : Str} (o : Ok st) (h : st.la = 1 ∨ st.la = 2) (e : sPart st w = some st') : Ok st' := by
  unfold sPart at e
  cases hp : part w st.pl with
  | none => rw [hp] at e; cases e
  | some p =>
    obtain ⟨c, d⟩ := p
    rw [hp] at e
    cases e
    have := part_pos hp
    exact ok_part o h this.1 this.2
theorem ok_sNum {st st' : R5} {w : Str} (o : Ok st) (h : st.la = 1) (e : sNum st w = some st') : Ok st' := by
  unfold sNum at e
  cases hp : M04.kn 399 w with
  | none => rw [hp] at e; cases e
  | some n => rw [hp] at e; cases e; exact ok_num o h
theorem ok_step {st st' : R5} {w : Str} (o : Ok st) (e : step st w = some st') : Ok st' := by
  unfold step at e
  cases hu : ui w with
  | some p =>
    rw [hu] at e
    simp only [sUnit] at e
    split at e
    · cases e
    · rename_i q
      cases e
      exact ok_unit o (ui_some hu).1 q
  | none =>
    rw [hu] at e
    simp only at e
    split at e
    · rename_i h
      cases hn : sNum st w with
      | some s => rw [hn] at e; cases e; exact ok_sNum o h hn
      | none => rw [hn] at e; exact ok_sPart o (.inl h) e
    · split at e
      · rename_i h; exact ok_sPart o (.inr h) e
      · cases e
def steps : List Str → R5 → Option R5
  | [], st => some st
  | w :: ws, st => (step st w).bind (steps ws)
def rd (x : Str) : Option (Int × Int) := (steps (Txt.split x " ") r0).bind fun st => if st.la = 2 ∨ st.la = 3 then some (st.a, st.b) else none
end M06


set_option maxRecDepth 100000
set_option linter.all false
set_option maxHeartbeats 4000000
set_option Elab.async false
namespace PySem.SeqAt
open AutoSeq1 (wpAny_loadPart')
open MeetsSeq MeetsSeq2 MeetsSeq3 SeqRoads2
theorem tuple_indexAt (l : Addr) (items : Array Value) (n : Nat) (dd : Option Addr) (sl : Array (Option Value)) (x : Value) (e : Value → Bool) (j : Nat) (hj : j < items.size)
    (hit : e items[j] = true) (hno : ∀ m (hm : m < items.size), m < j → e items[m] = false) :
    Meets (Builtin.«tuple.index» ⟨[.ref l, x], []⟩)
      (fun A R s => s.heap.get? l = some { cls := .type "tuple", dict := dd, data := .seq items n, slots := sl } ∧ (∀ y, y ∈ items → EqAt A.in1 s y x (e y)) ∧ R (.ok (.ret (.int j s.toks))) { s with toks := s.toks + 1 }) :=
  .of_wp fun prog w A R s h => by
    obtain ⟨hp, g, d, tk, os⟩ := s; obtain ⟨hl, he, h⟩ := h
    wp_walk using wpAny_loadPart' hl
    change wpAny (model prog w) A.in1 (forIn [:min items.size items.size] ((none : Option Fin), ()) (fun (i : Nat) (_ : Option Fin × Unit) => match items[i]? with
      | some y => do
        let b ← eqBool y x
        if b = true then do
          let r ← retInt (i : Int)
          pure (ForInStep.done (some r, ()))
        else pure (ForInStep.yield (none, ()))
      | _ => pure (ForInStep.yield (none, ())))) _ _ _
    rw [Std.Legacy.Range.forIn_eq_forIn_range']
    refine wpAny_forIn_list _ (fun (rest : List Nat) (b : Option Fin × Unit) s' => b.1 = none ∧ s' = ⟨hp, g, d, tk, os⟩ ∧ ∃ i, i ≤ j ∧ rest = List.range' i (items.size - i)) _ ?turnX ?finX _ _ ?startX
    case turnX =>
      rintro y rest b s' ⟨hb, rfl, i, hij, hr⟩
      have hlt : i < items.size := by omega
      have e1 : items.size - i = (items.size - (i + 1)) + 1 := by omega
      rw [e1, List.range'_succ] at hr
      injection hr with hy hr
      subst hy
      have gi : items[y]? = some items[y] := Array.getElem?_eq_getElem hlt
      simp only [gi]
      refine wpAny_bind (he _ (Array.getElem_mem hlt) prog w _ _ ?_)
      by_cases q : y = j
      · subst q
        rw [hit]
        wp_walk
        exact ⟨_, rfl, h⟩
      · rw [hno y hlt (by omega)]
        wp_walk
        exact ⟨rfl, rfl, y + 1, by omega, hr⟩
    case finX =>
      rintro b s' ⟨hb, rfl, i, hij, hr⟩
      have e1 : items.size - i = (items.size - (i + 1)) + 1 := by omega
      rw [e1, List.range'_succ] at hr
      cases hr
    case startX =>
      exact ⟨rfl, rfl, 0, by omega, by simp⟩
end PySem.SeqAt

namespace L13
open PySem PySem.Spec PyProof.Rows L2 L3 L6 X8 QL M01
section
variable {X : Cx}
/-! ### tuples: index, != -/
def rTIdx (K : PySem.W.Frag) : V → List V → Hp → VK → Prop := fun x xs H Q => ∃ (a : Addr) (ss : List Str) (w : Str) (j : Nat), x = .ref a ∧ xs = [.str w] ∧ SqT K H a (ss.map V.str) ∧ ss[j]? = some w ∧ (∀ m, m < j → ss[m]? ≠ some w) ∧ Q (.int j) H
theorem mt_tindex : MtR X "tuple.index" (rTIdx X.K) := by
  intro pins s σ H x xs v us Q I rx rs h
  obtain ⟨a, ss, w, j, rfl, rfl, ha, hj, hm, q⟩ := h
  cases rx
  obtain ⟨u, rfl, ru⟩ := vals1 rs
  obtain ⟨its, r, pl, hz⟩ := I.tuple ha
  obtain ⟨⟨cls, dd, data, sl⟩, ho, hc, n, hd⟩ := id pl
  simp only at hc hd
  subst hc hd
  have fs : (ss.map V.str).all flatV = true := by rw [List.all_map, List.all_eq_true]; intro _ _; rfl
  have at_ : ∀ (m : Nat) (hm : m < its.length) (z : Str), ss[m]? = some z → eqU (.str w) its[m] = decide (z = w) := fun m hm z hz => by
    have e1 : (ss.map V.str)[m]? = some (.str z) := by rw [List.getElem?_map, hz]; rfl
    obtain ⟨w1, g1, k1⟩ := r.get e1
    have g2 : its[m] = w1 := (List.getElem?_eq_some_iff.mp g1).2
    rw [g2, eqU_of k1 rfl]
    show (z == w) = _
    by_cases q : z = w
    · subst q; rw [decide_eq_true rfl, beq_self_eq_true]
    · rw [decide_eq_false q, beq_eq_false_iff_ne.mpr q]
  have ll : its.length = ss.length := by rw [← r.length, List.length_map]
  have jl : j < ss.length := (List.getElem?_eq_some_iff.mp hj).1
  refine call_meets PySem.F.slot_tuple_index ⟨_, ho, rfl⟩ PySem.F.entry_tuple_index (PySem.F.args_tuple_index_2 _ _) (SeqAt.tuple_indexAt a its.toArray n dd sl u (eqU (.str w)) j (by simp; omega) ?_ ?_) ⟨ho, fun y hy => mem_eqAt ru rfl r fs y (by simpa using hy), ⟨.int j, H, I.tok _, ⟨_, rfl⟩, q⟩⟩
  · rw [List.getElem_toArray, at_ j (by omega) w hj]
    exact decide_eq_true rfl
  · intro m hm' hmj
    have hm2 : m < ss.length := by omega
    rw [List.getElem_toArray, at_ m (by omega) ss[m] (List.getElem?_eq_getElem hm2)]
    exact decide_eq_false fun z => hm m hmj (by rw [List.getElem?_eq_getElem hm2, z])
def rNeT (K : PySem.W.Frag) : R2 := fun x y H Q => ∃ (a b : Addr) (ns ms : List Int), x = .ref a ∧ y = .ref b ∧ SqT K H a (ns.map V.int) ∧ SqT K H b (ms.map V.int) ∧ Q (.bl (!decide (ns = ms))) H
theorem op_neT (hu : X.A.units < cLine) : OpR X (compareOp .NotEq) (rNeT X.K) := by
  intro pins s σ H x y v u Q I rx ry h
  obtain ⟨a, b, ns, ms, rfl, rfl, ha, hb, q⟩ := h
  cases rx
  cases ry
  obtain ⟨its, r1, p1, _⟩ := I.tuple ha
  obtain ⟨its2, r2, p2, _⟩ := I.tuple hb
  have l1 : ns.length = its.length := by rw [← r1.length, List.length_map]
  have l2 : ms.length = its2.length := by rw [← r2.length, List.length_map]
  refine SeqAt.RcNeAt.tuples (e := fun j => decide (ns[j]? = ms[j]?)) p1 p2 hu (fun j h1 h2 => ?_) X.prog X.w _ _ ⟨.bl (!decide (ns = ms)), H, I, ?_, q⟩
  · have j1 : j < ns.length := by rw [l1]; simpa using h1
    have j2 : j < ms.length := by rw [l2]; simpa using h2
    have e1 : (ns.map V.int)[j]? = some (.int ns[j]) := by rw [List.getElem?_map, List.getElem?_eq_getElem j1]; rfl
    have e2 : (ms.map V.int)[j]? = some (.int ms[j]) := by rw [List.getElem?_map, List.getElem?_eq_getElem j2]; rfl
    obtain ⟨w1, g1, t1, k1⟩ := r1.get e1
    obtain ⟨w2, g2, t2, k2⟩ := r2.get e2
    have f1 : its.toArray[j] = w1 := by
      have z := (List.getElem?_eq_some_iff.mp g1).2
      simpa using z
    have f2 : its2.toArray[j] = w2 := by
      have z := (List.getElem?_eq_some_iff.mp g2).2
      simpa using z
    rw [f1, f2, k1, k2, List.getElem?_eq_getElem j1, List.getElem?_eq_getElem j2]
    have e3 : decide (some ns[j] = some ms[j]) = (ns[j] == ms[j]) := by
      by_cases z : ns[j] = ms[j]
      · rw [z, decide_eq_true rfl, beq_self_eq_true]
      · rw [decide_eq_false (fun w => z (Option.some.inj w)), beq_eq_false_iff_ne.mpr z]
    rw [e3]
    exact SeqAt.EqAt.int_int _ _ _ _
  · show Value.bool _ = Value.bool _
    rw [← all_eq ns ms, l1, l2]
    simp
end
/-! ### a class of the text with its methods -/
structure CL (K : PySem.W.Frag) (mg : Str → Option Value) (x : Str) (C : Addr) : Prop where
  m : mg x = some (.ref C)
  cl : Cls K C
  mkd : PySem.W.makesIn K C = true
  kp : PySem.W.keepIn K (.ref C) = true
def Met (K : PySem.W.Frag) (C : Addr) (x q : Str) (st : Stmt) : Prop := ∃ f fd, Meth K C x f ∧ L2.Fun K x q st f fd
def MDef (P : Program) (w : World) (K : PySem.W.Frag) (mg : Str → Option Value) (base : Heap) (CX : CXT) (k : Nat) (C : Addr) (x : Str) (ps : List Str) (sp : Sp) : Prop :=
  ∃ f fd, Meth K C x f ∧ FnOk P w K mg base CX k f fd ps sp ∧ Binds K fd ps []
theorem mdef_of {P : Program} {w : World} {K : PySem.W.Frag} {mg : Str → Option Value} {base : Heap} {C : Addr} {x q : Str} {st : Stmt} {N ps : List Str} {k : Nat} {sp : Sp} (T : Met K C x q st)
    (hb : ∀ (kV doc pm : Value) (an : Option Addr) (cdv ct : Value) (us : List Value), us.length = ps.length → bindArgs (PySem.W.fnOf x q (defArgs st) (defBody st) (defScope st) .none kV doc pm an cdv ct) ⟨us, []⟩ = pure (ps.zip us))
    (S : FnScope N ps (defScope st)) (len : ∀ vs H Q E, sp vs H Q E → vs.length = ps.length)
    (hbody : ∀ (f : Addr) (cdv : Value) (A : Around) (outer : List Env) (s : Shared) (H : Hp) (vs : List V) (Q : VK) (E : XK), Room k (A.deeper (envOfC q (defScope st) s.heap.objs.size f cdv)) → sp vs H Q E →
      ∃ t, QSs (cxOf CX0 P w K mg base N q (defScope st) f cdv A outer s H E).nox (defBody st) t ∧ t { nx := fun _ H' => Q .non H', rt := Q } (start N vs) H) : MDef P w K mg base CX0 (k + 1) C x ps sp := by
  obtain ⟨f, fd, M, F⟩ := T
  exact ⟨f, fd, M, F.ok S len (fun cdv A outer s H vs Q E hr h => let ⟨t, a, b⟩ := hbody f cdv A outer s H vs Q E hr h; ⟨t, a.h, b⟩), F.binds hb⟩
section
variable {X : Cx} {CX : CXT} {k : Nat} {C : Addr} {ps : List Str} {sp : Sp} {E : XK} {m x : Str} {p apos pos : Pos} {o e : Expr} {es : List Expr} {ta : TE} {t : TA}
theorem qe_methD (he : QE X o ta) (c : Cls X.K C) (D : MDef X.prog X.w X.K X.mg X.base CX k C m ps sp) (hr : Room k X.A) (hx : Passes CX X E) (ha : QA X (e :: es) t) {pl : Sem Bool}
    (hst : starEach (e :: es) X.env = (false, eval e X.env) :: starEach es X.env := by rfl) (hpl : (backTo pos (starEach es X.env)).any (·.1) = false := by rfl)
    (ht : eval (.Call (.Attribute o m apos) (e :: es) [] pos) X.env = (do
      let ov ← eval o X.env
      standAt apos.atName
      let (f, first) ← holding [ov] (getMethod ov m pl)
      callWith pos f first (backTo pos (starEach (e :: es) X.env)) (backToKw pos (keywordEach [] X.env))) := by rfl) :
    QE X (.Call (.Attribute o m apos) (e :: es) [] pos) (tMeth C m sp [] E ta t) := by
  obtain ⟨f, fd, M, F, b⟩ := D
  exact qe_meth he c M F hr b .nil hx ha hst hpl ht
theorem qe_methD0 (he : QE X o ta) (c : Cls X.K C) (D : MDef X.prog X.w X.K X.mg X.base CX k C m ps sp) (hr : Room k X.A) (hx : Passes CX X E) {pl : Sem Bool}
    (ht : eval (.Call (.Attribute o m apos) [] [] pos) X.env = (do
      let ov ← eval o X.env
      standAt apos.atName
      let (f, first) ← holding [ov] (getMethod ov m pl)
      callWith pos f first (backTo pos (starEach [] X.env)) (backToKw pos (keywordEach [] X.env))) := by rfl) :
    QE X (.Call (.Attribute o m apos) [] [] pos) (tMeth C m sp [] E ta tNil) := by
  obtain ⟨f, fd, M, F, b⟩ := D
  exact qe_meth0 he c M F hr b .nil hx ht
theorem qe_makeD0 (c : CL X.K X.mg x C) (D : MDef X.prog X.w X.K X.mg X.base CX k C "__init__" ps sp) (hr : Room (k + 1) X.A) (hg : Gl X x) (hx : Passes CX X E) (hdb : (x == ("__debug__" : Str)) = false := by decide) :
    QE X (.Call (.Name x p) [] [] pos) (tMake C sp [] E tNil) := by
  obtain ⟨f, fd, M, F, b⟩ := D
  exact qe_make0 ⟨c.mkd, M.at_, M.fn, c.kp⟩ F hr hg c.m b .nil hx hdb
/-- a call of a def whose second argument has a number as default -/
def DefD (P : Program) (w : World) (K : PySem.W.Frag) (mg : Str → Option Value) (base : Heap) (CX : CXT) (k : Nat) (x : Str) (ps : List Str) (d : Int) (sp : Sp) : Prop :=
  ∃ f fd tk, FnOk P w K mg base CX k f fd ps sp ∧ Binds K fd ps [] ∧ Binds K fd ps [.int d tk] ∧ mg x = some (.ref f) ∧ PySem.W.keepIn K (.ref f) = true
theorem DefD.all {P : Program} {w : World} {K : PySem.W.Frag} {mg : Str → Option Value} {base : Heap} {d : Int} (D : DefD P w K mg base CX k x ps d sp) : Def P w K mg base CX k x ps sp := by
  obtain ⟨f, fd, tk, F, b, _, m, kp⟩ := D
  exact ⟨f, fd, F, b, m, kp⟩
theorem qe_callDef {d : Int} (D : DefD X.prog X.w X.K X.mg X.base CX k x ps d sp) (hr : Room k X.A) (hg : Gl X x) (hx : Passes CX X E)
    (ha : QA X (e :: es) t) (hdb : (x == ("__debug__" : Str)) = false := by decide) (he : starEach (e :: es) X.env = (false, eval e X.env) :: starEach es X.env := by rfl) (hpl : (backTo pos (starEach es X.env)).any (·.1) = false := by rfl) :
    QE X (.Call (.Name x p) (e :: es) [] pos) (tCall sp [.int d] E t) := by
  obtain ⟨f, fd, tk, F, _, b, m, kp⟩ := D
  exact ⟨pe_call F hr hg m kp b (.cons ⟨tk, rfl⟩ .nil) hx ha.h hdb he hpl⟩
end
theorem qs_try0 {X : Cx} {x : Str} {C S : Addr} {np hpos pos : Pos} {body suite : List Stmt} {b0 : Stmt} {tb : (L2.St → XK) → TS} {ts : TS} (hg : Gl X x) (hm : X.mg x = some (.ref C)) (c : XCls X.K C S) (hst : X.stack = X.env :: X.outer) (hfr : X.env.frame = some X.env.locals)
    (hb : ∀ (pn : List (Addr × Obj)) (xe : Value → Shared → Prop) (E : L2.St → XK), Catches (Cx.alt X pn xe) E → QSs (Cx.alt X pn xe) body (tb E)) (hs : ∀ e, QSs (Cx.in X e fun _ _ => False) (b0 :: suite) ts)
    (hdb : (x == ("__debug__" : Str)) = false := by decide) :
    QS X (.Try body [.ExceptHandler (some (.Name x np)) none (b0 :: suite) hpos] [] [] pos) (fun D σ H => tb (hWant0 C ts D) D σ H) :=
  ⟨ps_try0 hg hm c hst hfr (fun pn xe E c => (hb pn xe E c).h) (fun e => (hs e).h) hdb⟩
end L13


set_option maxRecDepth 100000
set_option linter.all false
set_option maxHeartbeats 800000
set_option Elab.async false
namespace K5
open PySem L2 L3 X8 M01 L6 L5 QL
def top (i : Nat) : Stmt := PySem.Challenge.pw_scruplehouse_k05_amounts_read.main.body.getD i (.Pass ⟨0, 0, 0, 0⟩)
abbrev si_NoNumber : Stmt := inClass (top 2) 0
abbrev si_NoAmount : Stmt := inClass (top 3) 0
abbrev s_greatest_divisor : Stmt := top 5
abbrev s_fraction : Stmt := top 6
abbrev s_plus : Stmt := top 7
abbrev s_plain_number : Stmt := top 10
abbrev s_plain_fraction : Stmt := top 11
abbrev s_has_numeral : Stmt := top 17
abbrev s_numeral : Stmt := top 18
abbrev s_worth_of : Stmt := top 19
abbrev s_number_of : Stmt := top 20
abbrev s_written_number : Stmt := top 30
abbrev s_written_fraction : Stmt := top 31
abbrev s_part_of_unit : Stmt := top 32
abbrev si_AmountReader : Stmt := inClass (top 33) 0
abbrev si_AmountReader_take : Stmt := inClass (top 33) 1
abbrev si_AmountReader_take_unit : Stmt := inClass (top 33) 2
abbrev si_AmountReader_take_numeral : Stmt := inClass (top 33) 3
abbrev si_AmountReader_take_part : Stmt := inClass (top 33) 4
abbrev si_AmountReader_is_full : Stmt := inClass (top 33) 5
abbrev s_read_amount : Stmt := top 34
abbrev s_law_cell : Stmt := top 36
abbrev s_law_wheel : Stmt := top 37
abbrev s_law_lowest : Stmt := top 38
abbrev s_law_is : Stmt := top 39
abbrev s_law_numeral : Stmt := top 40
abbrev s_law_shares : Stmt := top 41
abbrev s_law_part : Stmt := top 42
abbrev s_law_amount : Stmt := top 43
abbrev s_law : Stmt := top 44
open M03 L8 L9 L10 L13 L11
theorem kit_bi (K : PySem.W.Frag) (T U : String) (b : Bool) (h : (if (Value.type T == Value.type U) = true then some true else (if PySem.W.kitMeta U = true then (fastBuiltinMro T).map (·.contains (.type U)) else none)) = some b) :
    PySem.W.kitOne K (.type T) (.type U) = some b := h
section
variable {P : Program} {w : World} {K : PySem.W.Frag} {mg : Str → Option Value} {base : Heap} {S C : Addr}
theorem sc_NoNumber : FnScope ["self", "number"] ["self", "number"] (defScope si_NoNumber) := ⟨rfl, rfl, rfl, by decide +kernel, rfl, by decide +kernel, by decide +kernel⟩
theorem xr_NoNumber {P : Program} {w : World} {K : PySem.W.Frag} {mg : Str → Option Value} {base : Heap} {S C : Addr} (B : XB K mg S) (N : XC K mg S "NoNumber" "number" "NoNumber.__init__" si_NoNumber C) : XR P w K mg base S "NoNumber" "number" C := by
  obtain ⟨f, fd, ai, iI, F⟩ := N.i
  refine ⟨N.m, N.c, N.na, f, fd, "number", ai, iI, ?_, F.binds (ps := ["self", "number"]) fun _ _ _ _ _ _ us hl => match us, hl with | [_, _], _ => rfl⟩
  refine F.ok sc_NoNumber (fun vs H Q E h => ?_) (fun cdv A outer s H vs Q E hr h => ?_)
  · obtain ⟨e, y, rfl, _⟩ := h
    rfl
  · obtain ⟨e, y, rfl, he, k⟩ := h
    refine ⟨_, pss_cons (ps_expr (pe_xbase rfl B.m B.b (pa_cons (pv 0) (pa_cons pe_str pa_nil)))) (pss_one (ps_xfld (pv 0) (pv 1) rfl)), ?_⟩
    refine ⟨_, rfl, e, C, S, _, rfl, he, N.c, ?_⟩
    refine ⟨_, rfl, _, rfl, e, C, S, rfl, upd_same, N.c, N.na, fun dx nd ne => ?_⟩
    rw [upd_ne ne] at nd
    have q := k dx nd ne
    have eq : upd (upd (upd H e (XRaw e C)) dx (HO.xd [("number", y)])) e (XDct e C dx) = upd (upd H dx (HO.xd [("number", y)])) e (XDct e C dx) := by
      funext z
      by_cases h1 : z = e
      · subst h1; rw [upd_same, upd_same]
      · rw [upd_ne h1, upd_ne h1]
        by_cases h2 : z = dx
        · subst h2; rw [upd_same, upd_same]
        · rw [upd_ne h2, upd_ne h2, upd_ne h1]
    show Q .non _
    rw [eq]
    exact q
/-! ### has_numeral -/
def spHas : Sp := fun vs H Q _ => ∃ n : Int, vs = [.int n] ∧ Q (.bl (decide (1 ≤ n ∧ n ≤ 399))) H
theorem scHas : FnScope ["number"] ["number"] (defScope s_has_numeral) := ⟨rfl, rfl, rfl, by decide +kernel, rfl, by decide +kernel, by decide +kernel⟩
theorem d_has (T : Th K mg "has_numeral" s_has_numeral) (zisinstance : mg "isinstance" = none) (zint : mg "int" = none) (zbool : mg "bool" = none) (gG : ∃ tk, mg "GREATEST" = some (.int 399 tk)) : Def P w K mg base CX0 1 "has_numeral" ["number"] spHas := by
  refine QL.def_of T (fun _ _ _ _ _ _ us hl => match us, hl with | [_], _ => rfl) scHas (fun vs H Q E h => ?_) (fun f cdv A outer s H vs Q E hr h => ?_)
  · obtain ⟨n, rfl, _⟩ := h
    rfl
  · obtain ⟨n, rfl, q⟩ := h
    obtain ⟨tk, mGR0⟩ := gG
    have mGR := mGR0
    refine ⟨_, (qss_cons (qs_if (QW.pt (qw_or (qt_val (qe_callB call_isinst (by rfl) zisinstance PyProof.Rows.boot_isinstance (qa_cons (qv 0) (qa_cons (qe_bltn (v := .ty "bool") rfl zbool PyProof.Rows.boot_bool rfl) qa_nil)))) (qw_or1 (qt_not (qt_val (qe_callB call_isinst (by rfl) zisinstance PyProof.Rows.boot_isinstance (qa_cons (qv 0) (qa_cons (qe_bltn (v := .ty "int") rfl zint PyProof.Rows.boot_int rfl) qa_nil)))))))) (qss_one (qs_ret qe_bl)) qss_nil)
      (qss_one (qs_ret (qe_chain op_le op_le qe_int (qv 0) (qe_glob (v := .int 399) rfl mGR ⟨_, rfl⟩))))), ?_⟩
    refine ⟨_, rfl, _, _, .type "bool", .type "int", false, rfl, fun u z => z, .int n, kit_bi K "int" "bool" false (by decide +kernel), false, rfl, iteF ?_⟩
    refine ⟨_, rfl, _, _, .type "int", .type "int", true, rfl, fun u z => z, .int n, by rfl, true, rfl, iteF ?_⟩
    refine ⟨_, rfl, _, _, rfl, rfl, _, rfl, ?_⟩
    refine ite2 (fun z => ?_) (fun z => ?_)
    · have z' : 1 ≤ n := of_decide_eq_true z
      refine ⟨_, _, rfl, rfl, ?_⟩
      show Q (.bl (decide (n ≤ 399))) H
      rw [show decide (n ≤ 399) = decide (1 ≤ n ∧ n ≤ 399) from by simp [z']]
      exact q
    · have z' : ¬ 1 ≤ n := fun y => z (decide_eq_true y)
      show Q (.bl false) H
      rw [show false = decide (1 ≤ n ∧ n ≤ 399) from by simp [z']]
      exact q
/-! ### numeral -/
def spNum (C : Addr) : Sp := fun vs H Q E => ∃ n : Int, vs = [.int n] ∧ (1 ≤ n → n ≤ 399 → Q (.str (numS n)) H) ∧ (¬ (1 ≤ n ∧ n ≤ 399) → ∀ dx, H dx = none → E (.ref C) (some dx) (upd H dx (.xd [("number", .int n)])))
theorem scNum : FnScope ["number", "text"] ["number"] (defScope s_numeral) := ⟨rfl, rfl, rfl, by decide +kernel, rfl, by decide +kernel, by decide +kernel⟩
theorem at_strs {xs : List Str} {i : Int} (h0 : 0 ≤ i) (h1 : i < xs.length) : atI (xs.map V.str) i = some (.str (xs.getD i.toNat "")) := by
  have hlt : i.toNat < xs.length := by omega
  have e : (xs.map V.str)[i.toNat]? = some (.str xs[i.toNat]) := by rw [List.getElem?_map, List.getElem?_eq_getElem hlt]; rfl
  have e2 := atI_nat e
  rw [show ((i.toNat : Nat) : Int) = i from by omega] at e2
  rw [e2, List.getD_eq_getElem?_getD, List.getElem?_eq_getElem hlt]
  rfl
theorem line12 {n : Nat} (h : n ≤ 1000) : n ≤ sizeLine := Nat.le_trans h (by decide +kernel)
theorem str_app_len (x y : Str) : (x ++ y).length = x.length + y.length := by show (x.cps ++ y.cps).size = _; rw [Array.size_append]; rfl
theorem lens : (∀ x ∈ tensL, x.length ≤ 4) ∧ ∀ x ∈ onesL, x.length ≤ 4 := by decide +kernel
theorem getD_len {xs : List Str} {i : Nat} (h : ∀ x ∈ xs, x.length ≤ 4) : (xs.getD i "").length ≤ 4 := by
  rw [List.getD_eq_getElem?_getD]
  cases e : xs[i]? with
  | none => decide +kernel
  | some x => exact h x (List.mem_of_getElem? e)
theorem d_numeral (T : Th K mg "numeral" s_numeral) (dHas : Def P w K mg base CX0 1 "has_numeral" ["number"] spHas) (rNoNumber : XR P w K mg base S "NoNumber" "number" C)
    (gT : ∃ a, mg "TENS" = some (.ref a) ∧ ∀ H, SqT K H a (tensL.map V.str)) (gO : ∃ a, mg "ONES" = some (.ref a) ∧ ∀ H, SqT K H a (onesL.map V.str)) : Def P w K mg base (CXe P w) 3 "numeral" ["number"] (spNum C) := by
  refine QL.def_ofX T (fun _ _ _ _ _ _ us hl => match us, hl with | [_], _ => rfl) scNum (fun vs H Q E h => ?_) (fun f cdv A outer s H vs Q E hr h => ?_)
  · obtain ⟨n, rfl, _⟩ := h
    rfl
  · obtain ⟨n, rfl, q1, q2⟩ := h
    obtain ⟨aT, mT, sT⟩ := gT
    obtain ⟨aO, mO, sO⟩ := gO
    refine ⟨_, (qss_cons (qs_if (qt_not (qt_val (qe_callD dHas (hr.mono (by decide)) rfl pass0 (qa_cons (qv 0) qa_nil)))) (qss_one (qs_raiseD rNoNumber (hr.mono (by decide)) rfl catches_def (qv 0) rfl)) qss_nil)
      (qss_cons (qs_set (i := 1) scNum.nd rfl (Or.inl rfl) (qe_op op_add_str (qe_op op_add_str (qe_op op_mul_str qe_str (qe_op op_fdiv (qv 0) qe_int)) (qe_ix ix_tup (qe_glob (v := .ref aT) rfl mT rfl) (qe_op op_mod (qe_op op_fdiv (qv 0) qe_int) qe_int) (fun _ _ => rfl))) (qe_ix ix_tup (qe_glob (v := .ref aO) rfl mO rfl) (qe_op op_mod (qv 0) qe_int) (fun _ _ => rfl))))
      (qss_cons (qs_if (qt_val (qe_bm PySem.F.plainAttrs_str PySem.F.slot_str_endswith PySem.F.type_str_endswith mt_endswith (qv 1) (qa_cons qe_str qa_nil))) (qss_one (qs_ret (qe_op op_add_str (qe_slice sl_str (qv 1) qo_none (qo_some (qe_un un_neg qe_int))) qe_str))) qss_nil)
      (qss_one (qs_ret (qv 1)))))), ?_⟩
    refine ⟨_, rfl, n, rfl, _, rfl, ?_⟩
    by_cases h : 1 ≤ n ∧ n ≤ 399
    · rw [decide_eq_true h]
      refine iteF ?_
      obtain ⟨f1, f2, f3⟩ := num_facts h.1 h.2
      have lc := mul_c (n / 100) (by omega) (by omega)
      have lt := getD_len (i := (n / 10 % 10).toNat) lens.1
      have lo := getD_len (i := (n % 10).toNat) lens.2
      refine ⟨_, rfl, _, _, rfl, rfl, ⟨by decide, by decide⟩, _, _, rfl, rfl, by decide +kernel, by omega, by omega, line12 (by omega), ?_⟩
      refine ⟨_, rfl, _, _, rfl, rfl, ⟨by decide, by decide⟩, _, _, rfl, rfl, (by show (0 : Int) < 10; decide), aT, _, _, _, rfl, rfl, sT _, at_strs (by omega) (by show _ < (10 : Int); omega), ?_⟩
      refine ⟨_, _, rfl, rfl, line12 (by omega), ?_⟩
      refine ⟨_, rfl, _, _, rfl, rfl, (by show (0 : Int) < 10; decide), aO, _, _, _, rfl, rfl, sO _, at_strs (by omega) (by show _ < (10 : Int); omega), ?_⟩
      refine ⟨_, _, rfl, rfl, line12 (by rw [str_app_len]; omega), ?_⟩
      show (tSeq _ _) _ [some (V.int n), some (V.str (numT n))] H
      refine ⟨_, rfl, rfl, _, _, rfl, rfl, _, rfl, ?_⟩
      have q := q1 h.1 h.2
      unfold numS at q f2
      refine ite2 (fun z => ?_) (fun z => ?_)
      · rw [if_pos z] at q f2
        refine ⟨_, rfl, _, rfl, _, rfl, _, rfl, line12 (by omega), _, _, rfl, rfl, line12 ?_, q⟩
        rw [← str_app_len]
        omega
      · rw [if_neg z] at q
        exact ⟨_, rfl, q⟩
    · rw [decide_eq_false h]
      refine iteT ?_
      exact ⟨_, rfl, q2 h⟩
/-! ### worth_of -/
def spWor : Sp := fun vs H Q _ => ∃ x : Str, vs = [.str x] ∧ x.length ≤ sizeLine ∧ Q (.int (worS x)) H
theorem scWor : FnScope ["text", "total", "behind", "sign", "worth"] ["text"] (defScope s_worth_of) := ⟨rfl, rfl, rfl, by decide +kernel, rfl, by decide +kernel, by decide +kernel⟩
theorem d_worth (T : Th K mg "worth_of" s_worth_of) (gW : ∃ a, mg "WORTHS" = some (.ref a) ∧ TabK K a worths) (zreversed : mg "reversed" = none) : Def P w K mg base CX0 1 "worth_of" ["text"] spWor := by
  refine QL.def_of T (fun _ _ _ _ _ _ us hl => match us, hl with | [_], _ => rfl) scWor (fun vs H Q E h => ?_) (fun f cdv A outer s H vs Q E hr h => ?_)
  · obtain ⟨n, rfl, _⟩ := h
    rfl
  · obtain ⟨x, rfl, hx, q⟩ := h
    obtain ⟨aW, mW, tW⟩ := gW
    refine ⟨_, (qss_cons (qs_set (i := 1) scWor.nd rfl (Or.inl rfl) qe_int)
      (qss_cons (qs_set (i := 2) scWor.nd rfl (Or.inl rfl) qe_int)
      (qss_cons (qs_for PassesOwn.never rfl (qi_rev rfl zreversed (qa_cons (qv 0) qa_nil)) (qg_name (i := 3) scWor.nd rfl (Or.inl rfl))
        (qss_cons (qs_set (i := 4) scWor.nd rfl (Or.inl rfl) (qe_bmK PySem.F.slot_dict_get PySem.F.type_dict_get mt_getK (qe_glob (v := .ref aW) rfl mW rfl) (qa_cons (qv 3) (qa_cons qe_int qa_nil))))
      (qss_cons (qs_if (qt_cmpR op_eq (qv 4) qe_int (nomark _)) (qss_one (qs_ret qe_int)) qss_nil)
      (qss_cons (qs_if (qt_cmpR op_lt (qv 4) (qv 2) (nomark _)) (qss_one (qs_set (i := 1) scWor.nd rfl (Or.inl rfl) (qe_op op_sub (qv 1) (qv 4)))) (qss_one (qs_set (i := 1) scWor.nd rfl (Or.inl rfl) (qe_op op_add (qv 1) (qv 4)))))
      (qss_one (qs_set (i := 2) scWor.nd rfl (Or.inl rfl) (qv 4)))))))
      (qss_one (qs_ret (qv 1)))))), ?_⟩
    refine ⟨_, rfl, x, rfl, hx, for_rev (x := x) (fun i σ H2 => H2 = H ∧ ∃ t b v3 v4, σ = [some (.str x), some (.int t), some (.int b), v3, v4] ∧ worGo (x.cps.toList.reverse.drop i) t b = worS x) ?_ ?_ ?_⟩
    · exact ⟨rfl, 0, 0, none, none, rfl, rfl⟩
    · rintro i c σ H2 hc ⟨rfl, t, b, v3, v4, rfl, e⟩
      have hd : x.cps.toList.reverse.drop i = c :: x.cps.toList.reverse.drop (i + 1) := by
        obtain ⟨hl, hv⟩ := List.getElem?_eq_some_iff.mp hc
        rw [List.drop_eq_getElem_cons hl, hv]
      rw [hd] at e
      unfold worGo at e
      refine ⟨⟨aW, worths, rfl, tW⟩, _, rfl, aW, _, 0, worths, rfl, rfl, tW, ?_⟩
      show (tSeq _ _) _ [some (V.str x), some (V.int t), some (V.int b), some (V.str ⟨#[c]⟩), some (V.int (wor c))] H2
      refine ⟨_, rfl, rfl, _, rfl, ?_⟩
      by_cases w0 : wor c = 0
      · rw [w0, decide_eq_true rfl]
        refine iteT ?_
        rw [if_pos w0] at e
        show Q (.int 0) H2
        rw [e]
        exact q
      · rw [decide_eq_false (fun z => w0 (by injection z))]
        refine iteF ?_
        rw [if_neg w0] at e
        refine ⟨_, rfl, _, rfl, _, _, rfl, rfl, _, rfl, ?_⟩
        refine ite2 (fun z => ?_) (fun z => ?_)
        · have z' : wor c < b := of_decide_eq_true z
          rw [if_pos z'] at e
          exact ⟨_, rfl, _, rfl, _, _, rfl, rfl, _, rfl, rfl, _, _, _, _, rfl, e⟩
        · have z' : ¬ wor c < b := fun y => z (decide_eq_true y)
          rw [if_neg z'] at e
          exact ⟨_, rfl, _, rfl, _, _, rfl, rfl, _, rfl, rfl, _, _, _, _, rfl, e⟩
    · rintro σ H2 ⟨rfl, t, b, v3, v4, rfl, e⟩
      rw [List.drop_eq_nil_of_le (by rw [List.length_reverse, Array.length_toList]; exact Nat.le_refl _)] at e
      refine ⟨_, rfl, ?_⟩
      show Q (.int t) H2
      rw [show t = worS x from e]
      exact q
/-! ### number_of -/
def isNum (x : Str) : Prop := 1 ≤ worS x ∧ worS x ≤ 399 ∧ numS (worS x) = x
def spNo (C : Addr) : Sp := fun vs H Q E => ∃ x : Str, vs = [.str x] ∧ x.length ≤ sizeLine ∧ (isNum x → Q (.int (worS x)) H) ∧ (¬ isNum x → ∀ dx, H dx = none → E (.ref C) (some dx) (upd H dx (.xd [("number", .str x)])))
theorem scNo : FnScope ["text", "number"] ["text"] (defScope s_number_of) := ⟨rfl, rfl, rfl, by decide +kernel, rfl, by decide +kernel, by decide +kernel⟩
theorem d_number_of (T : Th K mg "number_of" s_number_of) (dHas : Def P w K mg base CX0 1 "has_numeral" ["number"] spHas) (dNum : Def P w K mg base (CXe P w) 3 "numeral" ["number"] (spNum C)) (dWor : Def P w K mg base CX0 1 "worth_of" ["text"] spWor)
    (rNoNumber : XR P w K mg base S "NoNumber" "number" C) (zisinstance : mg "isinstance" = none) (zstr : mg "str" = none) : Def P w K mg base (CXe P w) 4 "number_of" ["text"] (spNo C) := by
  refine QL.def_ofX T (fun _ _ _ _ _ _ us hl => match us, hl with | [_], _ => rfl) scNo (fun vs H Q E h => ?_) (fun f cdv A outer s H vs Q E hr h => ?_)
  · obtain ⟨n, rfl, _⟩ := h
    rfl
  · obtain ⟨x, rfl, hx, q1, q2⟩ := h
    refine ⟨_, (qss_cons (qs_if (qt_not (qt_val (qe_callB call_isinst (by rfl) zisinstance PyProof.Rows.boot_isinstance (qa_cons (qv 0) (qa_cons (qe_bltn (v := .ty "str") rfl zstr PyProof.Rows.boot_str rfl) qa_nil))))) (qss_one (qs_raiseD rNoNumber (hr.mono (by decide)) rfl catches_def (qv 0) rfl)) qss_nil)
      (qss_cons (qs_set (i := 1) scNo.nd rfl (Or.inl rfl) (qe_callD dWor (hr.mono (by decide)) rfl pass0 (qa_cons (qv 0) qa_nil)))
      (qss_cons (qs_if (QW.pt (qw_or (qt_not (qt_val (qe_callD dHas (hr.mono (by decide)) rfl pass0 (qa_cons (qv 1) qa_nil)))) (qw_or1 (qt_cmpR op_ne (qe_callD dNum (hr.mono (by decide)) rfl pass1 (qa_cons (qv 1) qa_nil)) (qv 0) (nomark _))))) (qss_one (qs_raiseD rNoNumber (hr.mono (by decide)) rfl catches_def (qv 0) rfl)) qss_nil)
      (qss_one (qs_ret (qv 1)))))), ?_⟩
    refine ⟨_, rfl, _, _, .type "str", .type "str", true, rfl, fun u z => z, .str x, by rfl, true, rfl, iteF ?_⟩
    refine ⟨_, rfl, x, rfl, hx, ?_⟩
    refine ⟨_, rfl, _, rfl, _, rfl, ?_⟩
    by_cases h : 1 ≤ worS x ∧ worS x ≤ 399
    · rw [decide_eq_true h]
      refine iteF ?_
      refine ⟨_, rfl, _, rfl, fun _ _ => ?_, fun z => absurd h z⟩
      refine ⟨_, rfl, rfl, _, rfl, ?_⟩
      by_cases e : numS (worS x) = x
      · refine iteNS (by rw [e]) ?_
        exact ⟨_, rfl, q1 ⟨h.1, h.2, e⟩⟩
      · rw [decide_eq_false (fun z => e (by injection z))]
        refine iteT ?_
        exact ⟨_, rfl, q2 fun z => e z.2.2⟩
    · rw [decide_eq_false h]
      refine iteT ?_
      exact ⟨_, rfl, q2 fun z => h ⟨z.1, z.2.1⟩⟩
end

section
variable {P : Program} {w : World} {K : PySem.W.Frag} {mg : Str → Option Value} {base : Heap} {S C : Addr}
/-! ### greatest_divisor -/
def spG : Sp := fun vs H Q _ => ∃ a b : Int, vs = [.int a, .int b] ∧ 0 ≤ a ∧ 0 ≤ b ∧ Q (.int (gz a b)) H
theorem scG : FnScope ["one", "other", "rest"] ["one", "other"] (defScope s_greatest_divisor) := ⟨rfl, rfl, rfl, by decide +kernel, rfl, by decide +kernel, by decide +kernel⟩
theorem d_gcd (T : Th K mg "greatest_divisor" s_greatest_divisor) : Def P w K mg base CX0 1 "greatest_divisor" ["one", "other"] spG := by
  refine QL.def_of T (fun _ _ _ _ _ _ us hl => match us, hl with | [_, _], _ => rfl) scG (fun vs H Q E h => ?_) (fun f cdv A outer s H vs Q E hr h => ?_)
  · obtain ⟨a, b, rfl, _⟩ := h
    rfl
  · obtain ⟨a, b, rfl, ha, hb, k⟩ := h
    refine ⟨_, (qss_cons (qs_while PassesOwn.never (qt_cmpR op_gt (qv 1) qe_int (nomark _)) (qss_cons (qs_set (i := 2) scG.nd rfl (Or.inl rfl) (qe_op op_mod (qv 0) (qv 1)))
      (qss_cons (qs_set (i := 0) scG.nd rfl (Or.inl rfl) (qv 1))
      (qss_one (qs_set (i := 1) scG.nd rfl (Or.inl rfl) (qv 2))))))
      (qss_one (qs_ret (qv 0)))), ?_⟩
    refine while_by (fun σ H1 => ∃ a1 b1 r, σ = [some (.int a1), some (.int b1), r] ∧ H1 = H ∧ 0 ≤ a1 ∧ 0 ≤ b1 ∧ gz a1 b1 = gz a b) (fun σ _ => match σ with | [_, some (.int b1), _] => b1.toNat | _ => 0) ⟨a, b, none, rfl, rfl, ha, hb, rfl⟩ ?_ ?_
    · rintro σ H1 ⟨a1, b1, r, rfl, rfl, h1, h2, e⟩
      refine ⟨_, rfl, _, _, rfl, rfl, _, rfl, ?_⟩
      refine ite2 (fun q => ?_) (fun q => ?_)
      · have q' : 0 < b1 := of_decide_eq_true q
        refine ⟨_, rfl, _, rfl, _, _, rfl, rfl, q', _, rfl, _, rfl, ⟨b1, a1 % b1, _, rfl, rfl, h2, Int.emod_nonneg _ (by omega), by rw [gz_step h1 q']; exact e⟩, ?_⟩
        show (a1 % b1).toNat < b1.toNat
        have z1 := Int.emod_lt_of_pos a1 q'
        have z2 := Int.emod_nonneg a1 (show b1 ≠ 0 by omega)
        omega
      · have q' : ¬ (0 < b1) := fun z => q (decide_eq_true z)
        have b0 : b1 = 0 := by omega
        subst b0
        refine ⟨_, rfl, ?_⟩
        show Q (.int a1) H1
        rw [gz_end h1] at e
        rw [e]
        exact k
    · rintro σ H1 Q1 Q2 kq ⟨v, e, i, j, q1, q2, c, q3, q⟩
      exact ⟨v, e, i, j, q1, q2, c, q3, kq _ _ q⟩
/-! ### fraction -/
def spF (C : Addr) : Sp := fun vs H Q E => ∃ t b : Int, vs = [.int t, .int b] ∧ Big b ∧ (b ≠ 0 → ∀ p, H p = none → Q (.ref p) (upd H p (.tup [.int (ft t b), .int (fb t b)]))) ∧
  (b = 0 → ∀ dx, H dx = none → E (.ref C) (some dx) (upd H dx (.xd [("number", .int t)])))
theorem scF : FnScope ["top", "bottom", "divisor"] ["top", "bottom"] (defScope s_fraction) := ⟨rfl, rfl, rfl, by decide +kernel, rfl, by decide +kernel, by decide +kernel⟩
theorem d_fr (T : ThD K mg "fraction" s_fraction "top" "bottom" 1) (dG : Def P w K mg base CX0 1 "greatest_divisor" ["one", "other"] spG) (rNoNumber : XR P w K mg base S "NoNumber" "number" C) (zabs : mg "abs" = none) :
    DefD P w K mg base (CXe P w) 3 "fraction" ["top", "bottom"] 1 (spF C) := by
  obtain ⟨f, fd, tk, F, m, b2, b1⟩ := T
  refine ⟨f, fd, tk, ?_, b2, b1, m, F.kp⟩
  obtain ⟨oc, od, dV, kV, doc, pm, an, cdv, ct, osl, rfl, lk, hcd⟩ := F.ex
  refine fn_of lk hcd scF (fun vs H Q E h => ?_) fun A outer s H vs Q E hr h => ?_
  · obtain ⟨t, b, rfl, _⟩ := h
    rfl
  · obtain ⟨t, b, rfl, bb, k1, k2⟩ := h
    refine ⟨_, QSs.h (qss_cons (qs_if (qt_cmpR op_eq (qv 1) qe_int (nomark _)) (qss_one (qs_raiseD rNoNumber (hr.mono (by decide)) rfl catches_def (qv 0) rfl)) qss_nil)
      (qss_cons (qs_set (i := 2) scF.nd rfl (Or.inl rfl) (qe_callD dG (hr.mono (by decide)) rfl pass0 (qa_cons (qe_callB call_abs (by rfl) zabs PyProof.Rows.boot_abs (qa_cons (qv 0) qa_nil)) (qa_cons (qe_callB call_abs (by rfl) zabs PyProof.Rows.boot_abs (qa_cons (qv 1) qa_nil)) qa_nil))))
      (qss_cons (qs_if (qt_cmpR op_lt (qv 1) qe_int (nomark _)) (qss_one (qs_set (i := 2) scF.nd rfl (Or.inl rfl) (qe_un un_neg (qv 2)))) qss_nil)
      (qss_one (qs_ret (qe_tup (qa_cons (qe_op op_fdivB (qv 0) (qv 2)) (qa_cons (qe_op op_fdivB (qv 1) (qv 2)) qa_nil)))))))), ?_⟩
    refine ⟨_, rfl, rfl, _, rfl, ?_⟩
    by_cases b0 : b = 0
    · subst b0
      refine iteT ?_
      exact ⟨_, rfl, k2 rfl⟩
    · rw [show (decide (V.int b = V.int 0)) = false from decide_eq_false (fun z => b0 (by injection z))]
      refine iteF ?_
      refine ⟨_, rfl, _, rfl, _, rfl, _, rfl, ab t, ab b, rfl, ab_nn _, ab_nn _, ?_⟩
      refine ⟨_, rfl, _, _, rfl, rfl, _, rfl, ?_⟩
      have fin : ∀ σ : L2.St, σ = [some (.int t), some (.int b), some (.int (dv t b))] → (tRet (tTup (tCons (tOp (rI (fun i j => j ≠ 0 ∧ Big j) fun i j => .int (i.fdiv j)) (tVar 0) (tVar 2)) (tCons (tOp (rI (fun i j => j ≠ 0 ∧ Big j) fun i j => .int (i.fdiv j)) (tVar 1) (tVar 2)) tNil)))) { nx := fun _ H' => Q .non H', rt := Q } σ H := by
        rintro σ rfl
        have d0 : dv t b ≠ 0 := dv_ne b0
        have dB : Big (dv t b) := Big.le (dv_le b0) bb
        exact ⟨_, rfl, _, rfl, _, _, rfl, rfl, ⟨d0, dB⟩, _, rfl, _, rfl, _, _, rfl, rfl, ⟨d0, dB⟩, (by show 2 ≤ sizeLine; decide), fun p np => k1 b0 p np⟩
      refine ite2 (fun q => ?_) (fun q => ?_)
      · have q' : b < 0 := of_decide_eq_true q
        refine ⟨_, rfl, _, rfl, ?_⟩
        refine fin _ ?_
        show [some (V.int t), some (V.int b), some (V.int (-(gz (ab t) (ab b))))] = _
        rw [show dv t b = -(gz (ab t) (ab b)) from by unfold dv; rw [if_pos q']]
      · have q' : ¬ b < 0 := fun z => q (decide_eq_true z)
        refine fin _ ?_
        show [some (V.int t), some (V.int b), some (V.int (gz (ab t) (ab b)))] = _
        rw [show dv t b = gz (ab t) (ab b) from by unfold dv; rw [if_neg q']]
/-! ### plus -/
def Lit (z : Int) : Prop := 1 ≤ z ∧ z ≤ 1000000000000000000
theorem Lit.big {x y : Int} (h : Lit x) (k : Lit y) : Big (x * y) := by
  have h1 : 0 ≤ x * y := Int.mul_nonneg (by have := h.1; omega) (by have := k.1; omega)
  have h2 : x * y ≤ 1000000000000000000 * 1000000000000000000 := Int.mul_le_mul h.2 k.2 (by have := k.1; omega) (by decide)
  exact Big.of (by omega) (Int.lt_of_le_of_lt h2 (by decide))
def spPl (K : PySem.W.Frag) : Sp := fun vs H Q _ => ∃ (p q : Addr) (a b c d : Int), vs = [.ref p, .ref q] ∧ SqT K H p [.int a, .int b] ∧ SqT K H q [.int c, .int d] ∧ Lit b ∧ Lit d ∧
  ∀ r, H r = none → Q (.ref r) (upd H r (.tup [.int (ft (a * d + c * b) (b * d)), .int (fb (a * d + c * b) (b * d))]))
theorem scPl : FnScope ["one", "other"] ["one", "other"] (defScope s_plus) := ⟨rfl, rfl, rfl, by decide +kernel, rfl, by decide +kernel, by decide +kernel⟩
theorem d_plus (T : Th K mg "plus" s_plus) (dFr : DefD P w K mg base (CXe P w) 3 "fraction" ["top", "bottom"] 1 (spF C)) : Def P w K mg base (CXe P w) 4 "plus" ["one", "other"] (spPl K) := by
  refine QL.def_ofX T (fun _ _ _ _ _ _ us hl => match us, hl with | [_, _], _ => rfl) scPl (fun vs H Q E h => ?_) (fun f cdv A outer s H vs Q E hr h => ?_)
  · obtain ⟨p, q, a, b, c, d, rfl, _⟩ := h
    rfl
  · obtain ⟨p, q, a, b, c, d, rfl, hp, hq, lb, ld, k⟩ := h
    refine ⟨_, (qss_one (qs_ret (qe_callD dFr.all (hr.mono (by decide)) rfl pass1 (qa_cons (qe_op op_add (qe_op op_mul (qe_ix ix_tup (qv 0) qe_int (fun _ _ => rfl)) (qe_ix ix_tup (qv 1) qe_int (fun _ _ => rfl))) (qe_op op_mul (qe_ix ix_tup (qv 1) qe_int (fun _ _ => rfl)) (qe_ix ix_tup (qv 0) qe_int (fun _ _ => rfl)))) (qa_cons (qe_op op_mul (qe_ix ix_tup (qv 0) qe_int (fun _ _ => rfl)) (qe_ix ix_tup (qv 1) qe_int (fun _ _ => rfl))) qa_nil))))), ?_⟩
    have b1 := lb.1
    have b2 := lb.2
    have d1 := ld.1
    have d2 := ld.2
    refine ⟨_, rfl, p, _, _, _, rfl, rfl, hp, rfl, ?_⟩
    refine ⟨_, rfl, q, _, _, _, rfl, rfl, hq, rfl, ?_⟩
    refine ⟨_, _, rfl, rfl, .inr ⟨by omega, by omega⟩, ?_⟩
    refine ⟨_, rfl, q, _, _, _, rfl, rfl, hq, rfl, ?_⟩
    refine ⟨_, rfl, p, _, _, _, rfl, rfl, hp, rfl, ?_⟩
    refine ⟨_, _, rfl, rfl, .inr ⟨by omega, by omega⟩, _, _, rfl, rfl, ?_⟩
    refine ⟨_, rfl, p, _, _, _, rfl, rfl, hp, rfl, ?_⟩
    refine ⟨_, rfl, q, _, _, _, rfl, rfl, hq, rfl, ?_⟩
    refine ⟨_, _, rfl, rfl, .inl ⟨by omega, by omega⟩, ?_⟩
    have nz : b * d ≠ 0 := fun z => by
      rcases Int.mul_eq_zero.mp z with z | z <;> omega
    exact ⟨_, _, rfl, lb.big ld, fun _ r hr => k r hr, fun z => absurd z nz⟩
end

end K5


set_option maxRecDepth 100000
set_option linter.all false
set_option maxHeartbeats 800000
set_option Elab.async false
namespace K5
open PySem L2 L3 X8 M01 L6 L5 QL
open M03 L8 L9 L10 L13 L11

section
variable {P : Program} {w : World} {K : PySem.W.Frag} {mg : Str → Option Value} {base : Heap} {S C : Addr}
def ov : Option Int → V
  | some n => .int n
  | none => .non
/-! ### written_number -/
def spWn : Sp := fun vs H Q _ => ∃ x : Str, vs = [.str x] ∧ x.length ≤ sizeLine ∧ ∀ H', Same H H' → Q (ov (M04.kn 399 x)) H'
theorem scWn : FnScope ["word"] ["word"] (defScope s_written_number) := ⟨rfl, rfl, rfl, by decide +kernel, rfl, by decide +kernel, by decide +kernel⟩
theorem d_wn (T : Th K mg "written_number" s_written_number) (dNo : Def P w K mg base (CXe P w) 4 "number_of" ["text"] (spNo C)) (rNoNumber : XR P w K mg base S "NoNumber" "number" C) : Def P w K mg base CX0 5 "written_number" ["word"] spWn := by
  refine QL.def_of T (fun _ _ _ _ _ _ us hl => match us, hl with | [_], _ => rfl) scWn (fun vs H Q E h => ?_) (fun f cdv A outer s H vs Q E hr h => ?_)
  · obtain ⟨x, rfl, _⟩ := h
    rfl
  · obtain ⟨x, rfl, hx, q⟩ := h
    refine ⟨_, (qss_one (qs_try0 rfl rNoNumber.m rNoNumber.c rfl rfl (fun pn xe E hc => (qss_one (qs_ret (qe_callDX dNo (hr.mono (by decide)) rfl hc (qa_cons (qv 0) qa_nil))))) (fun e => (qss_one (qs_ret qe_non))))), ?_⟩
    refine ⟨_, rfl, x, rfl, hx, fun hn => ?_, fun hn dx hdx => ⟨dx, rfl, rfl, ?_⟩⟩
    · have e : M04.kn 399 x = some (worS x) := by unfold M04.kn; exact if_pos hn
      have := q H (Same.refl H)
      rw [e] at this
      exact this
    · have e : M04.kn 399 x = none := by unfold M04.kn; exact if_neg hn
      have := q _ (sameUpd (o := .xd [("number", .str x)]) hdx)
      rw [e] at this
      exact this
/-! ### plain_number -/
def pn (x : Str) : Option Int := if x = "0" then some 0 else M06.sm x
theorem pn_pos {x : Str} {n : Int} (h : pn x = some n) : 0 ≤ n ∧ n ≤ 999 := by
  unfold pn at h
  split at h
  · cases h; decide
  · have := M06.sm_pos h; omega
def spPz : Sp := fun vs H Q _ => ∃ x : Str, vs = [.str x, .int 3] ∧ x.length ≤ sizeLine ∧ ∀ H', Same H H' → Q (ov (pn x)) H'
theorem scPz : FnScope ["text", "most"] ["text", "most"] (defScope s_plain_number) := ⟨rfl, rfl, rfl, by decide +kernel, rfl, by decide +kernel, by decide +kernel⟩
theorem fig_in (c : Nat) : (!(Builtin.Str.occurrences ("0123456789" : Str) ⟨#[c]⟩ 0 ("0123456789" : Str).length 1).isEmpty) = M06.isDig c := by
  rw [StrLaws.found_one]
  have e : ("0123456789" : Str).cps.toList = [48, 49, 50, 51, 52, 53, 54, 55, 56, 57] := by decide +kernel
  rw [e]
  unfold M06.isDig
  rw [Bool.eq_iff_iff, decide_eq_true_eq, Bool.and_eq_true, decide_eq_true_eq, decide_eq_true_eq]
  simp only [List.mem_cons, List.not_mem_nil, or_false]
  omega
theorem str_zero {x : Str} (h : x.length = 0) : x = "" := by
  obtain ⟨⟨l⟩⟩ := x
  have : l = [] := List.length_eq_zero_iff.mp h
  subst this
  rfl
theorem one_ext {c d : Nat} (h : (⟨#[c]⟩ : Str) = ⟨#[d]⟩) : c = d := by injection h with h; injection h with h; injection h
theorem str_zero1 {x : Str} (h : x.length = 1) (h0 : x.cps.toList[0]? = some 48) : x = "0" := by
  obtain ⟨⟨l⟩⟩ := x
  match l, h with
  | [c], _ =>
    have : c = 48 := Option.some.inj h0
    subst this
    rfl
theorem d_pz (T : Th K mg "plain_number" s_plain_number) (zlen : mg "len" = none) (zall : mg "all" = none) (zint : mg "int" = none) (gFI : ∃ tk, mg "FIGURES" = some (.str "0123456789" tk)) :
    Def P w K mg base CX0 1 "plain_number" ["text", "most"] spPz := by
  refine QL.def_of T (fun _ _ _ _ _ _ us hl => match us, hl with | [_, _], _ => rfl) scPz (fun vs H Q E h => ?_) (fun f cdv A outer s H vs Q E hr h => ?_)
  · obtain ⟨x, rfl, _⟩ := h
    rfl
  · obtain ⟨x, rfl, hx, q⟩ := h
    obtain ⟨tk2, mFI⟩ := gFI
    refine ⟨_, (qss_cons (qs_if (QW.pt (qw_or (qt_cmpR op_eq (qv 0) qe_str (nomark _)) (qw_or1 (qt_cmpR op_gt (qe_callB call_len_str (by rfl) zlen PySem.boot_len (qa_cons (qv 0) qa_nil)) (qv 1) (nomark _))))) (qss_one (qs_ret qe_non)) qss_nil)
      (qss_cons (qs_if (qt_not (qt_val (qe_callB (call_all rfl) (by rfl) zall PyProof.Rows.boot_all (qa_cons (qe_lc (lc_mk (x := "sign") (fvs := []) (fidx := []) (defScope s_plain_number) ["text", "most"] rfl rfl (by decide +kernel)) rfl rfl (qi_str (qv 0)) (fun cl C s H ex => (qe_cmpR op_in_str (qv 0) (qe_glob (v := .str "0123456789") rfl mFI ⟨_, rfl⟩) (by with_unfolding_all rfl)))) qa_nil)))) (qss_one (qs_ret qe_non)) qss_nil)
      (qss_cons (qs_if (QW.pt (qw_and (qt_cmpR op_eq (qe_ix ix_str (qv 0) qe_int (fun _ _ => rfl)) qe_str (nomark _)) (qw_and1 (qt_cmpR op_gt (qe_callB call_len_str (by rfl) zlen PySem.boot_len (qa_cons (qv 0) qa_nil)) qe_int (nomark _))))) (qss_one (qs_ret qe_non)) qss_nil)
      (qss_one (qs_ret (qe_callTy call_int_str (by rfl) zint PyProof.Rows.boot_int (qa_cons (qv 0) qa_nil))))))), ?_⟩
    have no : x ≠ "0" → M06.sm x = none → ∀ H', Same H H' → Q .non H' := fun n0 e H' s => by
      have := q H' s
      rw [show pn x = none from by unfold pn; rw [if_neg n0, e]] at this
      exact this
    refine ⟨_, rfl, rfl, _, rfl, ?_⟩
    by_cases h0 : x.length = 0
    · have e := str_zero h0
      rw [show decide (V.str x = V.str "") = true from decide_eq_true (by rw [e])]
      refine iteT ?_
      refine no (fun z => by rw [z] at h0; exact absurd h0 (by decide)) ?_ H (Same.refl H)
      unfold M06.sm
      rw [if_pos (.inl h0)]
    · rw [decide_eq_false (fun z => h0 (by injection z with z; rw [z]; rfl))]
      refine iteF ?_
      refine ⟨_, rfl, x, rfl, hx, _, rfl, _, _, rfl, rfl, _, rfl, ?_⟩
      by_cases h3 : 3 < x.length
      · rw [show decide ((3 : Int) < (x.length : Int)) = true from decide_eq_true (by omega)]
        refine iteT ?_
        refine no (fun z => by rw [z] at h3; exact absurd h3 (by decide)) ?_ H (Same.refl H)
        unfold M06.sm
        rw [if_pos (.inr (.inl h3))]
      · rw [show decide ((3 : Int) < (x.length : Int)) = false from decide_eq_false (by omega)]
        refine iteF ?_
        have hlen : x.cps.toList.length = x.length := Array.length_toList
        obtain ⟨c0, hc0⟩ : ∃ c, x.cps.toList[0]? = some c := by
          cases e : x.cps.toList[0]? with
          | none => have := List.getElem?_eq_none_iff.mp e; omega
          | some c => exact ⟨c, rfl⟩
        refine ⟨_, rfl, x, rfl, ?_⟩
        refine lc_str (fun i ys H1 => H1 = H ∧ ys = ((x.cps.toList.take i).map M06.isDig).map V.bl) ⟨rfl, rfl⟩ ?_ ?_ ?_
        · rintro i ys H1 hi ⟨rfl, rfl⟩
          rw [List.length_map, List.length_map, List.length_take, sizeLine_eq]
          omega
        · rintro i c ys H1 hc ⟨rfl, rfl⟩
          refine ⟨_, rfl, _, _, rfl, rfl, rfl, ?_⟩
          rw [fig_in c, List.take_add_one, hc]
          simp
        · rintro ys H1 ⟨rfl, rfl⟩
          rw [List.take_of_length_le (by omega)]
          intro D hD
          refine ⟨D, _, rfl, SqL.of upd_same, _, rfl, ?_⟩
          have sm : Same H1 (upd H1 D (.lst ((x.cps.toList.map M06.isDig).map V.bl))) := sameUpd hD
          cases ha : x.cps.toList.all M06.isDig with
          | false =>
            have e : (x.cps.toList.map M06.isDig).all id = false := by rw [List.all_map]; exact ha
            rw [e]
            refine iteT ?_
            refine no (fun z => by rw [z] at ha; exact absurd ha (by decide +kernel)) ?_ _ sm
            unfold M06.sm
            rw [ha]
            split <;> rfl
          | true =>
            have e : (x.cps.toList.map M06.isDig).all id = true := by rw [List.all_map]; exact ha
            rw [e]
            refine iteF ?_
            refine ⟨_, rfl, x, 0, c0, rfl, rfl, hx, atI_nat (j := 0) hc0, rfl, _, rfl, ?_⟩
            by_cases hz : c0 = 48
            · subst hz
              refine iteT ?_
              refine ⟨_, rfl, x, rfl, hx, _, _, rfl, rfl, _, rfl, ?_⟩
              by_cases h1 : 1 < x.length
              · rw [show decide ((1 : Int) < (x.length : Int)) = true from decide_eq_true (by omega)]
                refine iteT ?_
                refine no (fun z => by rw [z] at h1; exact absurd h1 (by decide)) ?_ _ sm
                unfold M06.sm
                rw [if_pos (.inr (.inr hc0))]
              · rw [show decide ((1 : Int) < (x.length : Int)) = false from decide_eq_false (by omega)]
                refine iteF ?_
                refine ⟨_, rfl, x, _, rfl, M06.int_text h0 (by omega) ha, by omega, ?_⟩
                have := q _ sm
                have e0 : x = "0" := str_zero1 (by omega) hc0
                rw [show pn x = some (M06.val x.cps.toList) from by rw [e0]; decide +kernel] at this
                exact this
            · rw [show decide (V.str ⟨#[c0]⟩ = V.str "0") = false from decide_eq_false (fun z => hz (one_ext (d := 48) (by injection z)))]
              refine iteF ?_
              have nn : ¬ (x.length = 0 ∨ 3 < x.length ∨ x.cps.toList[0]? = some 48) := by
                rintro (z | z | z)
                · exact h0 z
                · exact h3 z
                · rw [hc0] at z; exact hz (Option.some.inj z)
              refine ⟨_, rfl, x, _, rfl, M06.int_text h0 (by omega) ha, by omega, ?_⟩
              have := q _ sm
              have e2 : pn x = some (M06.val x.cps.toList) := by
                unfold pn
                rw [if_neg (fun z => by rw [z] at hc0; exact hz (Option.some.inj hc0).symm)]
                unfold M06.sm
                rw [if_neg nn, if_pos ha]
              rw [e2] at this
              exact this
end

end K5


set_option maxRecDepth 100000
set_option linter.all false
set_option maxHeartbeats 800000
set_option Elab.async false
namespace K5
open PySem L2 L3 X8 M01 L6 L5 QL
open M03 L8 L9 L10 L13 L11

section
variable {P : Program} {w : World} {K : PySem.W.Frag} {mg : Str → Option Value} {base : Heap} {S C : Addr}
/-! ### written_fraction -/
theorem join_ge {c : Nat} : ∀ (ws : List Str), ws.length ≤ (Str.join (M05.one c) ws).length + 1 ∧ ∀ p ∈ ws, p.length ≤ (Str.join (M05.one c) ws).length
  | [] => ⟨by simp, by simp⟩
  | [w] => ⟨by simp, by simp [Str.join]⟩
  | w :: v :: ws => by
    obtain ⟨h1, h2⟩ := join_ge (c := c) (v :: ws)
    have e : (Str.join (M05.one c) (w :: v :: ws)).length = w.length + 1 + (Str.join (M05.one c) (v :: ws)).length := by
      show (w ++ M05.one c ++ Str.join (M05.one c) (v :: ws)).length = _
      rw [Str.length_append, Str.length_append]
      rfl
    refine ⟨by rw [e]; simp only [List.length_cons] at h1 ⊢; omega, fun p hp => ?_⟩
    rw [e]
    rcases List.mem_cons.mp hp with rfl | hp
    · omega
    · have := h2 p hp
      omega
theorem split_ge (x : Str) (c : Nat) : (Txt.split x (M05.one c)).length ≤ x.length + 1 ∧ ∀ p ∈ Txt.split x (M05.one c), p.length ≤ x.length := by
  have := join_ge (c := c) (Txt.split x (M05.one c))
  rw [StrLaws.join_split] at this
  exact this
def pf2 : Option Int → Option Int → Option (Int × Int)
  | some a, some b => if b ≠ 0 ∧ ft a b = a ∧ fb a b = b then some (a, b) else none
  | _, _ => none
def pfL : List Str → Option (Int × Int)
  | [p, q] => pf2 (pn p) (pn q)
  | _ => none
def pf (x : Str) : Option (Int × Int) := pfL (Txt.split x "/")
def wf2 : Option Int → Option Int → Option (Int × Int)
  | some a, some b => if a < b ∧ ft a b = a ∧ fb a b = b then some (a, b) else none
  | _, _ => none
def wfL : List Str → Option (Int × Int)
  | [p, q] => wf2 (M06.sm p) (M06.sm q)
  | _ => none
theorem wf_eq (x : Str) : M06.wf x = wfL (Txt.split x "/") := by
  unfold M06.wf
  generalize Txt.split x "/" = L
  match L with
  | [] => rfl
  | [_] => rfl
  | [p, q] =>
    show (match M06.sm p, M06.sm q with | some a, some b => (if a < b ∧ ft a b = a ∧ fb a b = b then some (a, b) else none) | _, _ => none) = wf2 (M06.sm p) (M06.sm q)
    generalize M06.sm p = u
    generalize M06.sm q = v
    cases u <;> cases v <;> rfl
  | _ :: _ :: _ :: _ => rfl
/-- what written_fraction lets by of what plain_fraction finds -/
def cutF : Option (Int × Int) → Option (Int × Int)
  | some (a, b) => if a = 0 ∨ b ≤ a then none else some (a, b)
  | none => none
theorem sm_zero : M06.sm "0" = none := by decide +kernel
theorem wf_pf (x : Str) : M06.wf x = cutF (pf x) := by
  rw [wf_eq]
  unfold pf
  generalize Txt.split x "/" = L
  match L with
  | [] => rfl
  | [_] => rfl
  | _ :: _ :: _ :: _ => rfl
  | [p, q] =>
    show wf2 (M06.sm p) (M06.sm q) = cutF (pf2 (pn p) (pn q))
    unfold pn
    by_cases hp : p = "0"
    · rw [if_pos hp, hp, sm_zero]
      show none = cutF (pf2 (some 0) _)
      generalize (if q = "0" then some 0 else M06.sm q) = v
      cases v with
      | none => rfl
      | some b =>
        show none = cutF (if b ≠ 0 ∧ ft 0 b = 0 ∧ fb 0 b = b then some (0, b) else none)
        split
        · show none = if (0 : Int) = 0 ∨ b ≤ 0 then none else some (0, b)
          rw [if_pos (.inl rfl)]
        · rfl
    · rw [if_neg hp]
      by_cases hq : q = "0"
      · rw [if_pos hq, hq, sm_zero]
        cases M06.sm p with
        | none => rfl
        | some a =>
          show none = cutF (if (0 : Int) ≠ 0 ∧ ft a 0 = a ∧ fb a 0 = 0 then some (a, 0) else none)
          rw [if_neg (fun z => z.1 rfl)]
          rfl
      · rw [if_neg hq]
        cases e1 : M06.sm p with
        | none => rfl
        | some a =>
          cases e2 : M06.sm q with
          | none => rfl
          | some b =>
            have pa := M06.sm_pos e1
            have pb := M06.sm_pos e2
            show (if a < b ∧ ft a b = a ∧ fb a b = b then some (a, b) else none) = cutF (if b ≠ 0 ∧ ft a b = a ∧ fb a b = b then some (a, b) else none)
            by_cases ef : ft a b = a ∧ fb a b = b
            · rw [if_pos (show b ≠ 0 ∧ ft a b = a ∧ fb a b = b from ⟨by omega, ef⟩)]
              show _ = if a = 0 ∨ b ≤ a then none else some (a, b)
              by_cases hl : a < b
              · rw [if_pos ⟨hl, ef⟩, if_neg (by omega)]
              · rw [if_neg (fun z => hl z.1), if_pos (by omega)]
            · rw [if_neg (fun z => ef z.2), if_neg (fun z => ef z.2)]
              rfl
def OT (H : Hp) (v : V) : Option (Int × Int) → Prop
  | none => v = .non
  | some (a, b) => ∃ p, v = .ref p ∧ H p = some (.tup [.int a, .int b])
def spPf : Sp := fun vs H Q _ => ∃ x : Str, vs = [.str x, .int 3] ∧ x.length ≤ 1000 ∧ ∀ v H', Same H H' → OT H' v (pf x) → Q v H'
theorem scPf : FnScope ["text", "most", "halves", "top", "bottom"] ["text", "most"] (defScope s_plain_fraction) := ⟨rfl, rfl, rfl, by decide +kernel, rfl, by decide +kernel, by decide +kernel⟩
theorem d_pf (T : Th K mg "plain_fraction" s_plain_fraction) (dPz : Def P w K mg base CX0 1 "plain_number" ["text", "most"] spPz) (dFr : DefD P w K mg base (CXe P w) 3 "fraction" ["top", "bottom"] 1 (spF C)) (zlen : mg "len" = none) :
    Def P w K mg base CX0 4 "plain_fraction" ["text", "most"] spPf := by
  refine QL.def_of T (fun _ _ _ _ _ _ us hl => match us, hl with | [_, _], _ => rfl) scPf (fun vs H Q E h => ?_) (fun f cdv A outer s H vs Q E hr h => ?_)
  · obtain ⟨x, rfl, _⟩ := h
    rfl
  · obtain ⟨x, rfl, hx, q⟩ := h
    refine ⟨_, (qss_cons (qs_set (i := 2) scPf.nd rfl (Or.inl rfl) (qe_bm PySem.F.plainAttrs_str PySem.F.slot_str_split PySem.F.type_str_split mt_split (qv 0) (qa_cons qe_str qa_nil)))
      (qss_cons (qs_if (qt_cmpR op_ne (qe_callB call_len_seq (by rfl) zlen PySem.boot_len (qa_cons (qv 2) qa_nil)) qe_int (nomark _)) (qss_one (qs_ret qe_non)) qss_nil)
      (qss_cons (qs_set (i := 3) scPf.nd rfl (Or.inl rfl) (qe_callD dPz (hr.mono (by decide)) rfl pass0 (qa_cons (qe_ix ix_list (qv 2) qe_int (fun _ _ => rfl)) (qa_cons (qv 1) qa_nil))))
      (qss_cons (qs_set (i := 4) scPf.nd rfl (Or.inl rfl) (qe_callD dPz (hr.mono (by decide)) rfl pass0 (qa_cons (qe_ix ix_list (qv 2) qe_int (fun _ _ => rfl)) (qa_cons (qv 1) qa_nil))))
      (qss_cons (qs_if (QW.pt (qw_or (qt_cmpR op_isN (qv 3) qe_non (nomark _)) (qw_or (qt_cmpR op_isN (qv 4) qe_non (nomark _)) (qw_or1 (qt_cmpR op_eq (qv 4) qe_int (nomark _)))))) (qss_one (qs_ret qe_non)) qss_nil)
      (qss_cons (qs_if (qt_cmpR (op_neT (hu_of hr |> Nat.lt_of_succ_lt)) (qe_callD dFr.all (hr.mono (by decide)) rfl pass1 (qa_cons (qv 3) (qa_cons (qv 4) qa_nil))) (qe_tup (qa_cons (qv 3) (qa_cons (qv 4) qa_nil))) (nomark _)) (qss_one (qs_ret qe_non)) qss_nil)
      (qss_one (qs_ret (qe_tup (qa_cons (qv 3) (qa_cons (qv 4) qa_nil))))))))))), ?_⟩
    have sg := split_ge x 47
    have no : pf x = none → ∀ H', Same H H' → Q .non H' := fun e H' s => q .non H' s (by rw [e]; rfl)
    refine ⟨_, rfl, rfl, x, "/", rfl, rfl, rfl, line12 hx, Nat.le_trans sg.1 (by rw [sizeLine_eq]; omega), fun l hl => ?_⟩
    generalize eL : Txt.split x "/" = L
    have wfe : pf x = pfL L := by unfold pf; rw [eL]
    have s1 : Same H (upd H l (.lst (L.map V.str))) := sameUpd hl
    have hpl : ∀ p ∈ L, p.length ≤ sizeLine := fun p hp => by
      have := sg.2 p (by show p ∈ Txt.split x "/"; rw [eL]; exact hp)
      rw [sizeLine_eq]
      omega
    refine ⟨_, rfl, l, _, rfl, .inl (SqL.of upd_same), rfl, _, rfl, ?_⟩
    by_cases h2 : L.length = 2
    · obtain ⟨p1, p2, rfl⟩ : ∃ p1 p2, L = [p1, p2] := by
        match L, h2 with
        | [a, b], _ => exact ⟨a, b, rfl⟩
      refine iteNS rfl ?_
      refine ⟨_, rfl, l, _, _, _, rfl, rfl, SqL.of upd_same, rfl, _, rfl, p1, rfl, hpl p1 (by simp), fun H2 s2 => ?_⟩
      refine ⟨_, rfl, l, _, _, _, rfl, rfl, SqL.of (s2 _ _ upd_same), rfl, _, rfl, p2, rfl, hpl p2 (by simp), fun H3 s3 => ?_⟩
      have s03 : Same H H3 := (s1.trans s2).trans s3
      refine ⟨_, rfl, rfl, _, rfl, ?_⟩
      cases e1 : pn p1 with
      | none => exact iteT (no (by rw [wfe]; show pf2 (pn p1) (pn p2) = none; rw [e1]; rfl) _ s03)
      | some a =>
        refine iteF ?_
        refine ⟨_, rfl, rfl, _, rfl, ?_⟩
        cases e2 : pn p2 with
        | none => exact iteT (no (by rw [wfe]; show pf2 (pn p1) (pn p2) = none; rw [e1, e2]; rfl) _ s03)
        | some b =>
          refine iteF ?_
          have wfx : pf x = if b ≠ 0 ∧ ft a b = a ∧ fb a b = b then some (a, b) else none := by rw [wfe]; show pf2 (pn p1) (pn p2) = _; rw [e1, e2]; rfl
          refine ⟨_, rfl, rfl, _, rfl, ?_⟩
          refine ite2 (fun z => ?_) (fun z => ?_)
          · have z' : V.int b = V.int 0 := of_decide_eq_true z
            injection z' with z'
            exact no (by rw [wfx, if_neg (fun y => y.1 z')]) _ s03
          · have z' : b ≠ 0 := fun y => z (decide_eq_true (by rw [y]; rfl))
            have pa := pn_pos e1
            have pb := pn_pos e2
            refine ⟨_, rfl, _, rfl, a, b, rfl, Big.of (by omega) (by omega), fun _ p hp => ?_, fun y => absurd y (by omega)⟩
            refine ⟨_, rfl, _, rfl, (by show 2 ≤ sizeLine; decide), fun t ht => ?_⟩
            have pt : p ≠ t := fun y => by subst y; rw [upd_same] at ht; cases ht
            refine ⟨p, t, [ft a b, fb a b], [a, b], rfl, rfl, SqT.of (by rw [upd_ne pt, upd_same]; rfl), SqT.of upd_same, _, rfl, ?_⟩
            have s5 : Same H (upd (upd H3 p (.tup [.int (ft a b), .int (fb a b)])) t (.tup [.int a, .int b])) := (s03.trans (sameUpd hp)).trans (sameUpd ht)
            by_cases ef : ft a b = a ∧ fb a b = b
            · rw [ef.1, ef.2]
              refine iteNS rfl ?_
              refine ⟨_, rfl, _, rfl, (by show 2 ≤ sizeLine; decide), fun r hr => ?_⟩
              refine q _ _ ?_ ?_
              · rw [ef.1, ef.2] at s5
                exact s5.trans (sameUpd hr)
              · rw [wfx, if_pos ⟨z', ef⟩]
                exact ⟨r, rfl, upd_same⟩
            · rw [show (!decide ([ft a b, fb a b] = [a, b])) = true from by rw [decide_eq_false (fun y => ef (by injection y with y1 y2; injection y2 with y2; exact ⟨y1, y2⟩))]; rfl]
              refine iteT ?_
              exact no (by rw [wfx, if_neg (fun y => ef y.2)]) _ s5
    · rw [show (!decide (V.int ((L.map V.str).length : Nat) = V.int 2)) = true from by
        rw [decide_eq_false (fun y => h2 (by injection y with y; rw [List.length_map] at y; omega))]; rfl]
      refine iteT ?_
      refine no ?_ _ s1
      rw [wfe]
      match L, h2 with
      | [], _ => rfl
      | [_], _ => rfl
      | [_, _], h2 => exact absurd rfl h2
      | _ :: _ :: _ :: _, _ => rfl
def spWf : Sp := fun vs H Q _ => ∃ x : Str, vs = [.str x] ∧ x.length ≤ 1000 ∧ ∀ v H', Same H H' → OT H' v (M06.wf x) → Q v H'
theorem scWf : FnScope ["word", "found"] ["word"] (defScope s_written_fraction) := ⟨rfl, rfl, rfl, by decide +kernel, rfl, by decide +kernel, by decide +kernel⟩
theorem d_wf (T : Th K mg "written_fraction" s_written_fraction) (dPf : Def P w K mg base CX0 4 "plain_fraction" ["text", "most"] spPf) (gMF : ∃ tk, mg "MOST_FIGURES" = some (.int 3 tk)) :
    Def P w K mg base CX0 5 "written_fraction" ["word"] spWf := by
  refine QL.def_of T (fun _ _ _ _ _ _ us hl => match us, hl with | [_], _ => rfl) scWf (fun vs H Q E h => ?_) (fun f cdv A outer s H vs Q E hr h => ?_)
  · obtain ⟨x, rfl, _⟩ := h
    rfl
  · obtain ⟨x, rfl, hx, q⟩ := h
    obtain ⟨tk1, mMF⟩ := gMF
    refine ⟨_, (qss_cons (qs_set (i := 1) scWf.nd rfl (Or.inl rfl) (qe_callD dPf (hr.mono (by decide)) rfl pass0 (qa_cons (qv 0) (qa_cons (qe_glob (v := .int 3) rfl mMF ⟨_, rfl⟩) qa_nil))))
      (qss_cons (qs_if (QW.pt (qw_or (qt_cmpR op_isN (qv 1) qe_non (nomark _)) (qw_or (qt_cmpR op_eq (qe_ix ix_tup (qv 1) qe_int (fun _ _ => rfl)) qe_int (nomark _)) (qw_or1 (qt_cmpR op_ge (qe_ix ix_tup (qv 1) qe_int (fun _ _ => rfl)) (qe_ix ix_tup (qv 1) qe_int (fun _ _ => rfl)) (nomark _)))))) (qss_one (qs_ret qe_non)) qss_nil)
      (qss_one (qs_ret (qv 1))))), ?_⟩
    have no : M06.wf x = none → ∀ H', Same H H' → Q .non H' := fun e H' s => q .non H' s (by rw [e]; rfl)
    have wp := wf_pf x
    refine ⟨_, rfl, x, rfl, hx, fun v H1 s1 ot => ?_⟩
    refine ⟨_, rfl, rfl, _, rfl, ?_⟩
    cases e : pf x with
    | none =>
      rw [e] at ot wp
      have ev : v = .non := ot
      subst ev
      exact iteT (no wp _ s1)
    | some ab =>
      obtain ⟨a, b⟩ := ab
      rw [e] at ot wp
      obtain ⟨p, rfl, hp⟩ := ot
      refine iteF ?_
      refine ⟨_, rfl, p, _, _, _, rfl, rfl, SqT.of hp, rfl, rfl, _, rfl, ?_⟩
      refine ite2 (fun z => ?_) (fun z => ?_)
      · have z' : V.int a = V.int 0 := of_decide_eq_true z
        injection z' with z'
        exact no (by rw [wp]; show (if a = 0 ∨ b ≤ a then none else some (a, b)) = none; rw [if_pos (.inl z')]) _ s1
      · have z' : a ≠ 0 := fun y => z (decide_eq_true (by rw [y]))
        refine ⟨_, rfl, p, _, _, _, rfl, rfl, SqT.of hp, rfl, _, rfl, p, _, _, _, rfl, rfl, SqT.of hp, rfl, _, _, rfl, rfl, _, rfl, ?_⟩
        refine ite2 (fun y => ?_) (fun y => ?_)
        · have y' : b ≤ a := of_decide_eq_true y
          exact no (by rw [wp]; show (if a = 0 ∨ b ≤ a then none else some (a, b)) = none; rw [if_pos (.inr y')]) _ s1
        · have y' : ¬ b ≤ a := fun u => y (decide_eq_true u)
          refine ⟨_, rfl, ?_⟩
          refine q _ _ s1 ?_
          rw [wp]
          show OT H1 _ (if a = 0 ∨ b ≤ a then none else some (a, b))
          rw [if_neg (by omega)]
          exact ⟨p, rfl, hp⟩
end

end K5


set_option maxRecDepth 100000
set_option linter.all false
set_option maxHeartbeats 800000
set_option Elab.async false
namespace K5
open PySem L2 L3 X8 M01 L6 L5 QL
open M03 L8 L9 L10 L13 L11

section
variable {P : Program} {w : World} {K : PySem.W.Frag} {mg : Str → Option Value} {base : Heap} {S C A0 : Addr}
/-! ### part_of_unit -/
theorem at_ints {xs : List Int} {i : Int} (h0 : 0 ≤ i) (h1 : i < xs.length) : atI (xs.map V.int) i = some (.int (xs.getD i.toNat 0)) := by
  have hlt : i.toNat < xs.length := by omega
  have e : (xs.map V.int)[i.toNat]? = some (.int xs[i.toNat]) := by rw [List.getElem?_map, List.getElem?_eq_getElem hlt]; rfl
  have e2 := atI_nat e
  rw [show ((i.toNat : Nat) : Int) = i from by omega] at e2
  rw [e2, List.getD_eq_getElem?_getD, List.getElem?_eq_getElem hlt]
  rfl
def spPa : Sp := fun vs H Q _ => ∃ (x : Str) (pl : Int), vs = [.str x, .int pl] ∧ x.length ≤ 1000 ∧ 0 ≤ pl ∧ pl ≤ 4 ∧ ∀ v H', Same H H' → OT H' v (M06.part x pl) → Q v H'
theorem scPa : FnScope ["word", "place"] ["word", "place"] (defScope s_part_of_unit) := ⟨rfl, rfl, rfl, by decide +kernel, rfl, by decide +kernel, by decide +kernel⟩
theorem un_gr : ∀ p : _root_.Fin 5, (M06.unL.getD p.val "" = "gr") ↔ p.val = 4 := by decide +kernel
theorem d_pa (T : Th K mg "part_of_unit" s_part_of_unit) (dWf : Def P w K mg base CX0 5 "written_fraction" ["word"] spWf) (dFr : DefD P w K mg base (CXe P w) 3 "fraction" ["top", "bottom"] 1 (spF C))
    (gHW : ∃ tk, mg "HALF_WORD" = some (.str "ss" tk)) (gU : ∃ a, mg "UNITS" = some (.ref a) ∧ ∀ H, SqT K H a (M06.unL.map V.str)) (gG : ∃ a, mg "GRAINS" = some (.ref a) ∧ ∀ H, SqT K H a (M06.grL.map V.int)) :
    Def P w K mg base CX0 6 "part_of_unit" ["word", "place"] spPa := by
  refine QL.def_of T (fun _ _ _ _ _ _ us hl => match us, hl with | [_, _], _ => rfl) scPa (fun vs H Q E h => ?_) (fun f cdv A outer s H vs Q E hr h => ?_)
  · obtain ⟨x, pl, rfl, _⟩ := h
    rfl
  · obtain ⟨x, pl, rfl, hx, p0, p4, q⟩ := h
    obtain ⟨tk, mHW⟩ := gHW
    obtain ⟨aU, mU, sU⟩ := gU
    obtain ⟨aG, mGr, sG⟩ := gG
    refine ⟨_, (qss_cons (qs_if (qt_cmpR op_eq (qv 0) (qe_glob (v := .str "ss") rfl mHW ⟨_, rfl⟩) (nomark _)) (qss_one (qs_ret (qe_callD dFr.all (hr.mono (by decide)) rfl pass1 (qa_cons (qe_ix ix_tup (qe_glob (v := .ref aG) rfl mGr rfl) (qv 1) (fun _ _ => rfl)) (qa_cons qe_int qa_nil))))) qss_nil)
      (qss_cons (qs_if (qt_cmpR op_eq (qe_ix ix_tup (qe_glob (v := .ref aU) rfl mU rfl) (qv 1) (fun _ _ => rfl)) qe_str (nomark _)) (qss_one (qs_ret (qe_callD dWf (hr.mono (by decide)) rfl pass0 (qa_cons (qv 0) qa_nil)))) qss_nil)
      (qss_one (qs_ret qe_non)))), ?_⟩
    refine ⟨_, rfl, rfl, _, rfl, ?_⟩
    by_cases hs : x = "ss"
    · subst hs
      refine iteT ?_
      refine ⟨_, rfl, aG, _, _, _, rfl, rfl, sG _, at_ints p0 (by show pl < 5; omega), M06.gr pl, 2, rfl, Big.of (by decide) (by decide), fun _ p hp => ?_, fun z => absurd z (by decide)⟩
      refine q _ _ (sameUpd hp) ?_
      show OT _ _ (if ("ss" : Str) = "ss" then _ else _)
      rw [if_pos rfl]
      exact ⟨p, rfl, upd_same⟩
    · rw [decide_eq_false (fun z => hs (by injection z))]
      refine iteF ?_
      refine ⟨_, rfl, aU, _, _, _, rfl, rfl, sU _, at_strs p0 (by show pl < 5; omega), rfl, _, rfl, ?_⟩
      have ug := un_gr ⟨pl.toNat, by omega⟩
      by_cases h4 : pl = 4
      · rw [show decide (V.str (M06.unL.getD pl.toNat "") = V.str "gr") = true from decide_eq_true (by rw [ug.mpr (by show pl.toNat = 4; omega)])]
        refine iteT ?_
        refine ⟨_, rfl, x, rfl, hx, fun v H' s o => q v H' s ?_⟩
        unfold M06.part
        rw [if_neg hs, if_pos h4]
        exact o
      · rw [show decide (V.str (M06.unL.getD pl.toNat "") = V.str "gr") = false from decide_eq_false (fun z => h4 (by have := ug.mp (by injection z); simp only at this; omega))]
        refine iteF ?_
        refine q .non H (Same.refl H) ?_
        unfold M06.part
        rw [if_neg hs, if_neg h4]
        rfl
/-! ### the reader -/
abbrev RO (A0 dx tp : Addr) (st : M06.R5) : HO := .ins A0 dx [("total", .ref tp), ("place", .int st.pl), ("last", .int st.la)]
def At5 (H : Hp) (r A0 dx : Addr) (st : M06.R5) : Prop := ∃ tp, H r = some (RO A0 dx tp st) ∧ H tp = some (.tup [.int st.a, .int st.b])
def But (r : Addr) (H H' : Hp) : Prop := ∀ b o, b ≠ r → H b = some o → H' b = some o
def W5 (H : Hp) (r A0 dx : Addr) (Q : VK) : Option M06.R5 → Prop
  | some st => ∀ H', But r H H' → At5 H' r A0 dx st → Q (.bl true) H'
  | none => ∀ H', Same H H' → Q (.bl false) H'
theorem Same.but {H H' : Hp} {r : Addr} (s : Same H H') : But r H H' := fun b o _ e => s b o e
theorem But.trans {H H1 H2 : Hp} {r : Addr} (a : But r H H1) (b : But r H1 H2) : But r H H2 := fun c o n e => b c o n (a c o n e)
theorem But.upd {H : Hp} {r : Addr} {o : HO} : But r H (L2.upd H r o) := fun b u n e => by rw [upd_ne n]; exact e
theorem At5.same {H H' : Hp} {r A0 dx : Addr} {st : M06.R5} (a : At5 H r A0 dx st) (s : Same H H') : At5 H' r A0 dx st := by
  obtain ⟨tp, h1, h2⟩ := a
  exact ⟨tp, s _ _ h1, s _ _ h2⟩
structure NA (K : PySem.W.Frag) (A0 : Addr) : Prop where
  t : NoAttr K A0 "total"
  p : NoAttr K A0 "place"
  l : NoAttr K A0 "last"
def spTU (A0 : Addr) : Sp := fun vs H Q _ => ∃ (r dx : Addr) (st : M06.R5) (p : Nat), vs = [.ref r, .int p] ∧ At5 H r A0 dx st ∧ W5 H r A0 dx Q (M06.sUnit st p)
theorem scTU : FnScope ["self", "place"] ["self", "place"] (defScope si_AmountReader_take_unit) := ⟨rfl, rfl, rfl, by decide +kernel, rfl, by decide +kernel, by decide +kernel⟩
theorem d_tu (T : Met K A0 "take_unit" "AmountReader.take_unit" si_AmountReader_take_unit) (cA : CL K mg "AmountReader" A0) (na : NA K A0) (g1 : ∃ tk, mg "UNIT" = some (.int 1 tk)) :
    MDef P w K mg base CX0 1 A0 "take_unit" ["self", "place"] (spTU A0) := by
  refine mdef_of T (fun _ _ _ _ _ _ us hl => match us, hl with | [_, _], _ => rfl) scTU (fun vs H Q E h => ?_) (fun f cdv A outer s H vs Q E hr h => ?_)
  · obtain ⟨r, dx, st, p, rfl, _⟩ := h
    rfl
  · obtain ⟨r, dx, st, p, rfl, ⟨tp, h1, h2⟩, q⟩ := h
    obtain ⟨tk, mN1⟩ := g1
    refine ⟨_, (qss_cons (qs_if (QW.pt (qw_or (qt_cmpR op_eq (qe_fld (qv 0) rfl) (qe_glob (v := .int 1) rfl mN1 ⟨_, rfl⟩) (nomark _)) (qw_or1 (qt_cmpR op_le (qv 1) (qe_fld (qv 0) rfl) (nomark _))))) (qss_one (qs_ret qe_bl)) qss_nil)
      (qss_cons (qs_fld (qv 0) (qv 1) rfl)
      (qss_cons (qs_fld (qv 0) (qe_glob (v := .int 1) rfl mN1 ⟨_, rfl⟩) rfl)
      (qss_one (qs_ret qe_bl))))), ?_⟩
    have ne : tp ≠ r := ne_of h2 h1 (by intro z; cases z)
    refine ⟨_, rfl, r, A0, dx, _, _, rfl, h1, cA.cl, na.l, rfl, rfl, _, rfl, ?_⟩
    by_cases hl : st.la = 1
    · rw [show decide (V.int st.la = V.int 1) = true from decide_eq_true (by rw [hl])]
      refine iteT ?_
      unfold M06.sUnit at q
      rw [if_pos (.inl hl)] at q
      exact q H (Same.refl H)
    · rw [show decide (V.int st.la = V.int 1) = false from decide_eq_false (fun z => hl (by injection z))]
      refine iteF ?_
      refine ⟨_, rfl, _, rfl, r, A0, dx, _, _, rfl, h1, cA.cl, na.p, rfl, _, _, rfl, rfl, _, rfl, ?_⟩
      refine ite2 (fun z => ?_) (fun z => ?_)
      · have z' : (p : Int) ≤ st.pl := of_decide_eq_true z
        unfold M06.sUnit at q
        rw [if_pos (.inr z')] at q
        exact q H (Same.refl H)
      · have z' : ¬ (p : Int) ≤ st.pl := fun y => z (decide_eq_true y)
        unfold M06.sUnit at q
        rw [if_neg (fun y => y.elim hl z')] at q
        refine ⟨_, rfl, _, rfl, r, A0, dx, _, rfl, h1, cA.cl, na.p, (by show 3 < 1000; decide), ?_⟩
        refine ⟨_, rfl, r, A0, dx, _, rfl, upd_same, cA.cl, na.l, (by show 3 < 1000; decide), ?_⟩
        refine q _ ?_ ?_
        · exact But.trans But.upd But.upd
        · refine ⟨tp, ?_, ?_⟩
          · rw [upd_same]
            rfl
          · rw [upd_ne ne, upd_ne ne]
            exact h2
end

end K5


set_option maxRecDepth 100000
set_option linter.all false
set_option maxHeartbeats 800000
set_option Elab.async false
namespace K5
open PySem L2 L3 X8 M01 L6 L5 QL
open M03 L8 L9 L10 L13 L11


section
variable {P : Program} {w : World} {K : PySem.W.Frag} {mg : Str → Option Value} {base : Heap} {S C A0 : Addr}
theorem b_lit {st : M06.R5} (o : M06.Ok st) : Lit st.b := ⟨o.b1, Int.le_trans (M06.bd_le o) (by decide)⟩
/-! ### take_numeral -/
def spTN (A0 : Addr) : Sp := fun vs H Q _ => ∃ (r dx : Addr) (st : M06.R5) (x : Str), vs = [.ref r, .str x] ∧ At5 H r A0 dx st ∧ M06.Ok st ∧ st.la = 1 ∧ x.length ≤ 1000 ∧ W5 H r A0 dx Q (M06.sNum st x)
theorem scTN : FnScope ["self", "word", "number"] ["self", "word"] (defScope si_AmountReader_take_numeral) := ⟨rfl, rfl, rfl, by decide +kernel, rfl, by decide +kernel, by decide +kernel⟩
theorem d_tn (T : Met K A0 "take_numeral" "AmountReader.take_numeral" si_AmountReader_take_numeral) (cA : CL K mg "AmountReader" A0) (na : NA K A0) (dWn : Def P w K mg base CX0 5 "written_number" ["word"] spWn) (dFr : DefD P w K mg base (CXe P w) 3 "fraction" ["top", "bottom"] 1 (spF C))
    (dPl : Def P w K mg base (CXe P w) 4 "plus" ["one", "other"] (spPl K)) (g2 : ∃ tk, mg "NUMERAL" = some (.int 2 tk)) (gG : ∃ a, mg "GRAINS" = some (.ref a) ∧ ∀ H, SqT K H a (M06.grL.map V.int)) :
    MDef P w K mg base CX0 6 A0 "take_numeral" ["self", "word"] (spTN A0) := by
  refine mdef_of T (fun _ _ _ _ _ _ us hl => match us, hl with | [_, _], _ => rfl) scTN (fun vs H Q E h => ?_) (fun f cdv A outer s H vs Q E hr h => ?_)
  · obtain ⟨r, dx, st, x, rfl, _⟩ := h
    rfl
  · obtain ⟨r, dx, st, x, rfl, at5, ok, hla, hx, q⟩ := h
    obtain ⟨tk, mN2⟩ := g2
    obtain ⟨aG, mGr, sG⟩ := gG
    refine ⟨_, (qss_cons (qs_set (i := 2) scTN.nd rfl (Or.inl rfl) (qe_callD dWn (hr.mono (by decide)) rfl pass0 (qa_cons (qv 1) qa_nil)))
      (qss_cons (qs_if (qt_cmpR op_isN (qv 2) qe_non (nomark _)) (qss_one (qs_ret qe_bl)) qss_nil)
      (qss_cons (qs_fld (qv 0) (qe_callD dPl (hr.mono (by decide)) rfl pass1 (qa_cons (qe_fld (qv 0) rfl) (qa_cons (qe_callDef dFr (hr.mono (by decide)) rfl pass1 (qa_cons (qe_op op_mul (qv 2) (qe_ix ix_tup (qe_glob (v := .ref aG) rfl mGr rfl) (qe_fld (qv 0) rfl) (fun _ _ => rfl))) qa_nil)) qa_nil))) rfl)
      (qss_cons (qs_fld (qv 0) (qe_glob (v := .int 2) rfl mN2 ⟨_, rfl⟩) rfl)
      (qss_one (qs_ret qe_bl)))))), ?_⟩
    refine ⟨_, rfl, x, rfl, line12 hx, fun H1 s1 => ?_⟩
    refine ⟨_, rfl, rfl, _, rfl, ?_⟩
    obtain ⟨tp, h1, h2⟩ := at5.same s1
    have ne : tp ≠ r := ne_of h2 h1 (by intro z; cases z)
    have pp : 0 ≤ st.pl ∧ st.pl ≤ 4 := by
      rcases ok.pl with z | z
      · omega
      · exact z.2
    unfold M06.sNum at q
    cases e : M04.kn 399 x with
    | none =>
      rw [e] at q
      exact iteT (q H1 s1)
    | some n =>
      rw [e] at q
      refine iteF ?_
      have nb := M06.kn_pos e
      refine ⟨_, rfl, r, A0, dx, _, _, rfl, h1, cA.cl, na.t, rfl, ?_⟩
      refine ⟨_, rfl, _, rfl, r, A0, dx, _, _, rfl, h1, cA.cl, na.p, rfl, aG, _, _, _, rfl, rfl, sG _, at_ints pp.1 (by show st.pl < 5; omega), ?_⟩
      refine ⟨_, _, rfl, rfl, .inl ⟨by omega, by omega⟩, n * M06.gr st.pl, 1, rfl, Big.of (by decide) (by decide), fun _ p hp => ?_, fun z => absurd z (by decide)⟩
      obtain ⟨f1, f2⟩ := M06.ft_one (n * M06.gr st.pl)
      rw [f1, f2]
      have s2 : Same H1 (upd H1 p (.tup [.int (n * M06.gr st.pl), .int 1])) := sameUpd hp
      refine ⟨tp, p, st.a, st.b, _, 1, rfl, SqT.of (s2 _ _ h2), SqT.of upd_same, b_lit ok, ⟨by decide, by decide⟩, fun t ht => ?_⟩
      have s3 : Same H1 (upd (upd H1 p (.tup [.int (n * M06.gr st.pl), .int 1])) t (.tup [.int (M06.add st (n * M06.gr st.pl) 1 2).a, .int (M06.add st (n * M06.gr st.pl) 1 2).b])) := s2.trans (sameUpd ht)
      have nt : t ≠ r := fun z => by rw [z] at ht; rw [s2 _ _ h1] at ht; cases ht
      refine ⟨_, rfl, r, A0, dx, _, rfl, s3 _ _ h1, cA.cl, na.t, (by show 3 < 1000; decide), ?_⟩
      refine ⟨_, rfl, r, A0, dx, _, rfl, upd_same, cA.cl, na.l, (by show 3 < 1000; decide), ?_⟩
      refine q _ ?_ ?_
      · exact But.trans (But.trans (Same.but s1) (Same.but s3)) (But.trans But.upd But.upd)
      · refine ⟨t, ?_, ?_⟩
        · rw [upd_same]
          rfl
        · rw [upd_ne nt, upd_ne nt, upd_same]
          rfl
/-! ### take_part -/
def spTP (A0 : Addr) : Sp := fun vs H Q _ => ∃ (r dx : Addr) (st : M06.R5) (x : Str), vs = [.ref r, .str x] ∧ At5 H r A0 dx st ∧ M06.Ok st ∧ (st.la = 1 ∨ st.la = 2) ∧ x.length ≤ 1000 ∧ W5 H r A0 dx Q (M06.sPart st x)
theorem scTP : FnScope ["self", "word", "part"] ["self", "word"] (defScope si_AmountReader_take_part) := ⟨rfl, rfl, rfl, by decide +kernel, rfl, by decide +kernel, by decide +kernel⟩
theorem d_tp (T : Met K A0 "take_part" "AmountReader.take_part" si_AmountReader_take_part) (cA : CL K mg "AmountReader" A0) (na : NA K A0) (dPa : Def P w K mg base CX0 6 "part_of_unit" ["word", "place"] spPa)
    (dPl : Def P w K mg base (CXe P w) 4 "plus" ["one", "other"] (spPl K)) (g3 : ∃ tk, mg "PART" = some (.int 3 tk)) :
    MDef P w K mg base CX0 7 A0 "take_part" ["self", "word"] (spTP A0) := by
  refine mdef_of T (fun _ _ _ _ _ _ us hl => match us, hl with | [_, _], _ => rfl) scTP (fun vs H Q E h => ?_) (fun f cdv A outer s H vs Q E hr h => ?_)
  · obtain ⟨r, dx, st, x, rfl, _⟩ := h
    rfl
  · obtain ⟨r, dx, st, x, rfl, at5, ok, hla, hx, q⟩ := h
    obtain ⟨tk, mN3⟩ := g3
    refine ⟨_, (qss_cons (qs_set (i := 2) scTP.nd rfl (Or.inl rfl) (qe_callD dPa (hr.mono (by decide)) rfl pass0 (qa_cons (qv 1) (qa_cons (qe_fld (qv 0) rfl) qa_nil))))
      (qss_cons (qs_if (qt_cmpR op_isN (qv 2) qe_non (nomark _)) (qss_one (qs_ret qe_bl)) qss_nil)
      (qss_cons (qs_fld (qv 0) (qe_callD dPl (hr.mono (by decide)) rfl pass1 (qa_cons (qe_fld (qv 0) rfl) (qa_cons (qv 2) qa_nil))) rfl)
      (qss_cons (qs_fld (qv 0) (qe_glob (v := .int 3) rfl mN3 ⟨_, rfl⟩) rfl)
      (qss_one (qs_ret qe_bl)))))), ?_⟩
    have pp : 0 ≤ st.pl ∧ st.pl ≤ 4 := by
      rcases ok.pl with z | z
      · omega
      · exact z.2
    obtain ⟨tp0, h10, h20⟩ := id at5
    refine ⟨_, rfl, _, rfl, r, A0, dx, _, _, rfl, h10, cA.cl, na.p, rfl, x, st.pl, rfl, hx, pp.1, pp.2, fun v H1 s1 ot => ?_⟩
    obtain ⟨tp, h1, h2⟩ := at5.same s1
    refine ⟨_, rfl, rfl, _, rfl, ?_⟩
    unfold M06.sPart at q
    cases e : M06.part x st.pl with
    | none =>
      rw [e] at q ot
      cases (show v = .non from ot)
      exact iteT (q H1 s1)
    | some cd =>
      obtain ⟨c, d⟩ := cd
      rw [e] at q ot
      obtain ⟨p, rfl, hp⟩ := ot
      refine iteF ?_
      have db := M06.part_pos e
      refine ⟨_, rfl, r, A0, dx, _, _, rfl, h1, cA.cl, na.t, rfl, ?_⟩
      refine ⟨_, rfl, tp, p, st.a, st.b, c, d, rfl, SqT.of h2, SqT.of hp, b_lit ok, ⟨db.1, by omega⟩, fun t ht => ?_⟩
      have s3 : Same H1 (upd H1 t (.tup [.int (M06.add st c d 3).a, .int (M06.add st c d 3).b])) := sameUpd ht
      have nt : t ≠ r := fun z => by rw [z, h1] at ht; cases ht
      refine ⟨_, rfl, r, A0, dx, _, rfl, s3 _ _ h1, cA.cl, na.t, (by show 3 < 1000; decide), ?_⟩
      refine ⟨_, rfl, r, A0, dx, _, rfl, upd_same, cA.cl, na.l, (by show 3 < 1000; decide), ?_⟩
      refine q _ ?_ ?_
      · exact But.trans (But.trans (Same.but s1) (Same.but s3)) (But.trans But.upd But.upd)
      · refine ⟨t, ?_, ?_⟩
        · rw [upd_same]
          rfl
        · rw [upd_ne nt, upd_ne nt, upd_same]
          rfl
/-! ### is_full -/
def spFu (A0 : Addr) : Sp := fun vs H Q _ => ∃ (r dx : Addr) (st : M06.R5), vs = [.ref r] ∧ At5 H r A0 dx st ∧ Q (.bl (decide (st.la = 2 ∨ st.la = 3))) H
theorem scFu : FnScope ["self"] ["self"] (defScope si_AmountReader_is_full) := ⟨rfl, rfl, rfl, by decide +kernel, rfl, by decide +kernel, by decide +kernel⟩
theorem d_fu (T : Met K A0 "is_full" "AmountReader.is_full" si_AmountReader_is_full) (cA : CL K mg "AmountReader" A0) (na : NA K A0) (g2 : ∃ tk, mg "NUMERAL" = some (.int 2 tk)) (g3 : ∃ tk, mg "PART" = some (.int 3 tk)) :
    MDef P w K mg base CX0 1 A0 "is_full" ["self"] (spFu A0) := by
  refine mdef_of T (fun _ _ _ _ _ _ us hl => match us, hl with | [_], _ => rfl) scFu (fun vs H Q E h => ?_) (fun f cdv A outer s H vs Q E hr h => ?_)
  · obtain ⟨r, dx, st, rfl, _⟩ := h
    rfl
  · obtain ⟨r, dx, st, rfl, ⟨tp, h1, h2⟩, q⟩ := h
    obtain ⟨tk2, mN2⟩ := g2
    obtain ⟨tk3, mN3⟩ := g3
    refine ⟨_, (qss_one (qs_ret (qe_or (qe_cmpR op_eq (qe_fld (qv 0) rfl) (qe_glob (v := .int 2) rfl mN2 ⟨_, rfl⟩) (nomark _)) (qe_one (qe_cmpR op_eq (qe_fld (qv 0) rfl) (qe_glob (v := .int 3) rfl mN3 ⟨_, rfl⟩) (nomark _)))))), ?_⟩
    refine ⟨_, rfl, r, A0, dx, _, _, rfl, h1, cA.cl, na.l, rfl, rfl, ?_⟩
    refine ⟨_, rfl, ?_⟩
    by_cases e2 : st.la = 2
    · rw [show decide (V.int st.la = V.int 2) = true from decide_eq_true (by rw [e2])]
      refine iteT ?_
      rw [decide_eq_true (Or.inl e2)] at q
      exact q
    · rw [show decide (V.int st.la = V.int 2) = false from decide_eq_false (fun z => e2 (by injection z))]
      refine iteF ?_
      refine ⟨_, rfl, r, A0, dx, _, _, rfl, h1, cA.cl, na.l, rfl, rfl, ?_⟩
      show Q (.bl (decide (V.int st.la = V.int 3))) H
      rw [show decide (V.int st.la = V.int 3) = decide (st.la = 2 ∨ st.la = 3) from by
        by_cases e3 : st.la = 3
        · rw [decide_eq_true (show V.int st.la = V.int 3 by rw [e3]), decide_eq_true (Or.inr e3)]
        · rw [decide_eq_false (show ¬ V.int st.la = V.int 3 from fun z => e3 (by injection z)), decide_eq_false (fun z => z.elim e2 e3)]]
      exact q
/-! ### __init__ -/
def spIn (A0 : Addr) : Sp := fun vs H Q _ => ∃ (r dx : Addr), vs = [.ref r] ∧ H r = some (.ins A0 dx []) ∧ ∀ H', But r H H' → At5 H' r A0 dx M06.r0 → Q .non H'
theorem scIn : FnScope ["self"] ["self"] (defScope si_AmountReader) := ⟨rfl, rfl, rfl, by decide +kernel, rfl, by decide +kernel, by decide +kernel⟩
theorem d_in (T : Met K A0 "__init__" "AmountReader.__init__" si_AmountReader) (cA : CL K mg "AmountReader" A0) (na : NA K A0) (dFr : DefD P w K mg base (CXe P w) 3 "fraction" ["top", "bottom"] 1 (spF C)) (g0 : ∃ tk, mg "NOTHING" = some (.int 0 tk)) :
    MDef P w K mg base CX0 4 A0 "__init__" ["self"] (spIn A0) := by
  refine mdef_of T (fun _ _ _ _ _ _ us hl => match us, hl with | [_], _ => rfl) scIn (fun vs H Q E h => ?_) (fun f cdv A outer s H vs Q E hr h => ?_)
  · obtain ⟨r, dx, rfl, _⟩ := h
    rfl
  · obtain ⟨r, dx, rfl, h1, q⟩ := h
    obtain ⟨tk, mN0⟩ := g0
    refine ⟨_, (qss_cons (qs_fld (qv 0) (qe_callDef dFr (hr.mono (by decide)) rfl pass1 (qa_cons qe_int qa_nil)) rfl)
      (qss_cons (qs_fld (qv 0) (qe_un un_neg qe_int) rfl)
      (qss_one (qs_fld (qv 0) (qe_glob (v := .int 0) rfl mN0 ⟨_, rfl⟩) rfl)))), ?_⟩
    refine ⟨0, 1, rfl, Big.of (by decide) (by decide), fun _ p hp => ?_, fun z => absurd z (by decide)⟩
    obtain ⟨f1, f2⟩ := M06.ft_one 0
    rw [f1, f2]
    have nr : p ≠ r := fun z => by rw [z, h1] at hp; cases hp
    refine ⟨_, rfl, r, A0, dx, _, rfl, by rw [upd_ne nr.symm]; exact h1, cA.cl, na.t, (by show 0 < 1000; decide), ?_⟩
    refine ⟨_, rfl, _, rfl, r, A0, dx, _, rfl, upd_same, cA.cl, na.p, (by show 1 < 1000; decide), ?_⟩
    refine ⟨_, rfl, r, A0, dx, _, rfl, upd_same, cA.cl, na.l, (by show 2 < 1000; decide), ?_⟩
    refine q _ ?_ ?_
    · exact But.trans (Same.but (sameUpd hp)) (But.trans But.upd (But.trans But.upd But.upd))
    · refine ⟨p, ?_, ?_⟩
      · rw [upd_same]
        rfl
      · rw [upd_ne nr, upd_ne nr, upd_ne nr, upd_same]
        rfl
end

end K5


set_option maxRecDepth 100000
set_option linter.all false
set_option maxHeartbeats 800000
set_option Elab.async false
namespace K5
open PySem L2 L3 X8 M01 L6 L5 QL
open M03 L8 L9 L10 L13 L11


section
variable {P : Program} {w : World} {K : PySem.W.Frag} {mg : Str → Option Value} {base : Heap} {S C A0 CN : Addr}
/-! ### take -/
theorem gtup2_mk {K : PySem.W.Frag} {h : Heap} {mg : Str → Option Value} {x : Str} {a : Addr} {o : Obj} {its : Array Value} {n : Nat} {xs : List V} (X : K.In h) (G : h.Ns mainGlobals mg) (e : PySem.W.nsIn K mainGlobals x = some (some (.ref a))) (l : K.lookup a = some o)
    (c : o.cls = .type "tuple") (dd : o.dict = none) (d : o.data = .seq its n) (z : its.size ≤ sizeLine) (v : Vals xs its.toList) : ∃ a, mg x = some (.ref a) ∧ (∀ H, SqT K H a xs) ∧ ∃ o, K.lookup a = some o ∧ o.cls = .type "tuple" ∧ o.dict = none :=
  ⟨a, PySem.W.mg_of X G e, fun H => .inr ⟨o, its, n, l, c, d, z, v⟩, o, l, c, dd⟩
theorem in_units (x : Str) : inV (.str x) (M06.unL.map V.str) = (M06.ui x).isSome := by
  unfold inV
  rw [List.any_map]
  cases e : M06.ui x with
  | some j =>
    obtain ⟨_, h, _⟩ := M06.ui_some e
    exact List.any_eq_true.mpr ⟨x, List.mem_of_getElem? h, by show (x == x) = true; simp⟩
  | none =>
    rw [Option.isSome_none, Bool.eq_false_iff]
    intro a
    obtain ⟨y, hy, z⟩ := List.any_eq_true.mp a
    have z' : (y == x) = true := z
    rw [beq_iff_eq] at z'
    exact M06.ui_none e (z' ▸ hy)
def spTk (A0 : Addr) : Sp := fun vs H Q _ => ∃ (r dx : Addr) (st : M06.R5) (x : Str), vs = [.ref r, .str x] ∧ At5 H r A0 dx st ∧ M06.Ok st ∧ x.length ≤ 1000 ∧ W5 H r A0 dx Q (M06.step st x)
theorem scTk : FnScope ["self", "word"] ["self", "word"] (defScope si_AmountReader_take) := ⟨rfl, rfl, rfl, by decide +kernel, rfl, by decide +kernel, by decide +kernel⟩
theorem d_tk (T : Met K A0 "take" "AmountReader.take" si_AmountReader_take) (cA : CL K mg "AmountReader" A0) (na : NA K A0) (mTU : MDef P w K mg base CX0 1 A0 "take_unit" ["self", "place"] (spTU A0)) (mTN : MDef P w K mg base CX0 6 A0 "take_numeral" ["self", "word"] (spTN A0))
    (mTP : MDef P w K mg base CX0 7 A0 "take_part" ["self", "word"] (spTP A0)) (gU : ∃ a, mg "UNITS" = some (.ref a) ∧ (∀ H, SqT K H a (M06.unL.map V.str)) ∧ ∃ o, K.lookup a = some o ∧ o.cls = .type "tuple" ∧ o.dict = none) (g1 : ∃ tk, mg "UNIT" = some (.int 1 tk)) (g2 : ∃ tk, mg "NUMERAL" = some (.int 2 tk)) :
    MDef P w K mg base CX0 8 A0 "take" ["self", "word"] (spTk A0) := by
  refine mdef_of T (fun _ _ _ _ _ _ us hl => match us, hl with | [_, _], _ => rfl) scTk (fun vs H Q E h => ?_) (fun f cdv A outer s H vs Q E hr h => ?_)
  · obtain ⟨r, dx, st, x, rfl, _⟩ := h
    rfl
  · obtain ⟨r, dx, st, x, rfl, at5, ok, hx, q⟩ := h
    obtain ⟨tk1, mN1⟩ := g1
    obtain ⟨tk2, mN2⟩ := g2
    obtain ⟨aU, mU, sU, kU⟩ := gU
    refine ⟨_, (qss_cons (qs_if (qt_cmpR op_in_seq (qv 1) (qe_glob (v := .ref aU) rfl mU rfl) (by with_unfolding_all rfl)) (qss_one (qs_ret (qe_methD (qv 0) cA.cl mTU (hr.mono (by decide)) pass0 (qa_cons (qe_bm PySem.F.plainAttrs_tuple PySem.F.slot_tuple_index PySem.F.type_tuple_index mt_tindex (qe_glob (v := .ref aU) rfl mU rfl) (qa_cons (qv 1) qa_nil)) qa_nil)))) qss_nil)
      (qss_cons (qs_join (qs_if (QW.pt (qw_and (qt_cmpR op_eq (qe_fld (qv 0) rfl) (qe_glob (v := .int 1) rfl mN1 ⟨_, rfl⟩) (nomark _)) (qw_and1 (qt_val (qe_methD (qv 0) cA.cl mTN (hr.mono (by decide)) pass0 (qa_cons (qv 1) qa_nil)))))) (qss_one (qs_ret qe_bl)) qss_nil))
      (qss_cons (qs_if (QW.pt (qw_or (qt_cmpR op_eq (qe_fld (qv 0) rfl) (qe_glob (v := .int 1) rfl mN1 ⟨_, rfl⟩) (nomark _)) (qw_or1 (qt_cmpR op_eq (qe_fld (qv 0) rfl) (qe_glob (v := .int 2) rfl mN2 ⟨_, rfl⟩) (nomark _))))) (qss_one (qs_ret (qe_methD (qv 0) cA.cl mTP (hr.mono (by decide)) pass0 (qa_cons (qv 1) qa_nil)))) qss_nil)
      (qss_one (qs_ret qe_bl))))), ?_⟩
    refine ⟨_, rfl, aU, _, rfl, .inr (sU _), rfl, rfl, _, rfl, ?_⟩
    rw [show (if false = true then !inV (.str x) (M06.unL.map V.str) else inV (.str x) (M06.unL.map V.str)) = (M06.ui x).isSome from in_units x]
    obtain ⟨tp, h1, h2⟩ := id at5
    cases hu : M06.ui x with
    | some j =>
      obtain ⟨j5, hj, hm⟩ := M06.ui_some hu
      unfold M06.step at q
      rw [hu] at q
      refine iteT ?_
      refine ⟨_, rfl, r, dx, _, rfl, h1, rfl, .inr (.inl ⟨rfl, kU⟩), _, rfl, aU, _, x, j, rfl, rfl, sU _, hj, hm, r, dx, st, j, rfl, at5, q⟩
    | none =>
      unfold M06.step at q
      rw [hu] at q
      refine iteF ?_
      obtain ⟨sN, esN⟩ : ∃ o, M06.sNum st x = o := ⟨_, rfl⟩
      refine ⟨fun σ' H' => σ' = [some (.ref r), some (.str x)] ∧ Same H H' ∧ ((st.la = 1 ∧ sN = none) ∨ st.la ≠ 1), ?_, ?_⟩
      · refine ⟨_, rfl, r, A0, dx, _, _, rfl, h1, cA.cl, na.l, rfl, rfl, _, rfl, ?_⟩
        by_cases hl : st.la = 1
        · rw [show decide (V.int st.la = V.int 1) = true from decide_eq_true (by rw [hl])]
          refine iteT ?_
          refine ⟨_, rfl, r, dx, _, rfl, h1, rfl, _, rfl, r, dx, st, x, rfl, at5, ok, hl, hx, ?_⟩
          simp only [if_pos hl] at q
          rw [esN] at q ⊢
          cases hn : sN with
          | some st' =>
            rw [hn] at q
            exact fun H' b a => ⟨_, rfl, iteT (q H' b a)⟩
          | none => exact fun H' s => ⟨_, rfl, iteF ⟨rfl, s, .inl ⟨hl, rfl⟩⟩⟩
        · rw [show decide (V.int st.la = V.int 1) = false from decide_eq_false (fun z => hl (by injection z))]
          exact iteF ⟨rfl, Same.refl H, .inr hl⟩
      · rintro σ' H' ⟨rfl, s', cond⟩
        obtain ⟨tp', h1', h2'⟩ := at5.same s'
        have wsame : ∀ o, W5 H r A0 dx Q o → W5 H' r A0 dx Q o := fun o z => by
          cases o with
          | some st' => exact fun H2 b a => z H2 (But.trans (Same.but s') b) a
          | none => exact fun H2 b => z H2 (s'.trans b)
        refine ⟨_, rfl, r, A0, dx, _, _, rfl, h1', cA.cl, na.l, rfl, rfl, _, rfl, ?_⟩
        by_cases hl : st.la = 1
        · rw [show decide (V.int st.la = V.int 1) = true from decide_eq_true (by rw [hl])]
          refine iteT ?_
          rcases cond with ⟨_, hn⟩ | c
          · simp only [if_pos hl, esN, hn] at q
            exact ⟨_, rfl, r, dx, _, rfl, h1', rfl, _, rfl, r, dx, st, x, rfl, at5.same s', ok, .inl hl, hx, wsame _ q⟩
          · exact absurd hl c
        · rw [show decide (V.int st.la = V.int 1) = false from decide_eq_false (fun z => hl (by injection z))]
          refine iteF ?_
          simp only [if_neg hl] at q
          refine ⟨_, rfl, r, A0, dx, _, _, rfl, h1', cA.cl, na.l, rfl, rfl, _, rfl, ?_⟩
          by_cases hl2 : st.la = 2
          · rw [show decide (V.int st.la = V.int 2) = true from decide_eq_true (by rw [hl2])]
            refine iteT ?_
            simp only [if_pos hl2] at q
            exact ⟨_, rfl, r, dx, _, rfl, h1', rfl, _, rfl, r, dx, st, x, rfl, at5.same s', ok, .inr hl2, hx, wsame _ q⟩
          · rw [show decide (V.int st.la = V.int 2) = false from decide_eq_false (fun z => hl2 (by injection z))]
            refine iteF ?_
            simp only [if_neg hl2] at q
            exact q H' s'
end

end K5


set_option maxRecDepth 100000
set_option linter.all false
set_option maxHeartbeats 800000
set_option Elab.async false
namespace K5
open PySem L2 L3 X8 M01 L6 L5 QL
open M03 L8 L9 L10 L13 L11


section
variable {P : Program} {w : World} {K : PySem.W.Frag} {mg : Str → Option Value} {base : Heap} {S C A0 CN : Addr}
theorem steps_snoc : ∀ (ws : List Str) (x : Str) (st : M06.R5), M06.steps (ws ++ [x]) st = (M06.steps ws st).bind fun s => M06.step s x
  | [], x, st => by
    show (M06.step st x).bind (M06.steps []) = M06.step st x
    cases M06.step st x <;> rfl
  | w :: ws, x, st => by
    show (M06.step st w).bind (M06.steps (ws ++ [x])) = ((M06.step st w).bind (M06.steps ws)).bind _
    cases M06.step st w with
    | none => rfl
    | some s => exact steps_snoc ws x s
theorem steps_none : ∀ (ws vs : List Str) (st : M06.R5), M06.steps ws st = none → M06.steps (ws ++ vs) st = none
  | [], _, _, h => by cases h
  | w :: ws, vs, st, h => by
    show (M06.step st w).bind (M06.steps (ws ++ vs)) = none
    have h' : (M06.step st w).bind (M06.steps ws) = none := h
    cases e : M06.step st w with
    | none => rfl
    | some s => rw [e] at h'; exact steps_none ws vs s h'
theorem sc_NoAmount : FnScope ["self", "amount"] ["self", "amount"] (defScope si_NoAmount) := ⟨rfl, rfl, rfl, by decide +kernel, rfl, by decide +kernel, by decide +kernel⟩
theorem xr_NoAmount {P : Program} {w : World} {K : PySem.W.Frag} {mg : Str → Option Value} {base : Heap} {S C : Addr} (B : XB K mg S) (N : XC K mg S "NoAmount" "amount" "NoAmount.__init__" si_NoAmount C) : XR P w K mg base S "NoAmount" "amount" C := by
  obtain ⟨f, fd, ai, iI, F⟩ := N.i
  refine ⟨N.m, N.c, N.na, f, fd, "amount", ai, iI, ?_, F.binds (ps := ["self", "amount"]) fun _ _ _ _ _ _ us hl => match us, hl with | [_, _], _ => rfl⟩
  refine F.ok sc_NoAmount (fun vs H Q E h => ?_) (fun cdv A outer s H vs Q E hr h => ?_)
  · obtain ⟨e, y, rfl, _⟩ := h
    rfl
  · obtain ⟨e, y, rfl, he, k⟩ := h
    refine ⟨_, pss_cons (ps_expr (pe_xbase rfl B.m B.b (pa_cons (pv 0) (pa_cons pe_str pa_nil)))) (pss_one (ps_xfld (pv 0) (pv 1) rfl)), ?_⟩
    refine ⟨_, rfl, e, C, S, _, rfl, he, N.c, ?_⟩
    refine ⟨_, rfl, _, rfl, e, C, S, rfl, upd_same, N.c, N.na, fun dx nd ne => ?_⟩
    rw [upd_ne ne] at nd
    have q := k dx nd ne
    have eq : upd (upd (upd H e (XRaw e C)) dx (HO.xd [("amount", y)])) e (XDct e C dx) = upd (upd H dx (HO.xd [("amount", y)])) e (XDct e C dx) := by
      funext z
      by_cases h1 : z = e
      · subst h1; rw [upd_same, upd_same]
      · rw [upd_ne h1, upd_ne h1]
        by_cases h2 : z = dx
        · subst h2; rw [upd_same, upd_same]
        · rw [upd_ne h2, upd_ne h2, upd_ne h1]
    show Q .non _
    rw [eq]
    exact q
/-! ### read_amount -/
def spRd (CN : Addr) : Sp := fun vs H Q E => ∃ x : Str, vs = [.str x] ∧ x.length ≤ 1000 ∧ (∀ a b, M06.rd x = some (a, b) → ∀ p H', Same H H' → H' p = some (.tup [.int a, .int b]) → Q (.ref p) H') ∧
  (M06.rd x = none → ∀ dx H', Same H H' → H' dx = none → E (.ref CN) (some dx) (upd H' dx (.xd [("amount", .str x)])))
theorem scRd : FnScope ["text", "reader", "word"] ["text"] (defScope s_read_amount) := ⟨rfl, rfl, rfl, by decide +kernel, rfl, by decide +kernel, by decide +kernel⟩
theorem d_read (T : Th K mg "read_amount" s_read_amount) (cA : CL K mg "AmountReader" A0) (na : NA K A0) (mIn : MDef P w K mg base CX0 4 A0 "__init__" ["self"] (spIn A0)) (mTk : MDef P w K mg base CX0 8 A0 "take" ["self", "word"] (spTk A0))
    (mFu : MDef P w K mg base CX0 1 A0 "is_full" ["self"] (spFu A0)) (rNoAmount : XR P w K mg base S "NoAmount" "amount" CN) : Def P w K mg base (CXe P w) 9 "read_amount" ["text"] (spRd CN) := by
  refine QL.def_ofX T (fun _ _ _ _ _ _ us hl => match us, hl with | [_], _ => rfl) scRd (fun vs H Q E h => ?_) (fun f cdv A outer s H vs Q E hr h => ?_)
  · obtain ⟨x, rfl, _⟩ := h
    rfl
  · obtain ⟨x, rfl, hx, q1, q2⟩ := h
    refine ⟨_, (qss_cons (qs_set (i := 1) scRd.nd rfl (Or.inl rfl) (qe_makeD0 cA mIn (hr.mono (by decide)) rfl pass0))
      (qss_cons (qs_for PassesOwn.leaving rfl (qi_list (qe_bm PySem.F.plainAttrs_str PySem.F.slot_str_split PySem.F.type_str_split mt_split (qv 0) (qa_cons qe_str qa_nil))) (qg_name (i := 2) scRd.nd rfl (Or.inl rfl))
        (qss_one (qs_if (qt_not (qt_val (qe_methD (qv 1) cA.cl mTk (hr.mono (by decide)) pass0 (qa_cons (qv 2) qa_nil)))) (qss_one (qs_raiseD rNoAmount (hr.mono (by decide)) rfl catches_def (qv 0) rfl)) qss_nil)))
      (qss_cons (qs_if (qt_not (qt_val (qe_methD0 (qv 1) cA.cl mFu (hr.mono (by decide)) pass0))) (qss_one (qs_raiseD rNoAmount (hr.mono (by decide)) rfl catches_def (qv 0) rfl)) qss_nil)
      (qss_one (qs_ret (qe_fld (qv 1) rfl)))))), ?_⟩
    have sg := split_ge x 32
    intro r dx hr0 hdx ne
    refine ⟨r, dx, rfl, upd_same, fun H1 b1 a1 => ⟨rfl, ?_⟩⟩
    have s1 : Same H H1 := fun b o e => by
      have n1 : b ≠ r := ne_of_none e hr0
      have n2 : b ≠ dx := ne_of_none e hdx
      exact b1 b o n1 (by rw [upd_ne n1, upd_ne n2]; exact e)
    refine ⟨_, rfl, rfl, x, " ", rfl, rfl, rfl, line12 hx, Nat.le_trans sg.1 (by rw [sizeLine_eq]; omega), fun l hl => ?_⟩
    generalize eL : Txt.split x " " = L
    have hpl : ∀ p ∈ L, p.length ≤ 1000 := fun p hp => by
      have := sg.2 p (by show p ∈ Txt.split x " "; rw [eL]; exact hp)
      omega
    have rde : M06.rd x = (M06.steps L M06.r0).bind fun st => if st.la = 2 ∨ st.la = 3 then some (st.a, st.b) else none := by unfold M06.rd; rw [eL]
    have nlr : l ≠ r := fun z => by
      obtain ⟨tp, h1, _⟩ := a1
      rw [z, h1] at hl
      cases hl
    have s2 : Same H1 (upd H1 l (.lst (L.map V.str))) := sameUpd hl
    refine ⟨l, rfl, ⟨_, SqL.of upd_same⟩, for_list (K := K) (a := l) (xs := L.map V.str) (fun i σ H3 => Same H H3 ∧ H3 l = some (.lst (L.map V.str)) ∧ ∃ v st, σ = [some (.str x), some (.ref r), v] ∧ M06.steps (L.take i) M06.r0 = some st ∧ M06.Ok st ∧ At5 H3 r A0 dx st) ?_ (fun i σ H3 _ z => SqL.of z.2.1) ?_ ?_⟩
    · exact ⟨s1.trans s2, upd_same, none, M06.r0, rfl, rfl, M06.ok_r0, a1.same s2⟩
    · rintro i v σ H3 hi ⟨sm3, hl3, v0, st, rfl, hst, ok, at5⟩
      rw [List.getElem?_map] at hi
      obtain ⟨wd, hw, rfl⟩ : ∃ wd, L[i]? = some wd ∧ v = .str wd := by
        cases e : L[i]? with
        | none => rw [e] at hi; cases hi
        | some wd => rw [e] at hi; cases hi; exact ⟨wd, rfl, rfl⟩
      obtain ⟨tp, h1, h2⟩ := id at5
      have snoc : L.take (i + 1) = L.take i ++ [wd] := by rw [List.take_add_one, hw]; rfl
      refine ⟨_, rfl, r, dx, _, rfl, h1, rfl, _, rfl, r, dx, st, wd, rfl, at5, ok, hpl wd (List.mem_of_getElem? hw), ?_⟩
      cases e : M06.step st wd with
      | some st' =>
        intro H4 b4 a4
        refine ⟨_, rfl, iteF ?_⟩
        refine ⟨fun b o z => ?_, b4 _ _ nlr hl3, _, st', rfl, ?_, M06.ok_step ok e, a4⟩
        · exact b4 b o (ne_of_none z hr0) (sm3 b o z)
        · rw [snoc, steps_snoc, hst]
          exact e
      | none =>
        intro H4 s4
        refine ⟨_, rfl, iteT ?_⟩
        refine ⟨_, rfl, fun dx2 hdx2 => q2 ?_ dx2 H4 (sm3.trans s4) hdx2⟩
        have z : M06.steps (L.take (i + 1)) M06.r0 = none := by rw [snoc, steps_snoc, hst]; exact e
        have z2 := steps_none _ (L.drop (i + 1)) _ z
        rw [List.take_append_drop] at z2
        rw [rde, z2]
        rfl
    · rintro σ H3 ⟨sm3, hl3, v0, st, rfl, hst, ok, at5⟩
      rw [List.length_map, List.take_length] at hst
      obtain ⟨tp, h1, h2⟩ := id at5
      refine ⟨_, rfl, r, dx, _, rfl, h1, rfl, r, dx, st, rfl, at5, _, rfl, ?_⟩
      by_cases hf : st.la = 2 ∨ st.la = 3
      · rw [decide_eq_true hf]
        refine iteF ?_
        refine ⟨_, rfl, r, A0, dx, _, _, rfl, h1, cA.cl, na.t, rfl, ?_⟩
        refine q1 st.a st.b ?_ tp H3 sm3 h2
        rw [rde, hst]
        exact if_pos hf
      · rw [decide_eq_false hf]
        refine iteT ?_
        refine ⟨_, rfl, fun dx2 hdx2 => q2 ?_ dx2 H3 sm3 hdx2⟩
        rw [rde, hst]
        exact if_neg hf
end

end K5


set_option maxRecDepth 100000
set_option linter.all false
set_option maxHeartbeats 4000000
set_option Elab.async false
namespace L14
open PySem L2
/-- an if whose test may come out either way -/
theorem if_tot {tc : TT} {t u : TS} {D : Ends} {σ : L2.St} {H : Hp} (h : ∀ Q' : Bool → Hp → Prop, (∀ c H', Same H H' → Q' c H') → tc σ H Q') (k1 : ∀ H', Same H H' → t D σ H') (k2 : ∀ H', Same H H' → u D σ H') : tIfS tc t u D σ H :=
  h _ fun c H' s => by
    cases c
    · exact iteF (k2 H' s)
    · exact iteT (k1 H' s)
/-- .. whose test is p -/
theorem if_by {p : Prop} {tc : TT} {t u : TS} {D : Ends} {σ : L2.St} {H : Hp} (h : ∀ Q' : Bool → Hp → Prop, (∀ c H', Same H H' → (c = true ↔ p) → Q' c H') → tc σ H Q') (k1 : ∀ H', Same H H' → p → t D σ H') (k2 : ∀ H', Same H H' → ¬ p → u D σ H') : tIfS tc t u D σ H :=
  h _ fun c H' s hc => by
    cases c
    · exact iteF (k2 H' s (fun z => by have := hc.mpr z; cases this))
    · exact iteT (k1 H' s (hc.mp rfl))
end L14


set_option maxRecDepth 100000
set_option linter.all false
set_option maxHeartbeats 800000
set_option Elab.async false
namespace K5
open PySem L2 L3 X8 M01 L6 L5 QL
open M03 L8 L9 L10 L13 L11 L14
section
variable {P : Program} {w : World} {K : PySem.W.Frag} {mg : Str → Option Value} {base : Heap}
/-! ### _law_cell -/
def spCell (K : PySem.W.Frag) : Sp := fun vs H Q _ => ∃ (a : Addr) (ns : List Int) (k : Int), vs = [.ref a, .int k] ∧ SqL K H a (ns.map V.int) ∧ 0 ≤ k ∧ ∀ z, Q (.int z) H
theorem scCell : FnScope ["_law_script", "_law_k"] ["_law_script", "_law_k"] (defScope s_law_cell) := ⟨rfl, rfl, rfl, by decide +kernel, rfl, by decide +kernel, by decide +kernel⟩
theorem d_cell (T : Th K mg "_law_cell" s_law_cell) (zlen : mg "len" = none) : Def P w K mg base CX0 1 "_law_cell" ["_law_script", "_law_k"] (spCell K) := by
  refine QL.def_of T (fun _ _ _ _ _ _ us hl => match us, hl with | [_, _], _ => rfl) scCell (fun vs H Q E h => ?_) (fun f cdv A outer s H vs Q E hr h => ?_)
  · obtain ⟨a, ns, k, rfl, _⟩ := h
    rfl
  · obtain ⟨a, ns, k, rfl, hS, k0, q⟩ := h
    refine ⟨_, (qss_cons (qs_if (qt_cmpR op_lt (qv 1) (qe_callB call_len_seq (by rfl) zlen PySem.boot_len (qa_cons (qv 0) qa_nil)) (nomark _)) (qss_one (qs_ret (qe_ix ix_list (qv 0) (qv 1) (fun _ _ => rfl)))) qss_nil)
      (qss_one (qs_ret qe_int))), ?_⟩
    refine ⟨_, rfl, _, rfl, a, _, rfl, .inl hS, _, _, rfl, rfl, _, rfl, ?_⟩
    refine ite2 (fun z => ?_) (fun _ => ?_)
    · have z' : k < (((ns.map V.int).length : Nat) : Int) := of_decide_eq_true z
      rw [List.length_map] at z'
      have hlt : k.toNat < ns.length := by omega
      have e : (ns.map V.int)[k.toNat]? = some (.int ns[k.toNat]) := by rw [List.getElem?_map, List.getElem?_eq_getElem hlt]; rfl
      have e2 := atI_nat e
      rw [show ((k.toNat : Nat) : Int) = k from by omega] at e2
      exact ⟨_, rfl, _, rfl, a, _, k, _, rfl, rfl, hS, e2, q _⟩
    · exact q 0
end
def spLaw (K : PySem.W.Frag) : Sp := fun vs H Q _ => ∃ (a : Addr) (ns : List Int), vs = [.ref a] ∧ SqL K H a (ns.map V.int) ∧ ns.length ≤ 63 ∧ ∀ H', Q (.bl true) H'
theorem Same.upd {H : Hp} {r : Addr} {o : HO} (h : H r = none) : Same H (upd H r o) := fun b u e => by rw [upd_ne (ne_of_none e h)]; exact e

section
variable {P : Program} {w : World} {K : PySem.W.Frag} {mg : Str → Option Value} {base : Heap} {S C : Addr}
/-! ### _law_lowest, _law_is -/
def spLow : Sp := fun vs H Q _ => ∃ t b : Int, vs = [.int t, .int b] ∧ 0 < b ∧ Big b ∧ ∀ r, H r = none → Q (.ref r) (upd H r (.tup [.int (ft t b), .int (fb t b)]))
theorem scLo : FnScope ["_law_top", "_law_bottom", "_law_one", "_law_other"] ["_law_top", "_law_bottom"] (defScope s_law_lowest) := ⟨rfl, rfl, rfl, by decide +kernel, rfl, by decide +kernel, by decide +kernel⟩
theorem d_low (T : Th K mg "_law_lowest" s_law_lowest) (mA : mg "abs" = none) : Def P w K mg base CX0 1 "_law_lowest" ["_law_top", "_law_bottom"] spLow := by
  refine L6.def_of T (fun _ _ _ _ _ _ us hl => match us, hl with | [_, _], _ => rfl) scLo (fun vs H Q E h => ?_) (fun f cdv A outer s H vs Q E hr h => ?_)
  · obtain ⟨t, b, rfl, _⟩ := h
    rfl
  · obtain ⟨t, b, rfl, b0, bb, k⟩ := h
    refine ⟨_, pss_cons (ps_set (i := 2) scLo.nd rfl (Or.inl rfl) (pe_callB call_abs (by rfl) mA PyProof.Rows.boot_abs (pa_cons (pv 0) pa_nil)))
      (pss_cons (ps_set (i := 3) scLo.nd rfl (Or.inl rfl) (pv 1))
      (pss_cons (ps_while PassesOwn.never (pt_cmpR op_ne (pv 3) pe_int (nomark _))
        (pss_one (ps_par (i := 2) (j := 3) rfl scLo.nd rfl rfl (by decide) rfl rfl (pa_cons (pv 3) (pa_cons (pe_op op_mod (pv 2) (pv 3)) pa_nil)) rfl)))
      (pss_one (ps_ret (pe_tup (pa_cons (pe_op op_fdivB (pv 0) (pv 2)) (pa_cons (pe_op op_fdivB (pv 1) (pv 2)) pa_nil))))))), ?_⟩
    refine ⟨_, rfl, _, rfl, _, rfl, ?_⟩
    have eb : ab b = b := by unfold ab; rw [if_neg (by omega)]
    have ed : dv t b = gz (ab t) b := by unfold dv; rw [if_neg (by omega), eb]
    refine while_by (fun σ H1 => ∃ a1 b1, σ = [some (.int t), some (.int b), some (.int a1), some (.int b1)] ∧ H1 = H ∧ 0 ≤ a1 ∧ 0 ≤ b1 ∧ gz a1 b1 = dv t b) (fun σ _ => match σ with | [_, _, _, some (.int b1)] => b1.toNat | _ => 0) ⟨ab t, b, rfl, rfl, ab_nn _, by omega, ed.symm⟩ ?_ ?_
    · rintro σ H1 ⟨a1, b1, rfl, rfl, h1, h2, e⟩
      refine ⟨_, rfl, rfl, _, rfl, ?_⟩
      by_cases z0 : b1 = 0
      · subst z0
        refine iteNS rfl ?_
        rw [gz_end h1] at e
        subst e
        have d0 : dv t b ≠ 0 := dv_ne (by omega)
        have dB : Big (dv t b) := Big.le (dv_le (by omega)) bb
        exact ⟨_, rfl, _, rfl, _, _, rfl, rfl, ⟨d0, dB⟩, _, rfl, _, rfl, _, _, rfl, rfl, ⟨d0, dB⟩, (by show 2 ≤ sizeLine; decide), fun p np => k p np⟩
      · have q' : 0 < b1 := by omega
        rw [show (decide (V.int b1 = V.int 0)) = false from decide_eq_false (fun z => z0 (by injection z))]
        refine iteT ?_
        refine ⟨_, rfl, _, rfl, _, rfl, _, _, rfl, rfl, q', _, _, rfl, ⟨b1, a1 % b1, rfl, rfl, h2, Int.emod_nonneg _ (by omega), by rw [gz_step h1 q']; exact e⟩, ?_⟩
        show (a1 % b1).toNat < b1.toNat
        have z1 := Int.emod_lt_of_pos a1 q'
        have z2 := Int.emod_nonneg a1 z0
        omega
    · rintro σ H1 Q1 Q2 kq ⟨v, e, sc, c, q3, q⟩
      exact ⟨v, e, sc, c, q3, kq _ _ q⟩
def spIs (K : PySem.W.Frag) : Sp := fun vs H Q _ => ∃ (p q : Addr) (a b : Int), vs = [.ref p, .ref q] ∧ H p = some (.tup [.int a, .int b]) ∧ SqT K H q [.int a, .int b] ∧ Q (.bl true) H
theorem scIs : FnScope ["_law_found", "_law_due", "_law_number"] ["_law_found", "_law_due"] (defScope s_law_is) := ⟨rfl, rfl, rfl, by decide +kernel, rfl, by decide +kernel, by decide +kernel⟩
theorem d_is (T : Th K mg "_law_is" s_law_is) (mI : mg "isinstance" = none) (mt : mg "tuple" = none) (mi : mg "int" = none) (mb : mg "bool" = none) (mL : mg "len" = none) : Def P w K mg base CX0 1 "_law_is" ["_law_found", "_law_due"] (spIs K) := by
  refine L6.def_of T (fun _ _ _ _ _ _ us hl => match us, hl with | [_, _], _ => rfl) scIs (fun vs H Q E h => ?_) (fun f cdv A outer s H vs Q E hr h => ?_)
  · obtain ⟨p, q, a, b, rfl, _⟩ := h
    rfl
  · obtain ⟨p, q, a, b, rfl, hp, hq, k⟩ := h
    have hu : A.units + 1 < cLine := by have := hu_of hr; exact Nat.lt_of_le_of_lt (by first | exact Nat.le_refl _ | exact Nat.le_succ _ | (show _ ≤ _; simp [Around.deeper]) ) this
    refine ⟨_, pss_cons (ps_if (PW.pt (pw_or (pt_not (pt_val (pe_callB call_isinst (by rfl) mI PyProof.Rows.boot_isinstance (pa_cons (pv 0) (pa_cons (pe_bltn (v := .ty "tuple") rfl mt PyProof.Rows.boot_tuple rfl) pa_nil)))))
        (pw_or1 (pt_cmpR op_ne (pe_callB call_len_seq (by rfl) mL PySem.boot_len (pa_cons (pv 0) pa_nil)) pe_int (nomark _))))) (pss_one (ps_ret pe_bl)) pss_nil)
      (pss_cons (ps_for PassesOwn.never rfl (pi_tup (pv 0)) (pg_name (i := 2) scIs.nd rfl (Or.inl rfl))
        (pss_one (ps_if (PW.pt (pw_or (pt_not (pt_val (pe_callB call_isinst (by rfl) mI PyProof.Rows.boot_isinstance (pa_cons (pv 2) (pa_cons (pe_bltn (v := .ty "int") rfl mi PyProof.Rows.boot_int rfl) pa_nil)))))
          (pw_or1 (pt_val (pe_callB call_isinst (by rfl) mI PyProof.Rows.boot_isinstance (pa_cons (pv 2) (pa_cons (pe_bltn (v := .ty "bool") rfl mb PyProof.Rows.boot_bool rfl) pa_nil))))))) (pss_one (ps_ret pe_bl)) pss_nil)))
      (pss_one (ps_ret (pe_cmpR (op_eqT (hu_of hr |> Nat.lt_of_succ_lt)) (pv 0) (pv 1) (nomark _))))), ?_⟩
    have T : SqT K H p [.int a, .int b] := SqT.of hp
    refine ⟨_, rfl, _, _, .type "tuple", .type "tuple", true, rfl, fun u z => z, .tup hp, by rfl, true, rfl, iteF ?_⟩
    refine ⟨_, rfl, p, _, rfl, .inr T, rfl, _, rfl, iteNS rfl ?_⟩
    refine ⟨_, rfl, p, rfl, ⟨_, T⟩, for_tup (K := K) (a := p) (xs := [.int a, .int b]) (fun _ σ H2 => ∃ nv, σ = [some (.ref p), some (.ref q), nv] ∧ H2 = H) ⟨none, rfl, rfl⟩ (fun _ _ _ _ ⟨_, _, e⟩ => by rw [e]; exact T) ?_ ?_⟩
    · rintro i y σ H2 hi ⟨nv, rfl, rfl⟩
      obtain ⟨z, rfl⟩ : ∃ z, y = V.int z := by
        match i, hi with
        | 0, hi => exact ⟨a, (Option.some.inj hi).symm⟩
        | 1, hi => exact ⟨b, (Option.some.inj hi).symm⟩
        | n + 2, hi => cases hi
      refine ⟨_, rfl, _, _, .type "int", .type "int", true, rfl, fun u z => z, .int z, by rfl, true, rfl, iteF ?_⟩
      refine ⟨_, rfl, _, _, .type "bool", .type "int", false, rfl, fun u z => z, .int z, kit_bi K "int" "bool" false (by decide +kernel), false, rfl, iteF ?_⟩
      exact ⟨_, rfl, rfl⟩
    · rintro σ H2 ⟨nv, rfl, rfl⟩
      refine ⟨_, rfl, _, rfl, p, q, [a, b], [a, b], rfl, rfl, T, hq, ?_⟩
      rw [decide_eq_true rfl]
      exact k
end

section
variable {P : Program} {w : World} {K : PySem.W.Frag} {mg : Str → Option Value} {base : Heap} {S C : Addr}
/-! ### _law_wheel -/
def spW : Sp := fun vs H Q _ => ∃ c n : Int, vs = [.int c, .int n] ∧ 0 ≤ n ∧ n ≤ 63 ∧
  ∀ (p : Addr) (xs : List Int) (H' : Hp), H p = none → H' p = some (.lst (xs.map V.int)) → xs.length = n.toNat → (∀ x ∈ xs, 0 ≤ x ∧ x < 2147483563) → Same H H' → Q (.ref p) H'
theorem scW : FnScope ["_law_cell_here", "_law_many", "_law_found", "_law_rest", "_law_turn", "_law_k"] ["_law_cell_here", "_law_many"] (defScope s_law_wheel) := ⟨rfl, rfl, rfl, by decide +kernel, rfl, by decide +kernel, by decide +kernel⟩
theorem d_wheel (T : Th K mg "_law_wheel" s_law_wheel) (zrange : mg "range" = none) : Def P w K mg base CX0 1 "_law_wheel" ["_law_cell_here", "_law_many"] spW := by
  refine QL.def_of T (fun _ _ _ _ _ _ us hl => match us, hl with | [_, _], _ => rfl) scW (fun vs H Q E h => ?_) (fun f cdv A outer s H vs Q E hr h => ?_)
  · obtain ⟨c, n, rfl, _⟩ := h
    rfl
  · obtain ⟨c, n, rfl, n0, n1, q⟩ := h
    refine ⟨_, (qss_cons (qs_set (i := 2) scW.nd rfl (Or.inl rfl) (qe_lst qa_nil))
      (qss_cons (qs_set (i := 3) scW.nd rfl (Or.inl rfl) (qv 0))
      (qss_cons (qs_set (i := 4) scW.nd rfl (Or.inl rfl) (qe_op op_add qe_int (qe_op op_mod (qv 0) qe_int)))
      (qss_cons (qs_for PassesOwn.never rfl (qi_range1 rfl zrange (qa_cons (qv 1) qa_nil)) (qg_name (i := 5) scW.nd rfl (Or.inl rfl))
        (qss_one (qs_if (QW.pt (qw_and (QW.pt (qw_or (qt_cmpR op_lt (qv 0) qe_int (nomark _)) (qw_or1 (qt_cmpR op_ge (qv 0) (qe_op op_pow qe_int qe_int) (nomark _))))) (qw_and1 (qt_cmpR op_notIn_seq (qv 3) (qe_lst (qa_cons qe_int (qa_cons (qe_un un_neg qe_int) qa_nil))) (by with_unfolding_all rfl))))) (qss_cons (qs_expr (qe_bm PySem.F.plainAttrs_list PySem.F.slot_list_append PySem.F.type_list_append mt_append (qv 2) (qa_cons (qe_op op_mod (qv 3) (qe_op op_pow qe_int qe_int)) qa_nil)))
      (qss_one (qs_set (i := 3) scW.nd rfl (Or.inl rfl) (qe_op op_fdiv (qv 3) (qe_op op_pow qe_int qe_int))))) (qss_cons (qs_set (i := 4) scW.nd rfl (Or.inl rfl) (qe_op op_mod (qe_op op_mul (qv 4) qe_int) qe_int))
      (qss_one (qs_expr (qe_bm PySem.F.plainAttrs_list PySem.F.slot_list_append PySem.F.type_list_append mt_append (qv 2) (qa_cons (qe_op op_fdiv (qv 4) qe_int) qa_nil))))))))
      (qss_one (qs_ret (qv 2))))))), ?_⟩
    refine ⟨(by show 0 ≤ sizeLine; decide), fun l hl => ?_⟩
    refine ⟨_, rfl, _, rfl, _, _, rfl, rfl, (by show (0 : Int) < 2147483562; decide), _, _, rfl, rfl, ?_⟩
    refine ⟨_, rfl, n, rfl, by omega, by omega, for_range (n := n.toNat) (fun i σ H2 => ∃ (r t : Int) (xs : List Int) (kv : Option V), σ = [some (.int c), some (.int n), some (.ref l), some (.int r), some (.int t), kv] ∧ 0 ≤ t ∧ t < 2147483563 ∧ H2 l = some (.lst (xs.map V.int)) ∧ xs.length = i ∧ (∀ x ∈ xs, 0 ≤ x ∧ x < 2147483563) ∧ ∀ b o, H b = some o → H2 b = some o) ?_ ?_ ?_⟩
    · refine ⟨c, _, [], none, rfl, ?_, ?_, upd_same, rfl, fun x hx => absurd hx (by simp), fun b o e => by rw [upd_ne (ne_of_none e hl)]; exact e⟩
      · have := Int.emod_nonneg c (show (2147483562 : Int) ≠ 0 by decide); omega
      · have := Int.emod_lt_of_pos c (show (0 : Int) < 2147483562 by decide); omega
    · rintro i σ H2 hi ⟨r, t, xs, kv, rfl, t0, t1, hl2, hx, hv, sm⟩
      refine if_tot (fun Q' k => ?_) (fun H3 s3 => ?_) (fun H3 s3 => ?_)
      · have tail : ∀ Q'' : Bool → Hp → Prop, (∀ c H', Same H2 H' → Q'' c H') → (tTest (tOp (rIn K true) (tVar 3) (tLst (tCons (tC (.int 0)) (tCons (tUn (rU fun i => V.int (-i)) (tC (.int 1))) tNil))))) [some (.int c), some (.int n), some (.ref l), some (.int r), some (.int t), some (.int ((0 : Int) + i))] H2 Q'' := by
          intro Q'' k''
          refine ⟨_, rfl, _, rfl, (by show 2 ≤ sizeLine; decide), fun l2 hl2' => ?_⟩
          exact ⟨l2, _, rfl, .inl (SqL.of upd_same), rfl, rfl, _, rfl, k'' _ _ (sameUpd hl2')⟩
        refine ⟨_, rfl, _, _, rfl, rfl, _, rfl, ?_⟩
        refine ite2 (fun z => ?_) (fun z => ?_)
        · exact tail _ k
        · refine ⟨_, rfl, _, _, rfl, rfl, ⟨by decide, by decide, by decide⟩, _, _, rfl, rfl, _, rfl, ?_⟩
          refine ite2 (fun z => ?_) (fun z => ?_)
          · exact tail _ k
          · exact k _ _ (Same.refl _)
      · have hl3 := s3 _ _ hl2
        have p9 : (0 : Int) < 10 ^ (9 : Int).toNat := by decide
        refine ⟨_, rfl, .inl ⟨rfl, _, SqL.of hl3⟩, _, rfl, _, _, rfl, rfl, ⟨by decide, by decide, by decide⟩, _, _, rfl, rfl, p9, l, _, _, rfl, rfl, hl3, ?_, ?_⟩
        · rw [List.length_map, hx, sizeLine_eq]; omega
        · refine ⟨_, rfl, _, _, rfl, rfl, ⟨by decide, by decide, by decide⟩, _, _, rfl, rfl, ⟨by decide, by decide⟩, ?_⟩
          have m0 := Int.emod_nonneg r (show (10 ^ (9 : Int).toNat : Int) ≠ 0 by decide)
          have m1 := Int.emod_lt_of_pos r p9
          have e9 : (10 ^ (9 : Int).toNat : Int) = 1000000000 := by decide
          refine ⟨_, t, xs ++ [r % 10 ^ (9 : Int).toNat], _, rfl, t0, t1, ?_, by simp [hx], fun x hxx => ?_, fun b o e => ?_⟩
          · rw [upd_same]; simp
          · rcases List.mem_append.mp hxx with z | z
            · exact hv x z
            · obtain rfl : x = r % 10 ^ (9 : Int).toNat := by simpa using z
              rw [e9] at m1
              omega
          · rw [upd_ne (ne_of_none e hl)]; exact s3 _ _ (sm b o e)
      · have hl3 := s3 _ _ hl2
        have m0 := Int.emod_nonneg (t * 40014) (show (2147483563 : Int) ≠ 0 by decide)
        have m1 := Int.emod_lt_of_pos (t * 40014) (show (0 : Int) < 2147483563 by decide)
        refine ⟨_, rfl, _, _, rfl, rfl, .inl ⟨by omega, by omega⟩, _, _, rfl, rfl, (by show (0 : Int) < 2147483563; decide), ?_⟩
        refine ⟨_, rfl, .inl ⟨rfl, _, SqL.of hl3⟩, _, rfl, _, _, rfl, rfl, ⟨by decide, by decide⟩, l, _, _, rfl, rfl, hl3, ?_, ?_⟩
        · rw [List.length_map, hx, sizeLine_eq]; omega
        · refine ⟨r, _, xs ++ [t * 40014 % 2147483563 / 3], _, rfl, m0, m1, ?_, by simp [hx], fun x hxx => ?_, fun b o e => ?_⟩
          · rw [upd_same]; simp
          · rcases List.mem_append.mp hxx with z | z
            · exact hv x z
            · obtain rfl : x = t * 40014 % 2147483563 / 3 := by simpa using z
              omega
          · rw [upd_ne (ne_of_none e hl)]; exact s3 _ _ (sm b o e)
    · rintro σ H2 ⟨r, t, xs, kv, rfl, t0, t1, hl2, hx, hv, sm⟩
      exact ⟨_, rfl, q l xs H2 hl hl2 hx hv sm⟩
/-! ### _law_shares -/
def spSh : Sp := fun vs H Q _ => ∃ a b : Int, vs = [.int a, .int b] ∧ 0 ≤ a ∧ 0 ≤ b ∧ Q (.bl (decide (1 < gz a b))) H
theorem scSh : FnScope ["_law_one", "_law_other"] ["_law_one", "_law_other"] (defScope s_law_shares) := ⟨rfl, rfl, rfl, by decide +kernel, rfl, by decide +kernel, by decide +kernel⟩
theorem d_shares (T : Th K mg "_law_shares" s_law_shares) : Def P w K mg base CX0 1 "_law_shares" ["_law_one", "_law_other"] spSh := by
  refine QL.def_of T (fun _ _ _ _ _ _ us hl => match us, hl with | [_, _], _ => rfl) scSh (fun vs H Q E h => ?_) (fun f cdv A outer s H vs Q E hr h => ?_)
  · obtain ⟨a, b, rfl, _⟩ := h
    rfl
  · obtain ⟨a, b, rfl, ha, hb, k⟩ := h
    refine ⟨_, (qss_cons (qs_while PassesOwn.never (qt_cmpR op_ne (qv 1) qe_int (nomark _)) (qss_one (qs_par (i := 0) (j := 1) rfl scSh.nd rfl rfl (by decide) rfl rfl (qa_cons (qv 1) (qa_cons (qe_op op_mod (qv 0) (qv 1)) qa_nil)) rfl)))
      (qss_one (qs_ret (qe_cmpR op_gt (qv 0) qe_int (nomark _))))), ?_⟩
    refine while_by (fun σ H1 => ∃ a1 b1, σ = [some (.int a1), some (.int b1)] ∧ H1 = H ∧ 0 ≤ a1 ∧ 0 ≤ b1 ∧ gz a1 b1 = gz a b) (fun σ _ => match σ with | [_, some (.int b1)] => b1.toNat | _ => 0) ⟨a, b, rfl, rfl, ha, hb, rfl⟩ ?_ ?_
    · rintro σ H1 ⟨a1, b1, rfl, rfl, h1, h2, e⟩
      refine ⟨_, rfl, rfl, _, rfl, ?_⟩
      by_cases z0 : b1 = 0
      · subst z0
        refine iteNS rfl ?_
        rw [gz_end h1] at e
        subst e
        exact ⟨_, rfl, _, _, rfl, rfl, k⟩
      · have q' : 0 < b1 := by omega
        rw [show (decide (V.int b1 = V.int 0)) = false from decide_eq_false (fun z => z0 (by injection z))]
        refine iteT ?_
        refine ⟨_, rfl, _, rfl, _, rfl, _, _, rfl, rfl, q', _, _, rfl, ⟨b1, a1 % b1, rfl, rfl, h2, Int.emod_nonneg _ (by omega), by rw [gz_step h1 q']; exact e⟩, ?_⟩
        show (a1 % b1).toNat < b1.toNat
        have z1 := Int.emod_lt_of_pos a1 q'
        have z2 := Int.emod_nonneg a1 z0
        omega
    · rintro σ H1 Q1 Q2 kq ⟨v, e, sc, c, q3, q⟩
      exact ⟨v, e, sc, c, q3, kq _ _ q⟩
end
end K5


set_option maxRecDepth 100000
set_option linter.all false
set_option maxHeartbeats 800000
set_option Elab.async false
namespace K5
open PySem L2 L3 X8 M01 L6 L5 QL
open M03 L8 L9 L10 L13 L11 L14
section
variable {P : Program} {w : World} {K : PySem.W.Frag} {mg : Str → Option Value} {base : Heap} {S C : Addr}
open M04 hiding isNum
/-! ### _law_numeral -/
def spLn : Sp := fun vs H Q _ => ∃ n : Int, vs = [.int n] ∧ 1 ≤ n ∧ n ≤ 399 ∧ ∀ H', Same H H' → Q (.str (numS n)) H'
theorem scLn : FnScope ["_law_number", "_law_text", "_law_some", "_law_size", "_law_sign"] ["_law_number"] (defScope s_law_numeral) := ⟨rfl, rfl, rfl, by decide +kernel, rfl, by decide +kernel, by decide +kernel⟩
theorem drop_at {α : Type} {l : List α} {i : Nat} {x : α} (h : l[i]? = some x) : l.drop i = x :: l.drop (i + 1) := by
  obtain ⟨hl, hv⟩ := List.getElem?_eq_some_iff.mp h
  rw [List.drop_eq_getElem_cons hl, hv]
theorem d_ln (T : Th K mg "_law_numeral" s_law_numeral) : Def P w K mg base CX0 1 "_law_numeral" ["_law_number"] spLn := by
  refine QL.def_of T (fun _ _ _ _ _ _ us hl => match us, hl with | [_], _ => rfl) scLn (fun vs H Q E h => ?_) (fun f cdv A outer s H vs Q E hr h => ?_)
  · obtain ⟨n, rfl, _⟩ := h
    rfl
  · obtain ⟨n, rfl, n0, n1, q⟩ := h
    refine ⟨_, (qss_cons (qs_set (i := 1) scLn.nd rfl (Or.inl rfl) qe_str)
      (qss_cons (qs_set (i := 2) scLn.nd rfl (Or.inl rfl) (qe_lst (qa_prs (by repeat (first | exact C2.nil | apply C2.cons)))))
      (qss_cons (qs_for PassesOwn.never rfl (qi_list (qv 2)) (qg_tup rfl (qgs_cons (qg_name (i := 3) scLn.nd rfl (Or.inl rfl)) (qgs_cons (qg_name (i := 4) scLn.nd rfl (Or.inl rfl)) qgs_nil)))
        (qss_one (qs_while PassesOwn.never (qt_cmpR op_ge (qv 0) (qv 3) (nomark _)) (qss_cons (qs_set (i := 1) scLn.nd rfl (Or.inl rfl) (qe_op op_add_str (qv 1) (qv 4)))
      (qss_one (qs_set (i := 0) scLn.nd rfl (Or.inl rfl) (qe_op op_sub (qv 0) (qv 3))))))))
      (qss_cons (qs_join (qs_if (qt_cmpR op_eq (qe_slice sl_str (qv 1) (qo_some (qe_un un_neg qe_int)) qo_none) qe_str (nomark _)) (qss_one (qs_set (i := 1) scLn.nd rfl (Or.inl rfl) (qe_op op_add_str (qe_slice sl_str (qv 1) qo_none (qo_some (qe_un un_neg qe_int))) qe_str))) qss_nil))
      (qss_one (qs_ret (qv 1))))))), ?_⟩
    refine fun as H1 sm1 pr => ⟨by rw [List.length_map, pr.len]; decide +kernel, fun l hl => ?_⟩
    have pr' : Prs (upd H1 l (.lst (as.map V.ref))) as pairs := pr.mono (sameUpd hl)
    have sm : Same H (upd H1 l (.lst (as.map V.ref))) := fun b o e => sameUpd hl b o (sm1 b o e)
    have hL : (upd H1 l (.lst (as.map V.ref))) l = some (.lst (as.map V.ref)) := upd_same
    generalize upd H1 l (.lst (as.map V.ref)) = H2 at pr' sm hL
    have hlen : as.length = pairs.length := pr.len
    refine ⟨_, rfl, l, rfl, ⟨_, SqL.of hL⟩, for_list (K := K) (a := l) (xs := as.map V.ref) (fun i σ H3 => H3 = H2 ∧ ∃ (m : Int) (t : Str) (v3 v4 : Option V), σ = [some (.int m), some (.str t), some (.ref l), v3, v4] ∧ 0 ≤ m ∧ (t.length : Int) + 2 * m ≤ 800 ∧ gos (pairs.drop i) m t = gos pairs n "") ?_ (fun i σ H3 _ z => by rw [z.1]; exact SqL.of hL) ?_ ?_⟩
    · exact ⟨rfl, n, "", none, none, rfl, by omega, (by show ((0 : Nat) : Int) + 2 * n ≤ 800; omega), rfl⟩
    · rintro i v σ H3 hv ⟨rfl, m, t, v3, v4, rfl, m0, ml, e⟩
      obtain ⟨a, z, gs, rfl, hp, ha⟩ := pr'.at_ hv
      obtain ⟨z1, gl⟩ := pairs_ok _ (List.mem_of_getElem? hp)
      replace z1 : 1 ≤ z := z1
      replace gl : gs.length ≤ 2 := gl
      rw [drop_at hp] at e
      refine ⟨a, _, rfl, SqT.of ha, rfl, _, _, rfl, _, _, rfl, rfl, ?_⟩
      refine while_by (fun σ H4 => H4 = H3 ∧ ∃ (m' : Int) (t' : Str), σ = [some (.int m'), some (.str t'), some (.ref l), some (.int z), some (.str gs)] ∧ 0 ≤ m' ∧ (t'.length : Int) + 2 * m' ≤ 800 ∧ wh z gs m' t' = wh z gs m t) (fun σ _ => match σ with | some (.int m') :: _ => m'.toNat | _ => 0) ⟨rfl, m, t, rfl, m0, ml, rfl⟩ ?_ ?_
      · rintro σ H4 ⟨rfl, m', t', rfl, h1, h2, h3⟩
        refine ⟨_, rfl, _, rfl, _, _, rfl, rfl, _, rfl, ?_⟩
        refine ite2 (fun c => ?_) (fun c => ?_)
        · have c' : z ≤ m' := of_decide_eq_true c
          refine ⟨_, rfl, _, rfl, _, _, rfl, rfl, ?_, _, rfl, _, rfl, _, _, rfl, rfl, ⟨rfl, _, _, rfl, by omega, ?_, ?_⟩, ?_⟩
          · refine Nat.le_trans (show t'.length + gs.length ≤ 1000 by omega) (by decide +kernel)
          · rw [str_app_len]; omega
          · rw [← wh_step z1 c']; exact h3
          · show (m' - z).toNat < m'.toNat
            omega
        · have c' : ¬ z ≤ m' := fun y => c (decide_eq_true y)
          rw [wh_end z1 c'] at h3
          refine ⟨rfl, m', t', _, _, rfl, h1, h2, ?_⟩
          have e' : gos (pairs.drop (i + 1)) (wh z gs m t).1 (wh z gs m t).2 = gos pairs n "" := e
          rw [← h3] at e'
          exact e'
      · rintro σ H4 Q1 Q2 kq ⟨v, e1, v', e2, i1, j1, q1, q2, c, q3, qq⟩
        exact ⟨v, e1, v', e2, i1, j1, q1, q2, c, q3, kq _ _ qq⟩
    · rintro σ H3 ⟨rfl, m, t, v3, v4, rfl, m0, ml, e⟩
      rw [List.length_map, hlen, List.drop_length] at e
      have et : t = lnT n := by
        have e' : (m, t) = gos pairs n "" := e
        unfold lnT
        rw [← e']
      have tl : t.length ≤ 1000 := by omega
      refine ⟨fun σ' H' => H' = H3 ∧ ∃ a b c d, σ' = [a, some (.str (lnS n)), b, c, d], ?_, ?_⟩
      · refine ⟨_, rfl, _, rfl, _, rfl, _, rfl, line12 tl, rfl, _, rfl, ?_⟩
        by_cases c : Txt.slice t (some (-1)) none = "i"
        · rw [show decide (V.str (Txt.slice t (some (-1)) none) = V.str "i") = true from decide_eq_true (by rw [c])]
          refine iteT ?_
          have sl := Txt.slice_le t none (some (-1))
          refine ⟨_, rfl, _, rfl, _, rfl, _, rfl, line12 tl, _, _, rfl, rfl, line12 ?_, rfl, some (.int m), some (.ref l), v3, v4, ?_⟩
          · have : ("j" : Str).length = 1 := by decide +kernel
            omega
          · unfold lnS
            rw [← et, if_pos c]
            rfl
        · rw [show decide (V.str (Txt.slice t (some (-1)) none) = V.str "i") = false from decide_eq_false (fun z => c (by injection z))]
          refine iteF ?_
          refine ⟨rfl, some (.int m), some (.ref l), v3, v4, ?_⟩
          unfold lnS
          rw [← et, if_neg c]
      · rintro σ' H4 ⟨rfl, a, b, c, d, rfl⟩
        refine ⟨_, rfl, ?_⟩
        show Q (.str (lnS n)) H4
        rw [ln_eq n0 n1]
        exact q _ sm
end

section
variable {P : Program} {w : World} {K : PySem.W.Frag} {mg : Str → Option Value} {base : Heap} {S C : Addr}
/-! ### _law_part -/
def spPt : Sp := fun vs H Q _ => ∃ t : Int, vs = [.int t] ∧ 0 ≤ t ∧ ∀ (a b : Int) p H', Same H H' → 1 ≤ a → a < b → b ≤ 999 → gz a b = 1 → H' p = some (.tup [.int a, .int b]) → Q (.ref p) H'
theorem scPt : FnScope ["_law_turn", "_law_bottom", "_law_top"] ["_law_turn"] (defScope s_law_part) := ⟨rfl, rfl, rfl, by decide +kernel, rfl, by decide +kernel, by decide +kernel⟩
theorem bots : ∀ i : _root_.Fin 10, 2 ≤ ([2, 3, 4, 5, 8, 10, 16, 999, 997, 60] : List Int).getD i.val 0 ∧ ([2, 3, 4, 5, 8, 10, 16, 999, 997, 60] : List Int).getD i.val 0 ≤ 999 := by decide +kernel
theorem gz_one {b : Int} : gz 1 b = 1 := by unfold gz; simp
theorem gz_pos {a b : Int} (h : 1 ≤ a) : 1 ≤ gz a b := by
  unfold gz
  have := Nat.gcd_pos_of_pos_left b.toNat (show 0 < a.toNat by omega)
  omega
theorem d_part (T : Th K mg "_law_part" s_law_part) (dSh : Def P w K mg base CX0 1 "_law_shares" ["_law_one", "_law_other"] spSh) : Def P w K mg base CX0 2 "_law_part" ["_law_turn"] spPt := by
  refine QL.def_of T (fun _ _ _ _ _ _ us hl => match us, hl with | [_], _ => rfl) scPt (fun vs H Q E h => ?_) (fun f cdv A outer s H vs Q E hr h => ?_)
  · obtain ⟨t, rfl, _⟩ := h
    rfl
  · obtain ⟨t, rfl, t0, q⟩ := h
    refine ⟨_, (qss_cons (qs_set (i := 1) scPt.nd rfl (Or.inl rfl) (qe_ix ix_list (qe_lst (qa_cs (.int (.int (.int (.int (.int (.int (.int (.int (.int (.int .nil)))))))))))) (qe_op op_mod (qv 0) qe_int) (fun _ _ => rfl)))
      (qss_cons (qs_join (qs_if (qt_cmpR op_eq (qe_op op_mod (qe_op op_fdiv (qv 0) qe_int) qe_int) qe_int (nomark _)) (qss_one (qs_set (i := 1) scPt.nd rfl (Or.inl rfl) (qe_op op_add qe_int (qe_op op_mod (qe_op op_fdiv (qv 0) qe_int) qe_int)))) qss_nil))
      (qss_cons (qs_set (i := 2) scPt.nd rfl (Or.inl rfl) (qe_op op_add qe_int (qe_op op_mod (qe_op op_fdiv (qv 0) qe_int) (qe_op op_sub (qv 1) qe_int))))
      (qss_cons (qs_while PassesOwn.never (qt_val (qe_callD dSh (hr.mono (by decide)) rfl pass0 (qa_cons (qv 2) (qa_cons (qv 1) qa_nil)))) (qss_one (qs_set (i := 2) scPt.nd rfl (Or.inl rfl) (qe_op op_sub (qv 2) qe_int))))
      (qss_one (qs_ret (qe_tup (qa_cons (qv 2) (qa_cons (qv 1) qa_nil))))))))), ?_⟩
    refine ⟨(by show 10 ≤ sizeLine; decide), fun l hl => ?_⟩
    have m0 := Int.emod_nonneg t (show (10 : Int) ≠ 0 by decide)
    have m1 := Int.emod_lt_of_pos t (show (0 : Int) < 10 by decide)
    refine ⟨_, rfl, _, _, rfl, rfl, (by show (0 : Int) < 10; decide), l, _, _, _, rfl, rfl, SqL.of upd_same, at_ints (xs := [2, 3, 4, 5, 8, 10, 16, 999, 997, 60]) m0 m1, ?_⟩
    have bb := bots ⟨(t % 10).toNat, by omega⟩
    generalize ([2, 3, 4, 5, 8, 10, 16, 999, 997, 60] : List Int).getD (t % 10).toNat 0 = b0 at bb ⊢
    have s1 : Same H (upd H l (.lst [.int 2, .int 3, .int 4, .int 5, .int 8, .int 10, .int 16, .int 999, .int 997, .int 60])) := sameUpd hl
    generalize upd H l (.lst [.int 2, .int 3, .int 4, .int 5, .int 8, .int 10, .int 16, .int 999, .int 997, .int 60]) = H1 at s1 ⊢
    refine ⟨fun σ' H' => H' = H1 ∧ ∃ b : Int, σ' = [some (.int t), some (.int b), none] ∧ 2 ≤ b ∧ b ≤ 999, ?_, ?_⟩
    · refine ⟨_, rfl, _, _, rfl, rfl, ⟨by decide, by decide⟩, _, _, rfl, rfl, (by show (0 : Int) < 4; decide), rfl, _, rfl, ?_⟩
      refine ite2 (fun z => ?_) (fun z => ?_)
      · refine ⟨_, rfl, _, _, rfl, rfl, ⟨by decide, by decide⟩, _, _, rfl, rfl, (by show (0 : Int) < 998; decide), _, _, rfl, rfl, rfl, _, rfl, ?_, ?_⟩
        · have := Int.emod_nonneg (t / 40) (show (998 : Int) ≠ 0 by decide); omega
        · have := Int.emod_lt_of_pos (t / 40) (show (0 : Int) < 998 by decide); omega
      · exact ⟨rfl, b0, rfl, bb.1, bb.2⟩
    · rintro σ' H' ⟨rfl, b, rfl, b2, b9⟩
      refine ⟨_, rfl, _, _, rfl, rfl, ⟨by decide, by decide⟩, _, rfl, _, _, rfl, rfl, _, _, rfl, rfl, (by show (0 : Int) < b - 1; omega), _, _, rfl, rfl, ?_⟩
      have n0 := Int.emod_nonneg (t / 40000) (show b - 1 ≠ 0 by omega)
      have n1 := Int.emod_lt_of_pos (t / 40000) (show 0 < b - 1 by omega)
      refine while_by (fun σ H2 => H2 = H' ∧ ∃ a : Int, σ = [some (.int t), some (.int b), some (.int a)] ∧ 1 ≤ a ∧ a < b) (fun σ _ => match σ with | [_, _, some (.int a)] => a.toNat | _ => 0) ⟨rfl, _, rfl, by omega, by omega⟩ ?_ ?_
      · rintro σ H2 ⟨rfl, a, rfl, a1, ab⟩
        refine ⟨_, rfl, _, rfl, a, b, rfl, by omega, by omega, _, rfl, ?_⟩
        refine ite2 (fun z => ?_) (fun z => ?_)
        · have z' : 1 < gz a b := of_decide_eq_true z
          have a2 : 2 ≤ a := by
            by_cases e : a = 1
            · rw [e, gz_one] at z'; omega
            · omega
          refine ⟨_, rfl, _, _, rfl, rfl, ⟨rfl, a - 1, rfl, by omega, by omega⟩, ?_⟩
          show (a - 1).toNat < a.toNat
          omega
        · have z' : ¬ 1 < gz a b := fun y => z (decide_eq_true y)
          have := gz_pos (b := b) a1
          refine ⟨_, rfl, _, rfl, (by show 2 ≤ sizeLine; decide), fun p hp => ?_⟩
          exact q a b p _ (s1.trans (sameUpd hp)) a1 ab b9 (by omega) upd_same
      · rintro σ H2 Q1 Q2 kq ⟨v, e, v', e', a, b, q1, q2, q3, c, q4, qq⟩
        exact ⟨v, e, v', e', a, b, q1, q2, q3, c, q4, kq _ _ qq⟩
end
end K5


set_option maxRecDepth 100000
set_option linter.all false
set_option maxHeartbeats 4000000
set_option Elab.async false
namespace M06
open PySem M01 M03
/-! ### the sum of the pieces -/
structure Rel (st : R5) (top bot : Int) : Prop where
  e : top * st.b = st.a * bot
  c : gz (ab st.a) st.b = 1
  b : 1 ≤ st.b
theorem rel_r0 : Rel r0 0 1 := ⟨rfl, by decide +kernel, by decide⟩
theorem add_rel {st : R5} {top bot c d la : Int} (r : Rel st top bot) (hd : 1 ≤ d) : Rel (add st c d la) (top * d + c * bot) (bot * d) := by
  have nz : st.b * d ≠ 0 := fun z => by
    have := r.b
    rcases Int.mul_eq_zero.mp z with z | z <;> omega
  refine ⟨?_, cop nz, (add_b r.b hd).1⟩
  have x := cross (st.a * d + c * st.b) (st.b * d)
  show (top * d + c * bot) * fb (st.a * d + c * st.b) (st.b * d) = ft (st.a * d + c * st.b) (st.b * d) * (bot * d)
  generalize ft (st.a * d + c * st.b) (st.b * d) = A at x ⊢
  generalize fb (st.a * d + c * st.b) (st.b * d) = B at x ⊢
  refine Int.eq_of_mul_eq_mul_right (show st.b ≠ 0 by have := r.b; omega) ?_
  have e := r.e
  have e1 : (top * d + c * bot) * B * st.b = (top * st.b) * (d * B) + c * bot * st.b * B := by
    simp only [Int.add_mul, Int.mul_add, Int.mul_assoc, Int.mul_comm, Int.mul_left_comm]
  have e2 : A * (bot * d) * st.b = (A * (st.b * d)) * bot := by simp only [Int.mul_assoc, Int.mul_comm, Int.mul_left_comm]
  rw [e1, e, e2, x]
  simp only [Int.add_mul, Int.mul_add, Int.mul_assoc, Int.mul_comm, Int.mul_left_comm]
theorem rel_half {st : R5} {top bot c d g : Int} (r : Rel st (top * d + c * bot) (bot * d)) (hd : 1 ≤ d) (h : c * 2 = g * d) : Rel st (top * 2 + g * bot) (bot * 2) := by
  refine ⟨?_, r.c, r.b⟩
  refine Int.eq_of_mul_eq_mul_right (show d ≠ 0 by omega) ?_
  have e := r.e
  have e1 : (top * 2 + g * bot) * st.b * d = ((top * d) * 2 + (g * d) * bot) * st.b := by simp only [Int.add_mul, Int.mul_add, Int.mul_assoc, Int.mul_comm, Int.mul_left_comm]
  have e2 : st.a * (bot * 2) * d = (st.a * (bot * d)) * 2 := by simp only [Int.mul_assoc, Int.mul_comm, Int.mul_left_comm]
  rw [e1, e2, ← e, ← h]
  simp only [Int.add_mul, Int.mul_add, Int.mul_assoc, Int.mul_comm, Int.mul_left_comm]
theorem canon {st : R5} {top bot : Int} (r : Rel st top bot) (hb : 1 ≤ bot) : ft top bot = st.a ∧ fb top bot = st.b := by
  have x := cross top bot
  have p := fb_pos (t := top) (b := bot) (by omega)
  have cp := cop (t := top) (b := bot) (by omega)
  have e := r.e
  have c := r.c
  have b1 := r.b
  generalize ft top bot = A at x cp ⊢
  generalize fb top bot = B at x cp p ⊢
  have k : A * st.b = st.a * B := by
    refine Int.eq_of_mul_eq_mul_right (show bot ≠ 0 by omega) ?_
    have e1 : A * st.b * bot = (A * bot) * st.b := by simp only [Int.mul_assoc, Int.mul_comm, Int.mul_left_comm]
    have e2 : st.a * B * bot = (st.a * bot) * B := by simp only [Int.mul_assoc, Int.mul_comm, Int.mul_left_comm]
    rw [e1, x, e2, ← e]
    simp only [Int.mul_assoc, Int.mul_comm, Int.mul_left_comm]
  have g1 : Nat.gcd A.natAbs B.natAbs = 1 := by
    have : gz (ab A) B = (Nat.gcd A.natAbs B.natAbs : Nat) := by unfold gz; rw [ab_nat]; congr 2; omega
    rw [this] at cp; exact_mod_cast cp
  have g2 : Nat.gcd st.a.natAbs st.b.natAbs = 1 := by
    have : gz (ab st.a) st.b = (Nat.gcd st.a.natAbs st.b.natAbs : Nat) := by unfold gz; rw [ab_nat]; congr 2; omega
    rw [this] at c; exact_mod_cast c
  have kn : A.natAbs * st.b.natAbs = st.a.natAbs * B.natAbs := by rw [← Int.natAbs_mul, ← Int.natAbs_mul, k]
  have d1 : st.b.natAbs ∣ B.natAbs := by
    refine Nat.Coprime.dvd_of_dvd_mul_left (m := st.a.natAbs) ?_ ⟨A.natAbs, by rw [← kn, Nat.mul_comm]⟩
    show Nat.gcd _ _ = 1
    rw [Nat.gcd_comm]; exact g2
  have d2 : B.natAbs ∣ st.b.natAbs := by
    refine Nat.Coprime.dvd_of_dvd_mul_left (m := A.natAbs) ?_ ⟨st.a.natAbs, by rw [kn, Nat.mul_comm]⟩
    show Nat.gcd _ _ = 1
    rw [Nat.gcd_comm]; exact g1
  have eb : B.natAbs = st.b.natAbs := Nat.dvd_antisymm d2 d1
  have eB : B = st.b := by omega
  refine ⟨?_, eB⟩
  rw [eB] at k
  exact Int.eq_of_mul_eq_mul_right (by omega) k
/-! ### the words -/
def okW (n : Nat) : Bool := (ui (numS ((n : Int) + 1))).isNone && !(numS ((n : Int) + 1)).cps.toList.contains 32 && !(numS ((n : Int) + 1)).cps.toList.contains 47
theorem okW_all : (List.range 399).all okW = true := by decide +kernel
theorem num_word {n : Int} (h0 : 1 ≤ n) (h1 : n ≤ 399) : ui (numS n) = none ∧ 32 ∉ (numS n).cps.toList ∧ 47 ∉ (numS n).cps.toList ∧ M04.kn 399 (numS n) = some n := by
  have a := List.all_eq_true.mp okW_all (n.toNat - 1) (List.mem_range.mpr (by omega))
  unfold okW at a
  rw [show (((n.toNat - 1 : Nat) : Int) + 1) = n by omega] at a
  simp only [Bool.and_eq_true, Bool.not_eq_true', List.contains_eq_mem, decide_eq_false_iff_not, Option.isNone_iff_eq_none] at a
  obtain ⟨f1, _, _⟩ := num_facts h0 h1
  refine ⟨a.1.1, a.1.2, a.2, ?_⟩
  unfold M04.kn
  rw [f1, if_pos ⟨h0, h1, rfl⟩]
theorem fig_word {n : Int} (h0 : 1 ≤ n) (h1 : n ≤ 999) : sm (Str.ofString (toString n)) = some n ∧ 47 ∉ (Str.ofString (toString n)).cps.toList ∧ 32 ∉ (Str.ofString (toString n)).cps.toList ∧ (Str.ofString (toString n)).length ≤ 3 := by
  have a := List.all_eq_true.mp okD_all (n.toNat - 1) (List.mem_range.mpr (by omega))
  unfold okD at a
  rw [show (((n.toNat - 1 : Nat) : Int) + 1) = n by omega] at a
  simp only [Bool.and_eq_true, Bool.not_eq_true', List.contains_eq_mem, decide_eq_false_iff_not, decide_eq_true_eq, beq_iff_eq] at a
  exact ⟨a.1.1.1, a.1.1.2, a.1.2, a.2⟩
def fw (a b : Int) : Str := (Str.ofString (toString a) ++ "/") ++ Str.ofString (toString b)
theorem low_one {a b : Int} (h : gz a b = 1) (ha : 1 ≤ a) (hb : 1 ≤ b) : ft a b = a ∧ fb a b = b := by
  have e : dv a b = 1 := by
    unfold dv
    rw [if_neg (by omega)]
    have e1 : ab a = a := by unfold ab; rw [if_neg (by omega)]
    have e2 : ab b = b := by unfold ab; rw [if_neg (by omega)]
    rw [e1, e2, h]
  unfold ft fb
  rw [e]
  exact ⟨Int.fdiv_one _, Int.fdiv_one _⟩
theorem fw_slash (a b : Int) : 47 ∈ (fw a b).cps.toList := by
  unfold fw
  simp only [Str.cps_append, Array.toList_append, List.mem_append]
  exact .inl (.inr (by decide +kernel))
theorem ui_slash {x : Str} (h : 47 ∈ x.cps.toList) : ui x = none := by
  cases e : ui x with
  | none => rfl
  | some j =>
    obtain ⟨_, hj, _⟩ := ui_some e
    have : ∀ y ∈ unL, 47 ∉ y.cps.toList := by decide +kernel
    exact absurd h (this x (List.mem_of_getElem? hj))
theorem kn_slash {x : Str} (h : 47 ∈ x.cps.toList) : M04.kn 399 x = none := by
  unfold M04.kn
  rw [if_neg]
  rintro ⟨h1, h2, h3⟩
  have := (num_word h1 h2).2.2.1
  rw [h3] at this
  exact this h
theorem fw_wf {a b : Int} (ha : 1 ≤ a) (ab : a < b) (hb : b ≤ 999) (h : gz a b = 1) : wf (fw a b) = some (a, b) ∧ 32 ∉ (fw a b).cps.toList ∧ (fw a b).length ≤ 7 := by
  obtain ⟨a1, a2, a3, a4⟩ := fig_word ha (by omega)
  obtain ⟨b1, b2, b3, b4⟩ := fig_word (n := b) (by omega) hb
  have sp : Txt.split (fw a b) "/" = [Str.ofString (toString a), Str.ofString (toString b)] := by
    have := M05.split_join (c := 47) (by decide) (ws := [Str.ofString (toString a), Str.ofString (toString b)]) (by simp) (fun w hw => by
      simp only [List.mem_cons, List.not_mem_nil, or_false] at hw
      rcases hw with rfl | rfl <;> assumption)
    exact this
  obtain ⟨l1, l2⟩ := low_one h ha (by omega)
  refine ⟨?_, ?_, ?_⟩
  · unfold wf
    rw [sp]
    simp only [a1, b1]
    rw [if_pos ⟨ab, l1, l2⟩]
  · unfold fw
    simp only [Str.cps_append, Array.toList_append, List.mem_append]
    rintro ((z | z) | z)
    · exact a3 z
    · revert z; decide +kernel
    · exact b3 z
  · unfold fw
    rw [Str.length_append, Str.length_append]
    have : ("/" : Str).length = 1 := by decide +kernel
    omega
end M06


set_option maxRecDepth 100000
set_option linter.all false
set_option maxHeartbeats 4000000
set_option Elab.async false
namespace M06
open PySem M01 M03
theorem steps_app : ∀ (ws : List Str) (x : Str) (st : R5), steps (ws ++ [x]) st = (steps ws st).bind fun s => step s x
  | [], x, st => by
    show (step st x).bind (steps []) = step st x
    cases step st x <;> rfl
  | w :: ws, x, st => by
    show (step st w).bind (steps (ws ++ [x])) = ((step st w).bind (steps ws)).bind _
    cases step st w with
    | none => rfl
    | some s => exact steps_app ws x s
def Wd (w : Str) : Prop := 32 ∉ w.cps.toList ∧ w.length ≤ 12
/-- between two units -/
structure AI (k : Nat) (ws : List Str) (top bot : Int) (st : R5) : Prop where
  s : steps ws r0 = some st
  ok : Ok st
  pl : st.pl < k
  la : st.la ≠ 1
  z : ws ≠ [] → st.la = 2 ∨ st.la = 3
  bl : ∀ w ∈ ws, Wd w
  n : ws.length ≤ 3 * k
  rel : Rel st top bot
  b1 : 1 ≤ bot
  b2 : bot ≤ 1000 ^ k
/-- behind a unit and perhaps its numeral -/
structure AJ (k : Nat) (ws : List Str) (top bot : Int) (st : R5) (L : Int) : Prop where
  s : steps ws r0 = some st
  ok : Ok st
  pl : st.pl = k
  la : st.la = L
  l12 : L = 1 ∨ L = 2
  bl : ∀ w ∈ ws, Wd w
  n : (ws.length : Int) ≤ 3 * k + L
  rel : Rel st top bot
  b1 : 1 ≤ bot
  b2 : bot ≤ 1000 ^ k
theorem ai0 : AI 0 [] 0 1 r0 := ⟨rfl, ok_r0, by decide, by decide, fun h => absurd rfl h, fun w hw => absurd hw (by simp), by simp, rel_r0, by decide, by decide⟩
theorem bl_app {ws : List Str} {x : Str} (h : ∀ w ∈ ws, Wd w) (hx : Wd x) : ∀ w ∈ ws ++ [x], Wd w := fun w hw => by
  rcases List.mem_append.mp hw with z | z
  · exact h w z
  · obtain rfl : w = x := by simpa using z
    exact hx
theorem AI.next {k : Nat} {ws : List Str} {top bot : Int} {st : R5} (h : AI k ws top bot st) : AI (k + 1) ws top bot st :=
  ⟨h.s, h.ok, by have := h.pl; omega, h.la, h.z, h.bl, by have := h.n; omega, h.rel, h.b1, Int.le_trans h.b2 (by exact_mod_cast Nat.pow_le_pow_right (show 0 < 1000 by decide) (Nat.le_succ k))⟩
theorem un_word : ∀ k : _root_.Fin 5, ui (unL.getD k.val "") = some k.val ∧ 32 ∉ (unL.getD k.val "").cps.toList ∧ (unL.getD k.val "").length ≤ 12 := by decide +kernel
theorem AI.unit {k : Nat} {ws : List Str} {top bot : Int} {st : R5} (h : AI k ws top bot st) (hk : k < 5) : AJ k (ws ++ [unL.getD k ""]) top bot { st with pl := k, la := 1 } 1 := by
  obtain ⟨u1, u2, u3⟩ := un_word ⟨k, hk⟩
  have nn : ¬ (st.la = 1 ∨ (k : Int) ≤ st.pl) := by
    rintro (z | z)
    · exact h.la z
    · have := h.pl; omega
  refine ⟨?_, ok_unit h.ok hk nn, rfl, rfl, .inl rfl, bl_app h.bl ⟨u2, u3⟩, by have := h.n; simp; omega, ⟨h.rel.e, h.rel.c, h.rel.b⟩, h.b1, h.b2⟩
  rw [steps_app, h.s]
  show step st _ = _
  unfold step
  rw [u1]
  show sUnit st k = _
  unfold sUnit
  rw [if_neg nn]
theorem AJ.num {k : Nat} {ws : List Str} {top bot : Int} {st : R5} {n : Int} (h : AJ k ws top bot st 1) (h0 : 1 ≤ n) (h1 : n ≤ 399) : AJ k (ws ++ [numS n]) (top + n * gr k * bot) bot (add st (n * gr k) 1 2) 2 := by
  obtain ⟨u1, u2, u3, u4⟩ := num_word h0 h1
  obtain ⟨_, f2, _⟩ := num_facts h0 h1
  have r := add_rel (c := n * gr k) (d := 1) (la := 2) h.rel (by decide)
  rw [Int.mul_one, Int.mul_one] at r
  refine ⟨?_, ok_num h.ok h.la, h.pl, rfl, .inr rfl, bl_app h.bl ⟨u2, f2⟩, by have := h.n; simp; omega, r, h.b1, h.b2⟩
  rw [steps_app, h.s]
  show step st _ = _
  unfold step
  rw [u1]
  show (if st.la = 1 then _ else _) = _
  rw [if_pos h.la]
  unfold sNum
  rw [u4, h.pl]
  rfl
theorem AJ.done {k : Nat} {ws : List Str} {top bot : Int} {st : R5} (h : AJ k ws top bot st 2) : AI (k + 1) ws top bot st := by
  have e := h.la
  refine ⟨h.s, h.ok, by rw [h.pl]; omega, by omega, fun _ => .inl e, h.bl, by have := h.n; omega, h.rel, h.b1, Int.le_trans h.b2 (by exact_mod_cast Nat.pow_le_pow_right (show 0 < 1000 by decide) (Nat.le_succ k))⟩
theorem AJ.step_part {k : Nat} {ws : List Str} {top bot : Int} {st : R5} {la c d : Int} {x : Str} (h : AJ k ws top bot st la) (hu : ui x = none) (hk : M04.kn 399 x = none) (hp : part x k = some (c, d)) : steps (ws ++ [x]) r0 = some (add st c d 3) := by
  rw [steps_app, h.s]
  show step st _ = _
  unfold step
  rw [hu]
  show (if st.la = 1 then _ else _) = _
  have sp : sPart st x = some (add st c d 3) := by
    unfold sPart
    rw [h.pl, hp]
    rfl
  have sn : sNum st x = none := by
    unfold sNum
    rw [hk]
    rfl
  rw [h.la]
  rcases h.l12 with rfl | rfl
  · rw [if_pos rfl, sn]
    exact sp
  · rw [if_neg (by decide), if_pos rfl]
    exact sp
theorem AJ.fin {k : Nat} {ws : List Str} {top bot t' b' : Int} {st : R5} {la c d : Int} {x : Str} (h : AJ k ws top bot st la) (hs : steps (ws ++ [x]) r0 = some (add st c d 3)) (d1 : 1 ≤ d) (d2 : d ≤ 999) (hx : Wd x) (r : Rel (add st c d 3) t' b') (b1 : 1 ≤ b') (b2 : b' ≤ bot * 999) : AI (k + 1) (ws ++ [x]) t' b' (add st c d 3) := by
  refine ⟨hs, ok_part h.ok (by rw [h.la]; exact h.l12) d1 d2, by show st.pl < _; rw [h.pl]; omega, by show (3 : Int) ≠ 1; decide, fun _ => .inr rfl, bl_app h.bl hx, by have := h.n; have := h.l12; simp; omega, r, b1, ?_⟩
  refine Int.le_trans b2 ?_
  have := h.b2
  have e : ((1000 : Int) ^ (k + 1)) = 1000 ^ k * 1000 := Int.pow_succ ..
  rw [e]
  exact Int.mul_le_mul this (by decide) (by decide) (by exact_mod_cast Nat.zero_le _)
theorem ss_none : ui "ss" = none ∧ M04.kn 399 "ss" = none ∧ Wd "ss" := by
  refine ⟨by decide +kernel, ?_, by unfold Wd; decide +kernel⟩
  unfold M04.kn
  have h : ¬ 1 ≤ worS "ss" := by decide +kernel
  rw [if_neg (fun z => h z.1)]
theorem AJ.half {k : Nat} {ws : List Str} {top bot : Int} {st : R5} {la : Int} (h : AJ k ws top bot st la) : ∃ st', AI (k + 1) (ws ++ [("ss" : Str)]) (top * 2 + gr k * bot) (bot * 2) st' := by
  have hp : part "ss" k = some (ft (gr k) 2, fb (gr k) 2) := by unfold part; rw [if_pos rfl]
  obtain ⟨s1, s2, s3⟩ := ss_none
  have pp := part_pos hp
  have r := add_rel (c := ft (gr k) 2) (d := fb (gr k) 2) (la := 3) h.rel pp.1
  have r2 := rel_half (g := gr k) r pp.1 (cross (gr k) 2)
  have b1 := h.b1
  exact ⟨_, h.fin (h.step_part s1 s2 hp) pp.1 pp.2 s3 r2 (by omega) (by omega)⟩
theorem AJ.frac {ws : List Str} {top bot : Int} {st : R5} {la a b : Int} (h : AJ 4 ws top bot st la) (ha : 1 ≤ a) (ab : a < b) (hb : b ≤ 999) (hg : gz a b = 1) : ∃ st', AI (4 + 1) (ws ++ [fw a b]) (top * b + a * bot) (bot * b) st' := by
  obtain ⟨f1, f2, f3⟩ := fw_wf ha ab hb hg
  have sl := fw_slash a b
  have ns : fw a b ≠ "ss" := fun z => by rw [z] at sl; revert sl; decide +kernel
  have hp : part (fw a b) (4 : Nat) = some (a, b) := by unfold part; rw [if_neg ns, if_pos (by decide), f1]
  have r := add_rel (c := a) (d := b) (la := 3) h.rel (by omega)
  have b1 := h.b1
  refine ⟨_, h.fin (h.step_part (ui_slash sl) (kn_slash sl) hp) (by omega) hb ⟨f2, by omega⟩ r ?_ ?_⟩
  · have := Int.mul_le_mul b1 (show 1 ≤ b by omega) (by decide) (by omega)
    omega
  · exact Int.mul_le_mul_of_nonneg_left hb (by omega)
/-- the whole -/
theorem AI.read {k : Nat} {ws : List Str} {top bot : Int} {st : R5} (h : AI k ws top bot st) (ne : ws ≠ []) : rd (Txt.join " " ws) = some (ft top bot, fb top bot) := by
  obtain ⟨c1, c2⟩ := canon h.rel h.b1
  unfold rd
  have sj : Txt.split (Txt.join " " ws) " " = ws := M05.split_join (c := 32) (by decide) ne (fun w hw => (h.bl w hw).1)
  rw [sj, h.s, c1, c2]
  exact if_pos (h.z ne)
end M06


set_option maxRecDepth 100000
set_option linter.all false
set_option maxHeartbeats 800000
set_option Elab.async false
namespace K5
open PySem L2 L3 X8 M01 L6 L5 QL
open M03 L8 L9 L10 L13 L11 L14
section
variable {P : Program} {w : World} {K : PySem.W.Frag} {mg : Str → Option Value} {base : Heap} {S C : Addr}
/-! ### _law_amount -/
def spAm : Sp := fun vs H Q _ => ∃ c : Int, vs = [.int c] ∧ ∀ (x : Str) (a b : Int) p r H', Same H H' → x.length ≤ 1000 → M06.rd x = some (a, b) → H' p = some (.tup [.str x, .ref r]) → H' r = some (.tup [.int a, .int b]) → Q (.ref p) H'
theorem scAm : FnScope ["_law_cell_here", "_law_turns", "_law_words", "_law_top", "_law_bottom", "_law_k", "_law_turn", "_law_size", "_law_way", "_law_number", "_law_one", "_law_other"] ["_law_cell_here"] (defScope s_law_amount) := ⟨rfl, rfl, rfl, by decide +kernel, rfl, by decide +kernel, by decide +kernel⟩
theorem getD_nn {xs : List Int} (h : ∀ x ∈ xs, 0 ≤ x ∧ x < 2147483563) (j : Nat) : 0 ≤ xs.getD j 0 ∧ xs.getD j 0 < 2147483563 := by
  rw [List.getD_eq_getElem?_getD]
  cases e : xs[j]? with
  | none => exact ⟨by decide, by decide⟩
  | some x => exact h x (List.mem_of_getElem? e)
theorem two_of {j : Int} (h0 : 0 ≤ j) (h1 : j < 2) : 19 ≤ ([399, 19] : List Int).getD j.toNat 0 ∧ ([399, 19] : List Int).getD j.toNat 0 ≤ 399 := by
  have : j = 0 ∨ j = 1 := by omega
  rcases this with rfl | rfl <;> decide
theorem log_small {a : Int} (h : a.natAbs < 1024) : a.natAbs.log2 < 1920 := by
  by_cases e : a.natAbs = 0
  · rw [e]; decide
  · rw [Nat.log2_lt e]
    exact Nat.lt_of_lt_of_le h (Nat.pow_le_pow_right (n := 2) (by decide) (show 10 ≤ 1920 by decide))
theorem _root_.M06.AJ.ne {k : Nat} {ws : List Str} {top bot : Int} {st : M06.R5} {L : Int} (h : M06.AJ k ws top bot st L) : ws ≠ [] := fun z => by
  have := h.s
  rw [z] at this
  have e : M06.r0 = st := Option.some.inj this
  have l := h.la
  rw [← e] at l
  have l' : (0 : Int) = L := l
  rcases h.l12 with y | y <;> omega
theorem d_amount (T : Th K mg "_law_amount" s_law_amount) (dWheel : Def P w K mg base CX0 1 "_law_wheel" ["_law_cell_here", "_law_many"] spW) (dLn : Def P w K mg base CX0 1 "_law_numeral" ["_law_number"] spLn) (dPt : Def P w K mg base CX0 2 "_law_part" ["_law_turn"] spPt)
    (dLow : Def P w K mg base CX0 1 "_law_lowest" ["_law_top", "_law_bottom"] spLow) (zrange : mg "range" = none) (zstr : mg "str" = none) : Def P w K mg base CX0 3 "_law_amount" ["_law_cell_here"] spAm := by
  refine QL.def_of T (fun _ _ _ _ _ _ us hl => match us, hl with | [_], _ => rfl) scAm (fun vs H Q E h => ?_) (fun f cdv A outer s H vs Q E hr h => ?_)
  · obtain ⟨c, rfl, _⟩ := h
    rfl
  · obtain ⟨c, rfl, q⟩ := h
    refine ⟨_, (qss_cons (qs_set (i := 1) scAm.nd rfl (Or.inl rfl) (qe_callD dWheel (hr.mono (by decide)) rfl pass0 (qa_cons (qv 0) (qa_cons qe_int qa_nil))))
      (qss_cons (qs_set (i := 2) scAm.nd rfl (Or.inl rfl) (qe_lst qa_nil))
      (qss_cons (qs_set (i := 3) scAm.nd rfl (Or.inl rfl) qe_int)
      (qss_cons (qs_set (i := 4) scAm.nd rfl (Or.inl rfl) qe_int)
      (qss_cons (qs_for PassesOwn.never rfl (qi_range1 rfl zrange (qa_cons qe_int qa_nil)) (qg_name (i := 5) scAm.nd rfl (Or.inl rfl))
        (qss_cons (qs_set (i := 6) scAm.nd rfl (Or.inl rfl) (qe_ix ix_list (qv 1) (qe_op op_add qe_int (qe_op op_mul qe_int (qv 5))) (fun _ _ => rfl)))
      (qss_cons (qs_join (qs_if (QW.pt (qw_and (qt_cmpR op_eq (qe_op op_mod (qe_op op_fdiv (qe_ix ix_list (qv 1) qe_int (fun _ _ => rfl)) (qe_op op_shl qe_int (qv 5))) qe_int) qe_int (nomark _)) (qw_and1 (qt_cmpR op_ne (qv 5) (qe_op op_mod (qe_ix ix_list (qv 1) qe_int (fun _ _ => rfl)) qe_int) (nomark _))))) (qss_one qs_continue) qss_nil))
      (qss_cons (qs_expr (qe_bm PySem.F.plainAttrs_list PySem.F.slot_list_append PySem.F.type_list_append mt_append (qv 2) (qa_cons (qe_ix ix_list (qe_lst (qa_cs (.str (.str (.str (.str (.str .nil))))))) (qv 5) (fun _ _ => rfl)) qa_nil)))
      (qss_cons (qs_set (i := 7) scAm.nd rfl (Or.inl rfl) (qe_ix ix_list (qe_lst (qa_cs (.int (.int (.int (.int (.int .nil))))))) (qv 5) (fun _ _ => rfl)))
      (qss_cons (qs_set (i := 8) scAm.nd rfl (Or.inl rfl) (qe_op op_mod (qv 6) qe_int))
      (qss_cons (qs_set (i := 9) scAm.nd rfl (Or.inl rfl) (qe_op op_add qe_int (qe_op op_mod (qe_op op_fdiv (qv 6) qe_int) (qe_ix ix_list (qe_lst (qa_cons qe_int (qa_cons qe_int qa_nil))) (qe_op op_mod (qe_op op_fdiv (qv 6) qe_int) qe_int) (fun _ _ => rfl)))))
      (qss_cons (qs_join (qs_if (qt_cmpR op_lt (qv 8) qe_int (nomark _)) (qss_cons (qs_expr (qe_bm PySem.F.plainAttrs_list PySem.F.slot_list_append PySem.F.type_list_append mt_append (qv 2) (qa_cons (qe_callD dLn (hr.mono (by decide)) rfl pass0 (qa_cons (qv 9) qa_nil)) qa_nil)))
      (qss_one (qs_set (i := 3) scAm.nd rfl (Or.inl rfl) (qe_op op_add (qv 3) (qe_op op_mul (qe_op op_mul (qv 9) (qv 7)) (qv 4)))))) qss_nil))
      (qss_one (qs_if (QW.pt (qw_and (qt_cmpR op_gt (qv 8) qe_int (nomark _)) (qw_and (qt_cmpR op_eq (qv 5) qe_int (nomark _)) (qw_and1 (qt_cmpR op_gt (qe_op op_mod (qe_op op_fdiv (qv 6) qe_int) qe_int) qe_int (nomark _)))))) (qss_cons (qs_asg (qe_callD dPt (hr.mono (by decide)) rfl pass0 (qa_cons (qe_ix ix_list (qv 1) (qe_op op_add qe_int (qe_op op_mul qe_int (qv 5))) (fun _ _ => rfl)) qa_nil)) (qg_tup rfl (qgs_cons (qg_name (i := 10) scAm.nd rfl (Or.inl rfl)) (qgs_cons (qg_name (i := 11) scAm.nd rfl (Or.inl rfl)) qgs_nil))))
      (qss_cons (qs_expr (qe_bm PySem.F.plainAttrs_list PySem.F.slot_list_append PySem.F.type_list_append mt_append (qv 2) (qa_cons (qe_op op_add_str (qe_op op_add_str (qe_callTy call_str_int (by rfl) zstr PyProof.Rows.boot_str (qa_cons (qv 10) qa_nil)) qe_str) (qe_callTy call_str_int (by rfl) zstr PyProof.Rows.boot_str (qa_cons (qv 11) qa_nil))) qa_nil)))
      (qss_cons (qs_set (i := 3) scAm.nd rfl (Or.inl rfl) (qe_op op_add (qe_op op_mul (qv 3) (qv 11)) (qe_op op_mul (qv 10) (qv 4))))
      (qss_one (qs_set (i := 4) scAm.nd rfl (Or.inl rfl) (qe_op op_mul (qv 4) (qv 11))))))) (qss_one (qs_if (qt_cmpR op_gt (qv 8) qe_int (nomark _)) (qss_cons (qs_expr (qe_bm PySem.F.plainAttrs_list PySem.F.slot_list_append PySem.F.type_list_append mt_append (qv 2) (qa_cons qe_str qa_nil)))
      (qss_cons (qs_set (i := 3) scAm.nd rfl (Or.inl rfl) (qe_op op_add (qe_op op_mul (qv 3) qe_int) (qe_op op_mul (qv 7) (qv 4))))
      (qss_one (qs_set (i := 4) scAm.nd rfl (Or.inl rfl) (qe_op op_mul (qv 4) qe_int))))) qss_nil))))))))))))
      (qss_one (qs_ret (qe_tup (qa_cons (qe_bm PySem.F.plainAttrs_str PySem.F.slot_str_join PySem.F.type_str_join mt_join qe_str (qa_cons (qv 2) qa_nil)) (qa_cons (qe_callD dLow (hr.mono (by decide)) rfl pass0 (qa_cons (qv 3) (qa_cons (qv 4) qa_nil))) qa_nil)))))))))), ?_⟩
    refine ⟨_, rfl, c, 12, rfl, by decide, by decide, fun p xs H1 hp0 hp1 hlen hv s1 => ?_⟩
    refine ⟨(by show 0 ≤ sizeLine; decide), fun l hl => ?_⟩
    have s2 : Same H1 (upd H1 l (.lst [])) := sameUpd hl
    have hp2 := s2 _ _ hp1
    have hl2 : (upd H1 l (.lst [])) l = some (.lst (([] : List Str).map V.str)) := upd_same
    have s02 := s1.trans s2
    have hl0 : H l = none := s1.free hl
    have npl : p ≠ l := ne_of_none hp1 hl
    generalize upd H1 l (.lst []) = H2 at s2 hp2 hl2 s02 ⊢
    refine ⟨5, rfl, by decide, by decide, for_range (n := 5) (fun i σ H3 => ∃ (ws : List Str) (top bot : Int) (st : M06.R5) (v5 v6 v7 v8 v9 v10 v11 : Option V), σ = [some (.int c), some (.ref p), some (.ref l), some (.int top), some (.int bot), v5, v6, v7, v8, v9, v10, v11] ∧
      M06.AI i ws top bot st ∧ (xs.getD 11 0 % 5 < i → ws ≠ []) ∧ Same H H3 ∧ H3 p = some (.lst (xs.map V.int)) ∧ H3 l = some (.lst (ws.map V.str))) ?_ ?_ ?_⟩
    · exact ⟨[], 0, 1, M06.r0, none, none, none, none, none, none, none, rfl, M06.ai0, fun z => absurd z (by have := Int.emod_nonneg (xs.getD 11 0) (show (5 : Int) ≠ 0 by decide); omega), s02, hp2, hl2⟩
    · rintro i σ H3 hi ⟨ws, top, bot, st, v5, v6, v7, v8, v9, v10, v11, rfl, ai, wne, s3, hp3, hl3⟩
      have xl : xs.length = 12 := hlen
      have e0 : (0 : Int) + (i : Nat) = (i : Int) := by omega
      rw [e0]
      -- turn
      refine ⟨_, rfl, _, rfl, _, _, rfl, rfl, .inl ⟨by decide, by decide⟩, _, _, rfl, rfl, p, _, _, _, rfl, rfl, SqL.of hp3, at_ints (by omega) (by rw [xl]; omega), ?_⟩
      obtain ⟨t0, t1⟩ := getD_nn hv (1 + 2 * (i : Int)).toNat
      generalize xs.getD (1 + 2 * (i : Int)).toNat 0 = t at t0 t1 ⊢
      -- skip
      refine ⟨fun σ' H' => H' = H3 ∧ σ' = [some (.int c), some (.ref p), some (.ref l), some (.int top), some (.int bot), some (.int i), some (.int t), v7, v8, v9, v10, v11], ?_, ?_⟩
      · have p2 : (0 : Int) < 1 * 2 ^ (i : Int).toNat ∧ (1 : Int) * 2 ^ (i : Int).toNat < 1073741824 := by
          have : i = 0 ∨ i = 1 ∨ i = 2 ∨ i = 3 ∨ i = 4 := by omega
          rcases this with rfl | rfl | rfl | rfl | rfl <;> decide
        refine ⟨_, rfl, p, _, _, _, rfl, rfl, SqL.of hp3, at_ints (xs := xs) (i := 0) (by decide) (by rw [xl]; decide), _, rfl, _, _, rfl, rfl, ⟨by omega, by omega, by decide⟩, _, _, rfl, rfl, p2, _, _, rfl, rfl, (by show (0 : Int) < 2; decide), rfl, _, rfl, ?_⟩
        refine ite2 (fun z => ?_) (fun z => ⟨rfl, rfl⟩)
        refine ⟨_, rfl, _, rfl, p, _, _, _, rfl, rfl, SqL.of hp3, at_ints (xs := xs) (i := 11) (by decide) (by rw [xl]; decide), _, _, rfl, rfl, (by show (0 : Int) < 5; decide), rfl, _, rfl, ?_⟩
        by_cases hk : (i : Int) = xs.getD 11 0 % 5
        · rw [show (!decide (V.int (i : Int) = V.int (xs.getD (11 : Int).toNat 0 % 5))) = false from by rw [decide_eq_true (by rw [hk]; rfl)]; rfl]
          exact iteF ⟨rfl, rfl⟩
        · rw [show (!decide (V.int (i : Int) = V.int (xs.getD (11 : Int).toNat 0 % 5))) = true from by rw [decide_eq_false (fun y => hk (by injection y))]; rfl]
          refine iteT ?_
          exact ⟨ws, top, bot, st, _, _, _, _, _, _, _, rfl, ai.next, fun y => wne (by omega), s3, hp3, hl3⟩
      · rintro σ' H' ⟨rfl, rfl⟩
        have i5 : i < 5 := hi
        -- the unit
        refine ⟨_, rfl, .inl ⟨rfl, _, SqL.of hl3⟩, (by show 5 ≤ sizeLine; decide), fun l4 hl4 => ?_⟩
        have s4 := sameUpd (o := .lst [.str "lb", .str "oz", .str "dr", .str "sc", .str "gr"]) hl4
        refine ⟨_, rfl, l4, _, _, _, rfl, rfl, SqL.of upd_same, at_strs (xs := M06.unL) (i := (i : Int)) (by omega) (by show (i : Int) < 5; omega), l, _, _, rfl, rfl, s4 _ _ hl3, ?_, ?_⟩
        · rw [List.length_map, sizeLine_eq]; have := ai.n; omega
        have aj := ai.unit i5
        rw [show ((i : Int)).toNat = i by omega]
        generalize hst1 : ({ st with pl := (i : Int), la := 1 } : M06.R5) = st1 at aj
        generalize M06.unL.getD i "" = u at aj ⊢
        have keep : ∀ {G : Hp} {o : HO}, Same H G → Same H (upd G l o) := fun sg b o e => by rw [upd_ne (ne_of_none e hl0)]; exact sg b o e
        have s5 : Same H (upd (upd H' l4 (.lst [.str "lb", .str "oz", .str "dr", .str "sc", .str "gr"])) l (.lst (ws.map V.str ++ [.str u]))) := keep (s3.trans s4)
        have hp5 : (upd (upd H' l4 (.lst [.str "lb", .str "oz", .str "dr", .str "sc", .str "gr"])) l (.lst (ws.map V.str ++ [.str u]))) p = some (.lst (xs.map V.int)) := by rw [upd_ne npl]; exact s4 _ _ hp3
        have hl5 : (upd (upd H' l4 (.lst [.str "lb", .str "oz", .str "dr", .str "sc", .str "gr"])) l (.lst (ws.map V.str ++ [.str u]))) l = some (.lst ((ws ++ [u]).map V.str)) := by rw [upd_same, List.map_append]; rfl
        generalize upd (upd H' l4 (.lst [.str "lb", .str "oz", .str "dr", .str "sc", .str "gr"])) l (.lst (ws.map V.str ++ [.str u])) = H5 at s5 hp5 hl5 ⊢
        generalize ws ++ [u] = ws5 at aj hl5
        -- size, way
        refine ⟨(by show 5 ≤ sizeLine; decide), fun l6 hl6 => ?_⟩
        have s6 := sameUpd (o := .lst [.int 5760, .int 480, .int 60, .int 20, .int 1]) hl6
        refine ⟨_, rfl, l6, _, _, _, rfl, rfl, SqL.of upd_same, at_ints (xs := M06.grL) (i := (i : Int)) (by omega) (by show (i : Int) < 5; omega), ?_⟩
        have s06 := s5.trans s6
        have hp6 := s6 _ _ hp5
        have hl6' := s6 _ _ hl5
        generalize upd H5 l6 (.lst [.int 5760, .int 480, .int 60, .int 20, .int 1]) = H6 at s06 hp6 hl6' ⊢
        refine ⟨_, rfl, _, _, rfl, rfl, (by show (0 : Int) < 4; decide), ?_⟩
        -- number
        refine ⟨_, rfl, _, _, rfl, rfl, ⟨by decide, by decide⟩, (by show 2 ≤ sizeLine; decide), fun l7 hl7 => ?_⟩
        have s7 := sameUpd (o := .lst [.int 399, .int 19]) hl7
        have m0 := Int.emod_nonneg (t / 2000) (show (2 : Int) ≠ 0 by decide)
        have m1 := Int.emod_lt_of_pos (t / 2000) (show (0 : Int) < 2 by decide)
        have tw := two_of m0 m1
        refine ⟨_, rfl, _, _, rfl, rfl, ⟨by decide, by decide⟩, _, _, rfl, rfl, (by show (0 : Int) < 2; decide), l7, _, _, _, rfl, rfl, SqL.of upd_same, at_ints (xs := [399, 19]) m0 m1, _, _, rfl, rfl, ?_, _, _, rfl, rfl, ?_⟩
        · show (0 : Int) < ([399, 19] : List Int).getD (t / 2000 % 2).toNat 0
          omega
        generalize ([399, 19] : List Int).getD (t / 2000 % 2).toNat 0 = nb at tw ⊢
        have k0 := Int.emod_nonneg (t / 4) (show nb ≠ 0 by omega)
        have k1 := Int.emod_lt_of_pos (t / 4) (show 0 < nb by omega)
        have n0 : 1 ≤ 1 + t / 4 % nb := by omega
        have n1 : 1 + t / 4 % nb ≤ 399 := by omega
        obtain ⟨n, en⟩ : ∃ n, n = 1 + t / 4 % nb := ⟨_, rfl⟩
        rw [← en] at n0 n1
        have s07 := s06.trans s7
        have hp7 := s7 _ _ hp6
        have hl7' := s7 _ _ hl6'
        generalize upd H6 l7 (.lst [.int 399, .int 19]) = H7 at s07 hp7 hl7' ⊢
        have w0 := Int.emod_nonneg t (show (4 : Int) ≠ 0 by decide)
        have w1 := Int.emod_lt_of_pos t (show (0 : Int) < 4 by decide)
        have gr1 : 1 ≤ M06.gr (i : Int) ∧ M06.gr (i : Int) ≤ 5760 := by
          have : i = 0 ∨ i = 1 ∨ i = 2 ∨ i = 3 ∨ i = 4 := by omega
          rcases this with rfl | rfl | rfl | rfl | rfl <;> decide
        have gn : n * M06.gr (i : Int) ≤ 399 * 5760 := Int.mul_le_mul n1 gr1.2 (by omega) (by decide)
        have gn0 : 0 ≤ n * M06.gr (i : Int) := Int.mul_nonneg (by omega) (by omega)
        refine ⟨fun σ' H' => ∃ (ws' : List Str) (top' : Int) (st' : M06.R5) (L : Int), σ' = [some (.int c), some (.ref p), some (.ref l), some (.int top'), some (.int bot), some (.int i), some (.int t), some (.int (M06.gr (i : Int))), some (.int (t % 4)), some (.int n), v10, v11] ∧
          M06.AJ i ws' top' bot st' L ∧ (1 < t % 4 ∨ L = 2) ∧ Same H H' ∧ H' p = some (.lst (xs.map V.int)) ∧ H' l = some (.lst (ws'.map V.str)), ?_, ?_⟩
        · refine ⟨_, rfl, _, _, rfl, rfl, _, rfl, ?_⟩
          refine ite2 (fun z => ?_) (fun z => ?_)
          · refine ⟨_, rfl, .inl ⟨rfl, _, SqL.of hl7'⟩, _, rfl, n, by rw [en]; rfl, n0, n1, fun H8 s8 => ?_⟩
            refine ⟨l, _, _, rfl, rfl, s8 _ _ hl7', ?_, ?_⟩
            · rw [List.length_map, sizeLine_eq]; have := aj.n; omega
            refine ⟨_, rfl, _, rfl, _, rfl, _, _, rfl, rfl, .inl ⟨by show -(2 ^ 64 : Int) < 1 + t / 4 % nb; rw [← en]; omega, by show 1 + t / 4 % nb < (2 ^ 64 : Int); rw [← en]; omega⟩, ?_⟩
            refine ⟨_, rfl, _, _, rfl, rfl, .inl ⟨by show -(2 ^ 64 : Int) < (1 + t / 4 % nb) * M06.gr (i : Int); rw [← en]; omega, by show (1 + t / 4 % nb) * M06.gr (i : Int) < (2 ^ 64 : Int); rw [← en]; omega⟩, _, _, rfl, rfl, ?_⟩
            refine ⟨ws5 ++ [numS n], top + n * M06.gr (i : Int) * bot, _, 2, by rw [en]; rfl, aj.num n0 n1, .inr rfl, keep (s07.trans s8), ?_, ?_⟩
            · rw [upd_ne npl]; exact s8 _ _ hp7
            · rw [upd_same, List.map_append]; rfl
          · have z' : ¬ t % 4 < 3 := fun y => z (decide_eq_true y)
            exact ⟨ws5, top, st1, 1, by rw [en]; rfl, aj, .inl (by omega), s07, hp7, hl7'⟩
        · rintro σ' H8 ⟨ws8, top8, st8, L, rfl, aj8, c8, s8, hp8, hl8⟩
          have bb1 := aj8.b1
          have bb2 := aj8.b2
          have w8 : ws8.length ≤ 20 := by have := aj8.n; have := aj8.l12; omega
          dsimp only
          refine if_by (p := 1 < t % 4 ∧ (i : Int) = 4 ∧ 0 < t / 8000 % 3) (fun Q' k => ?_) (fun H9 s9 hp => ?_) (fun H9 s9 hp => ?_)
          · refine ⟨_, rfl, _, _, rfl, rfl, _, rfl, ?_⟩
            refine ite2 (fun z => ?_) (fun z => k _ _ (Same.refl _) ⟨fun y => (by cases y), fun y => absurd (decide_eq_true y.1) z⟩)
            refine ⟨_, rfl, rfl, _, rfl, ?_⟩
            refine ite2 (fun z2 => ?_) (fun z2 => k _ _ (Same.refl _) ⟨fun y => (by cases y), fun y => absurd (decide_eq_true (by rw [y.2.1])) z2⟩)
            refine ⟨_, rfl, _, _, rfl, rfl, ⟨by decide, by decide⟩, _, _, rfl, rfl, (by show (0 : Int) < 3; decide), _, _, rfl, rfl, _, rfl, ?_⟩
            refine k _ _ (Same.refl _) ⟨fun y => ⟨of_decide_eq_true z, by have := of_decide_eq_true z2; injection this, of_decide_eq_true y⟩, fun y => decide_eq_true y.2.2⟩
          · obtain ⟨h1, h4, h3⟩ := hp
            have i4 : i = 4 := by omega
            subst i4
            obtain ⟨u0, u1⟩ := getD_nn hv (2 + 2 * ((4 : Nat) : Int)).toNat
            refine ⟨_, rfl, _, rfl, _, _, rfl, rfl, .inl ⟨by decide, by decide⟩, _, _, rfl, rfl, p, _, _, _, rfl, rfl, SqL.of (s9 _ _ hp8), at_ints (by decide) (by rw [xl]; decide), _, rfl, u0, ?_⟩
            intro a b pr H10 s10 a1 ab b9 gab hpr
            have hp10 := s10 _ _ (s9 _ _ hp8)
            have hl10 := s10 _ _ (s9 _ _ hl8)
            have s010 := (s8.trans s9).trans s10
            obtain ⟨st', ai'⟩ := aj8.frac a1 ab b9 gab
            refine ⟨pr, _, rfl, SqT.of hpr, rfl, _, _, rfl, _, _, rfl, rfl, ?_⟩
            have fa := M06.fig_word a1 (show a ≤ 999 by omega)
            have fb' := M06.fig_word (n := b) (by omega) b9
            have sl1 : ("/" : Str).length = 1 := by decide +kernel
            refine ⟨_, rfl, .inl ⟨rfl, _, SqL.of hl10⟩, _, rfl, a, rfl, log_small (by omega), _, _, rfl, rfl, line12 (by omega), _, rfl, b, rfl, log_small (by omega), _, _, rfl, rfl, line12 (by rw [str_app_len]; omega), l, _, _, rfl, rfl, hl10, ?_, ?_⟩
            · rw [List.length_map, sizeLine_eq]; omega
            refine ⟨_, rfl, _, rfl, _, _, rfl, rfl, .inr ⟨by omega, by omega⟩, _, rfl, _, rfl, _, _, rfl, rfl, .inl ⟨by omega, by omega⟩, _, _, rfl, rfl, ?_⟩
            refine ⟨_, rfl, _, rfl, _, _, rfl, rfl, .inr ⟨by omega, by omega⟩, ?_⟩
            refine ⟨ws8 ++ [M06.fw a b], _, _, st', _, _, _, _, _, _, _, rfl, ai', fun _ => by simp, keep s010, ?_, ?_⟩
            · rw [upd_ne npl]; exact hp10
            · rw [upd_same, List.map_append]; rfl
          · have hp9 := s9 _ _ hp8
            have hl9 := s9 _ _ hl8
            refine ⟨_, rfl, _, _, rfl, rfl, _, rfl, ?_⟩
            refine ite2 (fun z => ?_) (fun z => ?_)
            · obtain ⟨st', ai'⟩ := aj8.half
              refine ⟨_, rfl, .inl ⟨rfl, _, SqL.of hl9⟩, l, _, _, rfl, rfl, hl9, ?_, ?_⟩
              · rw [List.length_map, sizeLine_eq]; omega
              refine ⟨_, rfl, _, _, rfl, rfl, .inr ⟨by decide, by decide⟩, _, rfl, _, rfl, _, _, rfl, rfl, .inl ⟨by omega, by omega⟩, _, _, rfl, rfl, ?_⟩
              refine ⟨_, rfl, _, _, rfl, rfl, .inr ⟨by decide, by decide⟩, ?_⟩
              refine ⟨ws8 ++ [("ss" : Str)], _, _, st', _, _, _, _, _, _, _, rfl, ai', fun _ => by simp, keep (s8.trans s9), ?_, ?_⟩
              · rw [upd_ne npl]; exact hp9
              · rw [upd_same, List.map_append]; rfl
            · have z' : ¬ 1 < t % 4 := fun y => z (decide_eq_true y)
              rcases c8 with y | y
              · exact absurd y z'
              · subst y
                exact ⟨ws8, _, _, st8, _, _, _, _, _, _, _, rfl, aj8.done, fun _ => aj8.ne, s8.trans s9, hp9, hl9⟩
    · rintro σ H3 ⟨ws, top, bot, st, v5, v6, v7, v8, v9, v10, v11, rfl, ai, wne, s3, hp3, hl3⟩
      have ne : ws ≠ [] := wne (by have := Int.emod_lt_of_pos (xs.getD 11 0) (show (0 : Int) < 5 by decide); omega)
      have wl : ws.length ≤ 15 := ai.n
      have sl : (ws.map (·.length)).sum ≤ ws.length * 12 := StrLaws.sumLen_le ws fun y hy => (ai.bl y hy).2
      have b1 := ai.b1
      have b2 := ai.b2
      refine ⟨rfl, _, rfl, " ", l, ws, rfl, rfl, SqL.of hl3, ?_, ?_⟩
      · have : (" " : Str).length = 1 := by decide +kernel
        rw [this]
        omega
      · refine ⟨_, rfl, _, rfl, top, bot, rfl, by omega, Big.of (by omega) (Int.lt_of_le_of_lt b2 (by decide)), fun r hr => ⟨(by show 2 ≤ sizeLine; decide), fun t ht => ?_⟩⟩
        have s4 := sameUpd (o := .tup [.int (ft top bot), .int (fb top bot)]) hr
        refine q (Txt.join " " ws) (ft top bot) (fb top bot) t r _ ((s3.trans s4).trans (sameUpd ht)) ?_ (ai.read ne) upd_same (sameUpd ht _ _ upd_same)
        have := join_len " " ws
        have e : (" " : Str).length = 1 := by decide +kernel
        rw [e] at this
        omega
end
end K5


set_option maxRecDepth 100000
set_option linter.all false
set_option maxHeartbeats 4000000
set_option Elab.async false
namespace L13
open PySem PySem.Spec PyProof.Rows L2 L3 L6 X8 QL M01
theorem cl_mk2 {K : PySem.W.Frag} {h : Heap} {mg : Str → Option Value} {x : Str} {C : Addr} (X : K.In h) (G : h.Ns mainGlobals mg) (a : PySem.W.nsIn K mainGlobals x = some (some (.ref C))) (pg : PySem.W.plainGet K C Str.empty = true) (hd : PySem.W.hasDictIn K C = true) (po : PySem.W.plainOver K C = true)
    (sa : PySem.W.findIn K (.ref C) "__setattr__" = some (some (.builtin "object.__setattr__"))) (mk : PySem.W.makesIn K C = true) (kp : PySem.W.keepIn K (.ref C) = true) : ∃ C, CL K mg x C ∧ PySem.W.nsIn K mainGlobals x = some (some (.ref C)) :=
  ⟨C, ⟨PySem.W.mg_of X G a, ⟨pg, hd, po, sa⟩, mk, kp⟩, a⟩
theorem na_mk {K : PySem.W.Frag} {x f : Str} {C C' : Addr} (aC : PySem.W.nsIn K mainGlobals x = some (some (.ref C))) (a0 : PySem.W.nsIn K mainGlobals x = some (some (.ref C'))) (n : PySem.W.findIn K (.ref C') f = some none) : NoAttr K C f := by
  rw [aC] at a0
  cases a0
  exact n
theorem met_mk {K : PySem.W.Frag} {x m qq : Str} {st : Stmt} {C C' f : Addr} {oc kV dc pm cd ct : Value} {od an : Option Addr} {sl : Array (Option Value)} (aC : PySem.W.nsIn K mainGlobals x = some (some (.ref C))) (a0 : PySem.W.nsIn K mainGlobals x = some (some (.ref C')))
    (ai : PySem.W.findIn K (.ref C') m = some (some (.ref f))) (iI : PySem.W.isFn K (.ref f) = true) (lI : K.lookup f = some ⟨oc, od, .func (Fn m qq st .none kV dc pm an cd ct), sl⟩) (cI : PySem.W.codeIn K cd qq = true) (kI : PySem.W.keepIn K (.ref f) = true) : Met K C m qq st := by
  rw [aC] at a0
  cases a0
  exact ⟨f, _, ⟨ai, iI, kI⟩, fun_mk (st := st) lI cI kI⟩
end L13


set_option maxRecDepth 100000
set_option linter.all false
set_option maxHeartbeats 800000
set_option Elab.async false
namespace K5
open PySem L2 L3 X8 M01 L6 L5 QL
open M03 L8 L9 L10 L13 L11 L14
section
variable {P : Program} {w : World} {K : PySem.W.Frag} {mg : Str → Option Value} {base : Heap} {S C CN : Addr}
def Good (H : Hp) (v : V) : Prop := ∃ (p r : Addr) (x : Str) (a b : Int), v = .ref p ∧ H p = some (.tup [.str x, .ref r]) ∧ H r = some (.tup [.int a, .int b]) ∧ x.length ≤ 1000 ∧ M06.rd x = some (a, b)
theorem Good.mono {H H' : Hp} {v : V} (g : Good H v) (s : Same H H') : Good H' v := by
  obtain ⟨p, r, x, a, b, e, h1, h2, l, q⟩ := g
  exact ⟨p, r, x, a, b, e, s _ _ h1, s _ _ h2, l, q⟩
theorem scL : FnScope ["_law_script", "_law_some", "_law_text", "_law_due"] ["_law_script"] (defScope s_law) := ⟨rfl, rfl, rfl, by decide +kernel, rfl, by decide +kernel, by decide +kernel⟩
theorem d_law {f0 : Addr} {fd : FuncData} (F : L2.Fun K "law" "law" s_law f0 fd) (dCell : Def P w K mg base CX0 1 "_law_cell" ["_law_script", "_law_k"] (spCell K)) (dAm : Def P w K mg base CX0 3 "_law_amount" ["_law_cell_here"] spAm)
    (dRd : Def P w K mg base (CXe P w) 9 "read_amount" ["text"] (spRd CN)) (dIs : Def P w K mg base CX0 1 "_law_is" ["_law_found", "_law_due"] (spIs K))
    (zrange : mg "range" = none) (zlen : mg "len" = none) (zmax : mg "max" = none) (zmin : mg "min" = none) : FnOk P w K mg base CX0 10 f0 fd ["_law_script"] (spLaw K) := by
  refine QL.fn_law F scL (fun vs H Q E h => ?_) (fun cdv A outer s H vs Q E hr h => ?_)
  · obtain ⟨a, ns, rfl, _⟩ := h
    rfl
  · obtain ⟨a, ns, rfl, hS, hlen, k⟩ := h
    refine ⟨_, (qss_cons (qs_lc (j := 1) (lc_mk (x := "_law_k") (fvs := ["_law_script"]) (fidx := [0]) (defScope s_law) ["_law_script", "_law_some", "_law_text", "_law_due"] rfl rfl (by decide +kernel)) rfl rfl scL.nd rfl rfl (qi_range1 rfl zrange (qa_cons (qe_callB (call_max2 rfl) (by rfl) zmax PyProof.Rows.boot_max (qa_cons qe_int (qa_cons (qe_callB (call_min2 rfl) (by rfl) zmin PyProof.Rows.boot_min (qa_cons qe_int (qa_cons (qe_callB call_len_seq (by rfl) zlen PySem.boot_len (qa_cons (qv 0) qa_nil)) qa_nil))) qa_nil))) qa_nil)) (fun cl C s H ex => (qe_callD dAm (hr.mono (by decide)) rfl pass0 (qa_cons (qe_callD dCell (hr.mono (by decide)) rfl pass0 (qa_cons (qv 1) (qa_cons (qv 0) qa_nil))) qa_nil))))
      (qss_cons (qs_for PassesOwn.never rfl (qi_list (qe_op op_cat (qv 1) (qe_slice sl_list (qv 1) qo_none (qo_some qe_int)))) (qg_tup rfl (qgs_cons (qg_name (i := 2) scL.nd rfl (Or.inl rfl)) (qgs_cons (qg_name (i := 3) scL.nd rfl (Or.inl rfl)) qgs_nil)))
        (qss_one (qs_if (qt_not (qt_val (qe_callD dIs (hr.mono (by decide)) rfl pass0 (qa_cons (qe_callD dRd (hr.mono (by decide)) rfl pass1 (qa_cons (qv 2) qa_nil)) (qa_cons (qv 3) qa_nil))))) (qss_one (qs_ret qe_bl)) qss_nil)))
      (qss_one (qs_ret qe_bl)))), ?_⟩
    refine ⟨_, rfl, a, _, rfl, .inl hS, _, _, rfl, _, _, rfl, _, rfl, ?_⟩
    generalize hmm : (if (if ((ns.map V.int).length : Int) < 40 then ((ns.map V.int).length : Int) else 40) > 1 then (if ((ns.map V.int).length : Int) < 40 then ((ns.map V.int).length : Int) else 40) else 1) = m
    have hm : 0 ≤ m ∧ m ≤ 40 := by rw [← hmm]; split <;> split <;> omega
    refine ⟨by omega, by omega, lc_range (n := m.toNat) (fun i ys H2 => ys.length = i ∧ (∀ y ∈ ys, Good H2 y) ∧ Same H H2) ⟨rfl, (fun _ z => nomatch z), Same.refl _⟩ (fun i ys H2 hi z => by rw [z.1]; exact Nat.lt_of_le_of_lt (show i ≤ 40 by omega) (by decide +kernel)) ?_ ?_⟩
    · rintro i ys H2 hi ⟨hy, hs, sm2⟩
      refine ⟨_, rfl, _, rfl, a, ns, _, rfl, sm2.seq hS, by omega, fun z => ⟨_, rfl, fun x a1 b1 p r H3 sm3 lx rdx h1 h2 => ?_⟩⟩
      refine ⟨by rw [List.length_append, hy]; rfl, fun y hy' => ?_, sm2.trans sm3⟩
      rcases List.mem_append.mp hy' with q | q
      · exact (hs y q).mono sm3
      · rw [List.mem_singleton.mp q]; exact ⟨p, r, x, a1, b1, rfl, h1, h2, lx, rdx⟩
    · rintro ys H2 ⟨hy, hs, sm2⟩ D hD
      have hl : ys.length ≤ 40 := by omega
      have sD := sameUpd (o := .lst ys) hD
      have hs3 : ∀ y ∈ ys, Good (upd H2 D (.lst ys)) y := fun y z => (hs y z).mono sD
      have hDl : (upd H2 D (.lst ys)) D = some (.lst ys) := upd_same
      generalize upd H2 D (.lst ys) = H3 at hs3 hDl ⊢
      refine ⟨_, rfl, _, rfl, 1, rfl, D, _, rfl, SqL.of hDl, fun p hp => ?_⟩
      have lc := cutV_length ys none (some 1)
      have s4 := sameUpd (o := .lst (cutV ys none (some 1))) hp
      refine ⟨D, p, _, _, rfl, rfl, s4 _ _ hDl, upd_same, ?_, fun p2 hp2 => ?_⟩
      · exact Nat.le_trans (show ys.length + (cutV ys none (some 1)).length ≤ 80 by omega) (by decide +kernel)
      have s5 := s4.trans (sameUpd (o := .lst (ys ++ cutV ys none (some 1))) hp2)
      have mem : ∀ v ∈ ys ++ cutV ys none (some 1), Good (upd (upd H3 p (.lst (cutV ys none (some 1)))) p2 (.lst (ys ++ cutV ys none (some 1)))) v := fun v hv' => by
        have h1 : v ∈ ys := by
          rcases List.mem_append.mp hv' with z | z
          · exact z
          · exact List.mem_of_mem_drop (List.mem_of_mem_take z)
        exact (hs3 v h1).mono s5
      have hx4 : (upd (upd H3 p (.lst (cutV ys none (some 1)))) p2 (.lst (ys ++ cutV ys none (some 1)))) p2 = some (.lst (ys ++ cutV ys none (some 1))) := upd_same
      generalize upd (upd H3 p (.lst (cutV ys none (some 1)))) p2 (.lst (ys ++ cutV ys none (some 1))) = H5 at mem hx4 ⊢
      generalize ys ++ cutV ys none (some 1) = xs at mem hx4 ⊢
      refine ⟨p2, rfl, ⟨_, SqL.of hx4⟩, for_list (K := K) (a := p2) (xs := xs) (fun i σ H6 => Same H5 H6 ∧ ∃ v w, σ = [some (.ref a), some (.ref D), v, w]) ⟨Same.refl _, _, _, rfl⟩ (fun i σ H6 _ z => SqL.of (z.1 _ _ hx4)) ?_ ?_⟩
      · rintro i v σ H6 hi ⟨sm6, v3, v4, rfl⟩
        obtain ⟨p, r, x, a1, b1, rfl, h1, h2, lx, rdx⟩ := (mem v (List.mem_of_getElem? hi)).mono sm6
        refine ⟨p, _, rfl, SqT.of h1, rfl, _, _, rfl, _, _, rfl, rfl, ?_⟩
        refine ⟨_, rfl, x, rfl, lx, fun a2 b2 e p7 H7 s7 h7 => ?_, fun e => by rw [rdx] at e; cases e⟩
        rw [rdx] at e
        cases e
        refine ⟨_, rfl, p7, r, a1, b1, rfl, h7, SqT.of (s7 _ _ h2), true, rfl, iteF ?_⟩
        exact ⟨sm6.trans s7, _, _, rfl⟩
      · rintro σ H6 ⟨sm6, v3, v4, rfl⟩
        exact k H6
theorem fin {l : PySem.W.OpenLaw} {w : World} {K : PySem.W.Frag} {mg : Str → Option Value} {fa S C CN A0 : Addr} (hfa : mg "law" = some (.ref fa)) (B : XB K mg S) (N : XC K mg S "NoNumber" "number" "NoNumber.__init__" si_NoNumber C) (N2 : XC K mg S "NoAmount" "amount" "NoAmount.__init__" si_NoAmount CN)
    (cA : CL K mg "AmountReader" A0) (n1 : NoAttr K A0 "total") (n2 : NoAttr K A0 "place") (n3 : NoAttr K A0 "last")
    (eIn : Met K A0 "__init__" "AmountReader.__init__" si_AmountReader) (eTk : Met K A0 "take" "AmountReader.take" si_AmountReader_take) (eTU : Met K A0 "take_unit" "AmountReader.take_unit" si_AmountReader_take_unit) (eTN : Met K A0 "take_numeral" "AmountReader.take_numeral" si_AmountReader_take_numeral)
    (eTP : Met K A0 "take_part" "AmountReader.take_part" si_AmountReader_take_part) (eFu : Met K A0 "is_full" "AmountReader.is_full" si_AmountReader_is_full)
    (tHas : Th K mg "has_numeral" s_has_numeral) (tNum : Th K mg "numeral" s_numeral) (tWor : Th K mg "worth_of" s_worth_of) (tNo : Th K mg "number_of" s_number_of) (tG : Th K mg "greatest_divisor" s_greatest_divisor) (tPl : Th K mg "plus" s_plus)
    (tWn : Th K mg "written_number" s_written_number) (tPz : Th K mg "plain_number" s_plain_number) (tPf : Th K mg "plain_fraction" s_plain_fraction) (tWf : Th K mg "written_fraction" s_written_fraction) (tPa : Th K mg "part_of_unit" s_part_of_unit) (tRd : Th K mg "read_amount" s_read_amount)
    (tC : Th K mg "_law_cell" s_law_cell) (tWh : Th K mg "_law_wheel" s_law_wheel) (tLow : Th K mg "_law_lowest" s_law_lowest) (tIs : Th K mg "_law_is" s_law_is) (tLn : Th K mg "_law_numeral" s_law_numeral) (tSh : Th K mg "_law_shares" s_law_shares) (tPt : Th K mg "_law_part" s_law_part) (tAm : Th K mg "_law_amount" s_law_amount) (tL : Th K mg "law" s_law)
    (tF : ThD K mg "fraction" s_fraction "top" "bottom" 1)
    (zrange : mg "range" = none) (zlen : mg "len" = none) (zmax : mg "max" = none) (zmin : mg "min" = none) (zisi : mg "isinstance" = none) (zint : mg "int" = none) (zbool : mg "bool" = none) (zstr : mg "str" = none) (zrev : mg "reversed" = none) (zall : mg "all" = none) (zabs : mg "abs" = none) (ztup : mg "tuple" = none)
    (gG : ∃ tk, mg "GREATEST" = some (.int 399 tk)) (gT : ∃ a, mg "TENS" = some (.ref a) ∧ ∀ H, SqT K H a (tensL.map V.str)) (gO : ∃ a, mg "ONES" = some (.ref a) ∧ ∀ H, SqT K H a (onesL.map V.str)) (gW : ∃ a, mg "WORTHS" = some (.ref a) ∧ TabK K a worths)
    (gU : ∃ a, mg "UNITS" = some (.ref a) ∧ (∀ H, SqT K H a (M06.unL.map V.str)) ∧ ∃ o, K.lookup a = some o ∧ o.cls = .type "tuple" ∧ o.dict = none) (gGr : ∃ a, mg "GRAINS" = some (.ref a) ∧ ∀ H, SqT K H a (M06.grL.map V.int))
    (gHW : ∃ tk, mg "HALF_WORD" = some (.str "ss" tk)) (gFI : ∃ tk, mg "FIGURES" = some (.str "0123456789" tk)) (gMF : ∃ tk, mg "MOST_FIGURES" = some (.int 3 tk)) (g0 : ∃ tk, mg "NOTHING" = some (.int 0 tk)) (g1 : ∃ tk, mg "UNIT" = some (.int 1 tk)) (g2 : ∃ tk, mg "NUMERAL" = some (.int 2 tk)) (g3 : ∃ tk, mg "PART" = some (.int 3 tk)) :
    ∃ fd : FuncData, (∀ (s : Shared) (v : Value), BindsTo s fd ⟨[v], []⟩ [("_law_script", v)]) ∧ ∀ base : Heap, K.In base → base.Ns mainGlobals mg → FnOk l.prog w K mg base CX0 10 fa fd ["_law_script"] (spLaw K) := by
  obtain ⟨fL, fdL, F_L, mL⟩ := id tL
  cases hfa.symm.trans mL
  refine ⟨fdL, fun s v => ?_, fun base _ _ => ?_⟩
  · obtain ⟨oc, od, kV, doc, pm, an, cdv, ct, osl, rfl, lk, hcd⟩ := F_L.ex
    exact .of_eq rfl
  have R : XR l.prog w K mg base S "NoNumber" "number" C := xr_NoNumber B N
  have R2 : XR l.prog w K mg base S "NoAmount" "amount" CN := xr_NoAmount B N2
  have na : NA K A0 := ⟨n1, n2, n3⟩
  have gU' : ∃ a, mg "UNITS" = some (.ref a) ∧ ∀ H, SqT K H a (M06.unL.map V.str) := by obtain ⟨a, m, s, _⟩ := gU; exact ⟨a, m, s⟩
  have dHas := d_has (P := l.prog) (w := w) (base := base) tHas zisi zint zbool gG
  have dNum := d_numeral (P := l.prog) (w := w) (base := base) tNum dHas R gT gO
  have dWor := d_worth (P := l.prog) (w := w) (base := base) tWor gW zrev
  have dNo := d_number_of (P := l.prog) (w := w) (base := base) tNo dHas dNum dWor R zisi zstr
  have dG := d_gcd (P := l.prog) (w := w) (base := base) tG
  have dFr := d_fr (P := l.prog) (w := w) (base := base) tF dG R zabs
  have dPl := d_plus (P := l.prog) (w := w) (base := base) tPl dFr
  have dWn := d_wn (P := l.prog) (w := w) (base := base) tWn dNo R
  have dPz := d_pz (P := l.prog) (w := w) (base := base) tPz zlen zall zint gFI
  have dPf := d_pf (P := l.prog) (w := w) (base := base) tPf dPz dFr zlen
  have dWf := d_wf (P := l.prog) (w := w) (base := base) tWf dPf gMF
  have dPa := d_pa (P := l.prog) (w := w) (base := base) tPa dWf dFr gHW gU' gGr
  have mTU := d_tu (P := l.prog) (w := w) (base := base) eTU cA na g1
  have mTN := d_tn (P := l.prog) (w := w) (base := base) eTN cA na dWn dFr dPl g2 gGr
  have mTP := d_tp (P := l.prog) (w := w) (base := base) eTP cA na dPa dPl g3
  have mFu := d_fu (P := l.prog) (w := w) (base := base) eFu cA na g2 g3
  have mIn := d_in (P := l.prog) (w := w) (base := base) eIn cA na dFr g0
  have mTk := d_tk (P := l.prog) (w := w) (base := base) eTk cA na mTU mTN mTP gU g1 g2
  have dRd := d_read (P := l.prog) (w := w) (base := base) tRd cA na mIn mTk mFu R2
  have dC := d_cell (P := l.prog) (w := w) (base := base) tC zlen
  have dWh := d_wheel (P := l.prog) (w := w) (base := base) tWh zrange
  have dLow := d_low (P := l.prog) (w := w) (base := base) tLow zabs
  have dIs := d_is (P := l.prog) (w := w) (base := base) tIs zisi ztup zint zbool zlen
  have dLn := d_ln (P := l.prog) (w := w) (base := base) (mg := mg) tLn
  have dSh := d_shares (P := l.prog) (w := w) (base := base) tSh
  have dPt := d_part (P := l.prog) (w := w) (base := base) tPt dSh
  have dAm := d_amount (P := l.prog) (w := w) (base := base) tAm dWh dLn dPt dLow zrange zstr
  exact d_law F_L dC dAm dRd dIs zrange zlen zmax zmin
end
end K5


set_option maxRecDepth 100000
set_option linter.all false
set_option maxHeartbeats 4000000
set_option Elab.async false
theorem K5.walk {l : PySem.W.OpenLaw} {q : PySem.Program} {loose : List PySem.Str} {XP : (PySem.Str → Option PySem.Value) → PySem.Heap → Prop} {YP : PySem.World → PySem.Heap → Prop} {d : PySem.DefRec} {K : PySem.Params → PySem.W.Frag} (hn : l.most = some 63) (hdf : d.params.defaults = [])
    (hY : ∀ (w : PySem.World) (h : PySem.Heap), YP w h → (K w.params).In h)
    (F : ∀ (w : PySem.World) (mg : PySem.Str → Option PySem.Value) (fa : PySem.Addr) (h : PySem.Heap), (K w.params).In h → h.Ns PySem.mainGlobals mg → mg d.name = some (.ref fa) →
      ∃ fd : PySem.FuncData, (∀ (s : PySem.Shared) (u : PySem.Value), PySem.BindsTo s fd ⟨[u], []⟩ [("_law_script", u)]) ∧ ∀ base : PySem.Heap, (K w.params).In base → base.Ns PySem.mainGlobals mg → L2.FnOk l.prog w (K w.params) mg base L2.CX0 10 fa fd ["_law_script"] (K5.spLaw (K w.params))) :
    PySem.W.WalkO q loose XP YP l.row.toRowW d [] (fun f vs => PySem.call f vs) :=
  L2.walk_of (n := 63) (k := 10) (x := "_law_script") (CX := fun _ => L2.CX0) (sp := fun w => K5.spLaw (K w.params)) hn (by decide) hdf ⟨rfl, by decide, by decide⟩ hY F (fun _ _ a ns hl _ hS => ⟨a, ns, rfl, hS, hl, fun _ => rfl⟩) fun _ _ _ _ _ z => z
open PySem PySem.W PyProof.Rows
set_option maxRecDepth 100000 in
set_option maxHeartbeats 0 in
theorem PySem.Challenge.cw_scruplehouse_k05_amounts_read_holds : PySem.Challenge.rw_scruplehouse_k05_amounts_read.Holds := by
  w_on; o_law; k_head; (case hw => w_witness2)
  k_fill
  refine K5.walk (l := PySem.Challenge.rw_scruplehouse_k05_amounts_read) rfl rfl (fun w h Y => PySem.W.kIn_of Y) ?F
  case F =>
    intro w mg fa h KX G hmg
    have EB : ∃ S, L6.XB (L2.KOf KX) mg S ∧ PySem.W.nsIn (L2.KOf KX) mainGlobals "ScrupleError" = some (some (.ref S)) := by
      dsimp only [L2.KOf]
      refine' L6.xb_mk2 KX G ?a ?o ?sg ?sr ?si
      (case a => k_is)
      (case o => k_is)
      (case sg => k_is)
      (case sr => k_is)
      (case si => k_is)
    obtain ⟨S, B, aS⟩ := EB
    have ECC : ∃ C, L6.XC (L2.KOf KX) mg S "NoNumber" "number" "NoNumber.__init__" K5.si_NoNumber C := by
      dsimp only [L2.KOf] at aS ⊢
      refine' L6.xc_mk2 KX G aS ?a0 ?a ?oC ?cga ?cgh ?csa ?ckc ?ckg ?ckt ?ckp ?na ?ai ?iI ?lI ?cI ?kI
      (case a0 => k_is)
      (case a => k_is)
      (case oC => k_is)
      (case cga => k_is)
      (case cgh => k_is)
      (case csa => k_is)
      (case ckc => k_is)
      (case ckg => k_is)
      (case ckt => k_is)
      (case ckp => k_is)
      (case na => k_is)
      (case ai => k_is)
      (case iI => k_is)
      (case lI => k_is)
      (case cI => k_is)
      (case kI => k_is)
    obtain ⟨C, NC⟩ := ECC
    have ECCN : ∃ C, L6.XC (L2.KOf KX) mg S "NoAmount" "amount" "NoAmount.__init__" K5.si_NoAmount C := by
      dsimp only [L2.KOf] at aS ⊢
      refine' L6.xc_mk2 KX G aS ?a0 ?a ?oC ?cga ?cgh ?csa ?ckc ?ckg ?ckt ?ckp ?na ?ai ?iI ?lI ?cI ?kI
      (case a0 => k_is)
      (case a => k_is)
      (case oC => k_is)
      (case cga => k_is)
      (case cgh => k_is)
      (case csa => k_is)
      (case ckc => k_is)
      (case ckg => k_is)
      (case ckt => k_is)
      (case ckp => k_is)
      (case na => k_is)
      (case ai => k_is)
      (case iI => k_is)
      (case lI => k_is)
      (case cI => k_is)
      (case kI => k_is)
    obtain ⟨CN, NCN⟩ := ECCN
    have EA0 : ∃ C, L13.CL (L2.KOf KX) mg "AmountReader" C ∧ PySem.W.nsIn (L2.KOf KX) mainGlobals "AmountReader" = some (some (.ref C)) := by
      dsimp only [L2.KOf]
      refine' L13.cl_mk2 KX G ?a ?pg ?hd ?po ?sa ?mk ?kp
      (case a => k_is)
      (case pg => k_is)
      (case hd => k_is)
      (case po => k_is)
      (case sa => k_is)
      (case mk => k_is)
      (case kp => k_is)
    obtain ⟨A0, cA0, aA0⟩ := EA0
    have nA00 : L2.NoAttr (L2.KOf KX) A0 "total" := by
      dsimp only [L2.KOf] at aA0 ⊢
      refine' L13.na_mk aA0 ?a0 ?n
      (case a0 => k_is)
      (case n => k_is)
    have nA01 : L2.NoAttr (L2.KOf KX) A0 "place" := by
      dsimp only [L2.KOf] at aA0 ⊢
      refine' L13.na_mk aA0 ?a0 ?n
      (case a0 => k_is)
      (case n => k_is)
    have nA02 : L2.NoAttr (L2.KOf KX) A0 "last" := by
      dsimp only [L2.KOf] at aA0 ⊢
      refine' L13.na_mk aA0 ?a0 ?n
      (case a0 => k_is)
      (case n => k_is)
    have mA00 : L13.Met (L2.KOf KX) A0 "__init__" "AmountReader.__init__" K5.si_AmountReader := by
      dsimp only [L2.KOf] at aA0 ⊢
      refine' L13.met_mk aA0 ?a0 ?ai ?iI ?lI ?cI ?kI
      (case a0 => k_is)
      (case ai => k_is)
      (case iI => k_is)
      (case lI => k_is)
      (case cI => k_is)
      (case kI => k_is)
    have mA01 : L13.Met (L2.KOf KX) A0 "take" "AmountReader.take" K5.si_AmountReader_take := by
      dsimp only [L2.KOf] at aA0 ⊢
      refine' L13.met_mk aA0 ?a0 ?ai ?iI ?lI ?cI ?kI
      (case a0 => k_is)
      (case ai => k_is)
      (case iI => k_is)
      (case lI => k_is)
      (case cI => k_is)
      (case kI => k_is)
    have mA02 : L13.Met (L2.KOf KX) A0 "take_unit" "AmountReader.take_unit" K5.si_AmountReader_take_unit := by
      dsimp only [L2.KOf] at aA0 ⊢
      refine' L13.met_mk aA0 ?a0 ?ai ?iI ?lI ?cI ?kI
      (case a0 => k_is)
      (case ai => k_is)
      (case iI => k_is)
      (case lI => k_is)
      (case cI => k_is)
      (case kI => k_is)
    have mA03 : L13.Met (L2.KOf KX) A0 "take_numeral" "AmountReader.take_numeral" K5.si_AmountReader_take_numeral := by
      dsimp only [L2.KOf] at aA0 ⊢
      refine' L13.met_mk aA0 ?a0 ?ai ?iI ?lI ?cI ?kI
      (case a0 => k_is)
      (case ai => k_is)
      (case iI => k_is)
      (case lI => k_is)
      (case cI => k_is)
      (case kI => k_is)
    have mA04 : L13.Met (L2.KOf KX) A0 "take_part" "AmountReader.take_part" K5.si_AmountReader_take_part := by
      dsimp only [L2.KOf] at aA0 ⊢
      refine' L13.met_mk aA0 ?a0 ?ai ?iI ?lI ?cI ?kI
      (case a0 => k_is)
      (case ai => k_is)
      (case iI => k_is)
      (case lI => k_is)
      (case cI => k_is)
      (case kI => k_is)
    have mA05 : L13.Met (L2.KOf KX) A0 "is_full" "AmountReader.is_full" K5.si_AmountReader_is_full := by
      dsimp only [L2.KOf] at aA0 ⊢
      refine' L13.met_mk aA0 ?a0 ?ai ?iI ?lI ?cI ?kI
      (case a0 => k_is)
      (case ai => k_is)
      (case iI => k_is)
      (case lI => k_is)
      (case cI => k_is)
      (case kI => k_is)
    refine' K5.fin hmg B NC NCN cA0 nA00 nA01 nA02 mA00 mA01 mA02 mA03 mA04 mA05 ?t0 ?t1 ?t2 ?t3 ?t4 ?t5 ?t6 ?t7 ?t8 ?t9 ?t10 ?t11 ?t12 ?t13 ?t14 ?t15 ?t16 ?t17 ?t18 ?t19 ?t20 ?d0 ?z0 ?z1 ?z2 ?z3 ?z4 ?z5 ?z6 ?z7 ?z8 ?z9 ?z10 ?z11 ?wa0 ?wa1 ?wa2 ?wa3 ?wa4 ?wa5 ?wa6 ?wa7 ?wa8 ?wa9 ?wa10 ?wa11 ?wa12
    case t0 =>
      refine' L6.th_mk KX G ?a ?l ?c ?k
      (case a => k_is)
      (case l => k_is)
      (case c => k_is)
      (case k => k_is)
    case t1 =>
      refine' L6.th_mk KX G ?a ?l ?c ?k
      (case a => k_is)
      (case l => k_is)
      (case c => k_is)
      (case k => k_is)
    case t2 =>
      refine' L6.th_mk KX G ?a ?l ?c ?k
      (case a => k_is)
      (case l => k_is)
      (case c => k_is)
      (case k => k_is)
    case t3 =>
      refine' L6.th_mk KX G ?a ?l ?c ?k
      (case a => k_is)
      (case l => k_is)
      (case c => k_is)
      (case k => k_is)
    case t4 =>
      refine' L6.th_mk KX G ?a ?l ?c ?k
      (case a => k_is)
      (case l => k_is)
      (case c => k_is)
      (case k => k_is)
    case t5 =>
      refine' L6.th_mk KX G ?a ?l ?c ?k
      (case a => k_is)
      (case l => k_is)
      (case c => k_is)
      (case k => k_is)
    case t6 =>
      refine' L6.th_mk KX G ?a ?l ?c ?k
      (case a => k_is)
      (case l => k_is)
      (case c => k_is)
      (case k => k_is)
    case t7 =>
      refine' L6.th_mk KX G ?a ?l ?c ?k
      (case a => k_is)
      (case l => k_is)
      (case c => k_is)
      (case k => k_is)
    case t8 =>
      refine' L6.th_mk KX G ?a ?l ?c ?k
      (case a => k_is)
      (case l => k_is)
      (case c => k_is)
      (case k => k_is)
    case t9 =>
      refine' L6.th_mk KX G ?a ?l ?c ?k
      (case a => k_is)
      (case l => k_is)
      (case c => k_is)
      (case k => k_is)
    case t10 =>
      refine' L6.th_mk KX G ?a ?l ?c ?k
      (case a => k_is)
      (case l => k_is)
      (case c => k_is)
      (case k => k_is)
    case t11 =>
      refine' L6.th_mk KX G ?a ?l ?c ?k
      (case a => k_is)
      (case l => k_is)
      (case c => k_is)
      (case k => k_is)
    case t12 =>
      refine' L6.th_mk KX G ?a ?l ?c ?k
      (case a => k_is)
      (case l => k_is)
      (case c => k_is)
      (case k => k_is)
    case t13 =>
      refine' L6.th_mk KX G ?a ?l ?c ?k
      (case a => k_is)
      (case l => k_is)
      (case c => k_is)
      (case k => k_is)
    case t14 =>
      refine' L6.th_mk KX G ?a ?l ?c ?k
      (case a => k_is)
      (case l => k_is)
      (case c => k_is)
      (case k => k_is)
    case t15 =>
      refine' L6.th_mk KX G ?a ?l ?c ?k
      (case a => k_is)
      (case l => k_is)
      (case c => k_is)
      (case k => k_is)
    case t16 =>
      refine' L6.th_mk KX G ?a ?l ?c ?k
      (case a => k_is)
      (case l => k_is)
      (case c => k_is)
      (case k => k_is)
    case t17 =>
      refine' L6.th_mk KX G ?a ?l ?c ?k
      (case a => k_is)
      (case l => k_is)
      (case c => k_is)
      (case k => k_is)
    case t18 =>
      refine' L6.th_mk KX G ?a ?l ?c ?k
      (case a => k_is)
      (case l => k_is)
      (case c => k_is)
      (case k => k_is)
    case t19 =>
      refine' L6.th_mk KX G ?a ?l ?c ?k
      (case a => k_is)
      (case l => k_is)
      (case c => k_is)
      (case k => k_is)
    case t20 =>
      refine' L6.th_mk KX G ?a ?l ?c ?k
      (case a => k_is)
      (case l => k_is)
      (case c => k_is)
      (case k => k_is)
    case d0 =>
      refine' L6.thD_mk KX G ?a ?l ?c ?k ?hTd ?oT ?dT ?b2 ?b1
      (case a => k_is)
      (case l => k_is)
      (case c => k_is)
      (case k => k_is)
      (case hTd => first | k_is | rfl)
      (case oT => k_is)
      (case dT => first | k_is | rfl)
      (case b2 => exact fun s u v Xs => PySem.W.binds_K Xs (by first | k_is | rfl) (by k_is) (by first | k_is | rfl) rfl rfl)
      (case b1 => exact fun s u Xs => PySem.W.binds_K Xs (by first | k_is | rfl) (by k_is) (by first | k_is | rfl) rfl rfl)
    case z0 => exact PySem.W.mg_none_of KX G (by k_is)
    case z1 => exact PySem.W.mg_none_of KX G (by k_is)
    case z2 => exact PySem.W.mg_none_of KX G (by k_is)
    case z3 => exact PySem.W.mg_none_of KX G (by k_is)
    case z4 => exact PySem.W.mg_none_of KX G (by k_is)
    case z5 => exact PySem.W.mg_none_of KX G (by k_is)
    case z6 => exact PySem.W.mg_none_of KX G (by k_is)
    case z7 => exact PySem.W.mg_none_of KX G (by k_is)
    case z8 => exact PySem.W.mg_none_of KX G (by k_is)
    case z9 => exact PySem.W.mg_none_of KX G (by k_is)
    case z10 => exact PySem.W.mg_none_of KX G (by k_is)
    case z11 => exact PySem.W.mg_none_of KX G (by k_is)
    case wa0 =>
      refine' L7.gint_mk KX G ?a
      (case a => k_is)
    case wa1 =>
      refine' L7.gtup_mk KX G ?a ?l ?c ?d ?z ?v
      (case a => k_is)
      (case l => k_is)
      (case c => rfl)
      (case d => rfl)
      (case z => decide)
      (case v => exact (.cons ⟨_, rfl⟩ (.cons ⟨_, rfl⟩ (.cons ⟨_, rfl⟩ (.cons ⟨_, rfl⟩ (.cons ⟨_, rfl⟩ (.cons ⟨_, rfl⟩ (.cons ⟨_, rfl⟩ (.cons ⟨_, rfl⟩ (.cons ⟨_, rfl⟩ (.cons ⟨_, rfl⟩ .nil)))))))))))
    case wa2 =>
      refine' L7.gtup_mk KX G ?a ?l ?c ?d ?z ?v
      (case a => k_is)
      (case l => k_is)
      (case c => rfl)
      (case d => rfl)
      (case z => decide)
      (case v => exact (.cons ⟨_, rfl⟩ (.cons ⟨_, rfl⟩ (.cons ⟨_, rfl⟩ (.cons ⟨_, rfl⟩ (.cons ⟨_, rfl⟩ (.cons ⟨_, rfl⟩ (.cons ⟨_, rfl⟩ (.cons ⟨_, rfl⟩ (.cons ⟨_, rfl⟩ (.cons ⟨_, rfl⟩ .nil)))))))))))
    case wa3 =>
      refine' L7.gtab_mk KX G ?a ?l ?ne ?c ?d ?r
      (case a => k_is)
      (case l => k_is)
      (case ne => decide)
      (case c => exact ⟨rfl, rfl, rfl⟩)
      (case d => rfl)
      (case r => exact (.cons rfl (PyProof.V.Flat.int _ _) (.cons rfl (PyProof.V.Flat.int _ _) (.cons rfl (PyProof.V.Flat.int _ _) (.cons rfl (PyProof.V.Flat.int _ _) (.cons rfl (PyProof.V.Flat.int _ _) (.cons rfl (PyProof.V.Flat.int _ _) .nil)))))))
    case wa4 =>
      refine' K5.gtup2_mk KX G ?a ?l ?c ?dd ?d ?z ?v
      (case a => k_is)
      (case l => k_is)
      (case c => rfl)
      (case dd => rfl)
      (case d => rfl)
      (case z => decide)
      (case v => exact (.cons ⟨_, rfl⟩ (.cons ⟨_, rfl⟩ (.cons ⟨_, rfl⟩ (.cons ⟨_, rfl⟩ (.cons ⟨_, rfl⟩ .nil))))))
    case wa5 =>
      refine' L7.gtup_mk KX G ?a ?l ?c ?d ?z ?v
      (case a => k_is)
      (case l => k_is)
      (case c => rfl)
      (case d => rfl)
      (case z => decide)
      (case v => exact (.cons ⟨_, rfl⟩ (.cons ⟨_, rfl⟩ (.cons ⟨_, rfl⟩ (.cons ⟨_, rfl⟩ (.cons ⟨_, rfl⟩ .nil))))))
    case wa6 =>
      refine' L7.gstr_mk KX G ?a
      (case a => k_is)
    case wa7 =>
      refine' L7.gstr_mk KX G ?a
      (case a => k_is)
    case wa8 =>
      refine' L7.gint_mk KX G ?a
      (case a => k_is)
    case wa9 =>
      refine' L7.gint_mk KX G ?a
      (case a => k_is)
    case wa10 =>
      refine' L7.gint_mk KX G ?a
      (case a => k_is)
    case wa11 =>
      refine' L7.gint_mk KX G ?a
      (case a => k_is)
    case wa12 =>
      refine' L7.gint_mk KX G ?a
      (case a => k_is)


