import PyProof.Rows.All
import Wide.All
import OpenK.AllK
import Wide.FinOn
import Lean
import PyProof.EqAt
import PyProof.NeKinds
import PyProof.EqKinds
import PyProof.TupleCall
import PyProof.SumWalkG
import PyProof.FString
import PyProof.ZipIter
import PyProof.TupleIter
import KE.KDictOf
import KE.KDictList
import PyProof.SetKind
import PyProof.Rows.SetFrom
import PyProof.CollectWalk
import KE.KItemsList
import KE.KRevIter
import KE.KSortTup
import KE.KFind
import PyProof.DictIter
import PyProof.DictWalks
import PyProof.AttrMissHeap
import PyProof.Rows.SortWalk
import PyProof.StationsW
import PyProof.RulesAs
import PyProof.ExcArgs
import PyProof.ExcClass
import PyProof.ExcBaseAll.ValueError
import PyProof.MinMaxWalk
import PyProof.EnumMake
import PyProof.WalksEnum
import PyProof.Rows.EnumRows
import PySem.Challenge.RW_scruplehouse_k54_whole_no_hour_breaks_a
set_option Elab.async false
set_option linter.all false
set_option maxRecDepth 100000
namespace L2
open PySem PySem.Spec PyProof.Rows
abbrev Key:=Sum Int Str
def keyIs:Key->Value->Bool
 | .inl k,v=>Value.isInt k v
 | .inr x,v=>Value.isStrOf x v
def keyH (w:World):Key->Int
 | .inl k=>hashInt k
 | .inr x=>hashStr w x
theorem keyIs_shape:∀ {k:Key} {v:Value},keyIs k v=true->(∃ i t,k=Sum.inl i/\v=Value.int i t)\/(∃ x t,k=Sum.inr x/\v=Value.str x t)
 | .inl i,v,h=>by
  obtain⟨t,e⟩:=Value.isInt_shape (k:=i) (v:=v) h
  exact .inl ⟨i,t,rfl,e⟩
 | .inr x,v,h=>by
  obtain⟨t,e⟩:=Value.isStrOf_shape (x:=x) (v:=v) h
  exact .inr ⟨x,t,rfl,e⟩
theorem keyIs_int (i:Int) (t:Tok):keyIs (.inl i) (.int i t)=true:=by simp[keyIs,Value.isInt]
theorem keyIs_str (x:Str) (t:Tok):keyIs (.inr x) (.str x t)=true:=by simp[keyIs,Value.isStrOf]
theorem key_ll (a b:Int):decide ((Sum.inl a:Key)=Sum.inl b)=(a == b):=by
 by_cases e:a=b
 ·subst e;simp
 ·have h:¬ (Sum.inl a:Key)=Sum.inl b:=fun q=>e (Sum.inl.inj q)
  rw[decide_eq_false h]
  exact(beq_eq_false_iff_ne.mpr e).symm
theorem key_rr (a b:Str):decide ((Sum.inr a:Key)=Sum.inr b)=decide (a=b):=by
 by_cases e:a=b
 ·subst e;simp
 ·have h:¬ (Sum.inr a:Key)=Sum.inr b:=fun q=>e (Sum.inr.inj q)
  rw[decide_eq_false h,decide_eq_false e]
theorem key_lr (a:Int) (b:Str):decide ((Sum.inl a:Key)=Sum.inr b)=false:=decide_eq_false (fun q=>nomatch q)
theorem key_rl (a:Str) (b:Int):decide ((Sum.inr a:Key)=Sum.inl b)=false:=decide_eq_false (fun q=>nomatch q)
def mixKind (prog:Program) (w:World):PySem.KeyKind prog w Key where
 is:=keyIs
 hash:=keyH w
 inj:=fun v a b ha hb=>by
  rcases keyIs_shape ha with ⟨i,t,rfl,rfl⟩ | ⟨x,t,rfl,rfl⟩
  ·rcases keyIs_shape hb with ⟨j,u,rfl,e⟩ | ⟨y,u,rfl,e⟩
   ·injection e with e1 _;rw[e1]
   ·exact nomatch e
  ·rcases keyIs_shape hb with ⟨j,u,rfl,e⟩ | ⟨y,u,rfl,e⟩
   ·exact nomatch e
   ·injection e with e1 _;rw[e1]
 byValue:=fun k v h=>by
  rcases keyIs_shape h with ⟨i,t,rfl,rfl⟩ | ⟨x,t,rfl,rfl⟩ <;> rfl
 pyHash:=fun hv h=>by
  rcases keyIs_shape hv with ⟨i,t,rfl,rfl⟩ | ⟨x,t,rfl,rfl⟩
  ·exact wpAny_pyHash_int h
  ·exact wpAny_pyHash_str h
 eqBool:=fun hu hv h=>by
  rcases keyIs_shape hu with ⟨i,t,rfl,rfl⟩ | ⟨x,t,rfl,rfl⟩
  ·rcases keyIs_shape hv with ⟨j,u,rfl,rfl⟩ | ⟨y,u,rfl,rfl⟩
   ·rw[key_ll] at h;exact wpAny_eqBool_int h
   ·rw[key_lr] at h;exact SeqAt.EqAt.int_str i t y u _ _ _ _ h
  ·rcases keyIs_shape hv with ⟨j,u,rfl,rfl⟩ | ⟨y,u,rfl,rfl⟩
   ·rw[key_rl] at h;exact SeqAt.EqAt.str_int x t j u _ _ _ _ h
   ·rw[key_rr] at h;exact wpAny_eqBool_str h
 «strs»:=fun k x t v h=>by
  rcases keyIs_shape h with ⟨i,u,rfl,e⟩ | ⟨y,u,rfl,e⟩
  ·exact nomatch e
  ·injection e with e1 _
   subst e1
   cases v <;> rfl
theorem mixKind_int (prog:Program) (w:World) (i:Int) (t:Tok):(mixKind prog w).is (.inl i) (.int i t)=true:=keyIs_int i t
theorem mixKind_str (prog:Program) (w:World) (x:Str) (t:Tok):(mixKind prog w).is (.inr x) (.str x t)=true:=keyIs_str x t
end L2
namespace L2
open PySem PySem.Spec PyProof.Rows
inductive V where
 | non | bl (b:Bool) | int (i:Int) | str (x:Str) | byt (b:Array UInt8) | flt (b:UInt64) | ref (a:Addr) | ty (n:String)
 deriving DecidableEq
def RelV:V->Value->Prop
 | .non,u=>u=Value.none
 | .bl b,u=>u=Value.bool b
 | .int i,u=>∃ t,u=Value.int i t
 | .str x,u=>∃ t,u=Value.str x t
 | .byt b,u=>∃ t,u=Value.bytes b t
 | .flt b,u=>∃ t,u=Value.float b t
 | .ref a,u=>u=Value.ref a
 | .ty n,u=>u=Value.type n
abbrev Vals:List V->List Value->Prop:=Paired RelV
theorem Vals.length {xs:List V} {us:List Value} (r:Vals xs us):xs.length=us.length:=Paired.length r
theorem Vals.get:∀ {xs:List V} {us:List Value} {i:Nat} {x:V},Vals xs us->xs[i]?=some x->∃ u,us[i]?=some u/\RelV x u
 | _,_,_,_, .nil,e=>by simp at e
 | _,_,0,_, .cons r _,e=>by simp at e;subst e;exact⟨_,rfl,r⟩
 | _,_,i+1,x, .cons _ t,e=>by
  obtain⟨u,h1,h2⟩:=Vals.get (i:=i) (x:=x) t (by simpa using e)
  exact⟨u,by simpa using h1,h2⟩
theorem Vals.append:∀ {xs ys:List V} {us ws:List Value},Vals xs us->Vals ys ws->Vals (xs ++ ys) (us ++ ws)
 | _,_,_,_, .nil,s=>s
 | _,_,_,_, .cons r t,s=> .cons r (Vals.append t s)
theorem Vals.take:∀ {xs:List V} {us:List Value} (n:Nat),Vals xs us->Vals (xs.take n) (us.take n)
 | _,_,0,_=> .nil
 | _,_,_+1, .nil=> .nil
 | _,_,n+1, .cons r t=> .cons r (Vals.take n t)
theorem Vals.drop:∀ {xs:List V} {us:List Value} (n:Nat),Vals xs us->Vals (xs.drop n) (us.drop n)
 | _,_,0,r=>r
 | _,_,_+1, .nil=> .nil
 | _,_,n+1, .cons _ t=>Vals.drop n t
def RelO:Option V->Option Value->Prop
 | some v,some u=>RelV v u
 | none,none=>True
 | _,_=>False
def KV {κ:Type}:List (κ × V)->List (κ × Value)->Prop:=Paired fun (p:κ × V) (q:κ × Value)=>p.1=q.1/\RelV p.2 q.2
def kV:Key->V
 | .inl i=> .int i
 | .inr x=> .str x
inductive HO where
 | lst (xs:List V)
 | tup (xs:List V)
 | dK (kvs:List (Key × V)) | dT (kvs:List (List Key × V))
 | set (S:Int->Bool) (n:Nat)
 | ins (C dx:Addr) (fs:List (Str × V))
 | own (x:Addr)
 | xd (fs:List (Str × V))
 | met (f x:Addr)
 | rng (lo hi:Int)
 | frz (o:Obj) (u:HO)
 | tbl (ps:Array Value)
 | ext (φ:Heap->Prop)
abbrev Hp:=Addr->Option HO
def upd (H:Hp) (a:Addr) (o:HO):Hp:=fun b=>if b=a then some o else H b
theorem upd_same {H:Hp} {a:Addr} {o:HO}:upd H a o a=some o:=by unfold upd;rw[if_pos rfl]
theorem upd_ne {H:Hp} {a b:Addr} {o:HO} (h:b≠a):upd H a o b=H b:=by unfold upd;rw[if_neg h]
theorem ne_of {H:Hp} {a b:Addr} {o u:HO} (h:H a=some o) (h':H b=some u) (d:o≠u):a≠b:=by
 intro e;subst e;rw[h] at h';exact d (Option.some.inj h')
theorem ne_of_none {H:Hp} {a b:Addr} {o:HO} (h:H a=some o) (h':H b=none):a≠b:=by
 intro e;subst e;rw[h] at h';cases h'
section
variable (P:Program) (w:World)
def ObjOk (H:Hp) (h:Heap) (a:Addr):HO->Prop
 | .lst xs=>xs.length≤sizeLine/\∃ (its:List Value) (n:Nat),Vals xs its/\h.get? a=some { cls:= .type "list", data:= .seq its.toArray n }
 | .tup xs=>xs.length≤sizeLine/\∃ its:List Value,Vals xs its/\IsTup h a its.toArray
 | .dK kvs=>kvs.length≤sizeLine/\(a == sysModules)=false/\∃ vs,KV kvs vs/\h.DictOf (mixKind P w) a vs
 | .dT kvs=>kvs.length≤sizeLine/\(a == sysModules)=false/\∃ xs:List (List Key × Addr × Value),
   Paired (fun (p:List Key × V) (q:List Key × Addr × Value)=>p.1=q.1/\H q.2.1=some (.tup (p.1.map kV))/\RelV p.2 q.2.2) kvs xs/\
   ∃ o es ep,h.get? a=some o/\o.ExactDict/\o.data= .dict es ep/\es.toList=xs.map (entryOfKey (tupleKind (mixKind P w)))/\(xs.map (·.1)).Nodup
 | .set S n=>h.SetOf (intKind P w) a S n
 | .ins C dx fs=>H dx=some (.own a)/\fs.length≤1000/\dx≠a/\h.get? a=some (PySem.W.instObj C dx)/\
   ∃ mA,h.Ns1 dx mA/\(∀ f,RelO (fs.lookup f) (mA f))/\PySem.Within mA (fs.map (·.1))
 | .own _=>∃ o,h.get? a=some o
 | .xd fs=>∃ mA,h.Ns1 a mA/\∀ f,RelO (fs.lookup f) (mA f)
 | .rng lo hi=>∃ t u v,h.get? a=some { cls:= .type "range", data:= .fields #[.int lo t, .int hi u, .int 1 v] }
 | .frz o u=>h.get? a=some o/\ObjOk H h a u
 | .tbl ps=>h.get? a=some { cls:= .none,data:= .fields ps }
 | .met f x=>h.get? a=some (PySem.W.methodObj (.ref f) (.ref x))
 | .ext φ=>φ h/\(∃ o,h.get? a=some o)/\∀ h1 h2:Heap,φ h1->(∀ o,h1.get? a=some o->h2.get? a=some o)->φ h2
def HOk (H:Hp) (h:Heap):Prop:=∀ a o,H a=some o->ObjOk P w H h a o
end
section
variable {P:Program} {w:World} {H H':Hp} {h h':Heap} {a:Addr} {o:HO}
theorem ObjOk.lt (x:ObjOk P w H h a o):a<h.objs.size:=by
 cases o with
 | lst xs=>obtain⟨_,_,_,_,e⟩:=x;exact Heap.lt_size e
 | tup xs=>obtain⟨_,_,_,p⟩:=x;exact p.lt
 | dK kvs=>obtain⟨_,_,_,_,o,_,_,e,_⟩:=x;exact Heap.lt_size e
 | dT kvs=>obtain⟨_,_,_,_,o,_,_,e,_⟩:=x;exact Heap.lt_size e
 | set S n=>obtain⟨o,_,_,_,e,_⟩:=x;exact Heap.lt_size e
 | ins C dx fs=>obtain⟨_,_,_,e,_⟩:=x;exact Heap.lt_size e
 | own y=>obtain⟨_,e⟩:=x;exact Heap.lt_size e
 | xd fs=>obtain⟨_,⟨_,_,_,e,_⟩,_⟩:=x;exact Heap.lt_size e
 | rng lo hi=>obtain⟨_,_,_,e⟩:=x;exact Heap.lt_size e
 | frz ob u=>obtain⟨e,_⟩:=x;exact Heap.lt_size e
 | tbl ps=>exact Heap.lt_size (show h.get? a=some _ from x)
 | met f y=>exact Heap.lt_size (show h.get? a=some _ from x)
 | ext φ=>obtain⟨_,⟨_,e⟩,_⟩:=x;exact Heap.lt_size e
theorem Paired.mapP {α β:Type} {F G:α->β->Prop}:∀ {l₁:List α} {l₂:List β},Paired F l₁ l₂->(∀ a b,F a b->G a b)->Paired G l₁ l₂
 | _,_, .nil,_=> .nil
 | _,_, .cons r t,f=> .cons (f _ _ r) (Paired.mapP t f)
theorem ObjOk.stay (x:ObjOk P w H h a o) (k:∀ b u,(b=a\/H b=some (.own a))->h.get? b=some u->h'.get? b=some u)
  (ho:∀ b,H b=some (.own a)->H' b=some (.own a)) (ht:∀ b xs,H b=some (.tup xs)->H' b=some (.tup xs)):ObjOk P w H' h' a o:=by
 induction o with
 | lst xs=>obtain⟨z,its,n,r,e⟩:=x;exact⟨z,its,n,r,k _ _ (.inl rfl) e⟩
 | tup xs=>obtain⟨z,its,r,ob,e,c⟩:=x;exact⟨z,its,r,ob,k _ _ (.inl rfl) e,c⟩
 | dK kvs=>obtain⟨z,y,vs,r,ob,es,ep,e,c⟩:=x;exact⟨z,y,vs,r,ob,es,ep,k _ _ (.inl rfl) e,c⟩
 | dT kvs=>
  obtain⟨z,y,xs,r,ob,es,ep,e,c⟩:=x
  exact⟨z,y,xs,Paired.mapP r fun p q z=>⟨z.1,ht _ _ z.2.1,z.2.2⟩,ob,es,ep,k _ _ (.inl rfl) e,c⟩
 | set S n=>obtain⟨ob,es,ep,t,e,c⟩:=x;exact⟨ob,es,ep,t,k _ _ (.inl rfl) e,c⟩
 | ins C dx fs=>
  obtain⟨d,z,ne,e,mA,⟨od,es,ep,e2,c⟩,r⟩:=x
  exact⟨ho _ d,z,ne,k _ _ (.inl rfl) e,mA,⟨od,es,ep,k _ _ (.inr d) e2,c⟩,r⟩
 | own y=>obtain⟨ob,e⟩:=x;exact⟨ob,k _ _ (.inl rfl) e⟩
 | xd fs=>obtain⟨mA,⟨od,es,ep,e,c⟩,r⟩:=x;exact⟨mA,⟨od,es,ep,k _ _ (.inl rfl) e,c⟩,r⟩
 | rng lo hi=>obtain⟨t,u,v,e⟩:=x;exact⟨t,u,v,k _ _ (.inl rfl) e⟩
 | frz ob u ih=>obtain⟨e,q⟩:=x;exact⟨k _ _ (.inl rfl) e,ih q⟩
 | tbl ps=>
  have e:h.get? a=some { cls:= .none,data:= .fields ps }:=x
  show h'.get? a=some { cls:= .none,data:= .fields ps }
  exact k a _ (.inl rfl) e
 | met f y=>
  have e:h.get? a=some (PySem.W.methodObj (.ref f) (.ref y)):=x
  show h'.get? a=some (PySem.W.methodObj (.ref f) (.ref y))
  exact k a _ (.inl rfl) e
 | ext φ=>obtain⟨p,⟨o,e⟩,st⟩:=x;exact⟨st _ _ p fun o q=>k _ _ (.inl rfl) q,⟨o,k _ _ (.inl rfl) e⟩,st⟩
theorem HOk.lt (x:HOk P w H h) (e:H a=some o):a<h.objs.size:=(x a o e).lt
theorem HOk.fresh (x:HOk P w H h) (e:h.objs.size≤a):H a=none:=by
 cases q:H a with
 | none=>rfl
 | some u=>exact absurd (Nat.lt_of_lt_of_le (x.lt q) e) (Nat.lt_irrefl _)
theorem HOk.kept (x:HOk P w H h) (k:∀ b u,h.get? b=some u->h'.get? b=some u):HOk P w H h':=fun a o e=>
 (x a o e).stay (fun b u _ q=>k b u q) (fun _ q=>q) fun _ _ q=>q
theorem HOk.laid (x:HOk P w H h) (k:∀ b u,h.get? b=some u->h'.get? b=some u) (hp:h.objs.size≤a) (new:ObjOk P w (upd H a o) h' a o):HOk P w (upd H a o) h':=fun b u e=>by
 have hn:=x.fresh hp
 by_cases hb:b=a
 ·subst hb;rw[upd_same] at e;cases e;exact new
 ·rw[upd_ne hb] at e
  exact(x b u e).stay (fun c v _ q=>k c v q) (fun c q=>by rw[upd_ne (ne_of_none q hn)];exact q) fun c xs q=>by rw[upd_ne (ne_of_none q hn)];exact q
end
def Rd (H:Hp) (a:Addr) (u:HO):Prop:=H a=some u\/∃ o,H a=some (.frz o u)
theorem Rd.ok {P:Program} {w:World} {H:Hp} {h:Heap} {a:Addr} {u:HO} (r:Rd H a u) (x:HOk P w H h):ObjOk P w H h a u:=by
 rcases r with r | ⟨o,r⟩
 ·exact x a u r
 ·obtain⟨_,q⟩:=x a _ r
  exact q
def Mut:Option HO->Prop
 | some (.lst _)=>True
 | some (.dK _)=>True
 | some (.dT _)=>True
 | some (.set _ _)=>True
 | some (.ins _ _ _)=>True
 | some (.ext _)=>True
 | _=>False
section
variable {P:Program} {w:World} {H:Hp} {h h':Heap} {x e:Addr} {o':HO}
theorem HOk.write (ok:HOk P w H h) (mu:Mut (H x)) (he:e=x\/H e=some (.own x)) (k:∀ b u,b≠e->h.get? b=some u->h'.get? b=some u) (heo:∃ u,h'.get? e=some u)
  (new:ObjOk P w (upd H x o') h' x o'):HOk P w (upd H x o') h':=fun b u q=>by
 have nown:∀ c y,H c=some (.own y)->c≠x:=fun c y r z=>by subst z;rw[r] at mu;exact mu
 have ntup:∀ c xs,H c=some (.tup xs)->c≠x:=fun c xs r z=>by subst z;rw[r] at mu;exact mu
 by_cases hb:b=x
 ·subst hb;rw[upd_same] at q;cases q;exact new
 ·rw[upd_ne hb] at q
  by_cases hbe:b=e
  ·have q':H b=some (.own x):=by
    rcases he with z | z
    ·exact absurd (hbe.trans z) hb
    ·rw[hbe];exact z
   rw[q] at q';cases q'
   obtain⟨v,hv⟩:=heo
   exact⟨v,by rw[hbe];exact hv⟩
  ·refine(ok b u q).stay (fun c v hc r=>k c v ?_ r) (fun c r=>by rw[upd_ne (nown c b r)];exact r) fun c xs r=>by rw[upd_ne (ntup c xs r)];exact r
   rcases hc with rfl | hc
   ·exact hbe
   ·rintro rfl
    rcases he with z | z
    ·exact nown c b hc z
    ·rw[hc] at z;cases z;exact hb rfl
end
structure Un (fs ex:List Addr) (H H':Hp) (h h':Heap):Prop where
 keep:∀ b o,h.get? b=some o->H b=none->b ∉ fs->b ∉ ex->h'.get? b=some o
 slot:∀ b o,h.get? b=some o->H b=none->b∈fs->b ∉ ex->∃ sl,h'.get? b=some { o with slots:=sl }
 free:∀ b o,h.get? b=some o->H b=none->b ∉ ex->H' b=none
 there:∀ b o,h.get? b=some o->b ∉ ex->∃ o',h'.get? b=some o'
 tups:∀ b xs,H b=some (.tup xs)->H' b=some (.tup xs)
 frzs:∀ b o u,H b=some (.frz o u)->H' b=some (.frz o u)
 tbls:∀ b ps,H b=some (.tbl ps)->∃ more,H' b=some (.tbl (ps ++ more))
section
variable {fs fs' ex ex':List Addr} {H H1 H2:Hp} {h h1 h2 h':Heap} {a x e:Addr} {o:HO}
theorem Un.any (u:Un fs ex H H1 h h1) {b:Addr} {ob:Obj} (q:h.get? b=some ob) (n:H b=none) (hx:b ∉ ex):∃ sl,h1.get? b=some { ob with slots:=sl }:=by
 by_cases hb:b∈fs
 ·exact u.slot b ob q n hb hx
 ·exact⟨ob.slots,u.keep b ob q n hb hx⟩
theorem Un.kept (k:∀ b u,h.get? b=some u->h'.get? b=some u):Un fs ex H H h h':=
 ⟨fun b ob q _ _ _=>k b ob q,fun b ob q _ _ _=>⟨ob.slots,k b ob q⟩,fun _ _ _ n _=>n,fun b ob q _=>⟨ob,k b ob q⟩,fun _ _ q=>q,fun _ _ _ q=>q,fun _ ps q=>⟨#[],by rw[q];simp⟩⟩
theorem Un.refl:Un fs ex H H h h:=Un.kept fun _ _ q=>q
theorem Un.laid (k:∀ b u,h.get? b=some u->h'.get? b=some u) (hp:h.objs.size≤a) (hn:H a=none):Un fs ex H (upd H a o) h h' where
 keep:=fun b u q _ _ _=>k b u q
 slot:=fun b u q _ _ _=>⟨u.slots,k b u q⟩
 free:=fun b u q n _=>by rw[upd_ne (Nat.ne_of_lt (Nat.lt_of_lt_of_le (Heap.lt_size q) hp))];exact n
 there:=fun b u q _=>⟨u,k b u q⟩
 tups:=fun b xs q=>by rw[upd_ne (ne_of_none q hn)];exact q
 frzs:=fun b u xs q=>by rw[upd_ne (ne_of_none q hn)];exact q
 tbls:=fun b ps q=>⟨#[],by rw[upd_ne (ne_of_none q hn),q];simp⟩
theorem Un.write (mu:Mut (H x)) (he:e=x\/H e=some (.own x)) (k:∀ b u,b≠e->h.get? b=some u->h'.get? b=some u) (heo:∃ u,h'.get? e=some u):Un fs ex H (upd H x o) h h':=by
 have hx:∀ b,H b=none->b≠x:=fun b n z=>by subst z;rw[n] at mu;exact mu
 have hb:∀ b,H b=none->b≠e:=fun b n z=>by
  subst z
  rcases he with r | r
  ·exact hx b n r
  ·rw[n] at r;cases r
 have hm:∀ b u,H b=some u->¬ Mut (some u)->b≠x:=fun b u q nm z=>by subst z;rw[q] at mu;exact nm mu
 refine⟨fun b u q n _ _=>k b u (hb b n) q,fun b u q n _ _=>⟨u.slots,k b u (hb b n) q⟩,fun b u q n _=>by rw[upd_ne (hx b n)];exact n,fun b u q _=>?_,
  fun b xs q=>by rw[upd_ne (hm b _ q fun z=>z)];exact q,fun b u xs q=>by rw[upd_ne (hm b _ q fun z=>z)];exact q,fun b ps q=>⟨#[],by rw[upd_ne (hm b _ q fun z=>z),q];simp⟩⟩
 by_cases hbe:b=e
 ·subst hbe;exact heo
 ·exact⟨u,k b u hbe q⟩
end
def trk (h:Heap) (H:Hp):List Addr:=(List.range h.objs.size).filter fun a=>(H a).isSome
def hidT (h:Heap) (H:Hp):Heap:=PySem.W.hideAll h (trk h H)
theorem hidT_size (h:Heap) (H:Hp):(hidT h H).objs.size=h.objs.size:=PySem.W.hideAll_size _ _
theorem hidT_get {h:Heap} {H:Hp} {b:Addr} {o:Obj} (e:h.get? b=some o) (n:H b=none):(hidT h H).get? b=some o:=
 PySem.W.hideAll_get _ e fun hm=>by
  have q:(H b).isSome=true:=(List.mem_filter.mp hm).2
  rw[n] at q;simp at q
theorem of_hidT {h:Heap} {H:Hp} {b:Addr} {o:Obj} (e:(hidT h H).get? b=some o):h.get? b=some o/\H b=none:=by
 have e':h.get? b=some o:=PySem.W.of_hideAll (trk h H) e
 refine⟨e',?_⟩
 cases q:H b with
 | none=>rfl
 | some x=>
  have hm:b∈trk h H:=List.mem_filter.mpr ⟨List.mem_range.mpr (Heap.lt_size e'),by simp[q]⟩
  have z:(hidT h H).get? b=none:=PySem.W.hideAll_none (trk h H) hm
  rw[z] at e;cases e
end L2
namespace L2
open PySem PySem.Spec PyProof.Rows
structure Mod (K:PySem.W.Frag) (mg:Str->Option Value) (base:Heap):Prop where
 kin:K.In base
 glob:base.Ns mainGlobals mg
 blt:∃ mb,base.Ns builtinsNs mb/\∀ x:Str,x≠ "__name__" -> mb x=bootBuiltins x
 nolimit:base.NoLimit
structure Cx where
 prog:Program
 w:World
 K:PySem.W.Frag
 mg:Str->Option Value
 base:Heap
 A:Around
 N:List Str
 s₀:Shared
 H₀:Hp
 env:Env
 outer:List Env
 stack:List Env
 ex:List Addr
 fn:Str->Bool
 calm:Bool
 pn:List (Addr × Obj)
 xe:Value->Shared->Prop
def frs (l:List Env):List Addr:=l.filterMap (·.frame)
abbrev Cx.fs (X:Cx):List Addr:=frs X.outer
def Vis (sc:Scope) (x:Str):Prop:=sc.names.lookup x=some .local\/sc.names.lookup x=some .cell\/sc.names.lookup x=some .free
def Loc (sc:Scope) (x:Str):Prop:=sc.names.lookup x=some .local\/sc.names.lookup x=some .cell
def Look (env:Env) (h:Heap) (m:Str->Option Value) (x:Str) (u:Value):Prop:=
 (env.kindOf x=some .local/\m x=some u)\/((env.kindOf x=some .cell\/env.kindOf x=some .free)/\∃ c,env.cells.lookup x=some c/\h.IsCell c (some u))
structure Cx.Ok (X:Cx):Prop where
 mod:Mod X.K X.mg X.base
 kind:X.env.scope.kind= .function
 glob:X.env.globals=mainGlobals
 blt:X.env.builtins=builtinsNs
 above:X.s₀.heap.objs.size≤X.env.locals
 inj:∀ x y c,X.env.cells.lookup x=some c->X.env.cells.lookup y=some c->x=y
 has:∀ x,(X.env.kindOf x=some .cell\/X.env.kindOf x=some .free)->∃ c,X.env.cells.lookup x=some c
 cab:∀ x c,X.fn x=true->X.env.cells.lookup x=some c->X.s₀.heap.objs.size≤c
 hd:X.calm=true->X.A.handled=none
 frames:X.A.frames=some X.stack
 stk:X.stack=X.outer\/(X.stack=X.env :: X.outer/\X.env.frame=some X.env.locals)
 exf:∀ b∈X.ex,b≠X.env.locals/\∀ x c,X.env.cells.lookup x=some c->c≠b
 bs:∀ b o,X.base.get? b=some o->X.s₀.heap.get? b=some o/\X.H₀ b=none
 bsz:X.base.objs.size≤X.s₀.heap.objs.size
 noex:∀ b o,X.base.get? b=some o->b ∉ X.ex
 exfs:∀ b∈X.ex,b ∉ X.fs
 funs:X.s₀.heap.FunFrames X.base X.outer
 frf:∀ b∈X.fs,X.H₀ b=none
structure Inv (X:Cx) (pins:List (Addr × Obj)) (σ:List (Option V)) (H:Hp) (s:Shared):Prop where
 ok:X.Ok
 os:s.os=X.s₀.os
 bare:AllBare s.gens
 base:Un X.fs X.ex X.H₀ H X.s₀.heap s.heap
 loc:∃ m,s.heap.Ns X.env.locals m/\∀ (i:Nat) (x:Str) (v:V),X.N[i]?=some x->σ[i]?=some (some v)->Vis X.env.scope x->∃ u,RelV v u/\Look X.env s.heap m x u
 cell:∀ x c,X.env.cells.lookup x=some c->∃ v,s.heap.IsCell c v
 free:H X.env.locals=none
 freeC:∀ x c,X.env.cells.lookup x=some c->H c=none
 pin:∀ p∈X.pn ++ pins,s.heap.get? p.1=some p.2/\H p.1=none/\p.1≠X.env.locals/\p.1 ∉ X.fs/\∀ v,p.2.data≠ .cell v
 hok:HOk X.prog X.w H s.heap
 len:σ.length=X.N.length
section
variable {X:Cx} {pins:List (Addr × Obj)} {σ:List (Option V)} {H H':Hp} {s:Shared} {h':Heap}
theorem Cx.Ok.nofr (ok:X.Ok) {b:Addr} {o:Obj} (e:X.base.get? b=some o):b ∉ X.fs:=fun hb=>by
 have:=(ok.funs.mem hb).1
 rw[e] at this;cases this
theorem Inv.bs (I:Inv X pins σ H s):∀ b o,X.base.get? b=some o->s.heap.get? b=some o/\H b=none:=fun b o e=>
 ⟨I.base.keep b o (I.ok.bs b o e).1 (I.ok.bs b o e).2 (I.ok.nofr e) (I.ok.noex b o e),I.base.free b o (I.ok.bs b o e).1 (I.ok.bs b o e).2 (I.ok.noex b o e)⟩
theorem Inv.bk (I:Inv X pins σ H s):∀ b o,X.base.get? b=some o->s.heap.get? b=some o:=fun b o e=>(I.bs b o e).1
theorem Inv.mod (I:Inv X pins σ H s):Mod X.K X.mg X.base:=I.ok.mod
theorem Inv.kIn (I:Inv X pins σ H s):X.K.In s.heap:=I.ok.mod.kin.keeps I.bk
theorem Inv.lt (I:Inv X pins σ H s):X.env.locals<s.heap.objs.size:=let ⟨_,hn,_⟩:=I.loc;hn.lt
theorem Inv.sz (I:Inv X pins σ H s):X.s₀.heap.objs.size≤s.heap.objs.size:=Nat.le_trans I.ok.above (Nat.le_of_lt I.lt)
theorem Inv.nofs (I:Inv X pins σ H s) {a:Addr} (h:s.heap.objs.size≤a):a ∉ X.fs:=fun hb=>by
 obtain⟨_,o,ho,_⟩:=I.ok.funs.mem hb
 exact absurd (Nat.lt_of_lt_of_le (Heap.lt_size ho) (Nat.le_trans I.sz h)) (Nat.lt_irrefl _)
theorem Inv.cne (I:Inv X pins σ H s):∀ x c,X.env.cells.lookup x=some c->c≠X.env.locals:=fun x c e z=>by
 obtain⟨v,o,ho,hd⟩:=I.cell x c e
 obtain⟨m,⟨o',es,ep,ho',hd',_⟩,_⟩:=I.loc
 rw[z,ho'] at ho;cases ho;rw[hd'] at hd;cases hd
theorem Inv.funs (I:Inv X pins σ H s):s.heap.FunFrames X.base X.outer:=by
 have all:∀ (l:List Env),(∀ b∈frs l,b∈X.fs)->X.s₀.heap.FunFrames X.base l->s.heap.FunFrames X.base l:=by
  intro l
  induction l with
  | nil=>intro _ _;trivial
  | cons env r ih=>
   intro hs hl
   obtain⟨hk,⟨L,o,hf,hn,ho,hd⟩,hr⟩:=hl
   have hL:L∈X.fs:=hs L (by unfold frs;rw[List.filterMap_cons,hf];exact List.mem_cons_self)
   obtain⟨sl,e⟩:=I.base.slot L o ho (I.ok.frf L hL) hL fun z=>I.ok.exfs L z hL
   exact⟨hk,⟨L,_,hf,hn,e,hd⟩,ih (fun b hb=>hs b (by unfold frs;rw[List.filterMap_cons,hf];exact List.mem_cons_of_mem _ hb)) hr⟩
 exact all X.outer (fun _ hb=>hb) I.ok.funs
theorem Inv.stack (I:Inv X pins σ H s):s.heap.FunFrames X.base X.stack:=by
 rcases I.ok.stk with e | ⟨e,hf⟩
 ·rw[e];exact I.funs
 ·rw[e]
  obtain⟨m,hn,_⟩:=I.loc
  refine .cons (by rw[I.ok.kind];decide) hf hn ?_ I.funs
  exact Heap.get?_none_of_le (Nat.le_trans I.ok.bsz I.ok.above)
theorem Inv.stkSub (I:Inv X pins σ H s):∀ b∈frs X.stack,b∈X.env.locals :: X.fs:=fun b hb=>by
 rcases I.ok.stk with e | ⟨e,hf⟩
 ·rw[e] at hb;exact List.mem_cons_of_mem _ hb
 ·rw[e] at hb
  unfold frs at hb
  rw[List.filterMap_cons,hf] at hb
  exact hb
theorem Inv.stkFree (I:Inv X pins σ H s):∀ b∈frs X.stack,H b=none:=fun b hb=>by
 rcases List.mem_cons.mp (I.stkSub b hb) with e | hb
 ·rw[e];exact I.free
 ·obtain⟨_,o,ho,_⟩:=I.ok.funs.mem hb
  exact I.base.free b o ho (I.ok.frf b hb) fun z=>I.ok.exfs b z hb
theorem Inv.step {g':Array GenState} {t':Nat} {d':Drawn} {ch:List Addr} (I:Inv X pins σ H s)
  (hch:∀ b∈ch,(b∈X.ex\/X.s₀.heap.objs.size≤b)/\b≠X.env.locals/\(∀ x c,X.env.cells.lookup x=some c->c≠b)/\∀ p∈X.pn ++ pins,p.1≠b)
  (keep:∀ b o,b≠X.env.locals->b ∉ X.fs->b ∉ ch->s.heap.get? b=some o->H b=none->h'.get? b=some o)
  (slot:∀ b o,b≠X.env.locals->b∈X.fs->b ∉ ch->s.heap.get? b=some o->H b=none->∃ sl,h'.get? b=some { o with slots:=sl }) (free:∀ b o,b ∉ ch->s.heap.get? b=some o->H b=none->H' b=none)
  (there:∀ b o,b ∉ ch->s.heap.get? b=some o->∃ o',h'.get? b=some o')
  (tups:∀ b xs,H b=some (.tup xs)->H' b=some (.tup xs)) (frzs:∀ b o u,H b=some (.frz o u)->H' b=some (.frz o u)) (tbls:∀ b ps,H b=some (.tbl ps)->∃ more,H' b=some (.tbl (ps ++ more)))
  (ns:∀ m,s.heap.Ns X.env.locals m->h'.Ns X.env.locals m) (hok:HOk X.prog X.w H' h') (hg:AllBare g') :
  Inv X pins σ H' { s with heap:=h',gens:=g',drawn:=d',toks:=t' }:=by
 have neL:∀ b o,X.s₀.heap.get? b=some o->b≠X.env.locals:=fun b o e=>Nat.ne_of_lt (Nat.lt_of_lt_of_le (Heap.lt_size e) I.ok.above)
 have neC:∀ b o,X.s₀.heap.get? b=some o->b ∉ X.ex->b ∉ ch:=fun b o e hx hb=>by
  rcases(hch b hb).1 with z | z
  ·exact hx z
  ·exact absurd (Nat.lt_of_lt_of_le (Heap.lt_size e) z) (Nat.lt_irrefl _)
 have cellK:∀ x c,X.env.cells.lookup x=some c->∀ v,s.heap.IsCell c v->h'.IsCell c v:=fun x c e v ⟨o,ho,hd⟩=>by
  have nch:c ∉ ch:=fun z=>(hch c z).2.2.1 x c e rfl
  by_cases hc:c∈X.fs
  ·obtain⟨sl,q⟩:=slot c o (I.cne x c e) hc nch ho (I.freeC x c e)
   exact⟨_,q,hd⟩
  ·exact⟨o,keep c o (I.cne x c e) hc nch ho (I.freeC x c e),hd⟩
 refine⟨I.ok,I.os,hg,⟨fun b o e n hb hx=>?_,fun b o e n hb hx=>?_,fun b o e n hx=>?_,fun b o e hx=>?_,fun b xs e=>tups b xs (I.base.tups b xs e),fun b o xs e=>frzs b o xs (I.base.frzs b o xs e),fun b ps e=>?_⟩,?_,fun x c e=>?_,?_,fun x c e=>?_,fun p hp=>?_,hok,I.len⟩
 ·exact keep b o (neL b o e) hb (neC b o e hx) (I.base.keep b o e n hb hx) (I.base.free b o e n hx)
 ·obtain⟨sl,e1⟩:=I.base.slot b o e n hb hx
  obtain⟨sl',e2⟩:=slot b _ (neL b o e) hb (neC b o e hx) e1 (I.base.free b o e n hx)
  exact⟨sl',e2⟩
 ·obtain⟨o',e1⟩:=I.base.there b o e hx
  exact free b o' (neC b o e hx) e1 (I.base.free b o e n hx)
 ·obtain⟨o',e1⟩:=I.base.there b o e hx
  exact there b o' (neC b o e hx) e1
 ·obtain⟨m1,e1⟩:=I.base.tbls b ps e
  obtain⟨m2,e2⟩:=tbls b _ e1
  exact⟨m1 ++ m2,by rw[e2,Array.append_assoc]⟩
 ·obtain⟨m,hn,hl⟩:=I.loc
  refine⟨m,ns m hn,fun i x v e1 e2 e3=>?_⟩
  obtain⟨u,r,l⟩:=hl i x v e1 e2 e3
  refine⟨u,r,?_⟩
  rcases l with l | ⟨k,c,e,z⟩
  ·exact .inl l
  ·exact .inr ⟨k,c,e,cellK x c e _ z⟩
 ·obtain⟨v,z⟩:=I.cell x c e
  exact⟨v,cellK x c e v z⟩
 ·obtain⟨m,⟨o,_,_,ho,_⟩,_⟩:=I.loc
  exact free _ o (fun z=>(hch _ z).2.1 rfl) ho I.free
 ·obtain⟨v,o,ho,hd⟩:=I.cell x c e
  exact free c o (fun z=>(hch c z).2.2.1 x c e rfl) ho (I.freeC x c e)
 ·obtain⟨e,n,ne,nf,d⟩:=I.pin p hp
  have nch:p.1 ∉ ch:=fun z=>(hch p.1 z).2.2.2 p hp rfl
  exact⟨keep p.1 p.2 ne nf nch e n,free p.1 p.2 nch e n,ne,nf,d⟩
theorem Inv.un {t':Nat} (I:Inv X pins σ H s) (u:Un X.fs [] H H' s.heap h') (hok:HOk X.prog X.w H' h'):Inv X pins σ H' { s with heap:=h',toks:=t' }:=by
 obtain⟨m,⟨o,es,ep,ho,r⟩,_⟩:=id I.loc
 obtain⟨sl,hL⟩:=u.any ho I.free (by simp)
 exact I.step (g':=s.gens) (d':=s.drawn) (ch:=[]) (fun _ z=>nomatch z) (fun b o _ hb _ e n=>u.keep b o e n hb (by simp)) (fun b o _ hb _ e n=>u.slot b o e n hb (by simp)) (fun b o _ e n=>u.free b o e n (by simp)) (fun b o _ e=>u.there b o e (by simp)) u.tups u.frzs u.tbls (fun m' hm=>by
  obtain⟨o',es',ep',ho',r'⟩:=hm
  rw[ho] at ho';cases ho'
  exact⟨_,es',ep',hL,r'⟩) hok I.bare
theorem Inv.call {g':Array GenState} {t':Nat} {d':Drawn} {ch:List Addr} (I:Inv X pins σ H s) (u:Un (frs X.stack) ch H H' s.heap h') (hok:HOk X.prog X.w H' h') (hg:AllBare g')
  (hch:∀ b∈ch,(b∈X.ex\/X.s₀.heap.objs.size≤b)/\b≠X.env.locals/\(∀ x c,X.env.cells.lookup x=some c->c≠b)/\∀ p∈X.pn ++ pins,p.1≠b) :
  Inv X pins σ H' { s with heap:=h',gens:=g',drawn:=d',toks:=t' }:=by
 obtain⟨m,⟨o,es,ep,ho,r⟩,_⟩:=id I.loc
 obtain⟨sl,hL⟩:=u.any ho I.free fun z=>(hch _ z).2.1 rfl
 exact I.step (ch:=ch) hch (fun b o hL hb hc e n=>u.keep b o e n (fun z=>(List.mem_cons.mp (I.stkSub b z)).elim hL hb) hc) (fun b o _ _ hc e n=>u.any e n hc) (fun b o hc e n=>u.free b o e n hc) (fun b o hc e=>u.there b o e hc) u.tups u.frzs u.tbls (fun m' hm=>by
  obtain⟨o',es',ep',ho',r'⟩:=hm
  rw[ho] at ho';cases ho'
  exact⟨_,es',ep',hL,r'⟩) hok hg
theorem Inv.turned {t':Nat} {it:Addr} (I:Inv X pins σ H s) (k:∀ b o,b≠it->s.heap.get? b=some o->h'.get? b=some o) (hn:H it=none) (hL:it≠X.env.locals)
  (h1:it∈X.ex\/X.s₀.heap.objs.size≤it) (h2:∀ x c,X.env.cells.lookup x=some c->c≠it) (h3:∀ p∈X.pn ++ pins,p.1≠it):Inv X pins σ H { s with heap:=h',toks:=t' }:=by
 have nit:∀ b u,H b=some u->b≠it:=fun b u e z=>by rw[z,hn] at e;cases e
 refine I.step (g':=s.gens) (d':=s.drawn) (ch:=[it]) (fun b hb=>?_) (fun b o _ _ hc e _=>k b o (fun z=>hc (by simp[z])) e) (fun b o _ _ hc e _=>⟨o.slots,k b o (fun z=>hc (by simp[z])) e⟩) (fun _ _ _ _ n=>n)
  (fun b o hc e=>⟨o,k b o (fun z=>hc (by simp[z])) e⟩) (fun _ _ e=>e) (fun _ _ _ e=>e) (fun b ps e=>⟨#[],by rw[e];simp⟩) (fun m hm=>?_) (fun b u e=>?_) I.bare
 ·have e:b=it:=by simpa using hb
  subst e
  exact⟨h1,hL,h2,h3⟩
 ·obtain⟨o,es,ep,ho,r⟩:=hm
  exact⟨o,es,ep,k _ o (Ne.symm hL) ho,r⟩
 ·refine(I.hok b u e).stay (fun c v hc q=>k c v ?_ q) (fun _ q=>q) fun _ _ q=>q
  rcases hc with z | z
  ·rw[z];exact nit b u e
  ·exact nit c _ z
theorem Inv.tok (I:Inv X pins σ H s) (t:Nat):Inv X pins σ H { s with toks:=t }:=I.un (h':=s.heap) (t':=t) Un.refl I.hok
theorem Inv.kept {t':Nat} (I:Inv X pins σ H s) (k:∀ b u,s.heap.get? b=some u->h'.get? b=some u):Inv X pins σ H { s with heap:=h',toks:=t' }:=I.un (Un.kept k) (I.hok.kept k)
theorem Inv.laid {a:Addr} {o:HO} {t':Nat} (I:Inv X pins σ H s) (k:∀ b u,s.heap.get? b=some u->h'.get? b=some u) (hp:s.heap.objs.size≤a) (new:ObjOk X.prog X.w (upd H a o) h' a o) :
  Inv X pins σ (upd H a o) { s with heap:=h',toks:=t' }:=I.un (Un.laid k hp (I.hok.fresh hp)) (I.hok.laid k hp new)
theorem Inv.write {x e:Addr} {o:HO} {t':Nat} (I:Inv X pins σ H s) (mu:Mut (H x)) (he:e=x\/H e=some (.own x)) (k:∀ b u,b≠e->s.heap.get? b=some u->h'.get? b=some u) (heo:∃ u,h'.get? e=some u)
  (new:ObjOk X.prog X.w (upd H x o) h' x o):Inv X pins σ (upd H x o) { s with heap:=h',toks:=t' }:=I.un (Un.write mu he k heo) (I.hok.write mu he k heo new)
theorem Inv.pins_of {pins':List (Addr × Obj)} (I:Inv X pins σ H s) (h:∀ p∈pins',s.heap.get? p.1=some p.2/\H p.1=none/\p.1≠X.env.locals/\p.1 ∉ X.fs/\∀ v,p.2.data≠ .cell v):Inv X pins' σ H s:=
 ⟨I.ok,I.os,I.bare,I.base,I.loc,I.cell,I.free,I.freeC,fun p hp=>(List.mem_append.mp hp).elim (fun z=>I.pin p (List.mem_append_left _ z)) (h p),I.hok,I.len⟩
theorem nodup_ix {N:List Str} (hN:N.Nodup) {i j:Nat} {x:Str} (a:N[i]?=some x) (b:N[j]?=some x):i=j:=by
 obtain⟨h1,e1⟩:=List.getElem?_eq_some_iff.mp a
 obtain⟨h2,e2⟩:=List.getElem?_eq_some_iff.mp b
 exact(List.getElem_inj hN).mp (e1.trans e2.symm)
theorem store_ok2 {M:Model} {A:Around} {E:Value->Shared->Prop} {i:Nat} {x:Str} {v:V} {u:Value} {Q:Unit->Shared->Prop} (I:Inv X pins σ H s) (hN:X.N.Nodup) (hi:X.N[i]?=some x) (hx:Loc X.env.scope x) (r:RelV v u)
  (h:∀ s',Inv X pins (σ.set i (some v)) H s'->(∃ a,Heap.SameBut a s.heap s'.heap/\(a=X.env.locals\/X.env.cells.lookup x=some a))->Q () s') (hf:X.fn x=true\/X.env.scope.names.lookup x=some .local:=by first | exact .inl rfl | exact .inr rfl | assumption):wpAny M A (storeName X.env x u) Q E s:=by
 obtain⟨m,hn,hl⟩:=id I.loc
 have hcls:(X.env.scope.kind == .class || (X.env.scope.kind == .module && X.env.locals != X.env.globals))=false:=by rw[I.ok.kind];rfl
 have hiσ:i<σ.length:=by rw[I.len];exact(List.getElem?_eq_some_iff.mp hi).1
 have cne:=I.cne
 have tracked:∀ {a:Addr} {h':Heap},(∃ o,s.heap.get? a=some o/\H a=none)->Heap.SameBut a s.heap h'->HOk X.prog X.w H h':=fun {a h'} ha hs b ob e=>by
  obtain⟨_,_,hfree⟩:=ha
  refine(I.hok b ob e).stay (fun c w' hc q=>(hs.2 c ?_).trans q) (fun _ q=>q) fun _ _ q=>q
  rintro rfl
  rcases hc with rfl | hc
  ·rw[hfree] at e;cases e
  ·rw[hfree] at hc;cases hc
 rcases hx with hk | hk
 ·refine wpAny_storeName_local hk hn (fun h' hn' hs=>?_) hcls
  obtain⟨oL,_,_,hoL,_⟩:=id hn
  refine h _ ⟨I.ok,I.os,I.bare,⟨fun b o e n hb hx=>?_,fun b o e n hb hx=>?_,I.base.free,fun b o e hx=>?_,I.base.tups,I.base.frzs,I.base.tbls⟩,⟨_,hn',fun j y v' e1 e2 e3=>?_⟩,fun y c e=>?_,I.free,I.freeC,fun p hp=>?_,tracked ⟨oL,hoL,I.free⟩ hs,by simpa using I.len⟩ ⟨_,hs, .inl rfl⟩
  ·exact(hs.2 b (Nat.ne_of_lt (Nat.lt_of_lt_of_le (Heap.lt_size e) I.ok.above))).trans (I.base.keep b o e n hb hx)
  ·obtain⟨sl,e1⟩:=I.base.slot b o e n hb hx
   exact⟨sl,(hs.2 b (Nat.ne_of_lt (Nat.lt_of_lt_of_le (Heap.lt_size e) I.ok.above))).trans e1⟩
  ·obtain⟨o',e1⟩:=I.base.there b o e hx
   exact⟨o',(hs.2 b (Nat.ne_of_lt (Nat.lt_of_lt_of_le (Heap.lt_size e) I.ok.above))).trans e1⟩
  ·by_cases hj:j=i
   ·subst hj
    rw[hi] at e1;cases e1
    rw[List.getElem?_set_self hiσ] at e2
    cases e2
    exact⟨u,r, .inl ⟨hk,by simp⟩⟩
   ·rw[List.getElem?_set_ne (Ne.symm hj)] at e2
    obtain⟨u',r',q⟩:=hl j y v' e1 e2 e3
    refine⟨u',r',?_⟩
    rcases q with ⟨k,e⟩ | ⟨k,c,e,z⟩
    ·refine .inl ⟨k,?_⟩
     have:y≠x:=fun e=>hj (nodup_ix hN e1 (e ▸ hi))
     simp[this,e]
    ·exact .inr ⟨k,c,e,z.sameBut hs (cne y c e)⟩
  ·obtain⟨w',z⟩:=I.cell y c e
   exact⟨w',z.sameBut hs (cne y c e)⟩
  ·obtain⟨e,n,ne,nf,d⟩:=I.pin p hp
   exact⟨(hs.2 p.1 ne).trans e,n,ne,nf,d⟩
 ·have hfn:X.fn x=true:=by
   rcases hf with z | z
   ·exact z
   ·rw[z] at hk;cases hk
  obtain⟨c,hc⟩:=I.ok.has x (.inl hk)
  obtain⟨w',z⟩:=I.cell x c hc
  refine wpAny_storeName_cell I.ok.kind hk hc z (fun h' hc' hs=>?_)
  obtain⟨oc,hoc,hocd⟩:=id z
  refine h { s with heap:=h' } ⟨I.ok,I.os,I.bare,⟨fun b o e n hb hx=>?_,fun b o e n hb hx=>?_,I.base.free,fun b o e hx=>?_,I.base.tups,I.base.frzs,I.base.tbls⟩,⟨m,hn.sameBut hs (Ne.symm (cne x c hc)),fun j y v' e1 e2 e3=>?_⟩,fun y c' e=>?_,I.free,I.freeC,fun p hp=>?_,tracked ⟨oc,hoc,I.freeC x c hc⟩ hs,by simpa using I.len⟩ ⟨c,hs, .inr hc⟩
  ·exact(hs.2 b (Nat.ne_of_lt (Nat.lt_of_lt_of_le (Heap.lt_size e) (I.ok.cab x c hfn hc)))).trans (I.base.keep b o e n hb hx)
  ·obtain⟨sl,e1⟩:=I.base.slot b o e n hb hx
   exact⟨sl,(hs.2 b (Nat.ne_of_lt (Nat.lt_of_lt_of_le (Heap.lt_size e) (I.ok.cab x c hfn hc)))).trans e1⟩
  ·obtain⟨o',e1⟩:=I.base.there b o e hx
   exact⟨o',(hs.2 b (Nat.ne_of_lt (Nat.lt_of_lt_of_le (Heap.lt_size e) (I.ok.cab x c hfn hc)))).trans e1⟩
  ·by_cases hj:j=i
   ·subst hj
    rw[hi] at e1;cases e1
    rw[List.getElem?_set_self hiσ] at e2
    cases e2
    exact⟨u,r, .inr ⟨.inl hk,c,hc,hc'⟩⟩
   ·rw[List.getElem?_set_ne (Ne.symm hj)] at e2
    obtain⟨u',r',q⟩:=hl j y v' e1 e2 e3
    refine⟨u',r',?_⟩
    rcases q with q | ⟨k,c',e,z'⟩
    ·exact .inl q
    ·refine .inr ⟨k,c',e,z'.sameBut hs ?_⟩
     rintro rfl
     exact hj (nodup_ix hN e1 (I.ok.inj _ _ _ e hc ▸ hi))
  ·by_cases hcc:c'=c
   ·subst hcc;exact⟨_,hc'⟩
   ·obtain⟨w2,z2⟩:=I.cell y c' e
    exact⟨w2,z2.sameBut hs hcc⟩
  ·obtain⟨e,n,ne,nf,d⟩:=I.pin p hp
   refine⟨(hs.2 p.1 ?_).trans e,n,ne,nf,d⟩
   intro q
   rw[q,hoc] at e
   have q':oc=p.2:=Option.some.inj e
   exact d w' (by rw[<- q'];exact hocd)
theorem store_ok {M:Model} {A:Around} {E:Value->Shared->Prop} {i:Nat} {x:Str} {v:V} {u:Value} {Q:Unit->Shared->Prop} (I:Inv X pins σ H s) (hN:X.N.Nodup) (hi:X.N[i]?=some x) (hx:Loc X.env.scope x) (r:RelV v u)
  (h:∀ s',Inv X pins (σ.set i (some v)) H s'->Q () s') (hf:X.fn x=true\/X.env.scope.names.lookup x=some .local:=by first | exact .inl rfl | exact .inr rfl | assumption):wpAny M A (storeName X.env x u) Q E s:=
 store_ok2 I hN hi hx r (fun s' I' _=>h s' I') hf
theorem Inv.call' {s':Shared} {ch:List Addr} (I:Inv X pins σ H s) (ho:s'.os=s.os) (u:Un (frs X.stack) ch H H' s.heap s'.heap) (hok:HOk X.prog X.w H' s'.heap) (hg:AllBare s'.gens)
  (hch:∀ b∈ch,(b∈X.ex\/X.s₀.heap.objs.size≤b)/\b≠X.env.locals/\(∀ x c,X.env.cells.lookup x=some c->c≠b)/\∀ p∈X.pn ++ pins,p.1≠b):Inv X pins σ H' s':=by
 obtain⟨h',g',d',t',o'⟩:=s'
 have e:o'=s.os:=ho
 subst e
 exact I.call (g':=g') (t':=t') (d':=d') u hok hg hch
end
abbrev XK:=Value->Option Addr->Hp->Prop
abbrev St:=List (Option V)
abbrev VK:=V->Hp->Prop
abbrev TE:=St->Hp->VK->Prop
abbrev TT:=St->Hp->(Bool->Hp->Prop)->Prop
abbrev TA:=St->Hp->(List V->Hp->Prop)->Prop
structure Ends where
 nx:St->Hp->Prop
 rt:VK
 bk:St->Hp->Prop:=fun _ _=>False
 ct:St->Hp->Prop:=fun _ _=>False
abbrev TS:=Ends->St->Hp->Prop
def EP (X:Cx) (pins:List (Addr × Obj)) (σ:St) (Q:VK) (u:Value) (s':Shared):Prop:=∃ v H',Inv X pins σ H' s'/\RelV v u/\Q v H'
def TP (X:Cx) (pins:List (Addr × Obj)) (σ:St) (Q:Bool->Hp->Prop) (b:Bool) (s':Shared):Prop:=∃ H',Inv X pins σ H' s'/\Q b H'
def AP (X:Cx) (pins:List (Addr × Obj)) (σ:St) (Q:List V->Hp->Prop) (us:List Value) (s':Shared):Prop:=∃ vs H',Inv X pins σ H' s'/\Vals vs us/\Q vs H'
def SP (X:Cx) (pins:List (Addr × Obj)) (D:Ends) (f:Flow) (s':Shared):Prop:=
 match f with
 | .next=>∃ σ' H',Inv X pins σ' H' s'/\D.nx σ' H'
 | .brk=>∃ σ' H',Inv X pins σ' H' s'/\D.bk σ' H'
 | .cont=>∃ σ' H',Inv X pins σ' H' s'/\D.ct σ' H'
 | .ret u=>∃ v σ' H',Inv X pins σ' H' s'/\RelV v u/\D.rt v H'
def PE (X:Cx) (e:Expr) (t:TE):Prop:=
 ∀ (pins:List (Addr × Obj)) (s:Shared) (σ:St) (H:Hp) (Q:VK),Inv X pins σ H s->t σ H Q->wpAny (model X.prog X.w) X.A (eval e X.env) (EP X pins σ Q) X.xe s
def PT (X:Cx) (e:Expr) (t:TT):Prop:=
 ∀ (pins:List (Addr × Obj)) (s:Shared) (σ:St) (H:Hp) (Q:Bool->Hp->Prop),Inv X pins σ H s->t σ H Q->wpAny (model X.prog X.w) X.A (isTrue e X.env (eval e X.env)) (TP X pins σ Q) X.xe s
def PW (X:Cx) (e:Expr) (t:TT):Prop:=
 ∀ (whole:Sem Value) (pins:List (Addr × Obj)) (s:Shared) (σ:St) (H:Hp) (Q:Bool->Hp->Prop),Inv X pins σ H s->t σ H Q->wpAny (model X.prog X.w) X.A (isTrue e X.env whole) (TP X pins σ Q) X.xe s
theorem PW.pt {X:Cx} {e:Expr} {t:TT} (h:PW X e t):PT X e t:=h _
def PA (X:Cx) (es:List Expr) (t:TA):Prop:=
 ∀ (pos:Pos) (pins:List (Addr × Obj)) (s:Shared) (σ:St) (H:Hp) (Q:List V->Hp->Prop),Inv X pins σ H s->t σ H Q->wpAny (model X.prog X.w) X.A (spliced (backTo pos (starEach es X.env))) (AP X pins σ Q) X.xe s
def PS (X:Cx) (st:Stmt) (t:TS):Prop:=
 ∀ (pins:List (Addr × Obj)) (s:Shared) (σ:St) (H:Hp) (D:Ends),Inv X pins σ H s->t D σ H->wpAny (model X.prog X.w) X.A (exec st X.env) (SP X pins D) X.xe s
def PSs (X:Cx) (st:List Stmt) (t:TS):Prop:=
 ∀ (pins:List (Addr × Obj)) (s:Shared) (σ:St) (H:Hp) (D:Ends),Inv X pins σ H s->t D σ H->wpAny (model X.prog X.w) X.A (execs st X.env) (SP X pins D) X.xe s
theorem thn {α:Type} {t:Sem α} {Q Q':α->Shared->Prop} {M:Model} {A:Around} {E:Value->Shared->Prop} {s:Shared} (h:wpAny M A t Q E s) (hQ:∀ a s,Q a s->Q' a s):wpAny M A t Q' E s:=wpAny_mono h hQ fun _ _ x=>x
end L2
namespace L2
open PySem PySem.Spec PyProof.Rows
section
variable {X:Cx}
def tVar (i:Nat):TE:=fun σ H Q=>∃ v,σ[i]?=some (some v)/\Q v H
def tC (v:V):TE:=fun _ H Q=>Q v H
theorem pe_var {i:Nat} {x:Str} {pos:Pos} (hN:X.N[i]?=some x) (hv:Vis X.env.scope x) (hd:(x == ("__debug__" : Str))=false:=by decide) (hcd:(x == ("__classdict__" : Str))=false:=by decide):PE X (.Name x pos) (tVar i):=by
 intro pins s σ H Q I h
 obtain⟨v,e,h⟩:=h
 obtain⟨m,hn,hl⟩:=I.loc
 obtain⟨u,r,l⟩:=hl i x v hN e hv
 have fin:EP X pins σ Q u s:=⟨v,H,I,r,h⟩
 rcases l with ⟨hk,hm⟩ | ⟨hk,c,hc,hcell⟩
 ·exact wpAny_Name (wpAny_loadName_local I.ok.kind hk hn hm fin) hd
 ·rcases hk with hk | hk
  ·exact wpAny_Name (wpAny_loadName_cell I.ok.kind hk hc hcell fin) hd
  ·exact wpAny_Name (wpAny_loadName_free I.ok.kind hk hc hcell fin hcd) hd
theorem pe_int {i j pos}:PE X (.Constant (.int i) j pos) (tC (.int i)):=fun _ _ _ H _ I h=>wpAny_Constant_int ⟨.int i,H,I.tok _,⟨_,rfl⟩,h⟩
theorem pe_bl {b j pos}:PE X (.Constant (.bool b) j pos) (tC (.bl b)):=fun _ _ _ H _ I h=>Constant_bool ⟨.bl b,H,I,rfl,h⟩
theorem pe_non {j pos}:PE X (.Constant .none j pos) (tC .non):=fun _ _ _ H _ I h=>Constant_none ⟨.non,H,I,rfl,h⟩
theorem pe_str {x j pos}:PE X (.Constant (.str x) j pos) (tC (.str x)):=fun _ _ _ H _ I h=>Calls.Constant_str ⟨.str x,H,I.tok _,⟨_,rfl⟩,h⟩
def Gl (X:Cx) (x:Str):Prop:=X.env.kindOf x=some .globalImplicit
theorem ld_glob {E:Value->Shared->Prop} {pins:List (Addr × Obj)} {s:Shared} {σ:St} {H:Hp} {x:Str} {u:Value} {pos:Pos} {Q:Value->Shared->Prop} (I:Inv X pins σ H s) (hg:Gl X x) (hm:X.mg x=some u) (h:Q u s)
  (hd:(x == ("__debug__" : Str))=false:=by decide):wpAny (model X.prog X.w) X.A (eval (.Name x pos) X.env) Q E s:=
 Calls.Name_function_global I.ok.kind hg (Calls.loadGlobal_global (by rw[I.ok.glob];exact I.mod.glob.keeps I.bk) hm h) hd
theorem ld_blt {E:Value->Shared->Prop} {pins:List (Addr × Obj)} {s:Shared} {σ:St} {H:Hp} {x:Str} {u:Value} {pos:Pos} {Q:Value->Shared->Prop} (I:Inv X pins σ H s) (hg:Gl X x) (hm:X.mg x=none) (hv:bootBuiltins x=some u) (h:Q u s)
  (hn:x≠ "__name__" := by decide) (hd:(x == ("__debug__" : Str))=false:=by decide):wpAny (model X.prog X.w) X.A (eval (.Name x pos) X.env) Q E s:=by
 obtain⟨mb,h1,h2⟩:=I.mod.blt
 exact Calls.Name_function_global I.ok.kind hg (Calls.loadGlobal_builtin (by rw[I.ok.glob];exact I.mod.glob.keeps I.bk) hm (by rw[I.ok.blt];exact h1.keeps I.bk) ((h2 x hn).trans hv) h) hd
theorem pe_glob {x:Str} {v:V} {u:Value} {pos:Pos} (hg:Gl X x) (hm:X.mg x=some u) (r:RelV v u) (hd:(x == ("__debug__" : Str))=false:=by decide):PE X (.Name x pos) (tC v):=
 fun _ _ _ H _ I h=>ld_glob I hg hm ⟨v,H,I,r,h⟩ hd
variable {a b:Expr} {ta tb:TE} {pos:Pos}
def tB (t:TE):TT:=fun σ H Q=>t σ H fun x H1=>∃ c,x= .bl c/\Q c H1
theorem pt_val {e:Expr} {t:TE} (h:PE X e t) (he:∀ whole,isTrue e X.env whole=(do let v <- whole;standAt e.pos;holding [v] (truthy v)):=by intro _;rfl):PT X e (tB t):=by
 intro pins s σ H Q I hw
 refine isTrue_plain (thn (h pins s σ H _ I hw) fun v s1 ⟨x,H1,I1,r1,q1⟩=>?_) (he _)
 obtain⟨d,rfl,q⟩:=q1
 cases r1
 exact wpAny_truthy_bool ⟨H1,I1,q⟩
variable {tA tB':TT} {rest:List Expr}
def tAnd (t u:TT):TT:=fun σ H Q=>t σ H fun c H1=>if c=true then u σ H1 Q else Q false H1
def tOr (t u:TT):TT:=fun σ H Q=>t σ H fun c H1=>if c=true then Q true H1 else u σ H1 Q
def tNot (t:TT):TT:=fun σ H Q=>t σ H fun c H1=>Q (!c) H1
theorem pw_and1 (ha:PT X a tA):PW X (.BoolOp .And [a] pos) tA:=by
 intro wh pins s σ H Q I h
 refine isTrue_and (thn (ha pins s σ H Q I h) fun c s1 e=>?_)
 cases c with
 | true=>exact isTrue_and_nil e
 | false=>exact e
theorem pw_or1 (ha:PT X a tA):PW X (.BoolOp .Or [a] pos) tA:=by
 intro wh pins s σ H Q I h
 refine isTrue_or (thn (ha pins s σ H Q I h) fun c s1 e=>?_)
 cases c with
 | false=>exact isTrue_or_nil e
 | true=>exact e
theorem pw_and (ha:PT X a tA) (hb:PW X (.BoolOp .And (b :: rest) pos) tB'):PW X (.BoolOp .And (a :: b :: rest) pos) (tAnd tA tB'):=by
 intro wh pins s σ H Q I h
 refine isTrue_and (thn (ha pins s σ H _ I h) fun c s1 ⟨H1,I1,q1⟩=>?_)
 cases c with
 | true=>exact hb wh pins s1 σ H1 Q I1 q1
 | false=>exact⟨H1,I1,q1⟩
theorem pw_or (ha:PT X a tA) (hb:PW X (.BoolOp .Or (b :: rest) pos) tB'):PW X (.BoolOp .Or (a :: b :: rest) pos) (tOr tA tB'):=by
 intro wh pins s σ H Q I h
 refine isTrue_or (thn (ha pins s σ H _ I h) fun c s1 ⟨H1,I1,q1⟩=>?_)
 cases c with
 | true=>exact⟨H1,I1,q1⟩
 | false=>exact hb wh pins s1 σ H1 Q I1 q1
theorem pt_not (ha:PT X a tA):PT X (.UnaryOp .Not a pos) (tNot tA):=by
 intro pins s σ H Q I h
 exact isTrue_not (ha pins s σ H (fun c H1=>Q (!c) H1) I h)
end
end L2
namespace L2
open PySem PySem.Spec PyProof.Rows
def SqL (K:PySem.W.Frag) (H:Hp) (a:Addr) (xs:List V):Prop:=
 Rd H a (.lst xs)\/
  ∃ (o:Obj) (its:Array Value) (n:Nat),K.lookup a=some o/\o.cls= .type "list" /\ o.dict=none/\o.data= .seq its n/\its.size≤sizeLine/\Vals xs its.toList
def SqT (K:PySem.W.Frag) (H:Hp) (a:Addr) (xs:List V):Prop:=
 Rd H a (.tup xs)\/
  ∃ (o:Obj) (its:Array Value) (n:Nat),K.lookup a=some o/\o.cls= .type "tuple" /\ o.data= .seq its n/\its.size≤sizeLine/\Vals xs its.toList
def absV:Value->Option V
 | .none=>some .non
 | .bool b=>some (.bl b)
 | .int i _=>some (.int i)
 | .str x _=>some (.str x)
 | .bytes b _=>some (.byt b)
 | .float b _=>some (.flt b)
 | .ref a=>some (.ref a)
 | .type n=>some (.ty n)
 | _=>none
theorem RelV.abs {x:V} {u:Value} (r:RelV x u):absV u=some x:=by
 cases x with
 | non=>cases r;rfl
 | bl _=>cases r;rfl
 | int _=>obtain⟨t,rfl⟩:=r;rfl
 | str _=>obtain⟨t,rfl⟩:=r;rfl
 | byt _=>obtain⟨t,rfl⟩:=r;rfl
 | flt _=>obtain⟨t,rfl⟩:=r;rfl
 | ref _=>cases r;rfl
 | ty _=>cases r;rfl
theorem RelV.inj {x y:V} {u:Value} (r:RelV x u) (q:RelV y u):x=y:=Option.some.inj (r.abs.symm.trans q.abs)
theorem Vals.inj:∀ {xs ys:List V} {us:List Value},Vals xs us->Vals ys us->xs=ys
 | _,_,_, .nil, .nil=>rfl
 | _,_,_, .cons r t, .cons r' t'=>by rw[r.inj r',Vals.inj t t']
section
variable {X:Cx} {pins:List (Addr × Obj)} {σ:St} {H:Hp} {s:Shared} {a:Addr} {xs ys:List V}
theorem SqL.of {K:PySem.W.Frag} (h:H a=some (.lst xs)):SqL K H a xs:= .inl (.inl h)
theorem SqT.of {K:PySem.W.Frag} (h:H a=some (.tup xs)):SqT K H a xs:= .inl (.inl h)
theorem Inv.list (I:Inv X pins σ H s) (h:SqL X.K H a xs):∃ its:List Value,Vals xs its/\PlainL s.heap a its.toArray/\xs.length≤sizeLine:=by
 rcases h with h | ⟨o,its,n,hk,hc,hd,hs,hz,r⟩
 ·obtain⟨z,its,n,r,e⟩:=h.ok I.hok
  exact⟨its,r,⟨_,n,e,rfl,rfl,rfl⟩,z⟩
 ·refine⟨its.toList,r,⟨o,n,I.kIn a o hk,hc,hd,by simpa using hs⟩,?_⟩
  have e:=r.length
  simp only[Array.length_toList] at e
  (first|lia|omega)
theorem Inv.tuple (I:Inv X pins σ H s) (h:SqT X.K H a xs):∃ its:List Value,Vals xs its/\IsTup s.heap a its.toArray/\xs.length≤sizeLine:=by
 rcases h with h | ⟨o,its,n,hk,hc,hs,hz,r⟩
 ·obtain⟨z,its,r,p⟩:=h.ok I.hok
  exact⟨its,r,p,z⟩
 ·refine⟨its.toList,r,⟨o,I.kIn a o hk,hc,n,by simpa using hs⟩,?_⟩
  have e:=r.length
  simp only[Array.length_toList] at e
  (first|lia|omega)
theorem Inv.list_inj (I:Inv X pins σ H s) (h:SqL X.K H a xs) (h':SqL X.K H a ys):xs=ys:=by
 obtain⟨its,r,⟨o,n,e,_,_,d⟩,_⟩:=I.list h
 obtain⟨its',r',⟨o',n',e',_,_,d'⟩,_⟩:=I.list h'
 rw[e] at e';cases e'
 rw[d] at d'
 injection d' with d1 _
 have:its=its':=by simpa using congrArg Array.toList d1
 subst this
 exact r.inj r'
theorem Inv.tuple_inj (I:Inv X pins σ H s) (h:SqT X.K H a xs) (h':SqT X.K H a ys):xs=ys:=by
 obtain⟨its,r,⟨o,e,_,n,d⟩,_⟩:=I.tuple h
 obtain⟨its',r',⟨o',e',_,n',d'⟩,_⟩:=I.tuple h'
 rw[e] at e';cases e'
 rw[d] at d'
 injection d' with d1 _
 have:its=its':=by simpa using congrArg Array.toList d1
 subst this
 exact r.inj r'
end
abbrev Cx.wish (X:Cx) (E:Value->Shared->Prop):Cx:={ X with xe:=E }
abbrev Cx.nox (X:Cx):Cx:=X.wish fun _ _=>False
theorem Cx.Ok.wish {X:Cx} (ok:X.Ok) (E:Value->Shared->Prop):(X.wish E).Ok:=
 ⟨ok.mod,ok.kind,ok.glob,ok.blt,ok.above,ok.inj,ok.has,ok.cab,ok.hd,ok.frames,ok.stk,ok.exf,ok.bs,ok.bsz,ok.noex,ok.exfs,ok.funs,ok.frf⟩
theorem Cx.Ok.unwish {X:Cx} {E:Value->Shared->Prop} (ok:(X.wish E).Ok):X.Ok:=
 ⟨ok.mod,ok.kind,ok.glob,ok.blt,ok.above,ok.inj,ok.has,ok.cab,ok.hd,ok.frames,ok.stk,ok.exf,ok.bs,ok.bsz,ok.noex,ok.exfs,ok.funs,ok.frf⟩
section
variable {X:Cx} {pins:List (Addr × Obj)} {σ:St} {H:Hp} {s:Shared} {E:Value->Shared->Prop}
theorem Inv.wish (I:Inv X pins σ H s) (E:Value->Shared->Prop):Inv (X.wish E) pins σ H s:=⟨I.ok.wish E,I.os,I.bare,I.base,I.loc,I.cell,I.free,I.freeC,I.pin,I.hok,I.len⟩
theorem Inv.unwish (I:Inv (X.wish E) pins σ H s):Inv X pins σ H s:=⟨I.ok.unwish,I.os,I.bare,I.base,I.loc,I.cell,I.free,I.freeC,I.pin,I.hok,I.len⟩
theorem SP.unwish {D:Ends} {f:Flow} {s':Shared} (h:SP (X.wish E) pins D f s'):SP X pins D f s':=by
 cases f with
 | next=>obtain⟨σ',H',I,q⟩:=h;exact⟨σ',H',I.unwish,q⟩
 | brk=>obtain⟨σ',H',I,q⟩:=h;exact⟨σ',H',I.unwish,q⟩
 | cont=>obtain⟨σ',H',I,q⟩:=h;exact⟨σ',H',I.unwish,q⟩
 | ret u=>obtain⟨v,σ',H',I,r,q⟩:=h;exact⟨v,σ',H',I.unwish,r,q⟩
theorem PSs.nox {st:List Stmt} {t:TS} (h:PSs X.nox st t):PSs X st t:=fun pins s σ H D I hw=>
 wpAny_mono (h pins s σ H D (I.wish _) hw) (fun _ _ q=>q.unwish) fun _ _ z=>False.elim z
end
section
variable {X:Cx} {st:Stmt} {rest:List Stmt} {t u:TS} {e:Expr} {te:TE} {pos:Pos}
def tNext:TS:=fun D σ H=>D.nx σ H
def tSeq (t u:TS):TS:=fun D σ H=>t { D with nx:=u D } σ H
theorem pss_nil:PSs X [] tNext:=fun _ _ σ H _ I h=>wpAny_execs_nil ⟨σ,H,I,h⟩
theorem pss_cons (h1:PS X st t) (h2:PSs X rest u):PSs X (st :: rest) (tSeq t u):=by
 intro pins s σ H D I h
 refine wpAny_execs_cons (thn (h1 pins s σ H { D with nx:=u D } I h) fun f s1 q=>?_)
 cases f with
 | next=>
  obtain⟨σ',H',I',q⟩:=q
  exact h2 pins s1 σ' H' D I' q
 | ret v=>exact q
 | brk=>exact q
 | cont=>exact q
theorem pss_one (h1:PS X st t):PSs X [st] t:=by
 intro pins s σ H D I h
 refine wpAny_execs_cons (thn (h1 pins s σ H D I h) fun f s1 q=>?_)
 cases f with
 | next=>exact wpAny_execs_nil q
 | ret v=>exact q
 | brk=>exact q
 | cont=>exact q
theorem Inv.quiet {pins:List (Addr × Obj)} {σ:St} {H:Hp} {s:Shared} (I:Inv X pins σ H s):interactive X.env=false:=by simp[interactive,I.ok.kind]
def tDrop (te:TE):TS:=fun D σ H=>te σ H fun _ H1=>D.nx σ H1
theorem ps_expr (he:PE X e te) (hs:swapsWith e none pos.line X.env=pure false:=by rfl):PS X (.Expr e pos) (tDrop te):=by
 intro pins s σ H D I h
 exact wpAny_Expr_any (thn (he pins s σ H _ I h) fun v s1 ⟨x,H1,I1,r1,q1⟩=>⟨σ,H1,I1,q1⟩) I.quiet hs
def tRet (te:TE):TS:=fun D σ H=>te σ H D.rt
theorem ps_ret (he:PE X e te):PS X (.Return (some e) pos) (tRet te):=by
 intro pins s σ H D I h
 exact wpAny_Return_some (thn (he pins s σ H _ I h) fun v s1 ⟨x,H1,I1,r1,q1⟩=>⟨x,σ,H1,I1,r1,q1⟩)
def tIfS (c:TT) (t u:TS):TS:=fun D σ H=>c σ H fun b H1=>if b=true then t D σ H1 else u D σ H1
theorem ps_if {c:Expr} {a b:List Stmt} {tc:TT} (hc:PT X c tc) (ha:PSs X a t) (hb:PSs X b u):PS X (.If c a b pos) (tIfS tc t u):=by
 intro pins s σ H D I h
 refine wpAny_If (thn (hc pins s σ H _ I h) fun d s1 ⟨H1,I1,q1⟩=>?_)
 cases d with
 | true=>exact ha pins s1 σ H1 D I1 q1
 | false=>exact hb pins s1 σ H1 D I1 q1
end
abbrev TG:=V->St->Hp->(St->Hp->Prop)->Prop
abbrev TGs:=List V->St->Hp->(St->Hp->Prop)->Prop
def PG (X:Cx) (target:Expr) (t:TG):Prop:=
 ∀ (pins:List (Addr × Obj)) (s:Shared) (σ:St) (H:Hp) (v:V) (u:Value) (Q:St->Hp->Prop),Inv X pins σ H s->RelV v u->t v σ H Q->
  wpAny (model X.prog X.w) X.A (assign target X.env u) (fun _ s'=>∃ σ' H',Inv X pins σ' H' s'/\Q σ' H') X.xe s
def PGs (X:Cx) (ts:List Expr) (t:TGs):Prop:=
 ∀ (pins:List (Addr × Obj)) (s:Shared) (σ:St) (H:Hp) (vs:List V) (us:List Value) (Q:St->Hp->Prop),Inv X pins σ H s->Vals vs us->t vs σ H Q->
  wpAny (model X.prog X.w) X.A (assignInOrder ((assignEach ts X.env).map (·.2)) us) (fun _ s'=>∃ σ' H',Inv X pins σ' H' s'/\Q σ' H') X.xe s
section
variable {X:Cx} {pos:Pos}
def gName (i:Nat):TG:=fun v σ H Q=>Q (σ.set i (some v)) H
theorem pg_name {i:Nat} {x:Str} (hN:X.N.Nodup) (hi:X.N[i]?=some x) (hx:Loc X.env.scope x) (hf:X.fn x=true\/X.env.scope.names.lookup x=some .local:=by first | exact .inl rfl | exact .inr rfl | assumption):PG X (.Name x pos) (gName i):=by
 intro pins s σ H v u Q I r h
 exact wpAny_assign_Name (store_ok I hN hi hx r (fun s' I'=>⟨_,H,I',h⟩) hf)
def gNil:TGs:=fun vs σ H Q=>vs=[]/\Q σ H
def gCons (t:TG) (u:TGs):TGs:=fun vs σ H Q=>∃ v r,vs=v :: r/\t v σ H fun σ' H'=>u r σ' H' Q
theorem pgs_nil:PGs X [] gNil:=by
 intro pins s σ H vs us Q I r h
 obtain⟨e,h⟩:=h
 subst e
 cases r
 exact assignInOrder_nil ⟨σ,H,I,h⟩
theorem pgs_cons {e:Expr} {es:List Expr} {t:TG} {u:TGs} (h1:PG X e t) (h2:PGs X es u)
  (hs:(assignEach (e :: es) X.env).map (·.2)=assign e X.env :: (assignEach es X.env).map (·.2):=by rfl):PGs X (e :: es) (gCons t u):=by
 intro pins s σ H vs us Q I r h
 obtain⟨v,vr,e1,h⟩:=h
 subst e1
 cases r with
 | cons r rr=>
  rw[hs]
  refine assignInOrder_cons (thn (h1 pins s σ H _ _ _ I r h) fun _ s1 ⟨σ1,H1,I1,q1⟩=>?_)
  exact h2 pins s1 σ1 H1 _ _ Q I1 rr q1
def gTup (K:PySem.W.Frag) (n:Nat) (t:TGs):TG:=fun v σ H Q=>∃ a xs,v= .ref a/\SqT K H a xs/\xs.length=n/\t xs σ H Q
theorem pg_tup {es:List Expr} {k:Nat} {t:TGs} {n:Nat} (hc:X.calm=true) (h:PGs X es t)
  (hn:(assignEach es X.env).length=n:=by rfl) (hst:(assignEach es X.env).findIdx? (·.1)=none:=by rfl):PG X (.Tuple es k pos) (gTup X.K n t):=by
 intro pins s σ H v u Q I r hw
 obtain⟨a,xs,e1,hq,hl,hw⟩:=hw
 subst e1
 cases r
 obtain⟨its,rv,ht,hz⟩:=I.tuple hq
 refine assign_Tuple_tuple (I.ok.hd hc) ht (by simp[hn, <- hl,rv.length]) hst fun h' hx=>?_
 have I1:Inv X pins σ H { s with heap:=h' }:=I.kept (t':=s.toks) fun b o e=>hx b o (Nat.ne_of_lt (Heap.lt_size e)) e
 exact h pins _ σ H xs _ Q I1 (by simpa using rv) hw
def tAsg (te:TE) (g:TG):TS:=fun D σ H=>te σ H fun x H1=>g x σ H1 D.nx
theorem ps_asg {tg e:Expr} {te:TE} {g:TG} (he:PE X e te) (hg:PG X tg g) (hs:swapsWithSole [tg] e pos.line X.env=pure false:=by rfl) (hw:swappedStores [tg] e X.env=pure none:=by rfl)
  (h1:(assignEach [tg] X.env).map (·.2)=[assign tg X.env]:=by rfl):PS X (.Assign [tg] e pos) (tAsg te g):=by
 intro pins s σ H D I h
 refine wpAny_Assign_stores (thn (he pins s σ H _ I h) fun v s1 ⟨x,H1,I1,r1,q1⟩=>?_) hs hw
 rw[h1]
 exact thn (hg pins s1 σ H1 x v _ I1 r1 q1) fun _ s2 q=>q
theorem ps_set {i:Nat} {x:Str} {e:Expr} {te:TE} {pos':Pos} (hN:X.N.Nodup) (hi:X.N[i]?=some x) (hx:Loc X.env.scope x) (he:PE X e te) (hs:swapsWith e (some (.Name x pos')) pos.line X.env=pure false:=by rfl) (hf:X.fn x=true\/X.env.scope.names.lookup x=some .local:=by first | exact .inl rfl | exact .inr rfl | assumption) :
  PS X (.Assign [.Name x pos'] e pos) (tAsg te (gName i)):=by
 intro pins s σ H D I h
 refine wpAny_Assign_Name (thn (he pins s σ H _ I h) fun v s1 ⟨y,H1,I1,r1,q1⟩=>?_) hs
 exact store_ok I1 hN hi hx r1 (fun s2 I2=>⟨_,H1,I2,q1⟩) hf
def tPar (i j:Nat) (ta:TA):TS:=fun D σ H=>ta σ H fun vs H1=>∃ v w,vs=[v,w]/\D.nx ((σ.set i (some v)).set j (some w)) H1
theorem ps_par {i j:Nat} {x y:Str} {a b:Expr} {ta:TA} {px py pt:Pos} {kt k2 pt2} (hc:X.calm=true) (hN:X.N.Nodup) (hi:X.N[i]?=some x) (hj:X.N[j]?=some y) (hij:i≠j)
  (hx:X.env.scope.names.lookup x=some .local) (hy:X.env.scope.names.lookup y=some .local) (ha:PA X [a,b] ta)
  (hw:swappedStores [.Tuple [.Name x px, .Name y py] kt pt] (.Tuple [a,b] k2 pt2) X.env=pure (some [x,y]))
  (hs:swapsWithSole [.Tuple [.Name x px, .Name y py] kt pt] (.Tuple [a,b] k2 pt2) pos.line X.env=pure false:=by rfl) :
  PS X (.Assign [.Tuple [.Name x px, .Name y py] kt pt] (.Tuple [a,b] k2 pt2) pos) (tPar i j ta):=by
 intro pins s σ H D I h
 rw[exec_Assign_arm]
 refine wpAny_bind (wpAny_standAt ?_)
 rw[hs]
 refine wpAny_bind (wpAny_pure ?_)
 rw[if_neg (by decide)]
 refine wpAny_bind (Tuple_ (thn (ha _ pins s σ H _ I h) fun us s1 ⟨vs,H1,I1,r1,q1⟩=>?_))
 obtain⟨v,w,e1,q1⟩:=q1
 subst e1
 obtain⟨u1,u2,rfl,rv,rw'⟩:∃ u1 u2,us=[u1,u2]/\RelV v u1/\RelV w u2:=by
  cases r1 with
  | cons p q=>
   cases q with
   | cons p' q'=>
    cases q'
    exact⟨_,_,rfl,p,p'⟩
 refine wpAny_newObj_type ?_ (by show 2≤sizeLine;decide)
 have I2:Inv X pins σ H1 { s1 with heap:=s1.heap.push { cls:= .type "tuple", data:= .seq [u1,u2].toArray } }:=I1.kept (t':=s1.toks) fun b o e=>Heap.get?_push_of_some _ e
 rw[hw]
 refine wpAny_bind (wpAny_pure ?_)
 show wpAny (model X.prog X.w) X.A (do rule "assign.swapped-stores"; let items <- unpackItems (.ref s1.heap.objs.size) 2 none;assignInOrder [fun v=>bindName X.env y v,fun v=>bindName X.env x v] items.reverse;pure Flow.next) _ _ _
 refine wpAny_bind (wpAny_rule (wpAny_bind (unpackItems_tuple (items:=#[u1,u2]) (I.ok.hd hc) (IsTup.new s1.heap _) fun h' hx'=>?_)))
 have I3:=I2.kept (h':=h') (t':=s1.toks) fun b o e=>hx' b o (Nat.ne_of_lt (Heap.lt_size e)) e
 show wpAny _ _ (assignInOrder [fun v=>bindName X.env y v,fun v=>bindName X.env x v] [u2,u1] >>= fun _=>pure Flow.next) _ _ _
 refine wpAny_bind (assignInOrder_cons (wpAny_bindName (store_ok I3 hN hj (.inl hy) rw' (fun s2 I4=>?_) (.inr hy))))
 refine assignInOrder_cons (wpAny_bindName (store_ok I4 hN hi (.inl hx) rv (fun s3 I5=>assignInOrder_nil (wpAny_pure ?_)) (.inr hx)))
 rw[List.set_comm _ _ (Ne.symm hij)] at I5
 exact⟨_,H1,I5,q1⟩
end
section
variable {X:Cx} {pos:Pos}
def tWhile (c:TT) (tb:TS):TS:=fun D σ H=>∃ W:Nat->St->Hp->Prop,(∃ m,W m σ H)/\∀ m σ H,W m σ H->
 c σ H fun b H1=>if b=true then ∃ N:St->Hp->Prop,(∀ σ' H',N σ' H'->∃ m',m'<m/\W m' σ' H')/\tb { D with nx:=N,ct:=N,bk:=D.nx } σ H1 else D.nx σ H1
theorem ps_while {c:Expr} {body:List Stmt} {tc:TT} {tb:TS} (hp:PassesOwn (model X.prog X.w) X.A X.env X.xe) (hc:PT X c tc) (hb:PSs X body tb):PS X (.While c body [] pos) (tWhile tc tb):=by
 intro pins s σ H D I h
 obtain⟨W,⟨m0,w0⟩,turn⟩:=h
 refine wpAny_While (codeAny_whileLoop (fun n s'=>∃ σ' H',Inv X pins σ' H' s'/\W n σ' H') ?_ m0 ⟨σ,H,I,w0⟩)
 rintro n s1 ⟨σ1,H1,I1,w1⟩
 refine wpAny_passesOwn hp (thn (hc pins s1 σ1 H1 _ I1 (turn n σ1 H1 w1)) fun b s2 ⟨H2,I2,q2⟩=>?_)
 cases b with
 | true=>
  obtain⟨N,hN,q2⟩:=q2
  rw[if_pos rfl]
  refine wpAny_passesOwn hp (thn (hb pins s2 σ1 H2 _ I2 q2) fun f s3 q3=>?_)
  cases f with
  | next=>
   obtain⟨σ3,H3,I3,n3⟩:=q3
   obtain⟨m',hm,w3⟩:=hN σ3 H3 n3
   exact⟨m',hm,σ3,H3,I3,w3⟩
  | cont=>
   obtain⟨σ3,H3,I3,n3⟩:=q3
   obtain⟨m',hm,w3⟩:=hN σ3 H3 n3
   exact⟨m',hm,σ3,H3,I3,w3⟩
  | brk=>exact q3
  | ret v=>exact q3
 | false=>
  rw[if_neg Bool.false_ne_true]
  exact wpAny_execs_nil ⟨σ1,H2,I2,q2⟩
end
structure It where
 go:Nat->Hp->Prop
 yld:Nat->Hp->V->Hp->Prop
 stop:Nat->Hp->Prop
def FpOk (X:Cx) (pins:List (Addr × Obj)) (H:Hp) (b:Addr):Prop:=
 H b=none/\b≠X.env.locals/\b ∉ X.fs/\(b∈X.ex\/X.s₀.heap.objs.size≤b)/\(∀ x c,X.env.cells.lookup x=some c->c≠b)/\∀ p∈X.pn ++ pins,p.1≠b
theorem Inv.fpOk {X:Cx} {pins:List (Addr × Obj)} {σ:St} {H H':Hp} {s:Shared} {b:Addr} (I:Inv X pins σ H s) (hb:s.heap.objs.size≤b) (hn:H' b=none):FpOk X pins H' b:=by
 refine⟨hn,Nat.ne_of_gt (Nat.lt_of_lt_of_le I.lt hb),I.nofs hb, .inr (Nat.le_trans I.sz hb),fun x c e z=>?_,fun p hp z=>?_⟩
 ·obtain⟨v,q⟩:=I.cell x c e
  exact absurd (Nat.lt_of_lt_of_le q.lt (by rw[z];exact hb)) (Nat.lt_irrefl _)
 ·exact absurd (Nat.lt_of_lt_of_le (Heap.lt_size (I.pin p hp).1) (by rw[z];exact hb)) (Nat.lt_irrefl _)
structure Turn (P:Program) (w:World) (K:PySem.W.Frag) (tg:Expr) (J:It) (fp:List Addr) (it:Addr) (tn:Nat->Heap->Prop):Prop where
 mem:it∈fp
 obj:∀ i h,tn i h->∀ b∈fp,∃ o,h.get? b=some o/\∀ v,o.data≠ .cell v
 keep:∀ i h h',tn i h->(∀ b∈fp,∀ o,h.get? b=some o->h'.get? b=some o)->tn i h'
 item:∀ (X:Cx),X.prog=P->X.w=w->X.K=K->X.calm=true->∀ (i:Nat) (pins:List (Addr × Obj)) (s:Shared) (σ:St) (H:Hp) (E:Value->Shared->Prop),Inv X pins σ H s->(∀ b∈fp,FpOk X pins H b)->tn i s.heap->J.go i H->
  wpAny (model P w) X.A (pyNext (.ref it)) (fun r s1=>∃ u,r=some u/\
   wpAny (model P w) X.A (letOwnedTupleGo tg (.ref it) u) (fun _ s2=>∃ x H',Inv X pins σ H' s2/\RelV x u/\J.yld i H x H'/\tn (i+1) s2.heap/\∀ b∈fp,H' b=none) E s1) E s
 done:∀ (X:Cx),X.prog=P->X.w=w->X.K=K->X.calm=true->∀ (i:Nat) (pins:List (Addr × Obj)) (s:Shared) (σ:St) (H:Hp) (E:Value->Shared->Prop),Inv X pins σ H s->(∀ b∈fp,FpOk X pins H b)->tn i s.heap->J.stop i H->
  wpAny (model P w) X.A (pyNext (.ref it)) (fun r s1=>r=none/\Inv X pins σ H s1) E s
 self:∀ (A:Around) (i:Nat) (s:Shared) (Q:Value->Shared->Prop) (E:Value->Shared->Prop),tn i s.heap->Q (.ref it) s->wpAny (model P w) A (pyIter (.ref it)) Q E s
abbrev TI:=St->Hp->(It->Hp->Prop)->Prop
def PIE (X:Cx) (pins:List (Addr × Obj)) (σ:St) (tg:Expr) (R:It->Hp->Prop) (itv:Value) (s2:Shared):Prop:=
 ∃ (it:Addr) (fp:List Addr) (tn:Nat->Heap->Prop) (J:It) (H':Hp),itv= .ref it/\Inv X pins σ H' s2/\Turn X.prog X.w X.K tg J fp it tn/\tn 0 s2.heap/\(∀ b∈fp,FpOk X pins H' b)/\R J H'
def PI (X:Cx) (tg iter:Expr) (wi:TI):Prop:=
 ∀ (pins:List (Addr × Obj)) (s:Shared) (σ:St) (H:Hp) (R:It->Hp->Prop),Inv X pins σ H s->wi σ H R->
  wpAny (model X.prog X.w) X.A (eval iter X.env) (fun v s1=>wpAny (model X.prog X.w) X.A (pyIter v) (PIE X pins σ tg R) X.xe s1) X.xe s
theorem go_of {M:Model} {A:Around} {E:Value->Shared->Prop} {s:Shared} {tg:Expr} {it:Addr} {u:Value} {o:Obj} {n:String} {vs:Array Value} {Q:Unit->Shared->Prop} (ho:s.heap.get? it=some o) (hc:o.cls= .type n) (hd:o.data= .fields vs)
  (hn:["enumerate", "zip", "dict_itemiterator", "dict_reverseitemiterator", "odict_iterator", "itertools.zip_longest", "itertools.pairwise"].contains n=false) (hQ:Q () s):wpAny M A (letOwnedTupleGo tg (.ref it) u) Q E s:=by
 unfold letOwnedTupleGo
 cases tg <;> first
  | exact wpAny_pure hQ
  | (cases u <;> first
    | exact wpAny_pure hQ
    | (refine wpAny_bind (wpAny_load ho ?_)
       rw[hc,hd]
       show wpAny M A (if (["enumerate", "zip", "dict_itemiterator", "dict_reverseitemiterator", "odict_iterator", "itertools.zip_longest", "itertools.pairwise"].contains n && vs[0]? == some (rawInt _))=true then _ else _) Q E s
       rw[if_neg (by intro h;rw[hn,Bool.false_and] at h;cases h)]
       exact wpAny_pure hQ))
def Itl (K:PySem.W.Frag) (a:Addr):It:=
 ⟨fun i H=>∃ xs x,SqL K H a xs/\xs[i]?=some x,fun i H x H'=>H'=H/\∀ xs,SqL K H a xs->xs[i]?=some x,fun i H=>∃ xs,SqL K H a xs/\xs.length≤i⟩
def Itt (K:PySem.W.Frag) (a:Addr):It:=
 ⟨fun i H=>∃ xs x,SqT K H a xs/\xs[i]?=some x,fun i H x H'=>H'=H/\∀ xs,SqT K H a xs->xs[i]?=some x,fun i H=>∃ xs,SqT K H a xs/\xs.length≤i⟩
def Itr (lo:Int) (n:Nat):It:=⟨fun i _=>i<n,fun i H x H'=>H'=H/\x= .int (lo+i),fun i _=>n≤i⟩
theorem turn_list {P:Program} {w:World} {K:PySem.W.Frag} {tg:Expr} (a it:Addr):Turn P w K tg (Itl K a) [it] it (fun i h=>h.IsListIter it a i) where
 mem:=by simp
 obj:=fun i h st b hb=>by
  have e:b=it:=by simpa using hb
  subst e
  obtain⟨o,e,c,d⟩:=st
  exact⟨o,e,fun v z=>by rw[d] at z;cases z⟩
 keep:=fun i h h' st k=>st.at fun o e=>k it (by simp) o e
 item:=by
  intro X hP hw hK hc i pins s σ H E I hf st hg
  subst hP hw hK
  obtain⟨xs,x,hq,hx⟩:=hg
  obtain⟨its,rv,p,hz⟩:=I.list hq
  obtain⟨u,hu,ru⟩:=rv.get hx
  obtain⟨f0,f1,f2,f3,f4,f5⟩:=hf it (by simp)
  refine wpAny_pyNext_list_item st p.isList (x:=u) (by simpa using hu) fun h' st' sb=>?_
  have I1:Inv X pins σ H { s with heap:=h' }:=I.turned (t':=s.toks) (fun b o hb e=>(sb.2 b hb).trans e) f0 f1 f3 f4 f5
  obtain⟨o,e,c,d⟩:=id st'
  exact⟨u,rfl,go_of (s:={ s with heap:=h' }) e c d (by decide) ⟨x,H,I1,ru,⟨rfl,fun ys hy=>by rw[I.list_inj hy hq];exact hx⟩,st',fun b hb=>(hf b hb).1⟩⟩
 done:=by
  intro X hP hw hK hc i pins s σ H E I hf st hg
  subst hP hw hK
  obtain⟨xs,hq,hx⟩:=hg
  obtain⟨its,rv,p,hz⟩:=I.list hq
  obtain⟨f0,f1,f2,f3,f4,f5⟩:=hf it (by simp)
  have hl:=rv.length
  exact wpAny_pyNext_list_end (I.ok.hd hc) st p.isList (by simp;(first|lia|omega)) fun h' eb=>⟨rfl,I.turned (t':=s.toks) (fun b o hb e=>eb b o hb e) f0 f1 f3 f4 f5⟩
 self:=fun _ _ _ _ _ st h=>wpAny_pyIter_listiter st h
theorem turn_tuple {P:Program} {w:World} {K:PySem.W.Frag} {tg:Expr} (a it:Addr):Turn P w K tg (Itt K a) [it] it (fun i h=>h.IsTupleIter it a i) where
 mem:=by simp
 obj:=fun i h st b hb=>by
  have e:b=it:=by simpa using hb
  subst e
  obtain⟨o,e,c,d⟩:=st
  exact⟨o,e,fun v z=>by rw[d] at z;cases z⟩
 keep:=fun i h h' st k=>st.at fun o e=>k it (by simp) o e
 item:=by
  intro X hP hw hK hc i pins s σ H E I hf st hg
  subst hP hw hK
  obtain⟨xs,x,hq,hx⟩:=hg
  obtain⟨its,rv,p,hz⟩:=I.tuple hq
  obtain⟨u,hu,ru⟩:=rv.get hx
  obtain⟨f0,f1,f2,f3,f4,f5⟩:=hf it (by simp)
  refine wpAny_pyNext_tuple_item st (show s.heap.IsTuple a its.toArray from p) (x:=u) (by simpa using hu) fun h' st' sb=>?_
  have I1:Inv X pins σ H { s with heap:=h' }:=I.turned (t':=s.toks) (fun b o hb e=>(sb.2 b hb).trans e) f0 f1 f3 f4 f5
  obtain⟨o,e,c,d⟩:=id st'
  exact⟨u,rfl,go_of (s:={ s with heap:=h' }) e c d (by decide) ⟨x,H,I1,ru,⟨rfl,fun ys hy=>by rw[I.tuple_inj hy hq];exact hx⟩,st',fun b hb=>(hf b hb).1⟩⟩
 done:=by
  intro X hP hw hK hc i pins s σ H E I hf st hg
  subst hP hw hK
  obtain⟨xs,hq,hx⟩:=hg
  obtain⟨its,rv,p,hz⟩:=I.tuple hq
  obtain⟨f0,f1,f2,f3,f4,f5⟩:=hf it (by simp)
  have hl:=rv.length
  exact wpAny_pyNext_tuple_end (I.ok.hd hc) st (show s.heap.IsTuple a its.toArray from p) (by simp;(first|lia|omega)) fun h' eb=>⟨rfl,I.turned (t':=s.toks) (fun b o hb e=>eb b o hb e) f0 f1 f3 f4 f5⟩
 self:=fun _ _ _ _ _ st h=>wpAny_pyIter_tupleiter st h
theorem turn_range {P:Program} {w:World} {K:PySem.W.Frag} {tg:Expr} (it:Addr) (lo:Int) (n:Nat):Turn P w K tg (Itr lo n) [it] it (fun i h=>IsRangeIter h it (lo+(i:Nat) * 1) ((n:Int) - (i:Nat)) 1) where
 mem:=by simp
 obj:=fun i h st b hb=>by
  have e:b=it:=by simpa using hb
  subst e
  exact⟨_,st,fun v z=>by
   have z':Data.fields _=Data.cell v:=z
   cases z'⟩
 keep:=fun i h h' st k=>k it (by simp) _ st
 item:=by
  intro X hP hw hK hc i pins s σ H E I hf st hg
  subst hP hw hK
  obtain⟨f0,f1,f2,f3,f4,f5⟩:=hf it (by simp)
  have W:=Walks.range (prog:=X.prog) (w:=X.w) (I.ok.hd hc) it lo 1 n
  refine W.item i s _ _ hg st fun v h' tk hv st' kk=>?_
  obtain⟨t,rfl⟩:=hv
  have I1:Inv X pins σ H { s with heap:=h',toks:=tk }:=I.turned (fun b o hb e=>kk b o (by simpa using hb) e) f0 f1 f3 f4 f5
  refine⟨_,rfl,go_of (s:={ s with heap:=h',toks:=tk }) (n:= "range_iterator") st' rfl rfl (by decide) ⟨.int (lo+i),H,I1,⟨t,?_⟩,⟨rfl,rfl⟩,st',fun b hb=>(hf b hb).1⟩⟩
  rw[Int.mul_one]
 done:=by
  intro X hP hw hK hc i pins s σ H E I hf st hg
  subst hP hw hK
  obtain⟨f0,f1,f2,f3,f4,f5⟩:=hf it (by simp)
  exact wpAny_pyNext_range_end (I.ok.hd hc) st (by have:n≤i:=hg;(first|lia|omega)) fun h' eb=>⟨rfl,I.turned (t':=s.toks) (fun b o hb e=>eb b o hb e) f0 f1 f3 f4 f5⟩
 self:=fun _ _ _ _ _ st h=>wpAny_pyIter_rangeiter st h
end L2
namespace L2
open PySem PySem.Spec PyProof.Rows
section
variable {X:Cx} {tg:Expr}
def iList (K:PySem.W.Frag) (tl:TE):TI:=fun σ H R=>tl σ H fun x H1=>∃ a,x= .ref a/\(∃ xs,SqL K H1 a xs)/\R (Itl K a) H1
def iTup (K:PySem.W.Frag) (tl:TE):TI:=fun σ H R=>tl σ H fun x H1=>∃ a,x= .ref a/\(∃ xs,SqT K H1 a xs)/\R (Itt K a) H1
theorem pi_list {l:Expr} {tl:TE} (hl:PE X l tl):PI X tg l (iList X.K tl):=by
 intro pins s σ H R I h
 refine thn (hl pins s σ H _ I h) fun v s1 ⟨x,H1,I1,r1,q1⟩=>?_
 obtain⟨a,e,⟨xs,hq⟩,q⟩:=q1
 subst e
 cases r1
 obtain⟨its,rv,p,hz⟩:=I1.list hq
 refine wpAny_pyIter_list p.isList ?_
 refine⟨s1.heap.objs.size,[s1.heap.objs.size],_,_,H1,rfl,I1.kept (t':=s1.toks) fun b o e=>Heap.get?_push_of_some _ e,turn_list a _,⟨_,Heap.get?_push_size _ rfl,rfl,rfl⟩,fun b hb=>?_,q⟩
 have e:b=s1.heap.objs.size:=by simpa using hb
 subst e
 exact I1.fpOk (Nat.le_refl _) (I1.hok.fresh (Nat.le_refl _))
theorem pi_tup {l:Expr} {tl:TE} (hl:PE X l tl):PI X tg l (iTup X.K tl):=by
 intro pins s σ H R I h
 refine thn (hl pins s σ H _ I h) fun v s1 ⟨x,H1,I1,r1,q1⟩=>?_
 obtain⟨a,e,⟨xs,hq⟩,q⟩:=q1
 subst e
 cases r1
 obtain⟨its,rv,p,hz⟩:=I1.tuple hq
 refine wpAny_pyIter_tuple (show s1.heap.IsTuple a its.toArray from p) ?_
 refine⟨s1.heap.objs.size,[s1.heap.objs.size],_,_,H1,rfl,I1.kept (t':=s1.toks) fun b o e=>Heap.get?_push_of_some _ e,turn_tuple a _,⟨_,Heap.get?_push_size _ rfl,rfl,rfl⟩,fun b hb=>?_,q⟩
 have e:b=s1.heap.objs.size:=by simpa using hb
 subst e
 exact I1.fpOk (Nat.le_refl _) (I1.hok.fresh (Nat.le_refl _))
theorem range_it {pins:List (Addr × Obj)} {σ:St} {H:Hp} {s:Shared} {R:It->Hp->Prop} {E:Value->Shared->Prop} {lo hi:Int} {t u v:Tok} {tk:Nat} (I:Inv X pins σ H s) (h1: -(2 ^ 62)≤lo) (h2:lo<2 ^ 62) (h3: -(2 ^ 62)≤hi) (h4:hi<2 ^ 62)
  (q:R (Itr lo (hi - lo).toNat) H):wpAny (model X.prog X.w) X.A (pyIter (.ref s.heap.objs.size)) (PIE X pins σ tg R) E { s with heap:=s.heap.push { cls:= .type "range", data:= .fields #[.int lo t, .int hi u, .int 1 v] },toks:=tk }:=by
 refine wpAny_pyIter_range (IsRange.new ..) (small_one h1 h2 h3 h4) ?_
 have I1:Inv X pins σ H { s with heap:=s.heap.push { cls:= .type "range", data:= .fields #[.int lo t, .int hi u, .int 1 v] },toks:=tk }:=I.kept fun b o e=>Heap.get?_push_of_some _ e
 refine⟨(s.heap.push { cls:= .type "range", data:= .fields #[.int lo t, .int hi u, .int 1 v] }).objs.size,[(s.heap.push { cls:= .type "range", data:= .fields #[.int lo t, .int hi u, .int 1 v] }).objs.size],_,_,H,rfl,
  I1.kept (t':=tk) fun b o e=>Heap.get?_push_of_some _ e,turn_range _ lo (hi - lo).toNat,?_,fun b hb=>?_,q⟩
 ·have e1:lo+((0:Nat):Int) * 1=lo:=by simp
  have e2:(((hi - lo).toNat:Nat):Int) - ((0:Nat):Int)=Builtin.Range.rangeSize lo hi 1:=by rw[rangeSize_one];split <;> (first|lia|omega)
  show IsRangeIter _ _ (lo+((0:Nat):Int) * 1) ((((hi - lo).toNat:Nat):Int) - ((0:Nat):Int)) 1
  rw[e1,e2]
  exact Heap.get?_push_size _ rfl
 ·have e:b=(s.heap.push { cls:= .type "range", data:= .fields #[.int lo t, .int hi u, .int 1 v] }).objs.size:=by simpa using hb
  subst e
  exact I1.fpOk (Nat.le_refl _) (I1.hok.fresh (Nat.le_refl _))
def iRng1 (ta:TA):TI:=fun σ H R=>ta σ H fun vs H1=>∃ j:Int,vs=[.int j]/\ -(2 ^ 62)≤j/\j<2 ^ 62/\R (Itr 0 j.toNat) H1
def iRng2 (ta:TA):TI:=fun σ H R=>ta σ H fun vs H1=>∃ i j:Int,vs=[.int i, .int j]/\(-(2 ^ 62)≤i/\i<2 ^ 62/\ -(2 ^ 62)≤j/\j<2 ^ 62)/\R (Itr i (j - i).toNat) H1
theorem pi_range1 {a:Expr} {ta:TA} {p pos:Pos} (hg:Gl X "range") (hm:X.mg "range" = none) (ha:PA X [a] ta) (hs:starEach [a] X.env=[(false,eval a X.env)]:=by rfl):PI X tg (.Call (.Name "range" p) [a] [] pos) (iRng1 ta):=by
 intro pins s σ H R I h
 refine Call_ (ld_blt I hg hm boot_range (PyProof.Rows.callWith_type1 (thn (ha pos pins s σ H _ I h) fun us s1 ⟨vs,H1,I1,r1,q1⟩=>?_) hs rfl))
 obtain⟨j,e,q1,q2,q⟩:=q1
 subst e
 cases r1 with
 | cons r rr=>
  cases rr
  obtain⟨t,rfl⟩:=r
  exact call_range_1 (range_it I1 (by (first|lia|omega)) (by (first|lia|omega)) q1 q2 (by simpa using q))
theorem pi_range2 {a b:Expr} {ta:TA} {p pos:Pos} (hg:Gl X "range") (hm:X.mg "range" = none) (ha:PA X [a,b] ta) (hs:starEach [a,b] X.env=[(false,eval a X.env),(false,eval b X.env)]:=by rfl) (hs2:starEach [b] X.env=[(false,eval b X.env)]:=by rfl) :
  PI X tg (.Call (.Name "range" p) [a,b] [] pos) (iRng2 ta):=by
 intro pins s σ H R I h
 refine Call_ (ld_blt I hg hm boot_range (PyProof.Rows.callWith_type1 (thn (ha pos pins s σ H _ I h) fun us s1 ⟨vs,H1,I1,r1,q1⟩=>?_) (by rw[hs,hs2]) (by rw[hs2];rfl)))
 obtain⟨i,j,e,⟨q1,q2,q3,q4⟩,q⟩:=q1
 subst e
 cases r1 with
 | cons r rr=>
  cases rr with
  | cons r' rr=>
   cases rr
   obtain⟨t,rfl⟩:=r
   obtain⟨t',rfl⟩:=r'
   exact call_range_2 (range_it I1 q1 q2 q3 q4 q)
def tFor (wi:TI) (g:TG) (tb:TS):TS:=fun D σ H=>wi σ H fun J H1=>∃ W:Nat->Nat->St->Hp->Prop,(∃ m,W 0 m σ H1)/\∀ i m σ H,W i m σ H->
 (J.stop i H/\D.nx σ H)\/(J.go i H/\∃ N:St->Hp->Prop,(∀ σ' H',N σ' H'->∃ m',m'<m/\W (i+1) m' σ' H')/\∀ x H',J.yld i H x H'->g x σ H' fun σ2 H2=>tb { D with nx:=N,ct:=N,bk:=D.nx } σ2 H2)
def pinsAt (fp:List Addr) (h:Heap):List (Addr × Obj):=fp.filterMap fun b=>(h.get? b).map fun o=>(b,o)
theorem mem_pinsAt {fp:List Addr} {h:Heap} {b:Addr} {o:Obj} (hb:b∈fp) (e:h.get? b=some o):(b,o)∈pinsAt fp h:=List.mem_filterMap.mpr ⟨b,hb,by rw[e];rfl⟩
theorem of_pinsAt {fp:List Addr} {h:Heap} {p:Addr × Obj} (hp:p∈pinsAt fp h):p.1∈fp/\h.get? p.1=some p.2:=by
 obtain⟨b,hb,e⟩:=List.mem_filterMap.mp hp
 cases q:h.get? b with
 | none=>rw[q] at e;cases e
 | some o=>
  rw[q] at e
  have e':(b,o)=p:=Option.some.inj e
  subst e'
  exact⟨hb,q⟩
theorem Inv.pinned {pins:List (Addr × Obj)} {σ:St} {H:Hp} {s:Shared} {fp:List Addr} (I:Inv X pins σ H s) (hf:∀ b∈fp,FpOk X pins H b) (ho:∀ b∈fp,∃ o,s.heap.get? b=some o/\∀ v,o.data≠ .cell v):Inv X (pins ++ pinsAt fp s.heap) σ H s:=
 I.pins_of fun p hp=>(List.mem_append.mp hp).elim (fun z=>I.pin p (List.mem_append_right _ z)) fun z=>by
  obtain⟨hb,e⟩:=of_pinsAt z
  obtain⟨f0,f1,f2,_⟩:=hf p.1 hb
  obtain⟨o,e',d⟩:=ho p.1 hb
  rw[e] at e';cases e'
  exact⟨e,f0,f1,f2,d⟩
theorem Inv.unpinned {pins pl:List (Addr × Obj)} {σ:St} {H:Hp} {s:Shared} (I:Inv X (pins ++ pl) σ H s):Inv X pins σ H s:=I.pins_of fun p hp=>I.pin p (List.mem_append_right _ (List.mem_append_left _ hp))
theorem ps_for {iter:Expr} {body:List Stmt} {wi:TI} {g:TG} {tb:TS} {pos:Pos} (hp:PassesOwn (model X.prog X.w) X.A X.env X.xe) (hc:X.calm=true) (hi:PI X tg iter wi) (hg:PG X tg g) (hb:PSs X body tb)
  (hs:∀ x,foldedSetIterable iter X.env x=pure x:=by intro _;rfl):PS X (.For tg iter body [] pos) (tFor wi g tb):=by
 intro pins s σ H D I h
 refine wpAny_For (thn (hi pins s σ H _ I h) fun v s1 h1=>thn h1 fun itv s2 h2=>?_) hs
 obtain⟨it,fp,tn,J,H2,e,I2,T,st2,f2,W,⟨m0,w0⟩,turn⟩:=h2
 subst e
 have stat:∀ {H':Hp},(∀ b∈fp,H' b=none)->∀ b∈fp,FpOk X pins H' b:=fun hn b hb=>⟨hn b hb,(f2 b hb).2⟩
 refine codeAny_forLoop_any (fun n s'=>∃ i σ' H',Inv X pins σ' H' s'/\tn i s'.heap/\(∀ b∈fp,H' b=none)/\W i n σ' H') ?_ m0 ⟨0,σ,H2,I2,st2,fun b hb=>(f2 b hb).1,w0⟩
 rintro n s3 ⟨i,σ3,H3,I3,st3,fr3,w3⟩
 rcases turn i n σ3 H3 w3 with ⟨stop,qn⟩ | ⟨go,N,hN,step⟩
 ·refine wpAny_passesOwn hp (thn (T.done X rfl rfl rfl hc i pins s3 σ3 H3 X.xe I3 (stat fr3) st3 stop) fun r s4 ⟨hr,I4⟩=>?_)
  subst hr
  exact wpAny_execs_nil ⟨σ3,H3,I4,qn⟩
 ·refine wpAny_passesOwn hp (thn (T.item X rfl rfl rfl hc i pins s3 σ3 H3 X.xe I3 (stat fr3) st3 go) fun r s4 ⟨u,hr,h4⟩=>?_)
  subst hr
  refine wpAny_passesOwn hp (thn h4 fun _ s5 ⟨x,H5,I5,r5,y5,st5,fr5⟩=>?_)
  have I5':=I5.pinned (stat fr5) (T.obj _ _ st5)
  refine wpAny_passesOwn hp (thn (hg _ s5 σ3 H5 x u _ I5' r5 (step x H5 y5)) fun _ s6 ⟨σ6,H6,I6,q6⟩=>?_)
  refine wpAny_passesOwn hp (thn (hb _ s6 σ6 H6 _ I6 q6) fun f s7 q7=>?_)
  have again:∀ {σ7:St} {H7:Hp},Inv X (pins ++ pinsAt fp s5.heap) σ7 H7 s7->N σ7 H7->∃ m,m<n/\∃ i σ' H',Inv X pins σ' H' s7/\tn i s7.heap/\(∀ b∈fp,H' b=none)/\W i m σ' H':=fun {σ7 H7} I7 n7=>by
   obtain⟨m',hm,w7⟩:=hN σ7 H7 n7
   refine⟨m',hm,i+1,σ7,H7,I7.unpinned,T.keep _ _ _ st5 fun b hb o e=>(I7.pin (b,o) (List.mem_append_right _ (List.mem_append_right _ (mem_pinsAt hb e)))).1,fun b hb=>?_,w7⟩
   obtain⟨o,e,d⟩:=T.obj _ _ st5 b hb
   exact(I7.pin (b,o) (List.mem_append_right _ (List.mem_append_right _ (mem_pinsAt hb e)))).2.1
  cases f with
  | next=>obtain⟨σ7,H7,I7,n7⟩:=q7;exact again I7 n7
  | cont=>obtain⟨σ7,H7,I7,n7⟩:=q7;exact again I7 n7
  | brk=>obtain⟨σ7,H7,I7,q7⟩:=q7;exact⟨σ7,H7,I7.unpinned,q7⟩
  | ret v=>obtain⟨x7,σ7,H7,I7,r7,q7⟩:=q7;exact⟨x7,σ7,H7,I7.unpinned,r7,q7⟩
end
theorem for_list {K:PySem.W.Frag} {a:Addr} {xs:List V} {g:TG} {tb:TS} {D:Ends} {σ:St} {H:Hp} (Pv:Nat->St->Hp->Prop) (h0:Pv 0 σ H) (hl:∀ i σ H,i≤xs.length->Pv i σ H->SqL K H a xs)
  (hs:∀ i x σ H,xs[i]?=some x->Pv i σ H->g x σ H fun σ2 H2=>tb { D with nx:=Pv (i+1),ct:=Pv (i+1),bk:=D.nx } σ2 H2) (hd:∀ σ H,Pv xs.length σ H->D.nx σ H) :
  ∃ W:Nat->Nat->St->Hp->Prop,(∃ m,W 0 m σ H)/\∀ i m σ H,W i m σ H->
   ((Itl K a).stop i H/\D.nx σ H)\/((Itl K a).go i H/\∃ N:St->Hp->Prop,(∀ σ' H',N σ' H'->∃ m',m'<m/\W (i+1) m' σ' H')/\∀ x H',(Itl K a).yld i H x H'->g x σ H' fun σ2 H2=>tb { D with nx:=N,ct:=N,bk:=D.nx } σ2 H2):=by
 refine⟨fun i m σ H=>m=xs.length - i/\i≤xs.length/\Pv i σ H,⟨xs.length,by simp,Nat.zero_le _,h0⟩,?_⟩
 rintro i m σ H ⟨rfl,hi,p⟩
 have q:=hl i σ H hi p
 by_cases hlt:i<xs.length
 ·refine .inr ⟨⟨xs,xs[i],q,by simp[hlt]⟩,Pv (i+1),fun σ' H' p'=>⟨xs.length - (i+1),by (first|lia|omega),rfl,hlt,p'⟩,fun x H' y=>?_⟩
  obtain⟨e,y⟩:=y
  subst e
  exact hs i x σ _ (y xs q) p
 ·have e:i=xs.length:=by (first|lia|omega)
  subst e
  exact .inl ⟨⟨xs,q,Nat.le_refl _⟩,hd σ H p⟩
theorem for_tup {K:PySem.W.Frag} {a:Addr} {xs:List V} {g:TG} {tb:TS} {D:Ends} {σ:St} {H:Hp} (Pv:Nat->St->Hp->Prop) (h0:Pv 0 σ H) (hl:∀ i σ H,i≤xs.length->Pv i σ H->SqT K H a xs)
  (hs:∀ i x σ H,xs[i]?=some x->Pv i σ H->g x σ H fun σ2 H2=>tb { D with nx:=Pv (i+1),ct:=Pv (i+1),bk:=D.nx } σ2 H2) (hd:∀ σ H,Pv xs.length σ H->D.nx σ H) :
  ∃ W:Nat->Nat->St->Hp->Prop,(∃ m,W 0 m σ H)/\∀ i m σ H,W i m σ H->
   ((Itt K a).stop i H/\D.nx σ H)\/((Itt K a).go i H/\∃ N:St->Hp->Prop,(∀ σ' H',N σ' H'->∃ m',m'<m/\W (i+1) m' σ' H')/\∀ x H',(Itt K a).yld i H x H'->g x σ H' fun σ2 H2=>tb { D with nx:=N,ct:=N,bk:=D.nx } σ2 H2):=by
 refine⟨fun i m σ H=>m=xs.length - i/\i≤xs.length/\Pv i σ H,⟨xs.length,by simp,Nat.zero_le _,h0⟩,?_⟩
 rintro i m σ H ⟨rfl,hi,p⟩
 have q:=hl i σ H hi p
 by_cases hlt:i<xs.length
 ·refine .inr ⟨⟨xs,xs[i],q,by simp[hlt]⟩,Pv (i+1),fun σ' H' p'=>⟨xs.length - (i+1),by (first|lia|omega),rfl,hlt,p'⟩,fun x H' y=>?_⟩
  obtain⟨e,y⟩:=y
  subst e
  exact hs i x σ _ (y xs q) p
 ·have e:i=xs.length:=by (first|lia|omega)
  subst e
  exact .inl ⟨⟨xs,q,Nat.le_refl _⟩,hd σ H p⟩
theorem for_range {lo:Int} {n:Nat} {g:TG} {tb:TS} {D:Ends} {σ:St} {H:Hp} (Pv:Nat->St->Hp->Prop) (h0:Pv 0 σ H)
  (hs:∀ i σ H,i<n->Pv i σ H->g (.int (lo+i)) σ H fun σ2 H2=>tb { D with nx:=Pv (i+1),ct:=Pv (i+1),bk:=D.nx } σ2 H2) (hd:∀ σ H,Pv n σ H->D.nx σ H) :
  ∃ W:Nat->Nat->St->Hp->Prop,(∃ m,W 0 m σ H)/\∀ i m σ H,W i m σ H->
   ((Itr lo n).stop i H/\D.nx σ H)\/((Itr lo n).go i H/\∃ N:St->Hp->Prop,(∀ σ' H',N σ' H'->∃ m',m'<m/\W (i+1) m' σ' H')/\∀ x H',(Itr lo n).yld i H x H'->g x σ H' fun σ2 H2=>tb { D with nx:=N,ct:=N,bk:=D.nx } σ2 H2):=by
 refine⟨fun i m σ H=>m=n - i/\i≤n/\Pv i σ H,⟨n,by simp,Nat.zero_le _,h0⟩,?_⟩
 rintro i m σ H ⟨rfl,hi,p⟩
 by_cases hlt:i<n
 ·refine .inr ⟨hlt,Pv (i+1),fun σ' H' p'=>⟨n - (i+1),by (first|lia|omega),rfl,hlt,p'⟩,fun x H' y=>?_⟩
  obtain⟨e,y⟩:=y
  subst e y
  exact hs i σ _ hlt p
 ·have e:i=n:=by (first|lia|omega)
  subst e
  exact .inl ⟨Nat.le_refl _,hd σ H p⟩
theorem while_by {c:TT} {tb:TS} {D:Ends} {σ:St} {H:Hp} (Pv:St->Hp->Prop) (μ:St->Hp->Nat) (h0:Pv σ H)
  (hs:∀ σ H,Pv σ H->c σ H fun b H1=>if b=true then tb { D with nx:=fun σ' H'=>Pv σ' H'/\μ σ' H'<μ σ H,ct:=fun σ' H'=>Pv σ' H'/\μ σ' H'<μ σ H,bk:=D.nx } σ H1 else D.nx σ H1)
  (mono:∀ σ H Q Q',(∀ b H1,Q b H1->Q' b H1)->c σ H Q->c σ H Q'):tWhile c tb D σ H:=by
 refine⟨fun m σ H=>m=μ σ H/\Pv σ H,⟨_,rfl,h0⟩,?_⟩
 rintro m σ H ⟨rfl,p⟩
 refine mono σ H _ _ (fun b H1 q=>?_) (hs σ H p)
 cases b with
 | true=>exact⟨_,fun σ' H' ⟨p',l⟩=>⟨_,l,rfl,p'⟩,q⟩
 | false=>exact q
end L2
namespace L2
open PySem PySem.Spec PyProof.Rows
abbrev R2:=V->V->Hp->VK->Prop
def OpR (X:Cx) (f:Value->Value->Sem Value) (r:R2):Prop:=
 ∀ (pins:List (Addr × Obj)) (s:Shared) (σ:St) (H:Hp) (x y:V) (v u:Value) (Q:VK),Inv X pins σ H s->RelV x v->RelV y u->r x y H Q->
  wpAny (model X.prog X.w) X.A (f v u) (EP X pins σ Q) X.xe s
def UnR (X:Cx) (f:Value->Sem Value) (r:V->Hp->VK->Prop):Prop:=
 ∀ (pins:List (Addr × Obj)) (s:Shared) (σ:St) (H:Hp) (x:V) (v:Value) (Q:VK),Inv X pins σ H s->RelV x v->r x H Q->
  wpAny (model X.prog X.w) X.A (f v) (EP X pins σ Q) X.xe s
def CallR (X:Cx) (f:Value) (r:List V->Hp->VK->Prop):Prop:=
 ∀ (pins:List (Addr × Obj)) (s:Shared) (σ:St) (H:Hp) (xs:List V) (us:List Value) (Q:VK),Inv X pins σ H s->Vals xs us->r xs H Q->
  wpAny (model X.prog X.w) X.A (call f us) (EP X pins σ Q) X.xe s
def tOp (r:R2) (ta tb:TE):TE:=fun σ H Q=>ta σ H fun x H1=>tb σ H1 fun y H2=>r x y H2 Q
def tUn (r:V->Hp->VK->Prop) (ta:TE):TE:=fun σ H Q=>ta σ H fun x H1=>r x H1 Q
def rI (C:Int->Int->Prop) (g:Int->Int->V):R2:=fun x y H Q=>∃ i j,x= .int i/\y= .int j/\C i j/\Q (g i j) H
def rI0 (g:Int->Int->V):R2:=fun x y H Q=>∃ i j,x= .int i/\y= .int j/\Q (g i j) H
def rU (g:Int->V):V->Hp->VK->Prop:=fun x H Q=>∃ i,x= .int i/\Q (g i) H
section
variable {X:Cx} {a b c:Expr} {ta tb tc:TE} {pos:Pos}
theorem binT (ha:PE X a ta) (hb:PE X b tb) {pins:List (Addr × Obj)} {s:Shared} {σ:St} {H:Hp} {R:V->V->Hp->Prop} (I:Inv X pins σ H s)
  (h:ta σ H fun x H1=>tb σ H1 fun y H2=>R x y H2) {Q:Value->Shared->Prop} {f:Value->Value->Sem Value}
  (hf:∀ v u s2 x y H2,Inv X pins σ H2 s2->RelV x v->RelV y u->R x y H2->wpAny (model X.prog X.w) X.A (f v u) Q X.xe s2) :
  wpAny (model X.prog X.w) X.A (eval a X.env) (fun v s₁=>wpAny (model X.prog X.w) X.A (eval b X.env) (fun u s₂=>wpAny (model X.prog X.w) X.A (f v u) Q X.xe s₂) X.xe s₁) X.xe s:=by
 refine thn (ha pins s σ H _ I h) fun v s1 ⟨x,H1,I1,r1,q1⟩=>?_
 refine thn (hb pins s1 σ H1 _ I1 q1) fun u s2 ⟨y,H2,I2,r2,q2⟩=>?_
 exact hf v u s2 x y H2 I2 r1 r2 q2
theorem pe_op {op:Operator} {r:R2} (ho:OpR X (binaryOp op) r) (ha:PE X a ta) (hb:PE X b tb):PE X (.BinOp a op b pos) (tOp r ta tb):=by
 intro pins s σ H Q I h
 exact wpAny_BinOp (binT ha hb I h fun v u s2 x y H2 I2 rx ry q=>ho pins s2 σ H2 x y v u Q I2 rx ry q)
theorem pe_un {op:UnaryOp} {r:V->Hp->VK->Prop} (ho:UnR X (unaryOp op) r) (ha:PE X a ta):PE X (.UnaryOp op a pos) (tUn r ta):=by
 intro pins s σ H Q I h
 exact UnaryOp_ (thn (ha pins s σ H _ I h) fun v s1 ⟨x,H1,I1,r1,q1⟩=>ho pins s1 σ H1 x v Q I1 r1 q1)
theorem opI {f:Value->Value->Sem Value} {C:Int->Int->Prop} {g:Int->Int->Int}
  (rule:∀ (i j:Int) (t u:Tok) (s:Shared) (Q:Value->Shared->Prop) (E:Value->Shared->Prop),C i j->Q (.int (g i j) s.toks) { s with toks:=s.toks+1 }->wpAny (model X.prog X.w) X.A (f (.int i t) (.int j u)) Q E s) :
  OpR X f (rI C fun i j=> .int (g i j)):=by
 intro pins s σ H x y v u Q I rx ry h
 obtain⟨i,j,rfl,rfl,hc,q⟩:=h
 obtain⟨t,rfl⟩:=rx
 obtain⟨t',rfl⟩:=ry
 exact rule i j t t' s _ _ hc ⟨.int (g i j),H,I.tok _,⟨_,rfl⟩,q⟩
theorem opI0 {f:Value->Value->Sem Value} {g:Int->Int->Int}
  (rule:∀ (i j:Int) (t u:Tok) (s:Shared) (Q:Value->Shared->Prop) (E:Value->Shared->Prop),Q (.int (g i j) s.toks) { s with toks:=s.toks+1 }->wpAny (model X.prog X.w) X.A (f (.int i t) (.int j u)) Q E s) :
  OpR X f (rI0 fun i j=> .int (g i j)):=by
 intro pins s σ H x y v u Q I rx ry h
 obtain⟨i,j,rfl,rfl,q⟩:=h
 obtain⟨t,rfl⟩:=rx
 obtain⟨t',rfl⟩:=ry
 exact rule i j t t' s _ _ ⟨.int (g i j),H,I.tok _,⟨_,rfl⟩,q⟩
theorem opB0 {f:Value->Value->Sem Value} {g:Int->Int->Bool}
  (rule:∀ (i j:Int) (t u:Tok) (s:Shared) (Q:Value->Shared->Prop) (E:Value->Shared->Prop),Q (.bool (g i j)) s->wpAny (model X.prog X.w) X.A (f (.int i t) (.int j u)) Q E s) :
  OpR X f (rI0 fun i j=> .bl (g i j)):=by
 intro pins s σ H x y v u Q I rx ry h
 obtain⟨i,j,rfl,rfl,q⟩:=h
 obtain⟨t,rfl⟩:=rx
 obtain⟨t',rfl⟩:=ry
 exact rule i j t t' s _ _ ⟨.bl (g i j),H,I,rfl,q⟩
def CDiv (i j:Int):Prop:=0<j/\j<1073741824
def CPow (i j:Int):Prop:=0≤j/\j≤1000000/\i.natAbs<2 ^ 64
def CMul (i j:Int):Prop:=(-(2 ^ 64)<i/\i<2 ^ 64)\/(-(2 ^ 64)<j/\j<2 ^ 64)
theorem CMul.ok {i j:Int} (h:CMul i j):IntMulOk i j:=by
 rcases h with ⟨h1,h2⟩ | ⟨h1,h2⟩
 ·exact .of_left (intBits_le_64 h1 h2)
 ·exact .of_right (intBits_le_64 h1 h2)
theorem op_add:OpR X (binaryOp .Add) (rI0 fun i j=> .int (i+j)):=opI0 fun _ _ _ _ _ _ _ q=>add_int q
theorem op_sub:OpR X (binaryOp .Sub) (rI0 fun i j=> .int (i - j)):=opI0 fun _ _ _ _ _ _ _ q=>sub_int q
theorem op_mul:OpR X (binaryOp .Mult) (rI CMul fun i j=> .int (i * j)):=opI fun _ _ _ _ _ _ _ hc q=>mul_int q hc.ok
theorem op_fdiv:OpR X (binaryOp .FloorDiv) (rI CDiv fun i j=> .int (i / j)):=opI fun i j _ _ _ _ _ hc q=>by
 have h1:(0:Int)<j:=hc.1
 have h2:j<1073741824:=hc.2
 exact floordiv_int (by (first|lia|omega)) (by rw[Int.fdiv_eq_ediv_of_nonneg i (by (first|lia|omega))];exact q) (.inl (PyProof.noPylong_small (by (first|lia|omega))))
theorem op_mod:OpR X (binaryOp .Mod) (rI (fun _ j=>0<j) fun i j=> .int (i % j)):=opI fun i j _ _ _ _ _ hc q=>by
 have h1:(0:Int)<j:=hc
 exact mod_int' (by (first|lia|omega)) (by rw[Int.fmod_eq_emod_of_nonneg i (by (first|lia|omega))];exact q)
theorem op_pow:OpR X (binaryOp .Pow) (rI CPow fun i j=> .int (i ^ j.toNat)):=opI fun _ _ _ _ _ _ _ hc q=>pow_int_small hc.1 hc.2.1 hc.2.2 q
theorem unI {f:Value->Sem Value} {g:Int->Int}
  (rule:∀ (i:Int) (t:Tok) (s:Shared) (Q:Value->Shared->Prop) (E:Value->Shared->Prop),Q (.int (g i) s.toks) { s with toks:=s.toks+1 }->wpAny (model X.prog X.w) X.A (f (.int i t)) Q E s) :
  UnR X f (rU fun i=> .int (g i)):=by
 intro pins s σ H x v Q I rx h
 obtain⟨i,rfl,q⟩:=h
 obtain⟨t,rfl⟩:=rx
 exact rule i t s _ _ ⟨.int (g i),H,I.tok _,⟨_,rfl⟩,q⟩
theorem un_neg:UnR X (unaryOp .USub) (rU fun i=> .int (-i)):=unI fun _ _ _ _ _ q=>neg_int q
end
def scal:V->V->Bool
 | .non, .non=>true | .non, .int _=>true | .int _, .non=>true | .non, .bl _=>true | .bl _, .non=>true | .non, .str _=>true | .str _, .non=>true
 | .int _, .int _=>true | .bl _, .bl _=>true | .str _, .str _=>true | .byt _, .byt _=>true
 | .int _, .str _=>true | .str _, .int _=>true | .bl _, .str _=>true | .str _, .bl _=>true
 | _,_=>false
def rEq:R2:=fun x y H Q=>scal x y=true/\Q (.bl (decide (x=y))) H
def rNe:R2:=fun x y H Q=>scal x y=true/\Q (.bl (!decide (x=y))) H
theorem dec_int {i j:Int}:decide (V.int i=V.int j)=(i == j):=by
 rw[Bool.eq_iff_iff]
 simp
theorem dec_bl {i j:Bool}:decide (V.bl i=V.bl j)=(i == j):=by
 rw[Bool.eq_iff_iff]
 simp
theorem dec_str {i j:Str}:decide (V.str i=V.str j)=(i == j):=by
 rw[Bool.eq_iff_iff]
 simp
theorem dec_byt {i j:Array UInt8}:decide (V.byt i=V.byt j)=(i.toList == j.toList):=by
 rw[Bool.eq_iff_iff]
 cases i
 cases j
 simp
section
variable {X:Cx} {a b c:Expr} {ta tb tc:TE} {pos:Pos}
theorem fin_bl {pins:List (Addr × Obj)} {σ:St} {H:Hp} {s:Shared} {Q:VK} {k k':Bool} (I:Inv X pins σ H s) (q:Q (.bl k) H) (e:k=k'):EP X pins σ Q (.bool k') s:=by
 subst e
 exact⟨.bl k,H,I,rfl,q⟩
theorem op_eq:OpR X (compareOp .Eq) rEq:=by
 intro pins s σ H x y v u Q I rx ry h
 obtain⟨hs,q⟩:=h
 cases x with
 | non=>
  cases rx
  cases y with
  | non=>cases ry;exact PySem.EqNone.eq_none_none (fin_bl I q (by simp))
  | bl j=>cases ry;exact PySem.EqNone.eq_none_bool (fin_bl I q (by simp))
  | int j=>obtain⟨t',rfl⟩:=ry;exact PySem.EqNone.eq_none_int (fin_bl I q (by simp))
  | str j=>obtain⟨t',rfl⟩:=ry;exact PySem.EqNone.eq_none_str (fin_bl I q (by simp))
  | _=>exact absurd (show false=true from hs) Bool.false_ne_true
 | bl i=>
  cases rx
  cases y with
  | non=>cases ry;exact PySem.EqNone.eq_bool_none (fin_bl I q (by simp))
  | bl j=>cases ry;exact eq_bool (fin_bl I q dec_bl)
  | str j=>obtain⟨t',rfl⟩:=ry;exact PySem.EqMixed.eq_bool_str (fin_bl I q (by simp))
  | _=>exact absurd (show false=true from hs) Bool.false_ne_true
 | int i=>
  obtain⟨t,rfl⟩:=rx
  cases y with
  | non=>cases ry;exact PySem.EqNone.eq_int_none (fin_bl I q (by simp))
  | int j=>obtain⟨t',rfl⟩:=ry;exact eq_int (fin_bl I q dec_int)
  | str j=>obtain⟨t',rfl⟩:=ry;exact PySem.EqMixed.eq_int_str (fin_bl I q (by simp))
  | _=>exact absurd (show false=true from hs) Bool.false_ne_true
 | str i=>
  obtain⟨t,rfl⟩:=rx
  cases y with
  | non=>cases ry;exact PySem.EqNone.eq_str_none (fin_bl I q (by simp))
  | bl j=>cases ry;exact PySem.EqMixed.eq_str_bool (fin_bl I q (by simp))
  | int j=>obtain⟨t',rfl⟩:=ry;exact PySem.EqMixed.eq_str_int (fin_bl I q (by simp))
  | str j=>obtain⟨t',rfl⟩:=ry;exact eq_str (fin_bl I q dec_str)
  | _=>exact absurd (show false=true from hs) Bool.false_ne_true
 | byt i=>
  obtain⟨t,rfl⟩:=rx
  cases y with
  | byt j=>obtain⟨t',rfl⟩:=ry;exact PySem.W.eq_bytes (fin_bl I q dec_byt)
  | _=>exact absurd (show false=true from hs) Bool.false_ne_true
 | _=>cases y <;> exact absurd (show false=true from hs) Bool.false_ne_true
theorem op_ne:OpR X (compareOp .NotEq) rNe:=by
 intro pins s σ H x y v u Q I rx ry h
 obtain⟨hs,q⟩:=h
 cases x with
 | non=>
  cases rx
  cases y with
  | non=>cases ry;exact PySem.EqNone.ne_none_none (fin_bl I q (by simp))
  | bl j=>cases ry;exact PySem.EqNone.ne_none_bool (fin_bl I q (by simp))
  | int j=>obtain⟨t',rfl⟩:=ry;exact PySem.EqNone.ne_none_int (fin_bl I q (by simp))
  | str j=>obtain⟨t',rfl⟩:=ry;exact PySem.EqNone.ne_none_str (fin_bl I q (by simp))
  | _=>exact absurd (show false=true from hs) Bool.false_ne_true
 | bl i=>
  cases rx
  cases y with
  | non=>cases ry;exact PySem.EqNone.ne_bool_none (fin_bl I q (by simp))
  | bl j=>cases ry;exact ne_bool (fin_bl I q (congrArg not dec_bl))
  | str j=>obtain⟨t',rfl⟩:=ry;exact PySem.EqMixed.ne_bool_str (fin_bl I q (by simp))
  | _=>exact absurd (show false=true from hs) Bool.false_ne_true
 | int i=>
  obtain⟨t,rfl⟩:=rx
  cases y with
  | non=>cases ry;exact PySem.EqNone.ne_int_none (fin_bl I q (by simp))
  | int j=>obtain⟨t',rfl⟩:=ry;exact ne_int (fin_bl I q (congrArg not dec_int))
  | str j=>obtain⟨t',rfl⟩:=ry;exact PySem.EqMixed.ne_int_str (fin_bl I q (by simp))
  | _=>exact absurd (show false=true from hs) Bool.false_ne_true
 | str i=>
  obtain⟨t,rfl⟩:=rx
  cases y with
  | non=>cases ry;exact PySem.EqNone.ne_str_none (fin_bl I q (by simp))
  | bl j=>cases ry;exact PySem.EqMixed.ne_str_bool (fin_bl I q (by simp))
  | int j=>obtain⟨t',rfl⟩:=ry;exact PySem.EqMixed.ne_str_int (fin_bl I q (by simp))
  | str j=>obtain⟨t',rfl⟩:=ry;exact ne_str (fin_bl I q (congrArg not dec_str))
  | _=>exact absurd (show false=true from hs) Bool.false_ne_true
 | byt i=>
  obtain⟨t,rfl⟩:=rx
  cases y with
  | byt j=>obtain⟨t',rfl⟩:=ry;exact PySem.W.ne_bytes (fin_bl I q (congrArg not dec_byt))
  | _=>exact absurd (show false=true from hs) Bool.false_ne_true
 | _=>cases y <;> exact absurd (show false=true from hs) Bool.false_ne_true
theorem op_lt:OpR X (compareOp .Lt) (rI0 fun i j=> .bl (decide (i<j))):=opB0 fun _ _ _ _ _ _ _ q=>lt_int q
theorem op_le:OpR X (compareOp .LtE) (rI0 fun i j=> .bl (decide (i≤j))):=opB0 fun _ _ _ _ _ _ _ q=>le_int q
theorem op_gt:OpR X (compareOp .Gt) (rI0 fun i j=> .bl (decide (j<i))):=opB0 fun _ _ _ _ _ _ _ q=>gt_int q
theorem op_ge:OpR X (compareOp .GtE) (rI0 fun i j=> .bl (decide (j≤i))):=opB0 fun _ _ _ _ _ _ _ q=>ge_int q
theorem op_notN:OpR X (compareOp .IsNot) (fun x y H Q=>y= .non/\Q (.bl (!decide (x= .non))) H):=by
 intro pins s σ H x y v u Q I rx ry h
 obtain⟨rfl,q⟩:=h
 cases ry
 refine isnot_none_gen (fin_bl I q ?_)
 cases x <;> first
  | (cases rx;rfl)
  | (obtain⟨t,rfl⟩:=rx;rfl)
theorem nomark (b:Expr) {op:CmpOp} (h:op≠ .In:=by decide) (h2:op≠ .NotIn:=by decide):behindInMarks op b=false:=by
 have e1:(op == CmpOp.In)=false:=by cases op <;> first | rfl | exact absurd rfl h
 have e2:(op == CmpOp.NotIn)=false:=by cases op <;> first | rfl | exact absurd rfl h2
 cases b <;> simp[behindInMarks,e1,e2]
theorem pe_cmpR {op:CmpOp} {r:R2} (ho:OpR X (compareOp op) r) (ha:PE X a ta) (hb:PE X b tb) (hm:behindInMarks op b=false):PE X (.Compare a [op] [b] pos) (tOp r ta tb):=by
 intro pins s σ H Q I h
 exact wpAny_Compare1 (binT ha hb I h fun v u s2 x y H2 I2 rx ry q=>ho pins s2 σ H2 x y v u Q I2 rx ry q) hm
def tTest (t:TE):TT:=fun σ H Q=>t σ H fun x H'=>∃ k,x= .bl k/\Q k H'
theorem pt_cmpR {op:CmpOp} {r:R2} (ho:OpR X (compareOp op) r) (ha:PE X a ta) (hb:PE X b tb) (hm:behindInMarks op b=false):PT X (.Compare a [op] [b] pos) (tTest (tOp r ta tb)):=by
 intro pins s σ H Q I h
 refine wpAny_isTrue_Compare1 (thn (ha pins s σ H _ I h) fun v s1 ⟨x,H1,I1,r1,q1⟩=>thn (hb pins s1 σ H1 _ I1 q1) fun u s2 ⟨y,H2,I2,r2,q2⟩=>
  thn (ho pins s2 σ H2 x y v u _ I2 r1 r2 q2) fun c s3 ⟨z,H3,I3,r3,k,e,q3⟩=>?_) hm
 subst e
 cases r3
 exact wpAny_truthy_bool ⟨H3,I3,q3⟩
def tChain (r r':R2) (ta tb tc:TE):TE:=fun σ H Q=>ta σ H fun x H1=>tb σ H1 fun y H2=>r x y H2 fun z H3=>∃ k,z= .bl k/\
 (if k=true then tc σ H3 fun w' H4=>r' y w' H4 Q else Q (.bl false) H3)
theorem pe_chain {op op':CmpOp} {r r':R2} (ho:OpR X (compareOp op) r) (ho':OpR X (compareOp op') r') (ha:PE X a ta) (hb:PE X b tb) (hc:PE X c tc)
  (hm:lastMarks [op,op'] [b,c]=false:=by with_unfolding_all rfl):PE X (.Compare a [op,op'] [b,c] pos) (tChain r r' ta tb tc):=by
 intro pins s σ H Q I h
 refine Compare_chain (thn (ha pins s σ H _ I h) fun v s1 ⟨x,H1,I1,r1,q1⟩=>chain_link (thn (hb pins s1 σ H1 _ I1 q1) fun u s2 ⟨y,H2,I2,r2,q2⟩=>
  thn (ho pins s2 σ H2 x y v u _ I2 r1 r2 q2) fun d s3 ⟨z,H3,I3,r3,k,e,q3⟩=>?_)) hm
 subst e
 cases r3
 refine wpAny_truthy_bool ?_
 cases k with
 | false=>exact ite_ff ⟨.bl false,H3,I3,rfl,q3⟩
 | true=>exact ite_tt (chain_last (thn (hc pins s3 σ H3 _ I3 q3) fun w' s4 ⟨z',H4,I4,r4,q4⟩=>ho' pins s4 σ H4 y z' u w' Q I4 r2 r4 q4))
theorem pt_chain {op op':CmpOp} {r r':R2} (ho:OpR X (compareOp op) r) (ho':OpR X (compareOp op') r') (ha:PE X a ta) (hb:PE X b tb) (hc:PE X c tc)
  (hm:lastMarks [op,op'] [b,c]=false:=by with_unfolding_all rfl):PT X (.Compare a [op,op'] [b,c] pos) (tTest (tChain r r' ta tb tc)):=by
 intro pins s σ H Q I h
 refine isTrue_chain (thn (ha pins s σ H _ I h) fun v s1 ⟨x,H1,I1,r1,q1⟩=>test_link (thn (hb pins s1 σ H1 _ I1 q1) fun u s2 ⟨y,H2,I2,r2,q2⟩=>
  thn (ho pins s2 σ H2 x y v u _ I2 r1 r2 q2) fun d s3 ⟨z,H3,I3,r3,k,e,q3⟩=>?_)) hm
 subst e
 cases r3
 refine wpAny_truthy_bool ?_
 cases k with
 | false=>
  obtain⟨k',e',q'⟩:=q3
  cases e'
  exact ite_ff ⟨H3,I3,q'⟩
 | true=>
  refine ite_tt (test_last (thn (hc pins s3 σ H3 _ I3 q3) fun w' s4 ⟨z',H4,I4,r4,q4⟩=>thn (ho' pins s4 σ H4 y z' u w' _ I4 r2 r4 q4) fun d' s5 ⟨z2,H5,I5,r5,k2,e2,q5⟩=>?_))
  subst e2
  cases r5
  exact wpAny_truthy_bool ⟨H5,I5,q5⟩
theorem line63:(sizeLine:Nat)<2 ^ 63:=by rw[sizeLine_eq];decide
theorem op_add_str:OpR X (binaryOp .Add) (fun x y H Q=>∃ i j,x= .str i/\y= .str j/\i.length+j.length≤sizeLine/\Q (.str (i ++ j)) H):=by
 intro pins s σ H x y v u Q I rx ry h
 obtain⟨i,j,rfl,rfl,hz,q⟩:=h
 obtain⟨t,rfl⟩:=rx
 obtain⟨t',rfl⟩:=ry
 exact add_str (fun t' tk=>⟨.str (i ++ j),H,I.tok _,⟨_,rfl⟩,q⟩) hz
theorem vals1 {x:V} {us:List Value} (r:Vals [x] us):∃ u,us=[u]/\RelV x u:=by
 cases r with
 | cons r1 r2=>cases r2;exact⟨_,rfl,r1⟩
theorem vals2 {x y:V} {us:List Value} (r:Vals [x,y] us):∃ u w',us=[u,w']/\RelV x u/\RelV y w':=by
 cases r with
 | cons r1 r2=>
  cases r2 with
  | cons r3 r4=>cases r4;exact⟨_,_,rfl,r1,r3⟩
theorem call_abs:CallR X (.builtin "abs") (fun xs H Q=>∃ i,xs=[.int i]/\Q (.int (if i<0 then -i else i)) H):=by
 intro pins s σ H xs us Q I r h
 obtain⟨i,rfl,q⟩:=h
 obtain⟨u,rfl,t,rfl⟩:=vals1 r
 exact call_abs_int fun u tk=>⟨.int (if i<0 then -i else i),H,I.tok _,⟨_,rfl⟩,q⟩
theorem call_max2 (hc:X.calm=true):CallR X (.builtin "max") (fun xs H Q=>∃ i j,xs=[.int i, .int j]/\Q (.int (if j>i then j else i)) H):=by
 intro pins s σ H xs us Q I r h
 obtain⟨i,j,rfl,q⟩:=h
 obtain⟨u,w',rfl,⟨t,rfl⟩,⟨t',rfl⟩⟩:=vals2 r
 refine max_two_ints (I.ok.hd hc) fun h' tk k=>⟨_,H,I.kept k,?_,q⟩
 by_cases hj:j>i
 ·rw[if_pos hj,if_pos hj];exact⟨_,rfl⟩
 ·rw[if_neg hj,if_neg hj];exact⟨_,rfl⟩
theorem call_min2 (hc:X.calm=true):CallR X (.builtin "min") (fun xs H Q=>∃ i j,xs=[.int i, .int j]/\Q (.int (if j<i then j else i)) H):=by
 intro pins s σ H xs us Q I r h
 obtain⟨i,j,rfl,q⟩:=h
 obtain⟨u,w',rfl,⟨t,rfl⟩,⟨t',rfl⟩⟩:=vals2 r
 refine min_two_ints (I.ok.hd hc) fun h' tk k=>⟨_,H,I.kept k,?_,q⟩
 by_cases hj:j<i
 ·rw[if_pos hj,if_pos hj];exact⟨_,rfl⟩
 ·rw[if_neg hj,if_neg hj];exact⟨_,rfl⟩
theorem call_int1:CallR X (.type "int") (fun xs H Q=>(∃ i,xs=[.int i]/\Q (.int i) H)\/∃ k,xs=[.bl k]/\Q (.int (if k then 1 else 0)) H):=by
 intro pins s σ H xs us Q I r h
 rcases h with ⟨i,rfl,q⟩ | ⟨k,rfl,q⟩
 ·obtain⟨u,rfl,t,rfl⟩:=vals1 r
  exact call_int_int ⟨.int i,H,I,⟨_,rfl⟩,q⟩
 ·obtain⟨u,rfl,r1⟩:=vals1 r
  cases r1
  exact call_int_bool ⟨.int (if k then 1 else 0),H,I.tok _,⟨_,rfl⟩,q⟩
end
end L2
namespace L2
open PySem PySem.Spec PyProof.Rows
section
variable {prog:Program} {w:World} {A:Around} {E:Value->Shared->Prop} {s:Shared} {K:PySem.W.Frag} {x dx C f:Addr} {mA:Str->Option Value} {name:Str} {v:Value}
end
theorem RelO.some_of {v:V} {o:Option Value} (r:RelO (some v) o):∃ u,o=some u/\RelV v u:=by
 cases o with
 | none=>exact(show False from r).elim
 | some u=>exact⟨u,rfl,r⟩
section
variable {P:Program} {w:World} {H H':Hp} {h h':Heap} {a C dx:Addr} {fs fs':List (Str × V)}
end
section
variable {X:Cx} {pins:List (Addr × Obj)} {σ:St} {H:Hp} {s:Shared} {a C dx:Addr} {fs:List (Str × V)} {f:Str} {v:V} {A:Around} {E:Value->Shared->Prop}
end
section
variable {X:Cx} {o e value:Expr} {f:Str} {pos pos' tpos:Pos} {ta tv:TE}
end
section
variable {X:Cx} {pins:List (Addr × Obj)} {σ:St} {H:Hp} {s:Shared} {A:Around} {E:Value->Shared->Prop} {Q:Value->Shared->Prop} {c:Value} {b:Bool}
end
end L2
namespace L2
open PySem PySem.Spec PyProof.Rows
structure Room (k:Nat) (A:Around):Prop where
 hd:A.handled=none
 dp:A.depth+3 * k+5<recursionLimit
 un:A.units+16 * k+200<cLine
theorem Room.mono {j k:Nat} {A:Around} (r:Room k A) (h:j≤k):Room j A:=⟨r.hd,by have:=r.dp;(first|lia|omega),by have:=r.un;(first|lia|omega)⟩
theorem Room.deeper {k:Nat} {A:Around} (r:Room (k+1) A) (env:Env):Room k (A.deeper env):=
 ⟨r.hd,by have:=r.dp;show A.depth+1+3 * k+5<_;(first|lia|omega),by have:=r.un;show A.units+3+16 * k+200<_;(first|lia|omega)⟩
theorem Room.depth {k:Nat} {A:Around} (r:Room k A):A.depth<recursionLimit:=by have:=r.dp;(first|lia|omega)
theorem Room.units {k:Nat} {A:Around} (r:Room k A):A.units+64<cLine:=by have:=r.un;(first|lia|omega)
def tNil:TA:=fun _ H Q=>Q [] H
def tCons (ta:TE) (tr:TA):TA:=fun σ H Q=>ta σ H fun x H1=>tr σ H1 fun xs H2=>Q (x :: xs) H2
section
variable {X:Cx} {e:Expr} {es:List Expr} {te:TE} {t:TA} {pos:Pos}
theorem pa_nil:PA X [] tNil:=fun _ _ _ _ H Q I h=>Calls.spliced_nil ⟨[],H,I, .nil,h⟩
theorem pa_cons (ha:PE X e te) (hr:PA X es t) (hs:starEach (e :: es) X.env=(false,eval e X.env) :: starEach es X.env:=by rfl):PA X (e :: es) (tCons te t):=by
 intro pos pins s σ H Q I h
 rw[hs]
 show wpAny _ _ (spliced ((false,eval e X.env) :: backTo pos (starEach es X.env))) _ _ s
 refine Calls.spliced_cons (thn (ha pins s σ H _ I h) fun u s1 ⟨x,H1,I1,r1,q1⟩=>?_)
 exact thn (hr pos pins s1 σ H1 _ I1 q1) fun us s2 ⟨xs,H2,I2,r2,q2⟩=>⟨x :: xs,H2,I2, .cons r1 r2,q2⟩
def tTup (t:TA):TE:=fun σ H Q=>t σ H fun xs H1=>xs.length≤sizeLine/\∀ p,H1 p=none->Q (.ref p) (upd H1 p (.tup xs))
def tLst (t:TA):TE:=fun σ H Q=>t σ H fun xs H1=>xs.length≤sizeLine/\∀ p,H1 p=none->Q (.ref p) (upd H1 p (.lst xs))
theorem pe_tup {x1} (h:PA X es t):PE X (.Tuple es x1 pos) (tTup t):=by
 intro pins s σ H Q I hq
 refine wpAny_Tuple_spliced (thn (h pos pins s σ H _ I hq) fun us s1 ⟨xs,H1,I1,r,z,q⟩=>⟨by rw[<- r.length];exact z,?_⟩)
 have hf:H1 s1.heap.objs.size=none:=I1.hok.fresh (Nat.le_refl _)
 refine⟨.ref s1.heap.objs.size,upd H1 s1.heap.objs.size (.tup xs),I1.laid (t':=s1.toks) (fun b u e=>Heap.get?_push_of_some _ e) (Nat.le_refl _) ?_,rfl,q _ hf⟩
 exact⟨z,us,r,⟨_,Heap.get?_push_size _ rfl,rfl,_,rfl⟩⟩
theorem pe_lst (h:PA X es t):PE X (.List es pos) (tLst t):=by
 intro pins s σ H Q I hq
 refine wpAny_List_spliced (thn (h pos pins s σ H _ I hq) fun us s1 ⟨xs,H1,I1,r,z,q⟩=>⟨by rw[<- r.length];exact z,?_⟩)
 have hf:H1 s1.heap.objs.size=none:=I1.hok.fresh (Nat.le_refl _)
 refine⟨.ref s1.heap.objs.size,upd H1 s1.heap.objs.size (.lst xs),I1.laid (t':=s1.toks) (fun b u e=>Heap.get?_push_of_some _ e) (Nat.le_refl _) ?_,rfl,q _ hf⟩
 exact⟨z,us,0,r,Heap.get?_push_size _ rfl⟩
end
abbrev Sp:=List V->Hp->VK->XK->Prop
abbrev CXT:=List Env->Hp->Shared->XK->Value->Shared->Prop
structure Env0 (P:Program) (w:World) (K:PySem.W.Frag) (mg:Str->Option Value) (base:Heap) (A:Around) (outer:List Env) (s:Shared) (H:Hp):Prop where
 frames:A.frames=some outer
 mod:Mod K mg base
 bs:∀ b o,base.get? b=some o->s.heap.get? b=some o/\H b=none
 bsz:base.objs.size≤s.heap.objs.size
 funs:s.heap.FunFrames base outer
 frf:∀ b∈frs outer,H b=none
 hok:HOk P w H s.heap
 bare:AllBare s.gens
def CE (outer:List Env) (P:Program) (w:World) (H:Hp) (s:Shared) (Q:VK) (u:Value) (s':Shared):Prop:=
 ∃ v H',s'.os=s.os/\AllBare s'.gens/\Un (frs outer) [] H H' s.heap s'.heap/\HOk P w H' s'.heap/\RelV v u/\Q v H'
def CR (CX:CXT) (outer:List Env) (P:Program) (w:World) (H:Hp) (s:Shared) (Q:VK) (E:XK) (r:Result) (s':Shared):Prop:=
 match r with
 | .ok (.ret u)=>CE outer P w H s Q u s'
 | .ok _=>False
 | .error e=>CX outer H s E e s'
structure FnOk (P:Program) (w:World) (K:PySem.W.Frag) (mg:Str->Option Value) (base:Heap) (CX:CXT) (k:Nat) (f:Addr) (fd:FuncData) (ps:List Str) (sp:Sp):Prop where
 len:∀ vs H Q E,sp vs H Q E->vs.length=ps.length
 run:∀ (A:Around) (outer:List Env) (s:Shared) (H:Hp) (args:Args) (us:List Value) (vs:List V) (Q:VK) (E:XK),Room k A->Env0 P w K mg base A outer s H->BindsTo s fd args (ps.zip us)->Vals vs us->sp vs H Q E->
  codeAny (model P w) A (.call (.ref f) args) (CR CX outer P w H s Q E) s
section
variable {X:Cx} {pins:List (Addr × Obj)} {σ:St} {H:Hp} {s s':Shared}
theorem Inv.env0 (I:Inv X pins σ H s):Env0 X.prog X.w X.K X.mg X.base X.A X.stack s H:=
 ⟨I.ok.frames,I.ok.mod,I.bs,Nat.le_trans I.ok.bsz I.sz,I.stack,I.stkFree,I.hok,I.bare⟩
theorem Inv.after {Q:VK} {u:Value} (I:Inv X pins σ H s) (h:CE X.stack X.prog X.w H s Q u s'):EP X pins σ Q u s':=by
 obtain⟨v,H',os,bare,un,hok,r,q⟩:=h
 obtain⟨hh,g,d,t,os'⟩:=s'
 obtain rfl:os'=s.os:=os
 exact⟨v,H',I.call (h':=hh) (g':=g) (d':=d) (t':=t) (ch:=[]) un hok bare (fun b z=>absurd z (by simp)),r,q⟩
end
def tCall (sp:Sp) (dvs:List V) (E:XK) (t:TA):TE:=fun σ H Q=>t σ H fun vs H1=>sp (vs ++ dvs) H1 Q E
def Binds (K:PySem.W.Frag) (fd:FuncData) (ps:List Str) (ds:List Value):Prop:=
 ∀ (s:Shared) (us:List Value),K.In s.heap->(us ++ ds).length=ps.length->BindsTo s fd ⟨us,[]⟩ (ps.zip (us ++ ds))
theorem Binds.all {K:PySem.W.Frag} {fd:FuncData} {ps:List Str} (h:∀ us:List Value,us.length=ps.length->bindArgs fd ⟨us,[]⟩=pure (ps.zip us)):Binds K fd ps []:=fun s us _ hl=>by
 rw[List.append_nil] at hl ⊢
 exact .of_eq (h us hl)
def Passes (CX:CXT) (X:Cx) (E:XK):Prop:=∀ (pins:List (Addr × Obj)) (σ:St) (H:Hp) (s:Shared) (e:Value) (s':Shared),Inv X pins σ H s->CX X.stack H s E e s'->X.xe e s'
section
variable {X:Cx} {CX:CXT} {k:Nat} {f C:Addr} {fd:FuncData} {ps:List Str} {sp:Sp} {dvs:List V} {ds:List Value} {E:XK} {x m:Str} {p pos apos:Pos} {e o:Expr} {es:List Expr} {ta:TE} {t:TA}
theorem run_fn {pins:List (Addr × Obj)} {σ:St} {H:Hp} {s:Shared} {Q:VK} {us:List Value} {vs:List V} (F:FnOk X.prog X.w X.K X.mg X.base CX k f fd ps sp) (hr:Room k X.A) (hb:Binds X.K fd ps ds) (hd:Vals dvs ds) (hx:Passes CX X E)
  (I:Inv X pins σ H s) (r:Vals vs us) (h:sp (vs ++ dvs) H Q E):wpAny (model X.prog X.w) X.A (call (.ref f) us) (EP X pins σ Q) X.xe s:=by
 have r2:Vals (vs ++ dvs) (us ++ ds):=r.append hd
 have hl:(us ++ ds).length=ps.length:=by rw[<- r2.length];exact F.len _ _ _ _ h
 refine wpAny_call (codeAny_mono (F.run X.A X.stack s H ⟨us,[]⟩ (us ++ ds) (vs ++ dvs) Q E hr I.env0 (hb s us I.kIn hl) r2 h) fun r s' hq=>?_)
 cases r with
 | error e=>exact hx pins σ H s e s' I hq
 | ok fl=>
  cases fl with
  | ret u=>exact I.after hq
  | next=>exact False.elim hq
  | brk=>exact False.elim hq
  | cont=>exact False.elim hq
theorem pe_call (F:FnOk X.prog X.w X.K X.mg X.base CX k f fd ps sp) (hr:Room k X.A) (hg:Gl X x) (hm:X.mg x=some (.ref f)) (hk:PySem.W.keepIn X.K (.ref f)=true) (hb:Binds X.K fd ps ds) (hd:Vals dvs ds) (hx:Passes CX X E)
  (ha:PA X (e :: es) t) (hdb:(x == ("__debug__" : Str))=false:=by decide) (he:starEach (e :: es) X.env=(false,eval e X.env) :: starEach es X.env:=by rfl) (hpl:(backTo pos (starEach es X.env)).any (·.1)=false:=by rfl) :
  PE X (.Call (.Name x p) (e :: es) [] pos) (tCall sp dvs E t):=by
 intro pins s σ H Q I h
 refine wpAny_Call_Name_kw (ld_glob I hg hm ?_ hdb)
 refine PySem.W.callWith_K (h₀:=X.base) I.ok.mod.kin hk (thn (ha pos pins s σ H _ I h) fun us s1 ⟨vs,H1,I1,r,q⟩=>⟨I1.kIn,?_⟩) he hpl
 exact run_fn F hr hb hd hx I1 r q
end
section
variable {X:Cx} {CX:CXT} {k:Nat} {f C:Addr} {fd:FuncData} {ps ks:List Str} {sp:Sp} {E:XK} {x m:Str} {p pos apos kpos:Pos} {e o:Expr} {es:List Expr} {kws:List Keyword} {te ta:TE} {t tk:TA} {nm:Option Str}
variable {g:List Value->List Value->List Value} {gV:List V->List V->List V}
end
structure FnScope (N P:List Str) (sc:Scope):Prop where
 kind:sc.kind= .function
 co:sc.isCoroutine=false
 gen:sc.isGenerator=false
 nd:N.Nodup
 pre:N.take P.length=P
 par:∀ x∈P,sc.names.lookup x=some .local\/sc.names.lookup x=some .cell
 nofree:∀ y∈sc.names,y.2≠ .free
theorem bindL_out {kindOf:Str->Option NameKind} {x:Str}:∀ {binds:List (Str × Value)} {m:Str->Option Value},(∀ v,(x,v) ∉ binds)->bindL kindOf binds m x=m x
 | [],_,_=>rfl
 | (n,v) :: r,m,h=>by
  unfold bindL
  rw[bindL_out fun w hw=>h w (List.mem_cons_of_mem _ hw)]
  split
  ·have:x≠n:=by rintro rfl;exact h v List.mem_cons_self
   simp[this]
  ·rfl
theorem bindC_out {kindOf:Str->Option NameKind} {x:Str}:∀ {binds:List (Str × Value)} {m:Str->Option Value},(∀ v,(x,v) ∉ binds)->bindC kindOf binds m x=m x
 | [],_,_=>rfl
 | (n,v) :: r,m,h=>by
  unfold bindC
  rw[bindC_out fun w hw=>h w (List.mem_cons_of_mem _ hw)]
  split
  ·rfl
  ·have:x≠n:=by rintro rfl;exact h v List.mem_cons_self
   simp[this]
theorem bindL_get {kindOf:Str->Option NameKind} {x:Str} {v:Value}:∀ {P:List Str} {vs:List Value} {i:Nat} {m:Str->Option Value},P.Nodup->P[i]?=some x->vs[i]?=some v->kindOf x=some .local->
  bindL kindOf (P.zip vs) m x=some v
 | [],_,_,_,_,h,_,_=>by simp at h
 | _ :: _,[],_,_,_,_,h,_=>by simp at h
 | p :: P,w :: vs,0,m,nd,h1,h2,hk=>by
  simp at h1 h2;subst h1;subst h2
  show bindL kindOf ((p,w) :: P.zip vs) m p=_
  unfold bindL
  rw[bindL_out fun v hv=>(List.nodup_cons.mp nd).1 (List.of_mem_zip hv).1,if_pos hk]
  simp
 | p :: P,w :: vs,i+1,m,nd,h1,h2,hk=>by
  show bindL kindOf ((p,w) :: P.zip vs) m x=_
  unfold bindL
  exact bindL_get (i:=i) (List.nodup_cons.mp nd).2 (by simpa using h1) (by simpa using h2) hk
theorem bindC_get {kindOf:Str->Option NameKind} {x:Str} {v:Value}:∀ {P:List Str} {vs:List Value} {i:Nat} {m:Str->Option Value},P.Nodup->P[i]?=some x->vs[i]?=some v->kindOf x≠some .local->
  bindC kindOf (P.zip vs) m x=some v
 | [],_,_,_,_,h,_,_=>by simp at h
 | _ :: _,[],_,_,_,_,h,_=>by simp at h
 | p :: P,w :: vs,0,m,nd,h1,h2,hk=>by
  simp at h1 h2;subst h1;subst h2
  show bindC kindOf ((p,w) :: P.zip vs) m p=_
  unfold bindC
  rw[bindC_out fun v hv=>(List.nodup_cons.mp nd).1 (List.of_mem_zip hv).1,if_neg hk]
  simp
 | p :: P,w :: vs,i+1,m,nd,h1,h2,hk=>by
  show bindC kindOf ((p,w) :: P.zip vs) m x=_
  unfold bindC
  exact bindC_get (i:=i) (List.nodup_cons.mp nd).2 (by simpa using h1) (by simpa using h2) hk
def start (N:List Str) (vs:List V):St:=vs.map some ++ List.replicate (N.length - vs.length) none
def cxOf (CX:CXT) (P:Program) (w:World) (K:PySem.W.Frag) (mg:Str->Option Value) (base:Heap) (N:List Str) (qual:Str) (scope:Scope) (f:Addr) (cd:Value) (A:Around) (outer:List Env) (s:Shared) (H:Hp) (E:XK):Cx where
 prog:=P
 w:=w
 K:=K
 mg:=mg
 base:=base
 A:=A.deeper (envOfC qual scope s.heap.objs.size f cd)
 N:=N
 s₀:=s
 H₀:=H
 env:=envOfC qual scope s.heap.objs.size f cd
 outer:=outer
 stack:=envOfC qual scope s.heap.objs.size f cd :: outer
 ex:=[]
 calm:=true
 fn:=fun _=>true
 pn:=[]
 xe:=fun e s'=>wpAny (model P w) (A.deeper (envOfC qual scope s.heap.objs.size f cd)) (leaving (envOfC qual scope s.heap.objs.size f cd) e) (fun _ s''=>CX outer H s E e s'') (fun e' s''=>CX outer H s E e' s'') s'
theorem cell_has {sc:Scope} {n:Nat} {x:Str} (h:sc.names.lookup x=some .cell):∃ c,(cellsFrom n sc.names []).lookup x=some c:=by
 have q:=PySem.W.cellsFrom_some sc.names n [] (.inl h)
 exact Option.isSome_iff_exists.mp q
theorem inv_start {CX:CXT} {P:Program} {w:World} {K:PySem.W.Frag} {mg:Str->Option Value} {base:Heap} {N ps:List Str} {qual:Str} {scope:Scope} {f:Addr} {cd:Value} {A:Around} {outer:List Env} {s s1:Shared} {H:Hp} {E:XK} {us:List Value} {vs:List V}
  (S:FnScope N ps scope) (hd:A.handled=none) (e0:Env0 P w K mg base A outer s H) (hl:vs.length=ps.length) (r:Vals vs us)
  (x:InCallC s s.heap.objs.size (bindL (envOfC qual scope s.heap.objs.size f cd).kindOf (ps.zip us) fun _=>none) (cellsFrom (s.heap.objs.size+1) scope.names []) (bindC (envOfC qual scope s.heap.objs.size f cd).kindOf (ps.zip us) fun _=>none) s1) :
  Inv (cxOf CX P w K mg base N qual scope f cd A outer s H E) [] (start N vs) H s1:=by
 have hpl:ps.length≤N.length:=by have:=congrArg List.length S.pre;rw[List.length_take] at this;(first|lia|omega)
 obtain⟨h1,tk,rfl,hk⟩:=x.done
 have noA:∀ b:Addr,b ∉ (cxOf CX P w K mg base N qual scope f cd A outer s H E).ex:=fun b z=>absurd (show b∈([]:List Addr) from z) (by simp)
 refine⟨⟨e0.mod,S.kind,rfl,rfl,Nat.le_refl _,fun y z c h1 h2=>?_,fun y hy=>?_,fun y c _ h=>?_,fun _=>hd,Around.frames_deeper e0.frames, .inr ⟨rfl,rfl⟩,fun b z=>absurd z (noA b),e0.bs,e0.bsz,fun b _ _=>noA b,fun b z=>absurd z (noA b),e0.funs,e0.frf⟩,
  rfl,e0.bare,Un.kept hk,⟨_,x.toInCall.ns,fun i y v h1 h2 h3=>?_⟩,fun y c h=>⟨_,x.cell y c h⟩,e0.hok.fresh (Nat.le_refl _),fun y c h=>?_,fun p hp=>absurd (show p∈([]:List (Addr × Obj)) from hp) (by simp),e0.hok.kept hk,?_⟩
 ·exact name_of_addr x.apart (PySem.mem_of_lookup h1) (PySem.mem_of_lookup h2)
 ·have hy:scope.names.lookup y=some .cell\/scope.names.lookup y=some .free:=hy
  rcases hy with hy | hy
  ·exact cell_has hy
  ·exact absurd rfl (S.nofree _ (PySem.mem_of_lookup hy))
 ·exact Nat.le_of_lt (x.above y c (PySem.mem_of_lookup h))
 ·have hi:i<vs.length:=by
   unfold start at h2
   by_cases hi:i<vs.length
   ·exact hi
   ·rw[List.getElem?_append_right (by simpa using hi)] at h2
    rw[List.getElem?_replicate] at h2
    split at h2 <;> cases h2
  have ha:vs[i]?=some v:=by
   unfold start at h2
   rw[List.getElem?_append_left (by simpa using hi),List.getElem?_map] at h2
   cases e:vs[i]? with
   | none=>rw[e] at h2;cases h2
   | some a=>rw[e] at h2;cases h2;rfl
  obtain⟨u,hu,rv⟩:=r.get ha
  have hp:ps[i]?=some y:=by
   rw[<- S.pre,List.getElem?_take_of_lt (by (first|lia|omega))];exact h1
  have ndP:ps.Nodup:=by rw[<- S.pre];exact S.nd.sublist (List.take_sublist _ _)
  refine⟨u,rv,?_⟩
  rcases S.par y (List.mem_of_getElem? hp) with k | k
  ·exact .inl ⟨k,bindL_get ndP hp hu k⟩
  ·obtain⟨c,e⟩:=cell_has (n:=s.heap.objs.size+1) k
   refine .inr ⟨.inl k,c,e,?_⟩
   have q:=x.cell y c e
   rw[bindC_get ndP hp hu (by show scope.names.lookup y≠_;rw[k];decide)] at q
   exact q
 ·exact e0.hok.fresh (Nat.le_of_lt (x.above y c (PySem.mem_of_lookup h)))
 ·unfold start
  show _=N.length
  rw[List.length_append,List.length_map,List.length_replicate]
  (first|lia|omega)
theorem fn_of {CX:CXT} {P:Program} {w:World} {K:PySem.W.Frag} {mg:Str->Option Value} {base:Heap} {k:Nat} {f:Addr} {name qual:Str} {params:Arguments} {body:List Stmt} {scope:Scope} {dV kV doc pm cdv ct oc:Value} {an od:Option Addr}
  {osl:Array (Option Value)} {N ps:List Str} {sp:Sp} (lk:K.lookup f=some ⟨oc,od, .func (PySem.W.fnOf name qual params body scope dV kV doc pm an cdv ct),osl⟩) (hcd:PySem.W.codeIn K cdv qual=true) (S:FnScope N ps scope)
  (len:∀ vs H Q E,sp vs H Q E->vs.length=ps.length)
  (hbody:∀ (A:Around) (outer:List Env) (s:Shared) (H:Hp) (vs:List V) (Q:VK) (E:XK),Room k (A.deeper (envOfC qual scope s.heap.objs.size f cdv))->sp vs H Q E->
   ∃ t,PSs (cxOf CX P w K mg base N qual scope f cdv A outer s H E) body t/\t { nx:=fun _ H'=>Q .non H',rt:=Q } (start N vs) H) :
  FnOk P w K mg base CX (k+1) f (PySem.W.fnOf name qual params body scope dV kV doc pm an cdv ct) ps sp:=by
 refine⟨len,fun A outer s H args us vs Q E hr e0 hb r hsp=>?_⟩
 have hl:=len _ _ _ _ hsp
 have KX:K.In s.heap:=e0.mod.kin.keeps fun b o e=>(e0.bs b o e).1
 have lim:s.heap.NoLimit:=e0.mod.nolimit.keeps fun b o e=>(e0.bs b o e).1
 have hkind:∀ y∈ps.zip us,scope.names.lookup y.1=some .local\/(scope.names.lookup y.1=some .cell/\((cellsFrom (s.heap.objs.size+1) scope.names []).lookup y.1).isSome=true):=fun ⟨n,v⟩ hy=>by
  rcases S.par n (List.of_mem_zip hy).1 with q | q
  ·exact .inl q
  ·exact .inr ⟨q,PySem.W.cellsFrom_some _ _ _ (.inl q)⟩
 refine codeAny_call_function hr.depth (KX _ _ lk) rfl S.co S.gen rfl (PySem.W.codeRec_of KX hcd) (hb _ _ _ _ ?_)
 refine wpAny_newFunctionEnv_cells S.kind hkind fun env he s1 x=>?_
 subst he
 refine⟨lim.keeps x.toInCall.keep,codeAny_func ?_⟩
 obtain⟨t,ht,hq⟩:=hbody A outer s H vs Q E (hr.deeper _) hsp
 have I:Inv (cxOf CX P w K mg base N qual scope f cdv A outer s H E) [] (start N vs) H s1:=inv_start S hr.hd e0 hl r x
 refine wpAny_mono (ht [] s1 (start N vs) H _ I hq) (fun fl s' hs=>?_) fun e s' hs=>hs
 have fin:∀ {σ':St} {H':Hp} {v:V} {u:Value},Inv (cxOf CX P w K mg base N qual scope f cdv A outer s H E) [] σ' H' s'->RelV v u->Q v H'->CE outer P w H s Q u s':=
  fun {σ' H' v u} J rv q=>⟨v,H',J.os,J.bare,J.base,J.hok,rv,q⟩
 cases fl with
 | ret u=>
  obtain⟨v,σ',H',J,rv,q⟩:=hs
  exact fin J rv q
 | next=>
  obtain⟨σ',H',J,q⟩:=hs
  exact fin (v:=V.non) (u:=Value.none) J rfl q
 | brk=>
  obtain⟨_,_,_,q⟩:=hs
  exact False.elim q
 | cont=>
  obtain⟨_,_,_,q⟩:=hs
  exact False.elim q
end L2
namespace L2
open PySem PySem.Spec PyProof.Rows
section
variable {X:Cx} {x:Str} {p pos:Pos} {e:Expr} {es:List Expr} {t:TA} {id T:String} {r:List V->Hp->VK->Prop}
def tCB (r:List V->Hp->VK->Prop) (t:TA):TE:=fun σ H Q=>t σ H fun vs H1=>r vs H1 Q
theorem pe_callB (hc:CallR X (.builtin id) r) (hg:Gl X x) (hm:X.mg x=none) (hv:bootBuiltins x=some (.builtin id)) (ha:PA X (e :: es) t) (hn:x≠ "__name__" := by decide) (hdb:(x == ("__debug__" : Str))=false:=by decide)
  (he:starEach (e :: es) X.env=(false,eval e X.env) :: starEach es X.env:=by rfl) (hpl:(backTo pos (starEach es X.env)).any (·.1)=false:=by rfl):PE X (.Call (.Name x p) (e :: es) [] pos) (tCB r t):=by
 intro pins s σ H Q I h
 refine wpAny_Call_Name_kw (ld_blt I hg hm hv ?_ hn hdb)
 exact PyProof.Rows.callWith_builtin1 (thn (ha pos pins s σ H _ I h) fun us s1 ⟨vs,H1,I1,r1,q1⟩=>hc pins s1 σ H1 vs us Q I1 r1 q1) he hpl
theorem pe_callTy (hc:CallR X (.type T) r) (hg:Gl X x) (hm:X.mg x=none) (hv:bootBuiltins x=some (.type T)) (ha:PA X (e :: es) t) (hn:x≠ "__name__" := by decide) (hdb:(x == ("__debug__" : Str))=false:=by decide)
  (he:starEach (e :: es) X.env=(false,eval e X.env) :: starEach es X.env:=by rfl) (hpl:(backTo pos (starEach es X.env)).any (·.1)=false:=by rfl):PE X (.Call (.Name x p) (e :: es) [] pos) (tCB r t):=by
 intro pins s σ H Q I h
 refine wpAny_Call_Name_kw (ld_blt I hg hm hv ?_ hn hdb)
 exact PyProof.Rows.callWith_type1 (thn (ha pos pins s σ H _ I h) fun us s1 ⟨vs,H1,I1,r1,q1⟩=>hc pins s1 σ H1 vs us Q I1 r1 q1) he hpl
end
end L2
namespace HT
open PySem PyProof.Rows
section
open PySem.SeqAt
open PySem.AutoSeq1 (wpAny_loadPart')
open PySem.MeetsSeq PySem.MeetsSeq2 PySem.MeetsSeq3
end
section
variable {prog:Program} {w:World} {A:Around} {E:Value->Shared->Prop} {s:Shared}
def sIx (n d:Nat):Option Int->Nat
 | none=>d
 | some v=>if v<0 then (v+(n:Int)).toNat else min v.toNat n
theorem sIx_none (n d:Nat):sIx n d none=d:=rfl
theorem sIx_nat (n d k:Nat):sIx n d (some (k:Int))=min k n:=by
 show (if (k:Int)<0 then ((k:Int)+(n:Int)).toNat else min (k:Int).toNat n)=min k n
 rw[if_neg (by (first|lia|omega)),Int.toNat_natCast]
end
end HT
namespace L2
open PySem PySem.Spec PyProof.Rows
abbrev TO:=St->Hp->(Option Int->Hp->Prop)->Prop
def PO (X:Cx) (e:Option Expr) (t:TO):Prop:=
 ∀ (pins:List (Addr × Obj)) (s:Shared) (σ:St) (H:Hp) (Q:Option Int->Hp->Prop),Inv X pins σ H s->t σ H Q->
  wpAny (model X.prog X.w) X.A (evalPart e X.env) (fun u s'=>∃ o H',Inv X pins σ H' s'/\IsPart u o/\Q o H') X.xe s
def tNoPart:TO:=fun _ H Q=>Q none H
def tPart (t:TE):TO:=fun σ H Q=>t σ H fun x H1=>∃ i,x= .int i/\Q (some i) H1
section
variable {X:Cx} {e:Expr} {te:TE} {lo hi:Option Expr} {tl th:TO} {pos p2:Pos}
theorem po_none:PO X none tNoPart:=by
 intro pins s σ H Q I h
 rw[evalPart_none]
 exact wpAny_pure ⟨none,H,I, .none,h⟩
theorem po_some (h:PE X e te):PO X (some e) (tPart te):=by
 intro pins s σ H Q I hw
 rw[evalPart_some]
 refine thn (h pins s σ H _ I hw) fun u s1 ⟨x,H1,I1,r1,q1⟩=>?_
 obtain⟨i,rfl,q⟩:=q1
 obtain⟨t,rfl⟩:=r1
 exact⟨some i,H1,I1, .int i t,q⟩
def SlR (X:Cx) (r:V->Option Int->Option Int->Hp->VK->Prop):Prop:=
 ∀ (pins:List (Addr × Obj)) (s:Shared) (σ:St) (H:Hp) (x:V) (v vl vu:Value) (lo hi:Option Int) (sl:Addr) (Q:VK),Inv X pins σ H s->RelV x v->s.heap.IsSliceOf sl vl vu .none->IsPart vl lo->IsPart vu hi->r x lo hi H Q->
  ∃ T id,typeLookup (.type T) "__getitem__" = pure (some (.builtin id))/\s.TypeIs v T/\wpAny (model X.prog X.w) X.A (getItem v (.ref sl)) (EP X pins σ Q) X.xe s
def tSl (r:V->Option Int->Option Int->Hp->VK->Prop) (te:TE) (tl th:TO):TE:=fun σ H Q=>te σ H fun x H1=>tl σ H1 fun l H2=>th σ H2 fun u H3=>r x l u H3 Q
theorem pe_slice {r:V->Option Int->Option Int->Hp->VK->Prop} (hr:SlR X r) (he:PE X e te) (hl:PO X lo tl) (hu:PO X hi th):PE X (.Subscript e (.Slice lo hi none p2) pos) (tSl r te tl th):=by
 intro pins s σ H Q I h
 refine Subscript_ (thn (he pins s σ H _ I h) fun v s1 ⟨x,H1,I1,r1,q1⟩=>?_)
 refine wpAny_Slice (thn (hl pins s1 σ H1 _ I1 q1) fun vl s2 ⟨l,H2,I2,pl,q2⟩=>thn (hu pins s2 σ H2 _ I2 q2) fun vu s3 ⟨u,H3,I3,pu,q3⟩=>?_)
 rw[evalPart_none]
 refine wpAny_pure ?_
 have I4:Inv X pins σ H3 { s3 with heap:=s3.heap.push { cls:= .type "slice", data:= .fields #[vl,vu, .none] } }:=I3.kept (t':=s3.toks) fun b ob q=>Heap.get?_push_of_some _ q
 obtain⟨T,id,hT,ht,hg⟩:=hr pins { s3 with heap:=s3.heap.push { cls:= .type "slice", data:= .fields #[vl,vu, .none] } } σ H3 x v vl vu l u s3.heap.objs.size Q I4 r1 (Heap.IsSliceOf.new ..) pl pu q3
 show wpAny (model X.prog X.w) X.A (subscriptTail e (.Slice lo hi none p2) v (.ref s3.heap.objs.size)) (EP X pins σ Q) X.xe { s3 with heap:=s3.heap.push { cls:= .type "slice", data:= .fields #[vl,vu, .none] } }
 exact tail_any (ops:=[.ref s3.heap.objs.size,v]) ht hT hg (by with_unfolding_all rfl)
def cutV (xs:List V) (lo hi:Option Int):List V:=(xs.drop (HT.sIx xs.length 0 lo)).take (HT.sIx xs.length xs.length hi - HT.sIx xs.length 0 lo)
theorem cutV_length (xs:List V) (lo hi:Option Int):(cutV xs lo hi).length≤xs.length:=by
 unfold cutV
 rw[List.length_take,List.length_drop]
 (first|lia|omega)
end
end L2
namespace L2
open PySem PySem.Spec PyProof.Rows
def ixN (n:Nat) (i:Int):Option Nat:=if 0≤i then (if i<n then some i.toNat else none) else if -(n:Int)≤i then some (i+n).toNat else none
def atI {α:Type} (xs:List α) (i:Int):Option α:=(ixN xs.length i).bind fun j=>xs[j]?
theorem ixN_seq {n:Nat} {i:Int} {j:Nat} (h:ixN n i=some j):seqIndex? i n=some j/\j<n/\ -(n:Int)≤i/\i<n:=by
 unfold ixN at h
 by_cases h0:0≤i
 ·rw[if_pos h0] at h
  by_cases h1:i<n
  ·rw[if_pos h1] at h
   have e:i.toNat=j:=Option.some.inj h
   exact⟨by rw[seqIndex_of h0 h1,e],by (first|lia|omega),by (first|lia|omega),h1⟩
  ·rw[if_neg h1] at h;cases h
 ·rw[if_neg h0] at h
  by_cases h1: -(n:Int)≤i
  ·rw[if_pos h1] at h
   have e:(i+n).toNat=j:=Option.some.inj h
   exact⟨by rw[seqIndex_neg (by (first|lia|omega)) h1,e],by (first|lia|omega),h1,by (first|lia|omega)⟩
  ·rw[if_neg h1] at h;cases h
theorem atI_get {α:Type} {xs:List α} {i:Int} {v:α} (h:atI xs i=some v):∃ j,seqIndex? i xs.length=some j/\xs[j]?=some v/\j<xs.length/\ -(xs.length:Int)≤i/\i<xs.length:=by
 unfold atI at h
 cases e:ixN xs.length i with
 | none=>rw[e] at h;cases h
 | some j=>
  rw[e] at h
  obtain⟨h1,h2,h3,h4⟩:=ixN_seq e
  exact⟨j,h1,h,h2,h3,h4⟩
theorem atI_nat {α:Type} {xs:List α} {j:Nat} {v:α} (h:xs[j]?=some v):atI xs (j:Int)=some v:=by
 have hj:j<xs.length:=(List.getElem?_eq_some_iff.mp h).1
 have e:ixN xs.length (j:Int)=some j:=by
  unfold ixN
  rw[if_pos (by (first|lia|omega)),if_pos (by (first|lia|omega))];simp
 unfold atI;rw[e];exact h
def PlainIx (b:Expr):Prop:=∀ o i,subscripted b false o i=operate [o,i] (getItem o i)
def IxR (X:Cx) (r:R2):Prop:=
 ∀ (value slice:Expr) (pins:List (Addr × Obj)) (s:Shared) (σ:St) (H:Hp) (x y:V) (v u:Value) (Q:VK),Inv X pins σ H s->RelV x v->RelV y u->r x y H Q->
  subscripted slice false v u=operate [v,u] (getItem v u)->wpAny (model X.prog X.w) X.A (subscriptTail value slice v u) (EP X pins σ Q) X.xe s
def MtR (X:Cx) (id:String) (r:V->List V->Hp->VK->Prop):Prop:=
 ∀ (pins:List (Addr × Obj)) (s:Shared) (σ:St) (H:Hp) (x:V) (xs:List V) (v:Value) (us:List Value) (Q:VK),Inv X pins σ H s->RelV x v->Vals xs us->r x xs H Q->
  wpAny (model X.prog X.w) X.A (call (.builtin id) (v :: us)) (EP X pins σ Q) X.xe s
section
variable {X:Cx} {a b:Expr} {ta tb:TE} {pos:Pos}
theorem pe_ix {r:R2} (hr:IxR X r) (ha:PE X a ta) (hb:PE X b tb) (hs:PlainIx b):PE X (.Subscript a b pos) (tOp r ta tb):=by
 intro pins s σ H Q I h
 exact Subscript_ (binT ha hb I h fun v u s2 x y H2 I2 rx ry q=>hr a b pins s2 σ H2 x y v u Q I2 rx ry q (hs _ _))
def rIxL (K:PySem.W.Frag):R2:=fun x y H Q=>∃ p xs i v,x= .ref p/\y= .int i/\SqL K H p xs/\atI xs i=some v/\Q v H
def rIxT (K:PySem.W.Frag):R2:=fun x y H Q=>∃ p xs i v,x= .ref p/\y= .int i/\SqT K H p xs/\atI xs i=some v/\Q v H
def rIxS:R2:=fun x y H Q=>∃ z i c,x= .str z/\y= .int i/\z.length≤sizeLine/\atI z.cps.toList i=some c/\Q (.str ⟨#[c]⟩) H
theorem ix_list:IxR X (rIxL X.K):=by
 intro value slice pins s σ H x y v u Q I rx ry h hs
 obtain⟨p,xs,i,z,rfl,rfl,hq,he,q⟩:=h
 cases rx
 obtain⟨t,rfl⟩:=ry
 obtain⟨its,r,pl,hz⟩:=I.list hq
 obtain⟨j,h1,h2,h3,h4,h5⟩:=atI_get he
 obtain⟨w,ew,rw'⟩:=r.get h2
 have hl:=r.length
 have hn:=line63
 have fin:EP X pins σ Q w s:=⟨z,H,I,rw',q⟩
 by_cases h0:0≤i
 ·have hj:i.toNat=j:=by
   rw[seqIndex_of h0 h5] at h1
   exact Option.some.inj h1
  exact item_listR pl.isList h0 (by (first|lia|omega)) (by rw[hj];simpa using ew) fin hs
 ·have hj:(i+(its.toArray.size:Int)).toNat=j:=by
   rw[seqIndex_neg (by (first|lia|omega)) h4] at h1
   rw[List.size_toArray, <- hl]
   exact Option.some.inj h1
  exact subscriptTail_builtinR (x:=w) pl.isList.typeIs slot_list_getitem.lookup
   (wpAny_getItem_list_neg (Q:=fun r s'=>r=w/\EP X pins σ Q r s') pl.isList (by (first|lia|omega)) (by rw[List.size_toArray] <;> (first|lia|omega)) (by (first|lia|omega)) (by rw[hj];simpa using ew) ⟨rfl,fin⟩) hs
theorem ix_tup:IxR X (rIxT X.K):=by
 intro value slice pins s σ H x y v u Q I rx ry h hs
 obtain⟨p,xs,i,z,rfl,rfl,hq,he,q⟩:=h
 cases rx
 obtain⟨t,rfl⟩:=ry
 obtain⟨its,r,pl,hz⟩:=I.tuple hq
 obtain⟨j,h1,h2,h3,h4,h5⟩:=atI_get he
 obtain⟨w,ew,rw'⟩:=r.get h2
 have hl:=r.length
 have hn:=line63
 have fin:EP X pins σ Q w s:=⟨z,H,I,rw',q⟩
 exact subscriptTail_builtinR (x:=w) pl.typeIs slot_tuple_getitem.lookup
  (getItem_tuple (j:=j) (Q:=fun r s'=>r=w/\EP X pins σ Q r s') pl (by (first|lia|omega)) (by (first|lia|omega)) (by rw[List.size_toArray, <- hl];exact h1) (by simpa using ew) ⟨rfl,fin⟩) hs
theorem ix_str:IxR X rIxS:=by
 intro value slice pins s σ H x y v u Q I rx ry h hs
 obtain⟨z,i,c,rfl,rfl,hz,he,q⟩:=h
 obtain⟨t,rfl⟩:=rx
 obtain⟨t',rfl⟩:=ry
 obtain⟨j,h1,h2,h3,h4,h5⟩:=atI_get he
 have hl:z.cps.toList.length=z.length:=by simp[Str.length]
 rw[hl] at h1 h4 h5
 have hn:=line63
 exact tail_any (typeIs_str s z t) slot_str_getitem.lookup (getItem_str (c:=c) (by
  have e1:decide (i < -(2 ^ 63:Int))=false:=decide_eq_false (by (first|lia|omega))
  have e2:decide (i ≥ 2 ^ 63)=false:=decide_eq_false (by (first|lia|omega))
  rw[e1,e2,Bool.or_false]) (by rw[h1];simpa using h2) ⟨.str ⟨#[c]⟩,H,I.tok _,⟨_,rfl⟩,q⟩) hs
theorem Inv.lst {pins:List (Addr × Obj)} {σ:St} {H:Hp} {s:Shared} {p:Addr} {xs:List V} (I:Inv X pins σ H s) (h:H p=some (.lst xs)) :
  ∃ (its:List Value) (n:Nat),Vals xs its/\s.heap.get? p=some { cls:= .type "list", data:= .seq its.toArray n }/\xs.length≤sizeLine:=by
 obtain⟨z,its,n,r,e⟩:=I.hok p _ h
 exact⟨its,n,r,e,z⟩
theorem slice_bounds (lo hi:Option Int) (n:Nat):(sliceBounds lo hi none n).1=((HT.sIx n 0 lo:Nat):Int)/\(sliceBounds lo hi none n).2.1=((HT.sIx n n hi:Nat):Int)/\(sliceBounds lo hi none n).2.2=1:=by
 refine⟨?_,?_,rfl⟩
 ·cases lo with
  | none=>simp[sliceBounds,HT.sIx]
  | some i=>
   simp only[sliceBounds,HT.sIx,Option.getD_none,show (1:Int)>0 by decide,if_true]
   by_cases h:i<0
   ·simp only[h,if_true] <;> (first|lia|omega)
   ·simp only[h,if_false] <;> (first|lia|omega)
 ·cases hi with
  | none=>simp[sliceBounds,HT.sIx]
  | some i=>
   simp only[sliceBounds,HT.sIx,Option.getD_none,show (1:Int)>0 by decide,if_true]
   by_cases h:i<0
   ·simp only[h,if_true] <;> (first|lia|omega)
   ·simp only[h,if_false] <;> (first|lia|omega)
theorem slicePick_cut (its:List Value) (lo hi:Option Int):slicePick its.toArray lo hi none=((its.drop (HT.sIx its.length 0 lo)).take (HT.sIx its.length its.length hi - HT.sIx its.length 0 lo)).toArray:=by
 obtain⟨h1,h2,h3⟩:=slice_bounds lo hi its.toArray.size
 unfold slicePick
 rw[h1,h2,h3]
 simp only[sliceRange_one,pick_run,List.size_toArray] <;> rfl
def rSlL (K:PySem.W.Frag):V->Option Int->Option Int->Hp->VK->Prop:=fun x lo hi H Q=>∃ a xs,x= .ref a/\SqL K H a xs/\∀ p,H p=none->Q (.ref p) (upd H p (.lst (cutV xs lo hi)))
theorem sl_list:SlR X (rSlL X.K):=by
 intro pins s σ H x v vl vu lo hi sl Q I rx hs pl pu h
 obtain⟨a,xs,rfl,hx,q⟩:=h
 cases rx
 obtain⟨its,r,ht,hz⟩:=I.list hx
 have hlen:=r.length
 refine⟨"list", _,slot_list_getitem.lookup,ht.isList.typeIs,?_⟩
 refine wpAny_getItem_list_slice ht.isList hs pl pu .none (by simp) ?_ (by rw[List.size_toArray] <;> (first|lia|omega))
 rw[slicePick_cut, <- hlen]
 refine⟨.ref s.heap.objs.size,_,I.laid (t':=s.toks) (o:= .lst (cutV xs lo hi)) (fun b ob q=>Heap.get?_push_of_some _ q) (Nat.le_refl _) ?_,rfl,q _ (I.hok.fresh (Nat.le_refl _))⟩
 exact⟨Nat.le_trans (cutV_length xs lo hi) hz,_,0,(r.drop (HT.sIx xs.length 0 lo)).take (HT.sIx xs.length xs.length hi - HT.sIx xs.length 0 lo),Heap.get?_push_size _ rfl⟩
def flatV:V->Bool
 | .non=>true
 | .bl _=>true
 | .int _=>true
 | .str _=>true
 | _=>false
def eqV:V->V->Bool
 | .non, .non=>true
 | .bl a, .bl b=>a == b
 | .bl a, .int b=>(if a then 1 else 0) == b
 | .int a, .bl b=>a == (if b then 1 else 0)
 | .int a, .int b=>a == b
 | .str a, .str b=>a == b
 | _,_=>false
theorem eqAt_V {A:Around} {s:Shared} {y x:V} {u v:Value} (ry:RelV y u) (rx:RelV x v) (fy:flatV y=true) (fx:flatV x=true):SeqAt.EqAt A s u v (eqV y x):=by
 cases y with
 | non=>
  cases ry
  cases x with
  | non=>cases rx;exact SeqAt.EqAt.same _
  | bl b=>cases rx;exact SeqAt.EqAt.none_bool b
  | int b=>obtain⟨t,rfl⟩:=rx;exact SeqAt.EqAt.none_int b t
  | str b=>obtain⟨t,rfl⟩:=rx;exact SeqAt.EqAt.none_str b t
  | _=>exact absurd (show false=true from fx) Bool.false_ne_true
 | bl a=>
  cases ry
  cases x with
  | non=>cases rx;exact SeqAt.EqAt.bool_none a
  | bl b=>cases rx;exact SeqAt.EqAt.bool_bool a b
  | int b=>obtain⟨t,rfl⟩:=rx;exact SeqAt.EqAt.bool_int a b t
  | str b=>obtain⟨t,rfl⟩:=rx;exact SeqAt.EqAt.bool_str a b t
  | _=>exact absurd (show false=true from fx) Bool.false_ne_true
 | int a=>
  obtain⟨t',rfl⟩:=ry
  cases x with
  | non=>cases rx;exact SeqAt.EqAt.int_none a t'
  | bl b=>cases rx;exact SeqAt.EqAt.int_bool a t' b
  | int b=>obtain⟨t,rfl⟩:=rx;exact SeqAt.EqAt.int_int a t' b t
  | str b=>obtain⟨t,rfl⟩:=rx;exact SeqAt.EqAt.int_str a t' b t
  | _=>exact absurd (show false=true from fx) Bool.false_ne_true
 | str a=>
  obtain⟨t',rfl⟩:=ry
  cases x with
  | non=>cases rx;exact SeqAt.EqAt.str_none a t'
  | bl b=>cases rx;exact SeqAt.EqAt.str_bool a t' b
  | int b=>obtain⟨t,rfl⟩:=rx;exact SeqAt.EqAt.str_int a t' b t
  | str b=>obtain⟨t,rfl⟩:=rx;exact SeqAt.EqAt.str_str a t' b t
  | _=>exact absurd (show false=true from fx) Bool.false_ne_true
 | _=>exact absurd (show false=true from fy) Bool.false_ne_true
def eqU (x:V) (u:Value):Bool:=match u with
 | .none=>eqV .non x
 | .bool b=>eqV (.bl b) x
 | .int i _=>eqV (.int i) x
 | .str z _=>eqV (.str z) x
 | _=>false
theorem eqU_of {x y:V} {u:Value} (r:RelV y u) (f:flatV y=true):eqU x u=eqV y x:=by
 cases y with
 | non=>cases r;rfl
 | bl b=>cases r;rfl
 | int i=>obtain⟨t,rfl⟩:=r;rfl
 | str z=>obtain⟨t,rfl⟩:=r;rfl
 | _=>exact absurd (show false=true from f) Bool.false_ne_true
theorem any_eqU {x:V}:∀ {xs:List V} {us:List Value},Vals xs us->xs.all flatV=true->us.any (eqU x)=xs.any fun y=>eqV y x
 | _,_, .nil,_=>rfl
 | y :: xs,u :: us, .cons r t,f=>by
  rw[List.all_cons,Bool.and_eq_true] at f
  rw[List.any_cons,List.any_cons,eqU_of r f.1,any_eqU t f.2]
theorem mem_eqAt {A:Around} {s:Shared} {x:V} {v:Value} (rx:RelV x v) (fx:flatV x=true):∀ {xs:List V} {us:List Value},Vals xs us->xs.all flatV=true->∀ u∈us,SeqAt.EqAt A s u v (eqU x u)
 | _,_, .nil,_=>fun u hu=>by cases hu
 | y :: xs,u :: us, .cons r t,f=>fun u' hu=>by
  rw[List.all_cons,Bool.and_eq_true] at f
  rcases List.mem_cons.mp hu with rfl | hu
  ·rw[eqU_of r f.1];exact eqAt_V r rx f.1 fx
  ·exact mem_eqAt rx fx t f.2 u' hu
def inV (x:V) (xs:List V):Bool:=xs.any fun y=>eqV y x
def rIn (K:PySem.W.Frag) (neg:Bool):R2:=fun x y H Q=>∃ p xs,y= .ref p/\(SqL K H p xs\/SqT K H p xs)/\flatV x=true/\xs.all flatV=true/\Q (.bl (if neg then !inV x xs else inV x xs)) H
theorem op_notIn_seq:OpR X (compareOp .NotIn) (rIn X.K true):=by
 intro pins s σ H x y v u Q I rx ry h
 obtain⟨p,xs,rfl,hq,fx,fs,q⟩:=h
 cases ry
 rcases hq with hq | hq
 ·obtain⟨its,r,pl,hz⟩:=I.list hq
  refine SeqAt.notIn_listAt (eqU x) pl.isList (fun w hw=>mem_eqAt rx fx r fs w (by simpa using hw)) ⟨.bl _,H,I,rfl,?_⟩
  rw[show its.toArray.any (eqU x)=its.any (eqU x) by simp,any_eqU r fs]
  exact q
 ·obtain⟨its,r,pl,hz⟩:=I.tuple hq
  refine SeqAt.notIn_tupleAt (eqU x) pl (fun w hw=>mem_eqAt rx fx r fs w (by simpa using hw)) ⟨.bl _,H,I,rfl,?_⟩
  rw[show its.toArray.any (eqU x)=its.any (eqU x) by simp,any_eqU r fs]
  exact q
theorem call_len_seq:CallR X (.builtin "len") (fun xs H Q=>∃ p ys,xs=[.ref p]/\(SqL X.K H p ys\/SqT X.K H p ys)/\Q (.int ys.length) H):=by
 intro pins s σ H xs us Q I r h
 obtain⟨p,ys,rfl,hq,q⟩:=h
 obtain⟨u,rfl,rx⟩:=vals1 r
 cases rx
 have hn:=line63
 rcases hq with hq | hq
 ·obtain⟨its,r',pl,hz⟩:=I.list hq
  have hlen:=r'.length
  exact Calls.call_len_list pl.isList (by simp only[List.size_toArray] <;> (first|lia|omega)) ⟨.int ys.length,H,I.tok _,⟨s.toks+1,by rw[List.size_toArray,hlen]⟩,q⟩
 ·obtain⟨its,r',pl,hz⟩:=I.tuple hq
  have hlen:=r'.length
  exact len_tuple pl (by simp only[List.size_toArray] <;> (first|lia|omega)) ⟨.int ys.length,H,I.tok _,⟨s.toks+1,by rw[List.size_toArray,hlen]⟩,q⟩
theorem call_tuple_of:CallR X (.type "tuple") (fun xs H Q=>∃ p ys,xs=[.ref p]/\((SqL X.K H p ys/\∀ l,H l=none->Q (.ref l) (upd H l (.tup ys)))\/(SqT X.K H p ys/\Q (.ref p) H))):=by
 intro pins s σ H xs us Q I r h
 obtain⟨p,ys,rfl,h⟩:=h
 obtain⟨u,rfl,rx⟩:=vals1 r
 cases rx
 rcases h with ⟨hq,q⟩ | ⟨hq,q⟩
 ·obtain⟨its,r',pl,hz⟩:=I.list hq
  have hlen:=r'.length
  refine call_tuple_list pl.isList (fun h' kp=>?_) (by simp only[List.size_toArray] <;> (first|lia|omega))
  have I1:Inv X pins σ H { s with heap:=h' }:=I.kept (t':=s.toks) kp
  have I2:Inv X pins σ (upd H h'.objs.size (.tup ys)) { s with heap:=h'.push { cls:= .type "tuple", data:= .seq its.toArray } }:=
   I1.laid (t':=s.toks) (fun b o e=>Heap.get?_push_of_some _ e) (Nat.le_refl _) (show ObjOk X.prog X.w _ _ _ (.tup ys) from⟨hz,its,r',IsTup.new _ _⟩)
  exact⟨.ref h'.objs.size,_,I2,rfl,q _ (I1.hok.fresh (Nat.le_refl _))⟩
 ·obtain⟨its,r',pl,hz⟩:=I.tuple hq
  exact call_tuple_same pl ⟨.ref p,H,I,rfl,q⟩
def tyV (K:PySem.W.Frag) (T:String) (x:V) (H:Hp):Prop:=match x with
 | .str _=>T= "str"
 | .int _=>T= "int"
 | .ref p=>(T= "list" /\ ∃ xs,SqL K H p xs)\/(T= "tuple" /\ ∃ o,K.lookup p=some o/\o.cls= .type "tuple" /\ o.dict=none)\/
   (T= "dict" /\ ((∃ kvs,H p=some (.dK kvs))\/∃ kvs,H p=some (.dT kvs)))\/(T= "set" /\ ∃ S n,H p=some (.set S n))
 | _=>False
theorem tyV_is {pins:List (Addr × Obj)} {σ:St} {H:Hp} {s:Shared} {T:String} {x:V} {v:Value} (I:Inv X pins σ H s) (r:RelV x v) (ty:tyV X.K T x H) :
  s.TypeIs v T/\∀ a,v= .ref a->∃ ob,s.heap.get? a=some ob/\ob.dict=none:=by
 cases x with
 | str z=>
  obtain⟨t,rfl⟩:=r
  cases (show T= "str" from ty)
  exact⟨typeIs_str s z t,fun _ e=>nomatch e⟩
 | int i=>
  obtain⟨t,rfl⟩:=r
  cases (show T= "int" from ty)
  exact⟨typeIs_int s i t,fun _ e=>nomatch e⟩
 | ref p=>
  cases r
  rcases ty with ⟨rfl,xs,hq⟩ | ⟨rfl,o,hk,hc,hd⟩ | ⟨rfl,hk⟩ | ⟨rfl,S,n,hk⟩
  ·obtain⟨its,_,pl,_⟩:=I.list hq
   refine⟨pl.isList.typeIs,fun a e=>?_⟩
   cases e
   obtain⟨o,n,e,c,hd,_⟩:=pl
   exact⟨o,e,hd⟩
  ·refine⟨⟨o,I.kIn p o hk,hc⟩,fun a e=>?_⟩
   cases e
   exact⟨o,I.kIn _ o hk,hd⟩
  ·have z:∃ o,s.heap.get? p=some o/\o.ExactDict:=by
    rcases hk with ⟨kvs,hk⟩ | ⟨kvs,hk⟩
    ·obtain⟨_,_,_,_,o,_,_,e,ex,_⟩:=I.hok p _ hk
     exact⟨o,e,ex⟩
    ·obtain⟨_,_,_,_,o,_,_,e,ex,_⟩:=I.hok p _ hk
     exact⟨o,e,ex⟩
   obtain⟨o,e,ex⟩:=z
   refine⟨⟨o,e,ex.1⟩,fun a e2=>?_⟩
   cases e2
   exact⟨o,e,ex.2.1⟩
  ·obtain⟨o,_,_,_,e,ex,_⟩:=I.hok p _ hk
   refine⟨⟨o,e,ex.1⟩,fun a e2=>?_⟩
   cases e2
   exact⟨o,e,ex.2.1⟩
 | _=>exact False.elim ty
def tBM (K:PySem.W.Frag) (T:String) (r:V->List V->Hp->VK->Prop) (to:TE) (t:TA):TE:=fun σ H Q=>to σ H fun x H1=>tyV K T x H1/\t σ H1 fun xs H2=>r x xs H2 Q
variable {o e:Expr} {es:List Expr} {to:TE} {t:TA} {name:Str} {apos cpos:Pos} {T id:String} {r:V->List V->Hp->VK->Prop}
theorem pe_bm (pa:PlainAttrs T) (slot:Slot T name id) (hty:typeOf (.builtin id)=pure (.type "method_descriptor")) (hm:MtR X id r) (ho:PE X o to) (ha:PA X (e :: es) t)
  (hbase:attributeBase o name X.env (eval o X.env)=eval o X.env:=by rfl)
  (hfew:((backTo cpos (starEach (e :: es) X.env)).all (fun x=> !x.1) && (backToKw cpos (keywordEach [] X.env)).all (fun x=>x.1.isSome)
   && decide ((e :: es).length+([]:List Keyword).length+(if ([]:List Keyword).isEmpty then 0 else 1)<30))=true:=by rfl)
  (hline:(apos.endLine == cpos.line)=true:=by rfl) (hs:starEach (e :: es) X.env=(false,eval e X.env) :: starEach es X.env:=by rfl) (hplain:(backTo cpos (starEach es X.env)).any (·.1)=false:=by rfl) :
  PE X (.Call (.Attribute o name apos) (e :: es) [] cpos) (tBM X.K T r to t):=by
 intro pins s σ H Q I h
 refine wpAny_Call_method_late hbase hfew hline rfl (thn (ho pins s σ H _ I h) fun v s1 ⟨x,H1,I1,r1,ty,q1⟩=>?_)
 obtain⟨h1,h2⟩:=tyV_is I1 r1 ty
 refine⟨T,id,pa,slot,hty,h1,h2,?_⟩
 have hA:=ha cpos pins s1 σ H1 _ I1 q1
 rw[hs] at hA ⊢
 refine Calls.callWith_builtin (by show (false || (backTo cpos (starEach es X.env)).any (·.1))=false;rw[hplain] <;> rfl) (Calls.evalArgs_plain ?_)
 exact thn hA fun us s2 ⟨vs,H2,I2,r2,q2⟩=>hm pins s2 σ H2 x vs v us Q I2 r1 r2 q2
end
end L2
namespace L2
open PySem PySem.Spec PyProof.Rows
def MtM (X:Cx) (id:String) (r:V->List V->Hp->VK->Prop):Prop:=
 ∀ (pins:List (Addr × Obj)) (s:Shared) (σ:St) (H:Hp) (x:V) (xs:List V) (v:Value) (us:List Value) (Q:VK),Inv X pins σ H s->RelV x v->Vals xs us->r x xs H Q->
  wpAny (model X.prog X.w) X.A (call (.builtin id) (v :: us)) (EP X pins σ Q) X.xe s
theorem Vals.one:∀ {x:V} {us:List Value},Vals [x] us->∃ u,us=[u]/\RelV x u
 | _,_, .cons r .nil=>⟨_,rfl,r⟩
theorem Vals.two:∀ {x y:V} {us:List Value},Vals [x,y] us->∃ u v,us=[u,v]/\RelV x u/\RelV y v
 | _,_,_, .cons r (.cons q .nil)=>⟨_,_,rfl,r,q⟩
section
variable {X:Cx} {pins:List (Addr × Obj)} {σ:St} {H:Hp} {s:Shared} {l b:Addr} {xs ys zs:List V}
theorem Inv.lset {its its':List Value} {n:Nat} {f:Array Value->Array Value} {t':Nat} (I:Inv X pins σ H s) (hH:H l=some (.lst xs))
  (e:s.heap.get? l=some { cls:= .type "list", data:= .seq its.toArray n }) (hf:f its.toArray=its'.toArray) (hv:Vals ys its') (hz:ys.length≤sizeLine) :
  Inv X pins σ (upd H l (.lst ys)) { s with heap:=s.heap.update l (Obj.mapSeq f),toks:=t' }:=by
 have q:=PySem.IsL.update e f
 rw[hf] at q
 refine I.write (x:=l) (e:=l) (by rw[hH];exact trivial) (.inl rfl) (fun b' u hb hu=>(Heap.get?_update_other s.heap (Obj.mapSeq f) (Ne.symm hb)).trans hu) ⟨_,q⟩ ?_
 exact⟨hz,its',_,hv,q⟩
theorem Inv.lstM (I:Inv X pins σ H s) (hH:H l=some (.lst xs)):xs.length≤sizeLine/\∃ (its:List Value) (n:Nat),Vals xs its/\xs.length=its.length/\s.heap.get? l=some { cls:= .type "list", data:= .seq its.toArray n }:=by
 obtain⟨z,its,n,r,e⟩:=I.hok l _ hH
 exact⟨z,its,n,r,r.length,e⟩
theorem notLongL {n:Nat} (h:n≤sizeLine):Builtin.List.listTooLong n=false:=by
 unfold Builtin.List.listTooLong
 exact decide_eq_false (by (first|lia|omega))
end
section
variable {X:Cx}
def rAppend:V->List V->Hp->VK->Prop:=fun x vs H Q=>∃ l xs y,x= .ref l/\vs=[y]/\H l=some (.lst xs)/\xs.length<sizeLine/\Q .non (upd H l (.lst (xs ++ [y])))
theorem mt_append:MtM X "list.append" rAppend:=by
 intro pins s σ H x vs v us Q I rx rv h
 obtain⟨l,xs,y,rfl,rfl,hH,hz,q⟩:=h
 cases rx
 obtain⟨u,rfl,ru⟩:=rv.one
 obtain⟨z,its,n,r,hl,e⟩:=I.lstM hH
 refine call_meets F.slot_list_append ⟨_,e,rfl⟩ F.entry_list_append (F.args_list_append_2 _ _) (PySem.list_append l its.toArray n u (by rw[List.size_toArray];(first|lia|omega))) ⟨e,?_⟩
 refine⟨.non,_,I.lset (its':=its ++ [u]) hH e (by simp) (r.append (.cons ru .nil)) ?_,rfl,q⟩
 rw[List.length_append,List.length_singleton]
 (first|lia|omega)
def rExtend:V->List V->Hp->VK->Prop:=fun x vs H Q=>∃ l b xs zs,x= .ref l/\vs=[.ref b]/\H l=some (.lst xs)/\H b=some (.lst zs)/\xs.length+zs.length≤sizeLine/\Q .non (upd H l (.lst (xs ++ zs)))
theorem mt_extend:MtM X "list.extend" rExtend:=by
 intro pins s σ H x vs v us Q I rx rv h
 obtain⟨l,b,xs,zs,rfl,rfl,hH,hB,hz,q⟩:=h
 cases rx
 obtain⟨u,rfl,ru⟩:=rv.one
 cases ru
 obtain⟨z,its,n,r,hl,e⟩:=I.lstM hH
 obtain⟨z2,its2,n2,r2,hl2,e2⟩:=I.lstM hB
 have hsz:its.toArray.size+its2.toArray.size≤sizeLine:=by rw[List.size_toArray,List.size_toArray];(first|lia|omega)
 have hlong:¬ (!its.toArray.isEmpty && Builtin.List.listTooLong (its.toArray.size+its2.toArray.size))=true:=by
  rw[notLongL hsz,Bool.and_false]
  exact Bool.false_ne_true
 refine call_meets F.slot_list_extend ⟨_,e,rfl⟩ F.entry_list_extend (F.args_list_extend_2 _ _)
  (AutoSeq1.list_extend_list_list_0 l its.toArray n b its2.toArray n2 hlong (by rw[List.size_toArray];(first|lia|omega)) (by (first|lia|omega))) ⟨e,e2,?_⟩
 refine⟨.non,_,I.lset (its':=its ++ its2) hH e (by simp) (r.append r2) ?_,rfl,q⟩
 rw[List.length_append]
 (first|lia|omega)
end
section
variable {prog:Program} {w:World} {A:Around} {E:Value->Shared->Prop} {s:Shared}
set_option maxRecDepth 100000 in
end
section
variable {X:Cx}
end
end L2
namespace Att
open PySem PySem.W PySem.Calls PyProof.Rows
theorem ints_of_wellAll {P:Params} {h:Heap}:∀ (ns:List Int) (vs:List Value),WellAll P h vs (ns.map WData.int)->IntsAre vs ns:=by
 intro ns
 induction ns with
 | nil=>
  intro vs w
  rw[List.map_nil] at w
  cases w
  exact .nil
 | cons n ns ih=>
  intro vs w
  rw[List.map_cons] at w
  cases w with
  | cons a b=>
   cases a
   exact .cons _ _ (ih _ b)
theorem script_of {l:OpenLaw} {n:Nat} (hn:l.most=some n) {P:Params} {h:Heap} {args:List WData} {vals:List Value}
  (hpre:l.row.toRowW.claim.pre args=true) (hwl:WellAll P h vals args) :
  ∃ a vs ns,vals=[Value.ref a]/\args=[WData.list (ns.map WData.int)]/\h.get? a=some { cls:= .type "list", data:= .seq vs.toArray }/\IntsAre vs ns/\ns.length≤n:=by
 have hsh:WShape.hasAll [] args [.list .int]=true:=(pre_splitW hpre).1
 have hc:l.pre.holds [] { args:=args }=true:=(pre_splitW hpre).2
 obtain⟨d,r,rfl,h1,h2⟩:=hasAllW_cons hsh
 obtain rfl:=hasAllW_nil h2
 obtain⟨xs,rfl,h3⟩:=hasW_list h1
 obtain⟨ns,rfl⟩:=items_int h3
 have hlen:ns.length≤n:=by
  unfold OpenLaw.pre at hc
  have h4:(WTm.not (.lt (.lit (.int (n:Int))) (.len (.arg 0)))).holds [] { args:=[.list (ns.map .int)] }=true:=by
   have h4:=(holds_andW hc).1
   rw[hn] at h4
   exact h4
  have h5:=condW_of h4 (w_not (w_lt w_lit (w_len_list (w_arg rfl))))
  rw[List.length_map] at h5
  refine Nat.le_of_not_lt fun q=>?_
  have q':(n:Int)<((ns.length:Nat):Int):=by (first|lia|omega)
  first
   | (rw[decide_eq_true q'] at h5;exact absurd h5 (by decide))
   | (simp at h5;(first|lia|omega))
 cases hwl with
 | cons w1 w2=>
  cases w2
  cases w1 with
  | list ho hall=>exact⟨_,_,ns,rfl,rfl,ho,ints_of_wellAll ns _ hall,hlen⟩
theorem post_true (l:OpenLaw) (args:List WData):l.row.toRowW.claim.post args (.bool true) args=true:=
 postW_of (r:=l.row.toRowW) (X:=(true == true))
  (show WShape.has [] (.bool true) .bool=true by first | rfl | decide | simp[WShape.has,WShape.arms,WShape.armsAll])
  (show (WTm.eq .res (.lit (.bool true))).value [] { args:=args,res:=some (.bool true),after:=args }=some (.bool (true == true)) from w_eq_bool (w_res rfl) w_lit) rfl
theorem attach_call {l:OpenLaw} {n:Nat} {q:Program} {loose:List Str} {XP:(Str->Option Value)->Heap->Prop} {YP:World->Heap->Prop} {d:DefRec}
  (hn:l.most=some n) (hdf:d.params.defaults=[])
  (call:∀ (w:World) (s₀ s₁:Shared) (mg mb:Str->Option Value) (fa:Addr) (o:Obj) (pm cd doc:Value) (a:Addr) (vs:List Value) (ns:List Int),
   Ground q loose [] XP w s₀ mg mb s₁.heap->YP w s₁.heap->
   s₁.heap.get? fa=some o->o.data= .func (docDef d.name d.params d.body d.scope pm cd doc)->s₁.heap.CodeRec cd d.name->mg d.name=some (.ref fa)->
   s₁.heap.get? a=some { cls:= .type "list", data:= .seq vs.toArray }->IntsAre vs ns->ns.length≤n->s₁.gens= #[]->
   codeAny (model l.prog w) callerA (.call (.ref fa) ⟨[.ref a],[]⟩) (fun r s'=>r= .ok (.ret (.bool true))/\OldK s₁.heap s'.heap/\s'.os=s₁.os/\AllBare s'.gens) s₁) :
  WalkO q loose XP YP l.row.toRowW d [] (fun f vs=>PySem.call f vs):=by
 intro w s₀ s₁ mg mb G Y fa o pm cd doc dV kV ho hd hcd hD hmg hg args vals as hpre hlay hrd hwl hlo
 obtain rfl:dV= .none:=Dflts.none hD hdf
 obtain rfl:kV= .none:=Dflts.noKw hD
 obtain⟨a,vs,ns,rfl,rfl,hobj,hints,hlen⟩:=script_of hn hpre hwl
 refine enter_call (codeAny_mono (call w s₀ s₁ mg mb fa o pm cd doc a vs ns G Y ho (fd_plain hd) hcd hmg hobj hints hlen hg) fun r s' hq=>?_)
 obtain⟨rfl,h2,h3,h4⟩:=hq
 exact⟨.inl ⟨.bool true, .bool true,[],rfl,fun _=>rfl, .bool true,post_true l _,fun _=>⟨List.Pairwise.nil,fun _ hm=>(nomatch hm)⟩⟩,h2,h3,h4⟩
section
variable {prog:Program} {w:World} {A:Around} {E:Value->Shared->Prop} {s:Shared} {K:Frag}
end
end Att
namespace L2
open PySem PySem.Spec PyProof.Rows
theorem vals_ints:∀ {vs:List Value} {ns:List Int},IntsAre vs ns->Vals (ns.map V.int) vs
 | _,_, .nil=> .nil
 | _,_, .cons n t h=> .cons ⟨t,rfl⟩ (vals_ints h)
def Only (H:Hp):Prop:=∀ b,H b=none\/∃ o xs,H b=some (.frz o (.lst xs))
theorem law_call {P:Program} {w:World} {K:PySem.W.Frag} {mg mb:Str->Option Value} {CX:CXT} {k:Nat} {fa a:Addr} {fd:FuncData} {x:Str} {sp:Sp} {s₁:Shared} {vs:List Value} {ns:List Int}
  (KX:K.In s₁.heap) (hns:s₁.heap.Ns mainGlobals mg) (hb:s₁.heap.Ns builtinsNs mb) (hbb:∀ x:Str,x≠ "__name__" -> mb x=bootBuiltins x) (hlim:s₁.heap.NoLimit) (hg:s₁.gens= #[])
  (ha:s₁.heap.get? a=some { cls:= .type "list", data:= .seq vs.toArray }) (hi:IntsAre vs ns) (hl:ns.length≤sizeLine) (hr:Room k callerA)
  (F:∀ base:Heap,K.In base->base.Ns mainGlobals mg->FnOk P w K mg base CX k fa fd [x] sp) (hbind:∀ (s:Shared) (u:Value),BindsTo s fd ⟨[u],[]⟩ [(x,u)])
  (hsp:∀ H:Hp,Only H->SqL K H a (ns.map V.int)->sp [.ref a] H (fun v _=>v= .bl true) fun _ _ _=>False)
  (hCX:∀ H e s',CX [] H s₁ (fun _ _ _=>False) e s'->False) :
  codeAny (model P w) callerA (.call (.ref fa) ⟨[.ref a],[]⟩) (fun r s'=>r= .ok (.ret (.bool true))/\OldK s₁.heap s'.heap/\s'.os=s₁.os/\AllBare s'.gens) s₁:=by
 have rv:=vals_ints hi
 have lenV:=hi.length
 have core:∀ H:Hp,Only H->SqL K H a (ns.map V.int)->HOk P w H s₁.heap->(∀ b,H b≠none->b=a)->(H a≠none->K.lookup a=none)->
   codeAny (model P w) callerA (.call (.ref fa) ⟨[.ref a],[]⟩) (fun r s'=>r= .ok (.ret (.bool true))/\OldK s₁.heap s'.heap/\s'.os=s₁.os/\AllBare s'.gens) s₁:=by
  intro H hO hS hok hA hK
  have base_of:∀ {b:Addr} {o:Obj},s₁.heap.get? b=some o->H b=none->(hidT s₁.heap H).get? b=some o:=fun e n=>hidT_get e n
  have noA:∀ {b:Addr} {o:Obj} {es:Array DictEntry} {ep:Nat},s₁.heap.get? b=some o->o.data= .dict es ep->H b=none:=fun {b o es ep} e d=>by
   cases q:H b with
   | none=>rfl
   | some u=>
    have e':b=a:=hA b (by rw[q];simp)
    subst e'
    rw[ha] at e;cases e
    have d':Data.seq vs.toArray _=Data.dict es ep:=d
    cases d'
  have nsK:∀ {b:Addr} {m:Str->Option Value},s₁.heap.Ns b m->(hidT s₁.heap H).Ns b m:=fun {b m} ⟨o,es,ep,e,d,r⟩=>⟨o,es,ep,base_of e (noA e d),d,r⟩
  have hKb:K.In (hidT s₁.heap H):=fun b o e=>base_of (KX b o e) (by
   cases q:H b with
   | none=>rfl
   | some u=>
    have e':b=a:=hA b (by rw[q];simp)
    subst e'
    rw[hK (by rw[q];simp)] at e;cases e)
  have hM:Mod K mg (hidT s₁.heap H):=⟨hKb,nsK hns,⟨mb,nsK hb,hbb⟩,let ⟨mc,h1,h2⟩:=hlim;⟨mc,nsK h1,h2⟩⟩
  have e0:Env0 P w K mg (hidT s₁.heap H) callerA [] s₁ H:=⟨rfl,hM,fun b o e=>of_hidT e,Nat.le_of_eq (hidT_size _ _),trivial,fun b hb=>absurd (show b∈([]:List Addr) from hb) (by simp),hok, .of_eq hg⟩
  refine codeAny_mono ((F _ hKb (nsK hns)).run callerA [] s₁ H ⟨[.ref a],[]⟩ [.ref a] [.ref a] _ _ hr e0 (hbind s₁ (.ref a)) (.cons rfl .nil) (hsp H hO hS)) fun r s' h=>?_
  cases r with
  | error e=>exact(hCX H e s' h).elim
  | ok fl=>
   cases fl with
   | next=>exact False.elim h
   | brk=>exact False.elim h
   | cont=>exact False.elim h
   | ret u=>
    obtain⟨v,H',os,bare,un,hok',r',q⟩:=h
    have q':v= .bl true:=q
    subst q'
    obtain rfl:u=Value.bool true:=r'
    refine⟨rfl,OldK.of_keep fun b o e=>?_,os,bare⟩
    cases q:H b with
    | none=>exact un.keep b o e q (by intro z;exact absurd (show b∈([]:List Addr) from z) (by simp)) (by simp)
    | some u=>
     rcases hO b with z | ⟨ob,xs,z⟩
     ·rw[q] at z;cases z
     ·have z2:=un.frzs b ob _ z
      obtain⟨e1,_⟩:=hok b _ z
      obtain⟨e2,_⟩:=hok' b _ z2
      rw[e] at e1;cases e1
      exact e2
 cases hk:K.lookup a with
 | some o=>
  have e:=KX a o hk
  rw[ha] at e
  cases e
  refine core (fun _=>none) (fun _=> .inl rfl) (.inr ⟨_,vs.toArray,_,hk,rfl,rfl,rfl,by rw[List.size_toArray,lenV];exact hl,by simpa using rv⟩) (fun b u z=>by have z':(none:Option HO)=some u:=z;cases z') (fun b z=>absurd rfl z) fun z=>absurd rfl z
 | none=>
  refine core (fun b=>if b=a then some (.frz { cls:= .type "list", data:= .seq vs.toArray } (.lst (ns.map V.int))) else none) (fun b=>?_) (.inl (.inr ⟨{ cls:= .type "list", data:= .seq vs.toArray },if_pos rfl⟩)) (fun b u z=>?_) (fun b z=>?_) fun _=>hk
  ·by_cases hb:b=a
   ·exact .inr ⟨_,_,if_pos hb⟩
   ·exact .inl (if_neg hb)
  ·by_cases hb:b=a
   ·have z':=(if_pos hb).symm.trans z
    cases z'
    subst hb
    exact⟨ha,by rw[List.length_map];exact hl,vs,_,rv,ha⟩
   ·have z':=(if_neg hb).symm.trans z
    cases z'
  ·by_cases hb:b=a
   ·exact hb
   ·exact absurd (if_neg hb) z
end L2
namespace L2
open PySem PySem.Spec PyProof.Rows
theorem walk_of {l:PySem.W.OpenLaw} {n k:Nat} {q:Program} {loose:List Str} {XP:(Str->Option Value)->Heap->Prop} {YP:World->Heap->Prop} {d:DefRec} {K:Params->PySem.W.Frag} {CX:World->CXT} {sp:World->Sp} {x:Str}
  (hn:l.most=some n) (hn2:n≤sizeLine) (hdf:d.params.defaults=[]) (hr:Room k callerA)
  (hY:∀ (w:World) (h:Heap),YP w h->(K w.params).In h)
  (F:∀ (w:World) (mg:Str->Option Value) (fa:Addr) (h:Heap),(K w.params).In h->h.Ns mainGlobals mg->mg d.name=some (.ref fa)->
   ∃ fd:FuncData,(∀ (s:Shared) (u:Value),BindsTo s fd ⟨[u],[]⟩ [(x,u)])/\
    ∀ base:Heap,(K w.params).In base->base.Ns mainGlobals mg->FnOk l.prog w (K w.params) mg base (CX w) k fa fd [x] (sp w))
  (hsp:∀ (w:World) (H:Hp) (a:Addr) (ns:List Int),ns.length≤n->Only H->SqL (K w.params) H a (ns.map V.int)->sp w [.ref a] H (fun v _=>v= .bl true) fun _ _ _=>False)
  (hCX:∀ (w:World) (H:Hp) (s:Shared) (e:Value) (s':Shared),CX w [] H s (fun _ _ _=>False) e s'->False) :
  PySem.W.WalkO q loose XP YP l.row.toRowW d [] (fun f vs=>PySem.call f vs):=by
 refine Att.attach_call hn hdf fun w s₀ s₁ mg mb fa o pm cd doc a vs ns G Y ho hd hcd hmg hobj hints hlen hg=>?_
 have KX:=hY w _ Y
 obtain⟨fd,hb,hF⟩:=F w mg fa _ KX G.T.g hmg
 exact law_call KX G.T.g G.T.b G.T.builtins G.T.nolimit hg hobj hints (Nat.le_trans hlen hn2) hr hF hb (fun H hO hS=>hsp w H a ns hlen hO hS) fun H e s'=>hCX w H s₁ e s'
end L2
namespace L2
open PySem PySem.Spec PyProof.Rows
def defArgs (s:Stmt):Arguments:=match s with
 | .FunctionDef _ a _ _ _ _ _ _ _ _=>a
 | _=>{ posonlyargs:=[],args:=[],vararg:=none,kwonlyargs:=[],kw_defaults:=[],kwarg:=none,defaults:=[] }
def defBody (s:Stmt):List Stmt:=match s with
 | .FunctionDef _ _ b _ _ _ _ _ _ _=>b
 | _=>[]
def defScope (s:Stmt):Scope:=match s with
 | .FunctionDef _ _ _ _ _ _ sc _ _ _=>sc
 | _=>{ kind:= .function,names:=[],isGenerator:=false,isCoroutine:=false }
abbrev CX0:CXT:=fun _ _ _ _ _ _=>False
abbrev E0:XK:=fun _ _ _=>False
theorem pass0 {X:Cx}:Passes CX0 X E0:=fun _ _ _ _ _ _ _ h=>h.elim
structure Fun (K:PySem.W.Frag) (x qual:Str) (st:Stmt) (f:Addr) (fd:FuncData):Prop where
 ex:∃ (oc:Value) (od:Option Addr) (kV doc pm:Value) (an:Option Addr) (cdv ct:Value) (osl:Array (Option Value)),
  fd=PySem.W.fnOf x qual (defArgs st) (defBody st) (defScope st) .none kV doc pm an cdv ct/\K.lookup f=some ⟨oc,od, .func fd,osl⟩/\PySem.W.codeIn K cdv qual=true
 kp:PySem.W.keepIn K (.ref f)=true
section
variable {P:Program} {w:World} {K:PySem.W.Frag} {mg:Str->Option Value} {base:Heap}
theorem Fun.ok {x qual:Str} {st:Stmt} {f:Addr} {fd:FuncData} {N ps:List Str} {k:Nat} {sp:Sp} (F:Fun K x qual st f fd) (S:FnScope N ps (defScope st)) (len:∀ vs H Q E,sp vs H Q E->vs.length=ps.length)
  (hbody:∀ (cdv:Value) (A:Around) (outer:List Env) (s:Shared) (H:Hp) (vs:List V) (Q:VK) (E:XK),Room k (A.deeper (envOfC qual (defScope st) s.heap.objs.size f cdv))->sp vs H Q E->
   ∃ t,PSs (cxOf CX0 P w K mg base N qual (defScope st) f cdv A outer s H E).nox (defBody st) t/\t { nx:=fun _ H'=>Q .non H',rt:=Q } (start N vs) H):FnOk P w K mg base CX0 (k+1) f fd ps sp:=by
 obtain⟨oc,od,kV,doc,pm,an,cdv,ct,osl,rfl,lk,hcd⟩:=F.ex
 refine fn_of lk hcd S len fun A outer s H vs Q E hr hsp=>?_
 obtain⟨t,h,q⟩:=hbody cdv A outer s H vs Q E hr hsp
 exact⟨t,h.nox,q⟩
theorem Fun.binds {x qual:Str} {st:Stmt} {f:Addr} {fd:FuncData} {ps:List Str} (F:Fun K x qual st f fd)
  (h:∀ (kV doc pm:Value) (an:Option Addr) (cdv ct:Value) (us:List Value),us.length=ps.length->bindArgs (PySem.W.fnOf x qual (defArgs st) (defBody st) (defScope st) .none kV doc pm an cdv ct) ⟨us,[]⟩=pure (ps.zip us)):Binds K fd ps []:=by
 obtain⟨oc,od,kV,doc,pm,an,cdv,ct,osl,rfl,lk,hcd⟩:=F.ex
 exact .all (h kV doc pm an cdv ct)
theorem fun_mk {x qual:Str} {st:Stmt} {f:Addr} {oc:Value} {od an:Option Addr} {osl:Array (Option Value)} {kV doc pm cdv ct:Value} (l:K.lookup f=some ⟨oc,od, .func (PySem.W.fnOf x qual (defArgs st) (defBody st) (defScope st) .none kV doc pm an cdv ct),osl⟩)
  (c:PySem.W.codeIn K cdv qual=true) (k:PySem.W.keepIn K (.ref f)=true):Fun K x qual st f (PySem.W.fnOf x qual (defArgs st) (defBody st) (defScope st) .none kV doc pm an cdv ct):=⟨⟨oc,od,kV,doc,pm,an,cdv,ct,osl,rfl,l,c⟩,k⟩
end
theorem hu_of {A:Around} {k:Nat} (hr:Room k A):A.units+1<cLine:=Nat.lt_of_le_of_lt (Nat.add_le_add_left (by decide:1≤64) _) hr.units
section
variable {X:Cx}
theorem pv (i:Nat) {x:Str} {pos:Pos} (hN:X.N[i]?=some x:=by rfl) (hv:Vis X.env.scope x:=by first | exact Or.inl rfl | exact Or.inr (Or.inl rfl) | exact Or.inr (Or.inr rfl)) (hd:(x == ("__debug__" : Str))=false:=by decide)
  (hcd:(x == ("__classdict__" : Str))=false:=by decide):PE X (.Name x pos) (tVar i):=pe_var hN hv hd hcd
end
theorem iteF {A B:Prop} (h:B):if false=true then A else B:=by
 rw[if_neg Bool.false_ne_true]
 exact h
theorem iteT {A B:Prop} (h:A):if true=true then A else B:=by
 rw[if_pos rfl]
 exact h
theorem ite2 {c A B:Prop} [Decidable c] (h1:c->A) (h2:¬ c->B):if c then A else B:=by
 by_cases h:c
 ·rw[if_pos h]
  exact h1 h
 ·rw[if_neg h]
  exact h2 h
theorem iteNS {c A B:Prop} [Decidable c] (hc:c) (h:B):if (!decide c)=true then A else B:=by
 rw[decide_eq_true hc]
 exact iteF h
def Same (H H':Hp):Prop:=∀ b o,H b=some o->H' b=some o
theorem Same.refl (H:Hp):Same H H:=fun _ _ h=>h
theorem Same.trans {H H1 H2:Hp} (a:Same H H1) (b:Same H1 H2):Same H H2:=fun c o h=>b c o (a c o h)
theorem Same.free {H H':Hp} (e:Same H H') {l:Addr} (h:H' l=Option.none):H l=Option.none:=by
 cases q:H l with
 | none=>rfl
 | some o=>
  rw[e l o q] at h
  cases h
theorem Same.seq {K:PySem.W.Frag} {H H':Hp} {a:Addr} {xs:List V} (e:Same H H') (h:SqL K H a xs):SqL K H' a xs:=by
 rcases h with (h | ⟨o,h⟩) | h
 ·exact .inl (.inl (e _ _ h))
 ·exact .inl (.inr ⟨o,e _ _ h⟩)
 ·exact .inr h
end L2
namespace M01
def gz (a b:Int):Int:=(Nat.gcd a.toNat b.toNat:Nat)
theorem gz_step {a b:Int} (ha:0≤a) (hb:0<b):gz b (a % b)=gz a b:=by
 unfold gz
 rw[Int.toNat_emod ha (by (first|lia|omega)),Nat.gcd_comm b.toNat, <- Nat.gcd_rec,Nat.gcd_comm]
theorem gz_end {a:Int} (ha:0≤a):gz a 0=a:=by
 unfold gz
 rw[show (0:Int).toNat=0 from rfl,Nat.gcd_zero_right]
 (first|lia|omega)
def ab (i:Int):Int:=if i<0 then -i else i
theorem ab_nat (i:Int):(ab i).toNat=i.natAbs:=by unfold ab;split <;> (first|lia|omega)
theorem ab_nn (i:Int):0≤ab i:=by unfold ab;split <;> (first|lia|omega)
theorem gz_ab (t b:Int):gz (ab t) (ab b)=(Nat.gcd t.natAbs b.natAbs:Nat):=by unfold gz;rw[ab_nat,ab_nat]
def dv (t b:Int):Int:=if b<0 then -(gz (ab t) (ab b)) else gz (ab t) (ab b)
def ft (t b:Int):Int:=t.fdiv (dv t b)
def fb (t b:Int):Int:=b.fdiv (dv t b)
theorem g_pos {t b:Int} (h:b≠0):0<Nat.gcd t.natAbs b.natAbs:=Nat.gcd_pos_of_pos_right _ (by (first|lia|omega))
theorem dv_abs (t b:Int):(dv t b).natAbs=Nat.gcd t.natAbs b.natAbs:=by
 unfold dv
 rw[gz_ab]
 split
 ·rw[Int.natAbs_neg];rfl
 ·rfl
theorem dv_ne {t b:Int} (h:b≠0):dv t b≠0:=fun z=>by
 have:=dv_abs t b
 have p:=g_pos (t:=t) h
 rw[z] at this
 simp at this
 (first|lia|omega)
theorem dv_t (t b:Int):dv t b ∣ t:=Int.natAbs_dvd_natAbs.mp (by rw[dv_abs];exact Nat.gcd_dvd_left _ _)
theorem dv_b (t b:Int):dv t b ∣ b:=Int.natAbs_dvd_natAbs.mp (by rw[dv_abs];exact Nat.gcd_dvd_right _ _)
theorem ft_mul (t b:Int):ft t b * dv t b=t:=Int.fdiv_mul_cancel (dv_t t b)
theorem fb_mul (t b:Int):fb t b * dv t b=b:=Int.fdiv_mul_cancel (dv_b t b)
theorem cross (t b:Int):ft t b * b=t * fb t b:=by
 have e1:=ft_mul t b
 have e2:=fb_mul t b
 calc ft t b * b=ft t b * (fb t b * dv t b):=by rw[e2]
  _=(ft t b * dv t b) * fb t b:=by rw[Int.mul_comm (fb t b),Int.mul_assoc]
  _=t * fb t b:=by rw[e1]
theorem fb_pos {t b:Int} (h:b≠0):1≤fb t b:=by
 have e:=fb_mul t b
 have p:=g_pos (t:=t) h
 have ga:dv t b=if b<0 then -((Nat.gcd t.natAbs b.natAbs:Nat):Int) else ((Nat.gcd t.natAbs b.natAbs:Nat):Int):=by unfold dv;rw[gz_ab]
 by_cases hb:b<0
 ·rw[if_pos hb] at ga
  have d0:dv t b<0:=by rw[ga];(first|lia|omega)
  by_cases q:1≤fb t b
  ·exact q
  ·exfalso
   have q':fb t b≤0:=by (first|lia|omega)
   have:0≤fb t b * dv t b:=Int.mul_nonneg_of_nonpos_of_nonpos q' (by (first|lia|omega))
   (first|lia|omega)
 ·rw[if_neg hb] at ga
  have d0:0<dv t b:=by rw[ga];(first|lia|omega)
  by_cases q:1≤fb t b
  ·exact q
  ·exfalso
   have q':fb t b≤0:=by (first|lia|omega)
   have:fb t b * dv t b≤0:=Int.mul_nonpos_of_nonpos_of_nonneg q' (by (first|lia|omega))
   (first|lia|omega)
theorem cop {t b:Int} (h:b≠0):gz (ab (ft t b)) (fb t b)=1:=by
 have p:=g_pos (t:=t) h
 have e1:(ft t b).natAbs * Nat.gcd t.natAbs b.natAbs=t.natAbs:=by rw[<- dv_abs, <- Int.natAbs_mul,ft_mul]
 have e2:(fb t b).natAbs * Nat.gcd t.natAbs b.natAbs=b.natAbs:=by rw[<- dv_abs, <- Int.natAbs_mul,fb_mul]
 have a1:(ft t b).natAbs=t.natAbs / Nat.gcd t.natAbs b.natAbs:=(Nat.div_eq_of_eq_mul_left p e1.symm).symm
 have a2:(fb t b).natAbs=b.natAbs / Nat.gcd t.natAbs b.natAbs:=(Nat.div_eq_of_eq_mul_left p e2.symm).symm
 unfold gz
 have q:=fb_pos (t:=t) h
 have e3:(fb t b).toNat=(fb t b).natAbs:=by (first|lia|omega)
 rw[ab_nat,e3,a1,a2]
 have:=Nat.coprime_div_gcd_div_gcd p
 unfold Nat.Coprime at this
 rw[this]
 rfl
def Big (z:Int):Prop:=z.natAbs<2 ^ 4000
set_option exponentiation.threshold 5000 in
theorem Big.of {z:Int} (h1: -(10 ^ 120)<z) (h2:z<10 ^ 120):Big z:=by
 unfold Big
 have h3:z.natAbs<10 ^ 120:=by (first|lia|omega)
 exact Nat.lt_trans h3 (by decide)
theorem Big.le {z y:Int} (h:z.natAbs≤y.natAbs) (b:Big y):Big z:=Nat.lt_of_le_of_lt h b
theorem dv_le {t b:Int} (h:b≠0):(dv t b).natAbs≤b.natAbs:=by rw[dv_abs];exact Nat.gcd_le_right _ (by (first|lia|omega))
theorem ft_le {t b:Int} (h:b≠0):(ft t b).natAbs≤t.natAbs:=by
 have e1:(ft t b).natAbs * Nat.gcd t.natAbs b.natAbs=t.natAbs:=by rw[<- dv_abs, <- Int.natAbs_mul,ft_mul]
 have p:=g_pos (t:=t) h
 calc (ft t b).natAbs=(ft t b).natAbs * 1:=by rw[Nat.mul_one]
  _≤(ft t b).natAbs * Nat.gcd t.natAbs b.natAbs:=Nat.mul_le_mul_left _ p
  _=t.natAbs:=e1
theorem fb_le {t b:Int} (h:b≠0):(fb t b).natAbs≤b.natAbs:=by
 have e1:(fb t b).natAbs * Nat.gcd t.natAbs b.natAbs=b.natAbs:=by rw[<- dv_abs, <- Int.natAbs_mul,fb_mul]
 have p:=g_pos (t:=t) h
 calc (fb t b).natAbs=(fb t b).natAbs * 1:=by rw[Nat.mul_one]
  _≤(fb t b).natAbs * Nat.gcd t.natAbs b.natAbs:=Nat.mul_le_mul_left _ p
  _=b.natAbs:=e1
end M01
set_option maxRecDepth 100000
set_option linter.all false
set_option maxHeartbeats 4000000
set_option Elab.async false
namespace L3
open PySem PySem.Spec PyProof.Rows L2 M01
abbrev St:=L2.St
theorem bits_big {z:Int} (h:Big z):Builtin.Int.intBits z≤4000:=by
 unfold Builtin.Int.intBits
 split
 ·exact Nat.zero_le _
 ·rename_i q
  have n0:z.natAbs≠0:=by
   intro e
   apply q
   rw[Int.natAbs_eq_zero.mp e]
   rfl
  have:=(Nat.log2_lt n0).mpr h
  (first|lia|omega)
theorem mul_ok {a b:Int} (ha:Big a) (hb:Big b):IntMulOk a b:=by
 unfold IntMulOk
 have h1:=bits_big ha
 have h2:=bits_big hb
 have h3:Builtin.Int.intTooBig ((Builtin.Int.intBits a:Int)+(Builtin.Int.intBits b:Int))=false:=by
  unfold Builtin.Int.intTooBig
  refine decide_eq_false ?_
  have e:(bitsLine:Int)=134217728:=by decide +kernel
  rw[e]
  (first|lia|omega)
 intro z
 rw[Bool.and_eq_true] at z
 have z2:=z.2
 first
  | (rw[h3] at z2;cases z2)
  | (simp only[Nat.cast_add] at z2;rw[h3] at z2;cases z2)
theorem div_ok {a b:Int} (hb:Big b):Builtin.divisionGoesByPylong a b=false:=by
 refine PyProof.noPylong_of_log2 ?_
 by_cases h0:b.natAbs=0
 ·rw[h0];decide +kernel
 ·have:=(Nat.log2_lt h0).mpr hb
  (first|lia|omega)
section
variable {X:Cx}
theorem op_mulB:OpR X (binaryOp .Mult) (rI (fun i j=>Big i/\Big j) fun i j=> .int (i * j)):=opI fun _ _ _ _ _ _ _ hc q=>mul_int q (mul_ok hc.1 hc.2)
theorem op_fdivB:OpR X (binaryOp .FloorDiv) (rI (fun i j=>j≠0/\Big j) fun i j=> .int (i.fdiv j)):=opI fun _ _ _ _ _ _ _ hc q=>floordiv_int hc.1 q (.inl (div_ok hc.2))
def Itr3 (lo c:Int) (n:Nat):It:=⟨fun i _=>i<n,fun i H x H'=>H'=H/\x= .int (lo+(i:Nat) * c),fun i _=>n≤i⟩
theorem turn_range3 {P:Program} {w:World} {K:PySem.W.Frag} {tg:Expr} (it:Addr) (lo c:Int) (n:Nat):Turn P w K tg (Itr3 lo c n) [it] it (fun i h=>IsRangeIter h it (lo+(i:Nat) * c) ((n:Int) - (i:Nat)) c) where
 mem:=by simp
 obj:=fun i h st b hb=>by
  have e:b=it:=by simpa using hb
  subst e
  exact⟨_,st,fun v z=>by
   have z':Data.fields _=Data.cell v:=z
   cases z'⟩
 keep:=fun i h h' st k=>k it (by simp) _ st
 item:=by
  intro X hP hw hK hc i pins s σ H E I hf st hg
  subst hP hw hK
  obtain⟨f0,f1,f2,f3,f4,f5⟩:=hf it (by simp)
  have W:=Walks.range (prog:=X.prog) (w:=X.w) (I.ok.hd hc) it lo c n
  refine W.item i s _ _ hg st fun v h' tk hv st' kk=>?_
  obtain⟨t,rfl⟩:=hv
  have I1:Inv X pins σ H { s with heap:=h',toks:=tk }:=I.turned (fun b o hb e=>kk b o (by simpa using hb) e) f0 f1 f3 f4 f5
  exact⟨_,rfl,go_of (s:={ s with heap:=h',toks:=tk }) (n:= "range_iterator") st' rfl rfl (by decide) ⟨.int (lo+(i:Nat) * c),H,I1,⟨t,rfl⟩,⟨rfl,rfl⟩,st',fun b hb=>(hf b hb).1⟩⟩
 done:=by
  intro X hP hw hK hc i pins s σ H E I hf st hg
  subst hP hw hK
  obtain⟨f0,f1,f2,f3,f4,f5⟩:=hf it (by simp)
  exact wpAny_pyNext_range_end (I.ok.hd hc) st (by have:n≤i:=hg;(first|lia|omega)) fun h' eb=>⟨rfl,I.turned (t':=s.toks) (fun b o hb e=>eb b o hb e) f0 f1 f3 f4 f5⟩
 self:=fun _ _ _ _ _ st h=>wpAny_pyIter_rangeiter st h
def iRng3 (ta:TA):TI:=fun σ H R=>ta σ H fun vs H1=>∃ i j c:Int,vs=[.int i, .int j, .int c]/\c≠0/\Big c/\Builtin.Range.small i j c=true/\0≤Builtin.Range.rangeSize i j c/\R (Itr3 i c (Builtin.Range.rangeSize i j c).toNat) H1
theorem pi_range3 {tg a b c:Expr} {ta:TA} {p pos:Pos} (hg:Gl X "range") (hm:X.mg "range" = none) (ha:PA X [a,b,c] ta) (hs:starEach [a,b,c] X.env=(false,eval a X.env) :: starEach [b,c] X.env:=by rfl)
  (hpl:(backTo pos (starEach [b,c] X.env)).any (·.1)=false:=by rfl):PI X tg (.Call (.Name "range" p) [a,b,c] [] pos) (iRng3 ta):=by
 intro pins s σ H R I h
 refine Call_ (ld_blt I hg hm boot_range (PyProof.Rows.callWith_type1 (thn (ha pos pins s σ H _ I h) fun us s1 ⟨vs,H1,I1,r1,q1⟩=>?_) hs hpl))
 obtain⟨i,j,k,e,k0,kB,sm,nn,q⟩:=q1
 subst e
 cases r1 with
 | cons r rr=>
  cases rr with
  | cons r' rr=>
   cases rr with
   | cons r'' rr=>
    cases rr
    obtain⟨t,rfl⟩:=r
    obtain⟨t',rfl⟩:=r'
    obtain⟨t'',rfl⟩:=r''
    refine call_range_3 k0 ?_ (.inl (div_ok kB))
    refine wpAny_pyIter_range (IsRange.new ..) sm ?_
    have J:Inv X pins σ H1 { s1 with heap:=s1.heap.push { cls:= .type "range", data:= .fields #[.int i t, .int j t', .int k t''] },toks:=s1.toks }:=I1.kept fun b o e=>Heap.get?_push_of_some _ e
    refine⟨(s1.heap.push { cls:= .type "range", data:= .fields #[.int i t, .int j t', .int k t''] }).objs.size,[(s1.heap.push { cls:= .type "range", data:= .fields #[.int i t, .int j t', .int k t''] }).objs.size],_,_,H1,rfl,
     J.kept (t':=s1.toks) fun b o e=>Heap.get?_push_of_some _ e,turn_range3 _ i k (Builtin.Range.rangeSize i j k).toNat,?_,fun b hb=>?_,q⟩
    ·show IsRangeIter _ _ (i+((0:Nat):Int) * k) ((((Builtin.Range.rangeSize i j k).toNat:Nat):Int) - ((0:Nat):Int)) k
     rw[show i+((0:Nat):Int) * k=i from by simp,show ((((Builtin.Range.rangeSize i j k).toNat:Nat):Int) - ((0:Nat):Int))=Builtin.Range.rangeSize i j k from by (first|lia|omega)]
     exact Heap.get?_push_size _ rfl
    ·have e:b=(s1.heap.push { cls:= .type "range", data:= .fields #[.int i t, .int j t', .int k t''] }).objs.size:=by simpa using hb
     subst e
     exact J.fpOk (Nat.le_refl _) (J.hok.fresh (Nat.le_refl _))
theorem for_range3 {lo c:Int} {n:Nat} {g:TG} {tb:TS} {D:Ends} {σ:St} {H:Hp} (Pv:Nat->St->Hp->Prop) (h0:Pv 0 σ H)
  (hs:∀ i σ H,i<n->Pv i σ H->g (.int (lo+(i:Nat) * c)) σ H fun σ2 H2=>tb { D with nx:=Pv (i+1),ct:=Pv (i+1),bk:=D.nx } σ2 H2) (hd:∀ σ H,Pv n σ H->D.nx σ H) :
  ∃ W:Nat->Nat->St->Hp->Prop,(∃ m,W 0 m σ H)/\∀ i m σ H,W i m σ H->
   ((Itr3 lo c n).stop i H/\D.nx σ H)\/((Itr3 lo c n).go i H/\∃ N:St->Hp->Prop,(∀ σ' H',N σ' H'->∃ m',m'<m/\W (i+1) m' σ' H')/\∀ x H',(Itr3 lo c n).yld i H x H'->g x σ H' fun σ2 H2=>tb { D with nx:=N,ct:=N,bk:=D.nx } σ2 H2):=by
 refine⟨fun i m σ H=>m=n - i/\i≤n/\Pv i σ H,⟨n,by simp,Nat.zero_le _,h0⟩,?_⟩
 rintro i m σ H ⟨rfl,hi,p⟩
 by_cases hlt:i<n
 ·refine .inr ⟨hlt,Pv (i+1),fun σ' H' p'=>⟨n - (i+1),by (first|lia|omega),rfl,hlt,p'⟩,fun x H' y=>?_⟩
  obtain⟨e,y⟩:=y
  subst e y
  exact hs i σ _ hlt p
 ·have e:i=n:=by (first|lia|omega)
  subst e
  exact .inl ⟨Nat.le_refl _,hd σ H p⟩
end
section
variable {prog:Program} {w:World} {A:Around} {E:Value->Shared->Prop}
end
section
variable {X:Cx} {pos:Pos}
end
structure FunD (K:PySem.W.Frag) (x qual:Str) (st:Stmt) (f:Addr) (fd:FuncData):Prop where
 ex:∃ (oc:Value) (od:Option Addr) (dV kV doc pm:Value) (an:Option Addr) (cdv ct:Value) (osl:Array (Option Value)),
  fd=PySem.W.fnOf x qual (defArgs st) (defBody st) (defScope st) dV kV doc pm an cdv ct/\K.lookup f=some ⟨oc,od, .func fd,osl⟩/\PySem.W.codeIn K cdv qual=true
 kp:PySem.W.keepIn K (.ref f)=true
end L3
set_option maxRecDepth 100000
set_option linter.all false
set_option maxHeartbeats 4000000
set_option Elab.async false
namespace L3
open PySem PySem.Spec PyProof.Rows L2 M01
section
variable {X:Cx}
end
end L3
set_option maxRecDepth 100000
set_option linter.all false
namespace X8
open PySem
section
variable {M:Model} {A:Around} {E:Value->Shared->Prop} {s:Shared} {base:Heap} {env:Env} {outer:List Env} {L e:Addr} {cls:Value} {dx:Option Addr}
end
end X8
set_option maxRecDepth 100000
set_option linter.all false
set_option maxHeartbeats 4000000
namespace X8
open PySem PySem.W PySem.Calls PyProof.Rows Builtin Builtin.ObjectAttr
section
variable {prog:Program} {w:World} {A:Around} {E:Value->Shared->Prop} {s:Shared} {K:Frag} {x C:Addr} {ox:Obj} {od:Option Obj} {name:Str}
end
end X8
set_option maxRecDepth 100000
set_option linter.all false
set_option maxHeartbeats 4000000
namespace X8
open PySem PySem.W PySem.Calls PyProof.Rows Builtin Builtin.ObjectAttr
section
variable {prog:Program} {w:World} {A:Around} {E:Value->Shared->Prop} {h:Heap} {g:Array GenState} {d:Drawn} {t:Nat} {os:OsState} {K:Frag}
variable {nm q:Str} {C N:Addr} {bs bm:List Value} {hdct:Bool} {sn:List Str} {sub:List Value} {ab:Bool} {col:Option Bool} {dd:Option Addr} {k0 k1 k2 k3 k5:Option Value}
end
end X8
set_option maxRecDepth 100000
set_option linter.all false
set_option maxHeartbeats 4000000
namespace X8
open PySem PySem.Calls PyProof.Rows
section
open PySem.W Builtin Builtin.ObjectAttr
variable {prog:Program} {w:World} {A:Around} {E:Value->Shared->Prop} {s:Shared} {K:Frag}
end
end X8
set_option maxRecDepth 100000
set_option linter.all false
set_option maxHeartbeats 4000000
set_option Elab.async false
namespace X8
open PySem PySem.Spec PyProof.Rows L2
abbrev St:=L2.St
section
variable {X:Cx} {pins:List (Addr × Obj)} {σ:St} {H:Hp} {s:Shared}
end
end X8
set_option maxRecDepth 100000
set_option linter.all false
set_option maxHeartbeats 4000000
set_option Elab.async false
namespace X8
open PySem PySem.Spec PyProof.Rows L2
section
variable {X:Cx} {pins:List (Addr × Obj)} {σ:St} {H:Hp} {s:Shared}
theorem Inv.track {a:Addr} {o:HO} (I:Inv X pins σ H s) (fp:FpOk X pins H a) (nex:X.ex=[]) (new:ObjOk X.prog X.w (upd H a o) s.heap a o):Inv X pins σ (upd H a o) s:=by
 obtain⟨f0,f1,f2,f3,f4,f5⟩:=fp
 have nt:∀ b u,H b=some u->b≠a:=fun b u e z=>by rw[z,f0] at e;cases e
 have hok:HOk X.prog X.w (upd H a o) s.heap:=fun b u e=>by
  by_cases hb:b=a
  ·subst hb;rw[upd_same] at e;cases e;exact new
  ·rw[upd_ne hb] at e
   exact(I.hok b u e).stay (fun _ _ _ q=>q) (fun c q=>by rw[upd_ne (nt c _ q)];exact q) fun c xs q=>by rw[upd_ne (nt c _ q)];exact q
 have hs0:X.s₀.heap.objs.size≤a:=by
  rcases f3 with z | z
  ·rw[nex] at z;exact absurd z (by simp)
  ·exact z
 have nb:∀ b ob,X.s₀.heap.get? b=some ob->b≠a:=fun b ob e z=>absurd (Nat.lt_of_lt_of_le (Heap.lt_size e) (by rw[z];exact hs0)) (Nat.lt_irrefl _)
 refine⟨I.ok,I.os,I.bare,⟨I.base.keep,I.base.slot,fun b ob e n hx=>?_,I.base.there,fun b xs e=>?_,fun b ob u e=>?_,fun b ps e=>?_⟩,I.loc,I.cell,?_,fun x c e=>?_,fun p hp=>?_,hok,I.len⟩
 ·rw[upd_ne (nb b ob e)];exact I.base.free b ob e n hx
 ·have q:=I.base.tups b xs e
  rw[upd_ne (nt b _ q)];exact q
 ·have q:=I.base.frzs b ob u e
  rw[upd_ne (nt b _ q)];exact q
 ·obtain⟨more,q⟩:=I.base.tbls b ps e
  exact⟨more,by rw[upd_ne (nt b _ q)];exact q⟩
 ·rw[upd_ne (Ne.symm f1)];exact I.free
 ·rw[upd_ne (f4 x c e)];exact I.freeC x c e
 ·obtain⟨e,n,r⟩:=I.pin p hp
  exact⟨e,by rw[upd_ne (f5 p hp)];exact n,r⟩
end
section
variable {P:Program} {w:World} {H:Hp} {h:Heap}
end
end X8
set_option maxRecDepth 100000
set_option linter.all false
set_option maxHeartbeats 4000000
set_option Elab.async false
namespace X8
open PySem PySem.Spec PyProof.Rows L2
section
variable {X:Cx} {o value a:Expr} {es:List Expr} {f x:Str} {ta tv:TE} {t:TA} {pos pos' apos p np cpos:Pos}
end
end X8
set_option maxRecDepth 100000
set_option linter.all false
set_option maxHeartbeats 4000000
set_option Elab.async false
namespace X8
open PySem PySem.Spec PyProof.Rows L2
section
variable {X:Cx} {pins pins' pn:List (Addr × Obj)} {σ:St} {H:Hp} {s:Shared} {xe:Value->Shared->Prop}
end
section
variable {X:Cx} {x n:Str} {np hpos pos:Pos} {body suite:List Stmt} {b0:Stmt} {i:Nat} {S:Addr} {tb:(St->XK)->TS} {ts:TS}
end
section
variable {X:Cx} {k:Nat} {f C:Addr} {fd:FuncData} {ps:List Str} {sp:Sp} {dvs:List V} {ds:List Value} {E:St->XK} {x:Str} {p pos:Pos} {e:Expr} {es:List Expr} {t:TA}
end
section
variable {X:Cx} {pins:List (Addr × Obj)} {σ:St} {H:Hp} {s:Shared} {e C S d:Addr} {fs:List (Str × V)}
end
end X8
set_option maxRecDepth 100000
set_option linter.all false
set_option maxHeartbeats 4000000
set_option Elab.async false
namespace L6
open PySem PySem.Spec PyProof.Rows L2 L3 X8
abbrev Fn (x q:Str) (st:Stmt) (dV kV dc pm:Value) (an:Option Addr) (cd ct:Value):FuncData:=PySem.W.fnOf x q (defArgs st) (defBody st) (defScope st) dV kV dc pm an cd ct
def Th (K:PySem.W.Frag) (mg:Str->Option Value) (x:Str) (st:Stmt):Prop:=∃ f fd,L2.Fun K x x st f fd/\mg x=some (.ref f)
theorem th_mk {K:PySem.W.Frag} {h:Heap} {mg:Str->Option Value} {x:Str} {st:Stmt} {f:Addr} {oc kV dc pm cd ct:Value} {od an:Option Addr} {sl:Array (Option Value)} (X:K.In h) (G:h.Ns mainGlobals mg)
  (a:PySem.W.nsIn K mainGlobals x=some (some (.ref f))) (l:K.lookup f=some ⟨oc,od, .func (Fn x x st .none kV dc pm an cd ct),sl⟩) (c:PySem.W.codeIn K cd x=true) (k:PySem.W.keepIn K (.ref f)=true):Th K mg x st:=
 ⟨f,_,fun_mk (st:=st) l c k,PySem.W.mg_of X G a⟩
def ThD (K:PySem.W.Frag) (mg:Str->Option Value) (x:Str) (st:Stmt) (p q:Str) (d:Int):Prop:=∃ f fd tk,L3.FunD K x x st f fd/\mg x=some (.ref f)/\Binds K fd [p,q] []/\Binds K fd [p,q] [.int d tk]
theorem thD_mk {K:PySem.W.Frag} {h:Heap} {mg:Str->Option Value} {x:Str} {st:Stmt} {f Td:Addr} {oc kV dc pm cd ct dV:Value} {od an:Option Addr} {sl:Array (Option Value)} {oTd:Obj} {ntd:Nat} {tk:Tok} {p q:Str} {d:Int} (X:K.In h) (G:h.Ns mainGlobals mg)
  (a:PySem.W.nsIn K mainGlobals x=some (some (.ref f))) (l:K.lookup f=some ⟨oc,od, .func (Fn x x st dV kV dc pm an cd ct),sl⟩) (c:PySem.W.codeIn K cd x=true) (k:PySem.W.keepIn K (.ref f)=true)
  (hTd:(Fn x x st dV kV dc pm an cd ct).defaults= .ref Td) (oT:K.lookup Td=some oTd) (dT:oTd.data= .seq #[.int d tk] ntd)
  (b2:∀ (s:Shared) (u v:Value),K.In s.heap->BindsTo s (Fn x x st dV kV dc pm an cd ct) ⟨[u,v],[]⟩ [(p,u),(q,v)])
  (b1:∀ (s:Shared) (u:Value),K.In s.heap->BindsTo s (Fn x x st dV kV dc pm an cd ct) ⟨[u],[]⟩ [(p,u),(q, .int d tk)]):ThD K mg x st p q d:=
 ⟨f,_,tk,⟨⟨_,_,_,_,_,_,_,_,_,_,rfl,l,c⟩,k⟩,PySem.W.mg_of X G a,fun s us Xs hl=>match us,hl with | [u,v],_=>b2 s u v Xs,fun s us Xs hl=>by
  obtain⟨u,rfl⟩:∃ u,us=[u]:=by
   cases us with
   | nil=>simp at hl
   | cons a t=>
    cases t with
    | nil=>exact⟨a,rfl⟩
    | cons b r=>simp at hl
  exact b1 s u Xs⟩
def Def (P:Program) (w:World) (K:PySem.W.Frag) (mg:Str->Option Value) (base:Heap) (CX:CXT) (k:Nat) (x:Str) (ps:List Str) (sp:Sp):Prop:=
 ∃ f fd,FnOk P w K mg base CX k f fd ps sp/\Binds K fd ps []/\mg x=some (.ref f)/\PySem.W.keepIn K (.ref f)=true
section
variable {X:Cx} {CX:CXT} {k:Nat} {ps:List Str} {sp:Sp} {E:XK} {x:Str} {p pos:Pos} {e:Expr} {es:List Expr} {t:TA}
theorem pe_callD (D:Def X.prog X.w X.K X.mg X.base CX k x ps sp) (hr:Room k X.A) (hg:Gl X x) (hx:Passes CX X E)
  (ha:PA X (e :: es) t) (hdb:(x == ("__debug__" : Str))=false:=by decide) (he:starEach (e :: es) X.env=(false,eval e X.env) :: starEach es X.env:=by rfl) (hpl:(backTo pos (starEach es X.env)).any (·.1)=false:=by rfl) :
  PE X (.Call (.Name x p) (e :: es) [] pos) (tCall sp [] E t):=by
 obtain⟨f,fd,F,b,m,kp⟩:=D
 exact pe_call F hr hg m kp b .nil hx ha hdb he hpl
end
theorem def_of {P:Program} {w:World} {K:PySem.W.Frag} {mg:Str->Option Value} {base:Heap} {x:Str} {st:Stmt} {N ps:List Str} {k:Nat} {sp:Sp} (T:Th K mg x st)
  (hb:∀ (kV doc pm:Value) (an:Option Addr) (cdv ct:Value) (us:List Value),us.length=ps.length->bindArgs (PySem.W.fnOf x x (defArgs st) (defBody st) (defScope st) .none kV doc pm an cdv ct) ⟨us,[]⟩=pure (ps.zip us))
  (S:FnScope N ps (defScope st)) (len:∀ vs H Q E,sp vs H Q E->vs.length=ps.length)
  (hbody:∀ (f:Addr) (cdv:Value) (A:Around) (outer:List Env) (s:Shared) (H:Hp) (vs:List V) (Q:VK) (E:XK),Room k (A.deeper (envOfC x (defScope st) s.heap.objs.size f cdv))->sp vs H Q E->
   ∃ t,PSs (cxOf CX0 P w K mg base N x (defScope st) f cdv A outer s H E).nox (defBody st) t/\t { nx:=fun _ H'=>Q .non H',rt:=Q } (start N vs) H):Def P w K mg base CX0 (k+1) x ps sp:=by
 obtain⟨f,fd,F,m⟩:=T
 exact⟨f,fd,F.ok S len (fun cdv=>hbody f cdv),F.binds hb,m,F.kp⟩
end L6
set_option maxRecDepth 100000
set_option linter.all false
set_option maxHeartbeats 4000000
set_option Elab.async false
namespace PySem
namespace F
end F
end PySem
set_option maxRecDepth 100000
set_option linter.all false
set_option maxHeartbeats 4000000
set_option Elab.async false
namespace PySem
section
variable {prog:Program} {w:World} {A:Around} {E:Value->Shared->Prop} {s:Shared}
end
end PySem
set_option maxRecDepth 100000
set_option linter.all false
set_option maxHeartbeats 4000000
set_option Elab.async false
namespace L5
open PySem PySem.Spec PyProof.Rows L2 M01
section
variable {X:Cx} {tg:Expr}
def mulS (x:Str) (n:Int):Str:=if n<1 then Str.empty else if (n == 1 || x.length == 0)=true then x else ⟨(List.replicate n.toNat x.cps).foldl (· ++ ·) #[]⟩
theorem op_mul_str:OpR X (binaryOp .Mult) (fun x y H Q=>∃ z n,x= .str z/\y= .int n/\z.length≤100/\0≤n/\n≤100/\(mulS z n).length≤sizeLine/\Q (.str (mulS z n)) H):=by
 intro pins s σ H x y v u Q I rx ry h
 obtain⟨z,n,rfl,rfl,hz,n0,n1,hl,q⟩:=h
 obtain⟨t,rfl⟩:=rx
 obtain⟨t',rfl⟩:=ry
 refine P.mul_str ?_ (fun h1 _=>?_) (fun h1 _=>?_) ?_
 ·rw[decide_eq_false (by (first|lia|omega)),decide_eq_false (by (first|lia|omega))];rfl
 ·have:(1:Int)≤(2 ^ 63 - 1) / n:=by
   rw[Int.le_ediv_iff_mul_le (by (first|lia|omega))]
   (first|lia|omega)
  have h100:(100:Int)≤(2 ^ 63 - 1) / n:=by
   rw[Int.le_ediv_iff_mul_le (by (first|lia|omega))]
   (first|lia|omega)
  (first|lia|omega)
 ·unfold Builtin.Str.tooLong
  have e:z.length * n.toNat≤10000:=by
   have a:n.toNat≤100:=by (first|lia|omega)
   exact Nat.le_trans (Nat.mul_le_mul hz a) (by decide)
  simp only[decide_eq_false_iff_not]
  have e2:(10000:Nat)<sizeLine:=by decide +kernel
  (first|lia|omega)
 ·unfold mulS at hl q
  by_cases c1:n<1
  ·rw[if_pos c1] at hl q ⊢
   exact⟨hl, .str Str.empty,H,I.tok _,⟨_,rfl⟩,q⟩
  ·rw[if_neg c1] at hl q ⊢
   by_cases c2:(n == 1 || z.length == 0)=true
   ·rw[if_pos c2] at q ⊢
    exact⟨.str z,H,I,⟨_,rfl⟩,q⟩
   ·rw[if_neg c2] at hl q ⊢
    exact⟨hl, .str _,H,I.tok _,⟨_,rfl⟩,q⟩
def rSlS:V->Option Int->Option Int->Hp->VK->Prop:=fun x lo hi H Q=>∃ z,x= .str z/\z.length≤sizeLine/\Q (.str (Txt.slice z lo hi)) H
theorem sl_str:SlR X rSlS:=by
 intro pins s σ H x v vl vu lo hi sl Q I rx hs pl pu h
 obtain⟨z,rfl,hz,q⟩:=h
 obtain⟨t,rfl⟩:=rx
 refine⟨"str", _,F.slot_str_getitem.lookup,typeIs_str _ _ _,?_⟩
 have key:∀ (l u:Option (Int × Tok)),s.heap.IsSlice sl l u none->l.map (·.1)=lo->u.map (·.1)=hi->wpAny (model X.prog X.w) X.A (getItem (.str z t) (.ref sl)) (EP X pins σ Q) X.xe s:=by
  rintro l u hsl rfl rfl
  exact wpAny_getItem_str_slice (l:=l) (u:=u) (st:=none) hsl rfl (post_val_or_str ⟨Nat.le_trans (Txt.slice_le z _ _) hz,fun t' k=>⟨.str (Txt.slice z (l.map (·.1)) (u.map (·.1))),H,I.tok k,⟨t',rfl⟩,q⟩⟩)
 obtain⟨o,ho,hc,hd⟩:=hs
 cases pl with
 | none=>
  cases pu with
  | none=>exact key none none ⟨o,ho,hc,hd⟩ rfl rfl
  | int j tj=>exact key none (some (j,tj)) ⟨o,ho,hc,hd⟩ rfl rfl
 | int i ti=>
  cases pu with
  | none=>exact key (some (i,ti)) none ⟨o,ho,hc,hd⟩ rfl rfl
  | int j tj=>exact key (some (i,ti)) (some (j,tj)) ⟨o,ho,hc,hd⟩ rfl rfl
variable {o e:Expr} {es:List Expr} {to:TE} {t:TA} {name:Str} {apos cpos:Pos} {T id:String} {r:V->List V->Hp->VK->Prop}
end
end L5
set_option maxRecDepth 100000
set_option linter.all false
set_option maxHeartbeats 1000000
set_option Elab.async false
namespace L5
open PySem PySem.Spec PyProof.Rows L2 M01
inductive Cs:List Expr->List V->Prop
 | nil:Cs [] []
 | str {x:Str} {j:Nat} {pos:Pos} {es:List Expr} {vs:List V}:Cs es vs->Cs (.Constant (.str x) j pos :: es) (.str x :: vs)
 | int {i:Int} {j:Nat} {pos:Pos} {es:List Expr} {vs:List V}:Cs es vs->Cs (.Constant (.int i) j pos :: es) (.int i :: vs)
def tCs (vs:List V):TA:=fun _ H Q=>Q vs H
theorem pa_cs {X:Cx} {es:List Expr} {vs:List V} (h:Cs es vs):PA X es (tCs vs):=by
 induction h with
 | nil=>exact pa_nil
 | str _ ih=>
  intro pos pins s σ H Q I q
  exact(pa_cons pe_str ih) pos pins s σ H Q I q
 | int _ ih=>
  intro pos pins s σ H Q I q
  exact(pa_cons pe_int ih) pos pins s σ H Q I q
theorem ps_join {X:Cx} {st:Stmt} {t:TS} (h:PS X st t):PS X st (fun D σ H=>∃ J:L2.St->Hp->Prop,t { D with nx:=J } σ H/\∀ σ' H',J σ' H'->D.nx σ' H'):=by
 rintro pins s σ H D I ⟨J,q,k⟩
 refine thn (h pins s σ H _ I q) fun f s' z=>?_
 cases f with
 | next=>obtain⟨σ',H',I',j⟩:=z;exact⟨σ',H',I',k _ _ j⟩
 | brk=>exact z
 | cont=>exact z
 | ret u=>exact z
end L5
set_option maxRecDepth 100000
set_option linter.all false
set_option maxHeartbeats 1000000
set_option Elab.async false
namespace QL
open PySem PySem.Spec PyProof.Rows L2 L3 X8 M01 L6 L5
structure QE (X:Cx) (e:Expr) (t:TE):Prop where
 h:PE X e t
structure QT (X:Cx) (e:Expr) (t:TT):Prop where
 h:PT X e t
structure QW (X:Cx) (e:Expr) (t:TT):Prop where
 h:PW X e t
structure QA (X:Cx) (es:List Expr) (t:TA):Prop where
 h:PA X es t
structure QS (X:Cx) (st:Stmt) (t:TS):Prop where
 h:PS X st t
structure QSs (X:Cx) (st:List Stmt) (t:TS):Prop where
 h:PSs X st t
structure QG (X:Cx) (e:Expr) (t:TG):Prop where
 h:PG X e t
structure QGs (X:Cx) (es:List Expr) (t:TGs):Prop where
 h:PGs X es t
structure QI (X:Cx) (tg iter:Expr) (wi:TI):Prop where
 h:PI X tg iter wi
structure QO (X:Cx) (e:Option Expr) (t:TO):Prop where
 h:PO X e t
theorem QW.pt {X:Cx} {e:Expr} {t:TT} (h:QW X e t):QT X e t:=⟨h.h.pt⟩
section
variable {X:Cx} {a b c e o value:Expr} {es:List Expr} {rest:List Stmt} {st:Stmt} {ta tb tc te to tv:TE} {t u:TS} {pos pos2 cpos apos np p:Pos} {tA tB2:TT}
end
theorem qe_int {i j pos}:QE X (.Constant (.int i) j pos) (tC (.int i)):=⟨pe_int ⟩
theorem qe_bl {b j pos}:QE X (.Constant (.bool b) j pos) (tC (.bl b)):=⟨pe_bl ⟩
theorem qe_non {j pos}:QE X (.Constant .none j pos) (tC .non):=⟨pe_non ⟩
theorem qe_str {x j pos}:QE X (.Constant (.str x) j pos) (tC (.str x)):=⟨pe_str ⟩
theorem qe_glob {x:Str} {v:V} {u:Value} {pos:Pos} (hg:Gl X x) (hm:X.mg x=some u) (r:RelV v u) (hd:(x == ("__debug__" : Str))=false:=by decide):QE X (.Name x pos) (tC v):=⟨pe_glob hg hm r hd⟩
theorem qe_op {op:Operator} {r:R2} (ho:OpR X (binaryOp op) r) (ha:QE X a ta) (hb:QE X b tb):QE X (.BinOp a op b pos) (tOp r ta tb):=⟨pe_op ho ha.h hb.h⟩
theorem qe_un {op:UnaryOp} {r:V->Hp->VK->Prop} (ho:UnR X (unaryOp op) r) (ha:QE X a ta):QE X (.UnaryOp op a pos) (tUn r ta):=⟨pe_un ho ha.h⟩
theorem qe_cmpR {op:CmpOp} {r:R2} (ho:OpR X (compareOp op) r) (ha:QE X a ta) (hb:QE X b tb) (hm:behindInMarks op b=false):QE X (.Compare a [op] [b] pos) (tOp r ta tb):=⟨pe_cmpR ho ha.h hb.h hm⟩
theorem qt_cmpR {op:CmpOp} {r:R2} (ho:OpR X (compareOp op) r) (ha:QE X a ta) (hb:QE X b tb) (hm:behindInMarks op b=false):QT X (.Compare a [op] [b] pos) (tTest (tOp r ta tb)):=⟨pt_cmpR ho ha.h hb.h hm⟩
theorem qe_chain {op op':CmpOp} {r r':R2} (ho:OpR X (compareOp op) r) (ho':OpR X (compareOp op') r') (ha:QE X a ta) (hb:QE X b tb) (hc:QE X c tc) (hm:lastMarks [op,op'] [b,c]=false:=by with_unfolding_all rfl):QE X (.Compare a [op,op'] [b,c] pos) (tChain r r' ta tb tc):=⟨pe_chain ho ho' ha.h hb.h hc.h hm⟩
theorem qt_chain {op op':CmpOp} {r r':R2} (ho:OpR X (compareOp op) r) (ho':OpR X (compareOp op') r') (ha:QE X a ta) (hb:QE X b tb) (hc:QE X c tc) (hm:lastMarks [op,op'] [b,c]=false:=by with_unfolding_all rfl):QT X (.Compare a [op,op'] [b,c] pos) (tTest (tChain r r' ta tb tc)):=⟨pt_chain ho ho' ha.h hb.h hc.h hm⟩
theorem qt_val {e:Expr} {t:TE} (h:QE X e t) (he:∀ whole,isTrue e X.env whole=(do let v <- whole;standAt e.pos;holding [v] (truthy v)):=by intro _;rfl):QT X e (tB t):=⟨pt_val h.h he⟩
theorem qw_and1 (ha:QT X a tA):QW X (.BoolOp .And [a] pos) tA:=⟨pw_and1 ha.h⟩
theorem qw_or1 (ha:QT X a tA):QW X (.BoolOp .Or [a] pos) tA:=⟨pw_or1 ha.h⟩
theorem qw_and (ha:QT X a tA) (hb:QW X (.BoolOp .And (b :: rst) pos) tB'):QW X (.BoolOp .And (a :: b :: rst) pos) (tAnd tA tB'):=⟨pw_and ha.h hb.h⟩
theorem qw_or (ha:QT X a tA) (hb:QW X (.BoolOp .Or (b :: rst) pos) tB'):QW X (.BoolOp .Or (a :: b :: rst) pos) (tOr tA tB'):=⟨pw_or ha.h hb.h⟩
theorem qt_not (ha:QT X a tA):QT X (.UnaryOp .Not a pos) (tNot tA):=⟨pt_not ha.h⟩
theorem qe_tup {x1} (h:QA X es t):QE X (.Tuple es x1 pos) (tTup t):=⟨pe_tup h.h⟩
theorem qe_lst (h:QA X es t):QE X (.List es pos) (tLst t):=⟨pe_lst h.h⟩
theorem qa_nil  : QA X [] tNil:=⟨pa_nil ⟩
theorem qa_cons (ha:QE X e te) (hr:QA X es t) (hs:starEach (e :: es) X.env=(false,eval e X.env) :: starEach es X.env:=by rfl):QA X (e :: es) (tCons te t):=⟨pa_cons ha.h hr.h hs⟩
theorem qa_cs {X:Cx} {es:List Expr} {vs:List V} (h:Cs es vs):QA X es (tCs vs):=⟨pa_cs h⟩
theorem qe_ix {r:R2} (hr:IxR X r) (ha:QE X a ta) (hb:QE X b tb) (hs:PlainIx b):QE X (.Subscript a b pos) (tOp r ta tb):=⟨pe_ix hr ha.h hb.h hs⟩
theorem qe_slice {r:V->Option Int->Option Int->Hp->VK->Prop} (hr:SlR X r) (he:QE X e te) (hl:QO X lox tl) (hu:QO X hix th):QE X (.Subscript e (.Slice lox hix none p2) pos) (tSl r te tl th):=⟨pe_slice hr he.h hl.h hu.h⟩
theorem qo_none  : QO X none tNoPart:=⟨po_none ⟩
theorem qo_some (h:QE X e te):QO X (some e) (tPart te):=⟨po_some h.h⟩
theorem qe_callB (hc:CallR X (.builtin idd) r) (hg:Gl X x) (hm:X.mg x=none) (hv:bootBuiltins x=some (.builtin idd)) (ha:QA X (e :: es) t) (hn:x≠ "__name__" := by decide) (hdb:(x == ("__debug__" : Str))=false:=by decide) (he:starEach (e :: es) X.env=(false,eval e X.env) :: starEach es X.env:=by rfl) (hpl:(backTo pos (starEach es X.env)).any (·.1)=false:=by rfl):QE X (.Call (.Name x p) (e :: es) [] pos) (tCB r t):=⟨pe_callB hc hg hm hv ha.h hn hdb he hpl⟩
theorem qe_callTy (hc:CallR X (.type T) r) (hg:Gl X x) (hm:X.mg x=none) (hv:bootBuiltins x=some (.type T)) (ha:QA X (e :: es) t) (hn:x≠ "__name__" := by decide) (hdb:(x == ("__debug__" : Str))=false:=by decide) (he:starEach (e :: es) X.env=(false,eval e X.env) :: starEach es X.env:=by rfl) (hpl:(backTo pos (starEach es X.env)).any (·.1)=false:=by rfl):QE X (.Call (.Name x p) (e :: es) [] pos) (tCB r t):=⟨pe_callTy hc hg hm hv ha.h hn hdb he hpl⟩
theorem qe_callD (D:Def X.prog X.w X.K X.mg X.base CX k x ps sp) (hr:Room k X.A) (hg:Gl X x) (hx:Passes CX X E) (ha:QA X (e :: es) t) (hdb:(x == ("__debug__" : Str))=false:=by decide) (he:starEach (e :: es) X.env=(false,eval e X.env) :: starEach es X.env:=by rfl) (hpl:(backTo pos (starEach es X.env)).any (·.1)=false:=by rfl):QE X (.Call (.Name x p) (e :: es) [] pos) (tCall sp [] E t):=⟨pe_callD D hr hg hx ha.h hdb he hpl⟩
theorem qe_bm (pa:PlainAttrs T) (slot:Slot T name idd) (hty:typeOf (.builtin idd)=pure (.type "method_descriptor")) (hm:MtR X idd r) (ho:QE X o to) (ha:QA X (e :: es) t) (hbase:attributeBase o name X.env (eval o X.env)=eval o X.env:=by rfl) (hfew:((backTo cpos (starEach (e :: es) X.env)).all (fun x=> !x.1) && (backToKw cpos (keywordEach [] X.env)).all (fun x=>x.1.isSome)
   && decide ((e :: es).length+([]:List Keyword).length+(if ([]:List Keyword).isEmpty then 0 else 1)<30))=true:=by rfl) (hline:(apos.endLine == cpos.line)=true:=by rfl) (hs:starEach (e :: es) X.env=(false,eval e X.env) :: starEach es X.env:=by rfl) (hplain:(backTo cpos (starEach es X.env)).any (·.1)=false:=by rfl):QE X (.Call (.Attribute o name apos) (e :: es) [] cpos) (tBM X.K T r to t):=⟨pe_bm pa slot hty hm ho.h ha.h hbase hfew hline hs hplain⟩
theorem qss_nil  : QSs X [] tNext:=⟨pss_nil ⟩
theorem qss_cons (h1:QS X stt t) (h2:QSs X rst u):QSs X (stt :: rst) (tSeq t u):=⟨pss_cons h1.h h2.h⟩
theorem qss_one (h1:QS X stt t):QSs X [stt] t:=⟨pss_one h1.h⟩
theorem qs_expr (he:QE X e te) (hs:swapsWith e none pos.line X.env=pure false:=by rfl):QS X (.Expr e pos) (tDrop te):=⟨ps_expr he.h hs⟩
theorem qs_ret (he:QE X e te):QS X (.Return (some e) pos) (tRet te):=⟨ps_ret he.h⟩
theorem qs_if {c:Expr} {a b:List Stmt} {tc:TT} (hc:QT X c tc) (ha:QSs X a t) (hb:QSs X b u):QS X (.If c a b pos) (tIfS tc t u):=⟨ps_if hc.h ha.h hb.h⟩
theorem qs_set {i:Nat} {x:Str} {e:Expr} {te:TE} {pos':Pos} (hN:X.N.Nodup) (hi:X.N[i]?=some x) (hx:Loc X.env.scope x) (he:QE X e te) (hs:swapsWith e (some (.Name x pos')) pos.line X.env=pure false:=by rfl) (hf:X.fn x=true\/X.env.scope.names.lookup x=some .local:=by first | exact .inl rfl | exact .inr rfl | assumption):QS X (.Assign [.Name x pos'] e pos) (tAsg te (gName i)):=⟨ps_set hN hi hx he.h hs hf⟩
theorem qs_asg {tg e:Expr} {te:TE} {g:TG} (he:QE X e te) (hg:QG X tg g) (hs:swapsWithSole [tg] e pos.line X.env=pure false:=by rfl) (hw:swappedStores [tg] e X.env=pure none:=by rfl) (h1:(assignEach [tg] X.env).map (·.2)=[assign tg X.env]:=by rfl):QS X (.Assign [tg] e pos) (tAsg te g):=⟨ps_asg he.h hg.h hs hw h1⟩
theorem qs_while {c:Expr} {body:List Stmt} {tc:TT} {tb:TS} (hp:PassesOwn (model X.prog X.w) X.A X.env X.xe) (hc:QT X c tc) (hb:QSs X body tb):QS X (.While c body [] pos) (tWhile tc tb):=⟨ps_while hp hc.h hb.h⟩
theorem qs_for {iter:Expr} {body:List Stmt} {wi:TI} {g:TG} {tb:TS} {pos:Pos} (hp:PassesOwn (model X.prog X.w) X.A X.env X.xe) (hc:X.calm=true) (hi:QI X tg iter wi) (hg:QG X tg g) (hb:QSs X body tb) (hs:∀ x,foldedSetIterable iter X.env x=pure x:=by intro _;rfl):QS X (.For tg iter body [] pos) (tFor wi g tb):=⟨ps_for hp hc hi.h hg.h hb.h hs⟩
theorem qs_join {X:Cx} {stt:Stmt} {t:TS} (h:QS X stt t):QS X stt (fun D σ H=>∃ J:L2.St->Hp->Prop,t { D with nx:=J } σ H/\∀ σ' H',J σ' H'->D.nx σ' H'):=⟨ps_join h.h⟩
theorem qg_name {i:Nat} {x:Str} (hN:X.N.Nodup) (hi:X.N[i]?=some x) (hx:Loc X.env.scope x) (hf:X.fn x=true\/X.env.scope.names.lookup x=some .local:=by first | exact .inl rfl | exact .inr rfl | assumption):QG X (.Name x pos) (gName i):=⟨pg_name hN hi hx hf⟩
theorem qg_tup {es:List Expr} {k:Nat} {t:TGs} {n:Nat} (hc:X.calm=true) (h:QGs X es t) (hn:(assignEach es X.env).length=n:=by rfl) (hst:(assignEach es X.env).findIdx? (·.1)=none:=by rfl):QG X (.Tuple es k pos) (gTup X.K n t):=⟨pg_tup hc h.h hn hst⟩
theorem qgs_nil  : QGs X [] gNil:=⟨pgs_nil ⟩
theorem qgs_cons {e:Expr} {es:List Expr} {t:TG} {u:TGs} (h1:QG X e t) (h2:QGs X es u) (hs:(assignEach (e :: es) X.env).map (·.2)=assign e X.env :: (assignEach es X.env).map (·.2):=by rfl):QGs X (e :: es) (gCons t u):=⟨pgs_cons h1.h h2.h hs⟩
theorem qi_list {l:Expr} {tl:TE} (hl:QE X l tl):QI X tg l (iList X.K tl):=⟨pi_list hl.h⟩
theorem qi_tup {l:Expr} {tl:TE} (hl:QE X l tl):QI X tg l (iTup X.K tl):=⟨pi_tup hl.h⟩
theorem qi_range1 {a:Expr} {ta:TA} {p pos:Pos} (hg:Gl X "range") (hm:X.mg "range" = none) (ha:QA X [a] ta) (hs:starEach [a] X.env=[(false,eval a X.env)]:=by rfl):QI X tg (.Call (.Name "range" p) [a] [] pos) (iRng1 ta):=⟨pi_range1 hg hm ha.h hs⟩
theorem qi_range2 {a b:Expr} {ta:TA} {p pos:Pos} (hg:Gl X "range") (hm:X.mg "range" = none) (ha:QA X [a,b] ta) (hs:starEach [a,b] X.env=[(false,eval a X.env),(false,eval b X.env)]:=by rfl) (hs2:starEach [b] X.env=[(false,eval b X.env)]:=by rfl):QI X tg (.Call (.Name "range" p) [a,b] [] pos) (iRng2 ta):=⟨pi_range2 hg hm ha.h hs hs2⟩
theorem qi_range3 {tg a b c:Expr} {ta:TA} {p pos:Pos} (hg:Gl X "range") (hm:X.mg "range" = none) (ha:QA X [a,b,c] ta) (hs:starEach [a,b,c] X.env=(false,eval a X.env) :: starEach [b,c] X.env:=by rfl) (hpl:(backTo pos (starEach [b,c] X.env)).any (·.1)=false:=by rfl):QI X tg (.Call (.Name "range" p) [a,b,c] [] pos) (iRng3 ta):=⟨pi_range3 hg hm ha.h hs hpl⟩
theorem qv (i:Nat) {x:Str} {pos:Pos} (hN:X.N[i]?=some x:=by rfl) (hv:Vis X.env.scope x:=by first | exact Or.inl rfl | exact Or.inr (Or.inl rfl) | exact Or.inr (Or.inr rfl)) (hd:(x == ("__debug__" : Str))=false:=by decide) (hcd:(x == ("__classdict__" : Str))=false:=by decide):QE X (.Name x pos) (tVar i):=⟨pv i hN hv hd hcd⟩
theorem def_of {P:Program} {w:World} {K:PySem.W.Frag} {mg:Str->Option Value} {base:Heap} {x:Str} {st:Stmt} {N ps:List Str} {k:Nat} {sp:Sp} (T:Th K mg x st)
  (hb:∀ (kV doc pm:Value) (an:Option Addr) (cdv ct:Value) (us:List Value),us.length=ps.length->bindArgs (PySem.W.fnOf x x (defArgs st) (defBody st) (defScope st) .none kV doc pm an cdv ct) ⟨us,[]⟩=pure (ps.zip us))
  (S:FnScope N ps (defScope st)) (len:∀ vs H Q E,sp vs H Q E->vs.length=ps.length)
  (hbody:∀ (f:Addr) (cdv:Value) (A:Around) (outer:List Env) (s:Shared) (H:Hp) (vs:List V) (Q:VK) (E:XK),Room k (A.deeper (envOfC x (defScope st) s.heap.objs.size f cdv))->sp vs H Q E->
   ∃ t,QSs (cxOf CX0 P w K mg base N x (defScope st) f cdv A outer s H E).nox (defBody st) t/\t { nx:=fun _ H'=>Q .non H',rt:=Q } (start N vs) H):Def P w K mg base CX0 (k+1) x ps sp:=
 L6.def_of T hb S len fun f cdv A outer s H vs Q E hr h=>let ⟨t,a,b⟩:=hbody f cdv A outer s H vs Q E hr h;⟨t,a.h,b⟩
end QL
set_option maxRecDepth 100000
set_option linter.all false
set_option maxHeartbeats 1000000
set_option Elab.async false
namespace L7
open PySem PySem.Spec PyProof.Rows L2 L3 X8 M01 L6 L5
theorem gint_mk {K:PySem.W.Frag} {h:Heap} {mg:Str->Option Value} {x:Str} {i:Int} {tk:Tok} (X:K.In h) (G:h.Ns mainGlobals mg) (a:PySem.W.nsIn K mainGlobals x=some (some (.int i tk))):∃ tk,mg x=some (.int i tk):=⟨tk,PySem.W.mg_of X G a⟩
theorem gstr_mk {K:PySem.W.Frag} {h:Heap} {mg:Str->Option Value} {x y:Str} {tk:Tok} (X:K.In h) (G:h.Ns mainGlobals mg) (a:PySem.W.nsIn K mainGlobals x=some (some (.str y tk))):∃ tk,mg x=some (.str y tk):=⟨tk,PySem.W.mg_of X G a⟩
end L7
namespace QL
open PySem PySem.Spec PyProof.Rows L2 L3 X8 M01 L6 L5
theorem fn_law {P:Program} {w:World} {K:PySem.W.Frag} {mg:Str->Option Value} {base:Heap} {x:Str} {st:Stmt} {N ps:List Str} {k:Nat} {sp:Sp} {f:Addr} {fd:FuncData} (F:L2.Fun K x x st f fd)
  (S:FnScope N ps (defScope st)) (len:∀ vs H Q E,sp vs H Q E->vs.length=ps.length)
  (hbody:∀ (cdv:Value) (A:Around) (outer:List Env) (s:Shared) (H:Hp) (vs:List V) (Q:VK) (E:XK),Room k (A.deeper (envOfC x (defScope st) s.heap.objs.size f cdv))->sp vs H Q E->
   ∃ t,QSs (cxOf CX0 P w K mg base N x (defScope st) f cdv A outer s H E).nox (defBody st) t/\t { nx:=fun _ H'=>Q .non H',rt:=Q } (start N vs) H):FnOk P w K mg base CX0 (k+1) f fd ps sp:=
 F.ok S len fun cdv A outer s H vs Q E hr h=>let ⟨t,a,b⟩:=hbody cdv A outer s H vs Q E hr h;⟨t,a.h,b⟩
end QL
set_option maxRecDepth 100000
set_option linter.all false
set_option maxHeartbeats 1000000
set_option Elab.async false
namespace L8
open PySem PySem.Spec PyProof.Rows L2 L3 X8 M01 L6 L5 QL
abbrev St:=L2.St
def cxB (X:Cx) (NB:List Str) (scope:Scope) (cl:List (Str × Addr)) (C:Addr) (s:Shared) (H:Hp) (ex:List Addr):Cx where
 prog:=X.prog
 w:=X.w
 K:=X.K
 mg:=X.mg
 base:=X.base
 A:=X.A
 N:=NB
 s₀:=s
 H₀:=H
 env:=compEnvC scope cl C X.env
 outer:=X.stack
 stack:=X.stack
 ex:=ex
 fn:=fun _=>false
 calm:=X.calm
 pn:=[]
 xe:=fun _ _=>False
def fv (σ:St) (fidx:List Nat):St:=fidx.map fun i=>(σ[i]?).join
structure Clo (X:Cx) (scope:Scope) (cl:List (Str × Addr)):Prop where
 eq:closureFor scope X.env=pure cl
 sub:∀ y c,cl.lookup y=some c->X.env.cells.lookup y=some c
 has:∀ y,(y,NameKind.free)∈scope.names->∃ c,cl.lookup y=some c
theorem lookup_mem {κ ν:Type} [BEq κ] [LawfulBEq κ]:∀ {l:List (κ × ν)} {x:κ} {k:ν},l.lookup x=some k->(x,k)∈l
 | [],_,_,h=>by cases h
 | (y,j) :: r,x,k,h=>by
  rw[List.lookup_cons] at h
  cases e:x == y with
  | true=>
   rw[e] at h
   have e1:x=y:=by simpa using e
   have e2:j=k:=Option.some.inj h
   subst e1 e2
   exact List.mem_cons_self
  | false=>
   rw[e] at h
   exact List.mem_cons_of_mem _ (lookup_mem h)
theorem relabel_free {env:Env}:∀ {names:List (Str × NameKind)} {x:Str} {k:NameKind},(∀ y∈names,y.2≠ .cell)->(names.map fun (n,k)=>if (k == NameKind.free && env.scope.kind == .function && env.kindOf n == some .cell) then (n,NameKind.cell) else (n,k)).lookup x=some k->
  (k= .cell\/k= .free)->names.lookup x=some .free
 | [],x,k,_,h,_=>by simp at h
 | (n,j) :: r,x,k,hc,h,hk=>by
  have hr:∀ y∈r,y.2≠ .cell:=fun y hy=>hc y (List.mem_cons_of_mem _ hy)
  have hj:j≠ .cell:=hc (n,j) List.mem_cons_self
  rw[List.map_cons] at h
  rw[List.lookup_cons]
  dsimp only at h
  split at h
  ·rename_i q
   rw[List.lookup_cons] at h
   cases e:x == n with
   | true=>
    rw[Bool.and_eq_true,Bool.and_eq_true] at q
    have:j= .free:=by simpa using q.1.1
    rw[this]
   | false=>
    rw[e] at h
    exact relabel_free hr h hk
  ·rename_i q
   rw[List.lookup_cons] at h
   cases e:x == n with
   | true=>
    rw[e] at h
    have z:j=k:=Option.some.inj h
    subst z
    rcases hk with z | z
    ·exact absurd z hj
    ·rw[z]
   | false=>
    rw[e] at h
    exact relabel_free hr h hk
section
variable {X:Cx} {pins:List (Addr × Obj)} {σ:St} {H2:Hp} {s2:Shared} {scope:Scope} {cl:List (Str × Addr)} {x:Str} {px pos:Pos} {elt iter:Expr} {fvs:List Str} {fidx:List Nat} {te:TE} {J:It} {fp:List Addr} {it:Addr} {tn:Nat->Heap->Prop}
 {RR:Value->Addr->Result->Shared->Prop} {E:Value->Shared->Prop}
theorem blk_ok (I2:Inv X pins σ H2 s2) (hnex:X.ex=[]) (hfp:∀ b∈fp,FpOk X pins H2 b) (hex:∀ b∈fp,∃ o,s2.heap.get? b=some o) (cl0:Clo X scope cl) (hcell:∀ y∈scope.names,y.2≠ .cell) (hkind:scope.kind= .function) {C:Addr} (hC:s2.heap.objs.size≤C) :
  (cxB X (x :: fvs) scope cl C s2 H2 fp).Ok where
 mod:=I2.ok.mod
 kind:=hkind
 glob:=I2.ok.glob
 blt:=I2.ok.blt
 above:=hC
 inj:=fun a b c e1 e2=>I2.ok.inj a b c (cl0.sub a c e1) (cl0.sub b c e2)
 has:=fun y h=>by
  rcases h with h | h
  ·exact cl0.has y (lookup_mem (relabel_free hcell h (.inl rfl)))
  ·exact cl0.has y (lookup_mem (relabel_free hcell h (.inr rfl)))
 cab:=fun _ _ z=>nomatch z
 hd:=I2.ok.hd
 frames:=I2.ok.frames
 stk:= .inl rfl
 exf:=fun b hb=>by
  obtain⟨o,e⟩:=hex b hb
  exact⟨Nat.ne_of_lt (Nat.lt_of_lt_of_le (Heap.lt_size e) hC),fun y c q=>(hfp b hb).2.2.2.2.1 y c (cl0.sub y c q)⟩
 bs:=I2.bs
 bsz:=Nat.le_trans I2.ok.bsz I2.sz
 noex:=fun b o e hb=>by
  rcases(hfp b hb).2.2.2.1 with z | z
  ·rw[hnex] at z;cases z
  ·exact absurd (Nat.lt_of_lt_of_le (Heap.lt_size e) (Nat.le_trans I2.ok.bsz z)) (Nat.lt_irrefl _)
 exfs:=fun b hb z=>by
  rcases List.mem_cons.mp (I2.stkSub b z) with q | q
  ·exact(hfp b hb).2.1 q
  ·exact(hfp b hb).2.2.1 q
 funs:=I2.stack
 frf:=I2.stkFree
theorem relabel_notlocal {env:Env}:∀ {names:List (Str × NameKind)} {x:Str},names.lookup x=some .free->(names.map fun (n,k)=>if (k == NameKind.free && env.scope.kind == .function && env.kindOf n == some .cell) then (n,NameKind.cell) else (n,k)).lookup x≠some .local
 | [],x,h=>by simp at h
 | (n,j) :: r,x,h=>by
  rw[List.lookup_cons] at h
  rw[List.map_cons]
  dsimp only
  cases e:x == n with
  | true=>
   rw[e] at h
   have:j= .free:=Option.some.inj h
   subst this
   split
   ·rw[List.lookup_cons,e];intro z;cases z
   ·rw[List.lookup_cons,e];intro z;cases z
  | false=>
   rw[e] at h
   split
   ·rw[List.lookup_cons,e];exact relabel_notlocal h
   ·rw[List.lookup_cons,e];exact relabel_notlocal h
structure FvOk (X:Cx) (scope:Scope) (fvs:List Str) (fidx:List Nat):Prop where
 at_:∀ (j:Nat) y,fvs[j]?=some y->∃ i,fidx[j]?=some i/\X.N[i]?=some y/\(X.env.scope.names.lookup y=some .cell\/X.env.scope.names.lookup y=some .free)/\scope.names.lookup y=some .free
 len:fidx.length=fvs.length
theorem blk_inv (I2:Inv X pins σ H2 s2) (ok:(cxB X (x :: fvs) scope cl C s2 H2 fp).Ok) (cl0:Clo X scope cl) (F:FvOk X scope fvs fidx) (hx:scope.names.lookup x=some .local) (hC:s2.heap.objs.size≤C) {h1:Heap} {tk:Nat} (k:∀ b o,s2.heap.get? b=some o->h1.get? b=some o)
  (hn:h1.Ns C fun _=>none):Inv (cxB X (x :: fvs) scope cl C s2 H2 fp) [] (none :: fv σ fidx) H2 { s2 with heap:=h1,toks:=tk } where
 ok:=ok
 os:=rfl
 bare:=I2.bare
 base:=Un.kept k
 loc:=by
  refine⟨_,hn,fun i y v e1 e2 e3=>?_⟩
  cases i with
  | zero=>cases e2
  | succ j=>
   have e1':fvs[j]?=some y:=e1
   have e2':(fv σ fidx)[j]?=some (some v):=e2
   obtain⟨i0,f1,f2,f3,f4⟩:=F.at_ j y e1'
   have e4:(σ[i0]?).join=some v:=by
    unfold fv at e2'
    rw[List.getElem?_map,f1] at e2'
    exact Option.some.inj e2'
   have e5:σ[i0]?=some (some v):=by
    cases q:σ[i0]? with
    | none=>rw[q] at e4;cases e4
    | some z=>rw[q] at e4;exact congrArg some e4
   obtain⟨m,hnm,hl⟩:=I2.loc
   obtain⟨u,r,l⟩:=hl i0 y v f2 e5 (f3.elim (fun z=> .inr (.inl z)) fun z=> .inr (.inr z))
   refine⟨u,r, .inr ?_⟩
   rcases l with ⟨q,_⟩ | ⟨_,c,ec,o,ho,hd⟩
   ·rcases f3 with z | z
    ·have q2:X.env.scope.names.lookup y=some .local:=q
     rw[z] at q2;cases q2
    ·have q2:X.env.scope.names.lookup y=some .local:=q
     rw[z] at q2;cases q2
   ·obtain⟨c2,ec2⟩:=cl0.has y (lookup_mem f4)
    have:=cl0.sub y c2 ec2
    rw[ec] at this
    cases this
    refine⟨?_,c,ec2,o,k c o ho,hd⟩
    rcases e3 with z | z | z
    ·exfalso
     have z':(relabel scope X.env).names.lookup y=some .local:=z
     exact relabel_notlocal f4 z'
    ·exact .inl z
    ·exact .inr z
 cell:=fun y c e=>by
  obtain⟨v,o,ho,hd⟩:=I2.cell y c (cl0.sub y c e)
  exact⟨v,o,k c o ho,hd⟩
 free:=I2.hok.fresh hC
 freeC:=fun y c e=>I2.freeC y c (cl0.sub y c e)
 pin:=fun p hp=>nomatch hp
 hok:=I2.hok.kept k
 len:=by
  show (none :: fv σ fidx).length=(x :: fvs).length
  unfold fv
  rw[List.length_cons,List.length_map,F.len,List.length_cons]
def LcW (J:It) (fvals:St) (te:TE) (don:List V->Hp->Prop) (H1:Hp):Prop:=∃ W:Nat->Nat->List V->Hp->Prop,(∃ m,W 0 m [] H1)/\∀ i m ys H,W i m ys H->ys.length<sizeLine/\
 ((J.stop i H/\don ys H)\/(J.go i H/\∃ N:List V->Hp->Prop,(∀ ys' H',N ys' H'->∃ m',m'<m/\W (i+1) m' ys' H')/\∀ x H',J.yld i H x H'->te (some x :: fvals) H' fun v H''=>N (ys ++ [v]) H''))
abbrev lobj (its:List Value) (n:Nat):Obj:={ cls:= .type "list", data:= .seq its.toArray n }
theorem comp_blk {don:List V->Hp->Prop} (I2:Inv X pins σ H2 s2) (hnex:X.ex=[]) (hc:X.calm=true) (T:Turn X.prog X.w X.K (.Name x px) J fp it tn) (tn0:tn 0 s2.heap) (hfp:∀ b∈fp,FpOk X pins H2 b) (cl0:Clo X scope cl) (F:FvOk X scope fvs fidx)
  (hcell:∀ y∈scope.names,y.2≠ .cell) (hkind:scope.kind= .function) (hx:scope.names.lookup x=some .local) (hnd:(x :: fvs).Nodup) (he:∀ C s H ex,QE (cxB X (x :: fvs) scope cl C s H ex) elt te) (hw:LcW J (fv σ fidx) te don H2)
  (hRR:∀ D C s' H ys m,Inv X pins σ (upd H D (.lst ys)) s'->H D=none->s'.heap.Ns C m->FpOk X pins (upd H D (.lst ys)) C->don ys H->RR (.ref D) C (.ok .next) s') :
  wpAny (model X.prog X.w) X.A (newList []) (fun acc s₃=>wpAny (model X.prog X.w) X.A (newFunctionEnv scope X.env.globals cl [] X.env.qual none .none (some X.env)) (fun cenv s₄=>
   codeAny (model X.prog X.w) X.A (.compStart (.ListComp elt [⟨.Name x px,iter,[],0⟩] scope pos) 0 (.ref it) acc { cenv with scope:=relabel scope X.env }) (RR acc cenv.locals) s₄) E s₃) E s2:=by
 refine wpAny_newObj_type (wpAny_newFunctionEnv hcell (by intro y hy;simp at hy) (fun h₁ hns₁ hsb₁=>?_) hkind)
 dsimp only at hns₁ hsb₁ ⊢
 generalize hHD:s2.heap.push { cls:= .type "list", dict:=none,data:= .seq ([]:List Value).toArray }=HD at hns₁ hsb₁ ⊢
 have hC:HD.objs.size=s2.heap.objs.size+1:=by rw[<- hHD,Heap.size_push]
 have hDC:s2.heap.objs.size≠HD.objs.size:=by rw[hC];exact Nat.ne_of_lt (Nat.lt_succ_self _)
 have old:∀ b o,s2.heap.get? b=some o->h₁.get? b=some o:=fun b o e=>hsb₁.extBut b o (by rw[hC];exact Nat.ne_of_lt (Nat.lt_succ_of_lt (Heap.lt_size e))) (Heap.get?_push_of_some _ (hHD ▸ Heap.get?_push_of_some _ e))
 have hacc:h₁.get? s2.heap.objs.size=some (lobj [] 0):=hsb₁.extBut _ _ hDC (Heap.get?_push_of_some _ (hHD ▸ Heap.get?_push_size _ rfl))
 have hex:∀ b∈fp,∃ o,s2.heap.get? b=some o:=fun b hb=>let ⟨o,e,_⟩:=T.obj 0 _ tn0 b hb;⟨o,e⟩
 have hC2:s2.heap.objs.size≤HD.objs.size:=by rw[hC];exact Nat.le_succ _
 have ok:(cxB X (x :: fvs) scope cl HD.objs.size s2 H2 fp).Ok:=blk_ok I2 hnex hfp hex cl0 hcell hkind hC2
 have I4:Inv (cxB X (x :: fvs) scope cl HD.objs.size s2 H2 fp) [] (none :: fv σ fidx) H2 { s2 with heap:=h₁,toks:=s2.toks+([]:List (Str × Value)).length }:=blk_inv I2 ok cl0 F hx hC2 old hns₁
 generalize hXB:cxB X (x :: fvs) scope cl HD.objs.size s2 H2 fp=XB at ok I4
 have eP:XB.prog=X.prog:=by rw[<- hXB];rfl
 have eW:XB.w=X.w:=by rw[<- hXB];rfl
 have eK:XB.K=X.K:=by rw[<- hXB];rfl
 have eA:XB.A=X.A:=by rw[<- hXB];rfl
 have eE:XB.env=compEnvC scope cl HD.objs.size X.env:=by rw[<- hXB];rfl
 have eL:XB.env.locals=HD.objs.size:=by rw[eE];rfl
 have eS:XB.s₀=s2:=by rw[<- hXB];rfl
 have eX:XB.ex=fp:=by rw[<- hXB];rfl
 have eF:XB.fs=frs X.stack:=by rw[<- hXB];rfl
 have eN:XB.N=x :: fvs:=by rw[<- hXB];rfl
 have ePn:XB.pn=[]:=by rw[<- hXB];rfl
 have eH:XB.H₀=H2:=by rw[<- hXB];rfl
 have eCc:XB.calm=true:=by rw[<- hXB];exact hc
 have eXe:XB.xe=fun _ _=>False:=by rw[<- hXB];rfl
 have eCl:XB.env.cells=cl:=by rw[eE];rfl
 have hD0:∀ y c,XB.env.cells.lookup y=some c->c≠s2.heap.objs.size:=fun y c e=>by
  rw[eCl] at e
  obtain⟨v,o,ho,_⟩:=I2.cell y c (cl0.sub y c e)
  exact Nat.ne_of_lt (Heap.lt_size ho)
 have hDfs:s2.heap.objs.size ∉ XB.fs:=by
  rw[eF]
  intro z
  rcases List.mem_cons.mp (I2.stkSub _ z) with q | q
  ·exact absurd I2.lt (by rw[<- q];exact Nat.lt_irrefl _)
  ·exact I2.nofs (Nat.le_refl _) q
 have stat:∀ {H:Hp} {pp:List (Addr × Obj)},(∀ b∈fp,H b=none)->(∀ p∈pp,p.1=s2.heap.objs.size)->∀ b∈fp,FpOk XB pp H b:=fun {H pp} hn hp b hb=>by
  obtain⟨o,e⟩:=hex b hb
  refine⟨hn b hb,by rw[eL,hC];exact Nat.ne_of_lt (Nat.lt_succ_of_lt (Heap.lt_size e)),?_, .inl (by rw[eX];exact hb),fun y c q=>?_,fun p hpp z=>?_⟩
  ·rw[eF]
   intro z
   rcases List.mem_cons.mp (I2.stkSub b z) with q | q
   ·exact(hfp b hb).2.1 q
   ·exact(hfp b hb).2.2.1 q
  ·rw[eCl] at q
   exact(hfp b hb).2.2.2.2.1 y c (cl0.sub y c q)
  ·rw[ePn,List.nil_append] at hpp
   rw[hp p hpp] at z
   exact absurd (Heap.lt_size e) (by rw[<- z];exact Nat.lt_irrefl _)
 obtain⟨W,⟨m0,w0⟩,turn⟩:=hw
 let Inw:Nat->Shared->Prop:=fun n s=>∃ i ys its k σx H,Inv XB [(s2.heap.objs.size,lobj its k)] (σx :: fv σ fidx) H s/\Vals ys its/\tn i s.heap/\(∀ b∈fp,H b=none)/\W i n ys H
 have I40:Inv XB [(s2.heap.objs.size,lobj [] 0)] (none :: fv σ fidx) H2 { s2 with heap:=h₁,toks:=s2.toks+([]:List (Str × Value)).length }:=I4.pins_of fun p hp=>by
  have e:p=(s2.heap.objs.size,lobj [] 0):=by simpa using hp
  subst e
  exact⟨hacc,I2.hok.fresh (Nat.le_refl _),by rw[eL];exact hDC,hDfs,fun v z=>by cases z⟩
 have start:Inw m0 { s2 with heap:=h₁,toks:=s2.toks+([]:List (Str × Value)).length }:=⟨0,[],[],0,none,H2,I40, .nil,T.keep _ _ _ tn0 fun b _ o e=>old b o e,fun b hb=>(hfp b hb).1,w0⟩
 have hDlt:∀ b∈fp,b≠s2.heap.objs.size:=fun b hb=>let ⟨o,e⟩:=hex b hb;Nat.ne_of_lt (Heap.lt_size e)
 have pd:∀ {o:Obj} (p:Addr × Obj),p∈[(s2.heap.objs.size,o)]->p.1=s2.heap.objs.size:=fun p hp=>by
  rw[List.mem_singleton.mp hp]
 have fin:∀ s1 H ys its k σx,Inv XB [(s2.heap.objs.size,lobj its k)] (σx :: fv σ fidx) H s1->Vals ys its->ys.length<sizeLine->don ys H->RR (.ref s2.heap.objs.size) HD.objs.size (.ok .next) s1:=fun s1 H ys its k σx I rv hz dn=>by
  have un:Un (frs X.stack) fp H2 H s2.heap s1.heap:=by
   have z:=I.base
   rw[eF,eX,eH,eS] at z
   exact z
  have os:s1.os=s2.os:=by
   have z:=I.os
   rw[eS] at z
   exact z
  have hok:HOk X.prog X.w H s1.heap:=by
   have z:=I.hok
   rw[eP,eW] at z
   exact z
  have J1:Inv X pins σ H s1:=I2.call' os un hok I.bare fun b hb=>⟨by
   rcases(hfp b hb).2.2.2.1 with z | z
   ·exact .inl z
   ·exact .inr z,(hfp b hb).2.1,(hfp b hb).2.2.2.2.1,(hfp b hb).2.2.2.2.2⟩
  obtain⟨q1,q2,_⟩:=I.pin (s2.heap.objs.size,lobj its k) (by rw[ePn];simp)
  have J2:Inv X pins σ (upd H s2.heap.objs.size (.lst ys)) s1:=Inv.track J1 (I2.fpOk (Nat.le_refl _) q2) hnex (show ObjOk X.prog X.w _ s1.heap _ (.lst ys) from⟨Nat.le_of_lt hz,its,k,rv,q1⟩)
  obtain⟨m,hn,_⟩:=I.loc
  rw[eL] at hn
  refine hRR _ _ s1 H ys m J2 q2 hn (I2.fpOk hC2 ?_) dn
  rw[upd_ne (Ne.symm hDC)]
  have z:=I.free
  rw[eL] at z
  exact z
 have loop:∀ s₃:Shared,s₃= { s2 with heap:=h₁,toks:=s2.toks+([]:List (Str × Value)).length }->
   codeAny (model X.prog X.w) X.A (.compLoop (.ListComp elt [⟨.Name x px,iter,[],0⟩] scope pos) 0 (.ref it) (.ref s2.heap.objs.size) (compEnvC scope cl HD.objs.size X.env)) (RR (.ref s2.heap.objs.size) HD.objs.size) s₃:=by
  rintro s₃ rfl
  rw[<- eE]
  refine codeAny_compLoop_tests Inw ?_ m0 start
  rintro n s ⟨i,ys,its,k,σx,H,I,rv,st,fr,wt⟩
  obtain⟨hsz,tr⟩:=turn i n ys H wt
  rcases tr with ⟨stop,dn⟩ | ⟨go,N,hN,step⟩
  ·have Td:=T.done XB eP eW eK eCc i _ s _ H (notedBy (model X.prog X.w) X.A XB.env fun e s'=>RR (.ref s2.heap.objs.size) HD.objs.size (.error e) s') I (stat fr pd) st stop
   rw[eA] at Td
   refine wpAny_mono Td (fun r s1 ⟨hr,I1⟩=>?_) fun _ _ e=>e
   subst hr
   exact fin s1 H ys its k σx I1 rv hsz dn
  ·have Ti:=T.item XB eP eW eK eCc i _ s _ H (notedBy (model X.prog X.w) X.A XB.env fun e s'=>RR (.ref s2.heap.objs.size) HD.objs.size (.error e) s') I (stat fr pd) st go
   rw[eA] at Ti
   refine wpAny_mono Ti (fun r s1 ⟨u,hr,h4⟩=>?_) fun _ _ e=>e
   subst hr
   dsimp only
   have eq:assign (.Name x px) XB.env u=(letOwnedTupleGo (.Name x px) (.ref it) u >>= fun _=>assign (.Name x px) XB.env u):=rfl
   rw[eq]
   refine wpAny_bind (wpAny_mono h4 (fun _ s5 ⟨v,H5,I5,r5,y5,st5,fr5⟩=>?_) fun _ _ e=>e)
   have I5':=I5.pinned (stat fr5 pd) (T.obj _ _ st5)
   have lc:XB.env.scope.names.lookup x=some .local:=by rw[eE];exact lookup_relabel_local hx
   refine wpAny_assign_Name (store_ok (i:=0) (x:=x) I5' (by rw[eN];exact hnd) (by rw[eN];rfl) (.inl lc) r5 (fun s6 I6=>?_) (.inr lc))
   refine wpAny_tests_nil ?_
   simp only[if_true]
   have h7:=he HD.objs.size s2 H2 fp
   rw[hXB] at h7
   have h8:=h7.h _ s6 _ H5 _ I6 (step v H5 y5)
   rw[eP,eW,eA,eXe] at h8
   refine wpAny_mono h8 (fun u7 s7 ⟨v7,H7,I7,r7,n7⟩=>?_) fun _ _ z=>z.elim
   obtain⟨q1,q2,q3,q4,q5⟩:=I7.pin (s2.heap.objs.size,lobj its k) (by rw[ePn];simp)
   have fpin:∀ b∈fp,∀ o,s5.heap.get? b=some o->s7.heap.get? b=some o/\H7 b=none:=fun b hb o e=>
    let z:=I7.pin (b,o) (List.mem_append_right _ (List.mem_append_right _ (mem_pinsAt hb e)));⟨z.1,z.2.1⟩
   refine append_at (hsz:=by rw[List.size_toArray, <- rv.length];exact Nat.le_of_lt hsz) q1 fun h9 hs9 hD9=>?_
   obtain⟨m',hm,w'⟩:=hN _ _ n7
   have I7a:Inv XB (pinsAt fp s5.heap) (some v :: fv σ fidx) H7 s7:=I7.pins_of fun p hp=>I7.pin p (List.mem_append_right _ (List.mem_append_right _ hp))
   have pne:∀ p∈XB.pn ++ pinsAt fp s5.heap,p.1≠s2.heap.objs.size:=fun p hp=>by
    rw[ePn,List.nil_append] at hp
    exact hDlt _ (of_pinsAt hp).1
   have I8:Inv XB (pinsAt fp s5.heap) (some v :: fv σ fidx) H7 { s7 with heap:=h9 }:=I7a.turned (t':=s7.toks) (fun b o hb e=>hs9.extBut b o hb e) q2 q3 (.inr (by rw[eS];exact Nat.le_refl _)) hD0 pne
   refine⟨m',hm,i+1,ys ++ [v7],its ++ [u7],k+1,some v,H7,I8.pins_of fun p hp=>?_,rv.append (.cons r7 .nil),?_,fun b hb=>?_,w'⟩
   ·have e:p=(s2.heap.objs.size,lobj (its ++ [u7]) (k+1)):=by simpa using hp
    subst e
    refine⟨?_,q2,q3,q4,fun v z=>by cases z⟩
    rw[hD9]
    simp
   ·refine T.keep _ _ _ st5 fun b hb o e=>?_
    exact hs9.extBut b o (hDlt b hb) (fpin b hb o e).1
   ·obtain⟨o,e,_⟩:=T.obj _ _ st5 b hb
    exact(fpin b hb o e).2
 exact codeAny_compStart_list (loop _ rfl) (T.self _ 0 _ _ _ (T.keep _ _ _ tn0 fun b _ o e=>old b o e) (loop _ rfl))
theorem clo_go {env:Env}:∀ (names:List (Str × NameKind)) (cs:List (Str × Addr)),(∀ y,(y,NameKind.free)∈names->∃ c,env.cells.lookup y=some c)->
  ∃ cl,(forIn names cs (fun (p:Str × NameKind) (cs:List (Str × Addr))=>(if (p.2 == NameKind.free)=true then (do let c <- cellOf env p.1;pure (ForInStep.yield ((p.1,c) :: cs))) else pure (ForInStep.yield cs):Sem (ForInStep (List (Str × Addr))))))=(pure cl:Sem (List (Str × Addr)))/\
   (∀ y c,cl.lookup y=some c->env.cells.lookup y=some c\/cs.lookup y=some c)/\(∀ y,((y,NameKind.free)∈names\/∃ c,cs.lookup y=some c)->∃ c,cl.lookup y=some c)
 | [],cs,_=>⟨cs,rfl,fun y c e=> .inr e,fun y h=>h.elim (fun z=>nomatch z) id⟩
 | (n,k) :: r,cs,h=>by
  rw[List.forIn_cons]
  by_cases hk:(k == NameKind.free)=true
  ·have kf:k= .free:=by simpa using hk
   obtain⟨c,hc⟩:=h n (by rw[kf];exact List.mem_cons_self)
   obtain⟨cl,e1,e2,e3⟩:=clo_go r ((n,c) :: cs) fun y hy=>h y (List.mem_cons_of_mem _ hy)
   refine⟨cl,?_,fun y c' e=>?_,fun y hy=>e3 y ?_⟩
   ·simp only[hk,if_true]
    have:cellOf env n=pure c:=by unfold cellOf;rw[hc]
    rw[this]
    exact e1
   ·rcases e2 y c' e with z | z
    ·exact .inl z
    ·rw[List.lookup_cons] at z
     cases q:y == n with
     | true=>
      rw[q] at z
      have q':y=n:=by simpa using q
      subst q'
      exact .inl (hc.trans z)
     | false=>rw[q] at z;exact .inr z
   ·rcases hy with z | ⟨c',z⟩
    ·rcases List.mem_cons.mp z with z | z
     ·right
      have:y=n:=congrArg Prod.fst z
      subst this
      exact⟨c,by rw[List.lookup_cons,beq_self_eq_true]⟩
     ·exact .inl z
    ·right
     rw[List.lookup_cons]
     cases q:y == n with
     | true=>exact⟨c,rfl⟩
     | false=>exact⟨c',z⟩
  ·obtain⟨cl,e1,e2,e3⟩:=clo_go r cs fun y hy=>h y (List.mem_cons_of_mem _ hy)
   refine⟨cl,?_,e2,fun y hy=>e3 y ?_⟩
   ·simp only[hk,Bool.false_eq_true,if_false]
    exact e1
   ·rcases hy with z | z
    ·rcases List.mem_cons.mp z with z | z
     ·have:k= .free:=(congrArg Prod.snd z).symm
      rw[this] at hk
      exact absurd rfl hk
     ·exact .inl z
    ·exact .inr z
theorem clo_mk {X:Cx} {scope:Scope} (h:∀ y,(y,NameKind.free)∈scope.names->∃ c,X.env.cells.lookup y=some c):∃ cl,Clo X scope cl:=by
 obtain⟨cl,e1,e2,e3⟩:=clo_go (env:=X.env) scope.names [] h
 exact⟨cl,(congrArg (fun m:Sem (List (Str × Addr))=>m >>= fun s=>pure s) e1).trans rfl,fun y c e=>(e2 y c e).elim id (fun z=>nomatch z),fun y hy=>e3 y (.inl hy)⟩
structure LcOk (X:Cx) (scope:Scope) (x:Str) (fvs:List Str) (fidx:List Nat):Prop where
 cell:∀ y∈scope.names,y.2≠ .cell
 kind:scope.kind= .function
 names:∀ y∈scope.names,y.2= .local->scope.names.lookup y.1=some .local
 hx:scope.names.lookup x=some .local
 nd:(x :: fvs).Nodup
 hfv:FvOk X scope fvs fidx
 free:∀ y,(y,NameKind.free)∈scope.names->X.env.kindOf y=some .cell\/X.env.kindOf y=some .free
def tLC (wi:TI) (fidx:List Nat) (te:TE):TE:=fun σ H Q=>wi σ H fun J H1=>LcW J (fv σ fidx) te (fun ys H=>∀ D,H D=none->Q (.ref D) (upd H D (.lst ys))) H1
theorem qe_lc (L:LcOk X scope x fvs fidx) (hnex:X.ex=[]) (hc:X.calm=true) {wi:TI} (hi:QI X (.Name x px) iter wi) (he:∀ cl C s H ex,QE (cxB X (x :: fvs) scope cl C s H ex) elt te)
  (hs:∀ z,foldedSetIterable iter X.env z=pure z:=by intro _;rfl):QE X (.ListComp elt [⟨.Name x px,iter,[],0⟩] scope pos) (tLC wi fidx te):=by
 refine⟨fun pins s σ H Q I h=>?_⟩
 obtain⟨cl,cl0⟩:=clo_mk (X:=X) (scope:=scope) fun y hy=>I.ok.has y (L.free y hy)
 rw[eval_ListComp]
 refine wpAny_comprehension_free (use:=none) rfl hs cl0.eq L.kind L.names (wpAny_mono (hi.h pins s σ H _ I h) (fun v s1 h1=>wpAny_mono h1 (fun itv s2 h2=>?_) fun _ _ e=>e) fun _ _ e=>e)
 obtain⟨it,fp,tn,J,H2,e,I2,T,st2,f2,hw⟩:=h2
 subst e
 refine comp_blk (RR:=fun acc C=>compPost (model X.prog X.w) X.A X.xe none (EP X pins σ Q) acc C) I2 hnex hc T st2 f2 cl0 L.hfv L.cell L.kind L.hx L.nd (he cl) hw fun D C s' H' ys m J1 hD hn fC dn=>?_
 refine⟨m,hn,fun h' hs'=>?_⟩
 obtain⟨c0,c1,c2,c3,c4,c5⟩:=fC
 exact⟨.ref D,_,J1.turned (t':=s'.toks) (fun b o hb e=>hs'.extBut b o hb e) c0 c1 c3 c4 c5,rfl,dn D hD⟩
theorem qs_lc (L:LcOk X scope x fvs fidx) (hnex:X.ex=[]) (hc:X.calm=true) {j:Nat} {y:Str} {py spos:Pos} (hN:X.N.Nodup) (hj:X.N[j]?=some y) (hy:X.env.scope.names.lookup y=some .local) {wi:TI} (hi:QI X (.Name x px) iter wi)
  (he:∀ cl C s H ex,QE (cxB X (x :: fvs) scope cl C s H ex) elt te)
  (hsw:swapsWith (.ListComp elt [⟨.Name x px,iter,[],0⟩] scope pos) (some (.Name y py)) spos.line X.env=pure true:=by rfl)
  (hs:∀ z,foldedSetIterable iter X.env z=pure z:=by intro _;rfl):QS X (.Assign [.Name y py] (.ListComp elt [⟨.Name x px,iter,[],0⟩] scope pos) spos) (fun D σ H=>tLC wi fidx te σ H fun v H'=>D.nx (σ.set j (some v)) H'):=by
 refine⟨fun pins s σ H D I h=>?_⟩
 obtain⟨cl,cl0⟩:=clo_mk (X:=X) (scope:=scope) fun y hy=>I.ok.has y (L.free y hy)
 rw[exec_Assign_Name_used _ _ _ _ hsw]
 refine wpAny_bind (wpAny_standAt (wpAny_bind ?_))
 show wpAny _ X.A (do let _ <- comprehension (.ListComp elt [⟨.Name x px,iter,[],0⟩] scope pos) scope X.env _ (newList []) false (eval iter X.env) (some (assign (.Name y py) X.env))) _ _ s
 refine wpAny_bind (wpAny_mono (wpAny_comprehension_free (use:=some (assign (.Name y py) X.env)) (Q:=fun _ s'=>SP X pins D .next s') rfl hs cl0.eq L.kind L.names (wpAny_mono (hi.h pins s σ H _ I h) (fun v s1 h1=>wpAny_mono h1 (fun itv s2 h2=>?_) fun _ _ e=>e) fun _ _ e=>e)) (fun _ s' hq=>wpAny_pure (wpAny_pure hq)) fun _ _ e=>e)
 obtain⟨it,fp,tn,J,H2,e,I2,T,st2,f2,hw⟩:=h2
 subst e
 refine comp_blk (RR:=fun acc C=>compPost (model X.prog X.w) X.A X.xe (some (assign (.Name y py) X.env)) (fun _ s'=>SP X pins D .next s') acc C) I2 hnex hc T st2 f2 cl0 L.hfv L.cell L.kind L.hx L.nd (he cl) hw fun D1 C s' H' ys m J1 hD hn fC dn=>?_
 show wpAny _ X.A (assign (.Name y py) X.env (.ref D1)) _ _ _
 refine wpAny_assign_Name (store_ok2 J1 hN hj (.inl hy) (show RelV (.ref D1) (.ref D1) from rfl) (fun s3 J3 ch=>?_) (.inr hy))
 obtain⟨c0,c1,c2,c3,c4,c5⟩:=fC
 obtain⟨a,sb,ha⟩:=ch
 have neC:C≠a:=fun z=>by
  rcases ha with q | q
  ·exact c1 (z.trans q)
  ·exact c4 _ _ q z.symm
 refine⟨m,hn.sameBut sb neC,fun h' hs'=>?_⟩
 exact⟨_,_,J3.turned (t':=s3.toks) (fun b o hb e=>hs'.extBut b o hb e) c0 c1 c3 c4 c5,dn D1 hD⟩
end
end L8
set_option maxRecDepth 100000
set_option linter.all false
set_option maxHeartbeats 4000000
set_option Elab.async false
namespace L2
open PySem PySem.Spec PyProof.Rows
section
variable {κ:Type} [DecidableEq κ]
def valV (kvs:List (κ × V)) (k:κ):Option V:=(kvs.find? fun kv=>decide (kv.1=k)).map (·.2)
def putK (kvs:List (κ × V)) (k:κ) (v:V):List (κ × V):=
 if (kvs.any fun kv=>decide (kv.1=k))=true then kvs.map (fun kv=>if kv.1=k then (kv.1,v) else kv) else kvs ++ [(k,v)]
theorem valV_pos {p:κ × V} {r:List (κ × V)} {k:κ} (e:p.1=k):valV (p :: r) k=some p.2:=by simp[valV,List.find?_cons,e]
theorem valV_neg {p:κ × V} {r:List (κ × V)} {k:κ} (e:¬ p.1=k):valV (p :: r) k=valV r k:=by simp[valV,List.find?_cons,e]
theorem valV_any (k:κ):∀ kvs:List (κ × V),(kvs.any fun kv=>decide (kv.1=k))=(valV kvs k).isSome
 | []=>rfl
 | p :: r=>by
  rw[List.any_cons]
  by_cases e:p.1=k
  ·simp only[valV_pos e,decide_eq_true e,Bool.true_or,Option.isSome_some]
  ·rw[valV_neg e,decide_eq_false e,Bool.false_or];exact valV_any k r
theorem length_putK (kvs:List (κ × V)) (k:κ) (v:V):(putK kvs k v).length≤kvs.length+1:=by
 unfold putK
 split
 ·rw[List.length_map];(first|lia|omega)
 ·rw[List.length_append,List.length_cons,List.length_nil];(first|lia|omega)
theorem RelO.isSome_eq {o:Option V} {u:Option Value} (r:RelO o u):o.isSome=u.isSome:=by
 cases o with
 | none=>cases u with
  | none=>rfl
  | some _=>exact(show False from r).elim
 | some _=>cases u with
  | none=>exact(show False from r).elim
  | some _=>rfl
theorem RelO.getD {o:Option V} {u:Option Value} {d:V} {d':Value} (r:RelO o u) (rd:RelV d d'):RelV (o.getD d) (u.getD d'):=by
 cases o with
 | none=>cases u with
  | none=>exact rd
  | some _=>exact(show False from r).elim
 | some _=>cases u with
  | none=>exact(show False from r).elim
  | some _=>exact r
theorem KV.val {kvs:List (κ × V)} {vs:List (κ × Value)} (r:KV kvs vs) (k:κ):RelO (valV kvs k) (valueAt vs k):=by
 unfold KV at r
 induction r with
 | nil=>exact True.intro
 | @cons p q ps qs h t ih=>
  obtain⟨h1,h2⟩:=h
  by_cases e:p.1=k
  ·have e':q.1=k:=h1.symm.trans e
   have b:valueAt (q :: qs) k=some q.2:=by simp[valueAt,List.find?_cons,e']
   rw[valV_pos e,b];exact h2
  ·have e':¬ q.1=k:=fun z=>e (h1.trans z)
   have b:valueAt (q :: qs) k=valueAt qs k:=by simp[valueAt,List.find?_cons,e']
   rw[valV_neg e,b];exact ih
theorem KV.any {kvs:List (κ × V)} {vs:List (κ × Value)} (r:KV kvs vs) (k:κ):(kvs.any fun kv=>decide (kv.1=k))=vs.any fun kv=>decide (kv.1=k):=by
 unfold KV at r
 induction r with
 | nil=>rfl
 | cons h t ih=>rw[List.any_cons,List.any_cons,ih,h.1]
theorem KV.repl {kvs:List (κ × V)} {vs:List (κ × Value)} (r:KV kvs vs) (k:κ) {y:V} {u:Value} (ry:RelV y u) :
  KV (kvs.map fun kv=>if kv.1=k then (kv.1,y) else kv) (vs.map fun kv=>if kv.1=k then (kv.1,u) else kv):=by
 unfold KV at r ⊢
 induction r with
 | nil=>exact .nil
 | @cons p q ps qs h t ih=>
  rw[List.map_cons,List.map_cons]
  refine .cons ?_ ih
  obtain⟨h1,h2⟩:=h
  by_cases e:p.1=k
  ·rw[if_pos e,if_pos (h1.symm.trans e)];exact⟨h1,ry⟩
  ·rw[if_neg e,if_neg (fun z=>e (h1.trans z))];exact⟨h1,h2⟩
theorem KV.put {kvs:List (κ × V)} {vs:List (κ × Value)} (r:KV kvs vs) (k:κ) {y:V} {u:Value} (ry:RelV y u):KV (putK kvs k y) (stored vs k u):=by
 unfold putK stored
 rw[r.any k]
 by_cases e:(vs.any fun kv=>decide (kv.1=k))=true
 ·rw[if_pos e,if_pos e];exact r.repl k ry
 ·rw[if_neg e,if_neg e];exact Paired.snoc r ⟨rfl,ry⟩
theorem KV.length {kvs:List (κ × V)} {vs:List (κ × Value)} (r:KV kvs vs):kvs.length=vs.length:=Paired.length r
end
theorem kV_is {P:Program} {w:World} {k:Key} {u:Value} (r:RelV (kV k) u):(mixKind P w).is k u=true:=by
 cases k with
 | inl i=>obtain⟨t,e⟩:=(show ∃ t,u=Value.int i t from r);subst e;exact mixKind_int P w i t
 | inr x=>obtain⟨t,e⟩:=(show ∃ t,u=Value.str x t from r);subst e;exact mixKind_str P w x t
theorem items_are {P:Program} {w:World}:∀ {ks:List Key} {us:List Value},Vals (ks.map kV) us->ItemsAre (mixKind P w) ks us
 | [],_,r=>by rw[List.map_nil] at r;cases r;exact .nil
 | k :: ks,_,r=>by
  rw[List.map_cons] at r
  cases r with
  | cons h t=>exact .cons (kV_is h) (items_are t)
abbrev KT (H:Hp):List (List Key × V)->List (List Key × Addr × Value)->Prop:=Paired fun p q=>p.1=q.1/\H q.2.1=some (.tup (p.1.map kV))/\RelV p.2 q.2.2
theorem KT.val {H:Hp} {kvs:List (List Key × V)} {xs:List (List Key × Addr × Value)} (r:KT H kvs xs) (k:List Key):RelO (valV kvs k) ((atKey xs k).map (·.2)):=by
 induction r with
 | nil=>exact True.intro
 | @cons p q ps qs h t ih=>
  obtain⟨h1,_,h2⟩:=h
  by_cases e:p.1=k
  ·have e':q.1=k:=h1.symm.trans e
   have b:atKey (q :: qs) k=some q.2:=by simp[atKey,List.find?_cons,e']
   rw[valV_pos e,b];exact h2
  ·have e':¬ q.1=k:=fun z=>e (h1.trans z)
   have b:atKey (q :: qs) k=atKey qs k:=by simp[atKey,List.find?_cons,e']
   rw[valV_neg e,b];exact ih
theorem KT.repl {H:Hp} {kvs:List (List Key × V)} {xs:List (List Key × Addr × Value)} (r:KT H kvs xs) (k:List Key) {y:V} {u:Value} (ry:RelV y u) :
  KT H (kvs.map fun kv=>if kv.1=k then (kv.1,y) else kv) (xs.map (putAt k u)):=by
 induction r with
 | nil=>exact .nil
 | @cons p q ps qs h t ih=>
  rw[List.map_cons,List.map_cons]
  refine .cons ?_ ih
  obtain⟨h1,h2,h3⟩:=h
  unfold putAt
  by_cases e:p.1=k
  ·rw[if_pos e,if_pos (h1.symm.trans e)];exact⟨h1,h2,ry⟩
  ·rw[if_neg e,if_neg (fun z=>e (h1.trans z))];exact⟨h1,h2,h3⟩
theorem KT.put {H:Hp} {kvs:List (List Key × V)} {xs:List (List Key × Addr × Value)} (r:KT H kvs xs) (k:List Key) {b:Addr} {y:V} {u:Value} (hb:H b=some (.tup (k.map kV))) (ry:RelV y u) :
  KT H (putK kvs k y) (storedH xs k b u):=by
 have e:(kvs.any fun kv=>decide (kv.1=k))=(atKey xs k).isSome:=by
  rw[valV_any,(r.val k).isSome_eq,Option.isSome_map]
 unfold putK storedH
 rw[e]
 by_cases q:(atKey xs k).isSome=true
 ·rw[if_pos q,if_pos q];exact r.repl k ry
 ·rw[if_neg q,if_neg q];exact Paired.snoc r ⟨rfl,hb,ry⟩
theorem KT.keeps {H H':Hp} {kvs:List (List Key × V)} {xs:List (List Key × Addr × Value)} (r:KT H kvs xs) (ht:∀ b ys,H b=some (.tup ys)->H' b=some (.tup ys)):KT H' kvs xs:=
 Paired.mapP r fun _ _ z=>⟨z.1,ht _ _ z.2.1,z.2.2⟩
section
variable {P:Program} {w:World} {H:Hp} {h:Heap} {a:Addr}
theorem rd_of {u:HO} (ok:HOk P w H h) (e:Rd H a u):ObjOk P w H h a u:=e.ok ok
theorem dk_rd {kvs:List (Key × V)} (ok:HOk P w H h) (e:Rd H a (.dK kvs)):kvs.length≤sizeLine/\(a == sysModules)=false/\∃ vs,KV kvs vs/\h.DictOf (mixKind P w) a vs:=
 show ObjOk P w H h a (.dK kvs) from rd_of ok e
theorem dk_of {kvs:List (Key × V)} (ok:HOk P w H h) (e:H a=some (.dK kvs)):kvs.length≤sizeLine/\(a == sysModules)=false/\∃ vs,KV kvs vs/\h.DictOf (mixKind P w) a vs:=dk_rd ok (.inl e)
theorem key_of {ks:List Key} (ok:HOk P w H h) (e:H a=some (.tup (ks.map kV))):(tupleKind (mixKind P w)).is h ks a:=by
 obtain⟨_,its,r,o,h1,h2,n,h3⟩:=(show ObjOk P w H h a (.tup (ks.map kV)) from ok a _ e)
 exact⟨o,its.toArray,n,h1,h2,h3,by simpa using items_are r⟩
theorem dt_rd {kvs:List (List Key × V)} (ok:HOk P w H h) (e:Rd H a (.dT kvs)):kvs.length≤sizeLine/\(a == sysModules)=false/\
  ∃ xs,KT H kvs xs/\h.DictOfH (tupleKind (mixKind P w)) a xs:=by
 obtain⟨z,y,xs,r,o,es,ep,h1,h2,h3,h4,h5⟩:=(show ObjOk P w H h a (.dT kvs) from rd_of ok e)
 refine⟨z,y,xs,r,o,es,ep,h1,h2,h3,h4,fun x hx=>?_,h5⟩
 have all:∀ {l:List (List Key × V)} {m:List (List Key × Addr × Value)},KT H l m->∀ x∈m,(tupleKind (mixKind P w)).is h x.1 x.2.1:=by
  intro l m q
  induction q with
  | nil=>intro x hx;exact nomatch hx
  | @cons p q ps qs hq t ih=>
   intro x hx
   rcases List.mem_cons.mp hx with e | hx
   ·subst e
    exact key_of ok (by rw[<- hq.1];exact hq.2.1)
   ·exact ih x hx
 exact all r x hx
theorem dt_of {kvs:List (List Key × V)} (ok:HOk P w H h) (e:H a=some (.dT kvs)):kvs.length≤sizeLine/\(a == sysModules)=false/\
  ∃ xs,KT H kvs xs/\h.DictOfH (tupleKind (mixKind P w)) a xs:=dt_rd ok (.inl e)
end
def DGet (H:Hp) (a:Addr) (y:V) (r:Option V):Prop:=
 (∃ kvs k,Rd H a (.dK kvs)/\y=kV k/\r=valV kvs k)\/∃ kvs k b,Rd H a (.dT kvs)/\y= .ref b/\H b=some (.tup (k.map kV))/\r=valV kvs k
def DPut (H:Hp) (a:Addr) (y v:V) (H':Hp):Prop:=
 (∃ kvs k,H a=some (.dK kvs)/\y=kV k/\kvs.length<sizeLine/\H'=upd H a (.dK (putK kvs k v)))\/
 ∃ kvs k b,H a=some (.dT kvs)/\y= .ref b/\H b=some (.tup (k.map kV))/\kvs.length<sizeLine/\H'=upd H a (.dT (putK kvs k v))
theorem DGet.k {H:Hp} {a:Addr} {kvs:List (Key × V)} {k:Key} (e:H a=some (.dK kvs)):DGet H a (kV k) (valV kvs k):= .inl ⟨kvs,k, .inl e,rfl,rfl⟩
theorem DPut.k {H:Hp} {a:Addr} {kvs:List (Key × V)} {k:Key} {v:V} (e:H a=some (.dK kvs)) (hl:kvs.length<sizeLine):DPut H a (kV k) v (upd H a (.dK (putK kvs k v))):= .inl ⟨kvs,k,e,rfl,hl,rfl⟩
section
variable {X:Cx} {pins:List (Addr × Obj)} {σ:St} {H:Hp} {s:Shared} {a:Addr} {y v:V} {u r:Value} {o:Option V} {A:Around} {E:Value->Shared->Prop}
theorem Inv.big (I:Inv X pins σ H s):sysModules<s.heap.objs.size:=by
 have h:mainGlobals<s.heap.objs.size:=(I.mod.glob.keeps I.bk).lt
 exact Nat.lt_trans (by decide) h
theorem d_getItem {Q:Value->Shared->Prop} (hu:A.units+1<cLine) (I:Inv X pins σ H s) (g:DGet H a y (some v)) (ry:RelV y u) (h:∀ w' s',Inv X pins σ H s'->RelV v w'->Q w' s') :
  wpAny (model X.prog X.w) A (getItem (.ref a) u) Q E s:=by
 rcases g with ⟨kvs,k,e,ey,l⟩ | ⟨kvs,k,b,e,ey,eb,l⟩
 ·subst ey
  obtain⟨z,hd,vs,rel,dd⟩:=dk_rd I.hok e
  obtain⟨w',hw,rw'⟩:=RelO.some_of (v:=v) (o:=valueAt vs k) (by rw[l];exact rel.val k)
  exact wpAny_getItem_of (kV_is ry) dd.mapOf hw (h w' _ (I.tok _) rw')
 ·subst ey
  cases (show u=Value.ref b from ry)
  obtain⟨z,hd,xs,rel,dd⟩:=dt_rd I.hok e
  obtain⟨w',hw,rw'⟩:=RelO.some_of (v:=v) (o:=(atKey xs k).map (·.2)) (by rw[l];exact rel.val k)
  obtain⟨p,hp,hp2⟩:=Option.map_eq_some_iff.mp hw
  refine wpAny_getItem_heap (tupleKind_room_in1 hu) (key_of I.hok eb) dd hp ?_
  rw[hp2]
  exact h w' _ (I.tok _) rw'
theorem d_write {h':Heap} {t':Nat} {ob:HO} (I:Inv X pins σ H s) (mu:Mut (H a)) (hs:Heap.SameBut a s.heap h') (he:∃ q,h'.get? a=some q) (new:ObjOk X.prog X.w (upd H a ob) h' a ob) :
  Inv X pins σ (upd H a ob) { s with heap:=h',toks:=t' }:=
 I.write (x:=a) (e:=a) mu (.inl rfl) (fun b q hb z=>(hs.2 b hb).trans z) he new
theorem dk_new {P:Program} {w:World} {H':Hp} {h':Heap} {kvs:List (Key × V)} {vs:List (Key × Value)} (z:kvs.length≤sizeLine) (hd:(a == sysModules)=false) (rel:KV kvs vs) (dd:h'.DictOf (mixKind P w) a vs) :
  ObjOk P w H' h' a (.dK kvs):=⟨z,hd,vs,rel,dd⟩
theorem d_setItem {H':Hp} {Q:Unit->Shared->Prop} (hu:A.units+1<cLine) (I:Inv X pins σ H s) (g:DPut H a y v H') (ry:RelV y u) (rv:RelV v r) (h:∀ s',Inv X pins σ H' s'->Q () s') :
  wpAny (model X.prog X.w) A (setItem (.ref a) u r) Q E s:=by
 rcases g with ⟨kvs,k,e,ey,l,eH⟩ | ⟨kvs,k,b,e,ey,eb,l,eH⟩
 ·subst ey eH
  obtain⟨z,hd,vs,rel,dd⟩:=dk_of I.hok e
  have hz:vs.length≤sizeLine:=by rw[<- rel.length];exact z
  have hl:(putK kvs k v).length≤sizeLine:=by have:=length_putK kvs k v;(first|lia|omega)
  refine wpAny_setItem_pairs (hsz:=hz) (kV_is ry) dd fun h' dd' hs=>h _ ?_
  have he:∃ q,h'.get? a=some q:=let ⟨q,_,_,hq,_⟩:=dd';⟨q,hq⟩
  exact d_write I (by rw[e];exact True.intro) hs he (dk_new hl hd (rel.put k rv) dd')
 ·subst ey eH
  cases (show u=Value.ref b from ry)
  obtain⟨z,hd,xs,rel,dd⟩:=dt_of I.hok e
  have hz:xs.length≤sizeLine:=by rw[<- Paired.length rel];exact z
  have hl:(putK kvs k v).length≤sizeLine:=by have:=length_putK kvs k v;(first|lia|omega)
  refine wpAny_setItem_heap (hsz:=hz) (tupleKind_room_in1 hu) (key_of I.hok eb) dd fun h' dd' hs=>h _ ?_
  obtain⟨q,es,ep,hq,h2,h3,h4,_,h5⟩:=dd'
  refine d_write I (by rw[e];exact True.intro) hs ⟨q,hq⟩ ⟨hl,hd,_,(rel.put k eb rv).keeps fun c ys ec=>?_,q,es,ep,hq,h2,h3,h4,h5⟩
  rw[upd_ne (ne_of ec e (fun z=>nomatch z))]
  exact ec
end
section
variable {X:Cx} {pins:List (Addr × Obj)} {σ:St} {H:Hp} {s:Shared} {a:Addr} {kvs:List (Key × V)} {k:Key} {u:Value} {A:Around} {E:Value->Shared->Prop}
end
def NoSl (i:Expr):Prop:=∀ ov iv,subscripted i false ov iv=operate [ov,iv] (getItem ov iv)
theorem subD_of {prog:Program} {w:World} {A:Around} {E:Value->Shared->Prop} {s:Shared} {env:Env} {value slice:Expr} {pos:Pos} {T id:String} {Q:Value->Shared->Prop}
  (hl:typeLookup (.type T) "__getitem__" = pure (some (.builtin id))) (hs:NoSl slice)
  (h:wpAny (model prog w) A (eval value env) (fun o s₁=>wpAny (model prog w) A (eval slice env) (fun i s₂=>s₂.TypeIs o T/\wpAny (model prog w) A (getItem o i) Q E s₂) E s₁) E s) :
  wpAny (model prog w) A (eval (.Subscript value slice pos) env) Q E s:=by
 refine Subscript_ (wpAny_mono h (fun o s₁ h₁=>wpAny_mono h₁ (fun i s₂ h₂=>?_) fun _ _ x=>x) fun _ _ x=>x)
 obtain⟨hT,h₂⟩:=h₂
 unfold subscriptTail
 refine wpAny_bind ?_
 rw[getitemInPython_of_ne hT.not_modules]
 refine wpAny_bind (wpAny_specialOf hT hl ?_)
 have fin:wpAny (model prog w) A (subscripted slice false o i) (fun r s₃=>wpAny (model prog w) A (letTemporaryGo value o r >>= fun _=>pure r) Q E s₃) E s₂:=by
  rw[hs o i]
  exact wpAny_operating (wpAny_mono h₂ (fun r s₃ h₃=>wpAny_bind (wpAny_letTemporaryGo (wpAny_pure h₃))) fun _ _ x=>x)
 first
  | exact wpAny_pure (wpAny_bind fin)
  | exact wpAny_bind (wpAny_pure (wpAny_bind fin))
  | exact wpAny_bind fin
theorem dict_typeIs {X:Cx} {pins:List (Addr × Obj)} {σ:St} {H:Hp} {s:Shared} {a:Addr} {y:V} {o:Option V} (I:Inv X pins σ H s) (g:DGet H a y o):s.TypeIs (.ref a) "dict" := by
 rcases g with ⟨kvs,k,e,_,_⟩ | ⟨kvs,k,b,e,_,_,_⟩
 ·obtain⟨_,_,vs,_,dd⟩:=dk_rd I.hok e
  exact dd.typeIs
 ·obtain⟨_,_,xs,_,dd⟩:=dt_rd I.hok e
  exact dd.typeIs
def tDGet (td ty:TE):TE:=fun σ H Q=>td σ H fun x H1=>ty σ H1 fun y H2=>∃ a v,x= .ref a/\DGet H2 a y (some v)/\Q v H2
def sDPut (td ty tv:TE):TS:=fun D σ H=>tv σ H fun v H1=>td σ H1 fun x H2=>ty σ H2 fun y H3=>∃ a H4,x= .ref a/\DPut H3 a y v H4/\D.nx σ H4
section
variable {X:Cx} {o i e value:Expr} {pos pos' tpos:Pos} {td ty tv:TE}
theorem pe_dget (hu:X.A.units+1<cLine) (ho:PE X o td) (hi:PE X i ty) (hs:NoSl i):PE X (.Subscript o i pos) (tDGet td ty):=by
 intro pins s σ H Q I h
 refine subD_of PySem.F.slot_dict_getitem.lookup hs (thn (ho pins s σ H _ I h) fun u s1 ⟨x,H1,I1,rx,q1⟩=>thn (hi pins s1 σ H1 _ I1 q1) fun iv s2 ⟨y,H2,I2,ry,a,v,ex,g,q2⟩=>?_)
 subst ex
 obtain rfl:u=Value.ref a:=rx
 exact⟨dict_typeIs I2 g,d_getItem hu I2 g ry fun w' s3 I3 rw'=>⟨v,H2,I3,rw',q2⟩⟩
theorem ps_dput (hu:X.A.units+1<cLine) (ho:PE X o td) (hi:PE X i ty) (hv:PE X value tv) (hs:swapsWith value (some (.Subscript o i pos')) pos.line X.env=pure false) :
  PS X (.Assign [.Subscript o i pos'] value pos) (sDPut td ty tv):=by
 intro pins s σ H D I h
 refine wpAny_Assign_Subscript (thn (hv pins s σ H _ I h) fun r s1 ⟨v,H1,I1,rv,q1⟩=>thn (ho pins s1 σ H1 _ I1 q1) fun u s2 ⟨x,H2,I2,rx,q2⟩=>thn (hi pins s2 σ H2 _ I2 q2) fun iv s3 ⟨y,H3,I3,ry,a,H4,ex,g,q3⟩=>?_) hs
 subst ex
 obtain rfl:u=Value.ref a:=rx
 exact d_setItem hu I3 g ry rv fun s4 I4=>⟨σ,H4,I4,q3⟩
end
theorem dk_empty {P:Program} {w:World} {H:Hp} (h:Heap) (hb:sysModules<h.objs.size):ObjOk P w H (h.push { cls:= .type "dict", data:= .dict #[] }) h.objs.size (.dK []):=
 ⟨Nat.zero_le _,beq_eq_false_iff_ne.mpr (Ne.symm (Nat.ne_of_lt hb)),[], .nil,Heap.DictOf.new h⟩
def tDNewK:TE:=fun _ H Q=>∀ p,H p=none->Q (.ref p) (upd H p (.dK []))
section
variable {X:Cx} {pos:Pos}
theorem pe_dnewK:PE X (.Dict [] [] pos) tDNewK:=fun pins s σ H Q I h=>
 wpAny_Dict_empty ⟨.ref s.heap.objs.size,_,I.laid (a:=s.heap.objs.size) (o:= .dK []) (t':=s.toks) (fun _ _ q=>Heap.get?_push_of_some _ q) (Nat.le_refl _) (dk_empty s.heap I.big),rfl,h _ (I.hok.fresh (Nat.le_refl _))⟩
end
structure M2 (X:Cx) (o:Expr) (m:Str) (apos:Pos) (e f:Expr) (cpos:Pos):Prop where
 base:attributeBase o m X.env (eval o X.env)=eval o X.env
 few:((backTo cpos (starEach [e,f] X.env)).all (fun x=> !x.1) && (backToKw cpos (keywordEach [] X.env)).all (fun x=>x.1.isSome)
  && decide (([e,f]:List Expr).length+([]:List Keyword).length+(if ([]:List Keyword).isEmpty then 0 else 1)<30))=true
 line:(apos.endLine == cpos.line)=true
 trees:backTo cpos (starEach [e,f] X.env)=[(false,eval e X.env),(false,eval f X.env)]
def IsD (H:Hp) (a:Addr):Prop:=(∃ kvs,Rd H a (.dK kvs))\/∃ kvs,Rd H a (.dT kvs)
theorem isD_at {X:Cx} {pins:List (Addr × Obj)} {σ:St} {H:Hp} {s:Shared} {a:Addr} (I:Inv X pins σ H s) (d:IsD H a) :
  s.TypeIs (.ref a) "dict" /\ (∀ b,Value.ref a= .ref b->∃ ob,s.heap.get? b=some ob/\ob.dict=none)/\(a == sysModules)=false:=by
 rcases d with ⟨kvs,e⟩ | ⟨kvs,e⟩
 ·obtain⟨_,hd,vs,_,dd⟩:=dk_rd I.hok e
  refine⟨dd.typeIs,fun b q=>?_,hd⟩
  cases q
  obtain⟨ob,_,_,h1,h2,_⟩:=dd
  exact⟨ob,h1,h2.2.1⟩
 ·obtain⟨_,hd,xs,_,dd⟩:=dt_rd I.hok e
  refine⟨dd.typeIs,fun b q=>?_,hd⟩
  cases q
  obtain⟨ob,_,_,h1,h2,_⟩:=dd
  exact⟨ob,h1,h2.2.1⟩
section
variable {X:Cx} {pins:List (Addr × Obj)} {σ:St} {H:Hp} {s:Shared} {a:Addr} {y d:V} {u r:Value} {o:Option V} {A:Around} {E:Value->Shared->Prop}
theorem d_get2 {Q:Value->Shared->Prop} (hu:A.units+1<cLine) (I:Inv X pins σ H s) (g:DGet H a y o) (ry:RelV y u) (rd:RelV d r) (h:∀ w' s',Inv X pins σ H s'->RelV (o.getD d) w'->Q w' s') :
  wpAny (model X.prog X.w) A (call (.builtin "dict.get") [.ref a,u,r]) Q E s:=by
 rcases g with ⟨kvs,k,e,ey,l⟩ | ⟨kvs,k,b,e,ey,eb,l⟩
 ·subst ey
  obtain⟨z,hd,vs,rel,dd⟩:=dk_rd I.hok e
  refine call_meetsIn PySem.F.slot_dict_get dd.typeIs PySem.F.entry_dict_get (PySem.F.args_dict_get_3 _ _ _) (meets_dict_get_default (mixKind X.prog X.w) a (kV_is ry) hd r) ⟨_,dd.mapOf,h _ _ (I.tok _) ?_⟩
  rw[l]
  exact(rel.val k).getD rd
 ·subst ey
  cases (show u=Value.ref b from ry)
  obtain⟨z,hd,xs,rel,dd⟩:=dt_rd I.hok e
  refine call_meetsIn PySem.F.slot_dict_get dd.typeIs PySem.F.entry_dict_get (PySem.F.args_dict_get_3 _ _ _) (meetsH_dict_get_default (tupleKind (mixKind X.prog X.w)) a b hd r) ⟨tupleKind_room_in1 hu,k,xs,key_of I.hok eb,dd,h _ _ (I.tok _) ?_⟩
  rw[l]
  exact(rel.val k).getD rd
end
def tDGet2 (td ty tx:TE):TE:=fun σ H Q=>td σ H fun x H1=>∃ a,x= .ref a/\IsD H1 a/\ty σ H1 fun y H2=>tx σ H2 fun z H3=>∃ o,DGet H3 a y o/\Q (o.getD z) H3
section
variable {X:Cx} {o e f:Expr} {apos cpos:Pos} {td ty tx:TE}
theorem pe_dget2 (hu:X.A.units+1<cLine) (ho:PE X o td) (he:PE X e ty) (hf:PE X f tx) (m:M2 X o "get" apos e f cpos):PE X (.Call (.Attribute o "get" apos) [e,f] [] cpos) (tDGet2 td ty tx):=by
 intro pins s σ H Q I h
 refine wpAny_Call_method m.base m.few m.line PySem.F.plainAttrs_dict PySem.F.slot_dict_get PySem.F.type_dict_get (thn (ho pins s σ H _ I h) fun u s1 ⟨x,H1,I1,rx,a,ex,d,q1⟩=>?_)
 subst ex
 obtain rfl:u=Value.ref a:=rx
 obtain⟨t1,t2,_⟩:=isD_at I1 d
 refine⟨t1,t2,?_⟩
 rw[m.trees]
 refine Calls.callWith_builtin rfl (Calls.evalArgs_plain (Calls.spliced_cons (thn (he pins s1 σ H1 _ I1 q1) fun iv s2 ⟨y,H2,I2,ry,q2⟩=>
  Calls.spliced_cons (thn (hf pins s2 σ H2 _ I2 q2) fun fv s3 ⟨z,H3,I3,rz,ov,g,q3⟩=>Calls.spliced_nil ?_))))
 exact d_get2 hu I3 g ry rz fun w' s4 I4 rw'=>⟨_,H3,I4,rw',q3⟩
end
section
variable {X:Cx} {pins:List (Addr × Obj)} {σ:St} {H:Hp} {s:Shared} {a:Addr} {kvs:List (Key × V)} {A:Around} {E:Value->Shared->Prop}
end
section
variable {X:Cx} {pins:List (Addr × Obj)} {σ:St} {H:Hp} {s:Shared} {a:Addr} {y:V} {u:Value} {A:Around} {E:Value->Shared->Prop}
end
end L2
set_option maxRecDepth 100000
set_option linter.all false
set_option maxHeartbeats 1000000
set_option Elab.async false
namespace L9
open PySem PySem.Spec PyProof.Rows L2 L3 X8 M01 L6 L5 QL
section
variable {X:Cx}
theorem qe_dnewK {pos:Pos}:QE X (.Dict [] [] pos) tDNewK:=⟨pe_dnewK⟩
theorem qe_dget {i o:Expr} {ty td:TE} {pos:Pos} (hu:X.A.units+1<cLine) (ho:QE X o td) (hi:QE X i ty) (hs:NoSl i):QE X (.Subscript o i pos) (tDGet td ty):=⟨pe_dget hu ho.h hi.h hs⟩
theorem qs_dput {i o value:Expr} {ty td tv:TE} {pos pos':Pos} (hu:X.A.units+1<cLine) (ho:QE X o td) (hi:QE X i ty) (hv:QE X value tv) (hs:swapsWith value (some (.Subscript o i pos')) pos.line X.env=pure false) :
  QS X (.Assign [.Subscript o i pos'] value pos) (sDPut td ty tv):=⟨ps_dput hu ho.h hi.h hv.h hs⟩
def lcCheck (sc:Scope) (N:List Str) (scope:Scope) (x:Str) (fvs:List Str) (fidx:List Nat):Bool:=
 decide (∀ y∈scope.names,y.2≠ .cell) && decide (scope.kind= .function) && decide (∀ y∈scope.names,y.2= .local->scope.names.lookup y.1=some .local) && decide (scope.names.lookup x=some .local) && decide ((x :: fvs).Nodup) &&
  decide (fidx.length=fvs.length) && decide (∀ j∈List.range fvs.length,∃ y∈fvs[j]?,∃ i∈fidx[j]?,N[i]?=some y/\(sc.names.lookup y=some .cell\/sc.names.lookup y=some .free)/\scope.names.lookup y=some .free) &&
  decide (∀ p∈scope.names,p.2= .free->sc.names.lookup p.1=some .cell\/sc.names.lookup p.1=some .free)
theorem lc_mk {scope:Scope} {x:Str} {fvs:List Str} {fidx:List Nat} (sc:Scope) (N:List Str) (hX:X.env.scope=sc) (hN:X.N=N) (c:lcCheck sc N scope x fvs fidx=true):L8.LcOk X scope x fvs fidx:=by
 unfold lcCheck at c
 simp only[Bool.and_eq_true,decide_eq_true_eq] at c
 obtain⟨⟨⟨⟨⟨⟨⟨c1,c2⟩,c3⟩,c4⟩,c5⟩,c6⟩,c7⟩,c8⟩:=c
 refine⟨c1,c2,c3,c4,c5,⟨fun j y e=>?_,c6⟩,fun y hy=>?_⟩
 ·have hj:j<fvs.length:=(List.getElem?_eq_some_iff.mp e).1
  obtain⟨y',hy',i,hi,h1,h2,h3⟩:=c7 j (List.mem_range.mpr hj)
  have e1:fvs[j]?=some y':=hy'
  rw[e] at e1
  cases e1
  exact⟨i,hi,by rw[hN];exact h1,by rw[hX];exact h2,h3⟩
 ·have z:=c8 _ hy rfl
  rw[<- hX] at z
  exact z
end
end L9
set_option maxRecDepth 100000
set_option linter.all false
set_option maxHeartbeats 1000000
set_option Elab.async false
namespace L10
open PySem PySem.Spec PyProof.Rows L2 L3 X8 M01 L6 L5 QL
theorem sameUpd {H:Hp} {r:Addr} {o:HO} (h:H r=none):Same H (upd H r o):=fun b u e=>by rw[upd_ne (ne_of_none e h)];exact e
theorem lc_list {K:PySem.W.Frag} {a:Addr} {xs:List V} {te:TE} {fvals:L2.St} {don:List V->Hp->Prop} {H:Hp} (Pv:Nat->List V->Hp->Prop) (h0:Pv 0 [] H) (hl:∀ i ys H,i≤xs.length->Pv i ys H->SqL K H a xs/\ys.length<sizeLine)
  (hs:∀ i x ys H,xs[i]?=some x->Pv i ys H->te (some x :: fvals) H fun v H'=>Pv (i+1) (ys ++ [v]) H') (hd:∀ ys H,Pv xs.length ys H->don ys H):L8.LcW (Itl K a) fvals te don H:=by
 refine⟨fun i m ys H=>m=xs.length - i/\i≤xs.length/\Pv i ys H,⟨xs.length,by simp,Nat.zero_le _,h0⟩,?_⟩
 rintro i m ys H ⟨rfl,hi,p⟩
 obtain⟨q,z⟩:=hl i ys H hi p
 refine⟨z,?_⟩
 by_cases hlt:i<xs.length
 ·refine .inr ⟨⟨xs,xs[i],q,by simp[hlt]⟩,Pv (i+1),fun ys' H' p'=>⟨xs.length - (i+1),by (first|lia|omega),rfl,hlt,p'⟩,fun x H' y=>?_⟩
  obtain⟨e,y⟩:=y
  subst e
  exact hs i x ys _ (y xs q) p
 ·have e:i=xs.length:=by (first|lia|omega)
  subst e
  exact .inl ⟨⟨xs,q,Nat.le_refl _⟩,hd ys H p⟩
theorem lc_range {lo:Int} {n:Nat} {te:TE} {fvals:L2.St} {don:List V->Hp->Prop} {H:Hp} (Pv:Nat->List V->Hp->Prop) (h0:Pv 0 [] H) (hl:∀ i ys H,i≤n->Pv i ys H->ys.length<sizeLine)
  (hs:∀ i ys H,i<n->Pv i ys H->te (some (.int (lo+i)) :: fvals) H fun v H'=>Pv (i+1) (ys ++ [v]) H') (hd:∀ ys H,Pv n ys H->don ys H):L8.LcW (Itr lo n) fvals te don H:=by
 refine⟨fun i m ys H=>m=n - i/\i≤n/\Pv i ys H,⟨n,by simp,Nat.zero_le _,h0⟩,?_⟩
 rintro i m ys H ⟨rfl,hi,p⟩
 refine⟨hl i ys H hi p,?_⟩
 by_cases hlt:i<n
 ·refine .inr ⟨hlt,Pv (i+1),fun ys' H' p'=>⟨n - (i+1),by (first|lia|omega),rfl,hlt,p'⟩,fun x H' y=>?_⟩
  obtain⟨e,y⟩:=y
  subst e y
  exact hs i ys _ hlt p
 ·have e:i=n:=by (first|lia|omega)
  subst e
  exact .inl ⟨Nat.le_refl _,hd ys H p⟩
end L10
set_option maxRecDepth 100000
set_option linter.all false
set_option maxHeartbeats 1000000
set_option Elab.async false
namespace L11
open PySem PySem.Spec PyProof.Rows L2 L3 X8 M01 L6 L5 QL
section
variable {X:Cx} {tg:Expr}
end
end L11
set_option maxRecDepth 100000
set_option linter.all false
set_option maxHeartbeats 4000000
set_option Elab.async false
namespace X8
open PySem PySem.Spec PyProof.Rows L2
section
variable {X:Cx} {x:Str} {np hpos pos:Pos} {body suite:List Stmt} {b0:Stmt} {C S:Addr} {tb:(St->XK)->TS} {ts:TS}
end
end X8
set_option maxRecDepth 100000
set_option linter.all false
set_option maxHeartbeats 4000000
set_option Elab.async false
namespace PySem.SeqAt
open AutoSeq1 (wpAny_loadPart')
open MeetsSeq MeetsSeq2 MeetsSeq3 SeqRoads2
end PySem.SeqAt
namespace L13
open PySem PySem.Spec PyProof.Rows L2 L3 L6 X8 QL M01
section
variable {X:Cx}
end
section
variable {X:Cx} {CX:CXT} {k:Nat} {C:Addr} {ps:List Str} {sp:Sp} {E:XK} {m x:Str} {p apos pos:Pos} {o e:Expr} {es:List Expr} {ta:TE} {t:TA}
def DefD (P:Program) (w:World) (K:PySem.W.Frag) (mg:Str->Option Value) (base:Heap) (CX:CXT) (k:Nat) (x:Str) (ps:List Str) (d:Int) (sp:Sp):Prop:=
 ∃ f fd tk,FnOk P w K mg base CX k f fd ps sp/\Binds K fd ps []/\Binds K fd ps [.int d tk]/\mg x=some (.ref f)/\PySem.W.keepIn K (.ref f)=true
theorem DefD.all {P:Program} {w:World} {K:PySem.W.Frag} {mg:Str->Option Value} {base:Heap} {d:Int} (D:DefD P w K mg base CX k x ps d sp):Def P w K mg base CX k x ps sp:=by
 obtain⟨f,fd,tk,F,b,_,m,kp⟩:=D
 exact⟨f,fd,F,b,m,kp⟩
theorem qe_callDef {d:Int} (D:DefD X.prog X.w X.K X.mg X.base CX k x ps d sp) (hr:Room k X.A) (hg:Gl X x) (hx:Passes CX X E)
  (ha:QA X (e :: es) t) (hdb:(x == ("__debug__" : Str))=false:=by decide) (he:starEach (e :: es) X.env=(false,eval e X.env) :: starEach es X.env:=by rfl) (hpl:(backTo pos (starEach es X.env)).any (·.1)=false:=by rfl) :
  QE X (.Call (.Name x p) (e :: es) [] pos) (tCall sp [.int d] E t):=by
 obtain⟨f,fd,tk,F,_,b,m,kp⟩:=D
 exact⟨pe_call F hr hg m kp b (.cons ⟨tk,rfl⟩ .nil) hx ha.h hdb he hpl⟩
end
end L13
set_option maxRecDepth 100000
set_option linter.all false
set_option maxHeartbeats 1000000
set_option Elab.async false
namespace L20
open PySem PySem.Spec PyProof.Rows L2 L3 X8 M01 L6 L5 QL L8
abbrev St:=L2.St
abbrev tests (ev:Env) (ifs:List Expr):Sem Bool:=forIn ifs true fun c r=>if r=true then do let ok <- isTrue c ev (eval c ev);pure (ForInStep.yield ok) else pure (ForInStep.yield r)
theorem loop_own {prog:Program} {w:World} {A:Around} {R:Result->Shared->Prop} {s:Shared} {elt tg iter:Expr} {ifs:List Expr} {scope:Scope} {pos:Pos} {it acc:Value} {ev:Env} {NB:Value->Shared->Prop} (hNB:NB=notedBy (model prog w) A ev fun e s'=>R (.error e) s') (I:Nat->Shared->Prop)
  (turn:∀ n s,I n s->wpAny (model prog w) A (pyNext it) (fun r s1=>match r with
   | none=>R (.ok .next) s1
   | some v=>wpAny (model prog w) A (letOwnedTupleGo tg it v) (fun _ s1=>wpAny (model prog w) A (assign tg ev v) (fun _ s2=>wpAny (model prog w) A (tests ev ifs) (fun ok s3=>
      if ok=true then wpAny (model prog w) A (eval elt ev) (fun x s4=>wpAny (model prog w) A (call (.builtin "list.append") [acc,x]) (fun _ s5=>∃ m,m<n/\I m s5) NB s4) NB s3
      else ∃ m,m<n/\I m s3) NB s2) NB s1) NB s1) NB s)
  (n:Nat) (h:I n s):codeAny (model prog w) A (.compLoop (.ListComp elt [⟨tg,iter,ifs,0⟩] scope pos) 0 it acc ev) R s:=by
 subst hNB
 refine codeAny_loop rfl I (fun n s hn=>?_) n h
 show wpAny _ A ((compTurn (.ListComp elt [⟨tg,iter,ifs,0⟩] scope pos) 0 it acc ev).onRaise (fun x=>do noteFrame x ev;theTreesLotGoes x)) _ _ s
 refine wpAny_noted ?_
 rw[compTurn_list]
 refine wpAny_bind (wpAny_standAt (wpAny_bind (wpAny_mono (turn n s hn) (fun r s1 h1=>?_) fun _ _ z=>z)))
 cases r with
 | none=>exact wpAny_pure h1
 | some v=>
  refine wpAny_bind (wpAny_mono h1 (fun _ s1 h1=>?_) fun _ _ z=>z)
  refine wpAny_bind (wpAny_mono h1 (fun _ s2 h2=>wpAny_bind (wpAny_mono h2 (fun ok s3 h3=>?_) fun _ _ z=>z)) fun _ _ z=>z)
  cases ok with
  | false=>exact wpAny_pure ⟨rfl,h3⟩
  | true=>exact wpAny_bind (wpAny_bind (wpAny_mono h3 (fun x s4 h4=>wpAny_bind (wpAny_mono h4 (fun _ s5 h5=>wpAny_pure (wpAny_pure ⟨rfl,h5⟩)) fun _ _ z=>z)) fun _ _ z=>z))
section
variable {X:Cx} {pins:List (Addr × Obj)} {σ:St} {H2:Hp} {s2:Shared} {scope:Scope} {cl:List (Str × Addr)} {xs:List Str} {pos:Pos} {elt iter tg:Expr} {ifs:List Expr} {fvs:List Str} {fidx:List Nat} {te:TE} {tc:TT} {g:TG} {J:It} {fp:List Addr} {it:Addr} {tn:Nat->Heap->Prop}
 {RR:Value->Addr->Result->Shared->Prop} {E:Value->Shared->Prop}
theorem ok2 (I2:Inv X pins σ H2 s2) (hnex:X.ex=[]) (hfp:∀ b∈fp,FpOk X pins H2 b) (hex:∀ b∈fp,∃ o,s2.heap.get? b=some o) (cl0:Clo X scope cl) (hcell:∀ y∈scope.names,y.2≠ .cell) (hkind:scope.kind= .function) {NB:List Str} {C:Addr} (hC:s2.heap.objs.size≤C) :
  (cxB X NB scope cl C s2 H2 fp).Ok:=
 let z:=blk_ok (x:= "") (fvs:=[]) I2 hnex hfp hex cl0 hcell hkind hC
 ⟨z.mod,z.kind,z.glob,z.blt,z.above,z.inj,z.has,z.cab,z.hd,z.frames,z.stk,z.exf,z.bs,z.bsz,z.noex,z.exfs,z.funs,z.frf⟩
def st0 (xs:List Str) (σ:St) (fidx:List Nat):St:=xs.map (fun _=>none) ++ fv σ fidx
theorem inv2 {C:Addr} (I2:Inv X pins σ H2 s2) (ok:(cxB X (xs ++ fvs) scope cl C s2 H2 fp).Ok) (cl0:Clo X scope cl) (F:FvOk X scope fvs fidx) (hC:s2.heap.objs.size≤C) {h1:Heap} {tk:Nat} (k:∀ b o,s2.heap.get? b=some o->h1.get? b=some o)
  (hn:h1.Ns C fun _=>none):Inv (cxB X (xs ++ fvs) scope cl C s2 H2 fp) [] (st0 xs σ fidx) H2 { s2 with heap:=h1,toks:=tk } where
 ok:=ok
 os:=rfl
 bare:=I2.bare
 base:=Un.kept k
 loc:=by
  refine⟨_,hn,fun i y v e1 e2 e3=>?_⟩
  have e1:(xs ++ fvs)[i]?=some y:=e1
  unfold st0 at e2
  by_cases hi:i<xs.length
  ·rw[List.getElem?_append_left (by rw[List.length_map];exact hi),List.getElem?_map,List.getElem?_eq_getElem hi] at e2
   cases e2
  ·rw[List.getElem?_append_right (by rw[List.length_map];(first|lia|omega)),List.length_map] at e2
   rw[List.getElem?_append_right (by (first|lia|omega))] at e1
   generalize i - xs.length=j at e1 e2
   obtain⟨i0,f1,f2,f3,f4⟩:=F.at_ j y e1
   have e4:(σ[i0]?).join=some v:=by
    unfold fv at e2
    rw[List.getElem?_map,f1] at e2
    exact Option.some.inj e2
   have e5:σ[i0]?=some (some v):=by
    cases q:σ[i0]? with
    | none=>rw[q] at e4;cases e4
    | some z=>rw[q] at e4;exact congrArg some e4
   obtain⟨m,hnm,hl⟩:=I2.loc
   obtain⟨u,r,l⟩:=hl i0 y v f2 e5 (f3.elim (fun z=> .inr (.inl z)) fun z=> .inr (.inr z))
   refine⟨u,r, .inr ?_⟩
   rcases l with ⟨q,_⟩ | ⟨_,c,ec,o,ho,hd⟩
   ·rcases f3 with z | z
    ·have q2:X.env.scope.names.lookup y=some .local:=q
     rw[z] at q2;cases q2
    ·have q2:X.env.scope.names.lookup y=some .local:=q
     rw[z] at q2;cases q2
   ·obtain⟨c2,ec2⟩:=cl0.has y (lookup_mem f4)
    have:=cl0.sub y c2 ec2
    rw[ec] at this
    cases this
    refine⟨?_,c,ec2,o,k c o ho,hd⟩
    rcases e3 with z | z | z
    ·exfalso
     have z':(relabel scope X.env).names.lookup y=some .local:=z
     exact relabel_notlocal f4 z'
    ·exact .inl z
    ·exact .inr z
 cell:=fun y c e=>by
  obtain⟨v,o,ho,hd⟩:=I2.cell y c (cl0.sub y c e)
  exact⟨v,o,k c o ho,hd⟩
 free:=I2.hok.fresh hC
 freeC:=fun y c e=>I2.freeC y c (cl0.sub y c e)
 pin:=fun p hp=>nomatch hp
 hok:=I2.hok.kept k
 len:=by
  show (st0 xs σ fidx).length=(xs ++ fvs).length
  unfold st0 fv
  rw[List.length_append,List.length_append,List.length_map,List.length_map,F.len]
structure QF (X:Cx) (ifs:List Expr) (t:TT):Prop where
 h:∀ (pins:List (Addr × Obj)) (s:Shared) (σ:St) (H:Hp) (Q:Bool->Hp->Prop),Inv X pins σ H s->t σ H Q->wpAny (model X.prog X.w) X.A (tests X.env ifs) (TP X pins σ Q) X.xe s
def tNone:TT:=fun _ H Q=>Q true H
theorem qf_nil:QF X [] tNone:=⟨fun pins s σ H Q I h=>wpAny_tests_nil ⟨H,I,h⟩⟩
theorem qf_one {c:Expr} (h:QT X c tc):QF X [c] tc:=⟨fun pins s σ H Q I q=>wpAny_tests_one (h.h pins s σ H Q I q)⟩
def Sh (n:Nat) (fvals:St) (σt:St):Prop:=∃ l:St,l.length=n/\σt=l ++ fvals
def LcX (J:It) (n:Nat) (fvals:St) (g:TG) (tc:TT) (te:TE) (don:List V->Hp->Prop) (H1:Hp):Prop:=∃ W:Nat->Nat->List V->Hp->Prop,(∃ m,W 0 m [] H1)/\∀ i m ys H,W i m ys H->ys.length<sizeLine/\
 ((J.stop i H/\don ys H)\/(J.go i H/\∃ N:List V->Hp->Prop,(∀ ys' H',N ys' H'->∃ m',m'<m/\W (i+1) m' ys' H')/\
  ∀ x H',J.yld i H x H'->∀ σt,Sh n fvals σt->g x σt H' fun σ' H3=>tc σ' H3 fun b H4=>if b=true then te σ' H4 fun v H5=>N (ys ++ [v]) H5 else N ys H4))
def Keep (n:Nat) (fvals:St) (g:TG):Prop:=∀ x σt H Q,Sh n fvals σt->g x σt H Q->g x σt H fun σ' H'=>Sh n fvals σ'/\Q σ' H'
theorem blk2 {don:List V->Hp->Prop} (I2:Inv X pins σ H2 s2) (hnex:X.ex=[]) (hc:X.calm=true) (T:Turn X.prog X.w X.K tg J fp it tn) (tn0:tn 0 s2.heap) (hfp:∀ b∈fp,FpOk X pins H2 b) (cl0:Clo X scope cl) (F:FvOk X scope fvs fidx)
  (hcell:∀ y∈scope.names,y.2≠ .cell) (hkind:scope.kind= .function) (hg:∀ C s H ex,QG (cxB X (xs ++ fvs) scope cl C s H ex) tg g) (hq:∀ C s H ex,QF (cxB X (xs ++ fvs) scope cl C s H ex) ifs tc) (he:∀ C s H ex,QE (cxB X (xs ++ fvs) scope cl C s H ex) elt te) (hk:Keep xs.length (fv σ fidx) g) (hw:LcX J xs.length (fv σ fidx) g tc te don H2)
  (hRR:∀ D C s' H ys m,Inv X pins σ (upd H D (.lst ys)) s'->H D=none->s'.heap.Ns C m->FpOk X pins (upd H D (.lst ys)) C->don ys H->RR (.ref D) C (.ok .next) s') :
  wpAny (model X.prog X.w) X.A (newList []) (fun acc s3=>wpAny (model X.prog X.w) X.A (newFunctionEnv scope X.env.globals cl [] X.env.qual none .none (some X.env)) (fun cenv s4=>
   codeAny (model X.prog X.w) X.A (.compStart (.ListComp elt [⟨tg,iter,ifs,0⟩] scope pos) 0 (.ref it) acc { cenv with scope:=relabel scope X.env }) (RR acc cenv.locals) s4) E s3) E s2:=by
 refine wpAny_newObj_type (wpAny_newFunctionEnv hcell (by intro y hy;simp at hy) (fun h1 hns1 hsb1=>?_) hkind)
 dsimp only at hns1 hsb1 ⊢
 generalize hHD:s2.heap.push { cls:= .type "list", dict:=none,data:= .seq ([]:List Value).toArray }=HD at hns1 hsb1 ⊢
 have hC:HD.objs.size=s2.heap.objs.size+1:=by rw[<- hHD,Heap.size_push]
 have hDC:s2.heap.objs.size≠HD.objs.size:=by rw[hC];exact Nat.ne_of_lt (Nat.lt_succ_self _)
 have old:∀ b o,s2.heap.get? b=some o->h1.get? b=some o:=fun b o e=>hsb1.extBut b o (by rw[hC];exact Nat.ne_of_lt (Nat.lt_succ_of_lt (Heap.lt_size e))) (Heap.get?_push_of_some _ (hHD ▸ Heap.get?_push_of_some _ e))
 have hacc:h1.get? s2.heap.objs.size=some (L8.lobj [] 0):=hsb1.extBut _ _ hDC (Heap.get?_push_of_some _ (hHD ▸ Heap.get?_push_size _ rfl))
 have hex:∀ b∈fp,∃ o,s2.heap.get? b=some o:=fun b hb=>let ⟨o,e,_⟩:=T.obj 0 _ tn0 b hb;⟨o,e⟩
 have hC2:s2.heap.objs.size≤HD.objs.size:=by rw[hC];exact Nat.le_succ _
 have ok:(cxB X (xs ++ fvs) scope cl HD.objs.size s2 H2 fp).Ok:=ok2 I2 hnex hfp hex cl0 hcell hkind hC2
 have I4:Inv (cxB X (xs ++ fvs) scope cl HD.objs.size s2 H2 fp) [] (st0 xs σ fidx) H2 { s2 with heap:=h1,toks:=s2.toks+([]:List (Str × Value)).length }:=inv2 I2 ok cl0 F hC2 old hns1
 have hg':=hg HD.objs.size s2 H2 fp
 have hq':=hq HD.objs.size s2 H2 fp
 have he':=he HD.objs.size s2 H2 fp
 generalize hXB:cxB X (xs ++ fvs) scope cl HD.objs.size s2 H2 fp=XB at ok I4 hg' hq' he'
 have eP:XB.prog=X.prog:=by rw[<- hXB];rfl
 have eW:XB.w=X.w:=by rw[<- hXB];rfl
 have eK:XB.K=X.K:=by rw[<- hXB];rfl
 have eA:XB.A=X.A:=by rw[<- hXB];rfl
 have eE:XB.env=compEnvC scope cl HD.objs.size X.env:=by rw[<- hXB];rfl
 have eL:XB.env.locals=HD.objs.size:=by rw[eE];rfl
 have eS:XB.s₀=s2:=by rw[<- hXB];rfl
 have eX:XB.ex=fp:=by rw[<- hXB];rfl
 have eF:XB.fs=frs X.stack:=by rw[<- hXB];rfl
 have ePn:XB.pn=[]:=by rw[<- hXB];rfl
 have eH:XB.H₀=H2:=by rw[<- hXB];rfl
 have eCc:XB.calm=true:=by rw[<- hXB];exact hc
 have eXe:XB.xe=fun _ _=>False:=by rw[<- hXB];rfl
 have eCl:XB.env.cells=cl:=by rw[eE];rfl
 have hD0:∀ y c,XB.env.cells.lookup y=some c->c≠s2.heap.objs.size:=fun y c e=>by
  rw[eCl] at e
  obtain⟨v,o,ho,_⟩:=I2.cell y c (cl0.sub y c e)
  exact Nat.ne_of_lt (Heap.lt_size ho)
 have hDfs:s2.heap.objs.size ∉ XB.fs:=by
  rw[eF]
  intro z
  rcases List.mem_cons.mp (I2.stkSub _ z) with q | q
  ·exact absurd I2.lt (by rw[<- q];exact Nat.lt_irrefl _)
  ·exact I2.nofs (Nat.le_refl _) q
 have stat:∀ {H:Hp} {pp:List (Addr × Obj)},(∀ b∈fp,H b=none)->(∀ p∈pp,p.1=s2.heap.objs.size)->∀ b∈fp,FpOk XB pp H b:=fun {H pp} hn hp b hb=>by
  obtain⟨o,e⟩:=hex b hb
  refine⟨hn b hb,by rw[eL,hC];exact Nat.ne_of_lt (Nat.lt_succ_of_lt (Heap.lt_size e)),?_, .inl (by rw[eX];exact hb),fun y c q=>?_,fun p hpp z=>?_⟩
  ·rw[eF]
   intro z
   rcases List.mem_cons.mp (I2.stkSub b z) with q | q
   ·exact(hfp b hb).2.1 q
   ·exact(hfp b hb).2.2.1 q
  ·rw[eCl] at q
   exact(hfp b hb).2.2.2.2.1 y c (cl0.sub y c q)
  ·rw[ePn,List.nil_append] at hpp
   rw[hp p hpp] at z
   exact absurd (Heap.lt_size e) (by rw[<- z];exact Nat.lt_irrefl _)
 obtain⟨W,⟨m0,w0⟩,turn⟩:=hw
 let Inw:Nat->Shared->Prop:=fun n s=>∃ i ys its k σt H,Inv XB [(s2.heap.objs.size,L8.lobj its k)] σt H s/\Vals ys its/\tn i s.heap/\(∀ b∈fp,H b=none)/\Sh xs.length (fv σ fidx) σt/\W i n ys H
 have I40:Inv XB [(s2.heap.objs.size,L8.lobj [] 0)] (st0 xs σ fidx) H2 { s2 with heap:=h1,toks:=s2.toks+([]:List (Str × Value)).length }:=I4.pins_of fun p hp=>by
  have e:p=(s2.heap.objs.size,L8.lobj [] 0):=by simpa using hp
  subst e
  exact⟨hacc,I2.hok.fresh (Nat.le_refl _),by rw[eL];exact hDC,hDfs,fun v z=>by cases z⟩
 have start:Inw m0 { s2 with heap:=h1,toks:=s2.toks+([]:List (Str × Value)).length }:=⟨0,[],[],0,_,H2,I40, .nil,T.keep _ _ _ tn0 fun b _ o e=>old b o e,fun b hb=>(hfp b hb).1,⟨_,by rw[List.length_map],rfl⟩,w0⟩
 have hDlt:∀ b∈fp,b≠s2.heap.objs.size:=fun b hb=>let ⟨o,e⟩:=hex b hb;Nat.ne_of_lt (Heap.lt_size e)
 have pd:∀ {o:Obj} (p:Addr × Obj),p∈[(s2.heap.objs.size,o)]->p.1=s2.heap.objs.size:=fun p hp=>by
  rw[List.mem_singleton.mp hp]
 have fin:∀ s1 H ys its k σt,Inv XB [(s2.heap.objs.size,L8.lobj its k)] σt H s1->Vals ys its->ys.length<sizeLine->don ys H->RR (.ref s2.heap.objs.size) HD.objs.size (.ok .next) s1:=fun s1 H ys its k σt I rv hz dn=>by
  have un:Un (frs X.stack) fp H2 H s2.heap s1.heap:=by
   have z:=I.base
   rw[eF,eX,eH,eS] at z
   exact z
  have os:s1.os=s2.os:=by
   have z:=I.os
   rw[eS] at z
   exact z
  have hok:HOk X.prog X.w H s1.heap:=by
   have z:=I.hok
   rw[eP,eW] at z
   exact z
  have J1:Inv X pins σ H s1:=I2.call' os un hok I.bare fun b hb=>⟨by
   rcases(hfp b hb).2.2.2.1 with z | z
   ·exact .inl z
   ·exact .inr z,(hfp b hb).2.1,(hfp b hb).2.2.2.2.1,(hfp b hb).2.2.2.2.2⟩
  obtain⟨q1,q2,_⟩:=I.pin (s2.heap.objs.size,L8.lobj its k) (by rw[ePn];simp)
  have J2:Inv X pins σ (upd H s2.heap.objs.size (.lst ys)) s1:=Inv.track J1 (I2.fpOk (Nat.le_refl _) q2) hnex (show ObjOk X.prog X.w _ s1.heap _ (.lst ys) from⟨Nat.le_of_lt hz,its,k,rv,q1⟩)
  obtain⟨m,hn,_⟩:=I.loc
  rw[eL] at hn
  refine hRR _ _ s1 H ys m J2 q2 hn (I2.fpOk hC2 ?_) dn
  rw[upd_ne (Ne.symm hDC)]
  have z:=I.free
  rw[eL] at z
  exact z
 have loop:∀ s₃:Shared,s₃= { s2 with heap:=h1,toks:=s2.toks+([]:List (Str × Value)).length }->
   codeAny (model X.prog X.w) X.A (.compLoop (.ListComp elt [⟨tg,iter,ifs,0⟩] scope pos) 0 (.ref it) (.ref s2.heap.objs.size) (compEnvC scope cl HD.objs.size X.env)) (RR (.ref s2.heap.objs.size) HD.objs.size) s₃:=by
  rintro s₃ rfl
  rw[<- eE]
  refine loop_own rfl Inw ?_ m0 start
  rintro n s ⟨i,ys,its,k,σt,H,I,rv,st,fr,sh,wt⟩
  obtain⟨hsz,tr⟩:=turn i n ys H wt
  rcases tr with ⟨stop,dn⟩ | ⟨go,N,hN,step⟩
  ·have Td:=T.done XB eP eW eK eCc i _ s _ H (notedBy (model X.prog X.w) X.A XB.env fun e s'=>RR (.ref s2.heap.objs.size) HD.objs.size (.error e) s') I (stat fr pd) st stop
   rw[eA] at Td
   refine wpAny_mono Td (fun r s1 ⟨hr,I1⟩=>?_) fun _ _ e=>e
   subst hr
   exact fin s1 H ys its k σt I1 rv hsz dn
  ·have Ti:=T.item XB eP eW eK eCc i _ s _ H (notedBy (model X.prog X.w) X.A XB.env fun e s'=>RR (.ref s2.heap.objs.size) HD.objs.size (.error e) s') I (stat fr pd) st go
   rw[eA] at Ti
   refine wpAny_mono Ti (fun r s1 ⟨u,hr,h4⟩=>?_) fun _ _ e=>e
   subst hr
   dsimp only
   refine wpAny_mono h4 (fun _ s5 ⟨v,H5,I5,r5,y5,st5,fr5⟩=>?_) fun _ _ e=>e
   have I5':=I5.pinned (stat fr5 pd) (T.obj _ _ st5)
   have h6:=hg'.h _ s5 _ H5 v u _ I5' r5 (hk v σt H5 _ sh (step v H5 y5 σt sh))
   rw[eP,eW,eA,eXe] at h6
   refine wpAny_mono h6 (fun _ s6 ⟨σ6,H6,I6,sh6,q6⟩=>?_) fun _ _ z=>z.elim
   have h7:=hq'.h _ s6 _ H6 _ I6 q6
   rw[eP,eW,eA,eXe] at h7
   have again:∀ (sz:Shared) (Hz:Hp) (ys':List V) (its':List Value) (k':Nat),Inv XB ([(s2.heap.objs.size,L8.lobj its' k')] ++ pinsAt fp s5.heap) σ6 Hz sz->Vals ys' its'->N ys' Hz->∃ m,m<n/\Inw m sz:=fun sz Hz ys' its' k' Iz rz nz=>by
    obtain⟨m',hm,w'⟩:=hN _ _ nz
    have fpin:∀ b∈fp,∀ o,s5.heap.get? b=some o->sz.heap.get? b=some o/\Hz b=none:=fun b hb o e=>
     let z:=Iz.pin (b,o) (List.mem_append_right _ (List.mem_append_right _ (mem_pinsAt hb e)));⟨z.1,z.2.1⟩
    refine⟨m',hm,i+1,ys',its',k',σ6,Hz,Iz.unpinned,rz,T.keep _ _ _ st5 fun b hb o e=>(fpin b hb o e).1,fun b hb=>?_,sh6,w'⟩
    obtain⟨o,e,_⟩:=T.obj _ _ st5 b hb
    exact(fpin b hb o e).2
   refine wpAny_mono h7 (fun ok s7 ⟨H7,I7,q7⟩=>?_) fun _ _ z=>z.elim
   cases ok with
   | false=>
    rw[if_neg (by decide)] at q7 ⊢
    exact again s7 H7 ys its k I7 rv q7
   | true=>
    rw[if_pos rfl] at q7 ⊢
    have h8:=he'.h _ s7 _ H7 _ I7 q7
    rw[eP,eW,eA,eXe] at h8
    refine wpAny_mono h8 (fun u7 s8 ⟨v8,H8,I8,r8,n8⟩=>?_) fun _ _ z=>z.elim
    obtain⟨q1,q2,q3,q4,q5⟩:=I8.pin (s2.heap.objs.size,L8.lobj its k) (by rw[ePn];simp)
    refine append_at (hsz:=by rw[List.size_toArray, <- rv.length];exact Nat.le_of_lt hsz) q1 fun h9 hs9 hD9=>?_
    have I8a:Inv XB (pinsAt fp s5.heap) σ6 H8 s8:=I8.pins_of fun p hp=>I8.pin p (List.mem_append_right _ (List.mem_append_right _ hp))
    have pne:∀ p∈XB.pn ++ pinsAt fp s5.heap,p.1≠s2.heap.objs.size:=fun p hp=>by
     rw[ePn,List.nil_append] at hp
     exact hDlt _ (of_pinsAt hp).1
    have I9:Inv XB (pinsAt fp s5.heap) σ6 H8 { s8 with heap:=h9 }:=I8a.turned (t':=s8.toks) (fun b o hb e=>hs9.extBut b o hb e) q2 q3 (.inr (by rw[eS];exact Nat.le_refl _)) hD0 pne
    refine again _ H8 (ys ++ [v8]) (its ++ [u7]) (k+1) (I9.pins_of fun p hp=>?_) (rv.append (.cons r8 .nil)) n8
    rcases List.mem_append.mp hp with z | z
    ·have e:p=(s2.heap.objs.size,L8.lobj (its ++ [u7]) (k+1)):=by simpa using z
     subst e
     refine⟨?_,q2,q3,q4,fun v z=>by cases z⟩
     rw[hD9]
     simp
    ·exact I9.pin p (List.mem_append_right _ z)
 exact codeAny_compStart_list (loop _ rfl) (T.self _ 0 _ _ _ (T.keep _ _ _ tn0 fun b _ o e=>old b o e) (loop _ rfl))
structure LcOk2 (X:Cx) (scope:Scope) (xs:List Str) (fvs:List Str) (fidx:List Nat):Prop where
 cell:∀ y∈scope.names,y.2≠ .cell
 kind:scope.kind= .function
 names:∀ y∈scope.names,y.2= .local->scope.names.lookup y.1=some .local
 hx:∀ x∈xs,scope.names.lookup x=some .local
 nd:(xs ++ fvs).Nodup
 hfv:FvOk X scope fvs fidx
 free:∀ y,(y,NameKind.free)∈scope.names->X.env.kindOf y=some .cell\/X.env.kindOf y=some .free
def lcCheck2 (sc:Scope) (N:List Str) (scope:Scope) (xs:List Str) (fvs:List Str) (fidx:List Nat):Bool:=
 decide (∀ y∈scope.names,y.2≠ .cell) && decide (scope.kind= .function) && decide (∀ y∈scope.names,y.2= .local->scope.names.lookup y.1=some .local) && decide (∀ x∈xs,scope.names.lookup x=some .local) && decide ((xs ++ fvs).Nodup) &&
  decide (fidx.length=fvs.length) && decide (∀ j∈List.range fvs.length,∃ y∈fvs[j]?,∃ i∈fidx[j]?,N[i]?=some y/\(sc.names.lookup y=some .cell\/sc.names.lookup y=some .free)/\scope.names.lookup y=some .free) &&
  decide (∀ p∈scope.names,p.2= .free->sc.names.lookup p.1=some .cell\/sc.names.lookup p.1=some .free)
theorem lc_mk2 (sc:Scope) (N:List Str) (hX:X.env.scope=sc) (hN:X.N=N) (c:lcCheck2 sc N scope xs fvs fidx=true):LcOk2 X scope xs fvs fidx:=by
 unfold lcCheck2 at c
 simp only[Bool.and_eq_true,decide_eq_true_eq] at c
 obtain⟨⟨⟨⟨⟨⟨⟨c1,c2⟩,c3⟩,c4⟩,c5⟩,c6⟩,c7⟩,c8⟩:=c
 refine⟨c1,c2,c3,c4,c5,⟨fun j y e=>?_,c6⟩,fun y hy=>?_⟩
 ·have hj:j<fvs.length:=(List.getElem?_eq_some_iff.mp e).1
  obtain⟨y',hy',i,hi,h1,h2,h3⟩:=c7 j (List.mem_range.mpr hj)
  have e1:fvs[j]?=some y':=hy'
  rw[e] at e1
  cases e1
  exact⟨i,hi,by rw[hN];exact h1,by rw[hX];exact h2,h3⟩
 ·have z:=c8 _ hy rfl
  rw[<- hX] at z
  exact z
def tLCX (wi:TI) (xs:List Str) (fidx:List Nat) (g:TG) (tc:TT) (te:TE):TE:=fun σ H Q=>wi σ H fun J H1=>LcX J xs.length (fv σ fidx) g tc te (fun ys H=>∀ D,H D=none->Q (.ref D) (upd H D (.lst ys))) H1
theorem qe_lcX (L:LcOk2 X scope xs fvs fidx) (hnex:X.ex=[]) (hc:X.calm=true) {wi:TI} (hi:QI X tg iter wi) (hg:∀ cl C s H ex,QG (cxB X (xs ++ fvs) scope cl C s H ex) tg g) (hq:∀ cl C s H ex,QF (cxB X (xs ++ fvs) scope cl C s H ex) ifs tc) (he:∀ cl C s H ex,QE (cxB X (xs ++ fvs) scope cl C s H ex) elt te) (hk:∀ fvals,Keep xs.length fvals g)
  (hs:∀ z,foldedSetIterable iter X.env z=pure z:=by intro _;rfl):QE X (.ListComp elt [⟨tg,iter,ifs,0⟩] scope pos) (tLCX wi xs fidx g tc te):=by
 refine⟨fun pins s σ H Q I h=>?_⟩
 obtain⟨cl,cl0⟩:=clo_mk (X:=X) (scope:=scope) fun y hy=>I.ok.has y (L.free y hy)
 rw[eval_ListComp]
 refine wpAny_comprehension_free (use:=none) rfl hs cl0.eq L.kind L.names (wpAny_mono (hi.h pins s σ H _ I h) (fun v s1 h1=>wpAny_mono h1 (fun itv s2 h2=>?_) fun _ _ e=>e) fun _ _ e=>e)
 obtain⟨it,fp,tn,J,H2,e,I2,T,st2,f2,hw⟩:=h2
 subst e
 refine blk2 (RR:=fun acc C=>compPost (model X.prog X.w) X.A X.xe none (EP X pins σ Q) acc C) I2 hnex hc T st2 f2 cl0 L.hfv L.cell L.kind (hg cl) (hq cl) (he cl) (hk _) hw fun D C s' H' ys m J1 hD hn fC dn=>?_
 refine⟨m,hn,fun h' hs'=>?_⟩
 obtain⟨c0,c1,c2,c3,c4,c5⟩:=fC
 exact⟨.ref D,_,J1.turned (t':=s'.toks) (fun b o hb e=>hs'.extBut b o hb e) c0 c1 c3 c4 c5,rfl,dn D hD⟩
theorem qs_lcX (L:LcOk2 X scope xs fvs fidx) (hnex:X.ex=[]) (hc:X.calm=true) {j:Nat} {y:Str} {py spos:Pos} (hN:X.N.Nodup) (hj:X.N[j]?=some y) (hy:X.env.scope.names.lookup y=some .local) {wi:TI} (hi:QI X tg iter wi)
  (hg:∀ cl C s H ex,QG (cxB X (xs ++ fvs) scope cl C s H ex) tg g) (hq:∀ cl C s H ex,QF (cxB X (xs ++ fvs) scope cl C s H ex) ifs tc) (he:∀ cl C s H ex,QE (cxB X (xs ++ fvs) scope cl C s H ex) elt te) (hk:∀ fvals,Keep xs.length fvals g)
  (hsw:swapsWith (.ListComp elt [⟨tg,iter,ifs,0⟩] scope pos) (some (.Name y py)) spos.line X.env=pure true:=by rfl)
  (hs:∀ z,foldedSetIterable iter X.env z=pure z:=by intro _;rfl):QS X (.Assign [.Name y py] (.ListComp elt [⟨tg,iter,ifs,0⟩] scope pos) spos) (fun D σ H=>tLCX wi xs fidx g tc te σ H fun v H'=>D.nx (σ.set j (some v)) H'):=by
 refine⟨fun pins s σ H D I h=>?_⟩
 obtain⟨cl,cl0⟩:=clo_mk (X:=X) (scope:=scope) fun y hy=>I.ok.has y (L.free y hy)
 rw[exec_Assign_Name_used _ _ _ _ hsw]
 refine wpAny_bind (wpAny_standAt (wpAny_bind ?_))
 show wpAny _ X.A (do let _ <- comprehension (.ListComp elt [⟨tg,iter,ifs,0⟩] scope pos) scope X.env _ (newList []) false (eval iter X.env) (some (assign (.Name y py) X.env))) _ _ s
 refine wpAny_bind (wpAny_mono (wpAny_comprehension_free (use:=some (assign (.Name y py) X.env)) (Q:=fun _ s'=>SP X pins D .next s') rfl hs cl0.eq L.kind L.names (wpAny_mono (hi.h pins s σ H _ I h) (fun v s1 h1=>wpAny_mono h1 (fun itv s2 h2=>?_) fun _ _ e=>e) fun _ _ e=>e)) (fun _ s' hq=>wpAny_pure (wpAny_pure hq)) fun _ _ e=>e)
 obtain⟨it,fp,tn,J,H2,e,I2,T,st2,f2,hw⟩:=h2
 subst e
 refine blk2 (RR:=fun acc C=>compPost (model X.prog X.w) X.A X.xe (some (assign (.Name y py) X.env)) (fun _ s'=>SP X pins D .next s') acc C) I2 hnex hc T st2 f2 cl0 L.hfv L.cell L.kind (hg cl) (hq cl) (he cl) (hk _) hw fun D1 C s' H' ys m J1 hD hn fC dn=>?_
 show wpAny _ X.A (assign (.Name y py) X.env (.ref D1)) _ _ _
 refine wpAny_assign_Name (store_ok2 J1 hN hj (.inl hy) (show RelV (.ref D1) (.ref D1) from rfl) (fun s3 J3 ch=>?_) (.inr hy))
 obtain⟨c0,c1,c2,c3,c4,c5⟩:=fC
 obtain⟨a,sb,ha⟩:=ch
 have neC:C≠a:=fun z=>by
  rcases ha with q | q
  ·exact c1 (z.trans q)
  ·exact c4 _ _ q z.symm
 refine⟨m,hn.sameBut sb neC,fun h' hs'=>?_⟩
 exact⟨_,_,J3.turned (t':=s3.toks) (fun b o hb e=>hs'.extBut b o hb e) c0 c1 c3 c4 c5,dn D1 hD⟩
abbrev gPair (K:PySem.W.Frag):TG:=gTup K 2 (gCons (gName 0) (gCons (gName 1) gNil))
theorem qg_pair {x y:Str} {px py tp:Pos} {kt:Nat} (hc:X.calm=true) (L:LcOk2 X scope [x,y] fvs fidx) {C:Addr} {s:Shared} {H:Hp} {ex:List Addr}:QG (cxB X ([x,y] ++ fvs) scope cl C s H ex) (.Tuple [.Name x px, .Name y py] kt tp) (gPair X.K):=by
 have l1:(cxB X ([x,y] ++ fvs) scope cl C s H ex).env.scope.names.lookup x=some .local:=lookup_relabel_local (L.hx x (by simp))
 have l2:(cxB X ([x,y] ++ fvs) scope cl C s H ex).env.scope.names.lookup y=some .local:=lookup_relabel_local (L.hx y (by simp))
 exact qg_tup (X:=cxB X ([x,y] ++ fvs) scope cl C s H ex) hc (qgs_cons (qg_name (i:=0) L.nd rfl (.inl l1) (.inr l1)) (qgs_cons (qg_name (i:=1) L.nd rfl (.inl l2) (.inr l2)) qgs_nil))
theorem qg_one {x:Str} {px:Pos} (L:LcOk2 X scope [x] fvs fidx) {C:Addr} {s:Shared} {H:Hp} {ex:List Addr}:QG (cxB X ([x] ++ fvs) scope cl C s H ex) (.Name x px) (gName 0):=by
 have l1:(cxB X ([x] ++ fvs) scope cl C s H ex).env.scope.names.lookup x=some .local:=lookup_relabel_local (L.hx x (by simp))
 exact qg_name (i:=0) L.nd rfl (.inl l1) (.inr l1)
theorem keep_pair {K:PySem.W.Frag} {fvals:St}:Keep 2 fvals (gPair K):=by
 rintro x σt H Q ⟨l,hl,rfl⟩ ⟨a,xs,e1,e2,e3,v,r,e4,w,r2,e5,e6,q⟩
 match l,hl with
 | [u0,v0],_=>exact⟨a,xs,e1,e2,e3,v,r,e4,w,r2,e5,e6,⟨[some v,some w],rfl,rfl⟩,q⟩
theorem keep_one {fvals:St}:Keep 1 fvals (gName 0):=by
 rintro x σt H Q ⟨l,hl,rfl⟩ q
 match l,hl with
 | [u0],_=>exact⟨⟨[some x],rfl,rfl⟩,q⟩
theorem pairs_of {K:PySem.W.Frag} {J:It} (n:Nat) {fvals:St} {tc:TT} {te:TE} {don:List V->Hp->Prop} {H:Hp} (Pv:Nat->List V->Hp->Prop) (h0:Pv 0 [] H)
  (hl:∀ i ys H,i≤n->Pv i ys H->ys.length<sizeLine/\((i<n->J.go i H)/\(i=n->J.stop i H)))
  (hs:∀ i x ys H H',i<n->Pv i ys H->J.yld i H x H'->∃ p u v,x= .ref p/\SqT K H' p [u,v]/\tc (some u :: some v :: fvals) H' fun b H3=>if b=true then te (some u :: some v :: fvals) H3 fun w H4=>Pv (i+1) (ys ++ [w]) H4 else Pv (i+1) ys H3)
  (hd:∀ ys H,Pv n ys H->don ys H):LcX J 2 fvals (gPair K) tc te don H:=by
 refine⟨fun i m ys H=>m=n - i/\i≤n/\Pv i ys H,⟨n,by simp,Nat.zero_le _,h0⟩,?_⟩
 rintro i m ys H ⟨rfl,hi,p⟩
 obtain⟨l1,l2,l3⟩:=hl i ys H hi p
 refine⟨l1,?_⟩
 by_cases hlt:i<n
 ·refine .inr ⟨l2 hlt,fun ys' H'=>Pv (i+1) ys' H',fun ys' H' p'=>⟨n - (i+1),by (first|lia|omega),rfl,hlt,p'⟩,fun x H' y σt sh=>?_⟩
  obtain⟨l,hl2,rfl⟩:=sh
  obtain⟨a,u,v,e,sq,q⟩:=hs i x ys H H' hlt p y
  match l,hl2 with
  | [u0,v0],_=>exact⟨a,[u,v],e,sq,rfl,u,[v],rfl,v,[],rfl,rfl,q⟩
 ·have e:i=n:=by (first|lia|omega)
  subst e
  exact .inl ⟨l3 rfl,hd ys H p⟩
theorem pairs_list {K:PySem.W.Frag} {a:Addr} (ps:List V) {fvals:St} {tc:TT} {te:TE} {don:List V->Hp->Prop} {H:Hp} (Pv:Nat->List V->Hp->Prop) (h0:Pv 0 [] H)
  (hl:∀ i ys H,i≤ps.length->Pv i ys H->ys.length<sizeLine/\SqL K H a ps)
  (hs:∀ i x ys H,ps[i]?=some x->Pv i ys H->∃ p u v,x= .ref p/\SqT K H p [u,v]/\tc (some u :: some v :: fvals) H fun b H3=>if b=true then te (some u :: some v :: fvals) H3 fun w H4=>Pv (i+1) (ys ++ [w]) H4 else Pv (i+1) ys H3)
  (hd:∀ ys H,Pv ps.length ys H->don ys H):LcX (Itl K a) 2 fvals (gPair K) tc te don H:=by
 refine pairs_of ps.length Pv h0 (fun i ys H hi p=>⟨(hl i ys H hi p).1,fun hlt=>?_,fun e=>?_⟩) (fun i x ys H H' hi p y=>?_) hd
 ·exact⟨ps,ps[i],(hl i ys H hi p).2,by simp[hlt]⟩
 ·exact⟨ps,(hl i ys H hi p).2,by (first|lia|omega)⟩
 ·obtain⟨e,y⟩:=y
  subst e
  exact hs i x ys _ (y ps (hl i ys _ (Nat.le_of_lt hi) p).2) p
end
end L20
namespace M11
open M01
def Sz (n:Nat) (z:Int):Prop:=z.natAbs<2 ^ n
theorem Sz.mul {a b:Nat} {x y:Int} (h:Sz a x) (k:Sz b y):Sz (a+b) (x * y):=by
 unfold Sz at *
 rw[Int.natAbs_mul,Nat.pow_add]
 exact Nat.mul_lt_mul'' h k
theorem Sz.mono {a b:Nat} {x:Int} (h:Sz a x) (k:a≤b):Sz b x:=Nat.lt_of_lt_of_le h (Nat.pow_le_pow_right (by decide) k)
theorem Sz.big {a:Nat} {x:Int} (h:Sz a x) (k:a≤4000):Big x:=Nat.lt_of_lt_of_le h (Nat.pow_le_pow_right (by decide) k)
theorem Sz.le {a:Nat} {x y:Int} (h:Sz a x) (k:y.natAbs≤x.natAbs):Sz a y:=Nat.lt_of_le_of_lt k h
structure Low (a b:Int):Prop where
 pos:0<b
 cop:gz (ab a) b=1
theorem Low.gcd {a b:Int} (h:Low a b):((Int.gcd a b:Nat):Int)=1:=by
 have e:=h.cop
 have p:=h.pos
 unfold gz at e
 rw[ab_nat,show b.toNat=b.natAbs from by (first|lia|omega)] at e
 exact e
structure Fq (a b x y:Int):Prop where
 low:Low a b
 eq:a * y=x * b
 szt:a.natAbs≤x.natAbs
 szb:b.natAbs≤y.natAbs
theorem fq (x:Int) {y:Int} (h:0<y):Fq (ft x y) (fb x y) x y:=
 have h0:y≠0:=by (first|lia|omega)
 ⟨⟨by have:=fb_pos (t:=x) h0;(first|lia|omega),M01.cop h0⟩,cross x y,ft_le h0,fb_le h0⟩
theorem cancel {a b c:Int} (h:c≠0) (e:a * c=b * c):a=b:=Int.eq_of_mul_eq_mul_right h e
theorem Low.nat {a b:Int} (h:Low a b):Nat.Coprime a.natAbs b.natAbs:=by
 have e:=h.gcd
 have e2:((Nat.gcd a.natAbs b.natAbs:Nat):Int)=1:=e
 show Nat.gcd a.natAbs b.natAbs=1
 (first|lia|omega)
theorem Low.uniq {a b c d:Int} (h:Low a b) (k:Low c d) (e:a * d=c * b):a=c/\b=d:=by
 have en:a.natAbs * d.natAbs=c.natAbs * b.natAbs:=by rw[<- Int.natAbs_mul, <- Int.natAbs_mul,e]
 have d1:b.natAbs ∣ d.natAbs:=h.nat.symm.dvd_of_dvd_mul_left (en ▸ Nat.dvd_mul_left _ _)
 have d2:d.natAbs ∣ b.natAbs:=k.nat.symm.dvd_of_dvd_mul_left (en ▸ Nat.dvd_mul_left _ _)
 have p1:=h.pos
 have p2:=k.pos
 have eb:b=d:=by
  have:=Nat.dvd_antisymm d1 d2
  (first|lia|omega)
 subst eb
 exact⟨cancel (by (first|lia|omega)) e,rfl⟩
end M11
set_option maxRecDepth 100000
set_option linter.all false
set_option maxHeartbeats 1000000
set_option Elab.async false
namespace L21
open PySem PySem.Spec PyProof.Rows L2 L3 X8 M01 L6 L5 QL L8 L9 L10 L20 M11
theorem seqT {K:PySem.W.Frag} {H H':Hp} {a:Addr} {xs:List V} (e:Same H H') (h:SqT K H a xs):SqT K H' a xs:=by
 rcases h with (h | ⟨o,h⟩) | h
 ·exact .inl (.inl (e _ _ h))
 ·exact .inl (.inr ⟨o,e _ _ h⟩)
 ·exact .inr h
theorem at_ints {xs:List Int} {i:Int} (h0:0≤i) (h1:i<xs.length):atI (xs.map V.int) i=some (.int (xs.getD i.toNat 0)):=by
 have hlt:i.toNat<xs.length:=by (first|lia|omega)
 have e:(xs.map V.int)[i.toNat]?=some (.int xs[i.toNat]):=by rw[List.getElem?_map,List.getElem?_eq_getElem hlt];rfl
 have e2:=atI_nat e
 rw[show ((i.toNat:Nat):Int)=i from by (first|lia|omega)] at e2
 rw[e2,List.getD_eq_getElem?_getD,List.getElem?_eq_getElem hlt]
 rfl
theorem ix_listK {X:Cx} {K:PySem.W.Frag} (h:X.K=K):IxR X (rIxL K):=h ▸ ix_list
theorem ix_tupK {X:Cx} {K:PySem.W.Frag} (h:X.K=K):IxR X (rIxT K):=h ▸ ix_tup
end L21
set_option maxRecDepth 100000
set_option linter.all false
set_option maxHeartbeats 1000000
set_option Elab.async false
namespace L22
open PySem PySem.Spec PyProof.Rows L2 L3 X8 M01 L6 L5 QL L8 L9 L10 L13 L20 L21
inductive Fa {α:Type} (r:V->α->Prop):List V->List α->Prop
 | nil:Fa r [] []
 | cons {v:V} {a:α} {vs:List V} {as:List α}:r v a->Fa r vs as->Fa r (v :: vs) (a :: as)
theorem Fa.len {α:Type} {r:V->α->Prop} {vs:List V} {as:List α} (h:Fa r vs as):vs.length=as.length:=by
 induction h with
 | nil=>rfl
 | cons _ _ ih=>rw[List.length_cons,List.length_cons,ih]
theorem Fa.at {α:Type} {r:V->α->Prop} {vs:List V} {as:List α} (h:Fa r vs as):∀ {j:Nat} (hv:j<vs.length) (ha:j<as.length),r vs[j] as[j]:=by
 induction h with
 | nil=>intro j hv;exact absurd hv (Nat.not_lt_zero _)
 | cons h1 _ ih=>
  intro j hv ha
  cases j with
  | zero=>exact h1
  | succ k=>exact ih (Nat.lt_of_succ_lt_succ hv) (Nat.lt_of_succ_lt_succ ha)
theorem Fa.fn {α:Type} {r:V->α->Prop} (hf:∀ v a b,r v a->r v b->a=b) {vs:List V} {as:List α} (h:Fa r vs as):∀ {bs:List α},Fa r vs bs->as=bs:=by
 induction h with
 | nil=>intro bs k;cases k;rfl
 | cons h1 _ ih=>
  intro bs k
  cases k with
  | cons k1 k2=>rw[hf _ _ _ h1 k1,ih k2]
theorem Fa.mono {α:Type} {r r':V->α->Prop} (hr:∀ v a,r v a->r' v a) {vs:List V} {as:List α} (h:Fa r vs as):Fa r' vs as:=by
 induction h with
 | nil=>exact .nil
 | cons h1 _ ih=>exact .cons (hr _ _ h1) ih
abbrev Rp (α:Type):=Hp->V->α->Prop
def rpI:Rp Int:=fun _ v i=>v= .int i
structure EqOk {α:Type} [DecidableEq α] (X:Cx) (d:Nat) (r:Rp α):Prop where
 fn:∀ H v a b,r H v a->r H v b->a=b
 eq:∀ {pins:List (Addr × Obj)} {s:Shared} {σ:L2.St} {H:Hp},Inv X pins σ H s->∀ A:Around,A.units+d<cLine->∀ v u v' u' a b,r H v a->r H u b->RelV v v'->RelV u u'->SeqAt.EqAt A s v' u' (decide (a=b))
section
variable {X:Cx} {α:Type} [DecidableEq α] {d:Nat} {r:Rp α}
theorem ok_int:EqOk X 0 rpI where
 fn:=fun _ v a b h k=>by
  have h':v= .int a:=h
  have k':v= .int b:=k
  rw[h'] at k'
  injection k'
 eq:=fun I A hu v u v' u' a b h k rv ru=>by
  have h':v= .int a:=h
  have k':u= .int b:=k
  subst h' k'
  obtain⟨t,rfl⟩:=rv
  obtain⟨t2,rfl⟩:=ru
  rw[show decide (a=b)=(a == b) from rfl]
  exact SeqAt.EqAt.int_int _ _ _ _
end
end L22
set_option maxRecDepth 100000
set_option linter.all false
set_option maxHeartbeats 1000000
set_option Elab.async false
namespace L42
open PySem PySem.Spec PyProof.Rows L2 L3 X8 M01 L6 L5 QL L8 L20
theorem ones_of {J:It} (n:Nat) {fvals:L2.St} {tc:TT} {te:TE} {don:List V->Hp->Prop} {H:Hp} (Pv:Nat->List V->Hp->Prop) (h0:Pv 0 [] H)
  (hl:∀ i ys H,i≤n->Pv i ys H->ys.length<sizeLine/\((i<n->J.go i H)/\(i=n->J.stop i H)))
  (hs:∀ i x ys H H',i<n->Pv i ys H->J.yld i H x H'->tc (some x :: fvals) H' fun b H3=>if b=true then te (some x :: fvals) H3 fun w H4=>Pv (i+1) (ys ++ [w]) H4 else Pv (i+1) ys H3)
  (hd:∀ ys H,Pv n ys H->don ys H):LcX J 1 fvals (gName 0) tc te don H:=by
 refine⟨fun i m ys H=>m=n - i/\i≤n/\Pv i ys H,⟨n,by simp,Nat.zero_le _,h0⟩,?_⟩
 rintro i m ys H ⟨rfl,hi,p⟩
 obtain⟨l1,l2,l3⟩:=hl i ys H hi p
 refine⟨l1,?_⟩
 by_cases hlt:i<n
 ·refine .inr ⟨l2 hlt,fun ys' H'=>Pv (i+1) ys' H',fun ys' H' p'=>⟨n - (i+1),by (first|lia|omega),rfl,hlt,p'⟩,fun x H' y σt sh=>?_⟩
  obtain⟨l,hl2,rfl⟩:=sh
  have q:=hs i x ys H H' hlt p y
  match l,hl2 with
  | [u0],_=>exact q
 ·have e:i=n:=by (first|lia|omega)
  subst e
  exact .inl ⟨l3 rfl,hd ys H p⟩
theorem ones_tup {K:PySem.W.Frag} {a:Addr} (ps:List V) {fvals:L2.St} {tc:TT} {te:TE} {don:List V->Hp->Prop} {H:Hp} (Pv:Nat->List V->Hp->Prop) (h0:Pv 0 [] H)
  (hl:∀ i ys H,i≤ps.length->Pv i ys H->ys.length<sizeLine/\SqT K H a ps)
  (hs:∀ i x ys H,ps[i]?=some x->Pv i ys H->tc (some x :: fvals) H fun b H3=>if b=true then te (some x :: fvals) H3 fun w H4=>Pv (i+1) (ys ++ [w]) H4 else Pv (i+1) ys H3)
  (hd:∀ ys H,Pv ps.length ys H->don ys H):LcX (Itt K a) 1 fvals (gName 0) tc te don H:=by
 refine ones_of ps.length Pv h0 (fun i ys H hi p=>⟨(hl i ys H hi p).1,fun hlt=>?_,fun e=>?_⟩) (fun i x ys H H' hi p y=>?_) hd
 ·exact⟨ps,ps[i],(hl i ys H hi p).2,by simp[hlt]⟩
 ·exact⟨ps,(hl i ys H hi p).2,by (first|lia|omega)⟩
 ·obtain⟨e,y⟩:=y
  subst e
  exact hs i x ys _ (y ps (hl i ys _ (Nat.le_of_lt hi) p).2) p
theorem ones_list {K:PySem.W.Frag} {a:Addr} (ps:List V) {fvals:L2.St} {tc:TT} {te:TE} {don:List V->Hp->Prop} {H:Hp} (Pv:Nat->List V->Hp->Prop) (h0:Pv 0 [] H)
  (hl:∀ i ys H,i≤ps.length->Pv i ys H->ys.length<sizeLine/\SqL K H a ps)
  (hs:∀ i x ys H,ps[i]?=some x->Pv i ys H->tc (some x :: fvals) H fun b H3=>if b=true then te (some x :: fvals) H3 fun w H4=>Pv (i+1) (ys ++ [w]) H4 else Pv (i+1) ys H3)
  (hd:∀ ys H,Pv ps.length ys H->don ys H):LcX (Itl K a) 1 fvals (gName 0) tc te don H:=by
 refine ones_of ps.length Pv h0 (fun i ys H hi p=>⟨(hl i ys H hi p).1,fun hlt=>?_,fun e=>?_⟩) (fun i x ys H H' hi p y=>?_) hd
 ·exact⟨ps,ps[i],(hl i ys H hi p).2,by simp[hlt]⟩
 ·exact⟨ps,(hl i ys H hi p).2,by (first|lia|omega)⟩
 ·obtain⟨e,y⟩:=y
  subst e
  exact hs i x ys _ (y ps (hl i ys _ (Nat.le_of_lt hi) p).2) p
theorem ones_range {lo:Int} {n:Nat} {fvals:L2.St} {tc:TT} {te:TE} {don:List V->Hp->Prop} {H:Hp} (Pv:Nat->List V->Hp->Prop) (h0:Pv 0 [] H)
  (hl:∀ i ys H,i≤n->Pv i ys H->ys.length<sizeLine)
  (hs:∀ i ys H,i<n->Pv i ys H->tc (some (.int (lo+i)) :: fvals) H fun b H3=>if b=true then te (some (.int (lo+i)) :: fvals) H3 fun w H4=>Pv (i+1) (ys ++ [w]) H4 else Pv (i+1) ys H3)
  (hd:∀ ys H,Pv n ys H->don ys H):LcX (Itr lo n) 1 fvals (gName 0) tc te don H:=by
 refine ones_of n Pv h0 (fun i ys H hi p=>⟨hl i ys H hi p,fun hlt=>hlt,fun e=>?_⟩) (fun i x ys H H' hi p y=>?_) hd
 ·exact Nat.le_of_eq e.symm
 ·obtain⟨e,y⟩:=y
  subst e y
  exact hs i ys _ hi p
theorem hu_d {A:Around} {k d:Nat} (hr:Room k A) (hd:d≤64):A.units+d<cLine:=Nat.lt_of_le_of_lt (Nat.add_le_add_left hd _) hr.units
end L42
set_option linter.all false
namespace M13
def AtH (hs:List Int) (st:Int):Nat:=(hs.filter (fun h=>decide (h<st % 24))).length
def FH (hs:List Int) (st:Int) (k:Nat):Int:=24 * (st / 24+((k / hs.length:Nat):Int))+hs.getD (k % hs.length) 0
def GH (hs:List Int) (st:Int) (m:Nat):List Int:=(List.range (m - AtH hs st)).map fun k=>FH hs st (AtH hs st+k)
def dueH (hs:List Int) (st:Int) (n:Nat):List Int:=(List.range n).map fun k=>FH hs st (AtH hs st+k)
structure HsOk (hs:List Int):Prop where
 ne:0<hs.length
 le:hs.length≤24
 pw:hs.Pairwise (· < ·)
 ge:∀ h∈hs,0≤h/\h<24
theorem atH_le (hs:List Int) (st:Int):AtH hs st≤hs.length:=List.length_filter_le ..
theorem filter_split {hs:List Int} (c:Int) (p:hs.Pairwise (· < ·)):hs.filter (fun h=>decide (c≤h))=hs.drop (hs.filter (fun h=>decide (h<c))).length:=by
 induction hs with
 | nil=>rfl
 | cons a t ih=>
  rw[List.pairwise_cons] at p
  by_cases h:a<c
  ·rw[List.filter_cons_of_neg (by simp;(first|lia|omega)),List.filter_cons_of_pos (by simpa using h),List.length_cons,List.drop_succ_cons,ih p.2]
  ·have e:t.filter (fun h=>decide (h<c))=[]:=List.filter_eq_nil_iff.mpr fun x hx=>by have:=p.1 x hx;simp;(first|lia|omega)
   rw[List.filter_cons_of_pos (by simp;(first|lia|omega)),List.filter_cons_of_neg (by simpa using h),e]
   show _=a :: t
   rw[List.filter_eq_self.mpr fun x hx=>by have:=p.1 x hx;simp;(first|lia|omega)]
theorem getD_of {hs:List Int} {i:Nat} (h:i<hs.length):hs.getD i 0=hs[i]:=by
 rw[List.getD_eq_getElem?_getD,List.getElem?_eq_getElem h];rfl
theorem drop_map {hs:List Int} (d:Int) (a:Nat):(hs.drop a).map (fun h=>d+h)=(List.range (hs.length - a)).map fun k=>d+hs.getD (a+k) 0:=by
 apply List.ext_getElem
 ·simp
 ·intro i h1 h2
  simp at h1
  simp only[List.getElem_map,List.getElem_drop,List.getElem_range]
  rw[getD_of (by (first|lia|omega))]
theorem GH_step {hs:List Int} (ok:HsOk hs) (st:Int) (j:Nat) :
  GH hs st ((j+1) * hs.length)=GH hs st (j * hs.length) ++ (hs.filter fun h=>decide (24 * (st / 24)+24 * (j:Int)+h ≥ st)).map (fun h=>24 * (st / 24)+24 * (j:Int)+h):=by
 have la:=atH_le hs st
 have hn:=ok.ne
 cases j with
 | zero=>
  have e1:GH hs st (0 * hs.length)=[]:=by unfold GH;rw[Nat.zero_mul,Nat.zero_sub];rfl
  have e2:hs.filter (fun h=>decide (24 * (st / 24)+24 * ((0:Nat):Int)+h ≥ st))=hs.drop (AtH hs st):=by
   unfold AtH
   rw[<- filter_split (st % 24) ok.pw]
   congr 1
   funext h
   have:=Int.emod_add_mul_ediv st 24
   apply decide_eq_decide.mpr
   (first|lia|omega)
  rw[e1,e2,List.nil_append,drop_map]
  unfold GH
  rw[show (0+1) * hs.length - AtH hs st=hs.length - AtH hs st by (first|lia|omega)]
  refine List.map_congr_left fun k hk=>?_
  rw[List.mem_range] at hk
  unfold FH
  rw[Nat.div_eq_of_lt (by (first|lia|omega)),Nat.mod_eq_of_lt (by (first|lia|omega))]
  (first|lia|omega)
 | succ j=>
  have e2:hs.filter (fun h=>decide (24 * (st / 24)+24 * ((j+1:Nat):Int)+h ≥ st))=hs:=by
   refine List.filter_eq_self.mpr fun h hh=>?_
   have:=ok.ge h hh
   have:=Int.emod_add_mul_ediv st 24
   have:=Int.emod_lt_of_pos st (show (0:Int)<24 by decide)
   simp only[decide_eq_true_eq]
   (first|lia|omega)
  rw[e2]
  have e3:=drop_map (hs:=hs) (24 * (st / 24)+24 * ((j+1:Nat):Int)) 0
  rw[List.drop_zero] at e3
  rw[e3]
  unfold GH
  have q:(j+1) * hs.length ≥ hs.length:=Nat.le_mul_of_pos_left _ (by (first|lia|omega))
  have q2:(j+1+1) * hs.length=(j+1) * hs.length+hs.length:=Nat.succ_mul _ _
  rw[show (j+1+1) * hs.length - AtH hs st=((j+1) * hs.length - AtH hs st)+hs.length by (first|lia|omega),List.range_add,List.map_append]
  congr 1
  rw[List.map_map,Nat.sub_zero]
  refine List.map_congr_left fun k hk=>?_
  rw[List.mem_range] at hk
  show FH hs st (AtH hs st+((j+1) * hs.length - AtH hs st+k))=_
  rw[show AtH hs st+((j+1) * hs.length - AtH hs st+k)=k+hs.length * (j+1) by rw[Nat.mul_comm hs.length];(first|lia|omega)]
  unfold FH
  rw[Nat.add_mul_div_left _ _ hn,Nat.add_mul_mod_self_left,Nat.div_eq_of_lt hk,Nat.mod_eq_of_lt hk,Nat.zero_add k]
  (first|lia|omega)
theorem GH_len (hs:List Int) (st:Int) (m:Nat):(GH hs st m).length=m - AtH hs st:=by simp[GH]
theorem GH_take {hs:List Int} {st:Int} {m n:Nat} (h:n≤(GH hs st m).length):(GH hs st m).take n=dueH hs st n:=by
 rw[GH_len] at h
 unfold GH dueH
 rw[<- List.map_take,List.take_range,Nat.min_eq_left h]
end M13
set_option linter.all false
set_option Elab.async false
namespace M14
open PySem L2
def getQ:List (Int × Int)->Int->Option Int
 | [],_=>none
 | q :: r,n=>if q.1=n then some q.2 else getQ r n
def setQ:List (Int × Int)->Int->Int->List (Int × Int)
 | [],n,y=>[(n,y)]
 | q :: r,n,y=>if q.1=n then (n,y) :: r else q :: setQ r n y
abbrev Ks (qs:List (Int × Int)):Prop:=(qs.map (·.1)).Nodup
def kvQ (qs:List (Int × Int)):List (Key × V):=qs.map fun q=>(Sum.inl q.1, .int q.2)
theorem val_kv:∀ (qs:List (Int × Int)) (n:Int),valV (kvQ qs) (Sum.inl n)=(getQ qs n).map V.int
 | [],n=>rfl
 | q :: r,n=>by
  unfold getQ
  by_cases e:q.1=n
  ·rw[if_pos e]
   show ((((Sum.inl q.1,V.int q.2) :: kvQ r:List (Key × V)).find? fun kv=>decide (kv.1=Sum.inl n)).map (·.2))=_
   rw[List.find?_cons_of_pos (by rw[e];simp)]
   rfl
  ·rw[if_neg e, <- val_kv r n]
   show ((((Sum.inl q.1,V.int q.2) :: kvQ r:List (Key × V)).find? fun kv=>decide (kv.1=Sum.inl n)).map (·.2))=_
   rw[List.find?_cons_of_neg (by simpa using e)]
   rfl
theorem getQ_mem {qs:List (Int × Int)} (hk:Ks qs) {q:Int × Int} (h:q∈qs):getQ qs q.1=some q.2:=by
 induction qs with
 | nil=>cases h
 | cons p r ih=>
  have hk':(p.1 :: r.map (·.1)).Nodup:=hk
  rw[List.nodup_cons] at hk'
  unfold getQ
  rcases List.mem_cons.mp h with z | z
  ·subst z;rw[if_pos rfl]
  ·rw[if_neg (fun e=>hk'.1 (by rw[e];exact List.mem_map_of_mem z)),ih hk'.2 z]
theorem put_kv {qs:List (Int × Int)} (h:Ks qs) (n y:Int):putK (kvQ qs) (Sum.inl n) (.int y)=kvQ (setQ qs n y):=by
 have any:∀ qs:List (Int × Int),((kvQ qs).any fun kv=>decide (kv.1=Sum.inl n))=decide (n∈qs.map (·.1)):=by
  intro qs
  induction qs with
  | nil=>rfl
  | cons q r ih=>
   show (decide ((Sum.inl q.1:Key)=Sum.inl n) || (kvQ r).any _)=_
   rw[ih]
   by_cases e:q.1=n
   ·simp[e]
   ·simp[e,Ne.symm e,show ¬ n=q.1 from fun z=>e z.symm]
 unfold putK
 rw[any]
 by_cases m:n∈qs.map (·.1)
 ·rw[if_pos (decide_eq_true m)]
  clear any
  induction qs with
  | nil=>simp at m
  | cons q r ih=>
   have h':(q.1 :: r.map (·.1)).Nodup:=h
   rw[List.nodup_cons] at h'
   unfold setQ
   by_cases e:q.1=n
   ·rw[if_pos e]
    have nm:n ∉ r.map (·.1):=by rw[<- e];exact h'.1
    have rest:(kvQ r).map (fun kv=>if kv.1=Sum.inl n then (kv.1,V.int y) else kv)=kvQ r:=by
     unfold kvQ
     rw[List.map_map]
     refine List.map_congr_left fun p hp=>?_
     show (if (Sum.inl p.1:Key)=Sum.inl n then _ else _)=_
     rw[if_neg (fun z=>nm (by rw[<- Sum.inl.inj z];exact List.mem_map_of_mem hp))]
    show (if (Sum.inl q.1:Key)=Sum.inl n then ((Sum.inl q.1:Key),V.int y) else (Sum.inl q.1,V.int q.2)) :: (kvQ r).map _=kvQ ((n,y) :: r)
    rw[rest,if_pos (by rw[e]),e]
    rfl
   ·rw[if_neg e]
    have m':n∈r.map (·.1):=by
     rcases List.mem_cons.mp m with z | z
     ·exact absurd z.symm e
     ·exact z
    show (if (Sum.inl q.1:Key)=Sum.inl n then ((Sum.inl q.1:Key),V.int y) else (Sum.inl q.1,V.int q.2)) :: (kvQ r).map _=kvQ (q :: setQ r n y)
    rw[if_neg (fun z=>e (Sum.inl.inj z)),ih h'.2 m']
    rfl
 ·rw[if_neg (by rw[decide_eq_true_eq];exact m)]
  clear any h
  induction qs with
  | nil=>rfl
  | cons q r ih=>
   unfold setQ
   have e:¬ q.1=n:=fun z=>m (by simp[z])
   rw[if_neg e]
   show (Sum.inl q.1,V.int q.2) :: (kvQ r ++ _)=kvQ (q :: setQ r n y)
   rw[ih fun z=>m (List.mem_cons_of_mem _ z)]
   rfl
end M14
set_option maxRecDepth 100000
set_option linter.all false
set_option maxHeartbeats 1000000
set_option Elab.async false
namespace PySem.SeqAt
open AutoSeq1 (wpAny_loadPart')
open MeetsSeq MeetsSeq2 MeetsSeq3 SeqRoads2
def RcLtAt (A:Around) (s:Shared) (y x:Value) (b:Bool):Prop:=
 ∀ (prog:Program) (w:World) (E:Value->Shared->Prop) (Q:Value->Shared->Prop),Q (.bool b) s->wpAny (model prog w) A (richCompare .Lt y x) Q E s
def lexB (e l:Nat->Bool) (fin:Bool):List Nat->Bool
 | []=>fin
 | i :: r=>if e i=true then lexB e l fin r else l i
theorem tuple_ltAt (l b:Addr) (items items2:Array Value) (n n2:Nat) (dd dd2:Option Addr) (sl sl2:Array (Option Value)) (e lt:Nat->Bool) :
  Meets (Builtin.«tuple.__lt__» ⟨[.ref l, .ref b],[]⟩)
   (fun A R s=>s.heap.get? l=some { cls:= .type "tuple", dict:=dd,data:= .seq items n,slots:=sl }/\s.heap.get? b=some { cls:= .type "tuple", dict:=dd2,data:= .seq items2 n2,slots:=sl2 }/\
    (∀ j (h1:j<items.size) (h2:j<items2.size),EqAt A.in1 s items[j] items2[j] (e j))/\(∀ j (h1:j<items.size) (h2:j<items2.size),e j=false->RcLtAt A.in1 s items[j] items2[j] (lt j))/\
    R (.ok (.ret (.bool (lexB e lt (decide (items.size<items2.size)) (List.range (min items.size items2.size)))))) s):= .of_wp fun prog w A R s h=>by
 obtain⟨hp,g,d,tk,os⟩:=s;obtain⟨hl,hb,he,hlt',h⟩:=h
 have f2:=AutoSeq1.sub_tuple_tuple
 have hZ:(items.toList.zip items2.toList).length=min items.size items2.size:=by simp
 wp_walk using wpAny_loadPart' hl,wpAny_loadPart' hb,wpAny_forIn_list _ (fun rest b s'=>b.1=none/\s'=⟨hp,g,d,tk,os⟩/\∃ i,rest=(items.toList.zip items2.toList).drop i/\
   R (.ok (.ret (.bool (lexB e lt (decide (items.size<items2.size)) ((List.range (min items.size items2.size)).drop i))))) ⟨hp,g,d,tk,os⟩) _
 case turn=>
  rintro⟨y,x⟩ rest b s' ⟨hb',rfl,i,hz,hR⟩
  have hlt:i<(items.toList.zip items2.toList).length:=by
   rcases Nat.lt_or_ge i (items.toList.zip items2.toList).length with h' | h'
   ·exact h'
   ·rw[List.drop_of_length_le h'] at hz;cases hz
  have hm:i<min items.size items2.size:=hZ ▸ hlt
  have h1:i<items.size:=Nat.lt_of_lt_of_le hm (Nat.min_le_left _ _)
  have h2:i<items2.size:=Nat.lt_of_lt_of_le hm (Nat.min_le_right _ _)
  rw[List.drop_eq_getElem_cons hlt] at hz
  injection hz with hyx hrest
  have hy:y=items[i]:=by have:=congrArg Prod.fst hyx;simpa using this
  have hx:x=items2[i]:=by have:=congrArg Prod.snd hyx;simpa using this
  subst hy hx
  have hd:(List.range (min items.size items2.size)).drop i=i :: (List.range (min items.size items2.size)).drop (i+1):=by simp[List.drop_eq_getElem_cons,hm]
  rw[hd] at hR
  refine wpAny_bind (he i h1 h2 prog w _ _ ?_)
  cases hy:e i with
  | true=>
   have hR':R (.ok (.ret (.bool (lexB e lt (decide (items.size<items2.size)) ((List.range (min items.size items2.size)).drop (i+1)))))) ⟨hp,g,d,tk,os⟩:=by
    have:lexB e lt (decide (items.size<items2.size)) (i :: (List.range (min items.size items2.size)).drop (i+1))=lexB e lt (decide (items.size<items2.size)) ((List.range (min items.size items2.size)).drop (i+1)):=by
     show (if e i=true then _ else _)=_
     rw[hy,if_pos rfl]
    rw[this] at hR
    exact hR
   wp_walk
   exact⟨rfl,rfl,i+1,hrest,hR'⟩
  | false=>
   have hR':R (.ok (.ret (.bool (lt i)))) ⟨hp,g,d,tk,os⟩:=by
    have:lexB e lt (decide (items.size<items2.size)) (i :: (List.range (min items.size items2.size)).drop (i+1))=lt i:=by
     show (if e i=true then _ else _)=_
     rw[hy,if_neg (by decide)]
    rw[this] at hR
    exact hR
   have hq:=hlt' i h1 h2 hy prog w
   wp_walk using hq _ _
   exact⟨_,rfl,hR'⟩
 case fin=>
  rintro⟨b1,b2⟩ s' ⟨hb',rfl,i,hz,hR⟩
  simp only at hb'
  subst hb'
  have hge:min items.size items2.size≤i:=by
   rcases Nat.lt_or_ge i (items.toList.zip items2.toList).length with h' | h'
   ·rw[List.drop_eq_getElem_cons h'] at hz;cases hz
   ·exact hZ ▸ h'
  rw[List.drop_of_length_le (by simpa using hge)] at hR
  wp_walk
  exact⟨_,rfl,by simpa[Builtin.Tuple.tupleCompareSizes,lexB] using hR⟩
 case h=>
  exact⟨rfl,rfl,0,rfl,by simpa using h⟩
section
variable {A:Around} {s:Shared}
theorem RcLtAt.tuples {l b:Addr} {items items2:Array Value} {e lt:Nat->Bool} (hl:s.heap.IsTuple l items) (hb:s.heap.IsTuple b items2) (hu:A.units<cLine)
  (he:∀ j (h1:j<items.size) (h2:j<items2.size),EqAt A.in1 s items[j] items2[j] (e j)) (ht:∀ j (h1:j<items.size) (h2:j<items2.size),e j=false->RcLtAt A.in1 s items[j] items2[j] (lt j)) :
  RcLtAt A s (.ref l) (.ref b) (lexB e lt (decide (items.size<items2.size)) (List.range (min items.size items2.size))):=fun prog w E Q h=>by
 obtain⟨⟨cls,dd,data,sl⟩,ho,hc,n,hd⟩:=id hl
 obtain⟨⟨cls2,dd2,data2,sl2⟩,ho2,hc2,n2,hd2⟩:=id hb
 simp only at hc hd hc2 hd2
 subst hc hd hc2 hd2
 exact richCompare_meets_room (op:= .Lt) ⟨_,ho,rfl⟩ ⟨_,ho2,rfl⟩ F.slot_tuple_lt F.entry_tuple_lt (F.args_tuple_lt_2 _ _) (tuple_ltAt l b items items2 n n2 dd dd2 sl sl2 e lt)
  ⟨ho,ho2,he,ht,show Value.bool (lexB e lt (decide (items.size<items2.size)) (List.range (min items.size items2.size)))≠Value.notImplemented/\Q (.bool (lexB e lt (decide (items.size<items2.size)) (List.range (min items.size items2.size)))) s from⟨(fun x=>nomatch x),h⟩⟩ hu
end
end PySem.SeqAt
set_option maxRecDepth 100000
set_option linter.all false
set_option maxHeartbeats 1000000
set_option Elab.async false
namespace L44
open PySem PySem.Spec PyProof.Rows L2 L3 X8 M01 L6 L5 QL L8 L9 L10 L13 L20 L21 L22
structure CmpOk {α:Type} [DecidableEq α] (X:Cx) (d:Nat) (r:Rp α) (lt:α->α->Bool):Prop where
 fn:∀ H v a b,r H v a->r H v b->a=b
 eq:∀ {pins:List (Addr × Obj)} {s:Shared} {σ:L2.St} {H:Hp},Inv X pins σ H s->∀ A:Around,A.units+d<cLine->∀ v u v' u' a b,r H v a->r H u b->RelV v v'->RelV u u'->SeqAt.EqAt A s v' u' (decide (a=b))
 lt:∀ {pins:List (Addr × Obj)} {s:Shared} {σ:L2.St} {H:Hp},Inv X pins σ H s->∀ A:Around,A.units+d<cLine->∀ v u v' u' a b,r H v a->r H u b->RelV v v'->RelV u u'->SeqAt.RcLtAt A s v' u' (lt a b)
abbrev Rw (α:Type):=Hp->List V->α->Prop
structure Cmp2 {α:Type} [DecidableEq α] (A:Around) (s:Shared) (lt:α->α->Bool) (its its2:List Value) (a b:α):Prop where
 ex:∃ e l:Nat->Bool,(∀ j (h1:j<its.length) (h2:j<its2.length),SeqAt.EqAt A s its[j] its2[j] (e j))/\(∀ j (h1:j<its.length) (h2:j<its2.length),SeqAt.RcLtAt A s its[j] its2[j] (l j))/\
  ((List.range (min its.length its2.length)).all e && its.length == its2.length)=decide (a=b)/\SeqAt.lexB e l (decide (its.length<its2.length)) (List.range (min its.length its2.length))=lt a b
structure RowOk {α:Type} [DecidableEq α] (X:Cx) (d:Nat) (R:Rw α) (lt:α->α->Bool):Prop where
 fn:∀ H vs a b,R H vs a->R H vs b->a=b
 cmp:∀ {pins:List (Addr × Obj)} {s:Shared} {σ:L2.St} {H:Hp},Inv X pins σ H s->∀ A:Around,A.units+d<cLine->∀ vs us its its2 a b,R H vs a->R H us b->Vals vs its->Vals us its2->Cmp2 A s lt its its2 a b
theorem lexB_succ {e l e' l':Nat->Bool} {fin:Bool} (he:∀ j,e (j+1)=e' j) (hl:∀ j,l (j+1)=l' j):∀ r:List Nat,SeqAt.lexB e l fin (r.map Nat.succ)=SeqAt.lexB e' l' fin r
 | []=>rfl
 | j :: r=>by
  show (if e (j+1)=true then SeqAt.lexB e l fin (r.map Nat.succ) else l (j+1))=(if e' j=true then SeqAt.lexB e' l' fin r else l' j)
  rw[he,hl,lexB_succ he hl r]
theorem cons_cmp {α β γ:Type} [DecidableEq α] [DecidableEq β] [DecidableEq γ] {A:Around} {s:Shared} {l1:α->α->Bool} {l2:β->β->Bool} {l3:γ->γ->Bool} {x y:Value} {its its2:List Value} {a b:α} {a2 b2:β} {c d:γ}
  (he:SeqAt.EqAt A s x y (decide (a=b))) (hl:SeqAt.RcLtAt A s x y (l1 a b)) (h:Cmp2 A s l2 its its2 a2 b2) (hcd:c=d↔a=b/\a2=b2) (h3:l3 c d=if a=b then l2 a2 b2 else l1 a b):Cmp2 A s l3 (x :: its) (y :: its2) c d:=by
 obtain⟨e,l,k1,k2,k3,k4⟩:=h
 refine⟨fun j=>match j with | 0=>decide (a=b) | j+1=>e j,fun j=>match j with | 0=>l1 a b | j+1=>l j,?_,?_,?_,?_⟩
 ·intro j h1 h2
  cases j with
  | zero=>exact he
  | succ j=>exact k1 j (Nat.lt_of_succ_lt_succ h1) (Nat.lt_of_succ_lt_succ h2)
 ·intro j h1 h2
  cases j with
  | zero=>exact hl
  | succ j=>exact k2 j (Nat.lt_of_succ_lt_succ h1) (Nat.lt_of_succ_lt_succ h2)
 ·rw[List.length_cons,List.length_cons,Nat.succ_min_succ,List.range_succ_eq_map,List.all_cons,List.all_map]
  have e1:((its.length+1 == its2.length+1):Bool)=(its.length == its2.length):=by
   by_cases z:its.length=its2.length
   ·rw[z];simp
   ·rw[beq_eq_false_iff_ne.mpr z,beq_eq_false_iff_ne.mpr (by (first|lia|omega))]
  rw[e1]
  show (decide (a=b) && (List.range (min its.length its2.length)).all e && _)=_
  rw[Bool.and_assoc,k3]
  by_cases z:a=b
  ·by_cases z2:a2=b2
   ·rw[decide_eq_true z,decide_eq_true z2,decide_eq_true (hcd.mpr ⟨z,z2⟩)];rfl
   ·rw[decide_eq_true z,decide_eq_false z2,decide_eq_false (fun w=>z2 (hcd.mp w).2)];rfl
  ·rw[decide_eq_false z,decide_eq_false (fun w=>z (hcd.mp w).1)];rfl
 ·rw[List.length_cons,List.length_cons,Nat.succ_min_succ,List.range_succ_eq_map]
  show (if decide (a=b)=true then _ else l1 a b)=_
  rw[lexB_succ (e':=e) (l':=l) (fun _=>rfl) (fun _=>rfl),h3]
  have e2:decide (its.length+1<its2.length+1)=decide (its.length<its2.length):=decide_eq_decide.mpr (by (first|lia|omega))
  rw[e2,k4]
  by_cases z:a=b
  ·rw[if_pos z,if_pos (decide_eq_true z)]
  ·rw[if_neg z,if_neg (by simpa using z)]
theorem CmpOk.up {α:Type} [DecidableEq α] {X:Cx} {d d':Nat} {r:Rp α} {lt:α->α->Bool} (h:CmpOk X d r lt) (k:d≤d'):CmpOk X d' r lt:=
 ⟨h.fn,fun I A hu=>h.eq I A (by (first|lia|omega)),fun I A hu=>h.lt I A (by (first|lia|omega))⟩
def rwNil:Rw Unit:=fun _ vs _=>vs=[]
def rwCons {α β:Type} (r:Rp α) (R:Rw β):Rw (α × β):=fun H vs a=>∃ v rest,vs=v :: rest/\r H v a.1/\R H rest a.2
def ltNil:Unit->Unit->Bool:=fun _ _=>false
def ltCons {α β:Type} [DecidableEq α] (l1:α->α->Bool) (l2:β->β->Bool):α × β->α × β->Bool:=fun a b=>if a.1=b.1 then l2 a.2 b.2 else l1 a.1 b.1
def ltI:Int->Int->Bool:=fun a b=>decide (a<b)
section
variable {X:Cx} {α β:Type} [DecidableEq α] [DecidableEq β] {d:Nat} {r:Rp α} {R:Rw β} {l1:α->α->Bool} {l2:β->β->Bool}
theorem cmp_int:CmpOk X 0 rpI ltI where
 fn:=ok_int (X:=X).fn
 eq:=ok_int.eq
 lt:=fun I A hu v u v' u' a b h k rv ru prog w E Q hq=>by
  have h':v= .int a:=h
  have k':u= .int b:=k
  subst h' k'
  obtain⟨t,rfl⟩:=rv
  obtain⟨t2,rfl⟩:=ru
  have z:wpAny (model prog w) A (compareOp .Lt (.int a t) (.int b t2)) Q E _:=lt_int hq
  exact z
theorem row_nil:RowOk X d rwNil ltNil where
 fn:=fun _ _ _ _ _ _=>rfl
 cmp:=fun I A hu vs us its its2 a b h k rv ru=>by
  have h':vs=[]:=h
  have k':us=[]:=k
  subst h' k'
  cases rv
  cases ru
  exact⟨fun _=>true,fun _=>false,fun j h1=>absurd h1 (Nat.not_lt_zero _),fun j h1=>absurd h1 (Nat.not_lt_zero _),rfl,rfl⟩
theorem row_cons (h1:CmpOk X d r l1) (h2:RowOk X d R l2):RowOk X d (rwCons r R) (ltCons l1 l2) where
 fn:=fun H vs a b ⟨v,rest,e1,e2,e3⟩ ⟨u,rest2,f1,f2,f3⟩=>by
  rw[e1] at f1
  injection f1 with g1 g2
  subst g1 g2
  exact Prod.ext (h1.fn _ _ _ _ e2 f2) (h2.fn _ _ _ _ e3 f3)
 cmp:=fun I A hu vs us its its2 a b ⟨v,rest,e1,e2,e3⟩ ⟨u,rest2,f1,f2,f3⟩ rv ru=>by
  subst e1 f1
  cases rv with
  | cons q1 q2=>
   cases ru with
   | cons p1 p2=>
    refine cons_cmp (h1.eq I A hu _ _ _ _ _ _ e2 f2 q1 p1) (h1.lt I A hu _ _ _ _ _ _ e2 f2 q1 p1) (h2.cmp I A hu _ _ _ _ _ _ e3 f3 q2 p2) ?_ rfl
    exact⟨fun z=>by rw[z];exact⟨rfl,rfl⟩,fun ⟨z1,z2⟩=>Prod.ext z1 z2⟩
def rpTup (R:Rw β):Rp β:=fun H v a=>∃ p vs,v= .ref p/\H p=some (.tup vs)/\R H vs a
theorem rc_tupR (h:RowOk X d R l2) {pins:List (Addr × Obj)} {s:Shared} {σ:L2.St} {H:Hp} (I:Inv X pins σ H s) {A:Around} (hu:A.units+(d+1)<cLine) {p q:Addr} {vs us:List V} {a b:β} (hp:H p=some (.tup vs)) (hq:H q=some (.tup us)) (h1:R H vs a) (h2:R H us b) :
  SeqAt.RcAt A s (.ref p) (.ref q) (decide (a=b))/\SeqAt.RcNeAt A s (.ref p) (.ref q) (!decide (a=b))/\SeqAt.RcLtAt A s (.ref p) (.ref q) (l2 a b):=by
 obtain⟨its,r1,p1,_⟩:=I.tuple (SqT.of (K:=X.K) hp)
 obtain⟨its2,r2,p2,_⟩:=I.tuple (SqT.of (K:=X.K) hq)
 have hu1:A.units<cLine:=by (first|lia|omega)
 have hu2:A.in1.units+d<cLine:=by show A.units+1+d<cLine;(first|lia|omega)
 obtain⟨e,l,k1,k2,k3,k4⟩:=h.cmp I A.in1 hu2 _ _ _ _ _ _ h1 h2 r1 r2
 have el:∀ j (h1':j<its.toArray.size) (h2':j<its2.toArray.size),SeqAt.EqAt A.in1 s its.toArray[j] its2.toArray[j] (e j):=fun j j1 j2=>by
  have:=k1 j (by simpa using j1) (by simpa using j2)
  simpa using this
 have ll:∀ j (h1':j<its.toArray.size) (h2':j<its2.toArray.size),e j=false->SeqAt.RcLtAt A.in1 s its.toArray[j] its2.toArray[j] (l j):=fun j j1 j2 _=>by
  have:=k2 j (by simpa using j1) (by simpa using j2)
  simpa using this
 rw[<- k3, <- k4]
 exact⟨SeqAt.RcAt.tuples p1 p2 hu1 el,SeqAt.RcNeAt.tuples p1 p2 hu1 el,SeqAt.RcLtAt.tuples p1 p2 hu1 el ll⟩
theorem cmp_tup (h:RowOk X d R l2):CmpOk X (d+1) (rpTup R) l2 where
 fn:=fun H v a b ⟨p,vs,e1,e2,e3⟩ ⟨q,us,f1,f2,f3⟩=>by
  rw[e1] at f1
  injection f1 with f1
  subst f1
  rw[e2] at f2
  injection f2 with f2
  injection f2 with f2
  subst f2
  exact h.fn _ _ _ _ e3 f3
 eq:=fun {pins s σ H} I A hu v u v' u' a b hv hk rv ru=>by
  obtain⟨p,vs,rfl,e2,e3⟩:=id hv
  obtain⟨q,us,rfl,f2,f3⟩:=id hk
  cases rv
  cases ru
  by_cases z:p=q
  ·subst z
   rw[e2] at f2
   injection f2 with f2
   injection f2 with f2
   subst f2
   rw[h.fn _ _ _ _ e3 f3,decide_eq_true rfl]
   exact SeqAt.EqAt.same _
  ·exact SeqAt.EqAt.of_refs z (rc_tupR h I hu e2 f2 e3 f3).1
 lt:=fun {pins s σ H} I A hu v u v' u' a b hv hk rv ru=>by
  obtain⟨p,vs,rfl,e2,e3⟩:=id hv
  obtain⟨q,us,rfl,f2,f3⟩:=id hk
  cases rv
  cases ru
  exact(rc_tupR h I hu e2 f2 e3 f3).2.2
end
end L44
set_option maxRecDepth 100000
set_option linter.all false
set_option maxHeartbeats 1000000
set_option Elab.async false
namespace SX
open PySem PyProof.Rows
structure Ord (L:Keyed->Keyed->Bool):Prop where
 asy:∀ x y,L x y=true->L y x=false
 neg:∀ x y z,L x z=true->L x y=true\/L y z=true
abbrev le (L:Keyed->Keyed->Bool) (x y:Keyed):Prop:=L y x=false
section
variable {L:Keyed->Keyed->Bool}
theorem Ord.refl (O:Ord L) (x:Keyed):le L x x:=by
 cases h:L x x with
 | false=>exact h
 | true=>rw[O.asy _ _ h] at h;cases h
theorem Ord.trans (O:Ord L) {x y z:Keyed} (h1:le L x y) (h2:le L y z):le L x z:=by
 cases h:L z x with
 | false=>exact h
 | true=>
  rcases O.neg z y x h with k | k
  ·rw[h2] at k;cases k
  ·rw[h1] at k;cases k
theorem Ord.ofLt (O:Ord L) {x y:Keyed} (h:L x y=true):le L x y:=O.asy _ _ h
def G (xs:Array Keyed) (i:Nat):Keyed:=(xs[i]?).getD (Value.none,Value.none)
def SOn (L:Keyed->Keyed->Bool) (xs:Array Keyed) (lo hi:Nat):Prop:=∀ i j,lo≤i->i≤j->j<hi->le L (G xs i) (G xs j)
theorem G_of {xs:Array Keyed} {i:Nat} (h:i<xs.size):xs[i]?=some (G xs i):=by unfold G;rw[getElem?_pos xs i h];rfl
theorem G_eq {xs ys:Array Keyed} {i j:Nat} (h:xs[i]?=ys[j]?):G xs i=G ys j:=by unfold G;rw[h]
theorem SOn.one (O:Ord L) {xs:Array Keyed} {lo hi:Nat} (h:hi≤lo+1):SOn L xs lo hi:=fun i j h1 h2 h3=>by
 have:i=j:=by (first|lia|omega)
 subst this
 exact O.refl _
theorem SOn.mono {xs:Array Keyed} {lo hi lo' hi':Nat} (h:SOn L xs lo hi) (h1:lo≤lo') (h2:hi'≤hi):SOn L xs lo' hi':=fun i j a b c=>h i j (by (first|lia|omega)) b (by (first|lia|omega))
theorem SOn.snoc (O:Ord L) {xs:Array Keyed} {lo n:Nat} (h:SOn L xs lo n) (hn:lo<n) (k:le L (G xs (n - 1)) (G xs n)):SOn L xs lo (n+1):=fun i j a b c=>by
 by_cases e:j<n
 ·exact h i j a b e
 ·have:j=n:=by (first|lia|omega)
  subst this
  by_cases e2:i=j
  ·subst e2;exact O.refl _
  ·exact O.trans (h i (j - 1) a (by (first|lia|omega)) (by (first|lia|omega))) k
structure Bs (κ:SortKind) (a₀:Array Keyed) (st:SortSt):Prop where
 perm:(arrOf st).Perm a₀
 kind:kindOf st=κ
 failed:failedOf st=none
variable {κ:SortKind} {a₀:Array Keyed} {st:SortSt}
theorem Bs.size (h:Bs κ a₀ st):(arrOf st).size=a₀.size:=h.perm.size_eq
theorem Bs.arr (h:Bs κ a₀ st) {xs:Array Keyed} (hp:xs.Perm (arrOf st)):Bs κ a₀ (setArr st xs):=⟨hp.trans h.perm,h.kind,h.failed⟩
theorem Bs.mem (h:Bs κ a₀ st) {i:Nat} (hi:i<a₀.size):G (arrOf st) i∈a₀.toList:=by
 have hi':i<(arrOf st).size:=by rw[h.size];exact hi
 have e:G (arrOf st) i=(arrOf st)[i]:=Option.some.inj ((G_of hi').symm.trans (getElem?_pos _ i hi'))
 rw[e]
 exact(Array.perm_iff_toList_perm.mp h.perm).mem_iff.mp (by simp)
theorem G_bub {xs:Array Keyed} {src d:Nat} (hs:src<xs.size) (hd:d≤src) (k:Nat):G (bubble xs src d) k=if k=src - d then G xs src else if src - d<k/\k≤src then G xs (k - 1) else G xs k:=by
 have e:=getElem?_bubble hs d hd k
 split at e
 ·rename_i h;rw[if_pos h];exact G_eq e
 ·rename_i h
  rw[if_neg h]
  split at e
  ·rename_i h2;rw[if_pos h2];exact G_eq e
  ·rename_i h2;rw[if_neg h2];exact G_eq e
theorem G_mir {xs:Array Keyed} {i j:Nat} (hj:j≤xs.size) (k:Nat):G (mirror xs i j ((j - i) / 2)) k=if i≤k/\k<j then G xs (i+j - 1 - k) else G xs k:=by
 have e:=getElem?_mirror_all (i:=i) hj k
 split at e
 ·rename_i h;rw[if_pos h];exact G_eq e
 ·rename_i h;rw[if_neg h];exact G_eq e
end
section
variable {prog:Program} {w:World} {A:Around} {E:Value->Shared->Prop} {s:Shared} {κ:SortKind} {a₀:Array Keyed} {L:Keyed->Keyed->Bool}
def Asks (prog:Program) (w:World) (A:Around) (E:Value->Shared->Prop) (s:Shared) (κ:SortKind) (a₀:Array Keyed) (L:Keyed->Keyed->Bool):Prop:=
 ∀ (x y:Keyed) (st:SortSt) (Q:Option Bool->SortSt->Prop),x∈a₀.toList->y∈a₀.toList->kindOf st=κ->Q (some (L x y)) st->wpS (model prog w) A E s (lt' x y) Q st
theorem wpS_elem {xs:Array Keyed} {i:Nat} {st:SortSt} {Q:Keyed->SortSt->Prop} {p:Keyed} (e:xs[i]?=some p) (h:Q p st):wpS (model prog w) A E s (elem' xs i) Q st:=by
 rw[elem'_eq,e]
 exact wpS_pure h
theorem wpS_ltG (K:Asks prog w A E s κ a₀ L) {st:SortSt} {i j:Nat} {Q:Option Bool->SortSt->Prop} (B:Bs κ a₀ st) (hi:i<a₀.size) (hj:j<a₀.size) (h:Q (some (L (G (arrOf st) i) (G (arrOf st) j))) st):wpS (model prog w) A E s (ltAt' i j) Q st:=by
 rw[ltAt'_eq]
 refine wpS_bind (wpS_get ?_)
 exact wpS_bind (wpS_elem (G_of (by rw[B.size];exact hi)) (wpS_bind (wpS_elem (G_of (by rw[B.size];exact hj)) (K _ _ _ _ (B.mem hi) (B.mem hj) B.kind h))))
theorem wpS_bin (O:Ord L) (K:Asks prog w A E s κ a₀ L) {st:SortSt} {lo n ok:Nat} {Q:Bool->SortSt->Prop} (hn:lo+n≤a₀.size) (hok:ok≤n) (B:Bs κ a₀ st) (hs:SOn L (arrOf st) lo (lo+ok))
  (h:∀ st',Bs κ a₀ st'->SOn L (arrOf st') lo (lo+n)->(∀ i,i<lo->G (arrOf st') i=G (arrOf st) i)->pendingOf st'=pendingOf st->Q true st'):wpS (model prog w) A E s (binarySort' lo n ok) Q st:=by
 rw[binarySort'_eq]
 refine wpS_bind (wpS_mono (wpS_forRange (I:=fun k c st'=>c=(none,())/\Bs κ a₀ st'/\SOn L (arrOf st') lo (lo+min k n)/\(∀ i,i<lo->G (arrOf st') i=G (arrOf st) i)/\pendingOf st'=pendingOf st)
  (Q:=fun c st'=>c=(none,())/\Bs κ a₀ st'/\SOn L (arrOf st') lo (lo+n)/\(∀ i,i<lo->G (arrOf st') i=G (arrOf st) i)/\pendingOf st'=pendingOf st) ?_ ?_ ?_) ?_)
 ·rintro k c st' hak hkn ⟨rfl,B',hs',ol,pe⟩
  rw[show min k n=k by (first|lia|omega)] at hs'
  have hk:lo+k<a₀.size:=by (first|lia|omega)
  refine wpS_bind (wpS_mono (wpS_forRange (I:=fun x c st''=>st''=st'/\∃ l r,c=(none,l,r)/\l≤r/\r≤k/\r - l≤k - x/\(∀ i,i<l->le L (G (arrOf st') (lo+i)) (G (arrOf st') (lo+k)))/\(∀ i,r≤i->i<k->le L (G (arrOf st') (lo+k)) (G (arrOf st') (lo+i))))
   (Q:=fun c st''=>st''=st'/\∃ l r,c=(none,l,r)/\l≤k/\(∀ i,i<l->le L (G (arrOf st') (lo+i)) (G (arrOf st') (lo+k)))/\(∀ i,l≤i->i<k->le L (G (arrOf st') (lo+k)) (G (arrOf st') (lo+i)))) ?_ ?_ ?_) ?_)
  ·rintro x c st'' _ hxk ⟨rfl,l,r,rfl,hlr,hrk,hm,h1,h2⟩
   dsimp only
   by_cases hge:l ≥ r
   ·rw[if_pos hge]
    have e:l=r:=by (first|lia|omega)
    subst e
    exact wpS_pure ⟨rfl,l,l,rfl,hrk,h1,h2⟩
   ·rw[if_neg hge]
    refine wpS_bind (wpS_ltG K B' hk (by (first|lia|omega)) ?_)
    cases hl:L (G (arrOf st'') (lo+k)) (G (arrOf st'') (lo+(l+r) / 2)) with
    | true=>
     simp only[if_true]
     exact wpS_pure ⟨rfl,l,(l+r) / 2,rfl,by (first|lia|omega),by (first|lia|omega),by (first|lia|omega),h1,fun i a b=>O.trans (O.ofLt hl) (hs' _ _ (by (first|lia|omega)) (by (first|lia|omega)) (by (first|lia|omega)))⟩
    | false=>
     simp only[Bool.false_eq_true,if_false]
     exact wpS_pure ⟨rfl,(l+r) / 2+1,r,rfl,by (first|lia|omega),by (first|lia|omega),by (first|lia|omega),fun i a=>O.trans (hs' (lo+i) (lo+(l+r) / 2) (by (first|lia|omega)) (by (first|lia|omega)) (by (first|lia|omega))) hl,h2⟩
  ·rintro c st'' ⟨rfl,l,r,rfl,hlr,hrk,hm,h1,h2⟩
   have e:l=r:=by (first|lia|omega)
   subst e
   exact⟨rfl,l,l,rfl,hrk,h1,h2⟩
  ·exact⟨rfl,0,k,rfl,by (first|lia|omega),by (first|lia|omega),by (first|lia|omega),fun i a=>by (first|lia|omega),fun i a b=>by (first|lia|omega)⟩
  ·rintro c st'' ⟨rfl,l,r,rfl,hlk,h1,h2⟩
   dsimp only
   rw[moveDown'_eq]
   have hz:lo+k<(arrOf st'').size:=by rw[B'.size];exact hk
   have ed:lo+k - (lo+l)=k - l:=by (first|lia|omega)
   refine wpS_bind (wpS_modify (wpS_pure ⟨rfl,B'.arr (bubble_perm _ _ _),?_,fun i hi=>?_,pe⟩))
   ·rw[show min (k+1) n=k+1 by (first|lia|omega)]
    intro i j a b c
    show le L (G (bubble (arrOf st'') (lo+k) (lo+k - (lo+l))) i) (G (bubble (arrOf st'') (lo+k) (lo+k - (lo+l))) j)
    rw[ed,G_bub hz (by (first|lia|omega)),G_bub hz (by (first|lia|omega)),show lo+k - (k - l)=lo+l by (first|lia|omega)]
    have f1:∀ i,lo≤i->i<lo+l->le L (G (arrOf st'') i) (G (arrOf st'') (lo+k)):=fun i a b=>by have:=h1 (i - lo) (by (first|lia|omega));rwa [show lo+(i - lo)=i by (first|lia|omega)] at this
    have f2:∀ i,lo+l≤i->i<lo+k->le L (G (arrOf st'') (lo+k)) (G (arrOf st'') i):=fun i a b=>by have:=h2 (i - lo) (by (first|lia|omega)) (by (first|lia|omega));rwa [show lo+(i - lo)=i by (first|lia|omega)] at this
    repeat' split
    all_goals first
     | (exfalso;(first|lia|omega))
     | exact O.refl _
     | exact f1 _ (by (first|lia|omega)) (by (first|lia|omega))
     | exact f2 _ (by (first|lia|omega)) (by (first|lia|omega))
     | exact hs' _ _ (by (first|lia|omega)) (by (first|lia|omega)) (by (first|lia|omega))
   ·show G (bubble (arrOf st'') (lo+k) (lo+k - (lo+l))) i=_
    rw[ed,G_bub hz (by (first|lia|omega)),if_neg (by (first|lia|omega)),if_neg (by (first|lia|omega))]
    exact ol i hi
 ·rintro c st' ⟨hc,B',hs',ol,pe⟩
  refine⟨hc,B',?_,ol,pe⟩
  rwa [show min (max (max ok 1) n) n=n by (first|lia|omega)] at hs'
 ·refine⟨rfl,B,?_,fun _ _=>rfl,rfl⟩
  by_cases h1:ok=0
  ·exact SOn.one O (by (first|lia|omega))
  ·exact hs.mono (Nat.le_refl _) (by (first|lia|omega))
 ·rintro c st' ⟨rfl,B',hs',ol,pe⟩
  exact wpS_pure (h st' B' hs' ol pe)
end
end SX
set_option maxRecDepth 100000
set_option linter.all false
set_option maxHeartbeats 1000000
set_option Elab.async false
namespace SX
open PySem PyProof.Rows
def upL (lo a r:Nat):StateT SortSt Sem (Option (Option Nat) × Nat):=
 forIn [a:r] ((none,a):Option (Option Nat) × Nat) fun _ c=>do
  let o <- ltAt' (lo+c.snd) (lo+c.snd - 1)
  match o with
  | some b=>if b=true then pure (ForInStep.done (none,c.snd)) else pure (ForInStep.yield (none,c.snd+1))
  | _=>pure (ForInStep.done (some none,c.snd))
def end3 (lo n r:Nat):StateT SortSt Sem (Option Nat):=do
 reverseSlice' lo (lo+n)
 let c <- upL lo n r
 match c.fst with
 | some o=>pure o
 | none=>pure (some c.snd)
def dnL (lo n r:Nat):StateT SortSt Sem (Option (Option Nat) × Nat × Nat):=
 forIn [n:r] ((none,n,0):Option (Option Nat) × Nat × Nat) fun _ c=>do
  let o <- ltAt' (lo+c.snd.fst) (lo+c.snd.fst - 1)
  match o with
  | some b=>
   if b=true then
    if c.snd.snd>0 then do
     reverseSlice' (lo+c.snd.fst - (c.snd.snd+1)) (lo+c.snd.fst)
     pure (ForInStep.yield (none,c.snd.fst+1,0))
    else pure (ForInStep.yield (none,c.snd.fst+1,0))
   else do
    let o2 <- ltAt' (lo+c.snd.fst - 1) (lo+c.snd.fst)
    match o2 with
    | some b2=>
     if b2=true then pure (ForInStep.done (none,c.snd.fst,c.snd.snd))
     else pure (ForInStep.yield (none,c.snd.fst+1,c.snd.snd+1))
    | _=>pure (ForInStep.done (some none,c.snd.fst,c.snd.snd))
  | _=>pure (ForInStep.done (some none,c.snd.fst,c.snd.snd))
def dnP (lo n r:Nat):StateT SortSt Sem (Option Nat):=do
 liftM (rule "list.sort.descending-run")
 let c <- dnL lo (n+1) r
 match c.fst with
 | some o=>pure o
 | none=>
  if c.snd.snd>0 then do
   reverseSlice' (lo+c.snd.fst - (c.snd.snd+1)) (lo+c.snd.fst)
   end3 lo c.snd.fst r
  else end3 lo c.snd.fst r
theorem cr_eq (lo r:Nat):countRun' lo r=(do
  let c <- upL lo 1 r
  match c.fst with
  | some o=>pure o
  | none=>
   if (c.snd == r)=true then pure (some c.snd)
   else if c.snd>1 then do
    let o <- ltAt' lo (lo+c.snd - 1)
    match o with
    | some b=>if b=true then pure (some c.snd) else do
      reverseSlice' lo (lo+c.snd)
      dnP lo c.snd r
    | _=>pure none
   else dnP lo c.snd r):=by
 rw[countRun'_eq]
 dsimp only
 unfold dnP end3 dnL upL
 congr 1
 funext c
 obtain⟨o,n⟩:=c
 cases o with
 | some o=>rfl
 | none=>
  dsimp only
  split
  ·rfl
  ·split
   ·congr 1
    funext x
    cases x with
    | none=>rfl
    | some b=>
     dsimp only
     split
     ·rfl
     ·congr 1
      funext _r
      congr 1
      funext _u
      congr 1
      congr 1
      funext c2
      obtain⟨o2,n2,q2⟩:=c2
      cases o2 with
      | some o2=>rfl
      | none=>
       dsimp only
       split
       ·congr 1
        funext _v
        congr 1
        funext _w
        congr 1
        funext c3
        obtain⟨o3,n3⟩:=c3
        cases o3 <;> rfl
       ·congr 1
        funext _w
        congr 1
        funext c3
        obtain⟨o3,n3⟩:=c3
        cases o3 <;> rfl
   ·congr 1
    funext _u
    congr 1
    congr 1
    funext c2
    obtain⟨o2,n2,q2⟩:=c2
    cases o2 with
    | some o2=>rfl
    | none=>
     dsimp only
     split
     ·congr 1
      funext _v
      congr 1
      funext _w
      congr 1
      funext c3
      obtain⟨o3,n3⟩:=c3
      cases o3 <;> rfl
     ·congr 1
      funext _w
      congr 1
      funext c3
      obtain⟨o3,n3⟩:=c3
      cases o3 <;> rfl
def NI (L:Keyed->Keyed->Bool) (xs:Array Keyed) (lo hi:Nat):Prop:=∀ i j,lo≤i->i≤j->j<hi->le L (G xs j) (G xs i)
abbrev eqv (L:Keyed->Keyed->Bool) (x y:Keyed):Prop:=le L x y/\le L y x
theorem mir_eqv {L:Keyed->Keyed->Bool} (O:Ord L) {xs:Array Keyed} {p q:Nat} (hq:q≤xs.size) (h:∀ k,p≤k->k<q->eqv L (G xs k) (G xs (q - 1))) (k:Nat):eqv L (G (mirror xs p q ((q - p) / 2)) k) (G xs k):=by
 rw[G_mir hq]
 split
 ·rename_i c
  have h1:=h (p+q - 1 - k) (by (first|lia|omega)) (by (first|lia|omega))
  have h2:=h k (by (first|lia|omega)) (by (first|lia|omega))
  exact⟨O.trans h1.1 h2.2,O.trans h2.1 h1.2⟩
 ·exact⟨O.refl _,O.refl _⟩
section
variable {prog:Program} {w:World} {A:Around} {E:Value->Shared->Prop} {s:Shared} {κ:SortKind} {a₀:Array Keyed} {L:Keyed->Keyed->Bool}
theorem wpS_upL (O:Ord L) (K:Asks prog w A E s κ a₀ L) {st:SortSt} {lo a r:Nat} {Q:Option (Option Nat) × Nat->SortSt->Prop} (hr:lo+r≤a₀.size) (ha:1≤a) (har:a≤r) (B:Bs κ a₀ st) (hs:SOn L (arrOf st) lo (lo+a))
  (h:∀ n,a≤n->n≤r->SOn L (arrOf st) lo (lo+n)->(n=r\/L (G (arrOf st) (lo+n)) (G (arrOf st) (lo+n - 1))=true)->Q (none,n) st):wpS (model prog w) A E s (upL lo a r) Q st:=by
 unfold upL
 refine wpS_forRange (I:=fun x c st'=>st'=st/\c=(none,x)/\SOn L (arrOf st) lo (lo+x)) ?_ ?_ ⟨rfl,rfl,hs⟩
 ·rintro x c st' hax hxr ⟨rfl,rfl,hs'⟩
  dsimp only
  refine wpS_bind (wpS_ltG K B (by (first|lia|omega)) (by (first|lia|omega)) ?_)
  cases hl:L (G (arrOf st') (lo+x)) (G (arrOf st') (lo+x - 1)) with
  | true=>
   simp only[if_true]
   exact wpS_pure (h x hax (by (first|lia|omega)) hs' (.inr hl))
  | false=>
   simp only[Bool.false_eq_true,if_false]
   exact wpS_pure ⟨rfl,rfl,hs'.snoc O (by (first|lia|omega)) hl⟩
 ·rintro c st' ⟨rfl,rfl,hs'⟩
  rw[show max a r=r by (first|lia|omega)] at hs' ⊢
  exact h r har (Nat.le_refl _) hs' (.inl rfl)
def Cnt (κ:SortKind) (a₀:Array Keyed) (L:Keyed->Keyed->Bool) (lo r:Nat) (st:SortSt) (Q:Option Nat->SortSt->Prop):Prop:=
 ∀ m st',Bs κ a₀ st'->1≤m->m≤r->SOn L (arrOf st') lo (lo+m)->(∀ i,i<lo->G (arrOf st') i=G (arrOf st) i)->pendingOf st'=pendingOf st->Q (some m) st'
theorem Cnt.from {lo r:Nat} {st st2:SortSt} {Q:Option Nat->SortSt->Prop} (h:Cnt κ a₀ L lo r st Q) (k1:∀ i,i<lo->G (arrOf st2) i=G (arrOf st) i) (k2:pendingOf st2=pendingOf st):Cnt κ a₀ L lo r st2 Q:=
 fun m st' b h1 h2 h3 h4 h5=>h m st' b h1 h2 h3 (fun i hi=>(h4 i hi).trans (k1 i hi)) (h5.trans k2)
theorem wpS_rev {st:SortSt} {i j:Nat} {Q:Unit->SortSt->Prop} (h:Q () (setArr st (mirror (arrOf st) i j ((j - i) / 2)))):wpS (model prog w) A E s (reverseSlice' i j) Q st:=by
 rw[reverseSlice'_eq]
 exact wpS_modify h
theorem wpS_end3 (O:Ord L) (K:Asks prog w A E s κ a₀ L) {st:SortSt} {lo n r:Nat} {Q:Option Nat->SortSt->Prop} (hr:lo+r≤a₀.size) (h1:1≤n) (hn:n≤r) (B:Bs κ a₀ st) (hs:NI L (arrOf st) lo (lo+n)) (h:Cnt κ a₀ L lo r st Q):wpS (model prog w) A E s (end3 lo n r) Q st:=by
 unfold end3
 have hz:lo+n≤(arrOf st).size:=by rw[B.size];(first|lia|omega)
 refine wpS_bind (wpS_rev ?_)
 have B':Bs κ a₀ (setArr st (mirror (arrOf st) lo (lo+n) ((lo+n - lo) / 2))):=B.arr (mirror_perm _ _ _ _)
 refine wpS_bind (wpS_upL O K hr h1 hn B' ?_ fun m hm1 hm2 hsm _=>wpS_pure (h m _ B' (by (first|lia|omega)) hm2 hsm (fun i hi=>?_) rfl))
 ·intro i j a b c
  show le L (G (mirror (arrOf st) lo (lo+n) ((lo+n - lo) / 2)) i) (G (mirror (arrOf st) lo (lo+n) ((lo+n - lo) / 2)) j)
  rw[G_mir hz,G_mir hz,if_pos (by (first|lia|omega)),if_pos (by (first|lia|omega))]
  exact hs _ _ (by (first|lia|omega)) (by (first|lia|omega)) (by (first|lia|omega))
 ·show G (mirror (arrOf st) lo (lo+n) ((lo+n - lo) / 2)) i=_
  rw[G_mir hz,if_neg (by (first|lia|omega))]
theorem wpS_dnL (O:Ord L) (K:Asks prog w A E s κ a₀ L) {st:SortSt} {lo n r:Nat} {Q:Option (Option Nat) × Nat × Nat->SortSt->Prop} (hr:lo+r≤a₀.size) (h1:1≤n) (hn:n≤r) (B:Bs κ a₀ st) (hs:NI L (arrOf st) lo (lo+n))
  (h:∀ m q st',Bs κ a₀ st'->n≤m->m≤r->NI L (arrOf st') lo (lo+m)->q+1≤m->(∀ i,lo+m - (q+1)≤i->i<lo+m->eqv L (G (arrOf st') i) (G (arrOf st') (lo+m - 1)))->(∀ i,i<lo->G (arrOf st') i=G (arrOf st) i)->pendingOf st'=pendingOf st->Q (none,m,q) st') :
  wpS (model prog w) A E s (dnL lo n r) Q st:=by
 unfold dnL
 refine wpS_forRange (I:=fun x c st'=>∃ q,c=(none,x,q)/\Bs κ a₀ st'/\NI L (arrOf st') lo (lo+x)/\q+1≤x/\(∀ i,lo+x - (q+1)≤i->i<lo+x->eqv L (G (arrOf st') i) (G (arrOf st') (lo+x - 1)))/\(∀ i,i<lo->G (arrOf st') i=G (arrOf st) i)/\pendingOf st'=pendingOf st) ?_ ?_
  ⟨0,rfl,B,hs,by (first|lia|omega),fun i a b=>by rw[show i=lo+n - 1 by (first|lia|omega)];exact⟨O.refl _,O.refl _⟩,fun _ _=>rfl,rfl⟩
 ·rintro x c st' hax hxr ⟨q,rfl,B',hs',hq,he,ol,pe⟩
  dsimp only
  have hz:lo+x≤(arrOf st').size:=by rw[B'.size];(first|lia|omega)
  refine wpS_bind (wpS_ltG K B' (by (first|lia|omega)) (by (first|lia|omega)) ?_)
  cases hl:L (G (arrOf st') (lo+x)) (G (arrOf st') (lo+x - 1)) with
  | true=>
   simp only[if_true]
   have stp:∀ xs:Array Keyed,(∀ k,eqv L (G xs k) (G (arrOf st') k))->NI L xs lo (lo+(x+1)):=by
    intro xs hk i j a b c
    refine O.trans (hk j).1 (O.trans ?_ (hk i).2)
    by_cases hj:j<lo+x
    ·exact hs' i j a b hj
    ·have ej:j=lo+x:=by (first|lia|omega)
     subst ej
     by_cases hi:i=lo+x
     ·subst hi;exact O.refl _
     ·exact O.trans (O.ofLt hl) (hs' i (lo+x - 1) a (by (first|lia|omega)) (by (first|lia|omega)))
   by_cases hp:q>0
   ·rw[if_pos hp]
    have me:=mir_eqv O hz he
    refine wpS_bind (wpS_rev (wpS_pure ⟨0,rfl,B'.arr (mirror_perm _ _ _ _),stp _ me,by (first|lia|omega),fun i a b=>by rw[show i=lo+(x+1) - 1 by (first|lia|omega)];exact⟨O.refl _,O.refl _⟩,fun i hi=>?_,pe⟩))
    show G (mirror (arrOf st') _ _ _) i=_
    rw[G_mir hz,if_neg (by (first|lia|omega))]
    exact ol i hi
   ·rw[if_neg hp]
    exact wpS_pure ⟨0,rfl,B',stp _ (fun _=>⟨O.refl _,O.refl _⟩),by (first|lia|omega),fun i a b=>by rw[show i=lo+(x+1) - 1 by (first|lia|omega)];exact⟨O.refl _,O.refl _⟩,ol,pe⟩
  | false=>
   simp only[Bool.false_eq_true,if_false]
   refine wpS_bind (wpS_ltG K B' (by (first|lia|omega)) (by (first|lia|omega)) ?_)
   cases hl2:L (G (arrOf st') (lo+x - 1)) (G (arrOf st') (lo+x)) with
   | true=>
    simp only[if_true]
    exact wpS_pure (h x q st' B' hax (by (first|lia|omega)) hs' hq he ol pe)
   | false=>
    simp only[Bool.false_eq_true,if_false]
    refine wpS_pure ⟨q+1,rfl,B',fun i j a b c=>?_,by (first|lia|omega),fun i a b=>?_,ol,pe⟩
    ·by_cases hj:j<lo+x
     ·exact hs' i j a b hj
     ·have ej:j=lo+x:=by (first|lia|omega)
      subst ej
      by_cases hi:i=lo+x
      ·subst hi;exact O.refl _
      ·exact O.trans hl2 (hs' i (lo+x - 1) a (by (first|lia|omega)) (by (first|lia|omega)))
    ·rw[show lo+(x+1) - 1=lo+x by (first|lia|omega)]
     by_cases hi:i=lo+x
     ·subst hi;exact⟨O.refl _,O.refl _⟩
     ·have z:=he i (by (first|lia|omega)) (by (first|lia|omega))
      exact⟨O.trans z.1 hl,O.trans hl2 z.2⟩
 ·rintro c st' ⟨q,rfl,B',hs',hq,he,ol,pe⟩
  rw[show max n r=r by (first|lia|omega)] at hs' hq he ⊢
  exact h r q st' B' hn (Nat.le_refl _) hs' hq he ol pe
theorem wpS_dnP (O:Ord L) (K:Asks prog w A E s κ a₀ L) {st:SortSt} {lo n r:Nat} {Q:Option Nat->SortSt->Prop} (hr:lo+r≤a₀.size) (hn:n+1≤r) (B:Bs κ a₀ st) (hs:NI L (arrOf st) lo (lo+(n+1))) (h:Cnt κ a₀ L lo r st Q):wpS (model prog w) A E s (dnP lo n r) Q st:=by
 unfold dnP
 refine wpS_bind (wpS_lift (wpAny_rule ⟨rfl,?_⟩))
 refine wpS_bind (wpS_dnL O K hr (by (first|lia|omega)) hn B hs fun m q st' B' hm1 hm2 hs' hq he ol pe=>?_)
 dsimp only
 have hz:lo+m≤(arrOf st').size:=by rw[B'.size];(first|lia|omega)
 by_cases hp:q>0
 ·rw[if_pos hp]
  have me:=mir_eqv O hz he
  refine wpS_bind (wpS_rev (wpS_end3 O K hr (by (first|lia|omega)) hm2 (B'.arr (mirror_perm _ _ _ _)) (fun i j a b c=>O.trans (me j).1 (O.trans (hs' i j a b c) (me i).2)) (h.from (fun i hi=>?_) pe)))
  show G (mirror (arrOf st') _ _ _) i=_
  rw[G_mir hz,if_neg (by (first|lia|omega))]
  exact ol i hi
 ·rw[if_neg hp]
  exact wpS_end3 O K hr (by (first|lia|omega)) hm2 B' hs' (h.from ol pe)
theorem wpS_count (O:Ord L) (K:Asks prog w A E s κ a₀ L) {st:SortSt} {lo r:Nat} {Q:Option Nat->SortSt->Prop} (hr:lo+r≤a₀.size) (h1:1≤r) (B:Bs κ a₀ st) (h:Cnt κ a₀ L lo r st Q):wpS (model prog w) A E s (countRun' lo r) Q st:=by
 rw[cr_eq]
 refine wpS_bind (wpS_upL O K hr (Nat.le_refl 1) h1 B (SOn.one O (by (first|lia|omega))) fun n hn1 hn2 hsn hor=>?_)
 dsimp only
 by_cases hnr:n=r
 ·rw[if_pos (by simpa using hnr)]
  exact wpS_pure (h n st B hn1 hn2 hsn (fun _ _=>rfl) rfl)
 ·rw[if_neg (by simpa using hnr)]
  have hlt:=hor.resolve_left hnr
  by_cases hgt:n>1
  ·rw[if_pos hgt]
   refine wpS_bind (wpS_ltG K B (by (first|lia|omega)) (by (first|lia|omega)) ?_)
   cases hl:L (G (arrOf st) lo) (G (arrOf st) (lo+n - 1)) with
   | true=>
    simp only[if_true]
    exact wpS_pure (h n st B hn1 hn2 hsn (fun _ _=>rfl) rfl)
   | false=>
    simp only[Bool.false_eq_true,if_false]
    have hz:lo+n≤(arrOf st).size:=by rw[B.size];(first|lia|omega)
    have al:∀ k,lo≤k->k<lo+n->eqv L (G (arrOf st) k) (G (arrOf st) (lo+n - 1)):=fun k a b=>⟨hsn k _ a (by (first|lia|omega)) (by (first|lia|omega)),O.trans hl (hsn lo k (Nat.le_refl _) a b)⟩
    have me:=mir_eqv O hz al
    refine wpS_bind (wpS_rev (wpS_dnP O K hr (by (first|lia|omega)) (B.arr (mirror_perm _ _ _ _)) (fun i j a b c=>O.trans (me j).1 (O.trans ?_ (me i).2)) (h.from (fun i hi=>?_) rfl)))
    ·by_cases hj:j<lo+n
     ·have z1:=al i a (by (first|lia|omega))
      have z2:=al j (by (first|lia|omega)) hj
      exact O.trans z2.1 z1.2
     ·have ej:j=lo+n:=by (first|lia|omega)
      subst ej
      by_cases hi:i=lo+n
      ·subst hi;exact O.refl _
      ·exact O.trans (O.ofLt hlt) (al i a (by (first|lia|omega))).2
    ·show G (mirror (arrOf st) _ _ _) i=_
     rw[G_mir hz,if_neg (by (first|lia|omega))]
  ·rw[if_neg hgt]
   have e1:n=1:=by (first|lia|omega)
   subst e1
   refine wpS_dnP O K hr (by (first|lia|omega)) B (fun i j a b c=>?_) h
   by_cases hi:i=j
   ·subst hi;exact O.refl _
   ·rw[show i=lo+1 - 1 by (first|lia|omega),show j=lo+1 by (first|lia|omega)]
    exact O.ofLt hlt
end
end SX
set_option maxRecDepth 100000
set_option linter.all false
set_option maxHeartbeats 1000000
set_option Elab.async false
namespace SX
open PySem PyProof.Rows
section
variable {prog:Program} {w:World} {A:Around} {E:Value->Shared->Prop} {s:Shared} {κ:SortKind} {a₀:Array Keyed} {L:Keyed->Keyed->Bool}
end
end SX
set_option maxRecDepth 100000
set_option linter.all false
set_option maxHeartbeats 1000000
set_option Elab.async false
namespace SX
open PySem PyProof.Rows
variable {L:Keyed->Keyed->Bool} {u v ou:Array Keyed} {i j:Nat}
end SX
set_option maxRecDepth 100000
set_option linter.all false
set_option maxHeartbeats 4000000
set_option Elab.async false
namespace SX
open PySem PyProof.Rows
theorem wpS_ite {M:Model} {A:Around} {E:Value->Shared->Prop} {s:Shared} {α:Type} {c:Prop} [Decidable c] {t e:StateT SortSt Sem α} {Q:α->SortSt->Prop} {st:SortSt} (h1:c->wpS M A E s t Q st) (h2:¬ c->wpS M A E s e Q st):wpS M A E s (if c then t else e) Q st:=by
 by_cases h:c
 ·rw[if_pos h];exact h1 h
 ·rw[if_neg h];exact h2 h
section
variable {prog:Program} {w:World} {A:Around} {E:Value->Shared->Prop} {s:Shared} {κ:SortKind} {a₀:Array Keyed} {L:Keyed->Keyed->Bool} {u v:Array Keyed}
end
end SX
set_option maxRecDepth 100000
set_option linter.all false
set_option maxHeartbeats 4000000
set_option Elab.async false
namespace SX
open PySem PyProof.Rows
variable {L:Keyed->Keyed->Bool} {u v ou:Array Keyed} {p q:Nat}
end SX
set_option maxRecDepth 100000
set_option linter.all false
set_option maxHeartbeats 4000000
set_option Elab.async false
namespace SX
open PySem PyProof.Rows
section
variable {prog:Program} {w:World} {A:Around} {E:Value->Shared->Prop} {s:Shared} {κ:SortKind} {a₀:Array Keyed} {L:Keyed->Keyed->Bool} {u v:Array Keyed}
end
end SX
set_option maxRecDepth 100000
set_option linter.all false
set_option maxHeartbeats 4000000
set_option Elab.async false
namespace SX
open PySem PyProof.Rows
theorem G_list {xs:Array Keyed} {i:Nat}:G xs i=(xs.toList[i]?).getD (Value.none,Value.none):=by
 unfold G
 rw[Array.getElem?_toList]
section
variable {prog:Program} {w:World} {A:Around} {E:Value->Shared->Prop} {s:Shared} {κ:SortKind} {a₀:Array Keyed} {L:Keyed->Keyed->Bool}
end
end SX
set_option maxRecDepth 100000
set_option linter.all false
set_option maxHeartbeats 4000000
set_option Elab.async false
namespace SX
open PySem PyProof.Rows
variable {L:Keyed->Keyed->Bool}
section
variable {prog:Program} {w:World} {A:Around} {E:Value->Shared->Prop} {s:Shared} {κ:SortKind} {a₀:Array Keyed}
end
end SX
set_option maxRecDepth 100000
set_option linter.all false
set_option maxHeartbeats 1000000
set_option Elab.async false
namespace L23
open PySem PySem.Spec PySem.W PyProof.Rows L2 L3 X8 M01 L6 L5 QL L8 L9 L10 L13 L20 L21 L22
section
variable {prog:Program} {w:World} {A:Around} {E:Value->Shared->Prop} {s:Shared}
end
end L23
set_option maxRecDepth 100000
set_option linter.all false
set_option maxHeartbeats 1000000
set_option Elab.async false
namespace L24
open PySem PySem.Spec PySem.W PyProof.Rows L2 L3 X8 M01 L6 L5 QL L8 L9 L10 L13 L20 L21 L22 L23
section
variable {prog:Program} {w:World} {A:Around} {E:Value->Shared->Prop} {s:Shared}
end
section
variable {prog:Program} {w:World} {A:Around} {E:Value->Shared->Prop} {κ:Type} [DecidableEq κ] {knd:KeyKind prog w κ} {R:Result->Shared->Prop}
end
section
variable {X:Cx}
end
end L24
set_option maxRecDepth 100000
set_option linter.all false
set_option maxHeartbeats 1000000
set_option Elab.async false
namespace L25
open PySem PySem.Spec PySem.W PyProof.Rows L2 L3 X8 M01 L6 L5 QL L8 L9 L10 L13 L20 L21 L22 L23 L24
section
variable {X:Cx}
end
end L25
set_option maxRecDepth 100000
set_option linter.all false
set_option maxHeartbeats 1000000
set_option Elab.async false
namespace L26
open PySem PySem.Spec PySem.W PyProof.Rows L2 L3 X8 M01 L6 L5 QL L8 L9 L10 L13 L20 L21 L22 L23 L24 L25
section
variable {prog:Program} {w:World} {A:Around} {E:Value->Shared->Prop} {s:Shared} {R:Result->Shared->Prop}
end
section
variable {X:Cx}
end
end L26
set_option maxRecDepth 100000
set_option linter.all false
set_option maxHeartbeats 1000000
set_option Elab.async false
namespace L27
open PySem PySem.Spec PySem.W PyProof.Rows L2 L3 X8 M01 L6 L5 QL L8 L9 L10 L13 L20 L21 L22 L23 L24 L25 L26
section
variable {X:Cx} {tg:Expr}
end
end L27
set_option maxRecDepth 100000
set_option linter.all false
set_option maxHeartbeats 1000000
set_option Elab.async false
namespace L28
open PySem PySem.Spec PySem.W PyProof.Rows L2 L3 X8 M01 L6 L5 QL L8 L9 L10 L13 L20 L21 L22 L23 L24 L25 L26 L27
section
variable {X:Cx}
theorem hu_d {A:Around} {k d:Nat} (hr:Room k A) (hd:d≤64):A.units+d<cLine:=Nat.lt_of_le_of_lt (Nat.add_le_add_left hd _) hr.units
theorem vals_of_ints:∀ {us:List Value} {ns:List Int},IntsAre us ns->Vals (ns.map V.int) us
 | _,_, .nil=> .nil
 | _,_, .cons i t h=> .cons ⟨t,rfl⟩ (vals_of_ints h)
end
end L28
set_option maxRecDepth 100000
set_option linter.all false
set_option maxHeartbeats 4000000
set_option Elab.async false
namespace SX
open PySem PyProof.Rows
section
variable {prog:Program} {w:World} {A:Around} {E:Value->Shared->Prop} {s:Shared} {L:Keyed->Keyed->Bool} {κ:SortKind}
def Told (prog:Program) (w:World) (A:Around) (E:Value->Shared->Prop) (s:Shared) (a:Addr) (vs:List Value) (κ:SortKind) (L:Keyed->Keyed->Bool):Prop:=
 2≤vs.length->∀ s6:Shared,(∃ h6,s6= { s with heap:=h6 })->(∀ b o,b≠a->s.heap.get? b=some o->s6.heap.get? b=some o)->(∀ Q:SortKind->Shared->Prop,Q κ s6->wpAny (model prog w) A (keyKind' vs.toArray) Q E s6)/\Asks prog w A E s6 κ (pairsOf vs) L
end
end SX
set_option maxRecDepth 100000
set_option linter.all false
set_option maxHeartbeats 4000000
set_option Elab.async false
namespace L60
open PySem PySem.Spec PyProof.Rows L2 L3 X8 M01 L6 L5 QL L8 L9 L10 L13 L20 L21 L22 L44 SX
structure LtOrd {α:Type} (lt:α->α->Bool):Prop where
 asy:∀ a b,lt a b=true->lt b a=false
 tot:∀ a b,lt a b=false->lt b a=false->a=b
 neg:∀ a b c,lt a c=true->lt a b=true\/lt b c=true
theorem LtOrd.irr {α:Type} {lt:α->α->Bool} (h:LtOrd lt) (a:α):lt a a=false:=by
 cases e:lt a a with
 | false=>rfl
 | true=>rw[h.asy _ _ e] at e;cases e
theorem ord_int:LtOrd ltI where
 asy:=fun a b h=>by unfold ltI at *;simp at *;(first|lia|omega)
 tot:=fun a b h k=>by unfold ltI at *;simp at *;(first|lia|omega)
 neg:=fun a b c h=>by unfold ltI at *;simp at *;(first|lia|omega)
theorem ord_nil:LtOrd ltNil where
 asy:=fun a b h=>rfl
 tot:=fun a b h k=>rfl
 neg:=fun a b c h=>by cases h
theorem ord_cons {α β:Type} [DecidableEq α] {l1:α->α->Bool} {l2:β->β->Bool} (h1:LtOrd l1) (h2:LtOrd l2):LtOrd (ltCons l1 l2) where
 asy:=fun a b h=>by
  unfold ltCons at *
  by_cases e:a.1=b.1
  ·rw[if_pos e] at h;rw[if_pos e.symm];exact h2.asy _ _ h
  ·rw[if_neg e] at h;rw[if_neg (fun z=>e z.symm)];exact h1.asy _ _ h
 tot:=fun a b h k=>by
  unfold ltCons at *
  by_cases e:a.1=b.1
  ·rw[if_pos e] at h;rw[if_pos e.symm] at k;exact Prod.ext e (h2.tot _ _ h k)
  ·rw[if_neg e] at h;rw[if_neg (fun z=>e z.symm)] at k;exact absurd (h1.tot _ _ h k) e
 neg:=fun a b c h=>by
  unfold ltCons at *
  by_cases e1:a.1=b.1
  ·by_cases e2:b.1=c.1
   ·rw[if_pos (e1.trans e2)] at h;rw[if_pos e1,if_pos e2];exact h2.neg _ _ _ h
   ·rw[if_neg (fun z=>e2 (e1.symm.trans z))] at h
    rw[if_neg e2, <- e1]
    exact .inr h
  ·by_cases e2:b.1=c.1
   ·rw[if_neg (fun z=>e1 (z.trans e2.symm))] at h
    rw[if_neg e1,e2]
    exact .inl h
   ·rw[if_neg e1,if_neg e2]
    by_cases e3:a.1=c.1
    ·cases hab:l1 a.1 b.1 with
     | true=>exact .inl rfl
     | false=>
      right
      rw[<- e3]
      cases hba:l1 b.1 a.1 with
      | true=>rfl
      | false=>exact absurd (h1.tot _ _ hab hba) e1
    ·rw[if_neg e3] at h
     exact h1.neg _ _ _ h
section
variable {X:Cx}
def Lk {α:Type} (lt:α->α->Bool) (key:Value->α):Keyed->Keyed->Bool:=fun x y=>lt (key x.1) (key y.1)
theorem ord_key {α:Type} {lt:α->α->Bool} (h:LtOrd lt) (key:Value->α):Ord (Lk lt key):=⟨fun _ _=>h.asy _ _,fun _ _ _=>h.neg _ _ _⟩
theorem told_int {prog:Program} {w:World} {A:Around} {E:Value->Shared->Prop} {s:Shared} {a:Addr} {vs:List Value} {ns:List Int} (hI:IntsAre vs ns):Told prog w A E s a vs oneType' (Lk ltI numOf):=by
 intro h2 s6 _ _
 refine⟨fun Q q=>?_,?_⟩
 ·obtain⟨v1,v2,r,rfl⟩:∃ v1 v2 r,vs=v1 :: v2 :: r:=by
   match vs,h2 with
   | [],h=>simp at h
   | [_],h=>simp at h
   | v1 :: v2 :: r,_=>exact⟨v1,v2,r,rfl⟩
  rw[keyKind_ints hI]
  exact wpAny_pure q
 ·intro x y st Q hx hy hk q
  rw[pairsOf_toList] at hx hy
  obtain⟨n,t,e⟩:=hI.all _ (mem_zip_self hx).2
  obtain⟨m,u,f⟩:=hI.all _ (mem_zip_self hy).2
  rw[lt'_eq]
  refine wpS_bind (wpS_get ?_)
  have q':Q (some (decide (n<m))) st:=by
   have:Lk ltI numOf x y=decide (n<m):=by unfold Lk ltI;rw[e,f];rfl
   rw[<- this];exact q
  rw[hk,keyLt'_oneType,e,f]
  exact wpS_bind (wpS_lift (wpAny_attempt (oneLt_int ⟨rfl,wpS_pure q'⟩)))
end
end L60
set_option linter.all false
set_option Elab.async false
namespace M20
open PySem L2 M01 M11 M14
def sumW (W:Int->Bool) (D:List (Int × Int)):Int:=((D.filter fun q=>W q.1).map (·.2)).sum
theorem sumW_nil (W:Int->Bool):sumW W []=0:=rfl
theorem sumW_cons (W:Int->Bool) (q:Int × Int) (D:List (Int × Int)):sumW W (q :: D)=(if W q.1=true then q.2 else 0)+sumW W D:=by
 unfold sumW
 by_cases h:W q.1=true
 ·rw[List.filter_cons,if_pos h,if_pos h,List.map_cons,List.sum_cons]
 ·rw[List.filter_cons,if_neg h,if_neg h]
  (first|lia|omega)
theorem sumW_append (W:Int->Bool) (A B:List (Int × Int)):sumW W (A ++ B)=sumW W A+sumW W B:=by
 induction A with
 | nil=>rw[List.nil_append,sumW_nil];(first|lia|omega)
 | cons q A ih=>rw[List.cons_append,sumW_cons,sumW_cons,ih];(first|lia|omega)
theorem sumW_none {W:Int->Bool} {A:List (Int × Int)} (h:∀ q∈A,W q.1=false):sumW W A=0:=by
 induction A with
 | nil=>rfl
 | cons q A ih=>
  rw[sumW_cons,h q (List.mem_cons_self ..),ih fun x hx=>h x (List.mem_cons_of_mem _ hx)]
  rfl
theorem sumW_all {W:Int->Bool} {A:List (Int × Int)} (h:∀ q∈A,W q.1=true):sumW W A=(A.map (·.2)).sum:=by
 induction A with
 | nil=>rfl
 | cons q A ih=>rw[sumW_cons,h q (List.mem_cons_self ..),ih fun x hx=>h x (List.mem_cons_of_mem _ hx),List.map_cons,List.sum_cons,if_pos rfl]
theorem sumW_perm {W:Int->Bool} {A B:List (Int × Int)} (h:A.Perm B):sumW W A=sumW W B:=by
 induction h with
 | nil=>rfl
 | cons q _ ih=>rw[sumW_cons,sumW_cons,ih]
 | swap p q l=>rw[sumW_cons,sumW_cons,sumW_cons,sumW_cons];(first|lia|omega)
 | trans _ _ ih1 ih2=>rw[ih1,ih2]
def addQ (D:List (Int × Int)) (h p:Int):List (Int × Int):=setQ D h ((getQ D h).getD 0+p)
theorem addQ_cons_eq {q:Int × Int} {r:List (Int × Int)} {h p:Int} (e:q.1=h):addQ (q :: r) h p=(h,q.2+p) :: r:=by
 unfold addQ setQ getQ
 rw[if_pos e,if_pos e]
 rfl
theorem addQ_cons_ne {q:Int × Int} {r:List (Int × Int)} {h p:Int} (e:¬ q.1=h):addQ (q :: r) h p=q :: addQ r h p:=by
 unfold addQ
 rw[show setQ (q :: r) h ((getQ (q :: r) h).getD 0+p)=q :: setQ r h ((getQ (q :: r) h).getD 0+p) from by
  rw[setQ,if_neg e]]
 rw[show getQ (q :: r) h=getQ r h from by rw[getQ,if_neg e]]
theorem addQ_sum (W:Int->Bool) (h p:Int):∀ D:List (Int × Int),sumW W (addQ D h p)=sumW W D+if W h=true then p else 0
 | []=>by
  show sumW W [(h,0+p)]=0+_
  rw[sumW_cons,sumW_nil]
  dsimp only
  split <;> (first|lia|omega)
 | q :: r=>by
  by_cases e:q.1=h
  ·rw[addQ_cons_eq e,sumW_cons,sumW_cons,e]
   dsimp only
   split <;> (first|lia|omega)
  ·rw[addQ_cons_ne e,sumW_cons,sumW_cons,addQ_sum W h p r]
   (first|lia|omega)
theorem addQ_mem (h p x:Int):∀ D:List (Int × Int),x∈(addQ D h p).map (·.1)↔x=h\/x∈D.map (·.1)
 | []=>by
  show x∈[h]↔x=h\/x∈([]:List Int)
  simp
 | q :: r=>by
  by_cases e:q.1=h
  ·rw[addQ_cons_eq e,List.map_cons,List.map_cons,List.mem_cons,List.mem_cons,e]
   constructor
   ·rintro(z | z)
    ·exact .inl z
    ·exact .inr (.inr z)
   ·rintro(z | z | z)
    ·exact .inl z
    ·exact .inl z
    ·exact .inr z
  ·rw[addQ_cons_ne e,List.map_cons,List.map_cons,List.mem_cons,List.mem_cons,addQ_mem h p x r]
   constructor
   ·rintro(z | z | z)
    ·exact .inr (.inl z)
    ·exact .inl z
    ·exact .inr (.inr z)
   ·rintro(z | z | z)
    ·exact .inr (.inl z)
    ·exact .inl z
    ·exact .inr (.inr z)
theorem addQ_ks {h p:Int}:∀ {D:List (Int × Int)},Ks D->Ks (addQ D h p)
 | [],_=>by show List.Nodup [h];simp
 | q :: r,k=>by
  have k':(q.1 :: r.map (·.1)).Nodup:=k
  obtain⟨k1,k2⟩:=List.nodup_cons.mp k'
  by_cases e:q.1=h
  ·rw[addQ_cons_eq e]
   show (h :: r.map (·.1)).Nodup
   rw[<- e]
   exact k'
  ·rw[addQ_cons_ne e]
   show (q.1 :: (addQ r h p).map (·.1)).Nodup
   refine List.nodup_cons.mpr ⟨fun z=>?_,addQ_ks (D:=r) k2⟩
   rcases(addQ_mem h p q.1 r).mp z with y | y
   ·exact e y
   ·exact k1 y
theorem addQ_len (h p:Int) (D:List (Int × Int)):(addQ D h p).length≤D.length+1:=by
 induction D with
 | nil=>exact Nat.le_refl _
 | cons q r ih=>
  by_cases e:q.1=h
  ·rw[addQ_cons_eq e];simp
  ·rw[addQ_cons_ne e,List.length_cons,List.length_cons];(first|lia|omega)
structure Books (D ev:List (Int × Int)):Prop where
 ks:Ks D
 sum:∀ W,sumW W D=sumW W ev
 mem:∀ x,x∈D.map (·.1)↔x∈ev.map (·.1)
 len:D.length≤ev.length
theorem Books.nil:Books [] []:=⟨List.nodup_nil,fun _=>rfl,fun _=>Iff.rfl,Nat.le_refl _⟩
theorem Books.add {D ev:List (Int × Int)} (b:Books D ev) (h p:Int):Books (addQ D h p) (ev ++ [(h,p)]):=by
 refine⟨addQ_ks b.ks,fun W=>?_,fun x=>?_,?_⟩
 ·rw[addQ_sum,sumW_append,b.sum W,sumW_cons,sumW_nil]
  dsimp only
  (first|lia|omega)
 ·rw[addQ_mem,List.map_append,List.mem_append,b.mem x]
  constructor
  ·rintro(z | z)
   ·exact .inr (by rw[z];simp)
   ·exact .inl z
  ·rintro(z | z)
   ·exact .inr z
   ·exact .inl (by simpa using z)
 ·have:=addQ_len h p D
  have:=b.len
  rw[List.length_append]
  show _≤_+1
  (first|lia|omega)
theorem rise_uniq:∀ {as bs:List Int},as.Pairwise (· < ·)->bs.Pairwise (· < ·)->(∀ x,x∈as↔x∈bs)->as=bs
 | [],[],_,_,_=>rfl
 | [],b :: bs,_,_,h=>by have:=(h b).mpr (List.mem_cons_self ..);cases this
 | a :: as,[],_,_,h=>by have:=(h a).mp (List.mem_cons_self ..);cases this
 | a :: as,b :: bs,ha,hb,h=>by
  obtain⟨a1,a2⟩:=List.pairwise_cons.mp ha
  obtain⟨b1,b2⟩:=List.pairwise_cons.mp hb
  have e:a=b:=by
   have m1:=(h a).mp (List.mem_cons_self ..)
   have m2:=(h b).mpr (List.mem_cons_self ..)
   rcases List.mem_cons.mp m1 with z | z
   ·exact z
   ·rcases List.mem_cons.mp m2 with y | y
    ·exact y.symm
    ·have:=b1 a z
     have:=a1 b y
     (first|lia|omega)
  subst e
  rw[rise_uniq a2 b2 fun x=>?_]
  have hx:=h x
  rw[List.mem_cons,List.mem_cons] at hx
  constructor
  ·intro z
   rcases hx.mp (.inr z) with y | y
   ·have:=a1 x z;(first|lia|omega)
   ·exact y
  ·intro z
   rcases hx.mpr (.inr z) with y | y
   ·have:=b1 x z;(first|lia|omega)
   ·exact y
theorem rise_of {ns ks:List Int} (p:ns.Perm ks) (nd:ks.Nodup) (s:ns.Pairwise (·≤·)):ns.Pairwise (· < ·):=
 (s.and (p.nodup_iff.mpr nd)).imp fun ⟨h1,h2⟩=>by (first|lia|omega)
def val (D:List (Int × Int)) (h:Int):Int:=(getQ D h).getD 0
def pre (D:List (Int × Int)) (hs:List Int) (n:Nat):Int:=((hs.take n).map (val D)).sum
theorem pre_succ {D:List (Int × Int)} {hs:List Int} {n:Nat} {h:Int} (e:hs[n]?=some h):pre D hs (n+1)=pre D hs n+val D h:=by
 unfold pre
 rw[List.take_add_one,e,List.map_append,List.sum_append]
 show _+(val D h+0)=_
 (first|lia|omega)
def win (h w:Int) (x:Int):Bool:=decide (h - w<x/\x≤h)
theorem tab_perm {D:List (Int × Int)} {hs:List Int} (k:Ks D) (p:hs.Perm (D.map (·.1))):(hs.map fun h=>(h,val D h)).Perm D:=by
 refine(p.map fun h=>(h,val D h)).trans ?_
 rw[List.map_map]
 have:(D.map ((fun h=>(h,val D h)) ∘ (·.1)))=D:=by
  conv=>rhs;rw[<- List.map_id D]
  refine List.map_congr_left fun q hq=>?_
  show (q.1,val D q.1)=q
  unfold val
  rw[getQ_mem k hq]
  rfl
 rw[this]
theorem sum_seg {D:List (Int × Int)} {hs:List Int} (k:Ks D) (p:hs.Perm (D.map (·.1))) (r:hs.Pairwise (· < ·)) {i f:Nat} {h w:Int} (e:hs[i]?=some h) (hf:f≤i) (lo:∀ j x,j<f->hs[j]?=some x->x≤h - w) (hi:∀ x,hs[f]?=some x->h - w<x) :
  sumW (win h w) D=pre D hs (i+1) - pre D hs f:=by
 have il:=(List.getElem?_eq_some_iff.mp e).1
 have ev:=(List.getElem?_eq_some_iff.mp e).2
 have rise:∀ {j m:Nat} (hj:j<hs.length) (hm:m<hs.length),j<m->hs[j]<hs[m]:=fun hj hm hl=>List.pairwise_iff_getElem.mp r _ _ hj hm hl
 have e1:=sumW_perm (W:=win h w) (tab_perm k p)
 rw[<- e1]
 have cut:hs.map (fun h=>(h,val D h))=((hs.take f).map fun h=>(h,val D h)) ++ ((((hs.take (i+1)).drop f).map fun h=>(h,val D h)) ++ ((hs.drop (i+1)).map fun h=>(h,val D h))):=by
  rw[<- List.map_append, <- List.map_append]
  congr 1
  have a1:hs.take (i+1)=hs.take f ++ (hs.take (i+1)).drop f:=by
   have:(hs.take (i+1)).take f=hs.take f:=by rw[List.take_take];congr 1;(first|lia|omega)
   rw[<- this,List.take_append_drop]
  rw[<- List.append_assoc, <- a1,List.take_append_drop]
 rw[cut,sumW_append,sumW_append]
 have n1:sumW (win h w) ((hs.take f).map fun h=>(h,val D h))=0:=sumW_none fun q hq=>by
  obtain⟨x,hx,rfl⟩:=List.mem_map.mp hq
  obtain⟨j,hj,ej⟩:=List.mem_iff_getElem.mp hx
  rw[List.length_take] at hj
  rw[List.getElem_take] at ej
  have:=lo j x (by (first|lia|omega)) (by rw[List.getElem?_eq_getElem (by (first|lia|omega)),ej])
  exact decide_eq_false (by dsimp only;(first|lia|omega))
 have n3:sumW (win h w) ((hs.drop (i+1)).map fun h=>(h,val D h))=0:=sumW_none fun q hq=>by
  obtain⟨x,hx,rfl⟩:=List.mem_map.mp hq
  obtain⟨j,hj,ej⟩:=List.mem_iff_getElem.mp hx
  rw[List.length_drop] at hj
  rw[List.getElem_drop] at ej
  have:=rise il (show i+1+j<hs.length by (first|lia|omega)) (by (first|lia|omega))
  rw[ev,ej] at this
  exact decide_eq_false (by dsimp only;(first|lia|omega))
 have n2:sumW (win h w) (((hs.take (i+1)).drop f).map fun h=>(h,val D h))=((((hs.take (i+1)).drop f).map fun h=>(h,val D h)).map (·.2)).sum:=sumW_all fun q hq=>by
  obtain⟨x,hx,rfl⟩:=List.mem_map.mp hq
  obtain⟨j,hj,ej⟩:=List.mem_iff_getElem.mp hx
  rw[List.length_drop,List.length_take] at hj
  rw[List.getElem_drop,List.getElem_take] at ej
  have b1:x≤h:=by
   by_cases z:f+j=i
   ·rw[<- ej, <- ev];simp[z]
   ·have:=rise (show f+j<hs.length by (first|lia|omega)) il (by (first|lia|omega))
    rw[ev,ej] at this
    (first|lia|omega)
  have b2:h - w<x:=by
   have fv:=hi _ (List.getElem?_eq_getElem (show f<hs.length by (first|lia|omega)))
   by_cases z:j=0
   ·subst z;rw[<- ej];exact fv
   ·have:=rise (show f<hs.length by (first|lia|omega)) (show f+j<hs.length by (first|lia|omega)) (by (first|lia|omega))
    rw[ej] at this
    (first|lia|omega)
  exact decide_eq_true ⟨b2,b1⟩
 rw[n1,n2,n3,List.map_map]
 have e5:pre D hs (i+1)=pre D hs f+(((hs.take (i+1)).drop f).map (val D)).sum:=by
  unfold pre
  rw[<- List.sum_append, <- List.map_append]
  congr 2
  have:(hs.take (i+1)).take f=hs.take f:=by rw[List.take_take];congr 1;(first|lia|omega)
  rw[<- this,List.take_append_drop]
 rw[e5]
 show 0+((((hs.take (i+1)).drop f).map (val D)).sum+0)=_
 (first|lia|omega)
end M20
set_option maxRecDepth 100000
set_option linter.all false
set_option maxHeartbeats 4000000
set_option Elab.async false
namespace L14
open PySem L2
theorem if_tot {tc:TT} {t u:TS} {D:Ends} {σ:L2.St} {H:Hp} (h:∀ Q':Bool->Hp->Prop,(∀ c H',Same H H'->Q' c H')->tc σ H Q') (k1:∀ H',Same H H'->t D σ H') (k2:∀ H',Same H H'->u D σ H'):tIfS tc t u D σ H:=
 h _ fun c H' s=>by
  cases c
  ·exact iteF (k2 H' s)
  ·exact iteT (k1 H' s)
end L14
set_option maxRecDepth 100000
set_option linter.all false
set_option maxHeartbeats 4000000
set_option Elab.async false
namespace L13
open PySem PySem.Spec PyProof.Rows L2 L3 L6 X8 QL M01
end L13
set_option maxRecDepth 100000
set_option linter.all false
set_option maxHeartbeats 4000000
set_option Elab.async false
namespace L16
open PySem PySem.Spec PyProof.Rows L2 L3 L6 X8 QL M01 L13
section
variable {X:Cx}
theorem qe_dget2 {o e f:Expr} {apos cpos:Pos} {td ty tx:TE} (hu:X.A.units+1<cLine) (ho:QE X o td) (he:QE X e ty) (hf:QE X f tx) (m:M2 X o "get" apos e f cpos):QE X (.Call (.Attribute o "get" apos) [e,f] [] cpos) (tDGet2 td ty tx):=⟨pe_dget2 hu ho.h he.h hf.h m⟩
end
end L16
set_option maxRecDepth 100000
set_option linter.all false
set_option maxHeartbeats 1000000
set_option Elab.async false
namespace L66
open PySem PySem.Spec PyProof.Rows L2 L3 L6 X8 QL M01 L13 L22
section
variable {X:Cx} {CX:CXT} {k:Nat} {C f:Addr} {fd:FuncData} {ps:List Str} {sp:Sp} {dvs:List V} {ds:List Value} {E:XK} {x:Str} {p pos:Pos} {e:Expr} {es:List Expr} {t:TA}
end
section
variable {X:Cx} {α:Type} [DecidableEq α] {d:Nat} {r:Rp α}
def rpK (K:PySem.W.Frag):Rp (List Int):=fun H v ns=>∃ p,v= .ref p/\SqT K H p (ns.map V.int)
end
end L66
set_option maxRecDepth 100000
set_option linter.all false
set_option maxHeartbeats 4000000
set_option Elab.async false
namespace L61
open PySem PySem.Spec PySem.W PyProof.Rows L2 L3 X8 M01 L6 L5 QL L8 L9 L10 L13 L20 L21 L22 L44 L60 SX
section
variable {prog:Program} {w:World} {A:Around} {s:Shared} {fin:Bool} {Q:Bool->Shared->Prop}
theorem katrest {fin:Bool}:∀ (its its2:List Value) (e l:Nat->Bool) (i:Nat),(∀ j (h1:j<its.length) (h2:j<its2.length),SeqAt.EqAt A s its[j] its2[j] (e j))->(∀ j (h1:j<its.length) (h2:j<its2.length),SeqAt.RcLtAt A s its[j] its2[j] (l j))->
  Q (SeqAt.lexB e l fin (List.range (min its.length its2.length))) s->KatLex prog w A true fin Q (its.zip its2) (i+1) s
 | [],its2,e,l,i,_,_,q=>by
  rw[List.zip_nil_left]
  have:List.range (min ([]:List Value).length its2.length)=[]:=by simp
  rw[this] at q
  exact kat_nil q
 | x :: its,[],e,l,i,_,_,q=>by
  rw[List.zip_nil_right]
  have:List.range (min (x :: its).length ([]:List Value).length)=[]:=by simp
  rw[this] at q
  exact kat_nil q
 | x :: its,y :: its2,e,l,i,he,hl,q=>by
  rw[List.zip_cons_cons]
  rw[List.length_cons,List.length_cons,Nat.succ_min_succ,List.range_succ_eq_map] at q
  have q':Q (if e 0=true then SeqAt.lexB e l fin ((List.range (min its.length its2.length)).map Nat.succ) else l 0) s:=q
  refine kat_cons (he 0 (Nat.succ_pos _) (Nat.succ_pos _) prog w _ _ ?_)
  refine kat_go (fun c=>kat_yes ?_) (fun c=>kat_no ?_)
  ·rw[if_pos c,lexB_succ (e':=fun j=>e (j+1)) (l':=fun j=>l (j+1)) (fun _=>rfl) (fun _=>rfl)] at q'
   exact katrest its its2 _ _ (i+1) (fun j h1 h2=>he (j+1) (Nat.succ_lt_succ h1) (Nat.succ_lt_succ h2)) (fun j h1 h2=>hl (j+1) (Nat.succ_lt_succ h1) (Nat.succ_lt_succ h2)) q'
  ·rw[if_neg (by rw[c];decide)] at q'
   have:(true && (i+1 == 0))=false:=by simp
   rw[this]
   exact kat_one _ _ (hl 0 (Nat.succ_pos _) (Nat.succ_pos _) prog w _ _ q')
end
theorem refs_of:∀ {ps:List Addr} {us:List Value},Vals (ps.map V.ref) us->us=ps.map Value.ref
 | [],_,h=>by cases h;rfl
 | p :: r,us,h=>by
  rw[List.map_cons] at h
  cases h with
  | cons h1 h2=>
   cases h1
   rw[refs_of h2]
   rfl
theorem vals_refs:∀ ps:List Addr,Vals (ps.map V.ref) (ps.map Value.ref)
 | []=> .nil
 | p :: r=> .cons rfl (vals_refs r)
theorem perm_refs {ps qs:List Addr} (h:(ps.map Value.ref).Perm (qs.map Value.ref)):ps.Perm qs:=by
 have f:∀ l:List Addr,(l.map Value.ref).map (fun v=>match v with | .ref p=>p | _=>0)=l:=fun l=>by rw[List.map_map];exact List.map_id l
 have:=h.map (fun v=>match v with | .ref p=>p | _=>0)
 rwa [f,f] at this
section
variable {X:Cx} {β:Type} [DecidableEq β] {d:Nat} {R:Rw β} {l2:β->β->Bool}
noncomputable def kyR [Inhabited β] (R:Rw β) (H:Hp) (v:Value):Int × β:=by
 classical
 exact match v with
 | .ref p=>if h:∃ a,rpTup (rwCons rpI R) H (.ref p) a then h.choose else (0,default)
 | _=>(0,default)
theorem kyR_of [Inhabited β] (h:RowOk X d R l2) {H:Hp} {p:Addr} {a:Int × β} (k:rpTup (rwCons rpI R) H (.ref p) a):kyR R H (.ref p)=a:=by
 classical
 unfold kyR
 have hh:∃ a,rpTup (rwCons rpI R) H (.ref p) a:=⟨a,k⟩
 simp only[dif_pos hh]
 exact(cmp_tup (X:=X) (row_cons (cmp_int.up (Nat.zero_le d)) h)).fn H _ _ _ hh.choose_spec k
theorem told_row [Inhabited β] (h:RowOk X d R l2) {pins:List (Addr × Obj)} {s:Shared} {σ:L2.St} {H:Hp} (I:Inv X pins σ H s) {ps:List Addr} {as:List (Int × β)} (hp:Fa (rpTup (rwCons rpI R) H) (ps.map V.ref) as) {A:Around} (hu:A.units+(d+1)<cLine) {E:Value->Shared->Prop} {s':Shared} {a:Addr} (ha:s.heap.objs.size≤a)
  (hs:∃ h' t',s'= { s with heap:=h',toks:=t' }) (kp:∀ b o,s.heap.get? b=some o->s'.heap.get? b=some o):Told X.prog X.w A E s' a (ps.map Value.ref) (tuples' true) (Lk (ltCons ltI l2) (kyR R H)):=by
 intro h2 s6 h6 k6
 obtain⟨h',t',rfl⟩:=hs
 obtain⟨h6,rfl⟩:=h6
 have J:Inv X pins σ H { s with heap:=h6,toks:=t' }:=I.kept (t':=t') fun b o e=>k6 b o (Nat.ne_of_lt (Nat.lt_of_lt_of_le (Heap.lt_size e) ha)) (kp b o e)
 have at_:∀ p∈ps,∃ x,rpTup (rwCons rpI R) H (.ref p) x:=fun p hpp=>by
  obtain⟨i,hi,e⟩:=List.getElem_of_mem hpp
  have l1:=hp.len
  rw[List.length_map] at l1
  have z:=hp.at (j:=i) (by rw[List.length_map];exact hi) (by (first|lia|omega))
  rw[List.getElem_map,e] at z
  exact⟨_,z⟩
 refine⟨fun Q q=>?_,?_⟩
 ·have ft:∀ (ps:List Addr),(∀ p∈ps,∃ x,rpTup (rwCons rpI R) H (.ref p) x)->∃ fs:List Value,fs.length=ps.length/\KatTups h6 (ps.map Value.ref) fs/\∀ v∈fs,∃ n t,v= .int n t:=by
   intro ps
   induction ps with
   | nil=>intro _;exact⟨[],rfl,KatTups.nil,fun v hv=>by simp at hv⟩
   | cons p r ih=>
    intro hh
    obtain⟨fs,z1,z2,z3⟩:=ih fun p hp=>hh p (List.mem_cons_of_mem _ hp)
    obtain⟨x,p',vs,ep,e3,v,rest,rfl,f1,f2⟩:=hh p List.mem_cons_self
    cases ep
    have f1':v= .int x.1:=f1
    subst f1'
    obtain⟨its,r1,⟨o1,b1,b2,n1,b3⟩,_⟩:=J.tuple (SqT.of (K:=X.K) e3)
    cases r1 with
    | @cons _ u _ us c1 c2=>
     obtain⟨t1,rfl⟩:=c1
     refine⟨.int x.1 t1 :: fs,by rw[List.length_cons,List.length_cons,z1],KatTups.cons b1 b2 b3 rfl z2,fun v hv=>?_⟩
     rcases List.mem_cons.mp hv with z | z
     ·exact⟨_,_,z⟩
     ·exact z3 v z
  obtain⟨fs,z1,z2,z3⟩:=ft ps at_
  refine kat_kind (T:= .type "int") z2 (by rw[List.length_map] at h2;(first|lia|omega)) (fun v hv=>?_) rfl q
  obtain⟨n,t,rfl⟩:=z3 v hv
  exact .now
 ·intro x y st Q hx hy hk q
  rw[pairsOf_toList] at hx hy
  obtain⟨p,hp1,e1⟩:=List.mem_map.mp (mem_zip_self hx).2
  obtain⟨r,hr1,e2⟩:=List.mem_map.mp (mem_zip_self hy).2
  obtain⟨ax,kx⟩:=at_ p hp1
  obtain⟨ay,ky⟩:=at_ r hr1
  have q':Q (some (ltCons ltI l2 ax ay)) st:=by
   have:Lk (ltCons ltI l2) (kyR R H) x y=ltCons ltI l2 ax ay:=by unfold Lk;rw[<- e1, <- e2,kyR_of h kx,kyR_of h ky]
   rw[<- this];exact q
  rw[lt'_eq]
  refine wpS_bind (wpS_get ?_)
  rw[hk, <- e1, <- e2]
  refine wpS_bind (wpS_lift (wpAny_attempt ?_))
  obtain⟨p',vs,ep,e3,v,rest,rfl,f1,f2⟩:=kx
  obtain⟨r',us,er,e4,u,rest2,rfl,g1,g2⟩:=ky
  cases ep
  cases er
  have f1':v= .int ax.1:=f1
  have g1':u= .int ay.1:=g1
  subst f1' g1'
  obtain⟨its,r1,p1,_⟩:=J.tuple (SqT.of (K:=X.K) e3)
  obtain⟨its2,r2,p2,_⟩:=J.tuple (SqT.of (K:=X.K) e4)
  cases r1 with
  | cons c1 c2=>
   cases r2 with
   | cons d1 d2=>
    obtain⟨t1,rfl⟩:=c1
    obtain⟨t2,rfl⟩:=d1
    obtain⟨o1,b1,b2,n1,b3⟩:=p1
    obtain⟨o2,b4,b5,n2,b6⟩:=p2
    refine kat_lt b1 b3 b4 b6 ?_
    obtain⟨e,l,k1,k2,k3,k4⟩:=h.cmp J A (by (first|lia|omega)) _ _ _ _ _ _ f2 g2 c2 d2
    have q2:Q (some (if ax.1=ay.1 then l2 ax.2 ay.2 else ltI ax.1 ay.1)) st:=q'
    show KatLex X.prog X.w A true _ _ ((_,_) :: _) 0 _
    refine kat_cons (SeqAt.EqAt.int_int _ _ _ _ X.prog X.w _ _ ?_)
    refine kat_go (fun c=>kat_yes ?_) (fun c=>kat_no ?_)
    ·have ec:ax.1=ay.1:=by simpa using c
     rw[if_pos ec, <- k4] at q2
     refine katrest _ _ e l 0 k1 k2 ?_
     refine⟨rfl,wpS_pure ?_⟩
     have ef:∀ (x y:Value) (l1 l2:List Value),decide ((x :: l1).toArray.size<(y :: l2).toArray.size)=decide (l1.length<l2.length):=fun x y l1 l2=>decide_eq_decide.mpr (by simp)
     rw[ef]
     exact q2
    ·have ec:¬ ax.1=ay.1:=by simpa using c
     rw[if_neg ec] at q2
     exact oneLt_int ⟨rfl,wpS_pure q2⟩
end
end L61
set_option maxRecDepth 100000
set_option linter.all false
set_option maxHeartbeats 1000000
set_option Elab.async false
namespace L29
open PySem
end L29
set_option maxRecDepth 100000
set_option linter.all false
set_option maxHeartbeats 1000000
set_option Elab.async false
namespace L30
open PySem PySem.Spec PyProof.Rows L29
section
variable {prog:Program} {w:World} {A:Around} {E:Value->Shared->Prop} {s:Shared}
end
end L30
set_option maxRecDepth 100000
set_option linter.all false
set_option maxHeartbeats 3200000
set_option Elab.async false
namespace L31
open PySem PySem.Spec PyProof.Rows L29 L30
section
variable {prog:Program} {w:World} {A:Around} {E:Value->Shared->Prop} {s:Shared}
end
section
variable {prog:Program} {w:World} {A:Around} {R:Result->Shared->Prop} {I:Addr} {fp wr:List Addr} {G:Array GenState->Array GenState->Prop} {n:Nat} {P:Nat->Value->Prop} {St:Nat->Shared->Prop}
end
end L31
set_option maxRecDepth 100000
set_option linter.all false
set_option maxHeartbeats 3200000
set_option Elab.async false
namespace L32
open PySem PySem.Spec PyProof.Rows L29 L30 L31
section
variable {prog:Program} {w:World} {A:Around} {E:Value->Shared->Prop} {s:Shared}
end
end L32
set_option maxRecDepth 100000
set_option linter.all false
set_option maxHeartbeats 1600000
set_option Elab.async false
namespace L33
open PySem PySem.Spec PyProof.Rows L29 L30 L31 L32
section
variable {prog:Program} {w:World} {A:Around} {E:Value->Shared->Prop} {s:Shared}
end
end L33
set_option maxRecDepth 100000
set_option linter.all false
set_option maxHeartbeats 1600000
set_option Elab.async false
namespace L34
open PySem PySem.Spec PyProof.Rows L29 L30 L31 L32 L33
end L34
set_option maxRecDepth 100000
set_option linter.all false
set_option maxHeartbeats 1600000
set_option Elab.async false
namespace L35
open PySem PySem.Spec PyProof.Rows L29 L30 L31 L32 L33 L34
section
variable {prog:Program} {w:World} {A:Around} {E:Value->Shared->Prop} {s:Shared}
end
end L35
set_option maxRecDepth 100000
set_option linter.all false
set_option maxHeartbeats 1600000
set_option Elab.async false
namespace L36
open PySem PySem.Spec PyProof.Rows L29 L30 L31 L32 L33 L34 L35
section
variable {prog:Program} {w:World} {A:Around} {E:Value->Shared->Prop} {s:Shared} {a:Addr} {es:Array (Int × Value)} {ep:Nat} {t:SetTable}
end
end L36
set_option maxRecDepth 100000
set_option linter.all false
set_option maxHeartbeats 1600000
set_option Elab.async false
namespace L37
open PySem PySem.Spec PyProof.Rows L29 L30 L31 L32 L33 L34 L35 L36
section
variable {prog:Program} {w:World} {A:Around} {E:Value->Shared->Prop} {s:Shared}
end
section
variable {prog:Program} {w:World} {A:Around} {E:Value->Shared->Prop} {s:Shared} {a:Addr} {es:Array (Int × Value)} {ep:Nat} {t:SetTable}
end
end L37
set_option maxRecDepth 100000
set_option linter.all false
set_option maxHeartbeats 1600000
set_option Elab.async false
namespace L38
open PySem PySem.Spec PyProof.Rows L29 L30 L31 L32 L33 L34 L35 L36 L37
section
variable {prog:Program} {w:World} {A:Around} {E:Value->Shared->Prop} {s:Shared} {a:Addr}
end
end L38
set_option maxRecDepth 100000
set_option linter.all false
set_option maxHeartbeats 1600000
set_option Elab.async false
namespace L39
open PySem PySem.Spec PyProof.Rows L29 L30 L31 L32 L33 L34 L35 L36 L37 L38
section
variable {prog:Program} {w:World} {A:Around} {E:Value->Shared->Prop} {s:Shared} {a:Addr}
end
end L39
set_option maxRecDepth 100000
set_option linter.all false
set_option maxHeartbeats 1600000
set_option Elab.async false
namespace L40
open PySem PySem.Spec PySem.W PyProof.Rows L2 L3 X8 M01 L6 L5 QL L8 L9 L10 L13 L20 L21 L22 L23 L24 L25 L26 L27 L28 L30 L31 L32 L39
section
variable {X:Cx}
end
end L40
set_option maxRecDepth 100000
set_option linter.all false
set_option maxHeartbeats 1600000
set_option Elab.async false
namespace L41
open PySem PySem.Spec PySem.W PyProof.Rows L2 L3 X8 M01 L6 L5 QL L8 L9 L10 L13 L20 L21 L22 L23 L24 L25 L26 L27 L28 L30 L31 L32 L39 L40
section
variable {prog:Program} {w:World} {A:Around} {E:Value->Shared->Prop} {s:Shared} {T:String} {r d:Addr} {n:Nat} {P:Nat->Value->Prop} {OK:Heap->Prop}
theorem collect_src (K:KdlSrc prog w T r d n P OK) (hh:A.handled=none) (hok:OK s.heap) (hn:n≤sizeLine) {R:List Value->Shared->Prop}
  (h:∀ (hp:Heap) (tk:Nat) (acc:Array Value),(∀ b o,s.heap.get? b=some o->hp.get? b=some o)->s.heap.objs.size≤hp.objs.size->ItemsOf P acc n->R acc.toList { s with heap:=hp,toks:=tk }) :
  wpAny (model prog w) A (collect (.ref r)) R E s:=by
 have lt:=K.there _ hok
 unfold collect
 refine wpAny_bind (wpAny_runValue (codeAny_builtin F.entry_proto_collect ?_))
 rw[Around.under_plainId F.plain_proto_collect _]
 show wpAny _ A.in1 (newList [] >>= fun l=>again (.builtin "list.__iadd__" ⟨[l, .ref r],[]⟩)) _ _ s
 refine wpAny_bind (wpAny_newObj_type ?_)
 refine wpAny_pure ⟨plainId_quiet F.plain_list_iadd _,codeAny_builtin F.entry_list_iadd ?_⟩
 rw[Around.under_plainId F.plain_list_iadd _]
 have hS1:(s.heap.push { cls:= .type "list", data:= .seq ([]:List Value).toArray }).get? s.heap.objs.size=some { cls:= .type "list", data:= .seq #[] }:=Heap.get?_push_size _ rfl
 show wpAny _ A.in1 (Builtin.List.listExtendWith (.ref s.heap.objs.size) (.ref r) (.ref s.heap.objs.size)) _ _ _
 have key:=kdl_extend (A:=A) (s:={ s with heap:=s.heap.push { cls:= .type "list", data:= .seq ([]:List Value).toArray } })
  (R:=fun (q:Result) (s':Shared)=>∃ hp tk acc c,q= .ok (.ret (.ref s.heap.objs.size))/\s'= { s with heap:=hp,toks:=tk }/\(∀ b o,s.heap.get? b=some o->hp.get? b=some o)/\hp.get? s.heap.objs.size=some { cls:= .type "list", dict:=none,data:= .seq acc c,slots:=#[] }/\ItemsOf P acc n)
  K hh (K.keep _ _ hok fun b _ o e=>Heap.get?_push_of_some _ e) s.heap.objs.size (Nat.ne_of_gt lt.1) (Nat.ne_of_gt lt.2) (.ref s.heap.objs.size) 0 hS1
  (fun hp tk acc c hk hS' hacc=>⟨hp,tk,acc,c,rfl,rfl,fun b o e=>hk b o (Nat.ne_of_lt (Heap.lt_size e)) (Heap.get?_push_of_some _ e),hS',hacc⟩) hn
 have go:∀ (hp:Heap) (tk:Nat) (acc:Array Value) (c:Nat),(∀ b o,s.heap.get? b=some o->hp.get? b=some o)->hp.get? s.heap.objs.size=some { cls:= .type "list", dict:=none,data:= .seq acc c,slots:=#[] }->ItemsOf P acc n->
   wpAny (model prog w) A (load s.heap.objs.size >>= fun o=>match o.data with | .seq xs _=>pure xs.toList | _=>unsupported "internal:collect") R E { s with heap:=hp,toks:=tk }:=fun hp tk acc c hk hS' hacc=>
  wpAny_bind (wpAny_load hS' (wpAny_pure (h hp tk acc hk (Nat.le_of_lt (Heap.lt_size hS')) hacc)))
 refine wpAny_mono key (fun f s' x=>?_) fun e s' x=>?_
 ·cases f with
  | done f=>
   obtain⟨hp,tk,acc,c,e,rfl,hk,hS',hacc⟩:=x
   cases e
   exact go hp tk acc c hk hS' hacc
  | again c=>
   refine⟨x.1,codeAny_mono x.2 fun q s' y=>?_⟩
   obtain⟨hp,tk,acc,c,rfl,rfl,hk,hS',hacc⟩:=y
   exact go hp tk acc c hk hS' hacc
 ·obtain⟨hp,tk,acc,c,e',_⟩:=x
  cases e'
end
section
variable {X:Cx}
theorem kv_keys:∀ {kvs:List (Key × V)} {vs:List (Key × Value)},KV kvs vs->vs.map (·.1)=kvs.map (·.1)
 | _,_,h=>by
  induction h with
  | nil=>rfl
  | cons a _ ih=>rw[List.map_cons,List.map_cons,ih,a.1]
theorem ints_items {vs:List (Key × Value)}:∀ {ns:List Int},vs.map (·.1)=ns.map Sum.inl->∀ {l:List Value},l.length=vs.length->(∀ (j:Nat) (v:Value),l[j]?=some v->∃ k x,vs[j]?=some (k,x)/\(mixKind X.prog X.w).is k v=true)->IntsAre l ns:=by
 induction vs with
 | nil=>
  intro ns h l hl _
  cases ns with
  | nil=>rw[List.eq_nil_of_length_eq_zero hl];exact .nil
  | cons n r=>cases h
 | cons p r ih=>
  intro ns h l hl hv
  cases ns with
  | nil=>cases h
  | cons n ns=>
   cases l with
   | nil=>cases hl
   | cons v l=>
    rw[List.map_cons,List.map_cons] at h
    obtain⟨h1,h2⟩:=List.cons.inj h
    obtain⟨k,x,e1,e2⟩:=hv 0 v rfl
    have ek:p=(k,x):=Option.some.inj e1
    subst ek
    have hk:k= .inl n:=h1
    subst hk
    obtain⟨t,rfl⟩:=Value.isInt_shape (show Value.isInt n v=true from e2)
    exact .cons n t (ih h2 (by simpa using hl) fun j v' e=>hv (j+1) v' e)
end
end L41
set_option maxRecDepth 100000
set_option linter.all false
set_option maxHeartbeats 4000000
set_option Elab.async false
namespace L62
open PySem PySem.Spec PySem.W PyProof.Rows L2 L3 X8 M01 L6 L5 QL L8 L9 L10 L13 L20 L21 L22 L44 L60 L61 SX
section
variable {X:Cx} {tg:Expr}
end
section
variable {X:Cx}
theorem row_pr {X:Cx}:RowOk X 0 (rwCons rpI rwNil) (ltCons ltI ltNil):=row_cons cmp_int row_nil
end
end L62
set_option maxRecDepth 100000
set_option linter.all false
set_option maxHeartbeats 4000000
set_option Elab.async false
namespace L67
open PySem PySem.Spec PySem.W PyProof.Rows L2 L3 X8 M01 L6 L5 QL L8 L9 L10 L13 L20 L21 L22 L44 L60 L61 L62 SX
section
variable {X:Cx}
end
end L67
set_option maxRecDepth 100000
set_option linter.all false
set_option maxHeartbeats 1000000
set_option Elab.async false
namespace M19
open PySem PySem.Spec PyProof.Rows L2 L3 L6 X8 QL M01 L13 L21 L22 L66 L67 M11
def But (z:Addr) (H H':Hp):Prop:=∀ c u,c≠z->H c=some u->H' c=some u
theorem But.refl {z:Addr} {H:Hp}:But z H H:=fun _ _ _ e=>e
theorem But.trans {z:Addr} {H H1 H2:Hp} (h:But z H H1) (k:But z H1 H2):But z H H2:=fun c u n e=>k c u n (h c u n e)
theorem But.of {z:Addr} {H H':Hp} (h:Same H H'):But z H H':=fun c u _ e=>h c u e
theorem But.upd {z:Addr} {H:Hp} {o:HO}:But z H (upd H z o):=fun c u n e=>by rw[upd_ne n];exact e
def Soft (H:Hp) (z:Addr):Prop:=(∃ kvs,H z=some (.dK kvs))\/∃ xs,H z=some (.lst xs)
theorem seqB {K:PySem.W.Frag} {H H':Hp} {z p:Addr} {xs:List V} (b:But z H H') (s:Soft H z) (h:SqT K H p xs):SqT K H' p xs:=by
 have n:∀ {ys:List V},H p=some (.tup ys)->p≠z:=fun {ys} e n=>by
  rw[n] at e
  rcases s with ⟨kvs,e2⟩ | ⟨us,e2⟩ <;> (rw[e2] at e;cases e)
 have n2:∀ {o:Obj} {ys:List V},H p=some (.frz o (.tup ys))->p≠z:=fun {o ys} e n=>by
  rw[n] at e
  rcases s with ⟨kvs,e2⟩ | ⟨us,e2⟩ <;> (rw[e2] at e;cases e)
 rcases h with (h | ⟨o,h⟩) | h
 ·exact .inl (.inl (b _ _ (n h) h))
 ·exact .inl (.inr ⟨o,b _ _ (n2 h) h⟩)
 ·exact .inr h
theorem rpK.mono {K:PySem.W.Frag} {H H':Hp} {v:V} {q:List Int} (s:Same H H') (h:rpK K H v q):rpK K H' v q:=by
 obtain⟨p,e,h⟩:=h
 exact⟨p,e,seqT s h⟩
theorem rpK.but {K:PySem.W.Frag} {H H':Hp} {z:Addr} {v:V} {q:List Int} (b:But z H H') (s:Soft H z) (h:rpK K H v q):rpK K H' v q:=by
 obtain⟨p,e,h⟩:=h
 exact⟨p,e,seqB b s h⟩
end M19
set_option linter.all false
set_option Elab.async false
namespace M21
open PySem L2 M01 M11 M13 M14 M20 L21 L22 L66 M19
theorem qs_dead {X:Cx} {st:Stmt}:QL.QS X st (fun _ _ _=>False):=⟨fun _ _ _ _ _ _ h=>h.elim⟩
@[elab_as_elim] theorem len0 {α:Type} {p:List α->Prop} (us:List α) (hl:us.length=0) (h:p []):p us:=by
 cases us with
 | nil=>exact h
 | cons _ _=>cases hl
@[elab_as_elim] theorem len1 {α:Type} {p:List α->Prop} (us:List α) (hl:us.length=1) (h:∀ a,p [a]):p us:=by
 cases us with
 | nil=>cases hl
 | cons a r=>exact len0 (p:=fun r=>p (a :: r)) r (Nat.succ.inj hl) (h a)
@[elab_as_elim] theorem len2 {α:Type} {p:List α->Prop} (us:List α) (hl:us.length=2) (h:∀ a b,p [a,b]):p us:=by
 cases us with
 | nil=>cases hl
 | cons a r=>exact len1 (p:=fun r=>p (a :: r)) r (Nat.succ.inj hl) (h a)
@[elab_as_elim] theorem len3 {α:Type} {p:List α->Prop} (us:List α) (hl:us.length=3) (h:∀ a b c,p [a,b,c]):p us:=by
 cases us with
 | nil=>cases hl
 | cons a r=>exact len2 (p:=fun r=>p (a :: r)) r (Nat.succ.inj hl) (h a)
@[elab_as_elim] theorem len5 {α:Type} {p:List α->Prop} (us:List α) (hl:us.length=5) (h:∀ a b c d e,p [a,b,c,d,e]):p us:=by
 match us,hl with
 | [a,b,c,d,e],_=>exact h a b c d e
structure Rcp where
 items:List (Str × Int × Int)
 pw:Int
 tk:Int
 hs:List Int
structure RcpOk (R:Rcp):Prop where
 hs:HsOk R.hs
 pw:1≤R.pw/\R.pw≤399
 tk:1≤R.tk/\R.tk≤399
 it:∀ t∈R.items,(1≤t.2.1/\t.2.1≤1000)/\(1≤t.2.2/\t.2.2≤1000)
def hits (x:Str) (its:List (Str × Int × Int)):List (Str × Int × Int):=its.filter fun t=>decide (t.1=x)
def doseL (tk pw:Int):List (Str × Int × Int)->Int × Int
 | t :: _=>(ft (t.2.1 * tk) (t.2.2 * pw),fb (t.2.1 * tk) (t.2.2 * pw))
 | []=>(0,1)
def doseR (R:Rcp) (x:Str):Int × Int:=doseL R.tk R.pw (hits x R.items)
theorem filt_step {α:Type} {p:α->Bool} {as:List α} {i:Nat} {a:α} (e:as[i]?=some a) (h:(as.take i).filter p=[]) (c:p a=false):(as.take (i+1)).filter p=[]:=by
 rw[List.take_add_one,e,List.filter_append,h]
 show ([a]:List α).filter p=[]
 rw[List.filter_cons,c]
 rfl
theorem filt_cut {α:Type} {p:α->Bool} {as:List α} {i:Nat} {a:α} (h:(as.take i).filter p=[]) (e:as[i]?=some a) (c:p a=true):∃ t,as.filter p=a :: t:=by
 have hi:=(List.getElem?_eq_some_iff.mp e).1
 have en:=(List.getElem?_eq_some_iff.mp e).2
 refine⟨(as.drop (i+1)).filter p,?_⟩
 have h2:as.filter p=(as.take i).filter p ++ (as.drop i).filter p:=by rw[<- List.filter_append,List.take_append_drop]
 rw[h2,h,List.nil_append,List.drop_eq_getElem_cons hi,en,List.filter_cons,c]
 rfl
theorem dose_eq {t b tk pw x y:Int} (b0:0<b) (p0:0<pw) (f:Fq x y (t * ft tk pw) (b * fb tk pw)):x=ft (t * tk) (b * pw)/\y=fb (t * tk) (b * pw):=by
 have bp:0<b * pw:=Int.mul_pos b0 p0
 have g:=fq (t * tk) bp
 have g2:=fq tk p0
 refine Low.uniq f.low g.low ?_
 have f0:=g2.low.pos
 have e1:=f.eq
 have e2:=g2.eq
 have e3:=g.eq
 have q0:0<(b * fb tk pw) * (b * pw):=Int.mul_pos (Int.mul_pos b0 f0) bp
 generalize ft (t * tk) (b * pw)=X at *
 generalize fb (t * tk) (b * pw)=Y at *
 generalize ft tk pw=u at *
 generalize fb tk pw=v at *
 refine cancel (c:=(b * v) * (b * pw)) (by (first|lia|omega)) ?_
 calc x * Y * ((b * v) * (b * pw))=(x * (b * v)) * (Y * (b * pw)):=by ac_rfl
  _=(t * u * y) * (Y * (b * pw)):=by rw[e1]
  _=(u * pw) * (t * y * Y * b):=by ac_rfl
  _=(tk * v) * (t * y * Y * b):=by rw[e2]
  _=(t * tk * Y) * (v * y * b):=by ac_rfl
  _=(X * (b * pw)) * (v * y * b):=by rw[e3]
  _=X * y * ((b * v) * (b * pw)):=by ac_rfl
theorem doseR_ok {R:Rcp} (ok:RcpOk R) (x:Str):Low (doseR R x).1 (doseR R x).2/\(0≤(doseR R x).1/\(doseR R x).1≤399000)/\(1≤(doseR R x).2/\(doseR R x).2≤399000):=by
 unfold doseR
 cases e:hits x R.items with
 | nil=>
  show Low 0 1/\(0≤(0:Int)/\(0:Int)≤399000)/\(1≤(1:Int)/\(1:Int)≤399000)
  exact⟨⟨by decide,by decide +kernel⟩,by decide,by decide⟩
 | cons t r=>
  have mt:t∈R.items:=(List.mem_filter.mp (show t∈hits x R.items by rw[e];exact List.mem_cons_self ..)).1
  obtain⟨⟨a1,a2⟩,b1,b2⟩:=ok.it t mt
  have p:=ok.pw
  have q:=ok.tk
  have m1:t.2.1 * R.tk≤1000 * 399:=Int.mul_le_mul a2 q.2 (by (first|lia|omega)) (by (first|lia|omega))
  have m2:t.2.2 * R.pw≤1000 * 399:=Int.mul_le_mul b2 p.2 (by (first|lia|omega)) (by (first|lia|omega))
  have m3:0<t.2.1 * R.tk:=Int.mul_pos (by (first|lia|omega)) (by (first|lia|omega))
  have m4:0<t.2.2 * R.pw:=Int.mul_pos (by (first|lia|omega)) (by (first|lia|omega))
  have g:=fq (t.2.1 * R.tk) m4
  have s1:=g.szt
  have s2:=g.szb
  have lp:=g.low.pos
  have ge:0≤ft (t.2.1 * R.tk) (t.2.2 * R.pw):=by
   have e:=g.eq
   by_cases z:0≤ft (t.2.1 * R.tk) (t.2.2 * R.pw)
   ·exact z
   ·have n1:ft (t.2.1 * R.tk) (t.2.2 * R.pw) * (t.2.2 * R.pw)<0:=Int.mul_neg_of_neg_of_pos (by (first|lia|omega)) m4
    have n2:0<(t.2.1 * R.tk) * fb (t.2.1 * R.tk) (t.2.2 * R.pw):=Int.mul_pos m3 lp
    (first|lia|omega)
  show Low (ft _ _) (fb _ _)/\(0≤ft _ _/\ft _ _≤399000)/\(1≤fb _ _/\fb _ _≤399000)
  exact⟨g.low,by (first|lia|omega),by (first|lia|omega)⟩
def rpItem (K:PySem.W.Frag):Rp (Str × Int × Int):=fun H v t=>∃ p am,v= .ref p/\SqT K H p [.str t.1, .ref am]/\SqT K H am [.int t.2.1, .int t.2.2]
def RcpAt (K:PySem.W.Frag) (H:Hp) (rc:Addr) (R:Rcp):Prop:=∃ (it:Addr) (ps:List V) (ht:Addr),SqT K H rc [.ref it, .int R.pw, .int R.tk, .ref ht]/\SqT K H it ps/\Fa (rpItem K H) ps R.items/\SqT K H ht (R.hs.map V.int)
theorem RcpAt.mono {K:PySem.W.Frag} {H H':Hp} {rc:Addr} {R:Rcp} (s:Same H H') (h:RcpAt K H rc R):RcpAt K H' rc R:=by
 obtain⟨it,ps,ht,a,b,c,d⟩:=h
 exact⟨it,ps,ht,seqT s a,seqT s b,c.mono fun v t ⟨p,am,e,f,g⟩=>⟨p,am,e,seqT s f,seqT s g⟩,seqT s d⟩
abbrev Crs:=Rcp × Int
def CrsOk (c:Crs):Prop:=RcpOk c.1/\0≤c.2/\c.2<10 ^ 12
def hrs (c:Crs):List Int:=dueH c.1.hs c.2 (c.1.pw / c.1.tk).toNat
theorem hrs_len {c:Crs} (h:CrsOk c):(hrs c).length≤399:=by
 unfold hrs dueH
 rw[List.length_map,List.length_range]
 have p:=h.1.pw
 have q:=h.1.tk
 have:=Int.ediv_le_self c.1.tk (show 0≤c.1.pw by (first|lia|omega))
 (first|lia|omega)
def rpC (K:PySem.W.Frag):Rp Crs:=fun H v c=>∃ p rc,v= .ref p/\SqT K H p [.ref rc, .int c.2]/\RcpAt K H rc c.1
theorem rpC.mono {K:PySem.W.Frag} {H H':Hp} {v:V} {c:Crs} (s:Same H H') (h:rpC K H v c):rpC K H' v c:=by
 obtain⟨p,rc,e,a,b⟩:=h
 exact⟨p,rc,e,seqT s a,b.mono s⟩
def rpD (K:PySem.W.Frag):Rp Crs:=fun H v c=>∃ p rc hl,v= .ref p/\SqT K H p [.ref rc, .ref hl]/\RcpAt K H rc c.1/\H hl=some (.lst ((hrs c).map V.int))
theorem rpD.mono {K:PySem.W.Frag} {H H':Hp} {v:V} {c:Crs} (s:Same H H') (h:rpD K H v c):rpD K H' v c:=by
 obtain⟨p,rc,hl,e,a,b,d⟩:=h
 exact⟨p,rc,hl,e,seqT s a,b.mono s,s _ _ d⟩
inductive Rl where
 | lim (day:Bool) (x:Str) (t b:Int)
 | apart (x y:Str) (n:Int)
def Rl.word:Rl->Str
 | .lim false _ _ _=> "once"
 | .lim true _ _ _=> "day"
 | .apart .. => "apart"
def Rl.width:Rl->Int
 | .lim false _ _ _=>1
 | .lim true _ _ _=>24
 | .apart _ _ n=>n
def RlOk (r:Rl):Prop:=1≤r.width/\r.width≤72
def rpR (K:PySem.W.Frag):Rp Rl:=fun H v r=>match r with
 | .lim day x t b=>∃ p am,v= .ref p/\SqT K H p [.str (Rl.word (.lim day x t b)), .str x, .ref am]/\SqT K H am [.int t, .int b]
 | .apart x y n=>∃ p,v= .ref p/\SqT K H p [.str "apart", .str x, .str y, .int n]
theorem rpR.mono {K:PySem.W.Frag} {H H':Hp} {v:V} {r:Rl} (s:Same H H') (h:rpR K H v r):rpR K H' v r:=by
 cases r with
 | lim day x t b=>
  obtain⟨p,am,e,a,b⟩:=h
  exact⟨p,am,e,seqT s a,seqT s b⟩
 | apart x y n=>
  obtain⟨p,e,a⟩:=h
  exact⟨p,e,seqT s a⟩
theorem gz_dvd {a b:Int} (ha:0<a) (hb:0<b):0<gz a b/\gz a b≤b/\(∃ u,a=u * gz a b/\a / gz a b=u)/\∃ v,b=v * gz a b:=by
 have ga:(gz a b:Int) ∣ a:=by
  unfold gz
  have:=Int.natCast_dvd_natCast.mpr (Nat.gcd_dvd_left a.toNat b.toNat)
  rwa [show ((a.toNat:Nat):Int)=a from by (first|lia|omega)] at this
 have gb:(gz a b:Int) ∣ b:=by
  unfold gz
  have:=Int.natCast_dvd_natCast.mpr (Nat.gcd_dvd_right a.toNat b.toNat)
  rwa [show ((b.toNat:Nat):Int)=b from by (first|lia|omega)] at this
 have gp:0<gz a b:=by
  unfold gz
  have:=Nat.gcd_pos_of_pos_right a.toNat (show 0<b.toNat by (first|lia|omega))
  (first|lia|omega)
 refine⟨gp,Int.le_of_dvd hb gb,?_,?_⟩
 ·obtain⟨u,e⟩:=ga
  refine⟨u,by rw[Int.mul_comm];exact e,?_⟩
  generalize gz a b=g at e gp
  rw[e]
  exact Int.mul_ediv_cancel_left u (by (first|lia|omega))
 ·obtain⟨v,e⟩:=gb
  exact⟨v,by rw[Int.mul_comm];exact e⟩
theorem lcm_step {a b:Int} (ha:0<a) (hb:0<b):0<a / gz a b * b/\a ∣ a / gz a b * b/\b ∣ a / gz a b * b/\a / gz a b * b≤a * b:=by
 obtain⟨g0,gb,⟨u,e1,e2⟩,v,e3⟩:=gz_dvd ha hb
 have u0:0<u:=by
  by_cases z:0<u
  ·exact z
  ·have:=Int.mul_nonpos_of_nonpos_of_nonneg (show u≤0 by (first|lia|omega)) (show 0≤gz a b by (first|lia|omega))
   (first|lia|omega)
 rw[e2]
 refine⟨Int.mul_pos u0 hb,⟨v,?_⟩,⟨u,Int.mul_comm _ _⟩,?_⟩
 ·calc u * b=u * (v * gz a b):=by rw[<- e3]
   _=(u * gz a b) * v:=by ac_rfl
   _=a * v:=by rw[<- e1]
 ·have:u≤a:=by
   have:u * 1≤u * gz a b:=Int.mul_le_mul_of_nonneg_left (by (first|lia|omega)) (by (first|lia|omega))
   rw[<- e1] at this
   (first|lia|omega)
  exact Int.mul_le_mul_of_nonneg_right this (by (first|lia|omega))
end M21
set_option maxRecDepth 100000
set_option linter.all false
set_option maxHeartbeats 4000000
set_option Elab.async false
namespace L17
open PySem PySem.Spec PyProof.Rows L2 L3 L6 X8 QL M01
section
variable {X:Cx}
end
end L17
set_option maxRecDepth 100000
set_option linter.all false
set_option maxHeartbeats 4000000
set_option Elab.async false
namespace L18
open PySem PySem.Spec PyProof.Rows L2 L3 L6 X8 QL M01
section
variable {prog:Program} {w:World} {A:Around} {E:Value->Shared->Prop} {s:Shared}
end
end L18
set_option maxRecDepth 100000
set_option linter.all false
set_option maxHeartbeats 4000000
set_option Elab.async false
namespace L18
open PySem PySem.Spec PyProof.Rows L2 L3 L6 X8 QL M01
theorem turnedL {X:Cx} {pins:List (Addr × Obj)} {σ:L2.St} {H:Hp} {s:Shared} {h':Heap} {t':Nat} {ch:List Addr} (I:Inv X pins σ H s) (k:∀ b o,b ∉ ch->s.heap.get? b=some o->h'.get? b=some o) (fp:∀ b∈ch,FpOk X pins H b):Inv X pins σ H { s with heap:=h',toks:=t' }:=by
 have nit:∀ b u,H b=some u->b ∉ ch:=fun b u e z=>by rw[(fp b z).1] at e;cases e
 refine I.step (g':=s.gens) (d':=s.drawn) (ch:=ch) (fun b hb=>?_) (fun b o _ _ hc e _=>k b o hc e) (fun b o _ _ hc e _=>⟨o.slots,k b o hc e⟩) (fun _ _ _ _ n=>n)
  (fun b o hc e=>⟨o,k b o hc e⟩) (fun _ _ e=>e) (fun _ _ _ e=>e) (fun b ps e=>⟨#[],by rw[e];simp⟩) (fun m hm=>?_) (fun b u e=>?_) I.bare
 ·obtain⟨f0,f1,f2,f3,f4,f5⟩:=fp b hb
  exact⟨f3,f1,f4,f5⟩
 ·obtain⟨o,es,ep,ho,r⟩:=hm
  exact⟨o,es,ep,k _ o (fun z=>(fp _ z).2.1 rfl) ho,r⟩
 ·refine(I.hok b u e).stay (fun c v hc q=>k c v ?_ q) (fun _ q=>q) fun _ _ q=>q
  rcases hc with z | z
  ·rw[z];exact nit b u e
  ·exact nit c _ z
theorem apart_mk {N A1 A2:Nat} (l1:A1<N) (l2:A2<N):ZipApart (N+4) (N+2) (N+3) N (N+1) A1 A2:=by
 constructor <;> (exact fun y=>absurd (show @Eq Nat _ _ from y) (by (first|lia|omega)))
section
variable {X:Cx}
end
end L18
set_option maxRecDepth 100000
set_option linter.all false
set_option maxHeartbeats 4000000
set_option Elab.async false
namespace L68
open PySem PySem.Spec PyProof.Rows L2 L3 L6 X8 QL M01 L18
def Izl (K:PySem.W.Frag) (a b:Addr) (xs ys:List V):It:=⟨fun i H=>SqL K H a xs/\SqL K H b ys/\i<xs.length,fun i H v H'=>∃ T x y,H T=none/\v= .ref T/\xs[i]?=some x/\ys[i]?=some y/\H'=upd H T (.tup [x,y]),fun i H=>SqL K H a xs/\SqL K H b ys/\xs.length≤i⟩
theorem turn_zipL {P:Program} {w:World} {K:PySem.W.Frag} {elts:List Expr} {ek:Nat} {ep:Pos} {xs ys:List V} {z TI TO i1 i2 a b:Addr} (D:ZipApart z TI TO i1 i2 a b) (hl:xs.length=ys.length) :
  Turn P w K (.Tuple elts ek ep) (Izl K a b xs ys) [z,TI,TO,i1,i2] z (fun i h=>IsZip h z TI TO .none/\IsPair h TI (.ref i1) (.ref i2)/\(∃ p q,IsPair h TO p q)/\h.IsListIter i1 a i/\h.IsListIter i2 b i) where
 mem:=by simp
 obj:=fun i h st c hc=>by
  obtain⟨gz,gi,⟨p,q,go⟩,j1,j2⟩:=st
  simp only[List.mem_cons,List.not_mem_nil,or_false] at hc
  rcases hc with rfl | rfl | rfl | rfl | rfl
  ·exact⟨_,gz,fun v y=>by cases y⟩
  ·exact⟨_,gi,fun v y=>by cases y⟩
  ·exact⟨_,go,fun v y=>by cases y⟩
  ·obtain⟨o,e,_,d⟩:=j1;exact⟨o,e,fun v y=>by rw[d] at y;cases y⟩
  ·obtain⟨o,e,_,d⟩:=j2;exact⟨o,e,fun v y=>by rw[d] at y;cases y⟩
 keep:=fun i h h' st k=>by
  obtain⟨gz,gi,⟨p,q,go⟩,j1,j2⟩:=st
  exact⟨k z (by simp) _ gz,k TI (by simp) _ gi,⟨p,q,k TO (by simp) _ go⟩,j1.at fun o e=>k i1 (by simp) o e,j2.at fun o e=>k i2 (by simp) o e⟩
 item:=by
  intro X hP hw hK hc i pins s σ H E I hf st hg
  subst hP hw hK
  obtain⟨gz,gi,⟨p,q,go⟩,j1,j2⟩:=st
  obtain⟨ha,hb,hi⟩:=hg
  obtain⟨its,r1,p1,_⟩:=I.list ha
  obtain⟨its2,r2,p2,_⟩:=I.list hb
  obtain⟨u1,g1,k1⟩:=r1.get (List.getElem?_eq_getElem hi)
  obtain⟨u2,g2,k2⟩:=r2.get (List.getElem?_eq_getElem (show i<ys.length by (first|lia|omega)))
  refine wpAny_pyNext_zip_item D gz gi go j1 j2 p1.isList p2.isList (x:=u1) (y:=u2) (by simpa using g1) (by simpa using g2) fun h1 gz1 go1 j11 j21 gT _ kp=>⟨_,rfl,?_⟩
  refine wpAny_letOwnedTupleGo_zip gz1 fun h2 gz2 sb=>?_
  have lt:∀ {c o},s.heap.get? c=some o->c≠s.heap.objs.size:=fun e=>Nat.ne_of_lt (Heap.lt_size e)
  have zT:z≠s.heap.objs.size:=lt gz
  have gT2:IsPair h2 s.heap.objs.size u1 u2:=sb.extBut _ _ zT.symm gT
  have rv:Vals [xs[i],ys[i]] [u1,u2]:= .cons k1 (.cons k2 .nil)
  have fr:H s.heap.objs.size=none:=I.hok.fresh (Nat.le_refl _)
  have J1:Inv X pins σ (upd H s.heap.objs.size (.tup [xs[i],ys[i]])) { s with heap:=s.heap.push { cls:= .type "tuple", data:= .seq #[u1,u2] } }:=
   I.laid (a:=s.heap.objs.size) (o:= .tup [xs[i],ys[i]]) (t':=s.toks) (fun b o e=>Heap.get?_push_of_some _ e) (Nat.le_refl _) (show ObjOk X.prog X.w _ _ _ (.tup _) from⟨by show 2≤sizeLine;decide,[u1,u2],rv,_,Heap.get?_push_size _ rfl,rfl,_,rfl⟩)
  have all:∀ c o,c≠z->c≠TO->c≠i1->c≠i2->s.heap.get? c=some o->h2.get? c=some o:=fun c o n1 n2 n3 n4 e=>sb.extBut _ _ n1 (kp c o n1 n2 n3 n4 e)
  have fpT:∀ c∈[z,TI,TO,i1,i2],c≠s.heap.objs.size:=fun c hc=>by
   simp only[List.mem_cons,List.not_mem_nil,or_false] at hc
   rcases hc with rfl | rfl | rfl | rfl | rfl
   ·exact zT
   ·exact lt gi
   ·exact lt go
   ·obtain⟨o,e,_⟩:=j1;exact lt e
   ·obtain⟨o,e,_⟩:=j2;exact lt e
  have fp2:∀ c∈[z,TI,TO,i1,i2],FpOk X pins (upd H s.heap.objs.size (.tup [xs[i],ys[i]])) c:=fun c hc=>by
   obtain⟨f0,r⟩:=hf c hc
   exact⟨by rw[upd_ne (fpT c hc)];exact f0,r⟩
  have J2:Inv X pins σ (upd H s.heap.objs.size (.tup [xs[i],ys[i]])) { s with heap:=h2 }:=
   turnedL (s:={ s with heap:=s.heap.push { cls:= .type "tuple", data:= .seq #[u1,u2] } }) (ch:=[z,TO,i1,i2]) (t':=s.toks) J1 (fun c o nc e=>by
    simp only[List.mem_cons,List.not_mem_nil,or_false,not_or] at nc
    by_cases hT:c=s.heap.objs.size
    ·subst hT
     have e':some { cls:= .type "tuple", data:= .seq #[u1,u2] }=some o:=(Heap.get?_push_size _ rfl).symm.trans e
     cases e'
     exact gT2
    ·have e2:s.heap.get? c=some o:=(Heap.get?_push_ne _ _ _ hT).symm.trans e
     exact all c o nc.1 nc.2.1 nc.2.2.1 nc.2.2.2 e2) (fun c hc=>fp2 c (by
    simp only[List.mem_cons,List.not_mem_nil,or_false] at hc ⊢
    rcases hc with y | y | y | y <;> simp[y]))
  refine⟨.ref s.heap.objs.size,_,J2,rfl,⟨s.heap.objs.size,_,_,fr,rfl,List.getElem?_eq_getElem hi,List.getElem?_eq_getElem (by (first|lia|omega)),rfl⟩,?_,fun c hc=>(fp2 c hc).1⟩
  exact⟨gz2,all _ _ D.TIz D.TITO D.TIi1 D.TIi2 gi,⟨_,_,sb.extBut _ _ D.TOz go1⟩,j11.at fun o e=>sb.extBut _ _ D.i1z e,j21.at fun o e=>sb.extBut _ _ D.i2z e⟩
 done:=by
  intro X hP hw hK hc i pins s σ H E I hf st hg
  subst hP hw hK
  obtain⟨gz,gi,⟨p,q,go⟩,j1,j2⟩:=st
  obtain⟨ha,hb,hs⟩:=hg
  obtain⟨its,r1,p1,_⟩:=I.list ha
  obtain⟨its2,r2,p2,_⟩:=I.list hb
  have hn:its.toArray[i]?=none:=by
   have:its.length=xs.length:=r1.length.symm
   simp;(first|lia|omega)
  refine wpAny_pyNext_zip_end (I.ok.hd hc) D gz gi go j1 j2 p1.isList p2.isList (.inl hn) fun h' kp=>⟨rfl,?_⟩
  exact turnedL (ch:=[z,TO,i1,i2]) (t':=s.toks) I (fun c o nc e=>by
   simp only[List.mem_cons,List.not_mem_nil,or_false,not_or] at nc
   exact kp c o nc.1 nc.2.1 nc.2.2.1 nc.2.2.2 e) (fun c hc=>hf c (by
   simp only[List.mem_cons,List.not_mem_nil,or_false] at hc ⊢
   rcases hc with y | y | y | y <;> simp[y]))
 self:=fun A i s Q E st h=>wpAny_pyIter_zip st.1 h
section
variable {X:Cx}
def iZipL (K:PySem.W.Frag) (ta:TA):TI:=fun σ H R=>ta σ H fun vs H1=>∃ (a b:Addr) (xs ys:List V),vs=[.ref a, .ref b]/\SqL K H1 a xs/\SqL K H1 b ys/\xs.length=ys.length/\R (Izl K a b xs ys) H1
theorem pi_zipL {elts:List Expr} {ek:Nat} {ep p pos:Pos} {a b:Expr} {ta:TA} (hg:Gl X "zip") (hm:X.mg "zip" = none) (ha:PA X [a,b] ta) (hs:starEach [a,b] X.env=(false,eval a X.env) :: starEach [b] X.env:=by rfl)
  (hpl:(backTo pos (starEach [b] X.env)).any (·.1)=false:=by rfl) (hbt:bootBuiltins "zip" = some (.type "zip"):=by decide +kernel):PI X (.Tuple elts ek ep) (.Call (.Name "zip" p) [a,b] [] pos) (iZipL X.K ta):=by
 intro pins s σ H R I h
 refine wpAny_Call_Name_kw (ld_blt I hg hm hbt (PyProof.Rows.callWith_type1 (thn (ha pos pins s σ H _ I h) fun us s1 ⟨vs,H1,I1,r1,q1⟩=>?_) hs hpl))
 obtain⟨A1,A2,xs,ys,e,h1,h2,hl,q⟩:=q1
 subst e
 obtain⟨u1,u2,rfl,ru1,ru2⟩:=Vals.two r1
 cases ru1
 cases ru2
 obtain⟨its,rv1,p1,_⟩:=I1.list h1
 obtain⟨its2,rv2,p2,_⟩:=I1.list h2
 refine call_zip_2 p1.isList p2.isList fun h' gz gi go j1 j2 sz kp=>?_
 have lt:∀ {c:Addr} {its:Array Value},s1.heap.IsList c its->c<s1.heap.objs.size:=fun ⟨_,e,_⟩=>Heap.lt_size e
 have D:=apart_mk (lt p1.isList) (lt p2.isList)
 refine wpAny_pyIter_zip (s:={ s1 with heap:=h' }) gz ?_
 refine⟨s1.heap.objs.size+4,[s1.heap.objs.size+4,s1.heap.objs.size+2,s1.heap.objs.size+3,s1.heap.objs.size,s1.heap.objs.size+1],_,Izl X.K A1 A2 xs ys,H1,rfl,I1.kept (t':=s1.toks) kp,turn_zipL D hl,⟨gz,gi,⟨_,_,go⟩,j1,j2⟩,fun c hc=>?_,q⟩
 have hge:s1.heap.objs.size≤c:=by
  simp only[List.mem_cons,List.not_mem_nil,or_false] at hc
  rcases hc with y | y | y | y | y <;> rw[y] <;> first | exact Nat.le_refl _ | exact Nat.le_add_right _ _
 exact I1.fpOk hge (I1.hok.fresh hge)
theorem qi_zipL {elts:List Expr} {ek:Nat} {ep p pos:Pos} {a b:Expr} {ta:TA} (hg:Gl X "zip") (hm:X.mg "zip" = none) (ha:QA X [a,b] ta) (hs:starEach [a,b] X.env=(false,eval a X.env) :: starEach [b] X.env:=by rfl)
  (hpl:(backTo pos (starEach [b] X.env)).any (·.1)=false:=by rfl):QI X (.Tuple elts ek ep) (.Call (.Name "zip" p) [a,b] [] pos) (iZipL X.K ta):=⟨pi_zipL hg hm ha.h hs hpl⟩
theorem for_zipL {K:PySem.W.Frag} {a b:Addr} {xs ys:List V} {g:TG} {tb:TS} {D:Ends} {σ:L2.St} {H:Hp} (Pv:Nat->L2.St->Hp->Prop) (h0:Pv 0 σ H) (hl:∀ i σ H,i≤xs.length->Pv i σ H->SqL K H a xs/\SqL K H b ys)
  (hs:∀ i x y T σ H,xs[i]?=some x->ys[i]?=some y->H T=none->Pv i σ H->g (.ref T) σ (upd H T (.tup [x,y])) fun σ2 H2=>tb { D with nx:=Pv (i+1),ct:=Pv (i+1),bk:=D.nx } σ2 H2) (hd:∀ σ H,Pv xs.length σ H->D.nx σ H) :
  ∃ W:Nat->Nat->L2.St->Hp->Prop,(∃ m,W 0 m σ H)/\∀ i m σ H,W i m σ H->
   ((Izl K a b xs ys).stop i H/\D.nx σ H)\/((Izl K a b xs ys).go i H/\∃ N:L2.St->Hp->Prop,(∀ σ' H',N σ' H'->∃ m',m'<m/\W (i+1) m' σ' H')/\∀ v H',(Izl K a b xs ys).yld i H v H'->g v σ H' fun σ2 H2=>tb { D with nx:=N,ct:=N,bk:=D.nx } σ2 H2):=by
 refine⟨fun i m σ H=>m=xs.length - i/\i≤xs.length/\Pv i σ H,⟨xs.length,by simp,Nat.zero_le _,h0⟩,?_⟩
 rintro i m σ H ⟨rfl,hi,p⟩
 obtain⟨l1,l2⟩:=hl i σ H hi p
 by_cases hlt:i<xs.length
 ·refine .inr ⟨⟨l1,l2,hlt⟩,Pv (i+1),fun σ' H' p'=>⟨xs.length - (i+1),by (first|lia|omega),rfl,hlt,p'⟩,fun v H' y=>?_⟩
  obtain⟨T,x,y,nT,rfl,ex,ey,rfl⟩:=y
  exact hs i x y T σ H ex ey nT p
 ·have e:i=xs.length:=by (first|lia|omega)
  subst e
  exact .inl ⟨⟨l1,l2,Nat.le_refl _⟩,hd σ H p⟩
end
def Ien (K:PySem.W.Frag) (a:Addr) (xs:List V):It:=⟨fun i H=>SqL K H a xs/\i<xs.length,fun i H v H'=>∃ T x,H T=none/\v= .ref T/\xs[i]?=some x/\H'=upd H T (.tup [.int i,x]),fun i H=>SqL K H a xs/\xs.length≤i⟩
theorem turn_enum {P:Program} {w:World} {K:PySem.W.Frag} {elts:List Expr} {ek:Nat} {ep:Pos} {xs:List V} {e it a:Addr} (hei:e≠it) :
  Turn P w K (.Tuple elts ek ep) (Ien K a xs) [e,it] e (fun i h=>(∃ old,IsEnum h e it i old)/\h.IsListIter it a i) where
 mem:=by simp
 obj:=fun i h st c hc=>by
  obtain⟨⟨old,ge⟩,j⟩:=st
  simp only[List.mem_cons,List.not_mem_nil,or_false] at hc
  rcases hc with rfl | rfl
  ·exact⟨_,ge,fun v y=>by cases y⟩
  ·obtain⟨o,e,_,d⟩:=j;exact⟨o,e,fun v y=>by rw[d] at y;cases y⟩
 keep:=fun i h h' st k=>by
  obtain⟨⟨old,ge⟩,j⟩:=st
  exact⟨⟨old,k e (by simp) _ ge⟩,j.at fun o y=>k it (by simp) o y⟩
 item:=by
  intro X hP hw hK hc i pins s σ H E I hf st hg
  subst hP hw hK
  obtain⟨⟨old,ge⟩,j⟩:=st
  obtain⟨ha,hi⟩:=hg
  obtain⟨its,r1,p1,_⟩:=I.list ha
  obtain⟨u1,g1,k1⟩:=r1.get (List.getElem?_eq_getElem hi)
  refine wpAny_pyNext_enum_item ge j p1.isList (x:=u1) (by simpa using g1) hei fun h1 ge1 j1 gT sz kp=>⟨_,rfl,?_⟩
  refine wpAny_letOwnedTupleGo_enum ge1 fun h2 ge2 sb=>?_
  have lt:∀ {c o},s.heap.get? c=some o->c≠s.heap.objs.size:=fun e=>Nat.ne_of_lt (Heap.lt_size e)
  have eT:e≠s.heap.objs.size:=lt ge
  have iT:it≠s.heap.objs.size:=by obtain⟨o,y,_⟩:=j;exact lt y
  have gT2:h2.get? s.heap.objs.size=some { cls:= .type "tuple", data:= .seq #[.int i s.toks,u1] }:=sb.extBut _ _ eT.symm gT
  have rv:Vals [V.int i,xs[i]] [.int i s.toks,u1]:= .cons ⟨_,rfl⟩ (.cons k1 .nil)
  have fr:H s.heap.objs.size=none:=I.hok.fresh (Nat.le_refl _)
  have J1:Inv X pins σ (upd H s.heap.objs.size (.tup [.int i,xs[i]])) { s with heap:=s.heap.push { cls:= .type "tuple", data:= .seq #[.int i s.toks,u1] },toks:=s.toks+1 }:=
   I.laid (a:=s.heap.objs.size) (o:= .tup [.int i,xs[i]]) (t':=s.toks+1) (fun b o e=>Heap.get?_push_of_some _ e) (Nat.le_refl _) (show ObjOk X.prog X.w _ _ _ (.tup _) from⟨by show 2≤sizeLine;decide,[.int i s.toks,u1],rv,_,Heap.get?_push_size _ rfl,rfl,_,rfl⟩)
  have all:∀ c o,c≠e->c≠it->s.heap.get? c=some o->h2.get? c=some o:=fun c o n1 n2 y=>sb.extBut _ _ n1 (kp c o n1 n2 y)
  have fpT:∀ c∈[e,it],c≠s.heap.objs.size:=fun c hc=>by
   simp only[List.mem_cons,List.not_mem_nil,or_false] at hc
   rcases hc with rfl | rfl
   ·exact eT
   ·exact iT
  have fp2:∀ c∈[e,it],FpOk X pins (upd H s.heap.objs.size (.tup [.int i,xs[i]])) c:=fun c hc=>by
   obtain⟨f0,r⟩:=hf c hc
   exact⟨by rw[upd_ne (fpT c hc)];exact f0,r⟩
  have J2:Inv X pins σ (upd H s.heap.objs.size (.tup [.int i,xs[i]])) { s with heap:=h2,toks:=s.toks+1 }:=
   turnedL (s:={ s with heap:=s.heap.push { cls:= .type "tuple", data:= .seq #[.int i s.toks,u1] },toks:=s.toks+1 }) (ch:=[e,it]) (t':=s.toks+1) J1 (fun c o nc y=>by
    simp only[List.mem_cons,List.not_mem_nil,or_false,not_or] at nc
    by_cases hT:c=s.heap.objs.size
    ·subst hT
     have e':some { cls:= .type "tuple", data:= .seq #[.int i s.toks,u1] }=some o:=(Heap.get?_push_size _ rfl).symm.trans y
     cases e'
     exact gT2
    ·have e2:s.heap.get? c=some o:=(Heap.get?_push_ne _ _ _ hT).symm.trans y
     exact all c o nc.1 nc.2 e2) fp2
  refine⟨.ref s.heap.objs.size,_,J2,rfl,⟨s.heap.objs.size,_,fr,rfl,List.getElem?_eq_getElem hi,rfl⟩,?_,fun c hc=>(fp2 c hc).1⟩
  exact⟨⟨_,by simpa using ge2⟩,j1.at fun o y=>(sb.2 it hei.symm).trans y⟩
 done:=by
  intro X hP hw hK hc i pins s σ H E I hf st hg
  subst hP hw hK
  obtain⟨⟨old,ge⟩,j⟩:=st
  obtain⟨ha,hs⟩:=hg
  obtain⟨its,r1,p1,_⟩:=I.list ha
  have hn:its.toArray[i]?=none:=by
   have:its.length=xs.length:=r1.length.symm
   simp;(first|lia|omega)
  refine wpAny_pyNext_enum_end (I.ok.hd hc) ge j p1.isList hn fun h' kp=>⟨rfl,?_⟩
  exact turnedL (ch:=[e,it]) (t':=s.toks) I (fun c o nc y=>by
   simp only[List.mem_cons,List.not_mem_nil,or_false,not_or] at nc
   exact kp c o nc.2 y) hf
 self:=fun A i s Q E st h=>by
  obtain⟨⟨old,ge⟩,j⟩:=st
  exact wpAny_pyIter_enum ge h
section
variable {X:Cx}
def iEnum (K:PySem.W.Frag) (ta:TA):TI:=fun σ H R=>ta σ H fun vs H1=>∃ (a:Addr) (xs:List V),vs=[.ref a]/\SqL K H1 a xs/\R (Ien K a xs) H1
theorem pi_enum {elts:List Expr} {ek:Nat} {ep p pos:Pos} {a:Expr} {ta:TA} (hg:Gl X "enumerate") (hm:X.mg "enumerate" = none) (ha:PA X [a] ta) (hs:starEach [a] X.env=(false,eval a X.env) :: starEach [] X.env:=by rfl)
  (hpl:(backTo pos (starEach [] X.env)).any (·.1)=false:=by rfl):PI X (.Tuple elts ek ep) (.Call (.Name "enumerate" p) [a] [] pos) (iEnum X.K ta):=by
 intro pins s σ H R I h
 refine wpAny_Call_Name_kw (ld_blt I hg hm boot_enumerate (PyProof.Rows.callWith_type1 (thn (ha pos pins s σ H _ I h) fun us s1 ⟨vs,H1,I1,r1,q1⟩=>?_) hs hpl))
 obtain⟨A1,xs,e,h1,q⟩:=q1
 subst e
 obtain⟨u1,rfl,ru1⟩:=vals1 r1
 cases ru1
 obtain⟨its,rv1,p1,_⟩:=I1.list h1
 refine call_enumerate_list p1.isList fun h' ge j sz kp=>?_
 refine wpAny_pyIter_enum (s:={ s1 with heap:=h' }) ge ?_
 refine⟨s1.heap.objs.size+1,[s1.heap.objs.size+1,s1.heap.objs.size],_,Ien X.K A1 xs,H1,rfl,I1.kept (t':=s1.toks) kp,turn_enum (Nat.succ_ne_self _),⟨⟨_,ge⟩,j⟩,fun c hc=>?_,q⟩
 have hge:s1.heap.objs.size≤c:=by
  simp only[List.mem_cons,List.not_mem_nil,or_false] at hc
  rcases hc with y | y <;> rw[y] <;> first | exact Nat.le_refl _ | exact Nat.le_add_right _ _
 exact I1.fpOk hge (I1.hok.fresh hge)
theorem qi_enum {elts:List Expr} {ek:Nat} {ep p pos:Pos} {a:Expr} {ta:TA} (hg:Gl X "enumerate") (hm:X.mg "enumerate" = none) (ha:QA X [a] ta) (hs:starEach [a] X.env=(false,eval a X.env) :: starEach [] X.env:=by rfl)
  (hpl:(backTo pos (starEach [] X.env)).any (·.1)=false:=by rfl):QI X (.Tuple elts ek ep) (.Call (.Name "enumerate" p) [a] [] pos) (iEnum X.K ta):=⟨pi_enum hg hm ha.h hs hpl⟩
theorem for_enum {K:PySem.W.Frag} {a:Addr} {xs:List V} {g:TG} {tb:TS} {D:Ends} {σ:L2.St} {H:Hp} (Pv:Nat->L2.St->Hp->Prop) (h0:Pv 0 σ H) (hl:∀ i σ H,i≤xs.length->Pv i σ H->SqL K H a xs)
  (hs:∀ i x T σ H,xs[i]?=some x->H T=none->Pv i σ H->g (.ref T) σ (upd H T (.tup [.int i,x])) fun σ2 H2=>tb { D with nx:=Pv (i+1),ct:=Pv (i+1),bk:=D.nx } σ2 H2) (hd:∀ σ H,Pv xs.length σ H->D.nx σ H) :
  ∃ W:Nat->Nat->L2.St->Hp->Prop,(∃ m,W 0 m σ H)/\∀ i m σ H,W i m σ H->
   ((Ien K a xs).stop i H/\D.nx σ H)\/((Ien K a xs).go i H/\∃ N:L2.St->Hp->Prop,(∀ σ' H',N σ' H'->∃ m',m'<m/\W (i+1) m' σ' H')/\∀ v H',(Ien K a xs).yld i H v H'->g v σ H' fun σ2 H2=>tb { D with nx:=N,ct:=N,bk:=D.nx } σ2 H2):=by
 refine⟨fun i m σ H=>m=xs.length - i/\i≤xs.length/\Pv i σ H,⟨xs.length,by simp,Nat.zero_le _,h0⟩,?_⟩
 rintro i m σ H ⟨rfl,hi,p⟩
 have l1:=hl i σ H hi p
 by_cases hlt:i<xs.length
 ·refine .inr ⟨⟨l1,hlt⟩,Pv (i+1),fun σ' H' p'=>⟨xs.length - (i+1),by (first|lia|omega),rfl,hlt,p'⟩,fun v H' y=>?_⟩
  obtain⟨T,x,nT,rfl,ex,rfl⟩:=y
  exact hs i x T σ H ex nT p
 ·have e:i=xs.length:=by (first|lia|omega)
  subst e
  exact .inl ⟨⟨l1,Nat.le_refl _⟩,hd σ H p⟩
end
end L68
set_option maxRecDepth 100000
set_option linter.all false
set_option maxHeartbeats 800000
set_option Elab.async false
namespace K54
open PySem L2 L3 X8 M01 L6 L5 QL
def top (i:Nat):Stmt:=PySem.Challenge.pw_scruplehouse_k54_whole_no_hour_breaks_a.main.body.getD i (.Pass ⟨0,0,0,0⟩)
abbrev s_greatest_divisor:Stmt:=top 4
abbrev s_fraction:Stmt:=top 5
abbrev s_times:Stmt:=top 6
abbrev s_dose:Stmt:=top 9
abbrev s_takings:Stmt:=top 11
abbrev s_diary_of:Stmt:=top 15
abbrev s_width_of:Stmt:=top 16
abbrev s_stuffs_of:Stmt:=top 17
abbrev s_common_bottom:Stmt:=top 18
abbrev s_taken_of:Stmt:=top 19
abbrev s_totals:Stmt:=top 20
abbrev s_first_too_much:Stmt:=top 21
abbrev s_first_too_near:Stmt:=top 22
abbrev s_first_break:Stmt:=top 23
abbrev s_takes_part:Stmt:=top 24
abbrev s_clash_in:Stmt:=top 25
abbrev s_clash:Stmt:=top 26
abbrev s_law_cell:Stmt:=top 28
abbrev s_law_wheel:Stmt:=top 29
abbrev s_law_lowest:Stmt:=top 30
abbrev s_law_pool:Stmt:=top 31
abbrev s_law_course:Stmt:=top 32
abbrev s_law_dose:Stmt:=top 33
abbrev s_law_rule:Stmt:=top 34
abbrev s_law_hours:Stmt:=top 35
abbrev s_law_events:Stmt:=top 36
abbrev s_law_given:Stmt:=top 37
abbrev s_law_near:Stmt:=top 38
abbrev s_law_over:Stmt:=top 39
abbrev s_law_free:Stmt:=top 40
abbrev s_law:Stmt:=top 41
open L8 L9 L10 L11 L13 L14 L16 L20 L21 L22 L42 L44 L66 L68 M11 M13 M14 M20 M21
section
variable {P:Program} {w:World} {K:PySem.W.Frag} {mg:Str->Option Value} {base:Heap}
def spG:Sp:=fun vs H Q _=>∃ a b:Int,vs=[.int a, .int b]/\0≤a/\0≤b/\Q (.int (gz a b)) H
theorem scG:FnScope ["one", "other", "rest"] ["one", "other"] (defScope s_greatest_divisor):=⟨rfl,rfl,rfl,by decide +kernel,rfl,by decide +kernel,by decide +kernel⟩
theorem d_gcd (T:Th K mg "greatest_divisor" s_greatest_divisor):Def P w K mg base CX0 1 "greatest_divisor" ["one", "other"] spG:=by
 refine QL.def_of T (fun _ _ _ _ _ _ us hl=>M21.len2 us hl fun _ _=>rfl) scG (fun vs H Q E h=>?_) (fun f cdv A outer s H vs Q E hr h=>?_)
 ·obtain⟨a,b,rfl,_⟩:=h
  rfl
 ·obtain⟨a,b,rfl,ha,hb,k⟩:=h
  refine⟨_,(qss_cons (qs_while PassesOwn.never (qt_cmpR op_gt (qv 1) qe_int (nomark _)) (qss_cons (qs_set (i:=2) scG.nd rfl (Or.inl rfl) (qe_op op_mod (qv 0) (qv 1)))
   (qss_cons (qs_set (i:=0) scG.nd rfl (Or.inl rfl) (qv 1))
   (qss_one (qs_set (i:=1) scG.nd rfl (Or.inl rfl) (qv 2))))))
   (qss_one (qs_ret (qv 0)))),?_⟩
  refine while_by (fun σ H1=>∃ a1 b1 r,σ=[some (.int a1),some (.int b1),r]/\H1=H/\0≤a1/\0≤b1/\gz a1 b1=gz a b) (fun σ _=>match σ with | [_,some (.int b1),_]=>b1.toNat | _=>0) ⟨a,b,none,rfl,rfl,ha,hb,rfl⟩ ?_ ?_
  ·rintro σ H1 ⟨a1,b1,r,rfl,rfl,h1,h2,e⟩
   refine⟨_,rfl,_,_,rfl,rfl,_,rfl,?_⟩
   refine ite2 (fun q=>?_) (fun q=>?_)
   ·have q':0<b1:=of_decide_eq_true q
    refine⟨_,rfl,_,rfl,_,_,rfl,rfl,q',_,rfl,_,rfl,⟨b1,a1 % b1,_,rfl,rfl,h2,Int.emod_nonneg _ (by (first|lia|omega)),by rw[gz_step h1 q'];exact e⟩,?_⟩
    show (a1 % b1).toNat<b1.toNat
    have z1:=Int.emod_lt_of_pos a1 q'
    have z2:=Int.emod_nonneg a1 (show b1≠0 by (first|lia|omega))
    (first|lia|omega)
   ·have q':¬ (0<b1):=fun z=>q (decide_eq_true z)
    have b0:b1=0:=by (first|lia|omega)
    subst b0
    refine⟨_,rfl,?_⟩
    show Q (.int a1) H1
    rw[gz_end h1] at e
    rw[e]
    exact k
  ·rintro σ H1 Q1 Q2 kq ⟨v,e,i,j,q1,q2,c,q3,q⟩
   exact⟨v,e,i,j,q1,q2,c,q3,kq _ _ q⟩
def spF:Sp:=fun vs H Q _=>∃ t b:Int,vs=[.int t, .int b]/\Big b/\(b≠0->∀ p,H p=none->Q (.ref p) (upd H p (.tup [.int (ft t b), .int (fb t b)])))/\
 (b=0->False)
theorem scF:FnScope ["top", "bottom", "divisor"] ["top", "bottom"] (defScope s_fraction):=⟨rfl,rfl,rfl,by decide +kernel,rfl,by decide +kernel,by decide +kernel⟩
theorem d_fr (T:ThD K mg "fraction" s_fraction "top" "bottom" 1) (dG:Def P w K mg base CX0 1 "greatest_divisor" ["one", "other"] spG) (zabs:mg "abs" = none) :
  DefD P w K mg base CX0 3 "fraction" ["top", "bottom"] 1 spF:=by
 obtain⟨f,fd,tk,F,m,b2,b1⟩:=T
 refine⟨f,fd,tk,?_,b2,b1,m,F.kp⟩
 obtain⟨oc,od,dV,kV,doc,pm,an,cdv,ct,osl,rfl,lk,hcd⟩:=F.ex
 refine fn_of lk hcd scF (fun vs H Q E h=>?_) fun A outer s H vs Q E hr h=>?_
 ·obtain⟨t,b,rfl,_⟩:=h
  rfl
 ·obtain⟨t,b,rfl,bb,k1,k2⟩:=h
  refine⟨_,QSs.h (qss_cons (qs_if (qt_cmpR op_eq (qv 1) qe_int (nomark _)) (qss_one M21.qs_dead) qss_nil)
   (qss_cons (qs_set (i:=2) scF.nd rfl (Or.inl rfl) (qe_callD dG (hr.mono (by decide)) rfl pass0 (qa_cons (qe_callB call_abs (by rfl) zabs PyProof.Rows.boot_abs (qa_cons (qv 0) qa_nil)) (qa_cons (qe_callB call_abs (by rfl) zabs PyProof.Rows.boot_abs (qa_cons (qv 1) qa_nil)) qa_nil))))
   (qss_cons (qs_if (qt_cmpR op_lt (qv 1) qe_int (nomark _)) (qss_one (qs_set (i:=2) scF.nd rfl (Or.inl rfl) (qe_un un_neg (qv 2)))) qss_nil)
   (qss_one (qs_ret (qe_tup (qa_cons (qe_op op_fdivB (qv 0) (qv 2)) (qa_cons (qe_op op_fdivB (qv 1) (qv 2)) qa_nil)))))))),?_⟩
  refine⟨_,rfl,rfl,_,rfl,?_⟩
  by_cases b0:b=0
  ·subst b0
   refine iteT ?_
   exact k2 rfl
  ·rw[show (decide (V.int b=V.int 0))=false from decide_eq_false (fun z=>b0 (by injection z))]
   refine iteF ?_
   refine⟨_,rfl,_,rfl,_,rfl,_,rfl,ab t,ab b,rfl,ab_nn _,ab_nn _,?_⟩
   refine⟨_,rfl,_,_,rfl,rfl,_,rfl,?_⟩
   have fin:∀ σ:L2.St,σ=[some (.int t),some (.int b),some (.int (dv t b))]->(tRet (tTup (tCons (tOp (rI (fun i j=>j≠0/\Big j) fun i j=> .int (i.fdiv j)) (tVar 0) (tVar 2)) (tCons (tOp (rI (fun i j=>j≠0/\Big j) fun i j=> .int (i.fdiv j)) (tVar 1) (tVar 2)) tNil)))) { nx:=fun _ H'=>Q .non H',rt:=Q } σ H:=by
    rintro σ rfl
    have d0:dv t b≠0:=dv_ne b0
    have dB:Big (dv t b):=Big.le (dv_le b0) bb
    exact⟨_,rfl,_,rfl,_,_,rfl,rfl,⟨d0,dB⟩,_,rfl,_,rfl,_,_,rfl,rfl,⟨d0,dB⟩,(by show 2≤sizeLine;decide),fun p np=>k1 b0 p np⟩
   refine ite2 (fun q=>?_) (fun q=>?_)
   ·have q':b<0:=of_decide_eq_true q
    refine⟨_,rfl,_,rfl,?_⟩
    refine fin _ ?_
    show [some (V.int t),some (V.int b),some (V.int (-(gz (ab t) (ab b))))]=_
    rw[show dv t b= -(gz (ab t) (ab b)) from by unfold dv;rw[if_pos q']]
   ·have q':¬ b<0:=fun z=>q (decide_eq_true z)
    refine fin _ ?_
    show [some (V.int t),some (V.int b),some (V.int (gz (ab t) (ab b)))]=_
    rw[show dv t b=gz (ab t) (ab b) from by unfold dv;rw[if_neg q']]
def spBin (K:PySem.W.Frag) (N M:Int->Int->Int->Int->Int) (G:Int->Prop):Sp:=fun vs H Q _=>∃ (p q:Addr) (a b c d:Int),vs=[.ref p, .ref q]/\SqT K H p [.int a, .int b]/\SqT K H q [.int c, .int d]/\(Sz 500 a/\Sz 500 b/\Sz 500 c/\Sz 500 d)/\0<b/\0<d/\G c/\
 ∀ r x y,H r=none->Fq x y (N a b c d) (M a b c d)->Q (.ref r) (upd H r (.tup [.int x, .int y]))
abbrev spTi (K:PySem.W.Frag):Sp:=spBin K (fun a _ c _=>a * c) (fun _ b _ d=>b * d) (fun _=>True)
theorem b500 {x:Int} (h:Sz 500 x):Big x:=h.big (by decide)
theorem b1000 {x y:Int} (h:Sz 500 x) (k:Sz 500 y):Big (x * y):=(h.mul k).big (by decide)
theorem scTi:FnScope ["one", "other"] ["one", "other"] (defScope s_times):=⟨rfl,rfl,rfl,by decide +kernel,rfl,by decide +kernel,by decide +kernel⟩
theorem d_times (T:Th K mg "times" s_times) (dFr:DefD P w K mg base CX0 3 "fraction" ["top", "bottom"] 1 spF):Def P w K mg base CX0 4 "times" ["one", "other"] (spTi K):=by
 refine QL.def_of T (fun _ _ _ _ _ _ us hl=>M21.len2 us hl fun _ _=>rfl) scTi (fun vs H Q E h=>?_) (fun f cdv A outer s H vs Q E hr h=>?_)
 ·obtain⟨p,q,a,b,c,d,rfl,_⟩:=h
  rfl
 ·obtain⟨p,q,a,b,c,d,rfl,hp,hq,⟨za,zb,zc,zd⟩,b0,d0,_,k⟩:=h
  refine⟨_,(qss_one (qs_ret (qe_callD dFr.all (hr.mono (by decide)) rfl pass0 (qa_cons (qe_op op_mulB (qe_ix ix_tup (qv 0) qe_int (fun _ _=>rfl)) (qe_ix ix_tup (qv 1) qe_int (fun _ _=>rfl))) (qa_cons (qe_op op_mulB (qe_ix ix_tup (qv 0) qe_int (fun _ _=>rfl)) (qe_ix ix_tup (qv 1) qe_int (fun _ _=>rfl))) qa_nil))))),?_⟩
  have md:0<b * d:=Int.mul_pos b0 d0
  refine⟨_,rfl,p,_,_,_,rfl,rfl,hp,rfl,?_⟩
  refine⟨_,rfl,q,_,_,_,rfl,rfl,hq,rfl,?_⟩
  refine⟨_,_,rfl,rfl,⟨b500 za,b500 zc⟩,?_⟩
  refine⟨_,rfl,p,_,_,_,rfl,rfl,hp,rfl,?_⟩
  refine⟨_,rfl,q,_,_,_,rfl,rfl,hq,rfl,?_⟩
  refine⟨_,_,rfl,rfl,⟨b500 zb,b500 zd⟩,?_⟩
  exact⟨_,_,rfl,b1000 zb zd,fun _ r hr=>k r _ _ hr (fq _ md),fun z=>absurd z (by (first|lia|omega))⟩
end
section
variable {P:Program} {w:World} {K:PySem.W.Frag} {mg:Str->Option Value} {base:Heap}
structure RcAt (K:PySem.W.Frag) (H:Hp) (rc:Addr) (pw tk:Int) (hs:List Int):Prop where
 ex:∃ (x:V) (ht:Addr),SqT K H rc [x, .int pw, .int tk, .ref ht]/\SqT K H ht (hs.map V.int)
def spTk (K:PySem.W.Frag):Sp:=fun vs H Q _=>∃ (rc:Addr) (st pw tk:Int) (hs:List Int),vs=[.ref rc, .int st]/\RcAt K H rc pw tk hs/\HsOk hs/\(1≤pw/\pw≤399)/\(1≤tk/\tk≤399)/\(0≤st/\st<10 ^ 12)/\
 ∀ (p:Addr) (H':Hp),H p=none->Same H H'->H' p=some (.lst ((dueH hs st (pw / tk).toNat).map V.int))->Q (.ref p) H'
theorem scTk:FnScope ["recipe", "start", "number", "day", "hours"] ["recipe", "start"] (defScope s_takings):=⟨rfl,rfl,rfl,by decide +kernel,rfl,by decide +kernel,by decide +kernel⟩
theorem d_takings (T:Th K mg "takings" s_takings) (gD:∃ tk,mg "DAY" = some (.int 24 tk)) (zlen:mg "len" = none):Def P w K mg base CX0 1 "takings" ["recipe", "start"] (spTk K):=by
 refine QL.def_of T (fun _ _ _ _ _ _ us hl=>M21.len2 us hl fun _ _=>rfl) scTk (fun vs H Q E h=>?_) (fun f cdv A outer s H vs Q E hr h=>?_)
 ·obtain⟨rc,st,pw,tk,hs,rfl,_⟩:=h
  rfl
 ·obtain⟨rc,st,pw,tk,hs,rfl,⟨x,ht,hrc,hht⟩,ok,⟨p1,p2⟩,⟨t1,t2⟩,⟨s0,s1⟩,k⟩:=h
  obtain⟨tD,mDAY⟩:=gD
  refine⟨_,(qss_cons (qs_set (i:=2) scTk.nd rfl (Or.inl rfl) (qe_op op_fdiv (qe_ix ix_tup (qv 0) qe_int (fun _ _=>rfl)) (qe_ix ix_tup (qv 0) qe_int (fun _ _=>rfl))))
   (qss_cons (qs_set (i:=3) scTk.nd rfl (Or.inr rfl) (qe_op op_sub (qv 1) (qe_op op_mod (qv 1) (qe_glob (v:= .int 24) rfl mDAY ⟨_,rfl⟩))))
   (qss_cons (qs_set (i:=4) scTk.nd rfl (Or.inl rfl) (qe_lst qa_nil))
   (qss_cons (qs_while PassesOwn.never (qt_cmpR op_lt (qe_callB call_len_seq (by rfl) zlen PySem.boot_len (qa_cons (qv 4) qa_nil)) (qv 2) (nomark _)) (qss_cons (qs_expr (qe_bm PySem.F.plainAttrs_list PySem.F.slot_list_extend PySem.F.type_list_extend mt_extend (qv 4) (qa_cons (qe_lcX (lc_mk2 (xs:=["hour"]) (fvs:=["day", "start"]) (fidx:=[3,1]) (defScope s_takings) ["recipe", "start", "number", "day", "hours"] rfl rfl (by decide +kernel)) rfl rfl (qi_tup (qe_ix ix_tup (qv 0) qe_int (fun _ _=>rfl))) (fun cl C s H ex=>(qg_one (lc_mk2 (xs:=["hour"]) (fvs:=["day", "start"]) (fidx:=[3,1]) (defScope s_takings) ["recipe", "start", "number", "day", "hours"] rfl rfl (by decide +kernel)))) (fun cl C s H ex=>(qf_one (qt_cmpR op_ge (qe_op op_add (qv 1) (qv 0)) (qv 2) (nomark _)))) (fun cl C s H ex=>(qe_op op_add (qv 1) (qv 0))) (fun _=>keep_one)) qa_nil)))
   (qss_one (qs_set (i:=3) scTk.nd rfl (Or.inr rfl) (qe_op op_add (qv 3) (qe_glob (v:= .int 24) rfl mDAY ⟨_,rfl⟩))))))
   (qss_one (qs_ret (qe_slice sl_list (qv 4) qo_none (qo_some (qv 2))))))))),?_⟩
  have t0:(0:Int)<tk:=by (first|lia|omega)
  have p0:=Int.ediv_nonneg (show 0≤pw by (first|lia|omega)) (Int.le_of_lt t0)
  have p3:pw / tk≤399:=by have:=Int.ediv_le_self tk (show 0≤pw by (first|lia|omega));(first|lia|omega)
  have em:=Int.emod_add_mul_ediv st 24
  have hn:=ok.ne
  have hle:=ok.le
  refine⟨_,rfl,rc,_,_,_,rfl,rfl,hrc,rfl,_,rfl,rc,_,_,_,rfl,rfl,hrc,rfl,_,_,rfl,rfl,⟨t0,by (first|lia|omega)⟩,?_⟩
  refine⟨_,rfl,_,rfl,_,_,rfl,rfl,(by show (0:Int)<24;decide),_,_,rfl,rfl,?_⟩
  refine⟨(by show 0≤sizeLine;decide),fun l hl=>?_⟩
  refine while_by (fun σ H2=>∃ (j:Nat) (d:Int),σ=[some (.ref rc),some (.int st),some (.int (pw / tk)),some (.int d),some (.ref l)]/\d=24 * (st / 24)+24 * (j:Int)/\H2 l=some (.lst ((GH hs st (j * hs.length)).map V.int))/\(∀ b o,H b=some o->H2 b=some o)) (fun σ _=>match σ with | [_,_,_,some (.int d),_]=>(24 * (st / 24)+24 * (pw / tk+1) - d).toNat | _=>0) ?_ ?_ ?_
  ·refine⟨0,_,rfl,by (first|lia|omega),?_,fun b o e=>by rw[upd_ne (ne_of_none e hl)];exact e⟩
   rw[upd_same,Nat.zero_mul,show GH hs st 0=[] from by unfold GH;rw[Nat.zero_sub];rfl]
   rfl
  ·rintro σ H2 ⟨j,d,rfl,hd,hl2,sm⟩
   have gl:=GH_len hs st (j * hs.length)
   have la:=atH_le hs st
   refine⟨_,rfl,l,_,rfl, .inl (SqL.of hl2),_,rfl,_,_,rfl,rfl,_,rfl,ite2 (fun c=>?_) (fun c=>?_)⟩
   ·have c1:(((GH hs st (j * hs.length)).map V.int).length:Int)<pw / tk:=of_decide_eq_true c
    rw[List.length_map,gl] at c1
    have jm:j≤j * hs.length:=Nat.le_mul_of_pos_right _ hn
    have jn:(j:Int)≤pw / tk:=by
     rcases Nat.eq_zero_or_pos j with z | z
     ·(first|lia|omega)
     ·have q:(j - 1) * hs.length+hs.length=j * hs.length:=by rw[<- Nat.succ_mul,Nat.succ_eq_add_one,Nat.sub_add_cancel z]
      have q2:j - 1≤(j - 1) * hs.length:=Nat.le_mul_of_pos_right _ hn
      (first|lia|omega)
    have sm':Same H H2:=sm
    refine⟨_,rfl, .inl ⟨rfl,_,SqL.of hl2⟩,_,rfl,rc,_,_,_,rfl,rfl,seqT sm' hrc,rfl,ht,rfl,⟨_,seqT sm' hht⟩,ones_tup (K:=K) (a:=ht) (hs.map V.int) (fun i ys H3=>H3=H2/\ys=(((hs.take i).filter fun h=>decide (d+h ≥ st)).map fun h=>d+h).map V.int) ⟨rfl,rfl⟩ ?_ ?_ ?_⟩
    ·rintro i ys H3 hi ⟨rfl,rfl⟩
     refine⟨?_,seqT sm' hht⟩
     rw[List.length_map,List.length_map]
     have:=List.length_filter_le (fun h=>decide (d+h ≥ st)) (hs.take i)
     rw[List.length_take] at this
     rw[sizeLine_eq]
     (first|lia|omega)
    ·rintro i y ys H3 hx ⟨rfl,rfl⟩
     rw[List.getElem?_map] at hx
     obtain⟨h,eh,rfl⟩:=Option.map_eq_some_iff.mp hx
     have tk1:hs.take (i+1)=hs.take i ++ [h]:=by rw[List.take_add_one,eh];rfl
     refine⟨_,rfl,_,rfl,_,_,rfl,rfl,_,rfl,_,_,rfl,rfl,_,rfl,ite2 (fun c2=>?_) (fun c2=>?_)⟩
     ·refine⟨_,rfl,_,rfl,_,_,rfl,rfl,rfl,?_⟩
      rw[tk1,List.filter_append,List.map_append,List.map_append,List.filter_cons_of_pos (p:=fun h=>decide (d+h ≥ st)) c2]
      rfl
     ·refine⟨rfl,?_⟩
      rw[tk1,List.filter_append,List.map_append,List.map_append,List.filter_cons_of_neg (p:=fun h=>decide (d+h ≥ st)) c2]
      simp
    ·rintro ys H3 ⟨rfl,rfl⟩ D hD
     rw[List.length_map,List.take_length]
     have hfl:=List.length_filter_le (fun h=>decide (d+h ≥ st)) hs
     refine⟨l,D,_,_,rfl,rfl,sameUpd hD _ _ hl2,upd_same,?_,?_⟩
     ·rw[List.length_map,List.length_map,List.length_map,gl,sizeLine_eq]
      (first|lia|omega)
     ·refine⟨_,rfl,_,_,rfl,rfl,⟨j+1,_,rfl,?_,?_,fun b o e=>?_⟩,?_⟩
      ·rw[hd,Int.natCast_add]
       show _=24 * (st / 24)+24 * ((j:Int)+1)
       (first|lia|omega)
      ·rw[upd_same,GH_step ok,List.map_append, <- hd]
      ·rw[upd_ne (ne_of_none e hl)]
       exact sameUpd hD _ _ (sm b o e)
      ·show (24 * (st / 24)+24 * (pw / tk+1) - (d+24)).toNat<(24 * (st / 24)+24 * (pw / tk+1) - d).toNat
       (first|lia|omega)
   ·have c1:¬ ((((GH hs st (j * hs.length)).map V.int).length:Int)<pw / tk):=fun z=>c (decide_eq_true z)
    rw[List.length_map] at c1
    refine⟨_,rfl,_,rfl,pw / tk,rfl,l,_,rfl,SqL.of hl2,fun p hp=>?_⟩
    refine k p _ ?_ ?_ ?_
    ·rcases h:H p with _ | o
     ·rfl
     ·rw[sm p o h] at hp;cases hp
    ·exact fun b o e=>by rw[upd_ne (ne_of_none (sm b o e) hp)];exact sm b o e
    ·rw[upd_same]
     have e1:cutV ((GH hs st (j * hs.length)).map V.int) none (some (pw / tk))=((GH hs st (j * hs.length)).map V.int).take (pw / tk).toNat:=by
      unfold cutV
      rw[HT.sIx_none,List.drop_zero,Nat.sub_zero,show (pw / tk:Int)=(((pw / tk).toNat:Nat):Int) from by (first|lia|omega),HT.sIx_nat,Int.toNat_natCast,List.length_map,Nat.min_eq_left (by (first|lia|omega))]
     rw[e1, <- List.map_take,GH_take (by (first|lia|omega))]
  ·intro σ H Q Q' hq z
   obtain⟨v,e1,a,xs,e2,e3,v2,e4,i,j,e5,e6,c,e7,q⟩:=z
   exact⟨v,e1,a,xs,e2,e3,v2,e4,i,j,e5,e6,c,e7,hq _ _ q⟩
end
end K54
set_option maxRecDepth 100000
set_option linter.all false
set_option maxHeartbeats 800000
set_option Elab.async false
namespace K54
open PySem L2 L3 X8 M01 L6 L5 QL
open L8 L9 L10 L11 L13 L14 L16 L20 L21 L22 L42 L44 L66 L68 M11 M13 M14 M20 M21
section
variable {P:Program} {w:World} {K:PySem.W.Frag} {mg:Str->Option Value} {base:Heap}
theorem fa_at {α:Type} {r:V->α->Prop} {vs:List V} {as:List α} (h:Fa r vs as) {i:Nat} {v:V} (e:vs[i]?=some v):∃ a,as[i]?=some a/\r v a:=by
 have hi:=(List.getElem?_eq_some_iff.mp e).1
 have hl:=h.len
 refine⟨as[i]'(by (first|lia|omega)),List.getElem?_eq_getElem (by (first|lia|omega)),?_⟩
 have:=h.at hi (show i<as.length by (first|lia|omega))
 rwa [(List.getElem?_eq_some_iff.mp e).2] at this
theorem fa_snoc {α:Type} {r:V->α->Prop} {v:V} {a:α} (hv:r v a) {vs:List V} {as:List α} (h:Fa r vs as):Fa r (vs ++ [v]) (as ++ [a]):=by
 induction h with
 | nil=>exact .cons hv .nil
 | cons h1 _ ih=>exact .cons h1 ih
theorem take_snoc {α:Type} {as:List α} {i:Nat} {a:α} (e:as[i]?=some a):as.take (i+1)=as.take i ++ [a]:=by
 rw[List.take_add_one,e]
 rfl
def spDo (K:PySem.W.Frag):Sp:=fun vs H Q _=>∃ (rc:Addr) (R:Rcp) (x:Str),vs=[.ref rc, .str x]/\RcpAt K H rc R/\RcpOk R/\∀ (r:Addr) (H':Hp),Same H H'->H' r=some (.tup [.int (doseR R x).1, .int (doseR R x).2])->Q (.ref r) H'
theorem scDo:FnScope ["recipe", "stuff", "name", "amount"] ["recipe", "stuff"] (defScope s_dose):=⟨rfl,rfl,rfl,by decide +kernel,rfl,by decide +kernel,by decide +kernel⟩
theorem d_dose (T:Th K mg "dose" s_dose) (dFr:DefD P w K mg base CX0 3 "fraction" ["top", "bottom"] 1 spF) (dTi:Def P w K mg base CX0 4 "times" ["one", "other"] (spTi K)):Def P w K mg base CX0 5 "dose" ["recipe", "stuff"] (spDo K):=by
 refine QL.def_of T (fun _ _ _ _ _ _ us hl=>M21.len2 us hl fun _ _=>rfl) scDo (fun vs H Q E h=>?_) (fun f cdv A outer s H vs Q E hr h=>?_)
 ·obtain⟨rc,R,x,rfl,_⟩:=h
  rfl
 ·obtain⟨rc,R,x,rfl,⟨it,ps,ht,hrc,hit,fi,hht⟩,ok,k⟩:=h
  refine⟨_,(qss_cons (qs_for PassesOwn.never rfl (qi_tup (qe_ix ix_tup (qv 0) qe_int (fun _ _=>rfl))) (qg_tup rfl (qgs_cons (qg_name (i:=2) scDo.nd rfl (Or.inl rfl)) (qgs_cons (qg_name (i:=3) scDo.nd rfl (Or.inl rfl)) qgs_nil)))
    (qss_one (qs_if (qt_cmpR op_eq (qv 2) (qv 1) (nomark _)) (qss_one (qs_ret (qe_callD dTi (hr.mono (by decide)) rfl pass0 (qa_cons (qv 3) (qa_cons (qe_callD dFr.all (hr.mono (by decide)) rfl pass0 (qa_cons (qe_ix ix_tup (qv 0) qe_int (fun _ _=>rfl)) (qa_cons (qe_ix ix_tup (qv 0) qe_int (fun _ _=>rfl)) qa_nil))) qa_nil))))) qss_nil)))
   (qss_one (qs_ret (qe_callDef dFr (hr.mono (by decide)) rfl pass0 (qa_cons qe_int qa_nil))))),?_⟩
  refine⟨_,rfl,rc,_,_,_,rfl,rfl,hrc,rfl,it,rfl,⟨_,hit⟩,for_tup (K:=K) (a:=it) (xs:=ps) (fun i σ H2=>∃ v2 v3:Option V,σ=[some (.ref rc),some (.str x),v2,v3]/\H2=H/\hits x (R.items.take i)=[]) ⟨none,none,rfl,rfl,rfl⟩ ?_ ?_ ?_⟩
  ·rintro i σ H2 _ ⟨v2,v3,rfl,rfl,_⟩
   exact hit
  ·rintro i v σ H2 hv ⟨v2,v3,rfl,rfl,hz⟩
   obtain⟨t,et,p,am,rfl,hp,ham⟩:=fa_at fi hv
   refine⟨p,_,rfl,hp,rfl,_,_,rfl,_,_,rfl,rfl,?_⟩
   refine⟨_,rfl,_,rfl,rfl,_,rfl,ite2 (fun c=>?_) (fun c=>?_)⟩
   ·have c':V.str t.1=V.str x:=of_decide_eq_true c
    injection c' with c'
    obtain⟨r,er⟩:=filt_cut (p:=fun t:Str × Int × Int=>decide (t.1=x)) hz et (decide_eq_true c')
    obtain⟨⟨a1,a2⟩,b1,b2⟩:=ok.it t (List.mem_of_getElem? et)
    have pw:=ok.pw
    have tk:=ok.tk
    have f1:=fq R.tk (show 0<R.pw by (first|lia|omega))
    have s1:=f1.szt
    have s2:=f1.szb
    have sz:∀ {z:Int},z.natAbs≤1000->Sz 500 z:=fun h=>Nat.lt_of_le_of_lt h (by decide +kernel)
    refine⟨_,rfl,_,rfl,rc,_,_,_,rfl,rfl,hrc,rfl,_,rfl,rc,_,_,_,rfl,rfl,hrc,rfl,R.tk,R.pw,rfl,Big.of (by (first|lia|omega)) (by (first|lia|omega)),fun _ q hq=>?_,fun z=>absurd z (by (first|lia|omega))⟩
    have u1:=sameUpd (o:= .tup [.int (ft R.tk R.pw), .int (fb R.tk R.pw)]) hq
    refine⟨am,q,t.2.1,t.2.2,ft R.tk R.pw,fb R.tk R.pw,rfl,seqT u1 ham,SqT.of upd_same,⟨sz (by (first|lia|omega)),sz (by (first|lia|omega)),sz (by (first|lia|omega)),sz (by (first|lia|omega))⟩,by (first|lia|omega),f1.low.pos,trivial,fun r2 x2 y2 hr2 fx=>?_⟩
    obtain⟨rfl,rfl⟩:=dose_eq (by (first|lia|omega)) (by (first|lia|omega)) fx
    refine k r2 _ (u1.trans (sameUpd hr2)) ?_
    rw[upd_same]
    unfold doseR hits
    rw[er]
    rfl
   ·refine⟨_,_,rfl,rfl,filt_step et hz (decide_eq_false fun z=>c (decide_eq_true (by rw[z])))⟩
  ·rintro σ H2 ⟨v2,v3,rfl,rfl,hz⟩
   rw[fi.len,List.take_length] at hz
   refine⟨0,1,rfl,Big.of (by decide) (by decide),fun _ q hq=>?_,fun z=>absurd z (by decide)⟩
   refine k q _ (sameUpd hq) ?_
   rw[upd_same]
   unfold doseR
   rw[hz]
   rfl
def spDi (K:PySem.W.Frag):Sp:=fun vs H Q _=>∃ (l:Addr) (us:List V) (Cs:List Crs),vs=[.ref l]/\SqL K H l us/\Fa (rpC K H) us Cs/\Cs.length≤100/\(∀ c∈Cs,CrsOk c)/\∀ (d:Addr) (ds:List V) (H':Hp),Same H H'->H' d=some (.lst ds)->Fa (rpD K H') ds Cs->Q (.ref d) H'
theorem scDi:FnScope ["courses"] ["courses"] (defScope s_diary_of):=⟨rfl,rfl,rfl,by decide +kernel,rfl,by decide +kernel,by decide +kernel⟩
theorem d_diary (T:Th K mg "diary_of" s_diary_of) (dTk:Def P w K mg base CX0 1 "takings" ["recipe", "start"] (spTk K)):Def P w K mg base CX0 2 "diary_of" ["courses"] (spDi K):=by
 refine QL.def_of T (fun _ _ _ _ _ _ us hl=>M21.len1 us hl fun _=>rfl) scDi (fun vs H Q E h=>?_) (fun f cdv A outer s H vs Q E hr h=>?_)
 ·obtain⟨l,us,Cs,rfl,_⟩:=h
  rfl
 ·obtain⟨l,us,Cs,rfl,hl,fc,lc,ok,k⟩:=h
  refine⟨_,(qss_one (qs_ret (qe_lcX (lc_mk2 (xs:=["recipe", "start"]) (fvs:=[]) (fidx:=[]) (defScope s_diary_of) ["courses"] rfl rfl (by decide +kernel)) rfl rfl (qi_list (qv 0)) (fun cl C s H ex=>(qg_pair rfl (lc_mk2 (xs:=["recipe", "start"]) (fvs:=[]) (fidx:=[]) (defScope s_diary_of) ["courses"] rfl rfl (by decide +kernel)))) (fun cl C s H ex=>qf_nil) (fun cl C s H ex=>(qe_tup (qa_cons (qv 0) (qa_cons (qe_callD dTk (hr.mono (by decide)) rfl pass0 (qa_cons (qv 0) (qa_cons (qv 1) qa_nil))) qa_nil)))) (fun _=>keep_pair)))),?_⟩
  have fl:=fc.len
  refine⟨_,rfl,l,rfl,⟨_,hl⟩,pairs_list (K:=K) us (fun i ys H2=>Same H H2/\Fa (rpD K H2) ys (Cs.take i)) ⟨Same.refl _, .nil⟩ (fun i ys H2 hi z=>?_) (fun i v ys H2 hv z=>?_) (fun ys H2 z=>?_)⟩
  ·obtain⟨s2,fd⟩:=z
   refine⟨?_,s2.seq hl⟩
   rw[fd.len,List.length_take,sizeLine_eq]
   (first|lia|omega)
  ·obtain⟨s2,fd⟩:=z
   obtain⟨c,ec,p,rc,rfl,hp,hrc⟩:=fa_at fc hv
   have okc:=ok c (List.mem_of_getElem? ec)
   obtain⟨it,ps,ht,g1,g2,g3,g4⟩:=id hrc
   refine⟨p,_,_,rfl,seqT s2 hp,?_⟩
   unfold tNone
   dsimp only
   rw[if_pos rfl]
   refine⟨_,rfl,_,rfl,_,rfl,rc,c.2,c.1.pw,c.1.tk,c.1.hs,rfl,⟨_,ht,seqT s2 g1,seqT s2 g4⟩,okc.1.hs,okc.1.pw,okc.1.tk,okc.2,fun hl2 H3 fh s3 hh=>⟨(by show 2≤sizeLine;decide),fun t htt=>?_⟩⟩
   have u:=sameUpd (o:= .tup [.ref rc, .ref hl2]) htt
   have sA:=(s2.trans s3).trans u
   refine⟨sA,?_⟩
   rw[take_snoc ec]
   refine fa_snoc ?_ (fd.mono fun _ _=>rpD.mono (s3.trans u))
   exact⟨t,rc,hl2,rfl,SqT.of upd_same,hrc.mono sA,u _ _ hh⟩
  ·obtain⟨s2,fd⟩:=z
   intro D hD
   rw[fl,List.take_length] at fd
   have u:=sameUpd (o:= .lst ys) hD
   exact k D ys _ (s2.trans u) upd_same (fd.mono fun _ _=>rpD.mono u)
def spWi (K:PySem.W.Frag):Sp:=fun vs H Q _=>∃ (v:V) (r:Rl),vs=[v]/\rpR K H v r/\Q (.int r.width) H
theorem scWi:FnScope ["rule"] ["rule"] (defScope s_width_of):=⟨rfl,rfl,rfl,by decide +kernel,rfl,by decide +kernel,by decide +kernel⟩
theorem d_width (T:Th K mg "width_of" s_width_of) (gD:∃ tk,mg "DAY" = some (.int 24 tk)) (gO:∃ tk,mg "ONCE" = some (.str "once" tk)) (gA:∃ tk,mg "APART" = some (.str "apart" tk)):Def P w K mg base CX0 1 "width_of" ["rule"] (spWi K):=by
 refine QL.def_of T (fun _ _ _ _ _ _ us hl=>M21.len1 us hl fun _=>rfl) scWi (fun vs H Q E h=>?_) (fun f cdv A outer s H vs Q E hr h=>?_)
 ·obtain⟨v,r,rfl,_⟩:=h
  rfl
 ·obtain⟨v,r,rfl,hr_,q⟩:=h
  obtain⟨tD,mDAY⟩:=gD
  obtain⟨tO,mON⟩:=gO
  obtain⟨tA,mAP⟩:=gA
  refine⟨_,(qss_cons (qs_if (qt_cmpR op_eq (qe_ix ix_tup (qv 0) qe_int (fun _ _=>rfl)) (qe_glob (v:= .str "once") rfl mON ⟨_,rfl⟩) (nomark _)) (qss_one (qs_ret qe_int)) qss_nil)
   (qss_cons (qs_if (qt_cmpR op_eq (qe_ix ix_tup (qv 0) qe_int (fun _ _=>rfl)) (qe_glob (v:= .str "apart") rfl mAP ⟨_,rfl⟩) (nomark _)) (qss_one (qs_ret (qe_ix ix_tup (qv 0) qe_int (fun _ _=>rfl)))) qss_nil)
   (qss_one (qs_ret (qe_glob (v:= .int 24) rfl mDAY ⟨_,rfl⟩))))),?_⟩
  have n1:¬ V.str "day" = V.str "once" := by decide +kernel
  have n2:¬ V.str "day" = V.str "apart" := by decide +kernel
  have n3:¬ V.str "apart" = V.str "once" := by decide +kernel
  cases r with
  | lim day x t b=>
   obtain⟨p,am,rfl,hp,_⟩:=hr_
   cases day with
   | false=>exact⟨_,rfl,p,_,_,_,rfl,rfl,hp,rfl,rfl,_,rfl,ite2 (fun _=>q) (fun c=>absurd (decide_eq_true rfl) c)⟩
   | true=>exact⟨_,rfl,p,_,_,_,rfl,rfl,hp,rfl,rfl,_,rfl,ite2 (fun c=>absurd (of_decide_eq_true c) n1) (fun _=>⟨_,rfl,p,_,_,_,rfl,rfl,hp,rfl,rfl,_,rfl,ite2 (fun c=>absurd (of_decide_eq_true c) n2) (fun _=>q)⟩)⟩
  | apart x y n=>
   obtain⟨p,rfl,hp⟩:=hr_
   exact⟨_,rfl,p,_,_,_,rfl,rfl,hp,rfl,rfl,_,rfl,ite2 (fun c=>absurd (of_decide_eq_true c) n3) (fun _=>⟨_,rfl,p,_,_,_,rfl,rfl,hp,rfl,rfl,_,rfl,ite2 (fun _=>⟨_,rfl,p,_,_,_,rfl,rfl,hp,rfl,q⟩) (fun c=>absurd (decide_eq_true rfl) c)⟩)⟩
def rpF (K:PySem.W.Frag):Rp (Int × Int):=fun H v q=>rpK K H v [q.1,q.2]
def spCb (K:PySem.W.Frag):Sp:=fun vs H Q _=>∃ (l:Addr) (us:List V) (qs:List (Int × Int)),vs=[.ref l]/\SqL K H l us/\Fa (rpF K H) us qs/\qs.length≤100/\(∀ q∈qs,1≤q.2/\q.2≤399000)/\∀ B:Int,0<B->Sz 2000 B->(∀ q∈qs,q.2 ∣ B)->Q (.int B) H
theorem scCb:FnScope ["fractions", "bottom", "one"] ["fractions"] (defScope s_common_bottom):=⟨rfl,rfl,rfl,by decide +kernel,rfl,by decide +kernel,by decide +kernel⟩
theorem d_bottom (T:Th K mg "common_bottom" s_common_bottom) (dG:Def P w K mg base CX0 1 "greatest_divisor" ["one", "other"] spG):Def P w K mg base CX0 2 "common_bottom" ["fractions"] (spCb K):=by
 refine QL.def_of T (fun _ _ _ _ _ _ us hl=>M21.len1 us hl fun _=>rfl) scCb (fun vs H Q E h=>?_) (fun f cdv A outer s H vs Q E hr h=>?_)
 ·obtain⟨l,us,qs,rfl,_⟩:=h
  rfl
 ·obtain⟨l,us,qs,rfl,hl,fq_,lq,ok,k⟩:=h
  refine⟨_,(qss_cons (qs_set (i:=1) scCb.nd rfl (Or.inl rfl) qe_int)
   (qss_cons (qs_for PassesOwn.never rfl (qi_list (qv 0)) (qg_name (i:=2) scCb.nd rfl (Or.inl rfl))
    (qss_one (qs_set (i:=1) scCb.nd rfl (Or.inl rfl) (qe_op op_mulB (qe_op op_fdiv (qv 1) (qe_callD dG (hr.mono (by decide)) rfl pass0 (qa_cons (qv 1) (qa_cons (qe_ix ix_tup (qv 2) qe_int (fun _ _=>rfl)) qa_nil)))) (qe_ix ix_tup (qv 2) qe_int (fun _ _=>rfl))))))
   (qss_one (qs_ret (qv 1))))),?_⟩
  have fl:=fq_.len
  refine⟨_,rfl,l,rfl,⟨_,hl⟩,for_list (K:=K) (a:=l) (xs:=us) (fun i σ H2=>∃ (B:Int) (v2:Option V),σ=[some (.ref l),some (.int B),v2]/\H2=H/\0<B/\Sz (1+19 * i) B/\∀ q∈qs.take i,q.2 ∣ B) ⟨1,none,rfl,rfl,by decide,by unfold Sz;decide,fun q hq=>by cases hq⟩ ?_ ?_ ?_⟩
  ·rintro i σ H2 _ ⟨B,v2,rfl,rfl,_⟩
   exact hl
  ·rintro i v σ H2 hv ⟨B,v2,rfl,rfl,B0,zB,dv_⟩
   obtain⟨q,eq,p,rfl,hp⟩:=fa_at fq_ hv
   obtain⟨b1,b2⟩:=ok q (List.mem_of_getElem? eq)
   have hi:i<100:=by have:=(List.getElem?_eq_some_iff.mp eq).1;(first|lia|omega)
   obtain⟨g0,gb,_,_⟩:=gz_dvd B0 (show 0<q.2 by (first|lia|omega))
   obtain⟨n0,n1,n2,n3⟩:=lcm_step B0 (show 0<q.2 by (first|lia|omega))
   have zb:Sz 19 q.2:=Nat.lt_of_le_of_lt (show q.2.natAbs≤399000 by (first|lia|omega)) (by decide)
   have zz:=zB.mul zb
   refine⟨_,rfl,_,rfl,_,rfl,p,_,_,_,rfl,rfl,hp,rfl,B,q.2,rfl,by (first|lia|omega),by (first|lia|omega),_,_,rfl,rfl,⟨g0,by (first|lia|omega)⟩,_,rfl,p,_,_,_,rfl,rfl,hp,rfl,_,_,rfl,rfl,⟨?_,zb.big (by decide)⟩,_,_,rfl,rfl,n0,?_,fun q' hq'=>?_⟩
   ·have le:B / gz B q.2≤B:=Int.ediv_le_self _ (by (first|lia|omega))
    have ge:0≤B / gz B q.2:=Int.ediv_nonneg (by (first|lia|omega)) (by (first|lia|omega))
    exact(zB.le (y:=B / gz B q.2) (by (first|lia|omega))).big (by (first|lia|omega))
   ·refine(zz.le ?_).mono (by (first|lia|omega))
    generalize B / gz B q.2 * q.2=M at n0 n3
    generalize B * q.2=N at n3
    (first|lia|omega)
   ·rw[take_snoc eq] at hq'
    rcases List.mem_append.mp hq' with z | z
    ·exact Int.dvd_trans (dv_ q' z) n1
    ·rw[List.mem_singleton.mp z];exact n2
  ·rintro σ H2 ⟨B,v2,rfl,rfl,B0,zB,dv_⟩
   rw[fl,List.take_length] at dv_
   exact⟨_,rfl,k B B0 (zB.mono (by (first|lia|omega))) dv_⟩
end
end K54
set_option maxRecDepth 100000
set_option linter.all false
set_option maxHeartbeats 4000000
set_option Elab.async false
namespace SX
open PySem PyProof.Rows
open PySem PyProof.Rows
section
variable {L:Keyed->Keyed->Bool}
theorem wpS_all64 (O:Ord L) (K:Asks prog w A E s κ a₀ L) {st:SortSt} {Q:Unit->SortSt->Prop} (B:Bs κ a₀ st) (hp:pendingOf st= #[]) (h2:1≤a₀.size) (h64:a₀.size<64) (h:∀ st',Bs κ a₀ st'->SOn L (arrOf st') 0 a₀.size->Q () st'):wpS (model prog w) A E s sortRuns' Q st:=by
 rw[sortRuns'_eq]
 refine wpS_bind (wpS_get ?_)
 dsimp only
 rw[B.size]
 have em:minRun' a₀.size a₀.size 0=a₀.size:=by
  obtain⟨k,ek⟩:∃ k,a₀.size=k+1:=⟨a₀.size - 1,by (first|lia|omega)⟩
  rw[ek,minRun'_succ,if_pos (by (first|lia|omega))]
 rw[em]
 refine wpS_bind (wpS_mono (wpS_forRange (I:=fun x c st'=>∃ lo,c=(none,lo)/\Bs κ a₀ st'/\(lo=0/\x=0/\pendingOf st'= #[]\/lo=a₀.size/\(pendingOf st').size≤1/\SOn L (arrOf st') 0 a₀.size))
  (Q:=fun c st'=>c=(none,a₀.size)/\Bs κ a₀ st'/\(pendingOf st').size≤1/\SOn L (arrOf st') 0 a₀.size) ?_ ?_ ⟨0,rfl,B, .inl ⟨rfl,rfl,hp⟩⟩) ?_)
 ·rintro x c st1 _ hx ⟨lo,rfl,B1,(⟨rfl,_,p0⟩ | ⟨rfl,p1,so1⟩)⟩
  ·dsimp only
   refine wpS_ite (fun ce=>absurd ce (by (first|lia|omega))) (fun ce=>?_)
   refine wpS_bind (wpS_count O K (by (first|lia|omega)) (by (first|lia|omega)) B1 fun m st2 B2 m1 m2 so ol pe=>?_)
   dsimp only
   refine wpS_ite (fun cm=>?_) (fun cm=>?_)
   ·refine wpS_bind (wpS_lift (wpAny_rule ⟨rfl,?_⟩))
    obtain⟨fo,efo⟩:∃ fo,fo=min (a₀.size - 0) a₀.size:=⟨_,rfl⟩
    rw[<- efo]
    have ef:fo=a₀.size:=by (first|lia|omega)
    refine wpS_bind (wpS_bin O K (by (first|lia|omega)) (by (first|lia|omega)) B2 so fun st3 B3 so3 ol3 pe3=>?_)
    simp only[Bool.not_true,Bool.false_eq_true,if_false]
    refine wpS_bind (wpS_get ?_)
    have pz:pendingOf st3= #[]:=by rw[pe3,pe,p0]
    rw[pz]
    show wpS _ _ _ _ _ _ st3
    dsimp only[Array.back?]
    refine wpS_bind (wpS_modify (wpS_pure ⟨0+fo,rfl,⟨B3.perm,B3.kind,B3.failed⟩, .inr ⟨by (first|lia|omega),?_,?_⟩⟩))
    ·show ((pendingOf st3).push (0,fo,0)).size≤1
     rw[pz]
     exact Nat.le_refl _
    ·rw[ef,Nat.zero_add] at so3
     exact so3
   ·refine wpS_bind (wpS_get ?_)
    have pz:pendingOf st2= #[]:=by rw[pe,p0]
    rw[pz]
    show wpS _ _ _ _ _ _ st2
    dsimp only[Array.back?]
    refine wpS_bind (wpS_modify (wpS_pure ⟨0+m,rfl,⟨B2.perm,B2.kind,B2.failed⟩, .inr ⟨by (first|lia|omega),?_,?_⟩⟩))
    ·show ((pendingOf st2).push (0,m,0)).size≤1
     rw[pz]
     exact Nat.le_refl _
    ·rw[show 0+m=a₀.size by (first|lia|omega)] at so
     exact so
  ·dsimp only
   exact wpS_ite (fun _=>wpS_pure ⟨rfl,B1,p1,so1⟩) (fun ce=>absurd (Nat.le_refl a₀.size) (by (first|lia|omega)))
 ·rintro c st1 ⟨lo,rfl,B1,(⟨rfl,x0,p0⟩ | ⟨rfl,p1,so1⟩)⟩
  ·(first|lia|omega)
  ·exact⟨rfl,B1,p1,so1⟩
 ·rintro c st1 ⟨rfl,B1,p1,so1⟩
  dsimp only
  refine wpS_bind (wpS_mono (wpS_forRange (I:=fun x c st'=>c=(none,())/\Bs κ a₀ st'/\(pendingOf st').size≤1/\SOn L (arrOf st') 0 a₀.size)
   (Q:=fun c st'=>c=(none,())/\Bs κ a₀ st'/\SOn L (arrOf st') 0 a₀.size) ?_ ?_ ⟨rfl,B1,p1,so1⟩) ?_)
  ·rintro y c st4 _ hy ⟨rfl,B4,z4,so4⟩
   refine wpS_bind (wpS_get ?_)
   exact wpS_ite (fun ce=>wpS_pure ⟨rfl,B4,so4⟩) (fun ce=>absurd z4 ce)
  ·rintro c st4 ⟨rfl,B4,z4,so4⟩
   exact⟨rfl,B4,so4⟩
  ·rintro c st4 ⟨rfl,B4,so4⟩
   exact wpS_pure (h st4 B4 so4)
end
section
variable {prog:Program} {w:World} {A:Around} {E:Value->Shared->Prop} {s:Shared} {L:Keyed->Keyed->Bool} {κ:SortKind}
theorem srt_tree64 (O:Ord L) {a:Addr} {vs:List Value} {n:Nat} {P:Fin->Shared->Prop} (ho:s.heap.get? a=some (seqObj "list" vs.toArray n)) (hz:vs.length≤sizeLine) (h64:vs.length<64) (T:Told prog w A E s a vs κ L)
  (h:∀ out:List Value,out.Perm vs->out.Pairwise (fun x y=>L (y,y) (x,x)=false)->P (.done (.ret .none)) { s with heap:=sortedHeap s.heap a vs out.toArray }):wpAny (model prog w) A (Builtin.«list.sort» ⟨[.ref a],[]⟩) P E s:=by
 rw[list_sort_plain]
 have ha:a<s.heap.objs.size:=Heap.lt_size ho
 refine wpAny_bind (listItems_at ho rfl (wpAny_bind (listUpdate_at ho rfl ?_ (by simpa using hz) (by simp))))
 obtain⟨e1,ho1⟩:∃ e1,(s.heap.update a (Obj.mapSeq fun _=>#[])).get? a=some (seqObj "list" #[] e1):=⟨_,get?_update_seq ho (fun _=>#[])⟩
 refine wpAny_bind (seqEpoch_at ho1 rfl (wpAny_bind (wpAny_newTuple (wpAny_bind (wpAny_newList (wpAny_holding ?_)))) ))
 have ho6:(((s.heap.update a (Obj.mapSeq fun _=>#[])).push (seqObj "tuple" vs.toArray 0)).push (seqObj "list" #[] 0)).get? a=some (seqObj "list" #[] e1):=Heap.get?_push_of_some _ (Heap.get?_push_of_some _ ho1)
 show wpAny (model prog w) A _ P E { s with heap:=((s.heap.update a (Obj.mapSeq fun _=>#[])).push (seqObj "tuple" vs.toArray 0)).push (seqObj "list" #[] 0) }
 dsimp only
 have lz:vs.toArray.size=vs.length:=by simp
 have mz:∀ {xs:Array Keyed},xs.size=vs.length->(xs.map (·.2)).size≤sizeLine+1:=fun e=>by rw[Array.size_map,e];(first|lia|omega)
 by_cases c2:vs.toArray.size<2
 ·rw[if_pos c2,if_pos c2]
  refine wpAny_bind (wpAny_pure ?_)
  rw[StateT.run_pure]
  refine wpAny_bind (wpAny_pure ?_)
  dsimp only
  refine wpAny_bind (seqEpoch_at ho6 rfl (wpAny_bind (listUpdate_at ho6 rfl ?_ (Nat.zero_le _) (mz (show (vs.toArray.zip vs.toArray).size=vs.length by simp)))))
  have eo:(vs.toArray.zip vs.toArray).map (·.2)=vs.toArray:=by
   apply Array.ext'
   simp[List.map_snd_zip]
  simp only[bne_self_eq_false,Bool.false_eq_true,if_false]
  rw[eo]
  refine wpAny_pure (h vs (List.Perm.refl _) ?_)
  match vs,lz,c2 with
  | [],_,_=>exact List.Pairwise.nil
  | [x],_,_=>exact List.pairwise_singleton _ _
  | x :: y :: r,lz,c2=>exact absurd c2 (by rw[lz,List.length_cons,List.length_cons];(first|lia|omega))
 ·rw[if_neg c2,if_neg c2]
  obtain⟨t1,t2⟩:=T (by (first|lia|omega)) { s with heap:=((s.heap.update a (Obj.mapSeq fun _=>#[])).push (seqObj "tuple" vs.toArray 0)).push (seqObj "list" #[] 0) } ⟨_,rfl⟩ fun b o hb e=>Heap.get?_push_of_some _ (Heap.get?_push_of_some _ (by rw[Heap.get?_update_ne _ _ _ _ hb];exact e))
  refine wpAny_bind (t1 _ ?_)
  refine wpAny_bind (wpAny_mono (wpS_all64 O t2 (st:=SortSt.mk' κ (vs.toArray.zip vs.toArray) #[] 7 none) (Q:=fun _ st'=>Bs κ (pairsOf vs) st'/\SOn L (arrOf st') 0 (pairsOf vs).size) ⟨Array.Perm.refl _,rfl,rfl⟩ rfl (by rw[pairsOf_size];(first|lia|omega)) (by rw[pairsOf_size];(first|lia|omega)) fun st' b1 b2=>⟨b1,b2⟩) ?_ fun _ _ e=>e)
  rintro⟨⟨⟩,st'⟩ s' ⟨rfl,B,so⟩
  dsimp only
  have az:(arrOf st').size=vs.length:=by rw[B.size,pairsOf_size]
  refine wpAny_bind (seqEpoch_at ho6 rfl (wpAny_bind (listUpdate_at ho6 rfl ?_ (Nat.zero_le _) (mz az))))
  rw[B.failed]
  simp only[bne_self_eq_false,Bool.false_eq_true,if_false]
  have pl:(arrOf st').toList.Perm (vs.zip vs):=by rw[<- pairsOf_toList];exact Array.perm_iff_toList_perm.mp B.perm
  have hm:∀ p∈(arrOf st').toList,p.1=p.2:=fun p hp=>(mem_zip_self (pl.mem_iff.mp hp)).1
  have e2:(arrOf st').map (·.2)=((arrOf st').toList.map (·.2)).toArray:=by
   apply Array.ext'
   simp
  rw[e2]
  refine wpAny_pure (h _ ?_ ?_)
  ·have:=pl.map (·.2)
   rwa [List.map_snd_zip (Nat.le_refl _)] at this
  ·rw[List.pairwise_map,List.pairwise_iff_getElem]
   intro i j hi hj hij
   rw[Array.length_toList] at hi hj
   have g:∀ t (ht:t<(arrOf st').toList.length),(((arrOf st').toList[t]).2,((arrOf st').toList[t]).2)=G (arrOf st') t:=fun t ht=>by
    have q:=hm _ (List.getElem_mem ht)
    rw[G_list,List.getElem?_eq_getElem ht]
    exact Prod.ext q.symm rfl
   rw[g,g]
   exact so i j (Nat.zero_le _) (by (first|lia|omega)) (by rw[pairsOf_size];(first|lia|omega))
theorem srt_call64 (O:Ord L) {l:Addr} {vs:List Value} {Q:Value->Shared->Prop} (hl:s.heap.IsList l vs.toArray) (hz:vs.length≤sizeLine) (h64:vs.length<64) (T:∀ E' s',(∃ h',s'= { s with heap:=h' })->(∀ b o,s.heap.get? b=some o->s'.heap.get? b=some o)->Told prog w A.in1.in1 E' s' (s.heap.objs.size+1) vs κ L)
  (h:∀ out:List Value,out.Perm vs->out.Pairwise (fun x y=>L (y,y) (x,x)=false)->Q (.ref (s.heap.objs.size+1)) { s with heap:=sortedAll s.heap vs out.toArray }):wpAny (model prog w) A (call (.builtin "sorted") [.ref l]) Q E s:=by
 refine Calls.call_function_entry kind_sorted plain_sorted entry_sorted (args_sorted1 _) ?_
 unfold Builtin.«sorted»
 refine wpAny_bind (m:=checkCount "sorted" 1 1 _) (wpAny_pure (wpAny_bind (collect_list hl (wpAny_bind (wpAny_newList ?_)) hz)))
 have z1:((s.heap.push (seqObj "list" #[] 0)).update s.heap.objs.size (Obj.mapSeq (· ++ vs.toArray))).objs.size=s.heap.objs.size+1:=by rw[Heap.size_update,size_push']
 have hoL:(((s.heap.push (seqObj "list" #[] 0)).update s.heap.objs.size (Obj.mapSeq (· ++ vs.toArray))).push (seqObj "list" vs.toArray 0)).get? (s.heap.objs.size+1)=some (seqObj "list" vs.toArray 0):=by
  rw[<- z1];exact Heap.get?_push_size _ rfl
 show wpAny _ _ _ _ _ { s with heap:=((s.heap.push (seqObj "list" #[] 0)).update s.heap.objs.size (Obj.mapSeq (· ++ vs.toArray))).push (seqObj "list" vs.toArray 0) }
 rw[z1]
 have old:∀ b o,s.heap.get? b=some o->(((s.heap.push (seqObj "list" #[] 0)).update s.heap.objs.size (Obj.mapSeq (· ++ vs.toArray))).push (seqObj "list" vs.toArray 0)).get? b=some o:=fun b o e=>by
  refine Heap.get?_push_of_some _ ?_
  rw[Heap.get?_update_ne _ _ _ _ (Nat.ne_of_lt (Heap.lt_size e))]
  exact Heap.get?_push_of_some _ e
 refine wpAny_bind (wpAny_holding (wpAny_call_entry slot_list_sort ⟨_,hoL,rfl⟩ entry_list_sort (srt_tree64 O hoL hz h64 (T _ _ ⟨_,rfl⟩ old) fun out a1 a2=>⟨_,rfl,wpAny_pure ⟨_,rfl,h out a1 a2⟩⟩) (args_list_sort _)))
end
end SX
namespace L71
open PySem PySem.Spec PySem.W PyProof.Rows L2 L3 X8 M01 L6 L5 QL L8 L9 L10 L13 L20 L21 L22 L44 L60 SX
open L61
section
variable {prog:Program} {w:World} {A:Around} {s:Shared} {fin:Bool} {Q:Bool->Shared->Prop}
variable {X:Cx} {β:Type} [DecidableEq β] {d:Nat} {R:Rw β} {l2:β->β->Bool}
theorem call_sortedR64 [Inhabited β] (h:RowOk X d R l2) (o:LtOrd l2) (hu:X.A.units+(d+3)<cLine):CallR X (.builtin "sorted") (fun xs H Q=>∃ (l:Addr) (ps:List Addr) (as:List (Int × β)),xs=[.ref l]/\H l=some (.lst (ps.map V.ref))/\Fa (rpTup (rwCons rpI R) H) (ps.map V.ref) as/\ps.length<64/\
  ∀ (l':Addr) (ps':List Addr) (as':List (Int × β)),H l'=none->Fa (rpTup (rwCons rpI R) H) (ps'.map V.ref) as'->as'.Perm as->as'.Pairwise (fun a b=>ltCons ltI l2 b a=false)->Q (.ref l') (upd H l' (.lst (ps'.map V.ref)))):=by
 intro pins s σ H xs us Q I r hh
 obtain⟨l,ps,as,rfl,hl,hp,hn,q⟩:=hh
 obtain⟨u,rfl,ru⟩:=vals1 r
 cases ru
 obtain⟨its,n,rv,ho,_⟩:=I.lst hl
 have eits:its=ps.map Value.ref:=refs_of rv
 subst eits
 have hz:(ps.map Value.ref).length≤sizeLine:=by rw[List.length_map,sizeLine_eq];(first|lia|omega)
 have b0:s.heap.objs.size≤s.heap.objs.size+1:=Nat.le_succ _
 refine SX.srt_call64 (vs:=ps.map Value.ref) (ord_key (ord_cons ord_int o) (kyR R H)) ⟨_,ho,rfl,n,rfl⟩ hz (by rw[List.length_map];exact hn) (fun E' s' ⟨h',e'⟩ kp=>told_row h I hp (by show X.A.units+1+1+(d+1)<cLine;(first|lia|omega)) b0 ⟨h',s.toks,e'⟩ kp) fun out h1 h2=>?_
 obtain⟨e,he⟩:=sortedAll_at s.heap (ps.map Value.ref) out.toArray
 obtain⟨ps',rfl⟩:∃ ps':List Addr,out=ps'.map Value.ref:=by
  have:∀ v∈out,∃ p,v=Value.ref p:=fun v hv=>by
   obtain⟨p,_,e⟩:=List.mem_map.mp (h1.mem_iff.mp hv)
   exact⟨p,e.symm⟩
  clear h1 h2 he
  induction out with
  | nil=>exact⟨[],rfl⟩
  | cons v r ih=>
   obtain⟨p,rfl⟩:=this v List.mem_cons_self
   obtain⟨ps',e⟩:=ih fun v hv=>this v (List.mem_cons_of_mem _ hv)
   exact⟨p :: ps',by rw[e];rfl⟩
 have pp:ps'.Perm ps:=perm_refs h1
 have at_:∀ p∈ps,rpTup (rwCons rpI R) H (.ref p) (kyR R H (.ref p)):=fun p hpp=>by
  obtain⟨i,hi,e⟩:=List.getElem_of_mem hpp
  have l1:=hp.len
  rw[List.length_map] at l1
  have z:=hp.at (j:=i) (by rw[List.length_map];exact hi) (by (first|lia|omega))
  rw[List.getElem_map,e] at z
  rw[kyR_of h z]
  exact z
 have fa':∀ ps':List Addr,(∀ p∈ps',rpTup (rwCons rpI R) H (.ref p) (kyR R H (.ref p)))->Fa (rpTup (rwCons rpI R) H) (ps'.map V.ref) (ps'.map fun p=>kyR R H (.ref p)):=by
  intro ps'
  induction ps' with
  | nil=>intro _;exact .nil
  | cons p r ih=>intro z;exact .cons (z p List.mem_cons_self) (ih fun p hp=>z p (List.mem_cons_of_mem _ hp))
 have eas:as=ps.map fun p=>kyR R H (.ref p):=hp.fn (fun v a b=>(cmp_tup (X:=X) (row_cons (cmp_int.up (Nat.zero_le d)) h)).fn H v a b) (fa' ps at_)
 have hl2:(ps'.map V.ref).length≤sizeLine:=by rw[List.length_map,pp.length_eq];rw[List.length_map] at hz;exact hz
 refine⟨.ref (s.heap.objs.size+1),_,I.laid (a:=s.heap.objs.size+1) (o:= .lst (ps'.map V.ref)) (t':=s.toks) (fun b o x=>sortedAll_old x) b0 ⟨hl2,ps'.map Value.ref,e,vals_refs ps',he⟩,rfl,q _ ps' (ps'.map fun p=>kyR R H (.ref p)) (I.hok.fresh b0) (fa' ps' fun p hpp=>at_ p (pp.mem_iff.mp hpp)) ?_ ?_⟩
 ·rw[eas]
  exact pp.map _
 ·rw[List.pairwise_map] at h2 ⊢
  exact h2
end
end L71
namespace L71
open PySem PySem.Spec PySem.W PyProof.Rows L2 L3 X8 M01 L6 L5 QL L8 L9 L10 L13 L20 L21 L22 L44 L60 L61 SX
open L62
section
variable {X:Cx}
theorem call_sortedD64 (hc:X.calm=true):CallR X (.builtin "sorted") (fun xs H Q=>∃ (d:Addr) (kvs:List (Key × V)) (ns:List Int),xs=[.ref d]/\Rd H d (.dK kvs)/\kvs.map (·.1)=ns.map Sum.inl/\ns.length<64/\∀ (l':Addr) (ns':List Int),H l'=none->ns'.Perm ns->ns'.Pairwise (·≤·)->Q (.ref l') (upd H l' (.lst (ns'.map V.int)))):=by
 intro pins s σ H xs us Q I r h
 obtain⟨d,kvs,ns,rfl,hd,hk,hn,q⟩:=h
 obtain⟨u,rfl,ru⟩:=vals1 r
 cases ru
 obtain⟨z,lo,vs,rel,dd⟩:=dk_rd I.hok hd
 obtain⟨ep,hat⟩:=dd.dictAt
 have hh:X.A.in1.handled=none:=I.ok.hd hc
 have lk:vs.length=ns.length:=by
  have e:=congrArg List.length (L41.kv_keys rel)
  rw[hk,List.length_map,List.length_map] at e
  exact e
 refine Calls.call_function_entry kind_sorted plain_sorted entry_sorted (args_sorted1 _) ?_
 unfold Builtin.«sorted»
 refine wpAny_bind (m:=checkCount "sorted" 1 1 _) (wpAny_pure (wpAny_bind (L41.collect_src (A:=X.A.in1) (kdl_dict (knd:=mixKind X.prog X.w) (kvs:=vs) (ep:=ep) lo) hh hat (by rw[sizeLine_eq];(first|lia|omega)) fun hp tk acc kp hz hacc=>?_)))
 have ln:acc.toList.length=ns.length:=by rw[Array.length_toList,hacc.1,lk]
 have hI:IntsAre acc.toList ns:=L41.ints_items (X:=X) ((L41.kv_keys rel).trans hk) (by rw[ln,lk]) fun j v e=>hacc.2 j v (by rw[<- Array.getElem?_toList];exact e)
 have hz1:acc.toList.length≤sizeLine:=by rw[ln,sizeLine_eq];(first|lia|omega)
 refine wpAny_bind (wpAny_newList ?_ hz1)
 have hoL:(hp.push (seqObj "list" acc.toList.toArray 0)).get? hp.objs.size=some (seqObj "list" acc.toList.toArray 0):=Heap.get?_push_size _ rfl
 show wpAny _ _ _ _ _ { s with heap:=hp.push (seqObj "list" acc.toList.toArray 0),toks:=tk }
 refine wpAny_bind (wpAny_holding (wpAny_call_entry slot_list_sort ⟨_,hoL,rfl⟩ entry_list_sort (SX.srt_tree64 (s:={ s with heap:=hp.push (seqObj "list" acc.toList.toArray 0),toks:=tk }) (ord_key ord_int numOf) hoL hz1 (by rw[ln];exact hn) (told_int hI) fun out h1 h2=>⟨_,rfl,wpAny_pure ⟨_,rfl,?_⟩⟩) (args_list_sort _)))
 obtain⟨e,he⟩:=sortedHeap_at (out:=out.toArray) hoL
 have kk:∀ b o,s.heap.get? b=some o->(sortedHeap (hp.push (seqObj "list" acc.toList.toArray 0)) hp.objs.size acc.toList out.toArray).get? b=some o:=fun b o x=>by
  have y:=kp b o x
  have lt:=Heap.lt_size y
  rw[sortedHeap_old (Nat.ne_of_lt lt) (by rw[Heap.size_push];exact Nat.lt_succ_of_lt lt)]
  exact Heap.get?_push_of_some _ y
 have oi:∀ v∈out,∃ n t,v= .int n t:=fun v hv=>hI.all v (h1.mem_iff.mp hv)
 have oI:=intsAre_map out oi
 have pn:(out.map numOf).Perm ns:=by
  have:=h1.map numOf
  rwa [hI.nums] at this
 have hl2:((out.map numOf).map V.int).length≤sizeLine:=by rw[List.length_map,List.length_map,h1.length_eq];exact hz1
 refine⟨.ref hp.objs.size,_,I.laid (a:=hp.objs.size) (o:= .lst ((out.map numOf).map V.int)) (t':=tk) kk hz ⟨hl2,out,e,L28.vals_of_ints oI,he⟩,rfl,q _ (out.map numOf) (I.hok.fresh hz) pn ?_⟩
 rw[List.pairwise_map]
 refine h2.imp fun {x y} z=>?_
 have z':decide (numOf y<numOf x)=false:=z
 have:=of_decide_eq_false z'
 (first|lia|omega)
end
end L71
set_option maxRecDepth 100000
set_option linter.all false
set_option maxHeartbeats 800000
set_option Elab.async false
namespace K54
open PySem L2 L3 X8 M01 L6 L5 QL
open L8 L9 L10 L11 L13 L14 L16 L20 L21 L22 L42 L44 L62 L66 L68 M11 M13 M14 M20 M21
open L28 hiding hu_d
section
variable {P:Program} {w:World} {K:PySem.W.Frag} {mg:Str->Option Value} {base:Heap}
theorem rpF.mono {H H':Hp} {v:V} {q:Int × Int} (s:Same H H') (h:rpF K H v q):rpF K H' v q:=M19.rpK.mono s h
def parts (x:Str) (B:Int) (c:Crs):Int:=(doseR c.1 x).1 * (B / (doseR c.1 x).2)
def evs (x:Str) (B:Int) (Cs:List Crs):List (Int × Int):=Cs.flatMap fun c=>(hrs c).map fun h=>(h,parts x B c)
theorem evs_snoc {x:Str} {B:Int} {Cs:List Crs} {i:Nat} {c:Crs} (e:Cs[i]?=some c):evs x B (Cs.take (i+1))=evs x B (Cs.take i) ++ (hrs c).map fun h=>(h,parts x B c):=by
 unfold evs
 rw[take_snoc e,List.flatMap_append]
 congr 1
 simp
theorem evs_len {x:Str} {B:Int}:∀ {Cs:List Crs},(∀ c∈Cs,CrsOk c)->(evs x B Cs).length≤399 * Cs.length
 | [],_=>Nat.le_refl _
 | c :: r,h=>by
  have h1:=evs_len (x:=x) (B:=B) (Cs:=r) fun d hd=>h d (List.mem_cons_of_mem _ hd)
  have h2:=hrs_len (h c (List.mem_cons_self ..))
  unfold evs at *
  rw[List.flatMap_cons,List.length_append,List.length_map,List.length_cons]
  (first|lia|omega)
theorem get_int (o:Option Int):(o.map V.int).getD (V.int 0)=V.int (o.getD 0):=by cases o <;> rfl
def spTo (K:PySem.W.Frag):Sp:=fun vs H Q _=>∃ (x:Str) (di:Addr) (ds:List V) (Cs:List Crs),vs=[.str x, .ref di]/\SqL K H di ds/\Fa (rpD K H) ds Cs/\Cs.length≤100/\(∀ c∈Cs,CrsOk c)/\
 ∀ (p d:Addr) (B:Int) (D:List (Int × Int)) (H':Hp),Same H H'->H' p=some (.tup [.ref d, .int B])->H' d=some (.dK (kvQ D))->Books D (evs x B Cs)->0<B->Sz 2000 B->(∀ c∈Cs,(doseR c.1 x).2 ∣ B)->Q (.ref p) H'
theorem scTo:FnScope ["stuff", "diary", "doses", "bottom", "taken", "amount", "course", "parts", "hour"] ["stuff", "diary"] (defScope s_taken_of):=⟨rfl,rfl,rfl,by decide +kernel,rfl,by decide +kernel,by decide +kernel⟩
theorem d_taken (T:Th K mg "taken_of" s_taken_of) (dDo:Def P w K mg base CX0 5 "dose" ["recipe", "stuff"] (spDo K)) (dCb:Def P w K mg base CX0 2 "common_bottom" ["fractions"] (spCb K)) (zzip:mg "zip" = none):Def P w K mg base CX0 6 "taken_of" ["stuff", "diary"] (spTo K):=by
 refine QL.def_of T (fun _ _ _ _ _ _ us hl=>M21.len2 us hl fun _ _=>rfl) scTo (fun vs H Q E h=>?_) (fun f cdv A outer s H vs Q E hr h=>?_)
 ·obtain⟨x,di,ds,Cs,rfl,_⟩:=h
  rfl
 ·obtain⟨x,di,ds,Cs,rfl,hdi,fd,lc,ok,k⟩:=h
  refine⟨_,(qss_cons (qs_lcX (j:=2) (lc_mk2 (xs:=["recipe", "hours"]) (fvs:=["stuff"]) (fidx:=[0]) (defScope s_taken_of) ["stuff", "diary", "doses", "bottom", "taken", "amount", "course", "parts", "hour"] rfl rfl (by decide +kernel)) rfl rfl scTo.nd rfl rfl (qi_list (qv 1)) (fun cl C s H ex=>(qg_pair rfl (lc_mk2 (xs:=["recipe", "hours"]) (fvs:=["stuff"]) (fidx:=[0]) (defScope s_taken_of) ["stuff", "diary", "doses", "bottom", "taken", "amount", "course", "parts", "hour"] rfl rfl (by decide +kernel)))) (fun cl C s H ex=>qf_nil) (fun cl C s H ex=>(qe_callD dDo (hr.mono (by decide)) rfl pass0 (qa_cons (qv 0) (qa_cons (qv 2) qa_nil)))) (fun _=>keep_pair))
   (qss_cons (qs_set (i:=3) scTo.nd rfl (Or.inl rfl) (qe_callD dCb (hr.mono (by decide)) rfl pass0 (qa_cons (qv 2) qa_nil)))
   (qss_cons (qs_set (i:=4) scTo.nd rfl (Or.inl rfl) qe_dnewK)
   (qss_cons (qs_for PassesOwn.never rfl (qi_zipL rfl zzip (qa_cons (qv 2) (qa_cons (qv 1) qa_nil))) (qg_tup rfl (qgs_cons (qg_name (i:=5) scTo.nd rfl (Or.inl rfl)) (qgs_cons (qg_name (i:=6) scTo.nd rfl (Or.inl rfl)) qgs_nil)))
    (qss_cons (qs_set (i:=7) scTo.nd rfl (Or.inl rfl) (qe_op op_mulB (qe_ix ix_tup (qv 5) qe_int (fun _ _=>rfl)) (qe_op op_fdiv (qv 3) (qe_ix ix_tup (qv 5) qe_int (fun _ _=>rfl)))))
   (qss_one (qs_for PassesOwn.never rfl (qi_list (qe_ix ix_tup (qv 6) qe_int (fun _ _=>rfl))) (qg_name (i:=8) scTo.nd rfl (Or.inl rfl))
    (qss_one (qs_dput (hu_of hr) (qv 4) (qv 8) (qe_op op_add (qe_dget2 (hu_of hr) (qv 4) (qv 8) qe_int ⟨rfl,rfl,rfl,rfl⟩) (qv 7)) rfl))))))
   (qss_one (qs_ret (qe_tup (qa_cons (qv 4) (qa_cons (qv 3) qa_nil))))))))),?_⟩
  have fl:=fd.len
  refine⟨_,rfl,di,rfl,⟨_,hdi⟩,pairs_list (K:=K) ds (fun i ys H2=>Same H H2/\Fa (rpF K H2) ys ((Cs.take i).map fun c=>doseR c.1 x)) ⟨Same.refl _, .nil⟩ (fun i ys H2 hi z=>?_) (fun i v ys H2 hv z=>?_) (fun ys H2 z=>?_)⟩
  ·obtain⟨s2,ff⟩:=z
   refine⟨?_,s2.seq hdi⟩
   rw[ff.len,List.length_map,List.length_take,sizeLine_eq]
   (first|lia|omega)
  ·obtain⟨s2,ff⟩:=z
   obtain⟨c,ec,p,rc,hl,rfl,hp,hrc,hh⟩:=fa_at fd hv
   refine⟨p,_,_,rfl,seqT s2 hp,?_⟩
   unfold tNone
   dsimp only
   rw[if_pos rfl]
   refine⟨_,rfl,_,rfl,rc,c.1,x,rfl,hrc.mono s2,(ok c (List.mem_of_getElem? ec)).1,fun r H3 s3 hr3=>⟨s2.trans s3,?_⟩⟩
   rw[take_snoc ec,List.map_append]
   exact fa_snoc ⟨r,rfl,SqT.of hr3⟩ (ff.mono fun _ _=>rpF.mono s3)
  ·obtain⟨s2,ff⟩:=z
   intro dl hdl
   rw[fl,List.take_length] at ff
   have u1:=sameUpd (o:= .lst ys) hdl
   have s3:=s2.trans u1
   have ff:=ff.mono fun _ _=>rpF.mono u1
   have hl3:upd H2 dl (.lst ys) dl=some _:=upd_same
   generalize upd H2 dl (.lst ys)=H3 at s3 ff hl3
   dsimp only[tSeq]
   have okd:∀ q∈Cs.map (fun c=>doseR c.1 x),1≤q.2/\q.2≤399000:=fun q hq=>by
    obtain⟨c,hc,rfl⟩:=List.mem_map.mp hq
    exact(doseR_ok (ok c hc).1 x).2.2
   refine⟨_,rfl,dl,ys,_,rfl,SqL.of hl3,ff,by rw[List.length_map];exact lc,okd,fun B B0 zB dB=>?_⟩
   have dB':∀ c∈Cs,(doseR c.1 x).2 ∣ B:=fun c hc=>dB _ (List.mem_map.mpr ⟨c,hc,rfl⟩)
   refine fun d hd=>?_
   have u2:=sameUpd (o:= .dK []) hd
   have fdH:H d=none:=Same.free s3 hd
   have s4:=s3.trans u2
   have hl4:=u2 _ _ hl3
   have ff4:=ff.mono fun _ _=>rpF.mono u2
   have fd4:=fd.mono fun _ _=>rpD.mono s4
   have hd4:upd H3 d (.dK []) d=some (.dK []):=upd_same
   have ndl:dl≠d:=fun z=>by rw[z,hd] at hl3;cases hl3
   generalize upd H3 d (.dK [])=H4 at s4 hl4 ff4 fd4 hd4
   have yl:ys.length=ds.length:=by rw[ff.len,List.length_map,fl]
   have sq:∀ {H5:Hp} {a:Addr} {xs:List V},(∀ c u,c≠d->H4 c=some u->H5 c=some u)->SqT K H4 a xs->SqT K H5 a xs:=fun o h=>M19.seqB (z:=d) o (.inl ⟨_,hd4⟩) h
   refine⟨_,rfl,_,rfl,dl,di,ys,ds,rfl,SqL.of hl4,s4.seq hdi,yl,for_zipL (K:=K) (a:=dl) (b:=di) (fun i σ H5=>∃ (v5 v6 v7 v8:Option V) (D:List (Int × Int)),σ=[some (.str x),some (.ref di),some (.ref dl),some (.int B),some (.ref d),v5,v6,v7,v8]/\H5 d=some (.dK (kvQ D))/\Books D (evs x B (Cs.take i))/\(∀ c u,c≠d->H4 c=some u->H5 c=some u)) ⟨none,none,none,none,[],rfl,hd4,Books.nil,fun _ _ _ e=>e⟩ ?_ ?_ ?_⟩
   ·rintro i σ H5 _ ⟨v5,v6,v7,v8,D,rfl,h5,bk,o⟩
    exact⟨SqL.of (o _ _ ndl hl4),(show Same H H5 from fun c u e=>o c u (ne_of_none e fdH) (s4 _ _ e)).seq hdi⟩
   ·rintro i u v T σ H5 hu hv nT ⟨v5,v6,v7,v8,D,rfl,h5,bk,o⟩
    obtain⟨q,eq,pa,rfl,hpa⟩:=fa_at ff4 hu
    obtain⟨c,ec,pc,rc,hl,rfl,hpc,hrc,hhl⟩:=fa_at fd4 hv
    have mc:=List.mem_of_getElem? ec
    have eq':q=doseR c.1 x:=by
     rw[List.getElem?_map,ec] at eq
     exact(Option.some.inj eq).symm
    subst eq'
    obtain⟨lw,⟨d1,d2⟩,e1,e2⟩:=doseR_ok (ok c mc).1 x
    have uT:=sameUpd (o:= .tup [V.ref pa,V.ref pc]) nT
    have o6:∀ c u,c≠d->H4 c=some u->upd H5 T (.tup [V.ref pa,V.ref pc]) c=some u:=fun c u n e=>uT _ _ (o c u n e)
    have h6:=uT _ _ h5
    have hT:upd H5 T (.tup [V.ref pa,V.ref pc]) T=some _:=upd_same
    generalize upd H5 T (.tup [V.ref pa,V.ref pc])=H6 at o6 h6 hT
    refine⟨T,_,rfl,SqT.of hT,rfl,_,_,rfl,_,_,rfl,rfl,?_⟩
    have zq:Big (B / (doseR c.1 x).2):=(zB.le (y:=B / (doseR c.1 x).2) (by
     have:=Int.ediv_le_self (doseR c.1 x).2 (show 0≤B by (first|lia|omega))
     have:=Int.ediv_nonneg (show 0≤B by (first|lia|omega)) (show 0≤(doseR c.1 x).2 by (first|lia|omega))
     (first|lia|omega))).big (by decide)
    refine⟨_,rfl,pa,_,_,_,rfl,rfl,sq o6 hpa,rfl,_,rfl,_,rfl,pa,_,_,_,rfl,rfl,sq o6 hpa,rfl,_,_,rfl,rfl,⟨by (first|lia|omega),by (first|lia|omega)⟩,_,_,rfl,rfl,⟨Big.of (by (first|lia|omega)) (by (first|lia|omega)),zq⟩,?_⟩
    have nhd:hl≠d:=fun z=>by rw[z,hd4] at hhl;cases hhl
    have hh6:=o6 _ _ nhd hhl
    refine⟨_,rfl,pc,_,_,_,rfl,rfl,sq o6 hpc,rfl,hl,rfl,⟨_,SqL.of hh6⟩,for_list (K:=K) (a:=hl) (xs:=(hrs c).map V.int) (fun j σ H7=>∃ (v8:Option V) (D:List (Int × Int)),σ=[some (.str x),some (.ref di),some (.ref dl),some (.int B),some (.ref d),some (.ref pa),some (.ref pc),some (.int ((doseR c.1 x).1 * (B / (doseR c.1 x).2))),v8]/\H7 d=some (.dK (kvQ D))/\Books D (evs x B (Cs.take i) ++ ((hrs c).take j).map fun h=>(h,parts x B c))/\(∀ c u,c≠d->H4 c=some u->H7 c=some u)) ⟨v8,D,rfl,h6,by rw[List.take_zero,List.map_nil,List.append_nil];exact bk,o6⟩ ?_ ?_ ?_⟩
    ·rintro j σ H7 _ ⟨v8,D,rfl,h7,bk7,o7⟩
     exact SqL.of (o7 _ _ nhd hhl)
    ·rintro j y σ H7 hy ⟨v8,D,rfl,h7,bk7,o7⟩
     rw[List.getElem?_map] at hy
     obtain⟨h,eh,rfl⟩:=Option.map_eq_some_iff.mp hy
     have hj:=(List.getElem?_eq_some_iff.mp eh).1
     have lh:=hrs_len (ok c mc)
     have le:=evs_len (x:=x) (B:=B) (Cs:=Cs.take i) fun c hc=>ok c (List.mem_of_mem_take hc)
     have lb:=bk7.len
     rw[List.length_append,List.length_map,List.length_take] at lb
     rw[List.length_take] at le
     refine⟨_,rfl,d,rfl, .inl ⟨_, .inl h7⟩,_,rfl,_,DGet.k (k:=Sum.inl h) h7,?_⟩
     rw[val_kv,get_int]
     refine⟨_,rfl,_,_,rfl,rfl,_,rfl,_,rfl,d,_,rfl,DPut.k (k:=Sum.inl h) h7 (by unfold kvQ;rw[List.length_map,sizeLine_eq];(first|lia|omega)),_,addQ D h (parts x B c),rfl,?_,?_,fun c' u' nc e=>by rw[upd_ne nc];exact o7 c' u' nc e⟩
     ·rw[upd_same,put_kv bk7.ks]
      rfl
     ·have:=bk7.add h (parts x B c)
      rw[List.append_assoc] at this
      rw[take_snoc eh,List.map_append]
      exact this
    ·rintro σ H7 ⟨v8,D,rfl,h7,bk7,o7⟩
     refine⟨_,_,_,_,D,rfl,h7,?_,o7⟩
     rw[List.length_map,List.take_length] at bk7
     rw[evs_snoc ec]
     exact bk7
   ·rintro σ H5 ⟨v5,v6,v7,v8,D,rfl,h5,bk,o⟩
    rw[yl,fl,List.take_length] at bk
    refine⟨_,rfl,_,rfl,(by show 2≤sizeLine;decide),fun t ht=>?_⟩
    have uT:=sameUpd (o:= .tup [V.ref d,V.int B]) ht
    exact k t d B D _ (fun c u e=>uT _ _ (o c u (ne_of_none e fdH) (s4 _ _ e))) upd_same (uT _ _ h5) bk B0 zB dB'
theorem keys_kv (D:List (Int × Int)):(kvQ D).map (·.1)=(D.map (·.1)).map Sum.inl:=by
 unfold kvQ
 rw[List.map_map,List.map_map]
 rfl
def spTt (K:PySem.W.Frag):Sp:=fun vs H Q _=>∃ (d:Addr) (wd:Int) (D:List (Int × Int)),vs=[.ref d, .int wd]/\H d=some (.dK (kvQ D))/\Ks D/\D.length<64/\1≤wd/\
 ∀ (l:Addr) (us:List V) (hs:List Int) (H':Hp),Same H H'->H l=none->H' l=some (.lst us)->Fa (rpF K H') us (hs.map fun h=>(h,sumW (win h wd) D))->hs.Perm (D.map (·.1))->hs.Pairwise (· < ·)->Q (.ref l) H'
theorem scTt:FnScope ["taken", "width", "hours", "told", "total", "first", "hour"] ["taken", "width"] (defScope s_totals):=⟨rfl,rfl,rfl,by decide +kernel,rfl,by decide +kernel,by decide +kernel⟩
theorem d_totals (T:Th K mg "totals" s_totals) (zsorted:mg "sorted" = none):Def P w K mg base CX0 1 "totals" ["taken", "width"] (spTt K):=by
 refine QL.def_of T (fun _ _ _ _ _ _ us hl=>M21.len2 us hl fun _ _=>rfl) scTt (fun vs H Q E h=>?_) (fun f cdv A outer s H vs Q E hr h=>?_)
 ·obtain⟨d,wd,D,rfl,_⟩:=h
  rfl
 ·obtain⟨d,wd,D,rfl,hd,ks,lD,w1,k⟩:=h
  refine⟨_,(qss_cons (qs_set (i:=2) scTt.nd rfl (Or.inl rfl) (qe_callB (L71.call_sortedD64 rfl) (by rfl) zsorted PyProof.Rows.boot_sorted (qa_cons (qv 0) qa_nil)))
   (qss_cons (qs_set (i:=3) scTt.nd rfl (Or.inl rfl) (qe_lst qa_nil))
   (qss_cons (qs_set (i:=4) scTt.nd rfl (Or.inl rfl) qe_int)
   (qss_cons (qs_set (i:=5) scTt.nd rfl (Or.inl rfl) qe_int)
   (qss_cons (qs_for PassesOwn.never rfl (qi_list (qv 2)) (qg_name (i:=6) scTt.nd rfl (Or.inl rfl))
    (qss_cons (qs_set (i:=4) scTt.nd rfl (Or.inl rfl) (qe_op op_add (qv 4) (qe_dget (hu_of hr) (qv 0) (qv 6) (fun _ _=>rfl))))
   (qss_cons (qs_while PassesOwn.never (qt_cmpR op_le (qe_ix ix_list (qv 2) (qv 5) (fun _ _=>rfl)) (qe_op op_sub (qv 6) (qv 1)) (nomark _)) (qss_cons (qs_set (i:=4) scTt.nd rfl (Or.inl rfl) (qe_op op_sub (qv 4) (qe_dget (hu_of hr) (qv 0) (qe_ix ix_list (qv 2) (qv 5) (fun _ _=>rfl)) (fun _ _=>rfl))))
   (qss_one (qs_set (i:=5) scTt.nd rfl (Or.inl rfl) (qe_op op_add (qv 5) qe_int)))))
   (qss_one (qs_expr (qe_bm PySem.F.plainAttrs_list PySem.F.slot_list_append PySem.F.type_list_append mt_append (qv 3) (qa_cons (qe_tup (qa_cons (qv 6) (qa_cons (qv 4) qa_nil))) qa_nil)))))))
   (qss_one (qs_ret (qv 3)))))))),?_⟩
  refine⟨_,rfl,d,_,D.map (·.1),rfl, .inl hd,keys_kv D,by rw[List.length_map];(first|lia|omega),fun hl hs fl pm srt=>?_⟩
  have rise:=rise_of pm ks srt
  have u1:=sameUpd (o:= .lst (hs.map V.int)) fl
  have h1:upd H hl (.lst (hs.map V.int)) hl=some _:=upd_same
  generalize upd H hl (.lst (hs.map V.int))=H1 at u1 h1
  have lhs:hs.length≤50000:=by rw[pm.length_eq,List.length_map];(first|lia|omega)
  refine⟨(by show 0≤sizeLine;decide),fun to hto=>?_⟩
  have fto:H to=none:=Same.free u1 hto
  have u2:=sameUpd (o:= .lst []) hto
  have s2:=u1.trans u2
  have h2:=u2 _ _ h1
  have d2:=s2 _ _ hd
  have t2:upd H1 to (.lst []) to=some (.lst []):=upd_same
  have nht:hl≠to:=fun z=>by rw[z,hto] at h1;cases h1
  generalize upd H1 to (.lst [])=H2 at s2 h2 d2 t2
  have ndt:d≠to:=fun z=>by rw[z,t2] at d2;cases d2
  have vl:∀ {H3:Hp} {h:Int},h∈hs->(∀ c u,c≠to->H2 c=some u->H3 c=some u)->DGet H3 d (.int h) (some (.int (M20.val D h))):=fun {H3 h} mh o=>by
   have dg:=DGet.k (k:=Sum.inl h) (o _ _ ndt d2)
   rw[val_kv] at dg
   obtain⟨q,mq,rfl⟩:=List.mem_map.mp (pm.mem_iff.mp mh)
   unfold M20.val
   rw[getQ_mem ks mq] at dg ⊢
   exact dg
  have at_:∀ {n:Nat} {h:Int},hs[n]?=some h->atI (hs.map V.int) ((n:Nat):Int)=some (.int h):=fun {n h} e=>atI_nat (by rw[List.getElem?_map,e];rfl)
  refine⟨_,rfl,hl,rfl,⟨_,SqL.of h2⟩,for_list (K:=K) (a:=hl) (xs:=hs.map V.int) (fun i σ H3=>∃ (fr:Nat) (v6:Option V) (us:List V),σ=[some (.ref d),some (.int wd),some (.ref hl),some (.ref to),some (.int (pre D hs i - pre D hs fr)),some (.int (fr:Int)),v6]/\H3 to=some (.lst us)/\Fa (rpF K H3) us ((hs.take i).map fun h=>(h,sumW (win h wd) D))/\fr≤i/\(∀ j x m h,j<fr->hs[j]?=some x->i≤m->hs[m]?=some h->x≤h - wd)/\∀ c u,c≠to->H2 c=some u->H3 c=some u)
   ⟨0,none,[],by rw[Int.sub_self];rfl,t2, .nil,Nat.le_refl _,fun j x m h hj=>absurd hj (Nat.not_lt_zero _),fun _ _ _ e=>e⟩ ?_ ?_ ?_⟩
  ·rintro i σ H3 _ ⟨fr,v6,us,rfl,t3,fu,lf,lo,o⟩
   exact SqL.of (o _ _ nht h2)
  ·rintro i y σ H3 hy ⟨fr,v6,us,rfl,t3,fu,lf,lo,o⟩
   rw[List.getElem?_map] at hy
   obtain⟨h,eh,rfl⟩:=Option.map_eq_some_iff.mp hy
   have hi:=(List.getElem?_eq_some_iff.mp eh).1
   have ev:=(List.getElem?_eq_some_iff.mp eh).2
   have h3:=o _ _ nht h2
   refine⟨_,rfl,_,rfl,_,rfl,d, .int (M20.val D h),rfl,vl (List.mem_of_getElem? eh) o,_,_,rfl,rfl,?_⟩
   refine while_by (fun σ H4=>∃ fr:Nat,σ=[some (.ref d),some (.int wd),some (.ref hl),some (.ref to),some (.int (pre D hs i - pre D hs fr+M20.val D h)),some (.int (fr:Int)),some (.int h)]/\H4=H3/\fr≤i/\∀ j x,j<fr->hs[j]?=some x->x≤h - wd) (fun σ _=>match σ with | [_,_,_,_,_,some (.int f),_]=>i+1 - f.toNat | _=>0) ⟨fr,rfl,rfl,lf,fun j x hj ex=>lo j x i h hj ex (Nat.le_refl _) eh⟩ ?_ ?_
   ·rintro σ H4 ⟨fr,rfl,rfl,lf,lo4⟩
    obtain⟨x,ex⟩:∃ x,hs[fr]?=some x:=⟨_,List.getElem?_eq_getElem (by (first|lia|omega))⟩
    refine⟨_,rfl,_,rfl,hl,_,_,_,rfl,rfl,SqL.of h3,at_ ex,_,rfl,_,rfl,_,_,rfl,rfl,_,_,rfl,rfl,_,rfl,ite2 (fun c=>?_) (fun c=>?_)⟩
    ·have c':x≤h - wd:=of_decide_eq_true c
     have ne:fr≠i:=fun z=>by
      rw[z,eh] at ex
      have:=Option.some.inj ex
      (first|lia|omega)
     refine⟨_,rfl,_,rfl,_,rfl,_,rfl,hl,_,_,_,rfl,rfl,SqL.of h3,at_ ex,d, .int (M20.val D x),rfl,vl (List.mem_of_getElem? ex) o,_,_,rfl,rfl,?_⟩
     refine⟨_,rfl,_,_,rfl,rfl,⟨fr+1,?_,rfl,by (first|lia|omega),fun j y hj ey=>?_⟩,?_⟩
     ·rw[pre_succ ex]
      have e1:pre D hs i - pre D hs fr+M20.val D h - M20.val D x=pre D hs i - (pre D hs fr+M20.val D x)+M20.val D h:=by (first|lia|omega)
      show [some (V.ref d),some (V.int wd),some (V.ref hl),some (V.ref to),some (V.int (pre D hs i - pre D hs fr+M20.val D h - M20.val D x)),some (V.int ((fr:Int)+1)),some (V.int h)]=_
      rw[e1]
      rfl
     ·by_cases z:j=fr
      ·rw[z,ex] at ey
       rw[<- Option.some.inj ey]
       exact c'
      ·exact lo4 j y (by (first|lia|omega)) ey
     ·show i+1 - ((fr:Int)+1).toNat<i+1 - ((fr:Int)).toNat
      (first|lia|omega)
    ·have c':¬ x≤h - wd:=fun z=>c (decide_eq_true z)
     refine⟨_,rfl, .inl ⟨rfl,_,SqL.of t3⟩,_,rfl,_,rfl,(by show 2≤sizeLine;decide),fun t ht=>?_⟩
     have uT:=sameUpd (o:= .tup [V.int h,V.int (pre D hs i - pre D hs fr+M20.val D h)]) ht
     have ul:us.length≤50000:=by rw[fu.len,List.length_map,List.length_take];(first|lia|omega)
     refine⟨to,_,_,rfl,rfl,uT _ _ t3,by rw[sizeLine_eq];(first|lia|omega),?_⟩
     have e1:pre D hs i - pre D hs fr+M20.val D h=pre D hs (i+1) - pre D hs fr:=by rw[pre_succ eh];(first|lia|omega)
     have e2:sumW (win h wd) D=pre D hs (i+1) - pre D hs fr:=sum_seg ks pm rise eh lf lo4 fun y ey=>by
      rw[ex] at ey
      rw[<- Option.some.inj ey]
      (first|lia|omega)
     have bt:M19.But to (upd H4 t (.tup [V.int h,V.int (pre D hs i - pre D hs fr+M20.val D h)])) (upd (upd H4 t (.tup [V.int h,V.int (pre D hs i - pre D hs fr+M20.val D h)])) to (.lst (us ++ [V.ref t]))):=M19.But.upd
     refine⟨fr,some (.int h),us ++ [V.ref t],?_,upd_same,?_,by (first|lia|omega),fun j y m h' hj ey hm em=>?_,fun c u nc e=>by rw[upd_ne nc];exact uT _ _ (o c u nc e)⟩
     ·rw[e1]
     ·rw[take_snoc eh,List.map_append]
      have sf:M19.Soft (upd H4 t (.tup [V.int h,V.int (pre D hs i - pre D hs fr+M20.val D h)])) to:= .inr ⟨_,uT _ _ t3⟩
      refine fa_snoc ?_ (fu.mono fun _ _ z=>M19.rpK.but bt sf (rpF.mono uT z))
      refine M19.rpK.but bt sf ⟨t,rfl,SqT.of ?_⟩
      rw[upd_same]
      show some (HO.tup [V.int h,V.int (pre D hs i - pre D hs fr+M20.val D h)])=some (HO.tup [V.int h,V.int (sumW (win h wd) D)])
      rw[e1,e2]
     ·have y1:=lo4 j y hj ey
      have ml:=(List.getElem?_eq_some_iff.mp em).1
      have mv:=(List.getElem?_eq_some_iff.mp em).2
      have:=List.pairwise_iff_getElem.mp rise i m hi ml (by (first|lia|omega))
      rw[ev,mv] at this
      (first|lia|omega)
   ·intro σ H Q Q' hq z
    obtain⟨v,e1,v2,e2,a,xs,i,x,e3,e4,s,at_,v3,e5,v4,e6,i1,j1,e7,e8,i2,j2,e9,e10,c,e11,q⟩:=z
    exact⟨v,e1,v2,e2,a,xs,i,x,e3,e4,s,at_,v3,e5,v4,e6,i1,j1,e7,e8,i2,j2,e9,e10,c,e11,hq _ _ q⟩
  ·rintro σ H3 ⟨fr,v6,us,rfl,t3,fu,lf,lo,o⟩
   rw[List.length_map,List.take_length] at fu
   exact⟨_,rfl,k to us hs H3 (fun c u e=>o c u (ne_of_none e fto) (s2 _ _ e)) fto t3 fu pm rise⟩
end
end K54
set_option linter.all false
set_option Elab.async false
set_option maxHeartbeats 400000
namespace L69
open PySem L2 L22 L66
section
variable {X:Cx}
theorem refs_eq:∀ {as:List Addr} {us:List Value},Vals (as.map V.ref) us->us=as.map Value.ref
 | [],_,h=>by cases h;rfl
 | a :: r,_,h=>by
  cases h with
  | cons h1 h2=>
   cases h1
   rw[refs_eq h2]
   rfl
theorem rc_refs {pins:List (Addr × Obj)} {s:Shared} {σ:L2.St} {H:Hp} (I:Inv X pins σ H s) {A:Around} (hu:A.units<cLine) {p q:Addr} {as bs:List Addr} (hp:SqL X.K H p (as.map V.ref)) (hq:SqL X.K H q (bs.map V.ref)) :
  (as=bs->SeqAt.RcAt A s (.ref p) (.ref q) true/\SeqAt.RcNeAt A s (.ref p) (.ref q) false)/\(as.length≠bs.length->SeqAt.RcAt A s (.ref p) (.ref q) false/\SeqAt.RcNeAt A s (.ref p) (.ref q) true):=by
 obtain⟨its,r1,p1,_⟩:=I.list hp
 obtain⟨its2,r2,p2,_⟩:=I.list hq
 have e1:=refs_eq r1
 have e2:=refs_eq r2
 subst e1 e2
 refine⟨fun e=>?_,fun hl=>?_⟩
 ·subst e
  have el:∀ j (h1':j<(as.map Value.ref).toArray.size) (h2':j<(as.map Value.ref).toArray.size),SeqAt.EqAt A.in1 s (as.map Value.ref).toArray[j] (as.map Value.ref).toArray[j] ((fun _=>true) j):=fun j j1 j2=>by
   simp only[List.getElem_toArray,List.getElem_map]
   exact SeqAt.EqAt.same _
  have ea:(List.range (as.map Value.ref).toArray.size).all (fun _=>true)=true:=by simp
  constructor
  ·have:=SeqAt.RcAt.lists p1.isList p2.isList rfl hu el
   rwa [ea] at this
  ·have:=SeqAt.RcNeAt.lists p1.isList p2.isList rfl hu el
   rwa [ea] at this
 ·have hsz:((as.map Value.ref).toArray.size != (bs.map Value.ref).toArray.size)=true:=by simp;exact hl
  exact⟨SeqAt.RcAt.lists_lengths p1.isList p2.isList hsz hu,SeqAt.RcNeAt.lists_lengths p1.isList p2.isList hsz hu⟩
def rNeRefs (K:PySem.W.Frag):R2:=fun x y H Q=>∃ (p q:Addr) (as bs:List Addr),x= .ref p/\y= .ref q/\SqL K H p (as.map V.ref)/\SqL K H q (bs.map V.ref)/\((as=bs/\Q (.bl false) H)\/(as.length≠bs.length/\Q (.bl true) H))
theorem op_neRefs {K:PySem.W.Frag} (hK:X.K=K) (hu:X.A.units<cLine):OpR X (compareOp .NotEq) (rNeRefs K):=by
 intro pins s σ H x y v u Q I rx ry hh
 obtain⟨p,q,as,bs,rfl,rfl,h1,h2,k⟩:=hh
 cases rx
 cases ry
 subst hK
 rcases k with ⟨e,k⟩ | ⟨e,k⟩
 ·exact((rc_refs I hu h1 h2).1 e).2 X.prog X.w _ _ ⟨.bl _,H,I,rfl,k⟩
 ·exact((rc_refs I hu h1 h2).2 e).2 X.prog X.w _ _ ⟨.bl _,H,I,rfl,k⟩
end
end L69
set_option maxRecDepth 100000
set_option linter.all false
set_option maxHeartbeats 4000000
set_option Elab.async false
namespace L70
open PySem PySem.Spec PyProof.Rows L2 L3 L6 X8 QL M01 L8 L20 L21 L22 L44 L60 L61 L68
theorem pairs_enum {K:PySem.W.Frag} {a:Addr} (ps:List V) {fvals:L2.St} {tc:TT} {te:TE} {don:List V->Hp->Prop} {H:Hp} (Pv:Nat->List V->Hp->Prop) (h0:Pv 0 [] H)
  (hl:∀ i ys H,i≤ps.length->Pv i ys H->ys.length<sizeLine/\SqL K H a ps)
  (hs:∀ i x T ys H,ps[i]?=some x->H T=none->Pv i ys H->tc (some (.int i) :: some x :: fvals) (upd H T (.tup [.int i,x])) fun b H3=>if b=true then te (some (.int i) :: some x :: fvals) H3 fun w H4=>Pv (i+1) (ys ++ [w]) H4 else Pv (i+1) ys H3)
  (hd:∀ ys H,Pv ps.length ys H->don ys H):LcX (Ien K a ps) 2 fvals (gPair K) tc te don H:=by
 refine pairs_of ps.length Pv h0 (fun i ys H hi p=>⟨(hl i ys H hi p).1,fun hlt=>⟨(hl i ys H hi p).2,hlt⟩,fun e=>⟨(hl i ys H hi p).2,by (first|lia|omega)⟩⟩) (fun i x ys H H' hi p y=>?_) hd
 obtain⟨T,v,nT,rfl,ev,rfl⟩:=y
 exact⟨T,_,_,rfl,SqT.of upd_same,hs i v T ys H ev nT p⟩
section
variable {X:Cx}
theorem any_getD:∀ bs:List Bool,((List.range bs.length).any fun i=>bs.getD i false)=bs.any id
 | []=>rfl
 | b :: r=>by
  rw[List.length_cons,List.range_succ_eq_map,List.any_cons,List.any_map,List.any_cons, <- any_getD r]
  rfl
theorem call_any {K:PySem.W.Frag} (hK:X.K=K) (hc:X.calm=true):CallR X (.builtin "any") (fun xs H Q=>∃ (p:Addr) (bs:List Bool),xs=[.ref p]/\SqL K H p (bs.map V.bl)/\Q (.bl (bs.any id)) H):=by
 subst hK
 intro pins s σ H xs us Q I r h
 obtain⟨p,bs,rfl,hp,q⟩:=h
 obtain⟨u,rfl,ru⟩:=vals1 r
 cases ru
 obtain⟨its,rv,pl,_⟩:=I.list hp
 have hh:X.A.in1.handled=none:=I.ok.hd hc
 have hlt:p<s.heap.objs.size:=by obtain⟨_,_,e,_⟩:=pl;exact Heap.lt_size e
 have hlen:its.length=bs.length:=by rw[<- rv.length,List.length_map]
 refine call_any_walk (wpAny_pyIter_list pl.isList ⟨s.heap.objs.size,_,_,_,_,_,fun i=>bs.getD i false,rfl,Walks.list hh s.heap.objs.size p (Nat.ne_of_lt hlt) its.toArray,⟨⟨_,Heap.get?_push_size _ rfl,rfl,rfl⟩,pl.isList.push _⟩,?_,fun h' tk kk=>?_⟩)
 ·intro i v s' Q' E' hv h'
  have hv':its[i]?=some v:=by simpa using hv
  have hlt:i<bs.length:=by rw[<- hlen];exact(List.getElem?_eq_some_iff.mp hv').1
  have eb:(bs.map V.bl)[i]?=some (.bl bs[i]):=by rw[List.getElem?_map,List.getElem?_eq_getElem hlt];rfl
  obtain⟨w1,g1,k1⟩:=rv.get eb
  rw[hv'] at g1
  cases g1
  cases k1
  have e2:bs.getD i false=bs[i]:=by rw[List.getD_eq_getElem?_getD,List.getElem?_eq_getElem hlt];rfl
  have h2:Q' (bs.getD i false) s':=h'
  rw[e2] at h2
  exact wpAny_truthy_bool h2
 ·refine⟨.bl (bs.any id),H,I.kept (t':=tk) fun b o e=>kk b o (fun z=>?_) (Heap.get?_push_of_some _ e),?_,q⟩
  ·have z':b=s.heap.objs.size:=by simpa using z
   exact absurd (Heap.lt_size e) (by rw[z'];exact Nat.lt_irrefl _)
  ·show Value.bool _=Value.bool _
   congr 1
   rw[List.size_toArray,hlen]
   exact any_getD bs
def rEqRefs (K:PySem.W.Frag):R2:=fun x y H Q=>∃ (p q:Addr) (as bs:List Addr),x= .ref p/\y= .ref q/\SqL K H p (as.map V.ref)/\SqL K H q (bs.map V.ref)/\((as=bs/\Q (.bl true) H)\/(as.length≠bs.length/\Q (.bl false) H))
theorem op_eqRefs {K:PySem.W.Frag} (hK:X.K=K) (hu:X.A.units<cLine):OpR X (compareOp .Eq) (rEqRefs K):=by
 intro pins s σ H x y v u Q I rx ry hh
 obtain⟨p,q,as,bs,rfl,rfl,h1,h2,k⟩:=hh
 cases rx
 cases ry
 subst hK
 rcases k with ⟨e,k⟩ | ⟨e,k⟩
 ·exact((L69.rc_refs I hu h1 h2).1 e).1 X.prog X.w _ _ ⟨.bl _,H,I,rfl,k⟩
 ·exact((L69.rc_refs I hu h1 h2).2 e).1 X.prog X.w _ _ ⟨.bl _,H,I,rfl,k⟩
theorem best_least {α:Type} {lt:α->α->Bool} (o:LtOrd lt) (f:Nat->α):∀ n j,j≤n->lt (f j) (f (argBest (fun i j=>lt (f i) (f j)) n))=false
 | 0,j,h=>by
  rw[show j=0 by (first|lia|omega)]
  exact o.irr _
 | n+1,j,h=>by
  rw[argBest]
  by_cases z:lt (f (n+1)) (f (argBest (fun i j=>lt (f i) (f j)) n))=true
  ·rw[if_pos z]
   by_cases e:j=n+1
   ·rw[e];exact o.irr _
   ·have b:=best_least o f n j (by (first|lia|omega))
    cases c:lt (f j) (f (n+1)) with
    | false=>rfl
    | true=>
     rcases o.neg _ (f (argBest (fun i j=>lt (f i) (f j)) n)) _ c with d | d
     ·rw[b] at d;cases d
     ·rw[o.asy _ _ z] at d;cases d
  ·rw[if_neg z]
   by_cases e:j=n+1
   ·rw[e]
    cases c:lt (f (n+1)) (f (argBest (fun i j=>lt (f i) (f j)) n)) with
    | false=>rfl
    | true=>exact absurd c z
   ·exact best_least o f n j (by (first|lia|omega))
theorem best_le (bt:Nat->Nat->Bool):∀ n,argBest bt n≤n
 | 0=>Nat.le_refl _
 | n+1=>by
  rw[argBest]
  split
  ·exact Nat.le_refl _
  ·exact Nat.le_succ_of_le (best_le bt n)
abbrev Kp (s:Shared) (h:Heap):Prop:=∀ b o,s.heap.get? b=some o->h.get? b=some o
theorem min_turns {prog:Program} {w:World} {A:Around} {R:Result->Shared->Prop} {s:Shared} {p I S:Addr} {its:Array Value} {lt:Nat->Nat->Bool} (hh:A.in1.handled=none) (npI:p≠I) (nSI:S≠I) (nSp:S≠p) (fI:s.heap.get? I=none) (fS:s.heap.get? S=none)
  (cmp:∀ h tk i j vi vj,Kp s h->its[i]?=some vi->its[j]?=some vj->SeqAt.RcLtAt A.in1 { s with heap:=h,toks:=tk } vi vj (lt i j))
  (fin:∀ v h tk,its[argBest lt (its.size - 1)]?=some v->Kp s h->R (.ok (.ret v)) { s with heap:=h,toks:=tk }) :
  ∀ (k j:Nat) (h:Heap) (tk:Nat) (x:Value) (c:Nat),its.size - (j+1)=k->j+1≤its.size->h.IsListIter I p (j+1)->h.IsList p its->its[argBest lt j]?=some x->h.get? S=some { cls:= .type "list", dict:=none,data:= .seq #[x,x] c,slots:=#[] }->Kp s h->
   codeAny (model prog w) A (.builtin "min.loop" ⟨[.ref I, .none, .ref S],[]⟩) R { s with heap:=h,toks:=tk }:=by
 have nm:(toString "min" ++ toString ".loop" : String)= "min.loop" := by decide
 have W:=Walks.list (prog:=prog) (w:=w) (A:=A.in1) hh I p npI its
 have old:∀ {b o},s.heap.get? b=some o->b≠I/\b≠S:=fun {b o} e=>⟨fun z=>(by rw[z,fI] at e;cases e),fun z=>(by rw[z,fS] at e;cases e)⟩
 intro k
 induction k with
 | zero=>
  intro j h tk x c hk hj hit hls hx hS kp
  have en:j+1=its.size:=by (first|lia|omega)
  refine codeAny_builtin PySem.F.entry_min_loop ?_;rw[Around.under_plainId PySem.F.plain_min_loop _]
  show wpAny _ A.in1 (seqItems? (.ref S) >>= _) _ _ { s with heap:=h,toks:=tk }
  refine wpAny_bind (wpAny_seqItems hS rfl ?_);show wpAny _ A.in1 (tryCatch (pyNext (.ref I)) _ >>= _) _ _ { s with heap:=h,toks:=tk }
  refine wpAny_bind (wpAny_tryCatch (W.done { s with heap:=h,toks:=tk } _ _ (en ▸ ⟨hit,hls⟩) fun h' tk' kk=>?_))
  have gS:=kk S _ (by simpa using nSI) hS
  show wpAny _ A.in1 (updateSeq S (fun _=>#[]) >>= _) _ _ { s with heap:=h',toks:=tk' }
  refine wpAny_bind ?_;refine wpAny_updateSeq gS rfl (wpAny_bind (wpAny_letGo (wpAny_pure ?_)))
  exact fin x _ _ (by rw[<- en];exact hx) fun b o e=>(Heap.get?_update_other _ _ (Ne.symm (old e).2)).trans (kk b o (by simpa using(old e).1) (kp b o e))
 | succ k ih=>
  intro j h tk x c hk hj hit hls hx hS kp
  have hlt:j+1<its.size:=by (first|lia|omega)
  refine codeAny_builtin PySem.F.entry_min_loop ?_;rw[Around.under_plainId PySem.F.plain_min_loop _]
  show wpAny _ A.in1 (seqItems? (.ref S) >>= _) _ _ { s with heap:=h,toks:=tk }
  refine wpAny_bind (wpAny_seqItems hS rfl ?_);show wpAny _ A.in1 (tryCatch (pyNext (.ref I)) _ >>= _) _ _ { s with heap:=h,toks:=tk }
  refine wpAny_bind (wpAny_tryCatch (W.item (j+1) { s with heap:=h,toks:=tk } _ _ hlt ⟨hit,hls⟩ fun v h' tk' hv st kk=>?_))
  have gS:=kk S _ (by simpa using nSI) hS
  have kp':Kp s h':=fun b o e=>kk b o (by simpa using(old e).1) (kp b o e)
  show wpAny _ A.in1 (tryCatch (holding [v,v] (richCompare .Lt v x >>= _)) _ >>= _) _ _ { s with heap:=h',toks:=tk' }
  refine wpAny_bind (wpAny_tryCatch (wpAny_holding (wpAny_bind (cmp h' tk' (j+1) (argBest lt j) v x kp' hv hx prog w _ _ ?_))))
  refine wpAny_bind (wpAny_holding (wpAny_truthy_bool ?_));refine wpAny_bind (wpAny_letGo (wpAny_pure ?_))
  by_cases hb:lt (j+1) (argBest lt j)=true
  ·rw[if_pos hb]
   refine wpAny_bind ?_;refine wpAny_updateSeq gS rfl (wpAny_bind (wpAny_letGo ?_));rw[nm]
   have ot:∀ {b o},b≠S->h'.get? b=some o->(h'.update S (Obj.mapSeq fun _=>#[v,v])).get? b=some o:=fun n e=>(Heap.get?_update_other _ _ (Ne.symm n)).trans e
   refine wpAny_pure ⟨plainId_quiet PySem.F.plain_min_loop _,ih (j+1) _ _ v _ (by (first|lia|omega)) hlt (st.1.at fun o e=>ot nSI.symm e) (st.2.at fun o e=>ot nSp.symm e) (by rw[argBest,if_pos hb];exact hv) (Heap.get?_update_self _ gS rfl) fun b o e=>ot (old e).2 (kp' b o e)⟩
  ·rw[if_neg hb]
   refine wpAny_bind (wpAny_letGo ?_);rw[nm]
   exact wpAny_pure ⟨plainId_quiet PySem.F.plain_min_loop _,ih (j+1) _ _ x c (by (first|lia|omega)) hlt st.1 st.2 (by rw[argBest,if_neg hb];exact hx) gS kp'⟩
variable {β:Type} [DecidableEq β] {d:Nat} {R:Rw β} {l2:β->β->Bool}
theorem call_minR [Inhabited β] {K:PySem.W.Frag} (hK:X.K=K) (hc:X.calm=true) (h_:RowOk X d R l2) (o:LtOrd l2) (hu:X.A.units+(d+2)<cLine):CallR X (.builtin "min") (fun xs H Q=>∃ (l:Addr) (vs:List V) (as:List β),xs=[.ref l]/\SqL K H l vs/\Fa (rpTup R H) vs as/\0<as.length/\
  ∀ (i:Nat) (v:V) (a:β),vs[i]?=some v->as[i]?=some a->(∀ b∈as,l2 b a=false)->Q v H):=by
 subst hK
 intro pins s σ H xs us Q I r hh'
 obtain⟨l,vs,as,rfl,hl,fa,n0,q⟩:=hh'
 obtain⟨u,rfl,ru⟩:=vals1 r
 cases ru
 obtain⟨its,rv,pl,_⟩:=I.list hl
 have hh:X.A.in1.handled=none:=I.ok.hd hc
 have hlt:l<s.heap.objs.size:=by obtain⟨_,_,e,_⟩:=pl;exact Heap.lt_size e
 have fl:=fa.len
 have il:its.length=as.length:=by rw[<- rv.length,fl]
 have nm:(toString "min" ++ toString ".loop" : String)= "min.loop" := by decide
 have sz:its.toArray.size=as.length:=by rw[List.size_toArray,il]
 refine call_function_tree PySem.F.kind_min PySem.F.plain_min PySem.F.entry_min (PySem.F.args_min1 _) ?_
 show wpAny _ X.A.in1 (Builtin.Builtins.bindParams "min" ["key", "default"] 0 ⟨[],[]⟩ >>= _) _ _ s
 refine wpAny_bind (wpAny_of_eq (show Builtin.Builtins.bindParams "min" ["key", "default"] 0 ⟨[],[]⟩=pure [none,none] from rfl) ?_);refine wpAny_bind (wpAny_pure ?_)
 refine wpAny_bind (wpAny_pyIter_list pl.isList ?_);refine wpAny_bind (wpAny_newObj_type ?_);rw[nm]
 refine wpAny_pure ⟨plainId_quiet PySem.F.plain_min_loop _,?_⟩
 have gI:((s.heap.push { cls:= .type "list_iterator", data:= .fields #[.ref l, .int 0 0] }).push { cls:= .type "list", data:= .seq #[] }).get? s.heap.objs.size=some { cls:= .type "list_iterator", data:= .fields #[.ref l, .int 0 0] }:=Heap.get?_push_of_some _ (Heap.get?_push_size _ rfl)
 have gS:((s.heap.push { cls:= .type "list_iterator", data:= .fields #[.ref l, .int 0 0] }).push { cls:= .type "list", data:= .seq #[] }).get? (s.heap.objs.size+1)=some { cls:= .type "list", data:= .seq #[] }:=by rw[<- size_push'];exact Heap.get?_push_size _ rfl
 have gl:((s.heap.push { cls:= .type "list_iterator", data:= .fields #[.ref l, .int 0 0] }).push { cls:= .type "list", data:= .seq #[] }).IsList l its.toArray:=(pl.isList.push _).push _
 have kp:Kp s ((s.heap.push { cls:= .type "list_iterator", data:= .fields #[.ref l, .int 0 0] }).push { cls:= .type "list", data:= .seq #[] }):=fun b o e=>Heap.get?_push_of_some _ (Heap.get?_push_of_some _ e)
 have eS:(s.heap.push { cls:= .type "list_iterator", data:= .fields #[.ref l, .int 0 0] }).objs.size=s.heap.objs.size+1:=size_push' ..
 rw[eS]
 generalize (s.heap.push { cls:= .type "list_iterator", data:= .fields #[.ref l, .int 0 0] }).push { cls:= .type "list", data:= .seq #[] }=h0 at gI gS gl kp
 have fI:s.heap.get? s.heap.objs.size=none:=Heap.get?_none_of_le (Nat.le_refl _)
 have fS:s.heap.get? (s.heap.objs.size+1)=none:=Heap.get?_none_of_le (Nat.le_succ _)
 have nlI:l≠s.heap.objs.size:=Nat.ne_of_lt hlt
 have nSI:s.heap.objs.size+1≠s.heap.objs.size:=Nat.succ_ne_self _
 have nSl:s.heap.objs.size+1≠l:=Nat.ne_of_gt (Nat.lt_succ_of_lt hlt)
 generalize s.heap.objs.size=II at gI gS fI fS nlI nSI nSl
 generalize II+1=S at gS fS nSI nSl
 have W:=Walks.list (prog:=X.prog) (w:=X.w) (A:=X.A.in1) hh II l nlI its.toArray
 have old:∀ {b o},s.heap.get? b=some o->b≠II/\b≠S:=fun {b o} e=>⟨fun z=>(by rw[z,fI] at e;cases e),fun z=>(by rw[z,fS] at e;cases e)⟩
 refine codeAny_builtin PySem.F.entry_min_loop ?_;rw[Around.under_plainId PySem.F.plain_min_loop _]
 show wpAny _ X.A.in1 (seqItems? (.ref S) >>= _) _ _ { s with heap:=h0 }
 refine wpAny_bind (wpAny_seqItems gS rfl ?_);show wpAny _ X.A.in1 (tryCatch (pyNext (.ref II)) _ >>= _) _ _ { s with heap:=h0 }
 refine wpAny_bind (wpAny_tryCatch (W.item 0 { s with heap:=h0 } _ _ (by rw[sz];exact n0) ⟨⟨_,gI,rfl,rfl⟩,gl⟩ fun v h' tk' hv st kk=>?_))
 have gS':=kk S _ (by simpa using nSI) gS
 have kp':Kp s h':=fun b o e=>kk b o (by simpa using(old e).1) (kp b o e)
 show wpAny _ X.A.in1 (updateSeq S (fun _=>#[v,v]) >>= _) _ _ { s with heap:=h',toks:=tk' }
 refine wpAny_bind ?_;refine wpAny_updateSeq gS' rfl ?_;rw[nm]
 have ot:∀ {b o},b≠S->h'.get? b=some o->(h'.update S (Obj.mapSeq fun _=>#[v,v])).get? b=some o:=fun n e=>(Heap.get?_update_other _ _ (Ne.symm n)).trans e
 have ga:∀ {i:Nat} {x:Value},its.toArray[i]?=some x->∃ y,vs[i]?=some y/\RelV y x/\rpTup R H y (as.getD i default):=fun {i x} e=>by
  have e':its[i]?=some x:=by simpa using e
  have hi:i<as.length:=by rw[<- il];exact(List.getElem?_eq_some_iff.mp e').1
  have ev:vs[i]?=some (vs[i]'(by (first|lia|omega))):=List.getElem?_eq_getElem (by (first|lia|omega))
  obtain⟨w1,g1,k1⟩:=rv.get ev
  rw[e'] at g1
  cases g1
  refine⟨_,ev,k1,?_⟩
  have:=fa.at (show i<vs.length by (first|lia|omega)) hi
  rw[List.getD_eq_getElem?_getD,List.getElem?_eq_getElem hi]
  exact this
 refine wpAny_pure ⟨plainId_quiet PySem.F.plain_min_loop _,min_turns (s:=s) (lt:=fun i j=>l2 (as.getD i default) (as.getD j default)) hh nlI nSI nSl fI fS (fun h tk i j vi vj kp2 ei ej=>?_) (fun x h tk ex kp2=>?_) _ 0 _ _ v _ rfl (by rw[sz];exact n0) (st.1.at fun o e=>ot nSI.symm e) (st.2.at fun o e=>ot nSl.symm e) hv (Heap.get?_update_self _ gS' rfl) fun b o e=>ot (old e).2 (kp' b o e)⟩
 ·obtain⟨y1,_,r1,q1⟩:=ga ei
  obtain⟨y2,_,r2,q2⟩:=ga ej
  exact(cmp_tup h_).lt (I.kept (t':=tk) kp2) X.A.in1 (by show X.A.units+1+(d+1)<cLine;(first|lia|omega)) _ _ _ _ _ _ q1 q2 r1 r2
 ·obtain⟨y,ey,ry,_⟩:=ga ex
  refine⟨y,H,I.kept (t':=tk) kp2,ry,?_⟩
  have bl:=best_le (fun i j=>l2 (as.getD i default) (as.getD j default)) (its.toArray.size - 1)
  have bb:argBest (fun i j=>l2 (as.getD i default) (as.getD j default)) (its.toArray.size - 1)<as.length:=by rw[sz] at bl ⊢;(first|lia|omega)
  refine q _ y _ ey (by rw[List.getElem?_eq_getElem bb]) fun b hb=>?_
  obtain⟨j,hj,rfl⟩:=List.mem_iff_getElem.mp hb
  have:=best_least o (fun i=>as.getD i default) (its.toArray.size - 1) j (by rw[sz];(first|lia|omega))
  rw[List.getD_eq_getElem?_getD,List.getD_eq_getElem?_getD,List.getElem?_eq_getElem hj,List.getElem?_eq_getElem bb] at this
  exact this
end
end L70
set_option maxRecDepth 100000
set_option linter.all false
set_option maxHeartbeats 800000
set_option Elab.async false
namespace K54
open PySem L2 L3 X8 M01 L6 L5 QL
open L8 L9 L10 L11 L13 L14 L16 L20 L21 L22 L42 L44 L60 L61 L62 L66 L68 M11 M13 M14 M20 M21
open L28 hiding hu_d
section
variable {P:Program} {w:World} {K:PySem.W.Frag} {mg:Str->Option Value} {base:Heap}
def hours (Cs:List Crs):List Int:=Cs.flatMap hrs
theorem evs_hours (x:Str) (B:Int) (Cs:List Crs):(evs x B Cs).map (·.1)=hours Cs:=by
 induction Cs with
 | nil=>rfl
 | cons c r ih=>
  unfold evs hours at *
  rw[List.flatMap_cons,List.flatMap_cons,List.map_append,ih,List.map_map]
  congr 1
  show (hrs c).map id=hrs c
  rw[List.map_id]
theorem evs_many (x:Str) (B:Int) (Cs:List Crs):(evs x B Cs).length=(hours Cs).length:=by
 rw[<- evs_hours x B Cs,List.length_map]
def RlPos:Rl->Prop
 | .lim _ _ t b=>(0≤t/\t≤10 ^ 9)/\(0<b/\b≤10 ^ 9)
 | .apart ..=>True
def Fine (Cs:List Crs) (r:Rl) (h:Int):Prop:=match r with
 | .lim day x t b=>∃ B:Int,0<B/\(∀ c∈Cs,(doseR c.1 x).2 ∣ B)/\sumW (win h (Rl.width (.lim day x t b))) (evs x B Cs) * b≤t * B
 | .apart x y n=>∃ B B':Int,(0<B/\∀ c∈Cs,(doseR c.1 x).2 ∣ B)/\(0<B'/\∀ c∈Cs,(doseR c.1 y).2 ∣ B')/\¬ (0<sumW (win h n) (evs x B Cs)/\0<sumW (win h n) (evs y B' Cs))
def FirstB (Cs:List Crs) (r:Rl) (o:Option Int):Prop:=∀ h∈hours Cs,(∀ h0,o=some h0->h<h0)->Fine Cs r h
def oV:Option Int->V
 | none=> .non
 | some h=> .int h
theorem ahead {hs:List Int} (r:hs.Pairwise (· < ·)) {i:Nat} {h0 h:Int} (e:hs[i]?=some h0) (m:h∈hs) (l:h<h0):h∈hs.take i:=by
 obtain⟨j,hj,rfl⟩:=List.mem_iff_getElem.mp m
 have hi:=(List.getElem?_eq_some_iff.mp e).1
 have ev:=(List.getElem?_eq_some_iff.mp e).2
 by_cases z:j<i
 ·rw[List.mem_take_iff_getElem]
  exact⟨j,by (first|lia|omega),rfl⟩
 ·by_cases y:j=i
  ·subst y
   (first|lia|omega)
  ·have:=List.pairwise_iff_getElem.mp r i j hi hj (by (first|lia|omega))
   (first|lia|omega)
structure Dry (K:PySem.W.Frag) (H:Hp) (di:Addr) (ds:List V) (Cs:List Crs):Prop where
 l:SqL K H di ds
 f:Fa (rpD K H) ds Cs
 n:Cs.length≤20
 ok:∀ c∈Cs,CrsOk c
 few:(hours Cs).length<64
theorem Dry.mono {H H':Hp} {di:Addr} {ds:List V} {Cs:List Crs} (s:Same H H') (d:Dry K H di ds Cs):Dry K H' di ds Cs:=
 ⟨s.seq d.l,d.f.mono fun _ _=>rpD.mono s,d.n,d.ok,d.few⟩
def spSt (K:PySem.W.Frag):Sp:=fun vs H Q _=>∃ (v:V) (r:Rl),vs=[v]/\rpR K H v r/\∀ (l:Addr) (ss:List Str) (H':Hp),Same H H'->H' l=some (.lst (ss.map V.str))->ss.length≤2->Q (.ref l) H'
theorem scSt:FnScope ["rule"] ["rule"] (defScope s_stuffs_of):=⟨rfl,rfl,rfl,by decide +kernel,rfl,by decide +kernel,by decide +kernel⟩
theorem d_stuffs (T:Th K mg "stuffs_of" s_stuffs_of) (gA:∃ tk,mg "APART" = some (.str "apart" tk)):Def P w K mg base CX0 1 "stuffs_of" ["rule"] (spSt K):=by
 refine QL.def_of T (fun _ _ _ _ _ _ us hl=>M21.len1 us hl fun _=>rfl) scSt (fun vs H Q E h=>?_) (fun f cdv A outer s H vs Q E hr h=>?_)
 ·obtain⟨v,r,rfl,_⟩:=h
  rfl
 ·obtain⟨v,r,rfl,hr_,k⟩:=h
  obtain⟨tA,mAP⟩:=gA
  refine⟨_,(qss_cons (qs_if (qt_cmpR op_eq (qe_ix ix_tup (qv 0) qe_int (fun _ _=>rfl)) (qe_glob (v:= .str "apart") rfl mAP ⟨_,rfl⟩) (nomark _)) (qss_one (qs_ret (qe_lst (qa_cons (qe_ix ix_tup (qv 0) qe_int (fun _ _=>rfl)) (qa_cons (qe_ix ix_tup (qv 0) qe_int (fun _ _=>rfl)) qa_nil))))) qss_nil)
   (qss_one (qs_ret (qe_lst (qa_cons (qe_ix ix_tup (qv 0) qe_int (fun _ _=>rfl)) qa_nil))))),?_⟩
  cases r with
  | lim day x t b=>
   obtain⟨p,am,rfl,hp,_⟩:=hr_
   have n:¬ V.str (Rl.word (.lim day x t b))=V.str "apart" := by
    cases day
    ·show ¬ V.str "once" = V.str "apart"
     decide +kernel
    ·show ¬ V.str "day" = V.str "apart"
     decide +kernel
   exact⟨_,rfl,p,_,_,_,rfl,rfl,hp,rfl,rfl,_,rfl,ite2 (fun c=>absurd (of_decide_eq_true c) n) (fun _=>⟨_,rfl,p,_,_,_,rfl,rfl,hp,rfl,(by show 1≤sizeLine;decide),fun l hl=>k l [x] _ (sameUpd hl) upd_same (by show 1≤2;decide)⟩)⟩
  | apart x y n=>
   obtain⟨p,rfl,hp⟩:=hr_
   exact⟨_,rfl,p,_,_,_,rfl,rfl,hp,rfl,rfl,_,rfl,ite2 (fun _=>⟨_,rfl,p,_,_,_,rfl,rfl,hp,rfl,_,rfl,p,_,_,_,rfl,rfl,hp,rfl,(by show 2≤sizeLine;decide),fun l hl=>k l [x,y] _ (sameUpd hl) upd_same (by show 2≤2;decide)⟩) (fun c=>absurd (decide_eq_true rfl) c)⟩
def spMu (K:PySem.W.Frag):Sp:=fun vs H Q _=>∃ (v:V) (di:Addr) (ds:List V) (Cs:List Crs) (day:Bool) (x:Str) (t b:Int),vs=[v, .ref di]/\rpR K H v (.lim day x t b)/\RlPos (.lim day x t b)/\RlOk (.lim day x t b)/\Dry K H di ds Cs/\
 ∀ (o:Option Int) (H':Hp),Same H H'->FirstB Cs (.lim day x t b) o->Q (oV o) H'
theorem scMu:FnScope ["rule", "diary", "found", "limit", "hour", "total"] ["rule", "diary"] (defScope s_first_too_much):=⟨rfl,rfl,rfl,by decide +kernel,rfl,by decide +kernel,by decide +kernel⟩
theorem d_much (T:Th K mg "first_too_much" s_first_too_much) (dTo:Def P w K mg base CX0 6 "taken_of" ["stuff", "diary"] (spTo K)) (dTt:Def P w K mg base CX0 1 "totals" ["taken", "width"] (spTt K)) (dWi:Def P w K mg base CX0 1 "width_of" ["rule"] (spWi K)):Def P w K mg base CX0 7 "first_too_much" ["rule", "diary"] (spMu K):=by
 refine QL.def_of T (fun _ _ _ _ _ _ us hl=>M21.len2 us hl fun _ _=>rfl) scMu (fun vs H Q E h=>?_) (fun f cdv A outer s H vs Q E hr h=>?_)
 ·obtain⟨v,di,ds,Cs,day,x,t,b,rfl,_⟩:=h
  rfl
 ·obtain⟨v,di,ds,Cs,day,x,t,b,rfl,hr_,⟨⟨t0,t1⟩,b0,b1⟩,okr,dr,k⟩:=h
  refine⟨_,(qss_cons (qs_set (i:=2) scMu.nd rfl (Or.inl rfl) (qe_callD dTo (hr.mono (by decide)) rfl pass0 (qa_cons (qe_ix ix_tup (qv 0) qe_int (fun _ _=>rfl)) (qa_cons (qv 1) qa_nil))))
   (qss_cons (qs_set (i:=3) scMu.nd rfl (Or.inl rfl) (qe_op op_mul (qe_ix ix_tup (qe_ix ix_tup (qv 0) qe_int (fun _ _=>rfl)) qe_int (fun _ _=>rfl)) (qe_ix ix_tup (qv 2) qe_int (fun _ _=>rfl))))
   (qss_cons (qs_for PassesOwn.never rfl (qi_list (qe_callD dTt (hr.mono (by decide)) rfl pass0 (qa_cons (qe_ix ix_tup (qv 2) qe_int (fun _ _=>rfl)) (qa_cons (qe_callD dWi (hr.mono (by decide)) rfl pass0 (qa_cons (qv 0) qa_nil)) qa_nil)))) (qg_tup rfl (qgs_cons (qg_name (i:=4) scMu.nd rfl (Or.inl rfl)) (qgs_cons (qg_name (i:=5) scMu.nd rfl (Or.inl rfl)) qgs_nil)))
    (qss_one (qs_if (qt_cmpR op_gt (qe_op op_mul (qv 5) (qe_ix ix_tup (qe_ix ix_tup (qv 0) qe_int (fun _ _=>rfl)) qe_int (fun _ _=>rfl))) (qv 3) (nomark _)) (qss_one (qs_ret (qv 4))) qss_nil)))
   (qss_one (qs_ret qe_non))))),?_⟩
  obtain⟨p,am,rfl,hp,ham⟩:=id hr_
  have hn:=dr.n
  have few:=dr.few
  refine⟨_,rfl,p,_,_,_,rfl,rfl,hp,rfl,_,rfl,x,di,ds,Cs,rfl,dr.l,dr.f,by (first|lia|omega),dr.ok,fun fp d B D H5 s5 hfp hdd bk B0 zB dB=>?_⟩
  have lb:=bk.len
  rw[evs_many] at lb
  refine⟨_,rfl,p,_,_,_,rfl,rfl,seqT s5 hp,rfl,am,_,_,_,rfl,rfl,seqT s5 ham,rfl,_,rfl,fp,_,_,_,rfl,rfl,SqT.of hfp,rfl,_,_,rfl,rfl, .inl ⟨by (first|lia|omega),by (first|lia|omega)⟩,?_⟩
  refine⟨_,rfl,fp,_,_,_,rfl,rfl,SqT.of hfp,rfl,_,rfl,_,_,rfl,rpR.mono s5 hr_,d,_,D,rfl,hdd,bk.ks,by (first|lia|omega),okr.1,fun tl us hs H6 s6 ftl htl fu pm rise=>?_⟩
  have mem:∀ h,h∈hs↔h∈hours Cs:=fun h=>by rw[pm.mem_iff,bk.mem,evs_hours]
  have s06:=s5.trans s6
  have fl:=fu.len
  rw[List.length_map] at fl
  have fine:∀ h,¬ (sumW (win h (Rl.width (.lim day x t b))) D * b>t * B)->Fine Cs (.lim day x t b) h:=fun h z=>⟨B,B0,dB,by rw[<- bk.sum];(first|lia|omega)⟩
  refine⟨tl,rfl,⟨_,SqL.of htl⟩,for_list (K:=K) (a:=tl) (xs:=us) (fun i σ H7=>∃ v4 v5:Option V,σ=[some (.ref p),some (.ref di),some (.ref fp),some (.int (t * B)),v4,v5]/\H7=H6/\∀ h∈hs.take i,Fine Cs (.lim day x t b) h) ⟨none,none,rfl,rfl,fun h hh=>by cases hh⟩ ?_ ?_ ?_⟩
  ·rintro i σ H7 _ ⟨v4,v5,rfl,rfl,_⟩
   exact SqL.of htl
  ·rintro i y σ H7 hy ⟨v4,v5,rfl,rfl,fi⟩
   obtain⟨q,eq,pr,rfl,hpr⟩:=fa_at fu hy
   rw[List.getElem?_map] at eq
   obtain⟨h,eh,rfl⟩:=Option.map_eq_some_iff.mp eq
   refine⟨pr,_,rfl,hpr,rfl,_,_,rfl,_,_,rfl,rfl,?_⟩
   refine⟨_,rfl,_,rfl,p,_,_,_,rfl,rfl,seqT s06 hp,rfl,am,_,_,_,rfl,rfl,seqT s06 ham,rfl,_,_,rfl,rfl, .inr ⟨by (first|lia|omega),by (first|lia|omega)⟩,_,rfl,_,_,rfl,rfl,_,rfl,ite2 (fun c=>?_) (fun c=>?_)⟩
   ·exact⟨_,rfl,k (some h) _ s06 fun h' m' l'=>fi h' (ahead rise eh ((mem h').mpr m') (l' h rfl))⟩
   ·refine⟨_,_,rfl,rfl,fun h' m'=>?_⟩
    rw[take_snoc eh] at m'
    rcases List.mem_append.mp m' with z | z
    ·exact fi h' z
    ·rw[List.mem_singleton.mp z]
     exact fine h fun g=>c (decide_eq_true g)
  ·rintro σ H7 ⟨v4,v5,rfl,rfl,fi⟩
   rw[fl,List.take_length] at fi
   exact k none _ s06 fun h' m' _=>fi h' ((mem h').mpr m')
def spNe (K:PySem.W.Frag):Sp:=fun vs H Q _=>∃ (v:V) (di:Addr) (ds:List V) (Cs:List Crs) (x y:Str) (n:Int),vs=[v, .ref di]/\rpR K H v (.apart x y n)/\RlOk (.apart x y n)/\Dry K H di ds Cs/\
 ∀ (o:Option Int) (H':Hp),Same H H'->FirstB Cs (.apart x y n) o->Q (oV o) H'
theorem scNe:FnScope ["rule", "diary", "width", "ones", "others", "one", "other"] ["rule", "diary"] (defScope s_first_too_near):=⟨rfl,rfl,rfl,by decide +kernel,rfl,by decide +kernel,by decide +kernel⟩
theorem d_near (T:Th K mg "first_too_near" s_first_too_near) (dTo:Def P w K mg base CX0 6 "taken_of" ["stuff", "diary"] (spTo K)) (dTt:Def P w K mg base CX0 1 "totals" ["taken", "width"] (spTt K)) (dWi:Def P w K mg base CX0 1 "width_of" ["rule"] (spWi K)) (zzip:mg "zip" = none):Def P w K mg base CX0 7 "first_too_near" ["rule", "diary"] (spNe K):=by
 refine QL.def_of T (fun _ _ _ _ _ _ us hl=>M21.len2 us hl fun _ _=>rfl) scNe (fun vs H Q E h=>?_) (fun f cdv A outer s H vs Q E hr h=>?_)
 ·obtain⟨v,di,ds,Cs,x,y,n,rfl,_⟩:=h
  rfl
 ·obtain⟨v,di,ds,Cs,x,y,n,rfl,hr_,okr,dr,k⟩:=h
  refine⟨_,(qss_cons (qs_set (i:=2) scNe.nd rfl (Or.inl rfl) (qe_callD dWi (hr.mono (by decide)) rfl pass0 (qa_cons (qv 0) qa_nil)))
   (qss_cons (qs_set (i:=3) scNe.nd rfl (Or.inl rfl) (qe_callD dTt (hr.mono (by decide)) rfl pass0 (qa_cons (qe_ix ix_tup (qe_callD dTo (hr.mono (by decide)) rfl pass0 (qa_cons (qe_ix ix_tup (qv 0) qe_int (fun _ _=>rfl)) (qa_cons (qv 1) qa_nil))) qe_int (fun _ _=>rfl)) (qa_cons (qv 2) qa_nil))))
   (qss_cons (qs_set (i:=4) scNe.nd rfl (Or.inl rfl) (qe_callD dTt (hr.mono (by decide)) rfl pass0 (qa_cons (qe_ix ix_tup (qe_callD dTo (hr.mono (by decide)) rfl pass0 (qa_cons (qe_ix ix_tup (qv 0) qe_int (fun _ _=>rfl)) (qa_cons (qv 1) qa_nil))) qe_int (fun _ _=>rfl)) (qa_cons (qv 2) qa_nil))))
   (qss_cons (qs_for PassesOwn.never rfl (qi_zipL rfl zzip (qa_cons (qv 3) (qa_cons (qv 4) qa_nil))) (qg_tup rfl (qgs_cons (qg_name (i:=5) scNe.nd rfl (Or.inl rfl)) (qgs_cons (qg_name (i:=6) scNe.nd rfl (Or.inl rfl)) qgs_nil)))
    (qss_one (qs_if (QW.pt (qw_and (qt_cmpR op_gt (qe_ix ix_tup (qv 5) qe_int (fun _ _=>rfl)) qe_int (nomark _)) (qw_and1 (qt_cmpR op_gt (qe_ix ix_tup (qv 6) qe_int (fun _ _=>rfl)) qe_int (nomark _))))) (qss_one (qs_ret (qe_ix ix_tup (qv 5) qe_int (fun _ _=>rfl)))) qss_nil)))
   (qss_one (qs_ret qe_non)))))),?_⟩
  obtain⟨p,rfl,hp⟩:=id hr_
  have hn:=dr.n
  have few:=dr.few
  have n1:1≤n:=okr.1
  refine⟨_,rfl,_,_,rfl,hr_,?_⟩
  refine⟨_,rfl,p,_,_,_,rfl,rfl,hp,rfl,_,rfl,x,di,ds,Cs,rfl,dr.l,dr.f,by (first|lia|omega),dr.ok,fun fp d B D H1 s1 hfp hdd bk B0 zB dB=>?_⟩
  have lb:=bk.len
  rw[evs_many] at lb
  refine⟨fp,_,_,_,rfl,rfl,SqT.of hfp,rfl,_,rfl,d,_,D,rfl,hdd,bk.ks,by (first|lia|omega),n1,fun l1 us hs H2 s2 fl1 hl1 fu pm rise=>?_⟩
  have s02:=s1.trans s2
  have dr2:=dr.mono s02
  refine⟨_,rfl,p,_,_,_,rfl,rfl,seqT s02 hp,rfl,_,rfl,y,di,ds,Cs,rfl,dr2.l,dr2.f,by (first|lia|omega),dr.ok,fun fp' d' B' D' H3 s3 hfp' hdd' bk' B0' zB' dB'=>?_⟩
  have lb':=bk'.len
  rw[evs_many] at lb'
  refine⟨fp',_,_,_,rfl,rfl,SqT.of hfp',rfl,_,rfl,d',_,D',rfl,hdd',bk'.ks,by (first|lia|omega),n1,fun l2 us' hs' H4 s4 fl2 hl2 fu' pm' rise'=>?_⟩
  have mem:∀ h,h∈hs↔h∈hours Cs:=fun h=>by rw[pm.mem_iff,bk.mem,evs_hours]
  have mem':∀ h,h∈hs'↔h∈hours Cs:=fun h=>by rw[pm'.mem_iff,bk'.mem,evs_hours]
  obtain rfl:hs'=hs:=rise_uniq rise' rise fun z=>by rw[mem,mem']
  have s34:=s3.trans s4
  have s04:=s02.trans s34
  have fu:=fu.mono fun _ _=>rpF.mono s34
  have hl1:=s34 _ _ hl1
  have fl:=fu.len
  have fl':=fu'.len
  rw[List.length_map] at fl fl'
  refine⟨_,rfl,_,rfl,l1,l2,us,us',rfl,SqL.of hl1,SqL.of hl2,by (first|lia|omega),for_zipL (K:=K) (a:=l1) (b:=l2) (fun i σ H7=>∃ v5 v6:Option V,σ=[some (.ref p),some (.ref di),some (.int n),some (.ref l1),some (.ref l2),v5,v6]/\Same H4 H7/\∀ h∈hs'.take i,Fine Cs (.apart x y n) h) ⟨none,none,rfl,Same.refl _,fun h hh=>by cases hh⟩ ?_ ?_ ?_⟩
  ·rintro i σ H7 _ ⟨v5,v6,rfl,s7,_⟩
   exact⟨SqL.of (s7 _ _ hl1),SqL.of (s7 _ _ hl2)⟩
  ·rintro i u u' T σ H7 hu hu' nT ⟨v5,v6,rfl,s7,fi⟩
   obtain⟨q,eq,pr,rfl,hpr⟩:=fa_at fu hu
   rw[List.getElem?_map] at eq
   obtain⟨h,eh,rfl⟩:=Option.map_eq_some_iff.mp eq
   obtain⟨q',eq',pr',rfl,hpr'⟩:=fa_at fu' hu'
   rw[List.getElem?_map,eh] at eq'
   obtain rfl:=Option.some.inj eq'
   have uT:=sameUpd (o:= .tup [V.ref pr,V.ref pr']) nT
   have s8:=s7.trans uT
   have hT:upd H7 T (.tup [V.ref pr,V.ref pr']) T=some _:=upd_same
   generalize upd H7 T (.tup [V.ref pr,V.ref pr'])=H8 at s8 hT
   have hpr:=seqT s8 hpr
   have hpr':=seqT s8 hpr'
   have nx:¬ (0<sumW (win h n) D/\0<sumW (win h n) D')->∀ h'∈hs'.take (i+1),Fine Cs (.apart x y n) h':=fun z h' m'=>by
    rw[take_snoc eh] at m'
    rcases List.mem_append.mp m' with g | g
    ·exact fi h' g
    ·rw[List.mem_singleton.mp g]
     exact⟨B,B',⟨B0,dB⟩,⟨B0',dB'⟩,by rw[<- bk.sum, <- bk'.sum];exact z⟩
   refine⟨T,_,rfl,SqT.of hT,rfl,_,_,rfl,_,_,rfl,rfl,?_⟩
   refine⟨_,rfl,pr,_,_,_,rfl,rfl,hpr,rfl,_,_,rfl,rfl,_,rfl,ite2 (fun c=>?_) (fun c=>?_)⟩
   ·refine⟨_,rfl,pr',_,_,_,rfl,rfl,hpr',rfl,_,_,rfl,rfl,_,rfl,ite2 (fun c'=>?_) (fun c'=>?_)⟩
    ·exact⟨_,rfl,pr,_,_,_,rfl,rfl,hpr,rfl,k (some h) _ (s04.trans s8) fun h' m' l'=>fi h' (ahead rise' eh ((mem h').mpr m') (l' h rfl))⟩
    ·exact⟨_,_,rfl,s8,nx fun z=>c' (decide_eq_true z.2)⟩
   ·exact⟨_,_,rfl,s8,nx fun z=>c (decide_eq_true z.1)⟩
  ·rintro σ H7 ⟨v5,v6,rfl,s7,fi⟩
   rw[fl,List.take_length] at fi
   exact k none _ (s04.trans s7) fun h' m' _=>fi h' ((mem h').mpr m')
end
end K54
set_option maxRecDepth 100000
set_option linter.all false
set_option maxHeartbeats 800000
set_option Elab.async false
namespace K54
open PySem L2 L3 X8 M01 L6 L5 QL
open L8 L9 L10 L11 L13 L14 L16 L20 L21 L22 L42 L44 L60 L61 L62 L66 L68 L70 M11 M13 M14 M20 M21
open L28 hiding hu_d
section
variable {P:Program} {w:World} {K:PySem.W.Frag} {mg:Str->Option Value} {base:Heap}
def spBr (K:PySem.W.Frag):Sp:=fun vs H Q _=>∃ (v:V) (di:Addr) (ds:List V) (Cs:List Crs) (r:Rl),vs=[v, .ref di]/\rpR K H v r/\RlPos r/\RlOk r/\Dry K H di ds Cs/\∀ (o:Option Int) (H':Hp),Same H H'->FirstB Cs r o->Q (oV o) H'
theorem scBr:FnScope ["rule", "diary"] ["rule", "diary"] (defScope s_first_break):=⟨rfl,rfl,rfl,by decide +kernel,rfl,by decide +kernel,by decide +kernel⟩
theorem d_break (T:Th K mg "first_break" s_first_break) (dMu:Def P w K mg base CX0 7 "first_too_much" ["rule", "diary"] (spMu K)) (dNe:Def P w K mg base CX0 7 "first_too_near" ["rule", "diary"] (spNe K)) (gA:∃ tk,mg "APART" = some (.str "apart" tk)):Def P w K mg base CX0 8 "first_break" ["rule", "diary"] (spBr K):=by
 refine QL.def_of T (fun _ _ _ _ _ _ us hl=>M21.len2 us hl fun _ _=>rfl) scBr (fun vs H Q E h=>?_) (fun f cdv A outer s H vs Q E hr h=>?_)
 ·obtain⟨v,di,ds,Cs,r,rfl,_⟩:=h
  rfl
 ·obtain⟨v,di,ds,Cs,r,rfl,hr_,ps,okr,dr,k⟩:=h
  obtain⟨tA,mAP⟩:=gA
  refine⟨_,(qss_cons (qs_if (qt_cmpR op_eq (qe_ix ix_tup (qv 0) qe_int (fun _ _=>rfl)) (qe_glob (v:= .str "apart") rfl mAP ⟨_,rfl⟩) (nomark _)) (qss_one (qs_ret (qe_callD dNe (hr.mono (by decide)) rfl pass0 (qa_cons (qv 0) (qa_cons (qv 1) qa_nil))))) qss_nil)
   (qss_one (qs_ret (qe_callD dMu (hr.mono (by decide)) rfl pass0 (qa_cons (qv 0) (qa_cons (qv 1) qa_nil)))))),?_⟩
  cases r with
  | lim day x t b=>
   obtain⟨p,am,rfl,hp,_⟩:=id hr_
   have n:¬ V.str (Rl.word (.lim day x t b))=V.str "apart" := by
    cases day
    ·show ¬ V.str "once" = V.str "apart"
     decide +kernel
    ·show ¬ V.str "day" = V.str "apart"
     decide +kernel
   exact⟨_,rfl,p,_,_,_,rfl,rfl,hp,rfl,rfl,_,rfl,ite2 (fun c=>absurd (of_decide_eq_true c) n) (fun _=>⟨_,rfl,_,rfl,_,di,ds,Cs,day,x,t,b,rfl,hr_,ps,okr,dr,k⟩)⟩
  | apart x y n=>
   obtain⟨p,rfl,hp⟩:=id hr_
   exact⟨_,rfl,p,_,_,_,rfl,rfl,hp,rfl,rfl,_,rfl,ite2 (fun _=>⟨_,rfl,_,rfl,_,di,ds,Cs,x,y,n,rfl,hr_,okr,dr,k⟩) (fun c=>absurd (decide_eq_true rfl) c)⟩
def spPa (K:PySem.W.Frag):Sp:=fun vs H Q _=>∃ (vc vr:V) (h:Int) (c:Crs) (r:Rl),vs=[vc,vr, .int h]/\rpD K H vc c/\CrsOk c/\rpR K H vr r/\∀ (b:Bool) (H':Hp),Same H H'->Q (.bl b) H'
theorem scPa:FnScope ["course", "rule", "hour"] ["course", "rule", "hour"] (defScope s_takes_part):=⟨rfl,rfl,rfl,by decide +kernel,rfl,by decide +kernel,by decide +kernel⟩
theorem d_part (T:Th K mg "takes_part" s_takes_part) (dDo:Def P w K mg base CX0 5 "dose" ["recipe", "stuff"] (spDo K)) (dSt:Def P w K mg base CX0 1 "stuffs_of" ["rule"] (spSt K)) (dWi:Def P w K mg base CX0 1 "width_of" ["rule"] (spWi K)) (zany:mg "any" = none):Def P w K mg base CX0 6 "takes_part" ["course", "rule", "hour"] (spPa K):=by
 refine QL.def_of T (fun _ _ _ _ _ _ us hl=>M21.len3 us hl fun _ _ _=>rfl) scPa (fun vs H Q E h=>?_) (fun f cdv A outer s H vs Q E hr h=>?_)
 ·obtain⟨vc,vr,h,c,r,rfl,_⟩:=h
  rfl
 ·obtain⟨vc,vr,h,c,r,rfl,hc_,okc,hr_,k⟩:=h
  refine⟨_,(qss_cons (qs_if (qt_not (qt_val (qe_callB (L70.call_any (K:=K) rfl rfl) (by rfl) zany PyProof.Rows.boot_any (qa_cons (qe_lc (lc_mk (x:= "stuff") (fvs:=["course"]) (fidx:=[0]) (defScope s_takes_part) ["course", "rule", "hour"] rfl rfl (by decide +kernel)) rfl rfl (qi_list (qe_callD dSt (hr.mono (by decide)) rfl pass0 (qa_cons (qv 1) qa_nil))) (fun cl C s H ex=>(qe_cmpR op_gt (qe_ix (ix_tupK (K:=K) rfl) (qe_callD dDo (hr.mono (by decide)) rfl pass0 (qa_cons (qe_ix (ix_tupK (K:=K) rfl) (qv 1) qe_int (fun _ _=>rfl)) (qa_cons (qv 0) qa_nil))) qe_int (fun _ _=>rfl)) qe_int (nomark _)))) qa_nil)))) (qss_one (qs_ret qe_bl)) qss_nil)
   (qss_one (qs_ret (qe_callB (L70.call_any (K:=K) rfl rfl) (by rfl) zany PyProof.Rows.boot_any (qa_cons (qe_lc (lc_mk (x:= "own") (fvs:=["hour", "rule"]) (fidx:=[2,1]) (defScope s_takes_part) ["course", "rule", "hour"] rfl rfl (by decide +kernel)) rfl rfl (qi_list (qe_ix ix_tup (qv 0) qe_int (fun _ _=>rfl))) (fun cl C s H ex=>(qe_chain op_lt op_le (qe_op op_sub (qv 1) (qe_callD dWi (hr.mono (by decide)) rfl pass0 (qa_cons (qv 2) qa_nil))) (qv 0) (qv 1)))) qa_nil))))),?_⟩
  obtain⟨p,rc,hl,rfl,hp,hrc,hh⟩:=id hc_
  have lh:=hrs_len okc
  refine⟨_,rfl,vr,r,rfl,hr_,fun l ss H1 s1 hl1 l2=>⟨l,rfl,⟨_,SqL.of hl1⟩,lc_list (K:=K) (a:=l) (xs:=ss.map V.str) (fun i ys H2=>Same H1 H2/\∃ bs:List Bool,ys=bs.map V.bl/\bs.length=i) ⟨Same.refl _,[],rfl,rfl⟩ ?_ ?_ ?_⟩⟩
  ·rintro i ys H2 hi ⟨s2,bs,rfl,e⟩
   rw[List.length_map] at hi
   exact⟨SqL.of (s2 _ _ hl1),by rw[List.length_map,e,sizeLine_eq];(first|lia|omega)⟩
  ·rintro i v ys H2 hv ⟨s2,bs,rfl,e⟩
   rw[List.getElem?_map] at hv
   obtain⟨x,ex,rfl⟩:=Option.map_eq_some_iff.mp hv
   have s02:=s1.trans s2
   refine⟨_,rfl,p,_,_,_,rfl,rfl,seqT s02 hp,rfl,_,rfl,rc,c.1,x,rfl,hrc.mono s02,okc.1,fun q H3 s3 hq=>?_⟩
   refine⟨q,_,_,_,rfl,rfl,SqT.of hq,rfl,_,_,rfl,rfl,s2.trans s3,bs ++ [_],by rw[List.map_append];rfl,by rw[List.length_append,e];rfl⟩
  ·rintro ys H2 ⟨s2,bs,rfl,e⟩ D hD
   have u:=sameUpd (o:= .lst (bs.map V.bl)) hD
   have s03:=(s1.trans s2).trans u
   refine⟨D,bs,rfl,SqL.of upd_same,_,rfl,?_⟩
   generalize upd H2 D (.lst (bs.map V.bl))=H3 at s03
   have hh3:=s03 _ _ hh
   refine ite2 (fun _=>k false _ s03) (fun _=>?_)
   refine⟨_,rfl,p,_,_,_,rfl,rfl,seqT s03 hp,rfl,hl,rfl,⟨_,SqL.of hh3⟩,lc_list (K:=K) (a:=hl) (xs:=(hrs c).map V.int) (fun i ys H4=>H4=H3/\∃ bs:List Bool,ys=bs.map V.bl/\bs.length=i) ⟨rfl,[],rfl,rfl⟩ ?_ ?_ ?_⟩
   ·rintro i ys H4 hi ⟨rfl,bs,rfl,e⟩
    rw[List.length_map] at hi
    exact⟨SqL.of hh3,by rw[List.length_map,e,sizeLine_eq];(first|lia|omega)⟩
   ·rintro i v ys H4 hv ⟨rfl,bs,rfl,e⟩
    rw[List.getElem?_map] at hv
    obtain⟨y,ey,rfl⟩:=Option.map_eq_some_iff.mp hv
    have fin:∀ b:Bool,H4=H4/\∃ bs':List Bool,bs.map V.bl ++ [V.bl b]=bs'.map V.bl/\bs'.length=i+1:=fun b=>⟨rfl,bs ++ [b],by rw[List.map_append];rfl,by rw[List.length_append,e];rfl⟩
    exact⟨_,rfl,_,rfl,vr,r,rfl,rpR.mono s03 hr_,_,_,rfl,rfl,_,rfl,_,_,rfl,rfl,_,rfl,ite2 (fun _=>⟨_,rfl,_,_,rfl,rfl,fin _⟩) (fun _=>fin _)⟩
   ·rintro ys H4 ⟨rfl,bs,rfl,e⟩ D hD
    have u:=sameUpd (o:= .lst (bs.map V.bl)) hD
    exact⟨D,bs,rfl,SqL.of upd_same,k _ _ (s03.trans u)⟩
abbrev Ev:=Int × Int × Unit
abbrev rpEv:Rp Ev:=rpTup (rwCons rpI (rwCons rpI rwNil))
theorem ev_of {H:Hp} {p:Addr} {a:Ev} (h1:H p=some (.tup [.int a.1, .int a.2.1])):rpEv H (.ref p) a:=
 ⟨p,_,rfl,h1,_,_,rfl,rfl,_,_,rfl,rfl,rfl⟩
theorem ev_at {H:Hp} {v:V} {a:Ev} (h:rpEv H v a):∃ p,v= .ref p/\H p=some (.tup [.int a.1, .int a.2.1]):=by
 obtain⟨p,vs,rfl,e,v1,r1,rfl,q1,v2,r2,rfl,q2,q4⟩:=h
 have q1':v1= .int a.1:=q1
 have q2':v2= .int a.2.1:=q2
 have q4':r2=[]:=q4
 subst q1' q2' q4'
 exact⟨p,rfl,e⟩
theorem ev_mono {H H':Hp} {v:V} {a:Ev} (s:Same H H') (h:rpEv H v a):rpEv H' v a:=by
 obtain⟨p,rfl,e⟩:=ev_at h
 exact ev_of (s _ _ e)
theorem ev_but {H H':Hp} {z:Addr} {xs:List V} {v:V} {a:Ev} (b:M19.But z H H') (e:H z=some (.lst xs)) (h:rpEv H v a):rpEv H' v a:=by
 obtain⟨p,rfl,e1⟩:=ev_at h
 exact ev_of (b _ _ (fun n=>by rw[n,e] at e1;cases e1) e1)
theorem ev_ge {e a:Ev} (h:ltCons ltI (ltCons ltI ltNil) e a=false):a.1≤e.1:=by
 by_cases z:e.1=a.1
 ·(first|lia|omega)
 ·have h':(if e.1=a.1 then ltCons ltI ltNil e.2 a.2 else decide (e.1<a.1))=false:=h
  rw[if_neg z] at h'
  have:=of_decide_eq_false h'
  (first|lia|omega)
def ClV (H:Hp) (v:V):Option Int->Prop
 | none=>v= .non
 | some h=>∃ p x y,v= .ref p/\H p=some (.tup [.int h,x,y])
def spCi (K:PySem.W.Frag):Sp:=fun vs H Q _=>∃ (rl di:Addr) (rvs ds:List V) (Rs:List Rl) (Cs:List Crs),vs=[.ref rl, .ref di]/\SqL K H rl rvs/\Fa (rpR K H) rvs Rs/\Rs.length≤50/\(∀ r∈Rs,RlOk r/\RlPos r)/\Dry K H di ds Cs/\∀ (o:Option Int) (v:V) (H':Hp),Same H H'->ClV H' v o->(∀ r∈Rs,FirstB Cs r o)->Q v H'
theorem scCi:FnScope ["rules", "diary", "breaks", "number", "rule", "hour", "first", "part"] ["rules", "diary"] (defScope s_clash_in):=⟨rfl,rfl,rfl,by decide +kernel,rfl,by decide +kernel,by decide +kernel⟩
theorem d_clashin (T:Th K mg "clash_in" s_clash_in) (dBr:Def P w K mg base CX0 8 "first_break" ["rule", "diary"] (spBr K)) (dPa:Def P w K mg base CX0 6 "takes_part" ["course", "rule", "hour"] (spPa K)) (zenumerate:mg "enumerate" = none) (zlen:mg "len" = none) (zmin:mg "min" = none):Def P w K mg base CX0 9 "clash_in" ["rules", "diary"] (spCi K):=by
 refine QL.def_of T (fun _ _ _ _ _ _ us hl=>M21.len2 us hl fun _ _=>rfl) scCi (fun vs H Q E h=>?_) (fun f cdv A outer s H vs Q E hr h=>?_)
 ·obtain⟨rl,di,rvs,ds,Rs,Cs,rfl,_⟩:=h
  rfl
 ·obtain⟨rl,di,rvs,ds,Rs,Cs,rfl,hrl,fr,lR,okR,dr,k⟩:=h
  refine⟨_,(qss_cons (qs_set (i:=2) scCi.nd rfl (Or.inl rfl) (qe_lst qa_nil))
   (qss_cons (qs_for PassesOwn.never rfl (qi_enum rfl zenumerate (qa_cons (qv 0) qa_nil)) (qg_tup rfl (qgs_cons (qg_name (i:=3) scCi.nd rfl (Or.inl rfl)) (qgs_cons (qg_name (i:=4) scCi.nd rfl (Or.inr rfl)) qgs_nil)))
    (qss_cons (qs_set (i:=5) scCi.nd rfl (Or.inl rfl) (qe_callD dBr (hr.mono (by decide)) rfl pass0 (qa_cons (qv 4) (qa_cons (qv 1) qa_nil))))
   (qss_one (qs_if (qt_cmpR op_notN (qv 5) qe_non (nomark _)) (qss_one (qs_expr (qe_bm PySem.F.plainAttrs_list PySem.F.slot_list_append PySem.F.type_list_append mt_append (qv 2) (qa_cons (qe_tup (qa_cons (qv 5) (qa_cons (qv 3) qa_nil))) qa_nil)))) qss_nil))))
   (qss_cons (qs_if (qt_cmpR op_eq (qe_callB call_len_seq (by rfl) zlen PySem.boot_len (qa_cons (qv 2) qa_nil)) qe_int (nomark _)) (qss_one (qs_ret qe_non)) qss_nil)
   (qss_cons (qs_set (i:=6) scCi.nd rfl (Or.inr rfl) (qe_callB (L70.call_minR (K:=K) rfl rfl (row_cons cmp_int (row_cons cmp_int row_nil)) (ord_cons ord_int (ord_cons ord_int ord_nil)) (hu_d hr (by decide))) (by rfl) zmin PyProof.Rows.boot_min (qa_cons (qv 2) qa_nil)))
   (qss_cons (qs_set (i:=4) scCi.nd rfl (Or.inr rfl) (qe_ix ix_list (qv 0) (qe_ix ix_tup (qv 6) qe_int (fun _ _=>rfl)) (fun _ _=>rfl)))
   (qss_cons (qs_lcX (j:=7) (lc_mk2 (xs:=["number", "course"]) (fvs:=["rule", "first"]) (fidx:=[4,6]) (defScope s_clash_in) ["rules", "diary", "breaks", "number", "rule", "hour", "first", "part"] rfl rfl (by decide +kernel)) rfl rfl scCi.nd rfl rfl (qi_enum rfl zenumerate (qa_cons (qv 1) qa_nil)) (fun cl C s H ex=>(qg_pair rfl (lc_mk2 (xs:=["number", "course"]) (fvs:=["rule", "first"]) (fidx:=[4,6]) (defScope s_clash_in) ["rules", "diary", "breaks", "number", "rule", "hour", "first", "part"] rfl rfl (by decide +kernel)))) (fun cl C s H ex=>(qf_one (qt_val (qe_callD dPa (hr.mono (by decide)) rfl pass0 (qa_cons (qv 1) (qa_cons (qv 2) (qa_cons (qe_ix (ix_tupK (K:=K) rfl) (qv 3) qe_int (fun _ _=>rfl)) qa_nil))))))) (fun cl C s H ex=>(qv 0)) (fun _=>keep_pair))
   (qss_one (qs_ret (qe_tup (qa_cons (qe_ix ix_tup (qv 6) qe_int (fun _ _=>rfl)) (qa_cons (qe_ix ix_tup (qv 6) qe_int (fun _ _=>rfl)) (qa_cons (qv 7) qa_nil)))))))))))),?_⟩
  have frl:=fr.len
  refine⟨(by show 0≤sizeLine;decide),fun to hto=>?_⟩
  have u0:=sameUpd (o:= .lst []) hto
  have t0:upd H to (.lst []) to=some (.lst []):=upd_same
  generalize upd H to (.lst [])=H1 at u0 t0
  refine⟨_,rfl,rl,rvs,rfl,u0.seq hrl,for_enum (K:=K) (a:=rl) (xs:=rvs) (fun i σ H2=>∃ (v3 v4 v5:Option V) (ps:List Addr) (es:List Ev),σ=[some (.ref rl),some (.ref di),some (.ref to),v3,v4,v5,none,none]/\H2 to=some (.lst (ps.map V.ref))/\Fa (rpEv H2) (ps.map V.ref) es/\es.length≤i/\(∀ e∈es,∃ n:Nat,n<i/\e.2.1=n)/\(∀ (n:Nat) r,n<i->Rs[n]?=some r->∀ h∈hours Cs,(∀ e∈es,h<e.1)->Fine Cs r h)/\M19.But to H1 H2) ⟨none,none,none,[],[],rfl,t0, .nil,Nat.le_refl _,fun e he=>(by cases he),fun n r hn=>absurd hn (Nat.not_lt_zero _),M19.But.refl⟩ ?_ ?_ ?_⟩
  ·rintro i σ H2 _ ⟨v3,v4,v5,ps,es,rfl,t2,fe,le,ix,fi,o⟩
   exact(show Same H H2 from fun c u e=>o c u (ne_of_none e hto) (u0 _ _ e)).seq hrl
  ·rintro i v T σ H2 hv nT ⟨v3,v4,v5,ps,es,rfl,t2,fe,le,ix,fi,o⟩
   have s2:Same H H2:=fun c u e=>o c u (ne_of_none e hto) (u0 _ _ e)
   obtain⟨r,er,hr_⟩:=fa_at fr hv
   have hi:i<Rs.length:=(List.getElem?_eq_some_iff.mp er).1
   have uT:=sameUpd (o:= .tup [V.int (i:Int),v]) nT
   have s3:=s2.trans uT
   have o3:=o.trans (M19.But.of (z:=to) uT)
   have t3:=uT _ _ t2
   have fe3:=fe.mono fun _ _=>ev_mono uT
   have hT:upd H2 T (.tup [V.int (i:Int),v]) T=some _:=upd_same
   generalize upd H2 T (.tup [V.int (i:Int),v])=H3 at s3 o3 t3 fe3 hT
   have okr:=okR r (List.mem_of_getElem? er)
   refine⟨T,_,rfl,SqT.of hT,rfl,_,_,rfl,_,_,rfl,rfl,?_⟩
   refine⟨_,rfl,_,rfl,v,di,ds,Cs,r,rfl,rpR.mono s3 hr_,okr.2,okr.1,dr.mono s3,fun ob H4 s4 fb_=>?_⟩
   have o4:=o3.trans (M19.But.of (z:=to) s4)
   have t4:=s4 _ _ t3
   have fe4:=fe3.mono fun _ _=>ev_mono s4
   cases ob with
   | none=>
    refine⟨_,rfl,rfl,_,rfl,iteF ?_⟩
    refine⟨_,_,_,ps,es,rfl,t4,fe4,by (first|lia|omega),fun e he=>?_,fun n r' hn er' h hh ah=>?_,o4⟩
    ·obtain⟨n,hn,e1⟩:=ix e he
     exact⟨n,by (first|lia|omega),e1⟩
    ·by_cases z:n=i
     ·subst z
      rw[er] at er'
      obtain rfl:=Option.some.inj er'
      exact fb_ h hh fun h0 e0=>by cases e0
     ·exact fi n r' (by (first|lia|omega)) er' h hh ah
   | some h0=>
    refine⟨_,rfl,rfl,_,rfl,iteT ?_⟩
    refine⟨_,rfl, .inl ⟨rfl,_,SqL.of t4⟩,_,rfl,_,rfl,(by show 2≤sizeLine;decide),fun q hq=>?_⟩
    have u5:=sameUpd (o:= .tup [oV (some h0),V.int (i:Int)]) hq
    have t5:=u5 _ _ t4
    have fe5:=fe4.mono fun _ _=>ev_mono u5
    have hq5:upd H4 q (.tup [oV (some h0),V.int (i:Int)]) q=some _:=upd_same
    have o5:=o4.trans (M19.But.of (z:=to) u5)
    generalize upd H4 q (.tup [oV (some h0),V.int (i:Int)])=H5 at t5 fe5 hq5 o5
    have pl:=fe.len
    refine⟨to,_,_,rfl,rfl,t5,by rw[pl,sizeLine_eq];(first|lia|omega),?_⟩
    have bt:M19.But to H5 (upd H5 to (.lst (ps.map V.ref ++ [V.ref q]))):=M19.But.upd
    refine⟨_,_,_,ps ++ [q],es ++ [(h0,(i:Int),())],rfl,by rw[upd_same,List.map_append];rfl,?_,by rw[List.length_append];show _+1≤_;(first|lia|omega),fun e he=>?_,fun n r' hn er' h hh ah=>?_,o5.trans bt⟩
    ·rw[List.map_append]
     exact fa_snoc (ev_but bt t5 (ev_of (a:=(h0,(i:Int),())) hq5)) (fe5.mono fun _ _=>ev_but bt t5)
    ·rcases List.mem_append.mp he with z | z
     ·obtain⟨n,hn,e1⟩:=ix e z
      exact⟨n,by (first|lia|omega),e1⟩
     ·rw[List.mem_singleton.mp z]
      exact⟨i,by (first|lia|omega),rfl⟩
    ·by_cases z:n=i
     ·subst z
      rw[er] at er'
      obtain rfl:=Option.some.inj er'
      refine fb_ h hh fun h1 e1=>?_
      obtain rfl:=Option.some.inj e1
      exact ah (h0,(n:Int),()) (List.mem_append_right _ (List.mem_singleton.mpr rfl))
     ·exact fi n r' (by (first|lia|omega)) er' h hh fun e he=>ah e (List.mem_append_left _ he)
  ·rintro σ H2 ⟨v3,v4,v5,ps,es,rfl,t2,fe,le,ix,fi,o⟩
   rw[frl] at ix fi
   have s2:Same H H2:=fun c u e=>o c u (ne_of_none e hto) (u0 _ _ e)
   have pl:=fe.len
   have all:∀ (ob:Option Int),(∀ h:Int,(∀ h0,ob=some h0->h<h0)->∀ e∈es,h<e.1)->∀ r∈Rs,FirstB Cs r ob:=fun ob ha r hr h hh lt=>by
    obtain⟨n,hn,rfl⟩:=List.mem_iff_getElem.mp hr
    exact fi n _ hn (List.getElem?_eq_getElem hn) h hh (ha h lt)
   refine⟨_,rfl,to,_,rfl, .inl (SqL.of t2),rfl,_,rfl,ite2 (fun c=>?_) (fun c=>?_)⟩
   ·have c':=of_decide_eq_true c
    injection c' with c'
    have e0:es=[]:=List.eq_nil_of_length_eq_zero (by (first|lia|omega))
    exact k none _ _ s2 rfl (all none fun h _ e he=>by rw[e0] at he;cases he)
   ·have n0:0<es.length:=by
     rcases Nat.eq_zero_or_pos es.length with z | z
     ·exact absurd (decide_eq_true (by rw[pl,z];rfl)) c
     ·exact z
    refine⟨_,rfl,to,_,es,rfl,SqL.of t2,fe,n0,fun j v a ej ea lt=>?_⟩
    obtain⟨a',ea',hv⟩:=fa_at fe ej
    rw[ea] at ea'
    obtain rfl:=Option.some.inj ea'
    obtain⟨p1,rfl,hp1⟩:=ev_at hv
    obtain⟨n,hn,en⟩:=ix a (List.mem_of_getElem? ea)
    have ev:rvs[n]?=some (rvs[n]'(by (first|lia|omega))):=List.getElem?_eq_getElem (by (first|lia|omega))
    obtain⟨r,er,hr_⟩:=fa_at fr ev
    have at_:=atI_nat ev
    rw[<- en] at at_
    have dr2:=dr.mono s2
    refine⟨_,rfl,_,rfl,p1,_,_,_,rfl,rfl,SqT.of hp1,rfl,rl,_,_,_,rfl,rfl,s2.seq hrl,at_,?_⟩
    refine⟨_,rfl,di,ds,rfl,dr2.l,pairs_enum (K:=K) (a:=di) ds (fun i ys H3=>Same H2 H3/\ys.length≤i) ⟨Same.refl _,Nat.le_refl _⟩ (fun i ys H3 hi z=>?_) (fun i x T ys H3 ex nT z=>?_) (fun ys H3 z=>?_)⟩
    ·have dl:=dr.f.len
     have dn:=dr.n
     exact⟨by rw[sizeLine_eq];(first|lia|omega),z.1.seq dr2.l⟩
    ·obtain⟨s3,ly⟩:=z
     have s4:=s3.trans (sameUpd (o:= .tup [V.int (i:Int),x]) nT)
     obtain⟨c,ec,hc⟩:=fa_at dr2.f ex
     refine⟨_,rfl,_,rfl,_,rfl,p1,_,_,_,rfl,rfl,SqT.of (s4 _ _ hp1),rfl,x,_,_,c,r,rfl,rpD.mono s4 hc,dr.ok c (List.mem_of_getElem? ec),rpR.mono (s2.trans s4) hr_,fun b H5 s5=>⟨_,rfl,ite2 (fun _=>?_) (fun _=>?_)⟩⟩
     ·exact⟨_,rfl,s4.trans s5,by rw[List.length_append];show _+1≤_;(first|lia|omega)⟩
     ·exact⟨s4.trans s5,by (first|lia|omega)⟩
    ·obtain⟨s3,ly⟩:=z
     intro D hD
     have s4:=s3.trans (sameUpd (o:= .lst ys) hD)
     have hp4:=s4 _ _ hp1
     dsimp only[tSeq]
     refine⟨_,rfl,p1,_,_,_,rfl,rfl,SqT.of hp4,rfl,_,rfl,p1,_,_,_,rfl,rfl,SqT.of hp4,rfl,_,rfl,(by show 3≤sizeLine;decide),fun t ht=>?_⟩
     refine k (some a.1) _ _ ((s2.trans s4).trans (sameUpd ht)) ⟨t,_,_,rfl,upd_same⟩ (all _ fun h hl e he=>?_)
     have g1:=ev_ge (lt e he)
     have g2:=hl a.1 rfl
     (first|lia|omega)
def spCl (K:PySem.W.Frag):Sp:=fun vs H Q _=>∃ (rl cl:Addr) (rvs us:List V) (Rs:List Rl) (Cs:List Crs),vs=[.ref rl, .ref cl]/\SqL K H rl rvs/\Fa (rpR K H) rvs Rs/\Rs.length≤50/\(∀ r∈Rs,RlOk r/\RlPos r)/\SqL K H cl us/\Fa (rpC K H) us Cs/\Cs.length≤20/\(∀ c∈Cs,CrsOk c)/\(hours Cs).length<64/\∀ (o:Option Int) (v:V) (H':Hp),Same H H'->ClV H' v o->(∀ r∈Rs,FirstB Cs r o)->Q v H'
theorem scCl:FnScope ["rules", "courses"] ["rules", "courses"] (defScope s_clash):=⟨rfl,rfl,rfl,by decide +kernel,rfl,by decide +kernel,by decide +kernel⟩
theorem d_clash (T:Th K mg "clash" s_clash) (dCi:Def P w K mg base CX0 9 "clash_in" ["rules", "diary"] (spCi K)) (dDi:Def P w K mg base CX0 2 "diary_of" ["courses"] (spDi K)):Def P w K mg base CX0 10 "clash" ["rules", "courses"] (spCl K):=by
 refine QL.def_of T (fun _ _ _ _ _ _ us hl=>M21.len2 us hl fun _ _=>rfl) scCl (fun vs H Q E h=>?_) (fun f cdv A outer s H vs Q E hr h=>?_)
 ·obtain⟨rl,cl,rvs,us,Rs,Cs,rfl,_⟩:=h
  rfl
 ·obtain⟨rl,cl,rvs,us,Rs,Cs,rfl,hrl,fr,lR,okR,hcl,fc,lC,okC,few,k⟩:=h
  refine⟨_,(qss_one (qs_ret (qe_callD dCi (hr.mono (by decide)) rfl pass0 (qa_cons (qv 0) (qa_cons (qe_callD dDi (hr.mono (by decide)) rfl pass0 (qa_cons (qv 1) qa_nil)) qa_nil))))),?_⟩
  refine⟨_,rfl,_,rfl,cl,us,Cs,rfl,hcl,fc,by (first|lia|omega),okC,fun d ds H1 s1 hd fd=>?_⟩
  exact⟨rl,d,rvs,ds,Rs,Cs,rfl,s1.seq hrl,fr.mono fun _ _=>rpR.mono s1,lR,okR,⟨SqL.of hd,fd,lC,okC,few⟩,fun o v H' s'=>k o v H' (s1.trans s')⟩
end
end K54
set_option maxRecDepth 100000
set_option linter.all false
set_option maxHeartbeats 800000
set_option Elab.async false
namespace K54
open PySem L2 L3 X8 M01 L6 L5 QL
open L8 L9 L10 L11 L13 L14 L16 L20 L21 L22 L42 L44 L66 M11 M13 M14 M20 M21
section
variable {P:Program} {w:World} {K:PySem.W.Frag} {mg:Str->Option Value} {base:Heap}
def spCell (K:PySem.W.Frag):Sp:=fun vs H Q _=>∃ (a:Addr) (ns:List Int) (k:Int),vs=[.ref a, .int k]/\SqL K H a (ns.map V.int)/\0≤k/\∀ z,Q (.int z) H
theorem scCell:FnScope ["_law_script", "_law_k"] ["_law_script", "_law_k"] (defScope s_law_cell):=⟨rfl,rfl,rfl,by decide +kernel,rfl,by decide +kernel,by decide +kernel⟩
theorem d_cell (T:Th K mg "_law_cell" s_law_cell) (zlen:mg "len" = none):Def P w K mg base CX0 1 "_law_cell" ["_law_script", "_law_k"] (spCell K):=by
 refine QL.def_of T (fun _ _ _ _ _ _ us hl=>M21.len2 us hl fun _ _=>rfl) scCell (fun vs H Q E h=>?_) (fun f cdv A outer s H vs Q E hr h=>?_)
 ·obtain⟨a,ns,k,rfl,_⟩:=h
  rfl
 ·obtain⟨a,ns,k,rfl,hS,k0,q⟩:=h
  refine⟨_,(qss_cons (qs_if (qt_cmpR op_lt (qv 1) (qe_callB call_len_seq (by rfl) zlen PySem.boot_len (qa_cons (qv 0) qa_nil)) (nomark _)) (qss_one (qs_ret (qe_ix ix_list (qv 0) (qv 1) (fun _ _=>rfl)))) qss_nil)
   (qss_one (qs_ret qe_int))),?_⟩
  refine⟨_,rfl,_,rfl,a,_,rfl, .inl hS,_,_,rfl,rfl,_,rfl,?_⟩
  refine ite2 (fun z=>?_) (fun _=>?_)
  ·have z':k<(((ns.map V.int).length:Nat):Int):=of_decide_eq_true z
   rw[List.length_map] at z'
   have hlt:k.toNat<ns.length:=by (first|lia|omega)
   have e:(ns.map V.int)[k.toNat]?=some (.int ns[k.toNat]):=by rw[List.getElem?_map,List.getElem?_eq_getElem hlt];rfl
   have e2:=atI_nat e
   rw[show ((k.toNat:Nat):Int)=k from by (first|lia|omega)] at e2
   exact⟨_,rfl,_,rfl,a,_,k,_,rfl,rfl,hS,e2,q _⟩
  ·exact q 0
end
def spLaw (K:PySem.W.Frag):Sp:=fun vs H Q _=>∃ (a:Addr) (ns:List Int),vs=[.ref a]/\SqL K H a (ns.map V.int)/\ns.length≤63/\∀ H',Q (.bl true) H'
section
variable {P:Program} {w:World} {K:PySem.W.Frag} {mg:Str->Option Value} {base:Heap} {S C:Addr}
def spLow:Sp:=fun vs H Q _=>∃ t b:Int,vs=[.int t, .int b]/\0<b/\Big b/\∀ r,H r=none->Q (.ref r) (upd H r (.tup [.int (ft t b), .int (fb t b)]))
theorem scLo:FnScope ["_law_top", "_law_bottom", "_law_one", "_law_other"] ["_law_top", "_law_bottom"] (defScope s_law_lowest):=⟨rfl,rfl,rfl,by decide +kernel,rfl,by decide +kernel,by decide +kernel⟩
theorem d_low (T:Th K mg "_law_lowest" s_law_lowest) (mA:mg "abs" = none):Def P w K mg base CX0 1 "_law_lowest" ["_law_top", "_law_bottom"] spLow:=by
 refine L6.def_of T (fun _ _ _ _ _ _ us hl=>M21.len2 us hl fun _ _=>rfl) scLo (fun vs H Q E h=>?_) (fun f cdv A outer s H vs Q E hr h=>?_)
 ·obtain⟨t,b,rfl,_⟩:=h
  rfl
 ·obtain⟨t,b,rfl,b0,bb,k⟩:=h
  refine⟨_,pss_cons (ps_set (i:=2) scLo.nd rfl (Or.inl rfl) (pe_callB call_abs (by rfl) mA PyProof.Rows.boot_abs (pa_cons (pv 0) pa_nil)))
   (pss_cons (ps_set (i:=3) scLo.nd rfl (Or.inl rfl) (pv 1))
   (pss_cons (ps_while PassesOwn.never (pt_cmpR op_ne (pv 3) pe_int (nomark _))
    (pss_one (ps_par (i:=2) (j:=3) rfl scLo.nd rfl rfl (by decide) rfl rfl (pa_cons (pv 3) (pa_cons (pe_op op_mod (pv 2) (pv 3)) pa_nil)) rfl)))
   (pss_one (ps_ret (pe_tup (pa_cons (pe_op op_fdivB (pv 0) (pv 2)) (pa_cons (pe_op op_fdivB (pv 1) (pv 2)) pa_nil))))))),?_⟩
  refine⟨_,rfl,_,rfl,_,rfl,?_⟩
  have eb:ab b=b:=by unfold ab;rw[if_neg (by (first|lia|omega))]
  have ed:dv t b=gz (ab t) b:=by unfold dv;rw[if_neg (by (first|lia|omega)),eb]
  refine while_by (fun σ H1=>∃ a1 b1,σ=[some (.int t),some (.int b),some (.int a1),some (.int b1)]/\H1=H/\0≤a1/\0≤b1/\gz a1 b1=dv t b) (fun σ _=>match σ with | [_,_,_,some (.int b1)]=>b1.toNat | _=>0) ⟨ab t,b,rfl,rfl,ab_nn _,by (first|lia|omega),ed.symm⟩ ?_ ?_
  ·rintro σ H1 ⟨a1,b1,rfl,rfl,h1,h2,e⟩
   refine⟨_,rfl,rfl,_,rfl,?_⟩
   by_cases z0:b1=0
   ·subst z0
    refine iteNS rfl ?_
    rw[gz_end h1] at e
    subst e
    have d0:dv t b≠0:=dv_ne (by (first|lia|omega))
    have dB:Big (dv t b):=Big.le (dv_le (by (first|lia|omega))) bb
    exact⟨_,rfl,_,rfl,_,_,rfl,rfl,⟨d0,dB⟩,_,rfl,_,rfl,_,_,rfl,rfl,⟨d0,dB⟩,(by show 2≤sizeLine;decide),fun p np=>k p np⟩
   ·have q':0<b1:=by (first|lia|omega)
    rw[show (decide (V.int b1=V.int 0))=false from decide_eq_false (fun z=>z0 (by injection z))]
    refine iteT ?_
    refine⟨_,rfl,_,rfl,_,rfl,_,_,rfl,rfl,q',_,_,rfl,⟨b1,a1 % b1,rfl,rfl,h2,Int.emod_nonneg _ (by (first|lia|omega)),by rw[gz_step h1 q'];exact e⟩,?_⟩
    show (a1 % b1).toNat<b1.toNat
    have z1:=Int.emod_lt_of_pos a1 q'
    have z2:=Int.emod_nonneg a1 z0
    (first|lia|omega)
  ·rintro σ H1 Q1 Q2 kq ⟨v,e,sc,c,q3,q⟩
   exact⟨v,e,sc,c,q3,kq _ _ q⟩
end
section
variable {P:Program} {w:World} {K:PySem.W.Frag} {mg:Str->Option Value} {base:Heap} {S C:Addr}
def spW:Sp:=fun vs H Q _=>∃ c n:Int,vs=[.int c, .int n]/\0≤n/\n≤63/\
 ∀ (p:Addr) (xs:List Int) (H':Hp),H p=none->H' p=some (.lst (xs.map V.int))->xs.length=n.toNat->(∀ x∈xs,0≤x/\x<2147483563)->Same H H'->Q (.ref p) H'
theorem scW:FnScope ["_law_cell_here", "_law_many", "_law_found", "_law_rest", "_law_turn", "_law_k"] ["_law_cell_here", "_law_many"] (defScope s_law_wheel):=⟨rfl,rfl,rfl,by decide +kernel,rfl,by decide +kernel,by decide +kernel⟩
theorem d_wheel (T:Th K mg "_law_wheel" s_law_wheel) (zrange:mg "range" = none):Def P w K mg base CX0 1 "_law_wheel" ["_law_cell_here", "_law_many"] spW:=by
 refine QL.def_of T (fun _ _ _ _ _ _ us hl=>M21.len2 us hl fun _ _=>rfl) scW (fun vs H Q E h=>?_) (fun f cdv A outer s H vs Q E hr h=>?_)
 ·obtain⟨c,n,rfl,_⟩:=h
  rfl
 ·obtain⟨c,n,rfl,n0,n1,q⟩:=h
  refine⟨_,(qss_cons (qs_set (i:=2) scW.nd rfl (Or.inl rfl) (qe_lst qa_nil))
   (qss_cons (qs_set (i:=3) scW.nd rfl (Or.inl rfl) (qv 0))
   (qss_cons (qs_set (i:=4) scW.nd rfl (Or.inl rfl) (qe_op op_add qe_int (qe_op op_mod (qv 0) qe_int)))
   (qss_cons (qs_for PassesOwn.never rfl (qi_range1 rfl zrange (qa_cons (qv 1) qa_nil)) (qg_name (i:=5) scW.nd rfl (Or.inl rfl))
    (qss_one (qs_if (QW.pt (qw_and (QW.pt (qw_or (qt_cmpR op_lt (qv 0) qe_int (nomark _)) (qw_or1 (qt_cmpR op_ge (qv 0) (qe_op op_pow qe_int qe_int) (nomark _))))) (qw_and1 (qt_cmpR op_notIn_seq (qv 3) (qe_lst (qa_cons qe_int (qa_cons (qe_un un_neg qe_int) qa_nil))) (by with_unfolding_all rfl))))) (qss_cons (qs_expr (qe_bm PySem.F.plainAttrs_list PySem.F.slot_list_append PySem.F.type_list_append mt_append (qv 2) (qa_cons (qe_op op_mod (qv 3) (qe_op op_pow qe_int qe_int)) qa_nil)))
   (qss_one (qs_set (i:=3) scW.nd rfl (Or.inl rfl) (qe_op op_fdiv (qv 3) (qe_op op_pow qe_int qe_int))))) (qss_cons (qs_set (i:=4) scW.nd rfl (Or.inl rfl) (qe_op op_mod (qe_op op_mul (qv 4) qe_int) qe_int))
   (qss_one (qs_expr (qe_bm PySem.F.plainAttrs_list PySem.F.slot_list_append PySem.F.type_list_append mt_append (qv 2) (qa_cons (qe_op op_fdiv (qv 4) qe_int) qa_nil))))))))
   (qss_one (qs_ret (qv 2))))))),?_⟩
  refine⟨(by show 0≤sizeLine;decide),fun l hl=>?_⟩
  refine⟨_,rfl,_,rfl,_,_,rfl,rfl,(by show (0:Int)<2147483562;decide),_,_,rfl,rfl,?_⟩
  refine⟨_,rfl,n,rfl,by (first|lia|omega),by (first|lia|omega),for_range (n:=n.toNat) (fun i σ H2=>∃ (r t:Int) (xs:List Int) (kv:Option V),σ=[some (.int c),some (.int n),some (.ref l),some (.int r),some (.int t),kv]/\0≤t/\t<2147483563/\H2 l=some (.lst (xs.map V.int))/\xs.length=i/\(∀ x∈xs,0≤x/\x<2147483563)/\∀ b o,H b=some o->H2 b=some o) ?_ ?_ ?_⟩
  ·refine⟨c,_,[],none,rfl,?_,?_,upd_same,rfl,fun x hx=>absurd hx (by simp),fun b o e=>by rw[upd_ne (ne_of_none e hl)];exact e⟩
   ·have:=Int.emod_nonneg c (show (2147483562:Int)≠0 by decide);(first|lia|omega)
   ·have:=Int.emod_lt_of_pos c (show (0:Int)<2147483562 by decide);(first|lia|omega)
  ·rintro i σ H2 hi ⟨r,t,xs,kv,rfl,t0,t1,hl2,hx,hv,sm⟩
   refine if_tot (fun Q' k=>?_) (fun H3 s3=>?_) (fun H3 s3=>?_)
   ·have tail:∀ Q'':Bool->Hp->Prop,(∀ c H',Same H2 H'->Q'' c H')->(tTest (tOp (rIn K true) (tVar 3) (tLst (tCons (tC (.int 0)) (tCons (tUn (rU fun i=>V.int (-i)) (tC (.int 1))) tNil))))) [some (.int c),some (.int n),some (.ref l),some (.int r),some (.int t),some (.int ((0:Int)+i))] H2 Q'':=by
     intro Q'' k''
     refine⟨_,rfl,_,rfl,(by show 2≤sizeLine;decide),fun l2 hl2'=>?_⟩
     exact⟨l2,_,rfl, .inl (SqL.of upd_same),rfl,rfl,_,rfl,k'' _ _ (sameUpd hl2')⟩
    refine⟨_,rfl,_,_,rfl,rfl,_,rfl,?_⟩
    refine ite2 (fun z=>?_) (fun z=>?_)
    ·exact tail _ k
    ·refine⟨_,rfl,_,_,rfl,rfl,⟨by decide,by decide,by decide⟩,_,_,rfl,rfl,_,rfl,?_⟩
     refine ite2 (fun z=>?_) (fun z=>?_)
     ·exact tail _ k
     ·exact k _ _ (Same.refl _)
   ·have hl3:=s3 _ _ hl2
    have p9:(0:Int)<10 ^ (9:Int).toNat:=by decide
    refine⟨_,rfl, .inl ⟨rfl,_,SqL.of hl3⟩,_,rfl,_,_,rfl,rfl,⟨by decide,by decide,by decide⟩,_,_,rfl,rfl,p9,l,_,_,rfl,rfl,hl3,?_,?_⟩
    ·rw[List.length_map,hx,sizeLine_eq];(first|lia|omega)
    ·refine⟨_,rfl,_,_,rfl,rfl,⟨by decide,by decide,by decide⟩,_,_,rfl,rfl,⟨by decide,by decide⟩,?_⟩
     have m0:=Int.emod_nonneg r (show (10 ^ (9:Int).toNat:Int)≠0 by decide)
     have m1:=Int.emod_lt_of_pos r p9
     have e9:(10 ^ (9:Int).toNat:Int)=1000000000:=by decide
     refine⟨_,t,xs ++ [r % 10 ^ (9:Int).toNat],_,rfl,t0,t1,?_,by simp[hx],fun x hxx=>?_,fun b o e=>?_⟩
     ·rw[upd_same];simp
     ·rcases List.mem_append.mp hxx with z | z
      ·exact hv x z
      ·obtain rfl:x=r % 10 ^ (9:Int).toNat:=by simpa using z
       rw[e9] at m1
       (first|lia|omega)
     ·rw[upd_ne (ne_of_none e hl)];exact s3 _ _ (sm b o e)
   ·have hl3:=s3 _ _ hl2
    have m0:=Int.emod_nonneg (t * 40014) (show (2147483563:Int)≠0 by decide)
    have m1:=Int.emod_lt_of_pos (t * 40014) (show (0:Int)<2147483563 by decide)
    refine⟨_,rfl,_,_,rfl,rfl, .inl ⟨by (first|lia|omega),by (first|lia|omega)⟩,_,_,rfl,rfl,(by show (0:Int)<2147483563;decide),?_⟩
    refine⟨_,rfl, .inl ⟨rfl,_,SqL.of hl3⟩,_,rfl,_,_,rfl,rfl,⟨by decide,by decide⟩,l,_,_,rfl,rfl,hl3,?_,?_⟩
    ·rw[List.length_map,hx,sizeLine_eq];(first|lia|omega)
    ·refine⟨r,_,xs ++ [t * 40014 % 2147483563 / 3],_,rfl,m0,m1,?_,by simp[hx],fun x hxx=>?_,fun b o e=>?_⟩
     ·rw[upd_same];simp
     ·rcases List.mem_append.mp hxx with z | z
      ·exact hv x z
      ·obtain rfl:x=t * 40014 % 2147483563 / 3:=by simpa using z
       (first|lia|omega)
     ·rw[upd_ne (ne_of_none e hl)];exact s3 _ _ (sm b o e)
  ·rintro σ H2 ⟨r,t,xs,kv,rfl,t0,t1,hl2,hx,hv,sm⟩
   exact⟨_,rfl,q l xs H2 hl hl2 hx hv sm⟩
end
section
variable {P:Program} {w:World} {K:PySem.W.Frag} {mg:Str->Option Value} {base:Heap}
theorem at_sign {z:Str} {i:Int} (h0:0≤i) (h1:i<(z.length:Int)):∃ c,atI z.cps.toList i=some c:=by
 have hlt:i.toNat<z.cps.toList.length:=by rw[Array.length_toList];show i.toNat<z.cps.size;have:z.length=z.cps.size:=rfl;(first|lia|omega)
 refine⟨z.cps.toList[i.toNat],?_⟩
 have e2:=atI_nat (List.getElem?_eq_getElem hlt)
 rw[show ((i.toNat:Nat):Int)=i from by (first|lia|omega)] at e2
 exact e2
theorem mul_len (c:Nat) {n:Int} (h0:3≤n) (h1:n≤6):(mulS ⟨#[c]⟩ n).length≤6:=by
 have:n=3\/n=4\/n=5\/n=6:=by (first|lia|omega)
 rcases this with rfl | rfl | rfl | rfl <;> (unfold mulS;simp[PySem.Str.length,List.replicate])
theorem getD_nn {xs:List Int} (h:∀ x∈xs,0≤x/\x<2147483563) (j:Nat):0≤xs.getD j 0/\xs.getD j 0<2147483563:=by
 rw[List.getD_eq_getElem?_getD]
 cases e:xs[j]? with
 | none=>exact⟨by decide,by decide⟩
 | some x=>exact h x (List.mem_of_getElem? e)
def spPool:Sp:=fun vs H Q _=>∃ c:Int,vs=[.int c]/\∀ (p:Addr) (ss:List Str) (H':Hp),Same H H'->H' p=some (.lst (ss.map V.str))->ss.length=4->Q (.ref p) H'
theorem scPool:FnScope ["_law_cell_here", "_law_letters", "_law_turns", "_law_at", "_law_word"] ["_law_cell_here"] (defScope s_law_pool):=⟨rfl,rfl,rfl,by decide +kernel,rfl,by decide +kernel,by decide +kernel⟩
theorem d_pool (T:Th K mg "_law_pool" s_law_pool) (dWheel:Def P w K mg base CX0 1 "_law_wheel" ["_law_cell_here", "_law_many"] spW) (zrange:mg "range" = none):Def P w K mg base CX0 2 "_law_pool" ["_law_cell_here"] spPool:=by
 refine QL.def_of T (fun _ _ _ _ _ _ us hl=>M21.len1 us hl fun _=>rfl) scPool (fun vs H Q E h=>?_) (fun f cdv A outer s H vs Q E hr h=>?_)
 ·obtain⟨c,rfl,_⟩:=h
  rfl
 ·obtain⟨c,rfl,k⟩:=h
  refine⟨_,(qss_cons (qs_set (i:=1) scPool.nd rfl (Or.inr rfl) qe_str)
   (qss_cons (qs_set (i:=2) scPool.nd rfl (Or.inr rfl) (qe_callD dWheel (hr.mono (by decide)) rfl pass0 (qa_cons (qv 0) (qa_cons qe_int qa_nil))))
   (qss_cons (qs_if (qt_cmpR op_eq (qe_op op_mod (qe_ix ix_list (qv 2) qe_int (fun _ _=>rfl)) qe_int) qe_int (nomark _)) (qss_one (qs_ret (qe_lc (lc_mk (x:= "_law_k") (fvs:=["_law_letters", "_law_turns"]) (fidx:=[1,2]) (defScope s_law_pool) ["_law_cell_here", "_law_letters", "_law_turns", "_law_at", "_law_word"] rfl rfl (by decide +kernel)) rfl rfl (qi_range1 rfl zrange (qa_cons qe_int qa_nil)) (fun cl C s H ex=>(qe_op op_mul_str (qe_ix ix_str (qv 1) (qe_op op_mod (qe_ix (ix_listK (K:=K) rfl) (qv 2) qe_int (fun _ _=>rfl)) qe_int) (fun _ _=>rfl)) (qe_op op_add qe_int (qv 0))))))) qss_nil)
   (qss_cons (qs_set (i:=3) scPool.nd rfl (Or.inr rfl) (qe_op op_mod (qe_ix ix_list (qv 2) qe_int (fun _ _=>rfl)) qe_int))
   (qss_cons (qs_set (i:=4) scPool.nd rfl (Or.inr rfl) (qe_op op_mul_str (qe_ix ix_str (qv 1) (qe_op op_mod (qe_ix ix_list (qv 2) qe_int (fun _ _=>rfl)) qe_int) (fun _ _=>rfl)) qe_int))
   (qss_one (qs_ret (qe_lc (lc_mk (x:= "_law_k") (fvs:=["_law_word", "_law_letters", "_law_at", "_law_turns"]) (fidx:=[4,1,3,2]) (defScope s_law_pool) ["_law_cell_here", "_law_letters", "_law_turns", "_law_at", "_law_word"] rfl rfl (by decide +kernel)) rfl rfl (qi_range1 rfl zrange (qa_cons qe_int qa_nil)) (fun cl C s H ex=>(qe_op op_add_str (qe_op op_add_str (qe_slice sl_str (qv 1) qo_none (qo_some (qv 3))) (qe_ix ix_str (qv 2) (qe_op op_mod (qe_op op_add (qe_ix (ix_listK (K:=K) rfl) (qv 4) qe_int (fun _ _=>rfl)) (qe_op op_mul qe_int (qv 0))) qe_int) (fun _ _=>rfl))) (qe_slice sl_str (qv 1) (qo_some (qe_op op_add (qv 3) qe_int)) qo_none))))))))))),?_⟩
  have l26:("abcdefghijklmnopqrstuvwxyz" : Str).length=26:=by decide +kernel
  have z100:∀ {n:Nat},n≤100->n≤sizeLine:=fun h=>Nat.le_trans h (by decide +kernel)
  refine⟨_,rfl,c,5,rfl,by decide,by decide,fun l xs H1 fl hl lx hx s1=>?_⟩
  have at_:∀ j:Nat,j<5->atI (xs.map V.int) (j:Int)=some (.int (xs.getD j 0)):=fun j hj=>at_ints (by (first|lia|omega)) (by (first|lia|omega))
  have n0:=getD_nn hx 0
  have n1:=getD_nn hx 1
  have n2:=getD_nn hx 2
  have n3:=getD_nn hx 3
  obtain⟨c1,hc1⟩:=at_sign (z:= "abcdefghijklmnopqrstuvwxyz") (i:=xs.getD 1 0 % 26) (by (first|lia|omega)) (by rw[l26];(first|lia|omega))
  refine⟨_,rfl,l,_,0,_,rfl,rfl,SqL.of hl,at_ 0 (by decide),_,_,rfl,rfl,(by show (0:Int)<2;decide),rfl,_,rfl,ite2 (fun z=>?_) (fun z=>?_)⟩
  ·refine⟨4,rfl,by decide,by decide,lc_range (n:=4) (fun i ys H2=>H2=H1/\∃ ss:List Str,ys=ss.map V.str/\ss.length=i) ⟨rfl,[],rfl,rfl⟩ (fun i ys H2 hi z=>?_) ?_ ?_⟩
   ·obtain⟨_,ss,rfl,e⟩:=z
    rw[List.length_map,e]
    exact Nat.lt_of_le_of_lt hi (by decide +kernel)
   ·rintro i ys H2 hi ⟨rfl,ss,rfl,e⟩
    refine⟨_,rfl,_,rfl,l,_,1,_,rfl,rfl,SqL.of hl,at_ 1 (by decide),_,_,rfl,rfl,(by show (0:Int)<26;decide),_,_,c1,rfl,rfl,z100 (by rw[l26];decide),hc1,?_⟩
    refine⟨_,rfl,_,_,rfl,rfl,_,_,rfl,rfl,(by show 1≤100;decide),by (first|lia|omega),by (first|lia|omega),z100 (Nat.le_trans (mul_len c1 (by (first|lia|omega)) (by (first|lia|omega))) (by decide)),rfl,ss ++ [_],by rw[List.map_append];rfl,by rw[List.length_append,e];rfl⟩
   ·rintro ys H2 ⟨rfl,ss,rfl,e⟩ D hD
    exact k D ss _ (s1.trans (sameUpd hD)) upd_same e
  ·refine⟨_,rfl,l,_,2,_,rfl,rfl,SqL.of hl,at_ 2 (by decide),_,_,rfl,rfl,(by show (0:Int)<5;decide),?_⟩
   refine⟨_,rfl,_,rfl,l,_,1,_,rfl,rfl,SqL.of hl,at_ 1 (by decide),_,_,rfl,rfl,(by show (0:Int)<26;decide),_,_,c1,rfl,rfl,z100 (by rw[l26];decide),hc1,?_⟩
   have lw:=mul_len c1 (n:=5) (by decide) (by decide)
   refine⟨_,_,rfl,rfl,(by show 1≤100;decide),by decide,by decide,z100 (Nat.le_trans lw (by decide)),?_⟩
   generalize mulS ⟨#[c1]⟩ 5=wd at lw
   refine⟨4,rfl,by decide,by decide,lc_range (n:=4) (fun i ys H2=>H2=H1/\∃ ss:List Str,ys=ss.map V.str/\ss.length=i) ⟨rfl,[],rfl,rfl⟩ (fun i ys H2 hi z=>?_) ?_ ?_⟩
   ·obtain⟨_,ss,rfl,e⟩:=z
    rw[List.length_map,e]
    exact Nat.lt_of_le_of_lt hi (by decide +kernel)
   ·rintro i ys H2 hi ⟨rfl,ss,rfl,e⟩
    have q:=Int.emod_nonneg (xs.getD 3 0+7 * ((0:Int)+i)) (show (26:Int)≠0 by decide)
    have q2:=Int.emod_lt_of_pos (xs.getD 3 0+7 * ((0:Int)+i)) (show (0:Int)<26 by decide)
    obtain⟨c2,hc2⟩:=at_sign (z:= "abcdefghijklmnopqrstuvwxyz") (i:=(xs.getD 3 0+7 * ((0:Int)+i)) % 26) q (by rw[l26];(first|lia|omega))
    have sl:∀ lo hi,(Txt.slice wd lo hi).length≤6:=fun lo hi=>Nat.le_trans (Txt.slice_le wd lo hi) lw
    refine⟨_,rfl,_,rfl,_,rfl,_,rfl,z100 (by (first|lia|omega)),?_⟩
    refine⟨_,rfl,_,rfl,l,_,3,_,rfl,rfl,SqL.of hl,at_ 3 (by decide),?_⟩
    refine⟨_,rfl,_,_,rfl,rfl, .inl ⟨by (first|lia|omega),by (first|lia|omega)⟩,_,_,rfl,rfl,_,_,rfl,rfl,(by show (0:Int)<26;decide),_,_,c2,rfl,rfl,z100 (by rw[l26];decide),hc2,?_⟩
    have s6:=sl none (some (xs.getD 2 0 % 5))
    have s7:=sl (some (xs.getD 2 0 % 5+1)) none
    refine⟨_,_,rfl,rfl,?_,?_⟩
    ·refine z100 ?_
     have:(⟨#[c2]⟩:Str).length=1:=rfl
     (first|lia|omega)
    refine⟨_,rfl,_,rfl,_,_,rfl,rfl,_,rfl,_,rfl,z100 (by (first|lia|omega)),_,_,rfl,rfl,?_,rfl,ss ++ [_],by rw[List.map_append];rfl,by rw[List.length_append,e];rfl⟩
    have ap:∀ a b:Str,(a ++ b).length=a.length+b.length:=fun a b=>Array.size_append
    have e1:(⟨#[c2]⟩:Str).length=1:=rfl
    refine z100 ?_
    rw[ap,e1]
    (first|lia|omega)
   ·rintro ys H2 ⟨rfl,ss,rfl,e⟩ D hD
    exact k D ss _ (s1.trans (sameUpd hD)) upd_same e
end
end K54
set_option maxRecDepth 100000
set_option linter.all false
set_option maxHeartbeats 800000
set_option Elab.async false
namespace K54
open PySem L2 L3 X8 M01 L6 L5 QL
open L8 L9 L10 L11 L13 L14 L16 L20 L21 L22 L42 L44 L66 M11 M13 M14 M20 M21
section
variable {P:Program} {w:World} {K:PySem.W.Frag} {mg:Str->Option Value} {base:Heap}
theorem seqL {H H':Hp} {a:Addr} {xs:List V} (e:Same H H') (h:SqL K H a xs):SqL K H' a xs:=by
 rcases h with (h | ⟨o,h⟩) | h
 ·exact .inl (.inl (e _ _ h))
 ·exact .inl (.inr ⟨o,e _ _ h⟩)
 ·exact .inr h
structure SomeOk (H:Hp) (l:Addr):Prop where
 ex:∃ rs:List Addr,0<rs.length/\rs.length≤5/\H l=some (.lst (rs.map V.ref))/\∀ r∈rs,∃ hs,H r=some (.tup (hs.map V.int))/\HsOk hs
theorem hsOk_range {st:Int} (h0:1≤st) (h1:st≤24):HsOk ((List.range 24).map Int.ofNat |>.filter fun h=>decide (h % st=0)):=by
 obtain⟨n,rfl⟩:∃ n:Nat,st=n:=⟨st.toNat,by (first|lia|omega)⟩
 have:∀ n:Fin 25,n.val≠0->let hs:=((List.range 24).map Int.ofNat |>.filter fun h=>decide (h % (n.val:Int)=0));0<hs.length/\hs.length≤24/\hs.Pairwise (· < ·)/\∀ h∈hs,0≤h/\h<24:=by decide +kernel
 obtain⟨a,b,c,d⟩:=this ⟨n,by (first|lia|omega)⟩ (by show n≠0;(first|lia|omega))
 exact⟨a,b,c,d⟩
def spCr (K:PySem.W.Frag):Sp:=fun vs H Q _=>∃ (c:Int) (pl:Addr) (ss:List Str) (mo:Int),vs=[.int c, .ref pl, .int mo]/\SqL K H pl (ss.map V.str)/\ss.length=4/\(1≤mo/\mo≤31)/\∀ (r:Addr) (cr:Crs) (H':Hp),Same H H'->rpC K H' (.ref r) cr->CrsOk cr->cr.1.pw≤mo->Q (.ref r) H'
def ItOk (t:Str × Int × Int):Prop:=(1≤t.2.1/\t.2.1≤1000)/\(1≤t.2.2/\t.2.2≤1000)
theorem low_ok {t b:Int} (h:1≤t/\t≤1000) (k:1≤b/\b≤1000):(1≤ft t b/\ft t b≤1000)/\(1≤fb t b/\fb t b≤1000):=by
 have g:=fq t (show 0<b by (first|lia|omega))
 have s1:=g.szt
 have s2:=g.szb
 have lp:=g.low.pos
 have ge:0<ft t b:=by
  have e:=g.eq
  by_cases z:0<ft t b
  ·exact z
  ·have n1:ft t b * b≤0:=Int.mul_nonpos_of_nonpos_of_nonneg (by (first|lia|omega)) (by (first|lia|omega))
   have n2:0<t * fb t b:=Int.mul_pos (by (first|lia|omega)) lp
   (first|lia|omega)
 (first|lia|omega)
theorem scCo:FnScope ["_law_cell_here", "_law_pool_here", "_law_most", "_law_turns", "_law_pairs", "_law_k", "_law_powders", "_law_taken", "_law_some", "_law_step", "_law_start"] ["_law_cell_here", "_law_pool_here", "_law_most"] (defScope s_law_course):=⟨rfl,rfl,rfl,by decide +kernel,rfl,by decide +kernel,by decide +kernel⟩
theorem d_course (T:Th K mg "_law_course" s_law_course) (dWheel:Def P w K mg base CX0 1 "_law_wheel" ["_law_cell_here", "_law_many"] spW) (dLow:Def P w K mg base CX0 1 "_law_lowest" ["_law_top", "_law_bottom"] spLow) (zrange:mg "range" = none) (zmin:mg "min" = none) (zlen:mg "len" = none) (ztuple:mg "tuple" = none):Def P w K mg base CX0 2 "_law_course" ["_law_cell_here", "_law_pool_here", "_law_most"] (spCr K):=by
 refine QL.def_of T (fun _ _ _ _ _ _ us hl=>M21.len3 us hl fun _ _ _=>rfl) scCo (fun vs H Q E h=>?_) (fun f cdv A outer s H vs Q E hr h=>?_)
 ·obtain⟨c,pl,ss,mo,rfl,_⟩:=h
  rfl
 ·obtain⟨c,pl,ss,mo,rfl,hpl,l4,⟨mo1,mo2⟩,k⟩:=h
  refine⟨_,(qss_cons (qs_set (i:=3) scCo.nd rfl (Or.inl rfl) (qe_callD dWheel (hr.mono (by decide)) rfl pass0 (qa_cons (qv 0) (qa_cons qe_int qa_nil))))
   (qss_cons (qs_set (i:=4) scCo.nd rfl (Or.inl rfl) (qe_lst qa_nil))
   (qss_cons (qs_for PassesOwn.never rfl (qi_range1 rfl zrange (qa_cons qe_int qa_nil)) (qg_name (i:=5) scCo.nd rfl (Or.inl rfl))
    (qss_one (qs_if (QW.pt (qw_or (qt_cmpR op_eq (qe_op op_mod (qe_ix ix_list (qv 3) (qv 5) (fun _ _=>rfl)) qe_int) qe_int (nomark _)) (qw_or1 (qt_cmpR op_eq (qv 5) (qe_op op_mod (qe_ix ix_list (qv 3) qe_int (fun _ _=>rfl)) qe_int) (nomark _))))) (qss_one (qs_expr (qe_bm PySem.F.plainAttrs_list PySem.F.slot_list_append PySem.F.type_list_append mt_append (qv 4) (qa_cons (qe_tup (qa_cons (qe_ix ix_list (qv 1) (qv 5) (fun _ _=>rfl)) (qa_cons (qe_callD dLow (hr.mono (by decide)) rfl pass0 (qa_cons (qe_op op_add qe_int (qe_op op_mod (qe_ix ix_list (qv 3) (qe_op op_add qe_int (qv 5)) (fun _ _=>rfl)) qe_int)) (qa_cons (qe_op op_add qe_int (qe_op op_mod (qe_ix ix_list (qv 3) (qe_op op_add qe_int (qv 5)) (fun _ _=>rfl)) qe_int)) qa_nil))) qa_nil))) qa_nil)))) qss_nil)))
   (qss_cons (qs_set (i:=6) scCo.nd rfl (Or.inl rfl) (qe_op op_add qe_int (qe_op op_mod (qe_ix ix_list (qv 3) qe_int (fun _ _=>rfl)) (qv 2))))
   (qss_cons (qs_set (i:=7) scCo.nd rfl (Or.inl rfl) (qe_op op_add qe_int (qe_op op_mod (qe_ix ix_list (qv 3) qe_int (fun _ _=>rfl)) (qe_callB (call_min2 rfl) (by rfl) zmin PyProof.Rows.boot_min (qa_cons (qv 6) (qa_cons qe_int qa_nil))))))
   (qss_cons (qs_set (i:=8) scCo.nd rfl (Or.inl rfl) (qe_lst (qa_cons (qe_tup (qa_cons qe_int qa_nil)) (qa_cons (qe_tup (qa_cons qe_int qa_nil)) (qa_cons (qe_tup (qa_cons qe_int (qa_cons qe_int qa_nil))) (qa_cons (qe_tup (qa_cs (.int (.int (.int .nil))))) (qa_cons (qe_tup (qa_cs (.int (.int (.int (.int .nil)))))) qa_nil)))))))
   (qss_cons (qs_join (qs_if (qt_cmpR op_eq (qe_op op_mod (qe_ix ix_list (qv 3) qe_int (fun _ _=>rfl)) qe_int) qe_int (nomark _)) (qss_cons (qs_set (i:=9) scCo.nd rfl (Or.inr rfl) (qe_op op_add qe_int (qe_op op_mod (qe_op op_fdiv (qe_ix ix_list (qv 3) qe_int (fun _ _=>rfl)) qe_int) qe_int)))
   (qss_one (qs_set (i:=8) scCo.nd rfl (Or.inl rfl) (qe_lst (qa_cons (qe_callTy call_tuple_of (by rfl) ztuple PyProof.Rows.boot_tuple (qa_cons (qe_lcX (lc_mk2 (xs:=["_law_hour"]) (fvs:=["_law_step"]) (fidx:=[9]) (defScope s_law_course) ["_law_cell_here", "_law_pool_here", "_law_most", "_law_turns", "_law_pairs", "_law_k", "_law_powders", "_law_taken", "_law_some", "_law_step", "_law_start"] rfl rfl (by decide +kernel)) rfl rfl (qi_range1 rfl zrange (qa_cons qe_int qa_nil)) (fun cl C s H ex=>(qg_one (lc_mk2 (xs:=["_law_hour"]) (fvs:=["_law_step"]) (fidx:=[9]) (defScope s_law_course) ["_law_cell_here", "_law_pool_here", "_law_most", "_law_turns", "_law_pairs", "_law_k", "_law_powders", "_law_taken", "_law_some", "_law_step", "_law_start"] rfl rfl (by decide +kernel)))) (fun cl C s H ex=>(qf_one (qt_cmpR op_eq (qe_op op_mod (qv 0) (qv 1)) qe_int (nomark _)))) (fun cl C s H ex=>(qv 0)) (fun _=>keep_one)) qa_nil)) qa_nil))))) qss_nil))
   (qss_cons (qs_set (i:=10) scCo.nd rfl (Or.inl rfl) (qe_op op_mod (qe_ix ix_list (qv 3) qe_int (fun _ _=>rfl)) qe_int))
   (qss_cons (qs_join (qs_if (qt_cmpR op_eq (qe_op op_mod (qe_op op_fdiv (qe_ix ix_list (qv 3) qe_int (fun _ _=>rfl)) qe_int) qe_int) qe_int (nomark _)) (qss_one (qs_set (i:=10) scCo.nd rfl (Or.inl rfl) (qe_op op_add (qv 10) (qe_op op_mul qe_int (qe_ix ix_list (qv 3) qe_int (fun _ _=>rfl)))))) qss_nil))
   (qss_one (qs_ret (qe_tup (qa_cons (qe_tup (qa_cons (qe_callTy call_tuple_of (by rfl) ztuple PyProof.Rows.boot_tuple (qa_cons (qv 4) qa_nil)) (qa_cons (qv 6) (qa_cons (qv 7) (qa_cons (qe_ix ix_list (qv 8) (qe_op op_mod (qe_op op_fdiv (qe_ix ix_list (qv 3) qe_int (fun _ _=>rfl)) qe_int) (qe_callB call_len_seq (by rfl) zlen PySem.boot_len (qa_cons (qv 8) qa_nil))) (fun _ _=>rfl)) qa_nil))))) (qa_cons (qv 10) qa_nil)))))))))))))),?_⟩
  refine⟨_,rfl,c,18,rfl,by decide,by decide,fun l xs H1 fl hl lx hx s1=>?_⟩
  have at_:∀ j:Nat,j<18->atI (xs.map V.int) (j:Int)=some (.int (xs.getD j 0)):=fun j hj=>at_ints (by (first|lia|omega)) (by (first|lia|omega))
  have atz:∀ z:Int,0≤z->z<18->atI (xs.map V.int) z=some (.int (xs.getD z.toNat 0)):=fun z h0 h1=>at_ints h0 (by (first|lia|omega))
  have nn:=getD_nn hx
  refine⟨(by show 0≤sizeLine;decide),fun pp hpp=>?_⟩
  have s2:=sameUpd (o:= .lst []) hpp
  refine⟨4,rfl,by decide,by decide,for_range (n:=4) (fun i σ H2=>∃ (ys:List V) (v5:Option V) (its:List (Str × Int × Int)),σ=[some (.int c),some (.ref pl),some (.int mo),some (.ref l),some (.ref pp),v5,none,none,none,none,none]/\H2 pp=some (.lst ys)/\ys.length≤i/\Same H1 H2/\Fa (rpItem K H2) ys its/\∀ t∈its,ItOk t) ⟨[],none,[],rfl,upd_same,Nat.le_refl _,s2, .nil,fun t ht=>by cases ht⟩ ?_ ?_⟩
  ·rintro i σ H2 hi ⟨ys,v5,its,rfl,hp2,ly,s3,fi,oki⟩
   refine if_tot (fun Q' k=>?_) (fun H3 s4=>?_) (fun H3 s4=>?_)
   ·have hl2:=s3 _ _ hl
    refine⟨_,rfl,_,rfl,l,_,_,_,rfl,rfl,SqL.of hl2,atz ((0:Int)+i) (by (first|lia|omega)) (by (first|lia|omega)),_,_,rfl,rfl,(by show (0:Int)<3;decide),rfl,_,rfl,ite2 (fun _=>k _ _ (Same.refl _)) (fun _=>?_)⟩
    exact⟨_,rfl,_,rfl,l,_,4,_,rfl,rfl,SqL.of hl2,at_ 4 (by decide),_,_,rfl,rfl,(by show (0:Int)<4;decide),rfl,_,rfl,k _ _ (Same.refl _)⟩
   ·have s5:=s3.trans s4
    have hl2:=s5 _ _ hl
    have hp3:=s4 _ _ hp2
    have n5:=nn (5+((0:Int)+i)).toNat
    have n9:=nn (9+((0:Int)+i)).toNat
    obtain⟨y,ey⟩:∃ y,ss[i]?=some y:=⟨_,List.getElem?_eq_getElem (by (first|lia|omega))⟩
    have ep:atI (ss.map V.str) ((0:Int)+i)=some (.str y):=by
     have e2:=atI_nat (show (ss.map V.str)[i]?=some (.str y) by rw[List.getElem?_map,ey];rfl)
     rw[show ((i:Nat):Int)=(0:Int)+i from by (first|lia|omega)] at e2
     exact e2
    refine⟨_,rfl, .inl ⟨rfl,_,SqL.of hp3⟩,_,rfl,_,rfl,pl,_,_,_,rfl,rfl,seqL (s1.trans s5) hpl,ep,?_⟩
    refine⟨_,rfl,_,rfl,_,_,rfl,rfl,l,_,_,_,rfl,rfl,SqL.of hl2,atz (5+((0:Int)+i)) (by (first|lia|omega)) (by (first|lia|omega)),_,_,rfl,rfl,(by show (0:Int)<40;decide),_,_,rfl,rfl,?_⟩
    refine⟨_,rfl,_,rfl,_,_,rfl,rfl,l,_,_,_,rfl,rfl,SqL.of hl2,atz (9+((0:Int)+i)) (by (first|lia|omega)) (by (first|lia|omega)),_,_,rfl,rfl,(by show (0:Int)<3;decide),_,_,rfl,rfl,?_⟩
    refine⟨_,_,rfl,by (first|lia|omega),Big.of (by (first|lia|omega)) (by (first|lia|omega)),fun r hr=>?_⟩
    have s6:=sameUpd (o:= .tup [.int (ft (1+xs.getD (5+((0:Int)+i)).toNat 0 % 40) (1+xs.getD (9+((0:Int)+i)).toNat 0 % 3)), .int (fb (1+xs.getD (5+((0:Int)+i)).toNat 0 % 40) (1+xs.getD (9+((0:Int)+i)).toNat 0 % 3))]) hr
    refine⟨(by show 2≤sizeLine;decide),fun q hq=>?_⟩
    have s7:=sameUpd (o:= .tup [.str y, .ref r]) hq
    refine⟨pp,_,_,rfl,rfl,s7 _ _ (s6 _ _ hp3),?_,?_⟩
    ·rw[sizeLine_eq];(first|lia|omega)
    ·have bi:∀ {Hx:Hp} {v:V} {t:Str × Int × Int},Hx pp=some (.lst ys)->rpItem K Hx v t->rpItem K (upd Hx pp (.lst (ys ++ [.ref q]))) v t:=fun e ⟨p,am,e',a,b⟩=>⟨p,am,e',M19.seqB M19.But.upd (.inr ⟨_,e⟩) a,M19.seqB M19.But.upd (.inr ⟨_,e⟩) b⟩
     have hp8:=s7 _ _ (s6 _ _ hp3)
     refine⟨ys ++ [.ref q],_,its ++ [(y,ft (1+xs.getD (5+((0:Int)+i)).toNat 0 % 40) (1+xs.getD (9+((0:Int)+i)).toNat 0 % 3),fb (1+xs.getD (5+((0:Int)+i)).toNat 0 % 40) (1+xs.getD (9+((0:Int)+i)).toNat 0 % 3))],rfl,upd_same,by rw[List.length_append];show _+1≤_;(first|lia|omega),fun b o e=>?_,fa_snoc (bi hp8 ⟨q,r,rfl,SqT.of upd_same,SqT.of (s7 _ _ upd_same)⟩) (fi.mono fun v t ⟨p,am,e,a,b⟩=>bi hp8 ⟨p,am,e,seqT s7 (seqT s6 (seqT s4 a)),seqT s7 (seqT s6 (seqT s4 b))⟩),fun t ht=>?_⟩
     ·have hne:b≠pp:=fun z=>by rw[z,hpp] at e;cases e
      rw[upd_ne hne]
      exact s7 _ _ (s6 _ _ (s5 _ _ e))
     ·rcases List.mem_append.mp ht with z | z
      ·exact oki t z
      ·rw[List.mem_singleton.mp z]
       exact low_ok (by (first|lia|omega)) (by (first|lia|omega))
   ·exact⟨ys,_,its,rfl,s4 _ _ hp2,by (first|lia|omega),s3.trans s4,fi.mono fun v t ⟨p,am,e,a,b⟩=>⟨p,am,e,seqT s4 a,seqT s4 b⟩,oki⟩
  ·rintro σ H2 ⟨ys,v5,its,rfl,hp2,ly,s3,fi,oki⟩
   have hl2:=s3 _ _ hl
   have n13:=nn 13
   have n15:=nn 15
   have n16:=nn 16
   have n17:=nn 17
   have n14:=nn 14
   refine⟨_,rfl,l,_,13,_,rfl,rfl,SqL.of hl2,at_ 13 (by decide),_,rfl,_,_,rfl,rfl,(by show 0<mo;(first|lia|omega)),_,_,rfl,rfl,?_⟩
   have w1:=Int.emod_nonneg (xs.getD 13 0) (show mo≠0 by (first|lia|omega))
   have w2:=Int.emod_lt_of_pos (xs.getD 13 0) (show 0<mo by (first|lia|omega))
   have mn:1≤(if (3:Int)<1+xs.getD 13 0 % mo then 3 else 1+xs.getD 13 0 % mo)/\(if (3:Int)<1+xs.getD 13 0 % mo then 3 else 1+xs.getD 13 0 % mo)≤3:=by split <;> (first|lia|omega)
   refine⟨_,rfl,l,_,15,_,rfl,rfl,SqL.of hl2,at_ 15 (by decide),_,rfl,_,_,rfl,_,_,rfl,rfl,(by (first|lia|omega)),_,_,rfl,rfl,?_⟩
   have zz:∀ {n:Nat},n≤100->n≤sizeLine:=fun h=>Nat.le_trans h (by decide +kernel)
   refine⟨zz (by decide),fun t1 h1=>⟨zz (by decide),fun t2 h2=>⟨zz (by decide),fun t3 h3=>⟨zz (by decide),fun t4 h4=>⟨zz (by decide),fun t5 h5=>⟨zz (by show 5≤100;decide),fun ls hls=>?_⟩⟩⟩⟩⟩⟩
   have q1:=sameUpd (o:= .tup (([8]:List Int).map V.int)) h1
   have q2:=sameUpd (o:= .tup (([22]:List Int).map V.int)) h2
   have q3:=sameUpd (o:= .tup (([8,20]:List Int).map V.int)) h3
   have q4:=sameUpd (o:= .tup (([8,14,20]:List Int).map V.int)) h4
   have q5:=sameUpd (o:= .tup (([8,12,16,20]:List Int).map V.int)) h5
   have q6:=sameUpd (o:= .lst (([t1,t2,t3,t4,t5]:List Addr).map V.ref)) hls
   have so:SomeOk (upd (upd (upd (upd (upd (upd H2 t1 (.tup (([8]:List Int).map V.int))) t2 (.tup (([22]:List Int).map V.int))) t3 (.tup (([8,20]:List Int).map V.int))) t4 (.tup (([8,14,20]:List Int).map V.int))) t5 (.tup (([8,12,16,20]:List Int).map V.int))) ls (.lst (([t1,t2,t3,t4,t5]:List Addr).map V.ref))) ls:=by
    refine⟨[t1,t2,t3,t4,t5],by show 0<5;decide,by show 5≤5;decide,upd_same,fun r hr=>?_⟩
    have ok1:HsOk [8]:=⟨by decide,by decide,by decide,by decide⟩
    have ok2:HsOk [22]:=⟨by decide,by decide,by decide,by decide⟩
    have ok3:HsOk [8,20]:=⟨by decide,by decide,by decide,by decide⟩
    have ok4:HsOk [8,14,20]:=⟨by decide,by decide,by decide,by decide⟩
    have ok5:HsOk [8,12,16,20]:=⟨by decide,by decide,by decide,by decide⟩
    simp only[List.mem_cons,List.not_mem_nil,or_false] at hr
    rcases hr with rfl | rfl | rfl | rfl | rfl
    ·exact⟨_,q6 _ _ (q5 _ _ (q4 _ _ (q3 _ _ (q2 _ _ upd_same)))),ok1⟩
    ·exact⟨_,q6 _ _ (q5 _ _ (q4 _ _ (q3 _ _ upd_same))),ok2⟩
    ·exact⟨_,q6 _ _ (q5 _ _ (q4 _ _ upd_same)),ok3⟩
    ·exact⟨_,q6 _ _ (q5 _ _ upd_same),ok4⟩
    ·exact⟨_,q6 _ _ upd_same,ok5⟩
   have s8:=((((q1.trans q2).trans q3).trans q4).trans q5).trans q6
   obtain⟨H3,e3⟩:∃ H3,H3=upd (upd (upd (upd (upd (upd H2 t1 (.tup (([8]:List Int).map V.int))) t2 (.tup (([22]:List Int).map V.int))) t3 (.tup (([8,20]:List Int).map V.int))) t4 (.tup (([8,14,20]:List Int).map V.int))) t5 (.tup (([8,12,16,20]:List Int).map V.int))) ls (.lst (([t1,t2,t3,t4,t5]:List Addr).map V.ref)):=⟨_,rfl⟩
   have so':SomeOk H3 ls:=by rw[e3];exact so
   have s8':Same H2 H3:=by rw[e3];exact s8
   have hp3:=s8' _ _ hp2
   have hl3:=s8' _ _ hl2
   refine⟨fun σ' H'=>∃ (ls':Addr) (v9:Option V),σ'=[some (.int c),some (.ref pl),some (.int mo),some (.ref l),some (.ref pp),v5,some (.int (1+xs.getD 13 0 % mo)),some (.int (1+xs.getD 15 0 % (if (3:Int)<1+xs.getD 13 0 % mo then 3 else 1+xs.getD 13 0 % mo))),some (.ref ls'),v9,none]/\SomeOk H' ls'/\Same H3 H',?_,?_⟩
   ·subst e3
    refine⟨_,rfl,l,_,16,_,rfl,rfl,SqL.of hl3,at_ 16 (by decide),_,_,rfl,rfl,(by show (0:Int)<2;decide),rfl,_,rfl,ite2 (fun _=>?_) (fun _=>?_)⟩
    ·refine⟨_,rfl,l,_,16,_,rfl,rfl,SqL.of hl3,at_ 16 (by decide),_,_,rfl,rfl,⟨by decide,by decide⟩,_,_,rfl,rfl,(by show (0:Int)<24;decide),_,_,rfl,rfl,?_⟩
     have b1:=Int.emod_nonneg (xs.getD 16 0 / 2) (show (24:Int)≠0 by decide)
     have b2:=Int.emod_lt_of_pos (xs.getD 16 0 / 2) (show (0:Int)<24 by decide)
     have okr:=hsOk_range (st:=1+xs.getD 16 0 / 2 % 24) (by (first|lia|omega)) (by (first|lia|omega))
     have sp0:0<1+xs.getD 16 0 / 2 % 24:=by (first|lia|omega)
     refine⟨24,rfl,by decide,by decide,ones_range (n:=24) (fun i ys H4=>Same H2 H4/\ys=(((List.range i).map Int.ofNat).filter (fun h=>decide (h % (1+xs.getD 16 0 / 2 % 24)=0))).map V.int/\∀ b o,(upd (upd (upd (upd (upd (upd H2 t1 (.tup (([8]:List Int).map V.int))) t2 (.tup (([22]:List Int).map V.int))) t3 (.tup (([8,20]:List Int).map V.int))) t4 (.tup (([8,14,20]:List Int).map V.int))) t5 (.tup (([8,12,16,20]:List Int).map V.int))) ls (.lst (([t1,t2,t3,t4,t5]:List Addr).map V.ref))) b=some o->H4 b=some o) ⟨s8',rfl,fun _ _ e=>e⟩ ?_ ?_ ?_⟩
     ·rintro i ys H4 hi ⟨_,rfl,_⟩
      rw[List.length_map]
      have:=List.length_filter_le (fun h=>decide (h % (1+xs.getD 16 0 / 2 % 24)=0)) ((List.range i).map Int.ofNat)
      rw[List.length_map,List.length_range] at this
      rw[sizeLine_eq]
      (first|lia|omega)
     ·rintro i ys H4 hi ⟨g1,rfl,g2⟩
      have e0:(0:Int)+(i:Int)=Int.ofNat i:=by show _=(i:Int);(first|lia|omega)
      refine⟨_,rfl,_,rfl,_,_,rfl,rfl,sp0,rfl,_,rfl,ite2 (fun c2=>?_) (fun c2=>?_)⟩
      ·have c3:decide (V.int (((0:Int)+i) % (1+xs.getD 16 0 / 2 % 24))=V.int 0)=true:=c2
       have c4:((0:Int)+i) % (1+xs.getD 16 0 / 2 % 24)=0:=by injection of_decide_eq_true c3
       refine⟨_,rfl,g1,?_,g2⟩
       rw[e0] at c4 ⊢
       rw[List.range_succ,List.map_append,List.filter_append,List.map_append,List.map_singleton,List.filter_cons_of_pos (by exact decide_eq_true c4)]
       rfl
      ·have c3:¬ decide (V.int (((0:Int)+i) % (1+xs.getD 16 0 / 2 % 24))=V.int 0)=true:=c2
       have c4:¬ ((0:Int)+i) % (1+xs.getD 16 0 / 2 % 24)=0:=fun z=>c3 (decide_eq_true (by rw[z]))
       refine⟨g1,?_,g2⟩
       rw[e0] at c4
       rw[List.range_succ,List.map_append,List.filter_append,List.map_append,List.map_singleton,List.filter_cons_of_neg (by rw[decide_eq_true_eq];exact c4)]
       simp
     ·rintro ys H4 ⟨g1,rfl,g2⟩ D hD
      refine⟨D,_,rfl, .inl ⟨SqL.of upd_same,fun t ht=>⟨zz (by show 1≤100;decide),fun l2 hl2'=>?_⟩⟩⟩
      have r1:=sameUpd (o:= .lst ((((List.range 24).map Int.ofNat).filter (fun h=>decide (h % (1+xs.getD 16 0 / 2 % 24)=0))).map V.int)) hD
      have r2:=sameUpd (o:= .tup ((((List.range 24).map Int.ofNat).filter (fun h=>decide (h % (1+xs.getD 16 0 / 2 % 24)=0))).map V.int)) ht
      have r3:=sameUpd (o:= .lst [.ref t]) hl2'
      refine⟨l2,_,rfl,⟨[t],by show 0<1;decide,by show 1≤5;decide,upd_same,fun r hr=>?_⟩,fun b o e=>r3 _ _ (r2 _ _ (r1 _ _ (g2 b o e)))⟩
      rw[List.mem_singleton.mp hr]
      exact⟨_,r3 _ _ upd_same,okr⟩
    ·exact⟨ls,_,rfl,so',Same.refl _⟩
   ·rintro σ' H4 ⟨ls',v9,rfl,⟨rs,r0,r5,hls4,hrs⟩,s9⟩
    have hl4:=s9 _ _ hl3
    have hp4:=s9 _ _ hp3
    have pmo:1+xs.getD 13 0 % mo≤mo:=by (first|lia|omega)
    generalize hpw:1+xs.getD 13 0 % mo=pw at mn pmo
    generalize htk:(1+xs.getD 15 0 % (if (3:Int)<pw then 3 else pw))=tk
    have tk1:1≤tk/\tk≤3:=by
     have d1:=Int.emod_nonneg (xs.getD 15 0) (show (if (3:Int)<pw then 3 else pw)≠0 by (first|lia|omega))
     have d2:=Int.emod_lt_of_pos (xs.getD 15 0) (show (0:Int)<(if (3:Int)<pw then 3 else pw) by (first|lia|omega))
     (first|lia|omega)
    refine⟨_,rfl,l,_,17,_,rfl,rfl,SqL.of hl4,at_ 17 (by decide),_,_,rfl,rfl,(by show (0:Int)<61;decide),?_⟩
    refine⟨fun σ' H'=>∃ (st:Int),σ'=[some (.int c),some (.ref pl),some (.int mo),some (.ref l),some (.ref pp),v5,some (.int pw),some (.int tk),some (.ref ls'),v9,some (.int st)]/\(0≤st/\st<10 ^ 12)/\H'=H4,?_,?_⟩
    ·refine⟨_,rfl,l,_,17,_,rfl,rfl,SqL.of hl4,at_ 17 (by decide),_,_,rfl,rfl,⟨by decide,by decide⟩,_,_,rfl,rfl,(by show (0:Int)<8;decide),rfl,_,rfl,ite2 (fun _=>?_) (fun _=>?_)⟩
     ·refine⟨_,rfl,_,rfl,l,_,14,_,rfl,rfl,SqL.of hl4,at_ 14 (by decide),_,_,rfl,rfl, .inl ⟨by (first|lia|omega),by (first|lia|omega)⟩,_,_,rfl,rfl,_,rfl,⟨by (first|lia|omega),by (first|lia|omega)⟩,rfl⟩
     ·exact⟨_,rfl,⟨by (first|lia|omega),by (first|lia|omega)⟩,rfl⟩
    ·rintro σ' H5 ⟨st,rfl,st0,rfl⟩
     refine⟨_,rfl,pp,_,rfl, .inl ⟨SqL.of hp4,fun tp htp=>?_⟩⟩
     have v1:=sameUpd (o:= .tup ys) htp
     have hl6:=v1 _ _ hl4
     have hls6:=v1 _ _ hls4
     refine⟨_,rfl,_,rfl,_,rfl,_,rfl,l,_,16,_,rfl,rfl,SqL.of hl6,at_ 16 (by decide),_,_,rfl,rfl,⟨by decide,by decide⟩,?_⟩
     have rl:(((rs.map V.ref).length:Nat):Int)=rs.length:=by rw[List.length_map]
     have m1:=Int.emod_nonneg (xs.getD 16 0 / 48) (show (((rs.map V.ref).length:Nat):Int)≠0 by rw[rl];(first|lia|omega))
     have m2:=Int.emod_lt_of_pos (xs.getD 16 0 / 48) (show (0:Int)<(((rs.map V.ref).length:Nat):Int) by rw[rl];(first|lia|omega))
     obtain⟨j,hj⟩:∃ j:Nat,xs.getD 16 0 / 48 % (((rs.map V.ref).length:Nat):Int)=j:=⟨(xs.getD 16 0 / 48 % (((rs.map V.ref).length:Nat):Int)).toNat,by (first|lia|omega)⟩
     have jl:j<rs.length:=by rw[hj,rl] at m2;(first|lia|omega)
     have ej:=atI_nat (show (rs.map V.ref)[j]?=some (.ref rs[j]) by rw[List.getElem?_map,List.getElem?_eq_getElem jl];rfl)
     rw[<- hj] at ej
     obtain⟨hs,eh,okh⟩:=hrs rs[j] (List.getElem_mem jl)
     refine⟨_,rfl,ls',_,rfl, .inl (SqL.of hls6),_,_,rfl,rfl,(by rw[rl];(first|lia|omega)),ls',_,_,_,rfl,rfl,SqL.of hls6,ej,?_⟩
     refine⟨zz (by show 4≤100;decide),fun rc hrc=>?_⟩
     have v2:=sameUpd (o:= .tup [.ref tp, .int pw, .int tk, .ref rs[j]]) hrc
     refine⟨_,rfl,zz (by show 2≤100;decide),fun r hr=>?_⟩
     have v3:=sameUpd (o:= .tup [.ref rc, .int st]) hr
     have sA:=(((s8'.trans s9).trans v1).trans v2).trans v3
     refine k r (⟨its,pw,tk,hs⟩,st) _ ((s1.trans s3).trans sA) ⟨r,rc,rfl,SqT.of upd_same,tp,ys,rs[j],SqT.of (v3 _ _ upd_same),SqT.of (v3 _ _ (v2 _ _ upd_same)),fi.mono fun v t ⟨p,am,e,a,b⟩=>⟨p,am,e,seqT sA a,seqT sA b⟩,SqT.of (v3 _ _ (v2 _ _ (v1 _ _ eh)))⟩ ⟨⟨okh,⟨by show 1≤pw;(first|lia|omega),by show pw≤399;(first|lia|omega)⟩,⟨by show 1≤tk;(first|lia|omega),by show tk≤399;(first|lia|omega)⟩,oki⟩,st0.1,st0.2⟩ pmo
end
end K54
set_option maxRecDepth 100000
set_option linter.all false
set_option maxHeartbeats 800000
set_option Elab.async false
namespace K54
open PySem L2 L3 X8 M01 L6 L5 QL
open L8 L9 L10 L11 L13 L14 L16 L20 L21 L22 L42 L44 L66 L69 M11 M13 M14 M20 M21
section
variable {P:Program} {w:World} {K:PySem.W.Frag} {mg:Str->Option Value} {base:Heap}
theorem scHo:FnScope ["_law_recipe", "_law_start", "_law_some", "_law_at", "_law_found", "_law_k"] ["_law_recipe", "_law_start"] (defScope s_law_hours):=⟨rfl,rfl,rfl,by decide +kernel,rfl,by decide +kernel,by decide +kernel⟩
theorem d_hours (T:Th K mg "_law_hours" s_law_hours) (zrange:mg "range" = none) (zlen:mg "len" = none):Def P w K mg base CX0 1 "_law_hours" ["_law_recipe", "_law_start"] (spTk K):=by
 refine QL.def_of T (fun _ _ _ _ _ _ us hl=>M21.len2 us hl fun _ _=>rfl) scHo (fun vs H Q E h=>?_) (fun f cdv A outer s H vs Q E hr h=>?_)
 ·obtain⟨rc,st,pw,tk,hs,rfl,_⟩:=h
  rfl
 ·obtain⟨rc,st,pw,tk,hs,rfl,⟨x,ht,hrc,hht⟩,ok,⟨p1,p2⟩,⟨t1,t2⟩,⟨s0,s1⟩,k⟩:=h
  refine⟨_,(qss_cons (qs_set (i:=2) scHo.nd rfl (Or.inl rfl) (qe_ix ix_tup (qv 0) qe_int (fun _ _=>rfl)))
   (qss_cons (qs_set (i:=3) scHo.nd rfl (Or.inl rfl) (qe_callB call_len_seq (by rfl) zlen PySem.boot_len (qa_cons (qe_lcX (lc_mk2 (xs:=["_law_hour"]) (fvs:=["_law_start"]) (fidx:=[1]) (defScope s_law_hours) ["_law_recipe", "_law_start", "_law_some", "_law_at", "_law_found", "_law_k"] rfl rfl (by decide +kernel)) rfl rfl (qi_tup (qv 2)) (fun cl C s H ex=>(qg_one (lc_mk2 (xs:=["_law_hour"]) (fvs:=["_law_start"]) (fidx:=[1]) (defScope s_law_hours) ["_law_recipe", "_law_start", "_law_some", "_law_at", "_law_found", "_law_k"] rfl rfl (by decide +kernel)))) (fun cl C s H ex=>(qf_one (qt_cmpR op_lt (qv 0) (qe_op op_mod (qv 1) qe_int) (nomark _)))) (fun cl C s H ex=>(qv 0)) (fun _=>keep_one)) qa_nil)))
   (qss_cons (qs_set (i:=4) scHo.nd rfl (Or.inl rfl) (qe_lst qa_nil))
   (qss_cons (qs_for PassesOwn.never rfl (qi_range2 rfl zrange (qa_cons (qv 3) (qa_cons (qe_op op_add (qv 3) (qe_op op_fdiv (qe_ix ix_tup (qv 0) qe_int (fun _ _=>rfl)) (qe_ix ix_tup (qv 0) qe_int (fun _ _=>rfl)))) qa_nil))) (qg_name (i:=5) scHo.nd rfl (Or.inl rfl))
    (qss_one (qs_expr (qe_bm PySem.F.plainAttrs_list PySem.F.slot_list_append PySem.F.type_list_append mt_append (qv 4) (qa_cons (qe_op op_add (qe_op op_mul qe_int (qe_op op_add (qe_op op_fdiv (qv 1) qe_int) (qe_op op_fdiv (qv 5) (qe_callB call_len_seq (by rfl) zlen PySem.boot_len (qa_cons (qv 2) qa_nil))))) (qe_ix ix_tup (qv 2) (qe_op op_mod (qv 5) (qe_callB call_len_seq (by rfl) zlen PySem.boot_len (qa_cons (qv 2) qa_nil))) (fun _ _=>rfl))) qa_nil)))))
   (qss_one (qs_ret (qv 4))))))),?_⟩
  have t0:(0:Int)<tk:=by (first|lia|omega)
  have p0:=Int.ediv_nonneg (show 0≤pw by (first|lia|omega)) (Int.le_of_lt t0)
  have p3:pw / tk≤399:=by have:=Int.ediv_le_self tk (show 0≤pw by (first|lia|omega));(first|lia|omega)
  have hn:=ok.ne
  have hle:=ok.le
  have la:=atH_le hs st
  refine⟨_,rfl,rc,_,_,_,rfl,rfl,hrc,rfl,?_⟩
  refine⟨_,rfl,ht,rfl,⟨_,hht⟩,ones_tup (K:=K) (a:=ht) (hs.map V.int) (fun i ys H3=>H3=H/\ys=((hs.take i).filter fun h=>decide (h<st % 24)).map V.int) ⟨rfl,rfl⟩ ?_ ?_ ?_⟩
  ·rintro i ys H3 hi ⟨rfl,rfl⟩
   refine⟨?_,hht⟩
   rw[List.length_map]
   have:=List.length_filter_le (fun h=>decide (h<st % 24)) (hs.take i)
   rw[List.length_take] at this
   rw[sizeLine_eq]
   (first|lia|omega)
  ·rintro i y ys H3 hx ⟨rfl,rfl⟩
   rw[List.getElem?_map] at hx
   obtain⟨h,eh,rfl⟩:=Option.map_eq_some_iff.mp hx
   have tk1:hs.take (i+1)=hs.take i ++ [h]:=by rw[List.take_add_one,eh];rfl
   refine⟨_,rfl,_,rfl,_,_,rfl,rfl,(by show (0:Int)<24;decide),_,_,rfl,rfl,_,rfl,ite2 (fun c2=>?_) (fun c2=>?_)⟩
   ·refine⟨_,rfl,rfl,?_⟩
    rw[tk1,List.filter_append,List.map_append,List.filter_cons_of_pos (p:=fun h=>decide (h<st % 24)) c2]
    rfl
   ·refine⟨rfl,?_⟩
    rw[tk1,List.filter_append,List.map_append,List.filter_cons_of_neg (p:=fun h=>decide (h<st % 24)) c2]
    simp
  ·rintro ys H3 ⟨rfl,rfl⟩ D hD
   rw[List.length_map,List.take_length]
   have sD:=sameUpd (o:= .lst ((hs.filter fun h=>decide (h<st % 24)).map V.int)) hD
   have eA:((((hs.filter fun h=>decide (h<st % 24)).map V.int).length:Nat):Int)=(AtH hs st:Int):=by rw[List.length_map];rfl
   refine⟨D,_,rfl, .inl (SqL.of upd_same),?_⟩
   rw[eA]
   refine⟨(by show 0≤sizeLine;decide),fun l hl=>?_⟩
   have sL:=sameUpd (o:= .lst []) hl
   have sm:=sD.trans sL
   refine⟨_,rfl,_,rfl,_,rfl,rc,_,_,_,rfl,rfl,seqT sm hrc,rfl,_,rfl,rc,_,_,_,rfl,rfl,seqT sm hrc,rfl,_,_,rfl,rfl,⟨t0,by (first|lia|omega)⟩,_,_,rfl,rfl,?_⟩
   have en:((AtH hs st:Int)+pw / tk - (AtH hs st:Int)).toNat=(pw / tk).toNat:=by (first|lia|omega)
   refine⟨_,_,rfl,⟨by (first|lia|omega),by (first|lia|omega),by (first|lia|omega),by (first|lia|omega)⟩,?_⟩
   rw[en]
   refine for_range (lo:=(AtH hs st:Int)) (n:=(pw / tk).toNat) (fun i σ H4=>∃ v5,σ=[some (.ref rc),some (.int st),some (.ref ht),some (.int (AtH hs st:Int)),some (.ref l),v5]/\H4 l=some (.lst ((dueH hs st i).map V.int))/\∀ b o,H3 b=some o->H4 b=some o) ⟨none,rfl,upd_same,sm⟩ ?_ ?_
   ·rintro i σ H4 hi ⟨v5,rfl,hl4,s4⟩
    have hl5:((hs.map V.int).length:Int)=(hs.length:Int):=by rw[List.length_map]
    have k1:((AtH hs st:Int)+i)=((AtH hs st+i:Nat):Int):=by (first|lia|omega)
    have hm:(AtH hs st+i) % hs.length<hs.length:=Nat.mod_lt _ hn
    have ix:atI (hs.map V.int) (((AtH hs st+i) % hs.length:Nat):Int)=some (.int (hs.getD ((AtH hs st+i) % hs.length) 0)):=by
     refine atI_nat ?_
     rw[List.getElem?_map,List.getElem?_eq_getElem hm,getD_of hm]
     rfl
    refine⟨_,rfl, .inl ⟨rfl,_,SqL.of hl4⟩,_,rfl,_,_,rfl,rfl,⟨by decide,by decide⟩,?_⟩
    have hht4:SqT K H4 ht (hs.map V.int):=seqT s4 hht
    have L0:(0:Int)<((hs.map V.int).length:Int):=by rw[hl5];(first|lia|omega)
    refine⟨_,rfl,_,rfl,ht,_,rfl, .inr hht4,_,_,rfl,rfl,⟨L0,by rw[hl5];(first|lia|omega)⟩,_,_,rfl,rfl,?_⟩
    have e1:((AtH hs st:Int)+i) / ((hs.map V.int).length:Int)=(((AtH hs st+i) / hs.length:Nat):Int):=by rw[hl5,k1,Int.natCast_ediv]
    have e2:((AtH hs st:Int)+i) % ((hs.map V.int).length:Int)=(((AtH hs st+i) % hs.length:Nat):Int):=by rw[hl5,k1,Int.natCast_emod]
    have dv1:=Nat.div_le_self (AtH hs st+i) hs.length
    refine⟨_,_,rfl,rfl, .inl ⟨by decide,by decide⟩,?_⟩
    refine⟨_,rfl,_,rfl,_,rfl,ht,_,rfl, .inr hht4,_,_,rfl,rfl,L0,ht,_,_,_,rfl,rfl,hht4,e2.symm ▸ ix,_,_,rfl,rfl,l,_,_,rfl,rfl,hl4,?_,?_⟩
    ·rw[List.length_map]
     unfold dueH
     rw[List.length_map,List.length_range,sizeLine_eq]
     (first|lia|omega)
    ·refine⟨_,rfl,?_,fun b o e=>?_⟩
     ·rw[upd_same]
      unfold dueH
      rw[List.range_succ,List.map_append,List.map_append]
      unfold FH
      rw[e1]
      rfl
     ·rw[upd_ne (ne_of_none e (Same.free sD hl))]
      exact s4 b o e
   ·rintro σ H4 ⟨v5,rfl,hl4,s4⟩
    exact⟨_,rfl,k l H4 (Same.free sD hl) s4 hl4⟩
theorem scLd:FnScope ["_law_recipe", "_law_stuff", "_law_name", "_law_amount"] ["_law_recipe", "_law_stuff"] (defScope s_law_dose):=⟨rfl,rfl,rfl,by decide +kernel,rfl,by decide +kernel,by decide +kernel⟩
theorem d_ldose (T:Th K mg "_law_dose" s_law_dose) (dLow:Def P w K mg base CX0 1 "_law_lowest" ["_law_top", "_law_bottom"] spLow):Def P w K mg base CX0 2 "_law_dose" ["_law_recipe", "_law_stuff"] (spDo K):=by
 refine QL.def_of T (fun _ _ _ _ _ _ us hl=>M21.len2 us hl fun _ _=>rfl) scLd (fun vs H Q E h=>?_) (fun f cdv A outer s H vs Q E hr h=>?_)
 ·obtain⟨rc,R,x,rfl,_⟩:=h
  rfl
 ·obtain⟨rc,R,x,rfl,⟨it,ps,ht,hrc,hit,fi,hht⟩,ok,k⟩:=h
  refine⟨_,(qss_cons (qs_for PassesOwn.never rfl (qi_tup (qe_ix ix_tup (qv 0) qe_int (fun _ _=>rfl))) (qg_tup rfl (qgs_cons (qg_name (i:=2) scLd.nd rfl (Or.inl rfl)) (qgs_cons (qg_name (i:=3) scLd.nd rfl (Or.inl rfl)) qgs_nil)))
    (qss_one (qs_if (qt_cmpR op_eq (qv 2) (qv 1) (nomark _)) (qss_one (qs_ret (qe_callD dLow (hr.mono (by decide)) rfl pass0 (qa_cons (qe_op op_mul (qe_ix ix_tup (qv 3) qe_int (fun _ _=>rfl)) (qe_ix ix_tup (qv 0) qe_int (fun _ _=>rfl))) (qa_cons (qe_op op_mul (qe_ix ix_tup (qv 3) qe_int (fun _ _=>rfl)) (qe_ix ix_tup (qv 0) qe_int (fun _ _=>rfl))) qa_nil))))) qss_nil)))
   (qss_one (qs_ret (qe_tup (qa_cons qe_int (qa_cons qe_int qa_nil)))))),?_⟩
  refine⟨_,rfl,rc,_,_,_,rfl,rfl,hrc,rfl,it,rfl,⟨_,hit⟩,for_tup (K:=K) (a:=it) (xs:=ps) (fun i σ H2=>∃ v2 v3:Option V,σ=[some (.ref rc),some (.str x),v2,v3]/\H2=H/\hits x (R.items.take i)=[]) ⟨none,none,rfl,rfl,rfl⟩ ?_ ?_ ?_⟩
  ·rintro i σ H2 _ ⟨v2,v3,rfl,rfl,_⟩
   exact hit
  ·rintro i v σ H2 hv ⟨v2,v3,rfl,rfl,hz⟩
   obtain⟨t,et,p,am,rfl,hp,ham⟩:=fa_at fi hv
   refine⟨p,_,rfl,hp,rfl,_,_,rfl,_,_,rfl,rfl,?_⟩
   refine⟨_,rfl,_,rfl,rfl,_,rfl,ite2 (fun c=>?_) (fun c=>?_)⟩
   ·have c':V.str t.1=V.str x:=of_decide_eq_true c
    injection c' with c'
    obtain⟨r,er⟩:=filt_cut (p:=fun t:Str × Int × Int=>decide (t.1=x)) hz et (decide_eq_true c')
    obtain⟨⟨a1,a2⟩,b1,b2⟩:=ok.it t (List.mem_of_getElem? et)
    have pw:=ok.pw
    have tk:=ok.tk
    have m2:t.2.2 * R.pw≤1000 * 399:=Int.mul_le_mul b2 pw.2 (by (first|lia|omega)) (by (first|lia|omega))
    have m4:0<t.2.2 * R.pw:=Int.mul_pos (by (first|lia|omega)) (by (first|lia|omega))
    refine⟨_,rfl,am,_,_,_,rfl,rfl,ham,rfl,_,rfl,rc,_,_,_,rfl,rfl,hrc,rfl,_,_,rfl,rfl, .inl ⟨by (first|lia|omega),by (first|lia|omega)⟩,?_⟩
    refine⟨_,rfl,am,_,_,_,rfl,rfl,ham,rfl,_,rfl,rc,_,_,_,rfl,rfl,hrc,rfl,_,_,rfl,rfl, .inl ⟨by (first|lia|omega),by (first|lia|omega)⟩,?_⟩
    refine⟨_,_,rfl,m4,Big.of (by (first|lia|omega)) (by (first|lia|omega)),fun r2 hr2=>?_⟩
    refine k r2 _ (sameUpd hr2) ?_
    rw[upd_same]
    unfold doseR hits
    rw[er]
    rfl
   ·refine⟨_,_,rfl,rfl,filt_step et hz (decide_eq_false fun z=>c (decide_eq_true (by rw[z])))⟩
  ·rintro σ H2 ⟨v2,v3,rfl,rfl,hz⟩
   rw[fi.len,List.take_length] at hz
   refine⟨(by show 2≤sizeLine;decide),fun q hq=>?_⟩
   refine k q _ (sameUpd hq) ?_
   rw[upd_same]
   unfold doseR
   rw[hz]
   rfl
theorem ft_nn {t b:Int} (ht:0≤t/\t≤10 ^ 9) (hb:0<b/\b≤10 ^ 9):(0≤ft t b/\ft t b≤10 ^ 9)/\(0<fb t b/\fb t b≤10 ^ 9):=by
 have g:=fq t hb.1
 have s1:=g.szt
 have s2:=g.szb
 have p:=g.low.pos
 have z:0≤ft t b:=by
  by_cases z:0≤ft t b
  ·exact z
  ·have n1:ft t b * b<0:=Int.mul_neg_of_neg_of_pos (by (first|lia|omega)) hb.1
   have n2:0≤t * fb t b:=Int.mul_nonneg ht.1 (Int.le_of_lt p)
   have e:=g.eq
   (first|lia|omega)
 (first|lia|omega)
theorem at_str {ss:List Str} {i:Int} (h0:0≤i) (h1:i<ss.length):∃ y,atI (ss.map V.str) i=some (.str y):=by
 obtain⟨j,rfl⟩:∃ j:Nat,i=j:=⟨i.toNat,by (first|lia|omega)⟩
 refine⟨ss[j]'(by (first|lia|omega)),atI_nat ?_⟩
 rw[List.getElem?_map,List.getElem?_eq_getElem (by (first|lia|omega))]
 rfl
def spRu (K:PySem.W.Frag):Sp:=fun vs H Q _=>∃ (c:Int) (pl cl:Addr) (ss:List Str) (cs:List Addr) (Cs:List Crs),vs=[.int c, .ref pl, .ref cl]/\SqL K H pl (ss.map V.str)/\ss.length=4/\SqL K H cl (cs.map V.ref)/\Fa (rpC K H) (cs.map V.ref) Cs/\Cs.length≤20/\(∀ c∈Cs,CrsOk c)/\∀ (r:Addr) (R:Rl) (H':Hp),Same H H'->rpR K H' (.ref r) R->RlOk R->RlPos R->Q (.ref r) H'
theorem scRu:FnScope ["_law_cell_here", "_law_pool_here", "_law_courses", "_law_turns", "_law_stuff", "_law_apart", "_law_amount", "_law_near_here"] ["_law_cell_here", "_law_pool_here", "_law_courses"] (defScope s_law_rule):=⟨rfl,rfl,rfl,by decide +kernel,rfl,by decide +kernel,by decide +kernel⟩
theorem d_rule (T:Th K mg "_law_rule" s_law_rule) (dWheel:Def P w K mg base CX0 1 "_law_wheel" ["_law_cell_here", "_law_many"] spW) (dLow:Def P w K mg base CX0 1 "_law_lowest" ["_law_top", "_law_bottom"] spLow) (dDose:Def P w K mg base CX0 2 "_law_dose" ["_law_recipe", "_law_stuff"] (spDo K)) (zlen:mg "len" = none) (zint:mg "int" = none):Def P w K mg base CX0 3 "_law_rule" ["_law_cell_here", "_law_pool_here", "_law_courses"] (spRu K):=by
 refine QL.def_of T (fun _ _ _ _ _ _ us hl=>M21.len3 us hl fun _ _ _=>rfl) scRu (fun vs H Q E h=>?_) (fun f cdv A outer s H vs Q E hr h=>?_)
 ·obtain⟨c,pl,cl,ss,cs,Cs,rfl,_⟩:=h
  rfl
 ·obtain⟨c,pl,cl,ss,cs,Cs,rfl,hpl,l4,hcl,fc,lC,okC,k⟩:=h
  refine⟨_,(qss_cons (qs_set (i:=3) scRu.nd rfl (Or.inl rfl) (qe_callD dWheel (hr.mono (by decide)) rfl pass0 (qa_cons (qv 0) (qa_cons qe_int qa_nil))))
   (qss_cons (qs_set (i:=4) scRu.nd rfl (Or.inl rfl) (qe_ix ix_list (qv 1) (qe_op op_mod (qe_ix ix_list (qv 3) qe_int (fun _ _=>rfl)) qe_int) (fun _ _=>rfl)))
   (qss_cons (qs_if (qt_cmpR op_eq (qe_op op_mod (qe_ix ix_list (qv 3) qe_int (fun _ _=>rfl)) qe_int) qe_int (nomark _)) (qss_cons (qs_set (i:=5) scRu.nd rfl (Or.inl rfl) (qe_op op_add qe_int (qe_op op_mod (qe_ix ix_list (qv 3) qe_int (fun _ _=>rfl)) (qe_ix ix_list (qe_lst (qa_cs (.int (.int (.int .nil))))) (qe_op op_mod (qe_ix ix_list (qv 3) qe_int (fun _ _=>rfl)) qe_int) (fun _ _=>rfl)))))
   (qss_one (qs_ret (qe_tup (qa_cons qe_str (qa_cons (qv 4) (qa_cons (qe_ix ix_list (qv 1) (qe_op op_mod (qe_op op_add (qe_op op_add (qe_ix ix_list (qv 3) qe_int (fun _ _=>rfl)) qe_int) (qe_op op_mod (qe_ix ix_list (qv 3) qe_int (fun _ _=>rfl)) qe_int)) qe_int) (fun _ _=>rfl)) (qa_cons (qv 5) qa_nil)))))))) qss_nil)
   (qss_cons (qs_set (i:=6) scRu.nd rfl (Or.inl rfl) (qe_tup (qa_cons (qe_op op_add qe_int (qe_op op_mod (qe_ix ix_list (qv 3) qe_int (fun _ _=>rfl)) qe_int)) (qa_cons qe_int qa_nil))))
   (qss_cons (qs_join (qs_if (QW.pt (qw_and (qt_cmpR (op_neRefs (K:=K) rfl (hu_of hr |> Nat.lt_of_succ_lt)) (qv 2) (qe_lst qa_nil) (nomark _)) (qw_and1 (qt_cmpR op_gt (qe_op op_mod (qe_ix ix_list (qv 3) qe_int (fun _ _=>rfl)) qe_int) qe_int (nomark _))))) (qss_cons (qs_set (i:=7) scRu.nd rfl (Or.inl rfl) (qe_callD dDose (hr.mono (by decide)) rfl pass0 (qa_cons (qe_ix ix_tup (qe_ix ix_list (qv 2) (qe_op op_mod (qe_ix ix_list (qv 3) qe_int (fun _ _=>rfl)) (qe_callB call_len_seq (by rfl) zlen PySem.boot_len (qa_cons (qv 2) qa_nil))) (fun _ _=>rfl)) qe_int (fun _ _=>rfl)) (qa_cons (qv 4) qa_nil))))
   (qss_one (qs_set (i:=6) scRu.nd rfl (Or.inl rfl) (qe_callD dLow (hr.mono (by decide)) rfl pass0 (qa_cons (qe_op op_add (qe_op op_mul (qe_ix ix_tup (qv 7) qe_int (fun _ _=>rfl)) (qe_op op_add qe_int (qe_op op_mod (qe_ix ix_list (qv 3) qe_int (fun _ _=>rfl)) qe_int))) (qe_callTy call_int1 (by rfl) zint PyProof.Rows.boot_int (qa_cons (qe_cmpR op_eq (qe_ix ix_tup (qv 7) qe_int (fun _ _=>rfl)) qe_int (nomark _)) qa_nil))) (qa_cons (qe_op op_mul (qe_ix ix_tup (qv 7) qe_int (fun _ _=>rfl)) (qe_op op_add qe_int (qe_op op_fdiv (qe_op op_mod (qe_ix ix_list (qv 3) qe_int (fun _ _=>rfl)) qe_int) qe_int))) qa_nil)))))) qss_nil))
   (qss_one (qs_ret (qe_tup (qa_cons (qe_ix ix_list (qe_lst (qa_cons qe_str (qa_cons qe_str qa_nil))) (qe_op op_mod (qe_ix ix_list (qv 3) qe_int (fun _ _=>rfl)) qe_int) (fun _ _=>rfl)) (qa_cons (qv 4) (qa_cons (qv 6) qa_nil))))))))))),?_⟩
  refine⟨_,rfl,c,7,rfl,by decide,by decide,fun l xs H1 fl hl lx hx s1=>?_⟩
  have at_:∀ j:Nat,j<7->atI (xs.map V.int) (j:Int)=some (.int (xs.getD j 0)):=fun j hj=>at_ints (by (first|lia|omega)) (by (first|lia|omega))
  have nn:=getD_nn hx
  have n0:=nn 0
  have n1:=nn 1
  have n2:=nn 2
  have n3:=nn 3
  have n4:=nn 4
  have n5:=nn 5
  have n6:=nn 6
  have zz:∀ {n:Nat},n≤100->n≤sizeLine:=fun h=>Nat.le_trans h (by decide +kernel)
  obtain⟨y,ey⟩:=at_str (ss:=ss) (i:=xs.getD 0 0 % 4) (by (first|lia|omega)) (by (first|lia|omega))
  refine⟨_,rfl,_,rfl,l,_,0,_,rfl,rfl,SqL.of hl,at_ 0 (by decide),_,_,rfl,rfl,(by show (0:Int)<4;decide),pl,_,_,_,rfl,rfl,seqL s1 hpl,ey,?_⟩
  refine⟨_,rfl,l,_,1,_,rfl,rfl,SqL.of hl,at_ 1 (by decide),_,_,rfl,rfl,(by show (0:Int)<3;decide),rfl,_,rfl,ite2 (fun z=>?_) (fun z=>?_)⟩
  ·refine⟨_,rfl,l,_,2,_,rfl,rfl,SqL.of hl,at_ 2 (by decide),zz (by show 3≤100;decide),fun tl htl=>?_⟩
   have u1:=sameUpd (o:= .lst [.int 72, .int 13, .int 4]) htl
   have hl2:=u1 _ _ hl
   obtain⟨m,em,m1,m2⟩:∃ m:Int,atI [V.int 72, .int 13, .int 4] (xs.getD 3 0 % 3)=some (.int m)/\1≤m/\m≤72:=by
    have:xs.getD 3 0 % 3=0\/xs.getD 3 0 % 3=1\/xs.getD 3 0 % 3=2:=by (first|lia|omega)
    rcases this with e | e | e <;> rw[e]
    ·exact⟨72,rfl,by decide,by decide⟩
    ·exact⟨13,rfl,by decide,by decide⟩
    ·exact⟨4,rfl,by decide,by decide⟩
   refine⟨_,rfl,l,_,3,_,rfl,rfl,SqL.of hl2,at_ 3 (by decide),_,_,rfl,rfl,(by show (0:Int)<3;decide),tl,_,_,_,rfl,rfl,SqL.of upd_same,em,?_⟩
   refine⟨_,_,rfl,rfl,(by show 0<m;(first|lia|omega)),_,_,rfl,rfl,?_⟩
   have w1:=Int.emod_nonneg (xs.getD 2 0) (show m≠0 by (first|lia|omega))
   have w2:=Int.emod_lt_of_pos (xs.getD 2 0) (show 0<m by (first|lia|omega))
   obtain⟨y2,ey2⟩:=at_str (ss:=ss) (i:=(xs.getD 0 0+1+xs.getD 4 0 % 3) % 4) (by (first|lia|omega)) (by (first|lia|omega))
   refine⟨_,rfl,_,rfl,_,rfl,l,_,0,_,rfl,rfl,SqL.of hl2,at_ 0 (by decide),_,_,rfl,rfl,?_⟩
   refine⟨_,rfl,l,_,4,_,rfl,rfl,SqL.of hl2,at_ 4 (by decide),_,_,rfl,rfl,(by show (0:Int)<3;decide),_,_,rfl,rfl,_,_,rfl,rfl,(by show (0:Int)<4;decide),pl,_,_,_,rfl,rfl,seqL (s1.trans u1) hpl,ey2,_,rfl,zz (by show 4≤100;decide),fun r hr=>?_⟩
   exact k r (.apart y y2 (1+xs.getD 2 0 % m)) _ ((s1.trans u1).trans (sameUpd hr)) ⟨r,rfl,SqT.of upd_same⟩ ⟨by show 1≤1+_;(first|lia|omega),by show 1+_≤72;(first|lia|omega)⟩ trivial
  ·have z':¬ xs.getD 1 0 % 3=2:=fun e=>z (decide_eq_true (by show V.int _=V.int 2;rw[e]))
   refine⟨_,rfl,l,_,2,_,rfl,rfl,SqL.of hl,at_ 2 (by decide),_,_,rfl,rfl,(by show (0:Int)<60;decide),_,_,rfl,rfl,zz (by show 2≤100;decide),fun am ham=>?_⟩
   have u1:=sameUpd (o:= .tup [.int (1+xs.getD 2 0 % 60), .int 1]) ham
   have ha1:upd H1 am (.tup [.int (1+xs.getD 2 0 % 60), .int 1]) am=some _:=upd_same
   have sA:=s1.trans u1
   have hl1:=u1 _ _ hl
   generalize upd H1 am (.tup [.int (1+xs.getD 2 0 % 60), .int 1])=H2 at u1 ha1 sA hl1
   refine⟨fun σ' H'=>∃ (am':Addr) (v7:Option V) (t b:Int),σ'=[some (.int c),some (.ref pl),some (.ref cl),some (.ref l),some (.str y),none,some (.ref am'),v7]/\H' am'=some (.tup [.int t, .int b])/\Same H2 H'/\(0≤t/\t≤10 ^ 9)/\(0<b/\b≤10 ^ 9),?_,?_⟩
   ·refine⟨_,rfl,zz (by decide),fun el hel=>?_⟩
    have u2:=sameUpd (o:= .lst []) hel
    have e0:upd H2 el (.lst []) el=some (.lst []):=upd_same
    generalize upd H2 el (.lst [])=H3 at u2 e0
    have sB:=sA.trans u2
    have hl3:=u2 _ _ hl1
    have ha3:=u2 _ _ ha1
    refine⟨cl,el,cs,[],rfl,rfl,sB.seq hcl,SqL.of e0,?_⟩
    by_cases cz:cs=[]
    ·refine .inl ⟨cz,_,rfl,iteF ?_⟩
     exact⟨am,_,_,_,rfl,ha3,u2,⟨by (first|lia|omega),by (first|lia|omega)⟩,by decide⟩
    ·have c0:cs.length≠0:=fun e=>cz (List.eq_nil_of_length_eq_zero e)
     refine .inr ⟨c0,_,rfl,iteT ?_⟩
     refine⟨_,rfl,l,_,3,_,rfl,rfl,SqL.of hl3,at_ 3 (by decide),_,_,rfl,rfl,(by show (0:Int)<4;decide),_,_,rfl,rfl,_,rfl,ite2 (fun _=>?_) (fun _=>⟨am,_,_,_,rfl,ha3,u2,⟨by (first|lia|omega),by (first|lia|omega)⟩,by decide⟩)⟩
     have fcl:=fc.len
     rw[List.length_map] at fcl
     have m1:=Int.emod_nonneg (xs.getD 4 0) (show (cs.length:Int)≠0 by (first|lia|omega))
     have m2:=Int.emod_lt_of_pos (xs.getD 4 0) (show (0:Int)<cs.length by (first|lia|omega))
     obtain⟨j,hj⟩:∃ j:Nat,xs.getD 4 0 % (cs.length:Int)=j:=⟨(xs.getD 4 0 % (cs.length:Int)).toNat,by (first|lia|omega)⟩
     have jl:j<cs.length:=by (first|lia|omega)
     have ev:(cs.map V.ref)[j]?=some (.ref cs[j]):=by rw[List.getElem?_map,List.getElem?_eq_getElem jl];rfl
     obtain⟨cr,ecr,p,rc,ep,hp,hrc⟩:=fa_at (fc.mono fun _ _=>rpC.mono sB) ev
     have ep':cs[j]=p:=by injection ep
     have ej:=atI_nat ev
     rw[<- hj,ep'] at ej
     have rl:(((cs.map V.ref).length:Nat):Int)=cs.length:=by rw[List.length_map]
     refine⟨_,rfl,_,rfl,l,_,4,_,rfl,rfl,SqL.of hl3,at_ 4 (by decide),_,rfl,cl,_,rfl, .inl (sB.seq hcl),_,_,rfl,rfl,(by rw[rl];(first|lia|omega)),cl,_,_,_,rfl,rfl,sB.seq hcl,by rw[rl];exact ej,p,_,_,_,rfl,rfl,hp,rfl,_,rfl,rc,cr.1,y,rfl,hrc,(okC cr (List.mem_of_getElem? ecr)).1,fun q H4 s4 hq=>?_⟩
     obtain⟨_,⟨d1,d2⟩,d3,d4⟩:=doseR_ok (okC cr (List.mem_of_getElem? ecr)).1 y
     generalize doseR cr.1 y=dd at hq d1 d2 d3 d4
     have hl4:=s4 _ _ hl3
     have b1:xs.getD 6 0 % 4 / 3=0\/xs.getD 6 0 % 4 / 3=1:=by (first|lia|omega)
     have b2:0<dd.2 * (1+xs.getD 6 0 % 4 / 3):=Int.mul_pos (by (first|lia|omega)) (by (first|lia|omega))
     have b3:dd.2 * (1+xs.getD 6 0 % 4 / 3)≤399000 * 2:=Int.mul_le_mul d4 (by (first|lia|omega)) (by (first|lia|omega)) (by (first|lia|omega))
     refine⟨_,rfl,q,_,_,_,rfl,rfl,SqT.of hq,rfl,_,rfl,l,_,5,_,rfl,rfl,SqL.of hl4,at_ 5 (by decide),_,_,rfl,rfl,(by show (0:Int)<6;decide),_,_,rfl,rfl,_,_,rfl,rfl, .inl ⟨by (first|lia|omega),by (first|lia|omega)⟩,?_⟩
     refine⟨_,rfl,q,_,_,_,rfl,rfl,SqT.of hq,rfl,rfl, .inr ⟨_,rfl,_,_,rfl,rfl,?_⟩⟩
     refine⟨_,rfl,q,_,_,_,rfl,rfl,SqT.of hq,rfl,_,rfl,l,_,6,_,rfl,rfl,SqL.of hl4,at_ 6 (by decide),_,_,rfl,rfl,(by show (0:Int)<4;decide),_,_,rfl,rfl,⟨by decide,by decide⟩,_,_,rfl,rfl,_,_,rfl,rfl, .inl ⟨by (first|lia|omega),by (first|lia|omega)⟩,?_⟩
     refine⟨_,_,rfl,b2,Big.of (by (first|lia|omega)) (by (first|lia|omega)),fun r hr=>?_⟩
     have nb:∀ (x:Int) (c:Bool),0≤x/\x≤399000 * 6->0≤x+(if c=true then (1:Int) else 0)/\x+(if c=true then (1:Int) else 0)≤10 ^ 9:=fun x c=>by split <;> (first|lia|omega)
     have x0:0≤dd.1 * (1+xs.getD 5 0 % 6):=Int.mul_nonneg d1 (by (first|lia|omega))
     have x1:dd.1 * (1+xs.getD 5 0 % 6)≤399000 * 6:=Int.mul_le_mul d2 (by (first|lia|omega)) (by (first|lia|omega)) (by (first|lia|omega))
     exact⟨r,_,_,_,rfl,upd_same,(u2.trans s4).trans (sameUpd hr),ft_nn (nb _ _ ⟨x0,x1⟩) ⟨b2,by (first|lia|omega)⟩⟩
   ·rintro σ' H3 ⟨am',v7,t,b,rfl,ha3,s3,tb⟩
    refine⟨zz (by show 2≤100;decide),fun wl hwl=>?_⟩
    have u2:=sameUpd (o:= .lst [.str "once", .str "day"]) hwl
    have hl3:=u2 _ _ (s3 _ _ hl1)
    obtain⟨dy,ed⟩:∃ dy:Bool,atI [V.str "once", .str "day"] (xs.getD 1 0 % 3)=some (.str (Rl.word (.lim dy y t b))):=by
     have:xs.getD 1 0 % 3=0\/xs.getD 1 0 % 3=1:=by (first|lia|omega)
     rcases this with e | e <;> rw[e]
     ·exact⟨false,rfl⟩
     ·exact⟨true,rfl⟩
    refine⟨_,rfl,l,_,1,_,rfl,rfl,SqL.of hl3,at_ 1 (by decide),_,_,rfl,rfl,(by show (0:Int)<3;decide),wl,_,_,_,rfl,rfl,SqL.of upd_same,ed,_,rfl,_,rfl,zz (by show 3≤100;decide),fun r hr=>?_⟩
    have u3:=sameUpd (o:= .tup [.str (Rl.word (.lim dy y t b)), .str y, .ref am']) hr
    refine k r (.lim dy y t b) _ (((sA.trans s3).trans u2).trans u3) ⟨r,am',rfl,SqT.of upd_same,SqT.of (u3 _ _ (u2 _ _ ha3))⟩ ?_ tb
    cases dy
    ·exact⟨by show (1:Int)≤1;decide,by show (1:Int)≤72;decide⟩
    ·exact⟨by show (1:Int)≤24;decide,by show (24:Int)≤72;decide⟩
end
end K54
set_option maxRecDepth 100000
set_option linter.all false
set_option maxHeartbeats 800000
set_option Elab.async false
namespace K54
open PySem L2 L3 X8 M01 L6 L5 QL
open L8 L9 L10 L11 L13 L14 L16 L20 L21 L22 L42 L44 L60 L61 L62 L66 L69 M11 M13 M14 M20 M21
section
variable {P:Program} {w:World} {K:PySem.W.Frag} {mg:Str->Option Value} {base:Heap}
def evN (Cs:List Crs):Nat->List Ev
 | 0=>[]
 | n+1=>evN Cs n ++ match Cs[n]? with | some c=>(hrs c).map fun h=>(h,(n:Int),()) | none=>[]
theorem evN_succ {Cs:List Crs} {n:Nat} {c:Crs} (e:Cs[n]?=some c):evN Cs (n+1)=evN Cs n ++ (hrs c).map fun h=>(h,(n:Int),()):=by
 rw[evN,e]
def pk (x:Str) (B:Int) (Cs:List Crs) (k:Int):Int:=match Cs[k.toNat]? with | some c=>parts x B c | none=>0
theorem evN_map (x:Str) (B:Int) (Cs:List Crs):∀ n≤Cs.length,(evN Cs n).map (fun e=>(e.1,pk x B Cs e.2.1))=evs x B (Cs.take n)
 | 0,_=>rfl
 | n+1,h=>by
  have e:Cs[n]?=some (Cs[n]'(by (first|lia|omega))):=List.getElem?_eq_getElem (by (first|lia|omega))
  rw[evN_succ e,evs_snoc e,List.map_append,evN_map x B Cs n (by (first|lia|omega)),List.map_map]
  congr 1
  refine List.map_congr_left fun h _=>?_
  show (h,pk x B Cs (n:Int))=_
  unfold pk
  rw[Int.toNat_natCast,e]
theorem evN_hours (Cs:List Crs):(evN Cs Cs.length).map (·.1)=hours Cs:=by
 have:=congrArg (List.map (·.1)) (evN_map "" 1 Cs Cs.length (Nat.le_refl _))
 rw[List.take_length,evs_hours,List.map_map] at this
 exact this
theorem evN_ix (Cs:List Crs):∀ n≤Cs.length,∀ e∈evN Cs n,∃ k:Nat,k<n/\e.2.1=k
 | 0,_,e,h=>by cases h
 | n+1,hn,e,h=>by
  have ec:Cs[n]?=some (Cs[n]'(by (first|lia|omega))):=List.getElem?_eq_getElem (by (first|lia|omega))
  rw[evN_succ ec] at h
  rcases List.mem_append.mp h with z | z
  ·obtain⟨k,hk,e1⟩:=evN_ix Cs n (by (first|lia|omega)) e z
   exact⟨k,by (first|lia|omega),e1⟩
  ·obtain⟨x,_,rfl⟩:=List.mem_map.mp z
   exact⟨n,by (first|lia|omega),rfl⟩
theorem evN_len {Cs:List Crs} (ok:∀ c∈Cs,CrsOk c):∀ n≤Cs.length,(evN Cs n).length≤399 * n
 | 0,_=>Nat.le_refl _
 | n+1,hn=>by
  have ec:Cs[n]?=some (Cs[n]'(by (first|lia|omega))):=List.getElem?_eq_getElem (by (first|lia|omega))
  have h1:=evN_len ok n (by (first|lia|omega))
  have h2:=hrs_len (ok _ (List.mem_of_getElem? ec))
  rw[evN_succ ec,List.length_append,List.length_map]
  (first|lia|omega)
theorem fa_app {α:Type} {r:V->α->Prop} {vs us:List V} {as bs:List α} (h:Fa r vs as) (h2:Fa r us bs):Fa r (vs ++ us) (as ++ bs):=by
 induction h with
 | nil=>exact h2
 | cons h1 _ ih=>exact .cons h1 ih
def spEv (K:PySem.W.Frag):Sp:=fun vs H Q _=>∃ (cl:Addr) (cvs:List V) (Cs:List Crs),vs=[.ref cl]/\SqL K H cl cvs/\Fa (rpC K H) cvs Cs/\Cs.length≤20/\(∀ c∈Cs,CrsOk c)/\(hours Cs).length<64/\
 ∀ (l:Addr) (ps:List Addr) (es:List Ev) (H':Hp),Same H H'->H' l=some (.lst (ps.map V.ref))->Fa (rpEv H') (ps.map V.ref) es->es.Perm (evN Cs Cs.length)->Q (.ref l) H'
theorem scEv:FnScope ["_law_courses", "_law_found", "_law_k"] ["_law_courses"] (defScope s_law_events):=⟨rfl,rfl,rfl,by decide +kernel,rfl,by decide +kernel,by decide +kernel⟩
theorem d_events (T:Th K mg "_law_events" s_law_events) (dHours:Def P w K mg base CX0 1 "_law_hours" ["_law_recipe", "_law_start"] (spTk K)) (zrange:mg "range" = none) (zlen:mg "len" = none) (zsorted:mg "sorted" = none):Def P w K mg base CX0 2 "_law_events" ["_law_courses"] (spEv K):=by
 refine QL.def_of T (fun _ _ _ _ _ _ us hl=>M21.len1 us hl fun _=>rfl) scEv (fun vs H Q E h=>?_) (fun f cdv A outer s H vs Q E hr h=>?_)
 ·obtain⟨cl,cvs,Cs,rfl,_⟩:=h
  rfl
 ·obtain⟨cl,cvs,Cs,rfl,hcl,fc,lC,okC,few,k⟩:=h
  refine⟨_,(qss_cons (qs_set (i:=1) scEv.nd rfl (Or.inl rfl) (qe_lst qa_nil))
   (qss_cons (qs_for PassesOwn.never rfl (qi_range1 rfl zrange (qa_cons (qe_callB call_len_seq (by rfl) zlen PySem.boot_len (qa_cons (qv 0) qa_nil)) qa_nil)) (qg_name (i:=2) scEv.nd rfl (Or.inr rfl))
    (qss_one (qs_expr (qe_bm PySem.F.plainAttrs_list PySem.F.slot_list_extend PySem.F.type_list_extend mt_extend (qv 1) (qa_cons (qe_lc (lc_mk (x:= "_law_hour") (fvs:=["_law_k"]) (fidx:=[2]) (defScope s_law_events) ["_law_courses", "_law_found", "_law_k"] rfl rfl (by decide +kernel)) rfl rfl (qi_list (qe_callD dHours (hr.mono (by decide)) rfl pass0 (qa_cons (qe_ix ix_tup (qe_ix ix_list (qv 0) (qv 2) (fun _ _=>rfl)) qe_int (fun _ _=>rfl)) (qa_cons (qe_ix ix_tup (qe_ix ix_list (qv 0) (qv 2) (fun _ _=>rfl)) qe_int (fun _ _=>rfl)) qa_nil)))) (fun cl C s H ex=>(qe_tup (qa_cons (qv 0) (qa_cons (qv 1) qa_nil))))) qa_nil)))))
   (qss_one (qs_ret (qe_callB (L71.call_sortedR64 row_pr (ord_cons ord_int ord_nil) (hu_d hr (by decide))) (by rfl) zsorted PyProof.Rows.boot_sorted (qa_cons (qv 1) qa_nil)))))),?_⟩
  have fl:=fc.len
  refine⟨(by show 0≤sizeLine;decide),fun to hto=>?_⟩
  have u0:=sameUpd (o:= .lst []) hto
  have t0:upd H to (.lst []) to=some (.lst []):=upd_same
  generalize upd H to (.lst [])=H1 at u0 t0
  refine⟨_,rfl,cl,_,rfl, .inl (u0.seq hcl),_,rfl,by (first|lia|omega),by (first|lia|omega),for_range (n:=cvs.length) (fun i σ H2=>∃ (v2:Option V) (ps:List Addr),σ=[some (.ref cl),some (.ref to),v2]/\H2 to=some (.lst (ps.map V.ref))/\Fa (rpEv H2) (ps.map V.ref) (evN Cs i)/\M19.But to H1 H2) ⟨none,[],rfl,t0, .nil,M19.But.refl⟩ ?_ ?_⟩
  ·rintro i σ H2 hi ⟨v2,ps,rfl,t2,f2,o⟩
   have ev:cvs[i]?=some cvs[i]:=List.getElem?_eq_getElem hi
   obtain⟨c,ec,p,rc,ep,hp,it,qs,ht,g1,g2,g3,g4⟩:=fa_at fc ev
   have s2:Same H H2:=fun b u e=>o b u (ne_of_none e hto) (u0 _ _ e)
   have okc:=okC c (List.mem_of_getElem? ec)
   have ei:(0:Int)+i=i:=by (first|lia|omega)
   have ej:=atI_nat ev
   rw[ep] at ej
   refine⟨_,rfl, .inl ⟨rfl,_,SqL.of t2⟩,?_⟩
   refine⟨_,rfl,_,rfl,cl,_,_,_,rfl,rfl,s2.seq hcl,by rw[ei];exact ej,p,_,_,_,rfl,rfl,seqT s2 hp,rfl,?_⟩
   refine⟨_,rfl,_,rfl,cl,_,_,_,rfl,rfl,s2.seq hcl,by rw[ei];exact ej,p,_,_,_,rfl,rfl,seqT s2 hp,rfl,?_⟩
   refine⟨rc,c.2,c.1.pw,c.1.tk,c.1.hs,rfl,⟨_,ht,seqT s2 g1,seqT s2 g4⟩,okc.1.hs,okc.1.pw,okc.1.tk,okc.2,fun hl H3 fh s3 hh=>⟨hl,rfl,⟨_,SqL.of hh⟩,lc_list (K:=K) (a:=hl) (xs:=(hrs c).map V.int) (fun j ys H4=>∃ rs:List Addr,ys=rs.map V.ref/\Same H3 H4/\Fa (rpEv H4) ys (((hrs c).take j).map fun h=>(h,(i:Int),()))) ⟨[],rfl,Same.refl _, .nil⟩ ?_ ?_ ?_⟩⟩
   ·rintro j ys H4 hj ⟨rs,rfl,s4,f4⟩
    refine⟨SqL.of (s4 _ _ hh),?_⟩
    have:=f4.len
    have:=hrs_len okc
    rw[List.length_map (as:=(hrs c).take j),List.length_take] at *
    rw[sizeLine_eq]
    (first|lia|omega)
   ·rintro j v ys H4 hv ⟨rs,rfl,s4,f4⟩
    rw[List.getElem?_map] at hv
    obtain⟨h,eh,rfl⟩:=Option.map_eq_some_iff.mp hv
    refine⟨_,rfl,_,rfl,(by show 2≤sizeLine;decide),fun q hq=>?_⟩
    have u:=sameUpd (o:= .tup [.int h, .int ((0:Int)+i)]) hq
    refine⟨rs ++ [q],by rw[List.map_append];rfl,s4.trans u,?_⟩
    rw[take_snoc eh,List.map_append]
    refine fa_snoc (ev_of (a:=(h,(i:Int),())) ?_) (f4.mono fun _ _=>ev_mono u)
    rw[upd_same,ei]
   ·rintro ys H4 ⟨rs,rfl,s4,f4⟩ D hD
    rw[List.length_map,List.take_length] at f4
    have u:=sameUpd (o:= .lst (rs.map V.ref)) hD
    have t5:=u _ _ (s4 _ _ (s3 _ _ t2))
    have hD5:upd H4 D (.lst (rs.map V.ref)) D=some (.lst (rs.map V.ref)):=upd_same
    have f5:=f4.mono fun _ _=>ev_mono u
    have f6:=f2.mono fun _ _=>ev_mono ((s3.trans s4).trans u)
    have o5:=o.trans (M19.But.of (z:=to) ((s3.trans s4).trans u))
    generalize upd H4 D (.lst (rs.map V.ref))=H5 at t5 hD5 f5 f6 o5
    have l1:=f4.len
    have l2:=f2.len
    have l3:=evN_len okC i (by (first|lia|omega))
    have l4:=hrs_len okc
    rw[List.length_map,List.length_map] at l1
    rw[List.length_map] at l2
    refine⟨to,D,_,_,rfl,rfl,t5,hD5,by rw[List.length_map,List.length_map,sizeLine_eq];(first|lia|omega),?_⟩
    have bt:M19.But to H5 (upd H5 to (.lst (ps.map V.ref ++ rs.map V.ref))):=M19.But.upd
    refine⟨_,ps ++ rs,rfl,by rw[upd_same,List.map_append],?_,o5.trans bt⟩
    rw[evN_succ ec,List.map_append]
    exact fa_app (f6.mono fun _ _=>ev_but bt t5) (f5.mono fun _ _=>ev_but bt t5)
  ·rintro σ H2 ⟨v2,ps,rfl,t2,f2,o⟩
   rw[fl] at f2
   have l2:=f2.len
   have l3:=evN_len okC Cs.length (Nat.le_refl _)
   rw[List.length_map] at l2
   have s2:Same H H2:=fun b u e=>o b u (ne_of_none e hto) (u0 _ _ e)
   have l5:=congrArg List.length (evN_hours Cs)
   rw[List.length_map] at l5
   refine⟨_,rfl,to,ps,_,rfl,t2,f2,by (first|lia|omega),fun l' ps' as' fl' fp pm srt=>?_⟩
   have u5:=sameUpd (o:= .lst (ps'.map V.ref)) fl'
   exact k l' ps' as' _ (s2.trans u5) upd_same (fp.mono fun _ _=>ev_mono u5) pm
end
end K54
set_option maxRecDepth 100000
set_option linter.all false
set_option maxHeartbeats 800000
set_option Elab.async false
namespace K54
open PySem L2 L3 X8 M01 L6 L5 QL
open L8 L9 L10 L11 L13 L14 L16 L20 L21 L22 L42 L44 L60 L61 L62 L66 L69 M11 M13 M14 M20 M21
section
variable {P:Program} {w:World} {K:PySem.W.Frag} {mg:Str->Option Value} {base:Heap}
structure Drawn (K:PySem.W.Frag) (H:Hp) (cl ol:Addr) (cs os:List Addr) (Cs:List Crs) (Rs:List Rl) (mo:Int):Prop where
 cl:H cl=some (.lst (cs.map V.ref))
 fc:Fa (rpC K H) (cs.map V.ref) Cs
 okC:∀ c∈Cs,CrsOk c
 pw:∀ c∈Cs,c.1.pw≤mo
 mo:1≤mo/\(Cs.length:Int) * mo≤16
 lC:Cs.length≤6
 ol:H ol=some (.lst (os.map V.ref))
 fr:Fa (rpR K H) (os.map V.ref) Rs
 okR:∀ r∈Rs,RlOk r/\RlPos r
 lR:Rs.length≤12
theorem Drawn.mono {H H':Hp} {cl ol:Addr} {cs os:List Addr} {Cs:List Crs} {Rs:List Rl} {mo:Int} (s:Same H H') (d:Drawn K H cl ol cs os Cs Rs mo):Drawn K H' cl ol cs os Cs Rs mo:=
 ⟨s _ _ d.cl,d.fc.mono fun _ _=>rpC.mono s,d.okC,d.pw,d.mo,d.lC,s _ _ d.ol,d.fr.mono fun _ _=>rpR.mono s,d.okR,d.lR⟩
def spGi (K:PySem.W.Frag):Sp:=fun vs H Q _=>∃ (a:Addr) (ns:List Int) (k:Int),vs=[.ref a, .int k]/\SqL K H a (ns.map V.int)/\0≤k/\∀ (r pl cl ol:Addr) (cs os:List Addr) (Cs:List Crs) (Rs:List Rl) (mo:Int) (H':Hp),Same H H'->H' r=some (.tup [.ref pl, .ref cl, .ref ol])->Drawn K H' cl ol cs os Cs Rs mo->Q (.ref r) H'
theorem pick8 {m0 m1 m2 m3 m4 m5 m6 m7:Nat} (i:Int):∃ m:Nat,atI [V.int m0, .int m1, .int m2, .int m3, .int m4, .int m5, .int m6, .int m7] (i % 8)=some (.int m)/\m∈[m0,m1,m2,m3,m4,m5,m6,m7]:=by
 have:i % 8=0\/i % 8=1\/i % 8=2\/i % 8=3\/i % 8=4\/i % 8=5\/i % 8=6\/i % 8=7:=by (first|lia|omega)
 rcases this with e | e | e | e | e | e | e | e <;> rw[e]
 ·exact⟨m0,rfl,by simp⟩
 ·exact⟨m1,rfl,by simp⟩
 ·exact⟨m2,rfl,by simp⟩
 ·exact⟨m3,rfl,by simp⟩
 ·exact⟨m4,rfl,by simp⟩
 ·exact⟨m5,rfl,by simp⟩
 ·exact⟨m6,rfl,by simp⟩
 ·exact⟨m7,rfl,by simp⟩
theorem scGi:FnScope ["_law_script", "_law_at", "_law_pool_here", "_law_number", "_law_many", "_law_most", "_law_courses", "_law_orders"] ["_law_script", "_law_at"] (defScope s_law_given):=⟨rfl,rfl,rfl,by decide +kernel,rfl,by decide +kernel,by decide +kernel⟩
theorem d_given (T:Th K mg "_law_given" s_law_given) (dCell:Def P w K mg base CX0 1 "_law_cell" ["_law_script", "_law_k"] (spCell K)) (dPool:Def P w K mg base CX0 2 "_law_pool" ["_law_cell_here"] spPool) (dCourse:Def P w K mg base CX0 2 "_law_course" ["_law_cell_here", "_law_pool_here", "_law_most"] (spCr K)) (dRule:Def P w K mg base CX0 3 "_law_rule" ["_law_cell_here", "_law_pool_here", "_law_courses"] (spRu K)) (zrange:mg "range" = none) (zmax:mg "max" = none):Def P w K mg base CX0 4 "_law_given" ["_law_script", "_law_at"] (spGi K):=by
 refine QL.def_of T (fun _ _ _ _ _ _ us hl=>M21.len2 us hl fun _ _=>rfl) scGi (fun vs H Q E h=>?_) (fun f cdv A outer s H vs Q E hr h=>?_)
 ·obtain⟨a,ns,k0,rfl,_⟩:=h
  rfl
 ·obtain⟨a,ns,k0,rfl,hS,k00,k⟩:=h
  refine⟨_,(qss_cons (qs_set (i:=2) scGi.nd rfl (Or.inr rfl) (qe_callD dPool (hr.mono (by decide)) rfl pass0 (qa_cons (qe_callD dCell (hr.mono (by decide)) rfl pass0 (qa_cons (qv 0) (qa_cons (qv 1) qa_nil))) qa_nil)))
   (qss_cons (qs_set (i:=3) scGi.nd rfl (Or.inl rfl) (qe_callD dCell (hr.mono (by decide)) rfl pass0 (qa_cons (qv 0) (qa_cons (qe_op op_add (qv 1) qe_int) qa_nil))))
   (qss_cons (qs_set (i:=4) scGi.nd rfl (Or.inl rfl) (qe_ix ix_list (qe_lst (qa_cs (.int (.int (.int (.int (.int (.int (.int (.int .nil)))))))))) (qe_op op_mod (qv 3) qe_int) (fun _ _=>rfl)))
   (qss_cons (qs_set (i:=5) scGi.nd rfl (Or.inr rfl) (qe_op op_fdiv qe_int (qe_callB (call_max2 rfl) (by rfl) zmax PyProof.Rows.boot_max (qa_cons qe_int (qa_cons (qv 4) qa_nil)))))
   (qss_cons (qs_set (i:=6) scGi.nd rfl (Or.inr rfl) (qe_lc (lc_mk (x:= "_law_k") (fvs:=["_law_pool_here", "_law_most", "_law_script", "_law_at"]) (fidx:=[2,5,0,1]) (defScope s_law_given) ["_law_script", "_law_at", "_law_pool_here", "_law_number", "_law_many", "_law_most", "_law_courses", "_law_orders"] rfl rfl (by decide +kernel)) rfl rfl (qi_range1 rfl zrange (qa_cons (qv 4) qa_nil)) (fun cl C s H ex=>(qe_callD dCourse (hr.mono (by decide)) rfl pass0 (qa_cons (qe_callD dCell (hr.mono (by decide)) rfl pass0 (qa_cons (qv 3) (qa_cons (qe_op op_add (qe_op op_add (qv 4) qe_int) (qv 0)) qa_nil))) (qa_cons (qv 1) (qa_cons (qv 2) qa_nil)))))))
   (qss_cons (qs_set (i:=4) scGi.nd rfl (Or.inl rfl) (qe_ix ix_list (qe_lst (qa_cs (.int (.int (.int (.int (.int (.int (.int (.int .nil)))))))))) (qe_op op_mod (qe_op op_fdiv (qv 3) qe_int) qe_int) (fun _ _=>rfl)))
   (qss_cons (qs_lc (j:=7) (lc_mk (x:= "_law_k") (fvs:=["_law_pool_here", "_law_courses", "_law_script", "_law_at"]) (fidx:=[2,6,0,1]) (defScope s_law_given) ["_law_script", "_law_at", "_law_pool_here", "_law_number", "_law_many", "_law_most", "_law_courses", "_law_orders"] rfl rfl (by decide +kernel)) rfl rfl scGi.nd rfl rfl (qi_range1 rfl zrange (qa_cons (qv 4) qa_nil)) (fun cl C s H ex=>(qe_callD dRule (hr.mono (by decide)) rfl pass0 (qa_cons (qe_callD dCell (hr.mono (by decide)) rfl pass0 (qa_cons (qv 3) (qa_cons (qe_op op_add (qe_op op_add (qv 4) qe_int) (qv 0)) qa_nil))) (qa_cons (qv 1) (qa_cons (qv 2) qa_nil))))))
   (qss_one (qs_ret (qe_tup (qa_cons (qv 2) (qa_cons (qv 6) (qa_cons (qv 7) qa_nil))))))))))))),?_⟩
  have zz:∀ {n:Nat},n≤100->n≤sizeLine:=fun h=>Nat.le_trans h (by decide +kernel)
  refine⟨_,rfl,_,rfl,a,ns,k0,rfl,hS,k00,fun c0=>⟨c0,rfl,fun pl ss H1 s1 hpl lss=>?_⟩⟩
  refine⟨_,rfl,_,rfl,_,_,rfl,rfl,a,ns,_,rfl,s1.seq hS,by (first|lia|omega),fun nu=>?_⟩
  obtain⟨m,em,mm⟩:=pick8 (m0:=2) (m1:=1) (m2:=3) (m3:=0) (m4:=2) (m5:=3) (m6:=4) (m7:=6) nu
  have m6:m≤6:=by simp at mm;(first|lia|omega)
  refine⟨zz (by show 8≤100;decide),fun l1 hl1=>?_⟩
  have u1:=sameUpd (o:= .lst [.int 2, .int 1, .int 3, .int 0, .int 2, .int 3, .int 4, .int 6]) hl1
  refine⟨_,rfl,_,_,rfl,rfl,(by show (0:Int)<8;decide),l1,_,_,_,rfl,rfl,SqL.of upd_same,em,?_⟩
  have sA:=s1.trans u1
  have hpl1:=u1 _ _ hpl
  generalize upd H1 l1 (.lst [.int 2, .int 1, .int 3, .int 0, .int 2, .int 3, .int 4, .int 6])=H2 at sA hpl1
  have mx:(1:Int)≤(if (m:Int)>1 then (m:Int) else 1)/\(if (m:Int)>1 then (m:Int) else 1)≤6/\(m:Int)≤(if (m:Int)>1 then (m:Int) else 1):=by split <;> (first|lia|omega)
  refine⟨_,rfl,_,_,rfl,_,_,rfl,rfl,⟨by (first|lia|omega),by (first|lia|omega)⟩,?_⟩
  generalize (if (m:Int)>1 then (m:Int) else 1)=g at mx
  have mo1:1≤16 / g:=Int.le_ediv_of_mul_le (by (first|lia|omega)) (by (first|lia|omega))
  have mo2:16 / g≤16:=Int.ediv_le_self g (by decide)
  have mo3:(m:Int) * (16 / g)≤16:=by
   have h1:(m:Int) * (16 / g)≤g * (16 / g):=Int.mul_le_mul_of_nonneg_right mx.2.2 (by (first|lia|omega))
   have h2:g * (16 / g)≤16:=Int.mul_ediv_self_le (by (first|lia|omega))
   (first|lia|omega)
  obtain⟨mo,emo⟩:∃ mo:Int,16 / g=mo:=⟨_,rfl⟩
  rw[emo] at mo1 mo2 mo3
  refine⟨_,rfl,_,rfl,by (first|lia|omega),by (first|lia|omega),lc_range (n:=m) (fun i ys H3=>∃ (cs:List Addr) (Cs:List Crs),ys=cs.map V.ref/\Cs.length=i/\Same H2 H3/\Fa (rpC K H3) ys Cs/\∀ c∈Cs,CrsOk c/\c.1.pw≤mo) ⟨[],[],rfl,rfl,Same.refl _, .nil,fun c hc=>by cases hc⟩ (fun i ys H3 hi z=>?_) ?_ ?_⟩
  ·obtain⟨cs,Cs,rfl,e,_,fc,_⟩:=z
   rw[fc.len,e,sizeLine_eq]
   (first|lia|omega)
  ·rintro i ys H3 hi ⟨cs,Cs,rfl,e,s3,fc,ok⟩
   refine⟨_,rfl,_,rfl,_,_,rfl,rfl,_,rfl,_,_,rfl,rfl,a,ns,_,rfl,(sA.trans s3).seq hS,by (first|lia|omega),fun c=>?_⟩
   refine⟨_,rfl,_,rfl,c,pl,ss,mo,(by rw[<- emo];rfl),SqL.of (s3 _ _ hpl1),lss,⟨mo1,by (first|lia|omega)⟩,fun r cr H4 s4 hr ok4 pm=>?_⟩
   refine⟨cs ++ [r],Cs ++ [cr],by rw[List.map_append];rfl,by rw[List.length_append,e];rfl,s3.trans s4,fa_snoc hr (fc.mono fun _ _=>rpC.mono s4),fun c hc=>?_⟩
   rcases List.mem_append.mp hc with z | z
   ·exact ok c z
   ·rw[List.mem_singleton.mp z]
    exact⟨ok4,pm⟩
  ·rintro ys H3 ⟨cs,Cs,rfl,e,s3,fc,ok⟩ cl hcl
   have u2:=sameUpd (o:= .lst (cs.map V.ref)) hcl
   have hc4:upd H3 cl (.lst (cs.map V.ref)) cl=some _:=upd_same
   have fc4:=fc.mono fun _ _=>rpC.mono u2
   have sB:=(sA.trans s3).trans u2
   have hpl4:=u2 _ _ (s3 _ _ hpl1)
   generalize upd H3 cl (.lst (cs.map V.ref))=H4 at hc4 fc4 sB hpl4
   obtain⟨m',em',mm'⟩:=pick8 (m0:=2) (m1:=1) (m2:=3) (m3:=4) (m4:=0) (m5:=2) (m6:=3) (m7:=12) (nu / 8)
   have m12:m'≤12:=by simp at mm';(first|lia|omega)
   refine⟨zz (by show 8≤100;decide),fun l2 hl2=>?_⟩
   have u3:=sameUpd (o:= .lst [.int 2, .int 1, .int 3, .int 4, .int 0, .int 2, .int 3, .int 12]) hl2
   refine⟨_,rfl,_,_,rfl,rfl,⟨by decide,by decide⟩,_,_,rfl,rfl,(by show (0:Int)<8;decide),l2,_,_,_,rfl,rfl,SqL.of upd_same,em',?_⟩
   have sC:=sB.trans u3
   have hpl5:=u3 _ _ hpl4
   have hc5:=u3 _ _ hc4
   have fc5:=fc4.mono fun _ _=>rpC.mono u3
   generalize upd H4 l2 (.lst [.int 2, .int 1, .int 3, .int 4, .int 0, .int 2, .int 3, .int 12])=H5 at sC hpl5 hc5 fc5
   refine⟨_,rfl,_,rfl,by (first|lia|omega),by (first|lia|omega),lc_range (n:=m') (fun i ys H6=>∃ (os:List Addr) (Rs:List Rl),ys=os.map V.ref/\Rs.length=i/\Same H5 H6/\Fa (rpR K H6) ys Rs/\∀ r∈Rs,RlOk r/\RlPos r) ⟨[],[],rfl,rfl,Same.refl _, .nil,fun c hc=>by cases hc⟩ (fun i ys H6 hi z=>?_) ?_ ?_⟩
   ·obtain⟨os,Rs,rfl,e,_,fr,_⟩:=z
    rw[fr.len,e,sizeLine_eq]
    (first|lia|omega)
   ·rintro i ys H6 hi ⟨os,Rs,rfl,e6,s6,fr,ok6⟩
    refine⟨_,rfl,_,rfl,_,_,rfl,rfl,_,rfl,_,_,rfl,rfl,a,ns,_,rfl,(sC.trans s6).seq hS,by (first|lia|omega),fun c=>?_⟩
    refine⟨_,rfl,_,rfl,c,pl,cl,ss,cs,Cs,rfl,SqL.of (s6 _ _ hpl5),lss,SqL.of (s6 _ _ hc5),fc5.mono fun _ _=>rpC.mono s6,by (first|lia|omega),fun c hc=>(ok c hc).1,fun r R H7 s7 hr ok7 po7=>?_⟩
    refine⟨os ++ [r],Rs ++ [R],by rw[List.map_append];rfl,by rw[List.length_append,e6];rfl,s6.trans s7,fa_snoc hr (fr.mono fun _ _=>rpR.mono s7),fun c hc=>?_⟩
    rcases List.mem_append.mp hc with z | z
    ·exact ok6 c z
    ·rw[List.mem_singleton.mp z]
     exact⟨ok7,po7⟩
   ·rintro ys H6 ⟨os,Rs,rfl,e6,s6,fr,ok6⟩ ol hol
    have u7:=sameUpd (o:= .lst (os.map V.ref)) hol
    refine⟨_,rfl,_,rfl,_,rfl,zz (by show 3≤100;decide),fun r hr=>?_⟩
    have u8:=sameUpd (o:= .tup [.ref pl, .ref cl, .ref ol]) hr
    refine k r pl cl ol cs os Cs Rs mo _ (((sC.trans s6).trans u7).trans u8) upd_same ⟨u8 _ _ (u7 _ _ (s6 _ _ hc5)),fc5.mono fun _ _=>rpC.mono ((s6.trans u7).trans u8),fun c hc=>(ok c hc).1,fun c hc=>(ok c hc).2,⟨mo1,by rw[e];exact mo3⟩,by (first|lia|omega),u8 _ _ upd_same,fr.mono fun _ _=>rpR.mono (u7.trans u8),ok6,by (first|lia|omega)⟩
end
end K54
set_option maxRecDepth 100000
set_option linter.all false
set_option maxHeartbeats 800000
set_option Elab.async false
namespace K54
open PySem L2 L3 X8 M01 L6 L5 QL
open L8 L9 L10 L11 L13 L14 L16 L20 L21 L22 L42 L44 L60 L61 L62 L66 L69 L70 M11 M13 M14 M20 M21
section
variable {P:Program} {w:World} {K:PySem.W.Frag} {mg:Str->Option Value} {base:Heap}
def dz (x:Str) (Cs:List Crs) (k:Int):Int:=match Cs[k.toNat]? with | some c=>(doseR c.1 x).1 | none=>0
theorem dz_at {x:Str} {Cs:List Crs} {j:Nat} {c:Crs} (e:Cs[j]?=some c):dz x Cs (j:Int)=(doseR c.1 x).1:=by
 unfold dz
 rw[Int.toNat_natCast,e]
structure Tk (K:PySem.W.Frag) (H:Hp) (cl el:Addr) (cvs:List V) (ps:List Addr) (Cs:List Crs) (es:List Ev):Prop where
 cl:SqL K H cl cvs
 fc:Fa (rpC K H) cvs Cs
 ok:∀ c∈Cs,CrsOk c
 el:H el=some (.lst (ps.map V.ref))
 fe:Fa (rpEv H) (ps.map V.ref) es
 le:es.length≤100
 ix:∀ e∈es,∃ k:Nat,k<Cs.length/\e.2.1=k
 bd:∀ e∈es,0≤e.1/\e.1<10 ^ 13
theorem Tk.mono {H H':Hp} {cl el:Addr} {cvs:List V} {ps:List Addr} {Cs:List Crs} {es:List Ev} (s:Same H H') (t:Tk K H cl el cvs ps Cs es):Tk K H' cl el cvs ps Cs es:=
 ⟨s.seq t.cl,t.fc.mono fun _ _=>rpC.mono s,t.ok,s _ _ t.el,t.fe.mono fun _ _=>ev_mono s,t.le,t.ix,t.bd⟩
theorem Tk.crs {H:Hp} {cl el:Addr} {cvs:List V} {ps:List Addr} {Cs:List Crs} {es:List Ev} (t:Tk K H cl el cvs ps Cs es) {e:Ev} (he:e∈es):∃ (j:Nat) (c:Crs) (pc rc:Addr),e.2.1=j/\Cs[j]?=some c/\atI cvs e.2.1=some (.ref pc)/\SqT K H pc [.ref rc, .int c.2]/\RcpAt K H rc c.1/\RcpOk c.1:=by
 obtain⟨j,hj,ej⟩:=t.ix e he
 have fl:=t.fc.len
 have ev:cvs[j]?=some (cvs[j]'(by (first|lia|omega))):=List.getElem?_eq_getElem (by (first|lia|omega))
 obtain⟨c,ec,pc,rc,ep,hpc,hrc⟩:=fa_at t.fc ev
 have ea:=atI_nat ev
 rw[ep, <- ej] at ea
 exact⟨j,c,pc,rc,ej,ec,ea,hpc,hrc,(t.ok c (List.mem_of_getElem? ec)).1⟩
def Hit (Cs:List Crs) (es:List Ev) (x y:Str) (n:Int):Prop:=∃ e∈es,∃ e'∈es,(e.1 - e'.1<n/\e'.1 - e.1<n)/\0<dz x Cs e.2.1/\0<dz y Cs e'.2.1
def spNr (K:PySem.W.Frag):Sp:=fun vs H Q _=>∃ (v:V) (cl el:Addr) (cvs:List V) (ps:List Addr) (Cs:List Crs) (es:List Ev) (x y:Str) (n:Int),vs=[v, .ref cl, .ref el]/\rpR K H v (.apart x y n)/\Tk K H cl el cvs ps Cs es/\¬ Hit Cs es x y n/\∀ H':Hp,Same H H'->Q (.bl false) H'
theorem scNr:FnScope ["_law_order", "_law_courses", "_law_events_here", "_law_hour", "_law_k", "_law_other", "_law_j"] ["_law_order", "_law_courses", "_law_events_here"] (defScope s_law_near):=⟨rfl,rfl,rfl,by decide +kernel,rfl,by decide +kernel,by decide +kernel⟩
theorem d_lnear (T:Th K mg "_law_near" s_law_near) (dDose:Def P w K mg base CX0 2 "_law_dose" ["_law_recipe", "_law_stuff"] (spDo K)) (zabs:mg "abs" = none):Def P w K mg base CX0 3 "_law_near" ["_law_order", "_law_courses", "_law_events_here"] (spNr K):=by
 refine QL.def_of T (fun _ _ _ _ _ _ us hl=>M21.len3 us hl fun _ _ _=>rfl) scNr (fun vs H Q E h=>?_) (fun f cdv A outer s H vs Q E hr h=>?_)
 ·obtain⟨v,cl,el,cvs,ps,Cs,es,x,y,n,rfl,_⟩:=h
  rfl
 ·obtain⟨v,cl,el,cvs,ps,Cs,es,x,y,n,rfl,hr_,tk,no,k⟩:=h
  refine⟨_,(qss_cons (qs_for PassesOwn.never rfl (qi_list (qv 2)) (qg_tup rfl (qgs_cons (qg_name (i:=3) scNr.nd rfl (Or.inl rfl)) (qgs_cons (qg_name (i:=4) scNr.nd rfl (Or.inl rfl)) qgs_nil)))
    (qss_one (qs_if (qt_cmpR op_gt (qe_ix ix_tup (qe_callD dDose (hr.mono (by decide)) rfl pass0 (qa_cons (qe_ix ix_tup (qe_ix ix_list (qv 1) (qv 4) (fun _ _=>rfl)) qe_int (fun _ _=>rfl)) (qa_cons (qe_ix ix_tup (qv 0) qe_int (fun _ _=>rfl)) qa_nil))) qe_int (fun _ _=>rfl)) qe_int (nomark _)) (qss_one (qs_for PassesOwn.never rfl (qi_list (qv 2)) (qg_tup rfl (qgs_cons (qg_name (i:=5) scNr.nd rfl (Or.inl rfl)) (qgs_cons (qg_name (i:=6) scNr.nd rfl (Or.inl rfl)) qgs_nil)))
    (qss_one (qs_if (QW.pt (qw_and (qt_cmpR op_lt (qe_callB call_abs (by rfl) zabs PyProof.Rows.boot_abs (qa_cons (qe_op op_sub (qv 3) (qv 5)) qa_nil)) (qe_ix ix_tup (qv 0) qe_int (fun _ _=>rfl)) (nomark _)) (qw_and1 (qt_cmpR op_gt (qe_ix ix_tup (qe_callD dDose (hr.mono (by decide)) rfl pass0 (qa_cons (qe_ix ix_tup (qe_ix ix_list (qv 1) (qv 6) (fun _ _=>rfl)) qe_int (fun _ _=>rfl)) (qa_cons (qe_ix ix_tup (qv 0) qe_int (fun _ _=>rfl)) qa_nil))) qe_int (fun _ _=>rfl)) qe_int (nomark _))))) (qss_one (qs_ret qe_bl)) qss_nil)))) qss_nil)))
   (qss_one (qs_ret qe_bl))),?_⟩
  obtain⟨p,rfl,hp⟩:=id hr_
  refine⟨_,rfl,el,rfl,⟨_,SqL.of tk.el⟩,for_list (K:=K) (a:=el) (xs:=ps.map V.ref) (fun i σ H2=>∃ v3 v4 v5 v6:Option V,σ=[some (.ref p),some (.ref cl),some (.ref el),v3,v4,v5,v6]/\Same H H2) ⟨none,none,none,none,rfl,Same.refl _⟩ ?_ ?_ ?_⟩
  ·rintro i σ H2 _ ⟨v3,v4,v5,v6,rfl,s2⟩
   exact SqL.of (s2 _ _ tk.el)
  ·rintro i v σ H2 hv ⟨v3,v4,v5,v6,rfl,s2⟩
   obtain⟨e,ee,he⟩:=fa_at tk.fe hv
   obtain⟨q,rfl,hq⟩:=ev_at he
   have me:=List.mem_of_getElem? ee
   obtain⟨j,c,pc,rc,ej,ec,ea,hpc,hrc,okc⟩:=(tk.mono s2).crs me
   refine⟨q,_,rfl,SqT.of (s2 _ _ hq),rfl,_,_,rfl,_,_,rfl,rfl,?_⟩
   refine⟨_,rfl,_,rfl,cl,_,_,_,rfl,rfl,s2.seq tk.cl,ea,pc,_,_,_,rfl,rfl,hpc,rfl,_,rfl,p,_,_,_,rfl,rfl,seqT s2 hp,rfl,rc,c.1,x,rfl,hrc,okc,fun r H3 s3 hr3=>?_⟩
   have s03:=s2.trans s3
   refine⟨r,_,_,_,rfl,rfl,SqT.of hr3,rfl,_,_,rfl,rfl,_,rfl,ite2 (fun c1=>?_) (fun c1=>?_)⟩
   ·have d1:0<dz x Cs e.2.1:=by
     rw[ej,dz_at ec]
     exact of_decide_eq_true c1
    refine⟨_,rfl,el,rfl,⟨_,SqL.of (s03 _ _ tk.el)⟩,for_list (K:=K) (a:=el) (xs:=ps.map V.ref) (fun i σ H4=>∃ v5 v6:Option V,σ=[some (.ref p),some (.ref cl),some (.ref el),some (.int e.1),some (.int e.2.1),v5,v6]/\Same H H4) ⟨v5,v6,rfl,s03⟩ ?_ ?_ ?_⟩
    ·rintro i σ H4 _ ⟨v5,v6,rfl,s4⟩
     exact SqL.of (s4 _ _ tk.el)
    ·rintro i v σ H4 hv ⟨v5,v6,rfl,s4⟩
     obtain⟨e',ee',he'⟩:=fa_at tk.fe hv
     obtain⟨q',rfl,hq'⟩:=ev_at he'
     have me':=List.mem_of_getElem? ee'
     obtain⟨j',c',pc',rc',ej',ec',ea',hpc',hrc',okc'⟩:=(tk.mono s4).crs me'
     refine⟨q',_,rfl,SqT.of (s4 _ _ hq'),rfl,_,_,rfl,_,_,rfl,rfl,?_⟩
     refine⟨_,rfl,_,rfl,_,_,rfl,rfl,_,rfl,_,rfl,p,_,_,_,rfl,rfl,seqT s4 hp,rfl,_,_,rfl,rfl,_,rfl,ite2 (fun c2=>?_) (fun c2=>?_)⟩
     ·refine⟨_,rfl,_,rfl,cl,_,_,_,rfl,rfl,s4.seq tk.cl,ea',pc',_,_,_,rfl,rfl,hpc',rfl,_,rfl,p,_,_,_,rfl,rfl,seqT s4 hp,rfl,rc',c'.1,y,rfl,hrc',okc',fun r' H5 s5 hr5=>?_⟩
      refine⟨r',_,_,_,rfl,rfl,SqT.of hr5,rfl,_,_,rfl,rfl,_,rfl,ite2 (fun c3=>?_) (fun c3=>?_)⟩
      ·have d2:0<dz y Cs e'.2.1:=by
        rw[ej',dz_at ec']
        exact of_decide_eq_true c3
       have c2':(if e.1 - e'.1<0 then -(e.1 - e'.1) else e.1 - e'.1)<n:=of_decide_eq_true c2
       refine absurd ⟨e,me,e',me',?_,d1,d2⟩ no
       split at c2' <;> (first|lia|omega)
      ·exact⟨_,_,rfl,s4.trans s5⟩
     ·exact⟨_,_,rfl,s4⟩
    ·rintro σ H4 ⟨v5,v6,rfl,s4⟩
     exact⟨_,_,_,_,rfl,s4⟩
   ·exact⟨_,_,_,_,rfl,s03⟩
  ·rintro σ H2 ⟨v3,v4,v5,v6,rfl,s2⟩
   exact k _ s2
end
end K54
set_option maxRecDepth 100000
set_option linter.all false
set_option maxHeartbeats 800000
set_option Elab.async false
namespace K54
open PySem L2 L3 X8 M01 L6 L5 QL
open L8 L9 L10 L11 L13 L14 L16 L20 L21 L22 L42 L44 L60 L61 L62 L66 L69 L70 M11 M13 M14 M20 M21
section
variable {P:Program} {w:World} {K:PySem.W.Frag} {mg:Str->Option Value} {base:Heap}
def SumU (x:Str) (Cs:List Crs) (W:Int->Bool) (es:List Ev) (t b:Int):Prop:=∀ B:Int,0<B->(∀ c∈Cs,(doseR c.1 x).2 ∣ B)->t * B=sumW W (es.map fun e=>(e.1,pk x B Cs e.2.1)) * b
theorem sumU_skip {x:Str} {Cs:List Crs} {W:Int->Bool} {es:List Ev} {e:Ev} {t b:Int} (h:SumU x Cs W es t b) (n:W e.1=false):SumU x Cs W (es ++ [e]) t b:=by
 intro B B0 dB
 rw[List.map_append,sumW_append,h B B0 dB]
 rw[List.map_singleton,sumW_cons,sumW_nil]
 dsimp only
 rw[n]
 simp
theorem sumU_add {x:Str} {Cs:List Crs} {W:Int->Bool} {es:List Ev} {e:Ev} {t b:Int} {c:Crs} (h:SumU x Cs W es t b) (y:W e.1=true) (ec:Cs[e.2.1.toNat]?=some c) (d0:0<(doseR c.1 x).2) :
  SumU x Cs W (es ++ [e]) (t * (doseR c.1 x).2+(doseR c.1 x).1 * b) (b * (doseR c.1 x).2):=by
 intro B B0 dB
 have e1:=h B B0 dB
 obtain⟨u,hu⟩:=dB c (List.mem_of_getElem? ec)
 have ep:pk x B Cs e.2.1=(doseR c.1 x).1 * u:=by
  unfold pk
  rw[ec]
  show parts x B c=_
  unfold parts
  rw[hu,Int.mul_ediv_cancel_left _ (by (first|lia|omega))]
 rw[List.map_append,sumW_append,List.map_singleton,sumW_cons,sumW_nil]
 dsimp only
 rw[y,if_pos rfl,ep,Int.add_zero]
 generalize sumW W (es.map fun e=>(e.1,pk x B Cs e.2.1))=S at *
 generalize doseR c.1 x=dd at *
 calc (t * dd.2+dd.1 * b) * B=(t * B) * dd.2+(dd.1 * b) * B:=by rw[Int.add_mul];congr 1;ac_rfl
  _=(S * b) * dd.2+(dd.1 * b) * (dd.2 * u):=by rw[e1,hu]
  _=S * (b * dd.2)+(dd.1 * u) * (b * dd.2):=by congr 1 <;> ac_rfl
  _=(S+dd.1 * u) * (b * dd.2):=by rw[Int.add_mul]
def rpPt (K:PySem.W.Frag):Rp (Int × Int × Int):=fun H v q=>∃ pp r,v= .ref pp/\SqT K H pp [.int q.1, .ref r]/\SqT K H r [.int q.2.1, .int q.2.2]
theorem rpPt.mono {H H':Hp} {v:V} {q:Int × Int × Int} (s:Same H H') (h:rpPt K H v q):rpPt K H' v q:=by
 obtain⟨pp,r,e,a,b⟩:=h
 exact⟨pp,r,e,seqT s a,seqT s b⟩
def dq (x:Str) (Cs:List Crs) (e:Ev):Int × Int × Int:=(e.1,match Cs[e.2.1.toNat]? with | some c=>doseR c.1 x | none=>(0,1))
theorem dq_at {x:Str} {Cs:List Crs} {e:Ev} {j:Nat} {c:Crs} (ej:e.2.1=j) (ec:Cs[j]?=some c):dq x Cs e=(e.1,doseR c.1 x):=by
 unfold dq
 rw[ej,Int.toNat_natCast,ec]
def Wf (f wd y:Int):Bool:=decide (f≤y/\y<f+wd)
def Over (Cs:List Crs) (es:List Ev) (x:Str) (wd t b:Int):Prop:=∃ f tt bb:Int,0<bb/\SumU x Cs (Wf f wd) es tt bb/\tt * b>t * bb
def spLo (K:PySem.W.Frag):Sp:=fun vs H Q _=>∃ (v:V) (cl el:Addr) (cvs:List V) (ps:List Addr) (Cs:List Crs) (es:List Ev) (day:Bool) (x:Str) (t b:Int),vs=[v, .ref cl, .ref el]/\rpR K H v (.lim day x t b)/\RlPos (.lim day x t b)/\Tk K H cl el cvs ps Cs es/\es≠[]/\¬ Over Cs es x (Rl.width (.lim day x t b)) t b/\∀ H':Hp,Same H H'->Q (.bl false) H'
theorem scOv:FnScope ["_law_order", "_law_courses", "_law_events_here", "_law_wide", "_law_parts", "_law_first", "_law_total", "_law_hour", "_law_more"] ["_law_order", "_law_courses", "_law_events_here"] (defScope s_law_over):=⟨rfl,rfl,rfl,by decide +kernel,rfl,by decide +kernel,by decide +kernel⟩
theorem d_over (T:Th K mg "_law_over" s_law_over) (dDose:Def P w K mg base CX0 2 "_law_dose" ["_law_recipe", "_law_stuff"] (spDo K)) (zint:mg "int" = none) (zrange:mg "range" = none):Def P w K mg base CX0 3 "_law_over" ["_law_order", "_law_courses", "_law_events_here"] (spLo K):=by
 refine QL.def_of T (fun _ _ _ _ _ _ us hl=>M21.len3 us hl fun _ _ _=>rfl) scOv (fun vs H Q E h=>?_) (fun f cdv A outer s H vs Q E hr h=>?_)
 ·obtain⟨v,cl,el,cvs,ps,Cs,es,day,x,t,b,rfl,_⟩:=h
  rfl
 ·obtain⟨v,cl,el,cvs,ps,Cs,es,day,x,t,b,rfl,hr_,⟨⟨t0,t1⟩,b0,b1⟩,tk,ne,no,k⟩:=h
  refine⟨_,(qss_cons (qs_set (i:=3) scOv.nd rfl (Or.inl rfl) (qe_ix ix_list (qe_lst (qa_cons qe_int (qa_cons qe_int qa_nil))) (qe_callTy call_int1 (by rfl) zint PyProof.Rows.boot_int (qa_cons (qe_cmpR op_eq (qe_ix ix_tup (qv 0) qe_int (fun _ _=>rfl)) qe_str (nomark _)) qa_nil)) (fun _ _=>rfl)))
   (qss_cons (qs_lcX (j:=4) (lc_mk2 (xs:=["_law_hour", "_law_k"]) (fvs:=["_law_order", "_law_courses"]) (fidx:=[0,1]) (defScope s_law_over) ["_law_order", "_law_courses", "_law_events_here", "_law_wide", "_law_parts", "_law_first", "_law_total", "_law_hour", "_law_more"] rfl rfl (by decide +kernel)) rfl rfl scOv.nd rfl rfl (qi_list (qv 2)) (fun cl C s H ex=>(qg_pair rfl (lc_mk2 (xs:=["_law_hour", "_law_k"]) (fvs:=["_law_order", "_law_courses"]) (fidx:=[0,1]) (defScope s_law_over) ["_law_order", "_law_courses", "_law_events_here", "_law_wide", "_law_parts", "_law_first", "_law_total", "_law_hour", "_law_more"] rfl rfl (by decide +kernel)))) (fun cl C s H ex=>qf_nil) (fun cl C s H ex=>(qe_tup (qa_cons (qv 0) (qa_cons (qe_callD dDose (hr.mono (by decide)) rfl pass0 (qa_cons (qe_ix (ix_tupK (K:=K) rfl) (qe_ix (ix_listK (K:=K) rfl) (qv 3) (qv 1) (fun _ _=>rfl)) qe_int (fun _ _=>rfl)) (qa_cons (qe_ix (ix_tupK (K:=K) rfl) (qv 2) qe_int (fun _ _=>rfl)) qa_nil))) qa_nil)))) (fun _=>keep_pair))
   (qss_cons (qs_for PassesOwn.never rfl (qi_range2 rfl zrange (qa_cons (qe_op op_sub (qe_ix ix_tup (qe_ix ix_list (qv 2) qe_int (fun _ _=>rfl)) qe_int (fun _ _=>rfl)) qe_int) (qa_cons (qe_op op_add (qe_ix ix_tup (qe_ix ix_list (qv 2) (qe_un un_neg qe_int) (fun _ _=>rfl)) qe_int (fun _ _=>rfl)) qe_int) qa_nil))) (qg_name (i:=5) scOv.nd rfl (Or.inl rfl))
    (qss_cons (qs_set (i:=6) scOv.nd rfl (Or.inl rfl) (qe_tup (qa_cons qe_int (qa_cons qe_int qa_nil))))
   (qss_cons (qs_for PassesOwn.never rfl (qi_list (qv 4)) (qg_tup rfl (qgs_cons (qg_name (i:=7) scOv.nd rfl (Or.inl rfl)) (qgs_cons (qg_name (i:=8) scOv.nd rfl (Or.inl rfl)) qgs_nil)))
    (qss_one (qs_if (qt_chain op_le op_lt (qv 5) (qv 7) (qe_op op_add (qv 5) (qv 3))) (qss_one (qs_set (i:=6) scOv.nd rfl (Or.inl rfl) (qe_tup (qa_cons (qe_op op_add (qe_op op_mul (qe_ix ix_tup (qv 6) qe_int (fun _ _=>rfl)) (qe_ix ix_tup (qv 8) qe_int (fun _ _=>rfl))) (qe_op op_mul (qe_ix ix_tup (qv 8) qe_int (fun _ _=>rfl)) (qe_ix ix_tup (qv 6) qe_int (fun _ _=>rfl)))) (qa_cons (qe_op op_mul (qe_ix ix_tup (qv 6) qe_int (fun _ _=>rfl)) (qe_ix ix_tup (qv 8) qe_int (fun _ _=>rfl))) qa_nil))))) qss_nil)))
   (qss_one (qs_if (qt_cmpR op_gt (qe_op op_mul (qe_ix ix_tup (qv 6) qe_int (fun _ _=>rfl)) (qe_ix ix_tup (qe_ix ix_tup (qv 0) qe_int (fun _ _=>rfl)) qe_int (fun _ _=>rfl))) (qe_op op_mul (qe_ix ix_tup (qe_ix ix_tup (qv 0) qe_int (fun _ _=>rfl)) qe_int (fun _ _=>rfl)) (qe_ix ix_tup (qv 6) qe_int (fun _ _=>rfl))) (nomark _)) (qss_one (qs_ret qe_bl)) qss_nil)))))
   (qss_one (qs_ret qe_bl))))),?_⟩
  obtain⟨p,am,rfl,hp,ham⟩:=id hr_
  have z2:2≤sizeLine:=by decide
  have fel:=tk.fe.len
  rw[List.length_map] at fel
  have le:=tk.le
  have n0:0<es.length:=List.length_pos_iff.mpr ne
  refine⟨z2,fun wl hwl=>?_⟩
  have u1:=sameUpd (o:= .lst [.int 1, .int 24]) hwl
  have ew:atI [V.int 1, .int 24] (if decide (V.str (Rl.word (.lim day x t b))=V.str "day")=true then 1 else 0)=some (.int (Rl.width (.lim day x t b))):=by
   cases day
   ·rw[show (decide (V.str (Rl.word (.lim false x t b))=V.str "day"))=false from decide_eq_false (by show ¬ V.str "once" = V.str "day"; decide +kernel)]
    rfl
   ·rw[show (decide (V.str (Rl.word (.lim true x t b))=V.str "day"))=true from decide_eq_true rfl]
    rfl
  refine⟨_,rfl,p,_,_,_,rfl,rfl,seqT u1 hp,rfl,rfl, .inr ⟨_,rfl,wl,_,_,_,rfl,rfl,SqL.of upd_same,ew,?_⟩⟩
  generalize upd H wl (.lst [.int 1, .int 24])=H1 at u1
  generalize ewd:Rl.width (.lim day x t b)=wd at no
  have tk1:=tk.mono u1
  refine⟨_,rfl,el,rfl,⟨_,SqL.of tk1.el⟩,pairs_list (K:=K) (a:=el) (ps.map V.ref) (fun i ys H2=>Same H1 H2/\Fa (rpPt K H2) ys ((es.take i).map (dq x Cs))) ⟨Same.refl _, .nil⟩ (fun i ys H2 hi z=>?_) (fun i v ys H2 hv z=>?_) (fun ys H2 z=>?_)⟩
  ·obtain⟨s2,ff⟩:=z
   refine⟨?_,SqL.of (s2 _ _ tk1.el)⟩
   rw[ff.len,List.length_map,List.length_take,sizeLine_eq]
   (first|lia|omega)
  ·obtain⟨s2,ff⟩:=z
   obtain⟨e,ee,he⟩:=fa_at tk.fe hv
   obtain⟨q,rfl,hq⟩:=ev_at he
   have s02:=u1.trans s2
   obtain⟨j,c,pc,rc,ej,ec,ea,hpc,hrc,okc⟩:=(tk.mono s02).crs (List.mem_of_getElem? ee)
   refine⟨q,_,_,rfl,SqT.of (s02 _ _ hq),?_⟩
   unfold tNone
   dsimp only
   rw[if_pos rfl]
   refine⟨_,rfl,_,rfl,_,rfl,cl,_,_,_,rfl,rfl,s02.seq tk.cl,ea,pc,_,_,_,rfl,rfl,hpc,rfl,_,rfl,p,_,_,_,rfl,rfl,seqT s02 hp,rfl,rc,c.1,x,rfl,hrc,okc,fun r H3 s3 hr3=>⟨z2,fun tt htt=>?_⟩⟩
   have u:=sameUpd (o:= .tup [V.int e.1, .ref r]) htt
   refine⟨(s2.trans s3).trans u,?_⟩
   rw[take_snoc ee,List.map_append]
   refine fa_snoc ?_ (ff.mono fun _ _=>rpPt.mono (s3.trans u))
   rw[dq_at ej ec]
   exact⟨tt,r,rfl,SqT.of upd_same,SqT.of (u _ _ hr3)⟩
  ·obtain⟨s2,ff⟩:=z
   intro pl hpl
   rw[List.length_map,fel,List.take_length] at ff
   have u3:=sameUpd (o:= .lst ys) hpl
   have s3:=(u1.trans s2).trans u3
   have hpl3:upd H2 pl (.lst ys) pl=some _:=upd_same
   have ff:=ff.mono fun _ _=>rpPt.mono u3
   generalize upd H2 pl (.lst ys)=H3 at s3 hpl3 ff
   dsimp only[tSeq]
   have tk3:=tk.mono s3
   have fyl:=ff.len
   rw[List.length_map] at fyl
   have e0:(ps.map V.ref)[0]?=some (.ref (ps[0]'(by (first|lia|omega)))):=by rw[List.getElem?_map,List.getElem?_eq_getElem (by (first|lia|omega))];rfl
   have eL:(ps.map V.ref)[ps.length - 1]?=some (.ref (ps[ps.length - 1]'(by (first|lia|omega)))):=by rw[List.getElem?_map,List.getElem?_eq_getElem (by (first|lia|omega))];rfl
   obtain⟨ev0,ee0,he0⟩:=fa_at tk3.fe e0
   obtain⟨q0,eq0,hq0⟩:=ev_at he0
   obtain⟨evL,eeL,heL⟩:=fa_at tk3.fe eL
   obtain⟨qL,eqL,hqL⟩:=ev_at heL
   have a0:=atI_nat e0
   have bd0:=tk.bd _ (List.mem_of_getElem? ee0)
   have bdL:=tk.bd _ (List.mem_of_getElem? eeL)
   have aL:atI (ps.map V.ref) (-1)=some (.ref qL):=by
    have e:ixN (ps.map V.ref).length (-1)=some (ps.length - 1):=by
     unfold ixN
     rw[List.length_map,if_neg (by decide),if_pos (by (first|lia|omega))]
     congr 1
     (first|lia|omega)
    unfold atI
    rw[e, <- eqL]
    exact eL
   rw[eq0] at a0
   refine⟨_,rfl,el,_,_,_,rfl,rfl,SqL.of tk3.el,a0,q0,_,_,_,rfl,rfl,SqT.of hq0,rfl,_,_,rfl,rfl,?_⟩
   refine⟨_,rfl,_,rfl,el,_,_,_,rfl,rfl,SqL.of tk3.el,aL,qL,_,_,_,rfl,rfl,SqT.of hqL,rfl,_,_,rfl,rfl,_,_,rfl,⟨by (first|lia|omega),by (first|lia|omega),by (first|lia|omega),by (first|lia|omega)⟩,?_⟩
   refine for_range (fun i σ H4=>∃ v5 v6 v7 v8:Option V,σ=[some (.ref p),some (.ref cl),some (.ref el),some (.int wd),some (.ref pl),v5,v6,v7,v8]/\Same H3 H4) ⟨none,none,none,none,by rw[<- ewd];rfl,Same.refl _⟩ ?_ ?_
   ·rintro i σ H4 hi ⟨v5,v6,v7,v8,rfl,s4⟩
    obtain⟨f,ef⟩:∃ f:Int,ev0.1 - 24+(i:Int)=f:=⟨_,rfl⟩
    refine⟨z2,fun q5 hq5=>?_⟩
    have u5:=sameUpd (o:= .tup [V.int 0,V.int 1]) hq5
    have s5:=s4.trans u5
    have h5:upd H4 q5 (.tup [V.int 0,V.int 1]) q5=some _:=upd_same
    generalize upd H4 q5 (.tup [V.int 0,V.int 1])=H5 at s5 h5
    refine⟨_,rfl,pl,rfl,⟨_,SqL.of (s5 _ _ hpl3)⟩,for_list (K:=K) (a:=pl) (xs:=ys) (fun i σ H6=>∃ (tq:Addr) (tt bb:Int) (v7 v8:Option V),σ=[some (.ref p),some (.ref cl),some (.ref el),some (.int wd),some (.ref pl),some (.int f),some (.ref tq),v7,v8]/\Same H3 H6/\H6 tq=some (.tup [.int tt, .int bb])/\0<bb/\SumU x Cs (Wf f wd) (es.take i) tt bb) ⟨q5,0,1,v7,v8,by rw[<- ef];rfl,s5,h5,by decide,fun B _ _=>by show (0:Int) * B=0 * 1;(first|lia|omega)⟩ ?_ ?_ ?_⟩
    ·rintro i σ H6 _ ⟨tq,tt,bb,v7,v8,rfl,s6,_⟩
     exact SqL.of (s6 _ _ hpl3)
    ·rintro i y σ H6 hy ⟨tq,tt,bb,v7,v8,rfl,s6,htq,bb0,su⟩
     obtain⟨q,eq,pp,r,rfl,hpp,hr6⟩:=fa_at ff hy
     rw[List.getElem?_map] at eq
     obtain⟨e,ee,rfl⟩:=Option.map_eq_some_iff.mp eq
     obtain⟨j,c,_,_,ej,ec,_,_,_,okc⟩:=tk3.crs (List.mem_of_getElem? ee)
     rw[dq_at ej ec] at hpp hr6
     have hpp:=seqT s6 hpp
     have hr6:=seqT s6 hr6
     obtain⟨_,⟨d1,d2⟩,d3,d4⟩:=doseR_ok okc x
     rw[take_snoc ee]
     have wf:¬ (f≤e.1/\e.1<f+wd)->SumU x Cs (Wf f wd) (es.take i ++ [e]) tt bb:=fun n=>sumU_skip su (decide_eq_false n)
     refine⟨pp,_,rfl,hpp,rfl,_,_,rfl,_,_,rfl,rfl,?_⟩
     refine⟨_,rfl,_,rfl,_,_,rfl,rfl,_,rfl,ite2 (fun c1=>?_) (fun c1=>?_)⟩
     ·have c1':f≤e.1:=of_decide_eq_true c1
      refine⟨_,rfl,_,rfl,_,_,rfl,rfl,_,_,rfl,rfl,_,rfl,ite2 (fun c2=>?_) (fun c2=>?_)⟩
      ·have c2':e.1<f+wd:=of_decide_eq_true c2
       have sa:=sumU_add (c:=c) su (decide_eq_true ⟨c1',c2'⟩) (by rw[ej];exact ec) (by (first|lia|omega))
       generalize doseR c.1 x=dd at hpp hr6 d1 d2 d3 d4 sa
       refine⟨_,rfl,tq,_,_,_,rfl,rfl,SqT.of htq,rfl,_,rfl,r,_,_,_,rfl,rfl,hr6,rfl,_,_,rfl,rfl, .inr ⟨by show -(2 ^ 64)<dd.2;(first|lia|omega),by show dd.2<2 ^ 64;(first|lia|omega)⟩,?_⟩
       refine⟨_,rfl,r,_,_,_,rfl,rfl,hr6,rfl,_,rfl,tq,_,_,_,rfl,rfl,SqT.of htq,rfl,_,_,rfl,rfl, .inl ⟨by show -(2 ^ 64)<dd.1;(first|lia|omega),by show dd.1<2 ^ 64;(first|lia|omega)⟩,_,_,rfl,rfl,?_⟩
       refine⟨_,rfl,tq,_,_,_,rfl,rfl,SqT.of htq,rfl,_,rfl,r,_,_,_,rfl,rfl,hr6,rfl,_,_,rfl,rfl, .inr ⟨by show -(2 ^ 64)<dd.2;(first|lia|omega),by show dd.2<2 ^ 64;(first|lia|omega)⟩,z2,fun q7 hq7=>?_⟩
       exact⟨q7,_,_,_,_,rfl,s6.trans (sameUpd hq7),upd_same,Int.mul_pos bb0 (show 0<dd.2 by (first|lia|omega)),sa⟩
      ·exact⟨tq,tt,bb,_,_,rfl,s6,htq,bb0,wf fun z=>c2 (decide_eq_true z.2)⟩
     ·exact⟨_,rfl,iteF ⟨tq,tt,bb,_,_,rfl,s6,htq,bb0,wf fun z=>c1 (decide_eq_true z.1)⟩⟩
    ·rintro σ H6 ⟨tq,tt,bb,v7,v8,rfl,s6,htq,bb0,su⟩
     rw[fyl,List.take_length] at su
     have s06:=s3.trans s6
     refine⟨_,rfl,tq,_,_,_,rfl,rfl,SqT.of htq,rfl,_,rfl,p,_,_,_,rfl,rfl,seqT s06 hp,rfl,am,_,_,_,rfl,rfl,seqT s06 ham,rfl,_,_,rfl,rfl, .inr ⟨by (first|lia|omega),by (first|lia|omega)⟩,?_⟩
     refine⟨_,rfl,p,_,_,_,rfl,rfl,seqT s06 hp,rfl,am,_,_,_,rfl,rfl,seqT s06 ham,rfl,_,rfl,tq,_,_,_,rfl,rfl,SqT.of htq,rfl,_,_,rfl,rfl, .inl ⟨by (first|lia|omega),by (first|lia|omega)⟩,_,_,rfl,rfl,_,rfl,ite2 (fun c=>?_) (fun _=>?_)⟩
     ·exact absurd ⟨f,tt,bb,bb0,su,of_decide_eq_true c⟩ no
     ·exact⟨_,_,_,_,rfl,s6⟩
   ·rintro σ H4 ⟨v5,v6,v7,v8,rfl,s4⟩
    exact k _ (s3.trans s4)
def Calm (Cs:List Crs) (es:List Ev) (r:Rl):Prop:=match r with
 | .lim day x t b=>es≠[]->¬ Over Cs es x (Rl.width (.lim day x t b)) t b
 | .apart x y n=>¬ Hit Cs es x y n
def spFe (K:PySem.W.Frag):Sp:=fun vs H Q _=>∃ (ol cl el:Addr) (ovs cvs:List V) (ps:List Addr) (Rs:List Rl) (Cs:List Crs) (es:List Ev),vs=[.ref ol, .ref cl, .ref el]/\SqL K H ol ovs/\Fa (rpR K H) ovs Rs/\Tk K H cl el cvs ps Cs es/\(∀ r∈Rs,RlPos r/\Calm Cs es r)/\∀ H':Hp,Same H H'->Q (.bl true) H'
theorem scFe:FnScope ["_law_orders", "_law_courses", "_law_events_here", "_law_order"] ["_law_orders", "_law_courses", "_law_events_here"] (defScope s_law_free):=⟨rfl,rfl,rfl,by decide +kernel,rfl,by decide +kernel,by decide +kernel⟩
theorem d_free (T:Th K mg "_law_free" s_law_free) (dNr:Def P w K mg base CX0 3 "_law_near" ["_law_order", "_law_courses", "_law_events_here"] (spNr K)) (dOv:Def P w K mg base CX0 3 "_law_over" ["_law_order", "_law_courses", "_law_events_here"] (spLo K)):Def P w K mg base CX0 4 "_law_free" ["_law_orders", "_law_courses", "_law_events_here"] (spFe K):=by
 refine QL.def_of T (fun _ _ _ _ _ _ us hl=>M21.len3 us hl fun _ _ _=>rfl) scFe (fun vs H Q E h=>?_) (fun f cdv A outer s H vs Q E hr h=>?_)
 ·obtain⟨ol,cl,el,ovs,cvs,ps,Rs,Cs,es,rfl,_⟩:=h
  rfl
 ·obtain⟨ol,cl,el,ovs,cvs,ps,Rs,Cs,es,rfl,hol,fo,tk,cm,k⟩:=h
  refine⟨_,(qss_cons (qs_if (qt_cmpR (L70.op_eqRefs (K:=K) rfl (hu_of hr |> Nat.lt_of_succ_lt)) (qv 2) (qe_lst qa_nil) (nomark _)) (qss_one (qs_ret qe_bl)) qss_nil)
   (qss_cons (qs_for PassesOwn.never rfl (qi_list (qv 0)) (qg_name (i:=3) scFe.nd rfl (Or.inl rfl))
    (qss_cons (qs_if (QW.pt (qw_and (qt_cmpR op_eq (qe_ix ix_tup (qv 3) qe_int (fun _ _=>rfl)) qe_str (nomark _)) (qw_and1 (qt_val (qe_callD dNr (hr.mono (by decide)) rfl pass0 (qa_cons (qv 3) (qa_cons (qv 1) (qa_cons (qv 2) qa_nil)))))))) (qss_one (qs_ret qe_bl)) qss_nil)
   (qss_one (qs_if (QW.pt (qw_and (qt_cmpR op_ne (qe_ix ix_tup (qv 3) qe_int (fun _ _=>rfl)) qe_str (nomark _)) (qw_and1 (qt_val (qe_callD dOv (hr.mono (by decide)) rfl pass0 (qa_cons (qv 3) (qa_cons (qv 1) (qa_cons (qv 2) qa_nil)))))))) (qss_one (qs_ret qe_bl)) qss_nil))))
   (qss_one (qs_ret qe_bl)))),?_⟩
  have fel:=tk.fe.len
  rw[List.length_map] at fel
  refine⟨_,rfl,(by show 0≤sizeLine;decide),fun nl hnl=>?_⟩
  have u1:=sameUpd (o:= .lst []) hnl
  have h1:upd H nl (.lst []) nl=some (.lst []):=upd_same
  generalize upd H nl (.lst [])=H1 at u1 h1
  refine⟨el,nl,ps,[],rfl,rfl,SqL.of (u1 _ _ tk.el),SqL.of h1,?_⟩
  by_cases cz:ps=[]
  ·exact .inl ⟨cz,_,rfl,iteT (k _ u1)⟩
  ·have p0:ps.length≠0:=fun e=>cz (List.eq_nil_of_length_eq_zero e)
   have ne:es≠[]:=fun e=>p0 (by rw[fel,e];rfl)
   refine .inr ⟨p0,_,rfl,iteF ?_⟩
   refine⟨_,rfl,ol,rfl,⟨_,u1.seq hol⟩,for_list (K:=K) (a:=ol) (xs:=ovs) (fun i σ H2=>∃ v3:Option V,σ=[some (.ref ol),some (.ref cl),some (.ref el),v3]/\Same H H2) ⟨none,rfl,u1⟩ ?_ ?_ ?_⟩
   ·rintro i σ H2 _ ⟨v3,rfl,s2⟩
    exact s2.seq hol
   ·rintro i v σ H2 hv ⟨v3,rfl,s2⟩
    obtain⟨r,er,hr_⟩:=fa_at fo hv
    have hr2:=rpR.mono s2 hr_
    obtain⟨pos,clm⟩:=cm r (List.mem_of_getElem? er)
    cases r with
    | apart x y n=>
     obtain⟨p,rfl,hp⟩:=id hr2
     refine⟨_,rfl,p,_,_,_,rfl,rfl,hp,rfl,rfl,_,rfl,ite2 (fun _=>?_) (fun c=>absurd (decide_eq_true rfl) c)⟩
     refine⟨_,rfl,_,rfl,_,rfl,_,cl,el,cvs,ps,Cs,es,x,y,n,rfl,hr2,tk.mono s2,clm,fun H3 s3=>⟨_,rfl,iteF ?_⟩⟩
     refine⟨_,rfl,p,_,_,_,rfl,rfl,seqT s3 hp,rfl,rfl,_,rfl,ite2 (fun c=>absurd c (by rw[decide_eq_true rfl];decide)) (fun _=>⟨_,rfl,s2.trans s3⟩)⟩
    | lim day x t b=>
     obtain⟨p,am,rfl,hp,_⟩:=id hr2
     have n:¬ V.str (Rl.word (.lim day x t b))=V.str "apart" := by
      cases day
      ·show ¬ V.str "once" = V.str "apart"
       decide +kernel
      ·show ¬ V.str "day" = V.str "apart"
       decide +kernel
     refine⟨_,rfl,p,_,_,_,rfl,rfl,hp,rfl,rfl,_,rfl,ite2 (fun c=>absurd (of_decide_eq_true c) n) (fun _=>?_)⟩
     refine⟨_,rfl,p,_,_,_,rfl,rfl,hp,rfl,rfl,_,rfl,ite2 (fun _=>?_) (fun c=>absurd (by rw[decide_eq_false n];rfl) c)⟩
     exact⟨_,rfl,_,rfl,_,rfl,_,cl,el,cvs,ps,Cs,es,day,x,t,b,rfl,hr2,pos,tk.mono s2,ne,clm ne,fun H3 s3=>⟨_,rfl,iteF ⟨_,rfl,s2.trans s3⟩⟩⟩
   ·rintro σ H2 ⟨v3,rfl,s2⟩
    exact k _ s2
end
end K54
set_option maxRecDepth 100000
set_option linter.all false
set_option maxHeartbeats 800000
set_option Elab.async false
namespace K54
open PySem L2 L3 X8 M01 L6 L5 QL
open L8 L9 L10 L11 L13 L14 L16 L20 L21 L22 L42 L44 L60 L61 L62 L66 L69 L70 M11 M13 M14 M20 M21
section
variable {P:Program} {w:World} {K:PySem.W.Frag} {mg:Str->Option Value} {base:Heap}
theorem size21 (m:Int) (h0:0≤m) (h1:m≤100):Builtin.Range.small 0 m 21=true/\0≤Builtin.Range.rangeSize 0 m 21/\Builtin.Range.rangeSize 0 m 21≤100:=by
 have e:Builtin.Range.rangeSize 0 m 21=if 0<m then (m - 0 - 1) / 21+1 else 0:=by
  unfold Builtin.Range.rangeSize
  rw[if_pos (by decide)]
 have b:0≤Builtin.Range.rangeSize 0 m 21/\Builtin.Range.rangeSize 0 m 21≤100:=by rw[e];split <;> (first|lia|omega)
 refine⟨?_,b⟩
 unfold Builtin.Range.small
 simp only[Builtin.Range.rangeFitsLong,Bool.and_eq_true,Bool.or_eq_true,decide_eq_true_eq,beq_iff_eq]
 generalize Builtin.Range.rangeSize 0 m 21=z at b ⊢
 rw[if_pos (show (21:Int)>0 by decide),Bool.and_eq_true,decide_eq_true_eq,decide_eq_true_eq]
 (first|lia|omega)
theorem hrs_le {c:Crs} {mo:Int} (h:CrsOk c) (m:c.1.pw≤mo):((hrs c).length:Int)≤mo:=by
 unfold hrs dueH
 rw[List.length_map,List.length_range]
 have p:=h.1.pw
 have q:=h.1.tk
 have:=Int.ediv_le_self c.1.tk (show 0≤c.1.pw by (first|lia|omega))
 have:=Int.ediv_nonneg (show 0≤c.1.pw by (first|lia|omega)) (show 0≤c.1.tk by (first|lia|omega))
 (first|lia|omega)
theorem hours_le {mo:Int}:∀ {Cs:List Crs},(∀ c∈Cs,CrsOk c)->(∀ c∈Cs,c.1.pw≤mo)->((hours Cs).length:Int)≤(Cs.length:Int) * mo
 | [],_,_=>by show (0:Int)≤0 * mo;(first|lia|omega)
 | c :: r,h,m=>by
  have h1:=hours_le (mo:=mo) (Cs:=r) (fun d hd=>h d (List.mem_cons_of_mem _ hd)) (fun d hd=>m d (List.mem_cons_of_mem _ hd))
  have h2:=hrs_le (h c (List.mem_cons_self ..)) (m c (List.mem_cons_self ..))
  unfold hours at *
  rw[List.flatMap_cons,List.length_append,List.length_cons]
  have:((r.length+1:Nat):Int) * mo=r.length * mo+mo:=by rw[Int.natCast_add,Int.add_mul];(first|lia|omega)
  (first|lia|omega)
theorem sumW_nn {W:Int->Bool}:∀ {L:List (Int × Int)},(∀ q∈L,0≤q.2)->0≤sumW W L
 | [],_=>Int.le_refl 0
 | q :: r,h=>by
  have h1:=sumW_nn (W:=W) (L:=r) fun x hx=>h x (List.mem_cons_of_mem _ hx)
  have h2:=h q (List.mem_cons_self ..)
  rw[sumW_cons]
  split <;> (first|lia|omega)
theorem sumW_pos {W:Int->Bool}:∀ {L:List (Int × Int)} {q:Int × Int},(∀ q∈L,0≤q.2)->q∈L->W q.1=true->0<q.2->0<sumW W L
 | [],q,_,m,_,_=>by cases m
 | p :: r,q,h,m,w1,w2=>by
  have h2:=h p (List.mem_cons_self ..)
  rw[sumW_cons]
  rcases List.mem_cons.mp m with z | z
  ·rw[<- z,if_pos w1]
   have:=sumW_nn (W:=W) (L:=r) fun x hx=>h x (List.mem_cons_of_mem _ hx)
   (first|lia|omega)
  ·have:=sumW_pos (W:=W) (L:=r) (fun x hx=>h x (List.mem_cons_of_mem _ hx)) z w1 w2
   split <;> (first|lia|omega)
theorem sumW_le {W V:Int->Bool} {g:Ev->Int × Int} {q:Ev->Bool}:∀ {es:List Ev},(∀ e∈es,0≤(g e).2)->(∀ e∈es,q e=true->W (g e).1=true->V (g e).1=true)->sumW W ((es.filter q).map g)≤sumW V (es.map g)
 | [],_,_=>Int.le_refl 0
 | e :: r,h,k=>by
  have ih:=sumW_le (W:=W) (V:=V) (g:=g) (q:=q) (es:=r) (fun x hx=>h x (List.mem_cons_of_mem _ hx)) (fun x hx=>k x (List.mem_cons_of_mem _ hx))
  have h2:=h e (List.mem_cons_self ..)
  have k2:=k e (List.mem_cons_self ..)
  rw[List.map_cons,sumW_cons,List.filter_cons]
  cases hq:q e with
  | false=>
   rw[if_neg (by decide)]
   split <;> (first|lia|omega)
  | true=>
   rw[if_pos rfl,List.map_cons,sumW_cons]
   by_cases w1:W (g e).1=true
   ·rw[if_pos w1,if_pos (k2 hq w1)]
    (first|lia|omega)
   ·rw[if_neg w1]
    split <;> (first|lia|omega)
theorem top_of {W:Int->Bool}:∀ {es:List Ev},(∃ e∈es,W e.1=true)->∃ e∈es,W e.1=true/\∀ e2∈es,W e2.1=true->e2.1≤e.1
 | [],h=>by obtain⟨e,m,_⟩:=h;cases m
 | p :: r,h=>by
  by_cases z:∃ e∈r,W e.1=true
  ·obtain⟨e,m,w1,mx⟩:=top_of z
   by_cases y:W p.1=true/\e.1<p.1
   ·refine⟨p,List.mem_cons_self ..,y.1,fun e2 m2 w2=>?_⟩
    rcases List.mem_cons.mp m2 with g | g
    ·rw[g];exact Int.le_refl _
    ·have:=mx e2 g w2
     (first|lia|omega)
   ·refine⟨e,List.mem_cons_of_mem _ m,w1,fun e2 m2 w2=>?_⟩
    rcases List.mem_cons.mp m2 with g | g
    ·rw[g] at w2 ⊢
     by_cases l:e.1<p.1
     ·exact absurd ⟨w2,l⟩ y
     ·(first|lia|omega)
    ·exact mx e2 g w2
  ·obtain⟨e,m,w1⟩:=h
   rcases List.mem_cons.mp m with g | g
   ·subst g
    refine⟨e,List.mem_cons_self ..,w1,fun e2 m2 w2=>?_⟩
    rcases List.mem_cons.mp m2 with g | g
    ·rw[g];exact Int.le_refl _
    ·exact absurd ⟨e2,g,w2⟩ z
   ·exact absurd ⟨e,g,w1⟩ z
theorem div_pos_of {d B:Int} (d0:0<d) (B0:0<B) (h:d ∣ B):0<B / d:=by
 obtain⟨u,rfl⟩:=h
 rw[Int.mul_ediv_cancel_left _ (by (first|lia|omega))]
 by_cases z:0<u
 ·exact z
 ·have:=Int.mul_nonpos_of_nonneg_of_nonpos (show 0≤d by (first|lia|omega)) (show u≤0 by (first|lia|omega))
  (first|lia|omega)
theorem pk_ok {x:Str} {B:Int} {Cs:List Crs} (okC:∀ c∈Cs,CrsOk c) (B0:0<B) (dB:∀ c∈Cs,(doseR c.1 x).2 ∣ B) (k:Int):0≤pk x B Cs k/\(0<dz x Cs k->0<pk x B Cs k):=by
 unfold pk dz
 cases e:Cs[k.toNat]? with
 | none=>exact⟨Int.le_refl _,fun h=>h⟩
 | some c=>
  have mc:=List.mem_of_getElem? e
  obtain⟨_,⟨d1,_⟩,d3,_⟩:=doseR_ok (okC c mc).1 x
  have q:=div_pos_of (show 0<(doseR c.1 x).2 by (first|lia|omega)) B0 (dB c mc)
  exact⟨Int.mul_nonneg d1 (by (first|lia|omega)),fun h=>Int.mul_pos h q⟩
theorem calm_of {Cs:List Crs} {es:List Ev} {r:Rl} {o:Option Int} {q:Ev->Bool} (okC:∀ c∈Cs,CrsOk c) (pm:es.Perm (evN Cs Cs.length)) (fb_:FirstB Cs r o) (hq:∀ e,q e=true->∀ h0,o=some h0->e.1<h0) (pos:RlPos r):Calm Cs (es.filter q) r:=by
 have hr_:∀ e∈es,e.1∈hours Cs:=fun e he=>by
  rw[<- evN_hours Cs]
  exact List.mem_map_of_mem (pm.mem_iff.mp he)
 have em:∀ (x:Str) (B:Int) (W:Int->Bool),sumW W (es.map fun e=>(e.1,pk x B Cs e.2.1))=sumW W (evs x B Cs):=fun x B W=>by
  rw[sumW_perm (pm.map _),evN_map x B Cs Cs.length (Nat.le_refl _),List.take_length]
 have nn:∀ {x:Str} {B:Int},0<B->(∀ c∈Cs,(doseR c.1 x).2 ∣ B)->∀ e∈es,0≤((fun e:Ev=>(e.1,pk x B Cs e.2.1)) e).2:=fun B0 dB e _=>(pk_ok okC B0 dB e.2.1).1
 cases r with
 | apart x y n=>
  rintro⟨e,he,e',he',⟨a1,a2⟩,d1,d2⟩
  obtain⟨m1,q1⟩:=List.mem_filter.mp he
  obtain⟨m2,q2⟩:=List.mem_filter.mp he'
  have at_:∀ m:Int,m∈hours Cs->(∀ h0,o=some h0->m<h0)->win m n e.1=true->win m n e'.1=true->False:=fun m mm ml w1 w2=>by
   obtain⟨B,B',⟨B0,dB⟩,⟨B0',dB'⟩,no⟩:=fb_ m mm ml
   refine no ⟨?_,?_⟩
   ·rw[<- em]
    refine sumW_pos (q:=(e.1,pk x B Cs e.2.1)) (fun p hp=>?_) (List.mem_map.mpr ⟨e,m1,rfl⟩) w1 ((pk_ok okC B0 dB e.2.1).2 d1)
    obtain⟨e3,m3,rfl⟩:=List.mem_map.mp hp
    exact nn B0 dB e3 m3
   ·rw[<- em]
    refine sumW_pos (q:=(e'.1,pk y B' Cs e'.2.1)) (fun p hp=>?_) (List.mem_map.mpr ⟨e',m2,rfl⟩) w2 ((pk_ok okC B0' dB' e'.2.1).2 d2)
    obtain⟨e3,m3,rfl⟩:=List.mem_map.mp hp
    exact nn B0' dB' e3 m3
  by_cases z:e.1≤e'.1
  ·exact at_ e'.1 (hr_ e' m2) (hq e' q2) (decide_eq_true ⟨by (first|lia|omega),by (first|lia|omega)⟩) (decide_eq_true ⟨by (first|lia|omega),by (first|lia|omega)⟩)
  ·exact at_ e.1 (hr_ e m1) (hq e q1) (decide_eq_true ⟨by (first|lia|omega),by (first|lia|omega)⟩) (decide_eq_true ⟨by (first|lia|omega),by (first|lia|omega)⟩)
 | lim day x t b=>
  obtain⟨⟨t0,_⟩,b0,_⟩:=pos
  intro ne
  generalize ew:Rl.width (.lim day x t b)=wd
  rintro⟨f,tt,bb,bb0,su,big⟩
  by_cases z:∃ e∈es.filter q,Wf f wd e.1=true
  ·obtain⟨e,he,w1,mx⟩:=top_of z
   obtain⟨m1,q1⟩:=List.mem_filter.mp he
   obtain⟨B,B0,dB,le⟩:=fb_ e.1 (hr_ e m1) (hq e q1)
   rw[ew, <- em] at le
   have e1:=su B B0 dB
   have w1':=of_decide_eq_true w1
   have sl:=sumW_le (W:=Wf f wd) (V:=win e.1 wd) (q:=q) (nn B0 dB) (fun e2 m2 q2 w2=>by
    have w2':=of_decide_eq_true w2
    have:=mx e2 (List.mem_filter.mpr ⟨m2,q2⟩) w2
    dsimp only at w2'
    exact decide_eq_true ⟨by dsimp only;(first|lia|omega),this⟩)
   generalize sumW (Wf f wd) ((es.filter q).map fun e=>(e.1,pk x B Cs e.2.1))=S1 at e1 sl
   generalize sumW (win e.1 wd) (es.map fun e=>(e.1,pk x B Cs e.2.1))=S2 at le sl
   have h1:S1 * b≤S2 * b:=Int.mul_le_mul_of_nonneg_right sl (by (first|lia|omega))
   have h2:S1 * b * bb≤t * B * bb:=Int.mul_le_mul_of_nonneg_right (by (first|lia|omega)) (by (first|lia|omega))
   have h3:t * bb * B<tt * b * B:=Int.mul_lt_mul_of_pos_right big B0
   have h4:tt * b * B=S1 * b * bb:=by
    calc tt * b * B=(tt * B) * b:=by ac_rfl
     _=S1 * b * bb:=by rw[e1];ac_rfl
   have h5:t * bb * B=t * B * bb:=by ac_rfl
   (first|lia|omega)
  ·obtain⟨e,he⟩:=List.exists_mem_of_ne_nil _ ne
   obtain⟨m1,q1⟩:=List.mem_filter.mp he
   obtain⟨B,B0,dB,_⟩:=fb_ e.1 (hr_ e m1) (hq e q1)
   have e1:=su B B0 dB
   rw[sumW_none (fun p hp=>by
    obtain⟨e2,m2,rfl⟩:=List.mem_map.mp hp
    cases w2:Wf f wd e2.1 with
    | false=>rfl
    | true=>exact absurd ⟨e2,m2,w2⟩ z)] at e1
   have tz:tt=0:=by
    rcases Int.mul_eq_zero.mp (show tt * B=0 by (first|lia|omega)) with g | g <;> (first|lia|omega)
   have:=Int.mul_nonneg t0 (show 0≤bb by (first|lia|omega))
   rw[tz] at big
   (first|lia|omega)
theorem fh_bd {hs:List Int} (ok:HsOk hs) {st:Int} (s0:0≤st) {k:Nat}:0≤FH hs st k/\FH hs st k<st+24 * (k:Int)+48:=by
 unfold FH
 have g:0≤hs.getD (k % hs.length) 0/\hs.getD (k % hs.length) 0<24:=by
  rw[List.getD_eq_getElem?_getD]
  cases e:hs[k % hs.length]? with
  | none=>exact⟨by decide,by decide⟩
  | some x=>exact ok.ge x (List.mem_of_getElem? e)
 have d:=Nat.div_le_self k hs.length
 generalize k / hs.length=m at d
 (first|lia|omega)
theorem hrs_bd {c:Crs} (ok:CrsOk c) {h:Int} (m:h∈hrs c):0≤h/\h<10 ^ 13:=by
 have l:=hrs_len ok
 unfold hrs dueH at m l
 rw[List.length_map,List.length_range] at l
 obtain⟨k,hk,rfl⟩:=List.mem_map.mp m
 have hk':=List.mem_range.mp hk
 have la:=atH_le c.1.hs c.2
 have hl:=ok.1.hs.le
 have:=fh_bd (st:=c.2) ok.1.hs ok.2.1 (k:=AtH c.1.hs c.2+k)
 have s1:=ok.2.2
 (first|lia|omega)
theorem hours_bd {Cs:List Crs} (ok:∀ c∈Cs,CrsOk c) {h:Int} (m:h∈hours Cs):0≤h/\h<10 ^ 13:=by
 obtain⟨c,mc,mh⟩:=List.mem_flatMap.mp m
 exact hrs_bd (ok c mc) mh
end
end K54
set_option maxRecDepth 100000
set_option linter.all false
set_option maxHeartbeats 800000
set_option Elab.async false
namespace K54
open PySem L2 L3 X8 M01 L6 L5 QL
open L8 L9 L10 L11 L13 L14 L16 L20 L21 L22 L42 L44 L60 L61 L62 L66 L69 L70 M11 M13 M14 M20 M21
section
variable {P:Program} {w:World} {K:PySem.W.Frag} {mg:Str->Option Value} {base:Heap}
theorem fa_take {α:Type} {r:V->α->Prop} {vs:List V} {as:List α} (h:Fa r vs as) (n:Nat):Fa r (vs.take n) (as.take n):=by
 induction h generalizing n with
 | nil=>rw[List.take_nil,List.take_nil];exact .nil
 | cons h1 _ ih=>
  cases n with
  | zero=>exact .nil
  | succ n=>exact .cons h1 (ih n)
def turn (c:Crs):Crs:=(c.1,c.2 % 60)
theorem scLaw:FnScope ["_law_script", "_law_at", "_law_pool_here", "_law_courses", "_law_orders", "_law_events_here", "_law_found"] ["_law_script"] (defScope s_law):=⟨rfl,rfl,rfl,by decide +kernel,rfl,by decide +kernel,by decide +kernel⟩
theorem d_law {f0:Addr} {fd:FuncData} (F:L2.Fun K "law" "law" s_law f0 fd) (dGiven:Def P w K mg base CX0 4 "_law_given" ["_law_script", "_law_at"] (spGi K)) (dEv:Def P w K mg base CX0 2 "_law_events" ["_law_courses"] (spEv K)) (dCl:Def P w K mg base CX0 10 "clash" ["rules", "courses"] (spCl K)) (dFe:Def P w K mg base CX0 4 "_law_free" ["_law_orders", "_law_courses", "_law_events_here"] (spFe K))
  (zrange:mg "range" = none) (zlen:mg "len" = none) (zmax:mg "max" = none) (zmin:mg "min" = none):FnOk P w K mg base CX0 11 f0 fd ["_law_script"] (spLaw K):=by
 refine QL.fn_law F scLaw (fun vs H Q E h=>?_) (fun cdv A outer s H vs Q E hr h=>?_)
 ·obtain⟨a,ns,rfl,_⟩:=h
  rfl
 ·obtain⟨a,ns0,rfl,hS,hn,k⟩:=h
  refine⟨_,(qss_cons (qs_for PassesOwn.never rfl (qi_range3 rfl zrange (qa_cons qe_int (qa_cons (qe_callB (call_max2 rfl) (by rfl) zmax PyProof.Rows.boot_max (qa_cons qe_int (qa_cons (qe_callB (call_min2 rfl) (by rfl) zmin PyProof.Rows.boot_min (qa_cons qe_int (qa_cons (qe_callB call_len_seq (by rfl) zlen PySem.boot_len (qa_cons (qv 0) qa_nil)) qa_nil))) qa_nil))) (qa_cons qe_int qa_nil)))) (qg_name (i:=1) scLaw.nd rfl (Or.inl rfl))
    (qss_cons (qs_asg (qe_callD dGiven (hr.mono (by decide)) rfl pass0 (qa_cons (qv 0) (qa_cons (qv 1) qa_nil))) (qg_tup rfl (qgs_cons (qg_name (i:=2) scLaw.nd rfl (Or.inl rfl)) (qgs_cons (qg_name (i:=3) scLaw.nd rfl (Or.inl rfl)) (qgs_cons (qg_name (i:=4) scLaw.nd rfl (Or.inl rfl)) qgs_nil)))))
   (qss_cons (qs_lcX (j:=3) (lc_mk2 (xs:=["_law_recipe", "_law_start"]) (fvs:=[]) (fidx:=[]) (defScope s_law) ["_law_script", "_law_at", "_law_pool_here", "_law_courses", "_law_orders", "_law_events_here", "_law_found"] rfl rfl (by decide +kernel)) rfl rfl scLaw.nd rfl rfl (qi_list (qv 3)) (fun cl C s H ex=>(qg_pair rfl (lc_mk2 (xs:=["_law_recipe", "_law_start"]) (fvs:=[]) (fidx:=[]) (defScope s_law) ["_law_script", "_law_at", "_law_pool_here", "_law_courses", "_law_orders", "_law_events_here", "_law_found"] rfl rfl (by decide +kernel)))) (fun cl C s H ex=>qf_nil) (fun cl C s H ex=>(qe_tup (qa_cons (qv 0) (qa_cons (qe_op op_mod (qv 1) qe_int) qa_nil)))) (fun _=>keep_pair))
   (qss_cons (qs_set (i:=5) scLaw.nd rfl (Or.inl rfl) (qe_callD dEv (hr.mono (by decide)) rfl pass0 (qa_cons (qv 3) qa_nil)))
   (qss_cons (qs_set (i:=6) scLaw.nd rfl (Or.inr rfl) (qe_callD dCl (hr.mono (by decide)) rfl pass0 (qa_cons (qv 4) (qa_cons (qv 3) qa_nil))))
   (qss_cons (qs_join (qs_if (qt_cmpR op_notN (qv 6) qe_non (nomark _)) (qss_one (qs_lcX (j:=5) (lc_mk2 (xs:=["_law_event"]) (fvs:=["_law_found"]) (fidx:=[6]) (defScope s_law) ["_law_script", "_law_at", "_law_pool_here", "_law_courses", "_law_orders", "_law_events_here", "_law_found"] rfl rfl (by decide +kernel)) rfl rfl scLaw.nd rfl rfl (qi_list (qv 5)) (fun cl C s H ex=>(qg_one (lc_mk2 (xs:=["_law_event"]) (fvs:=["_law_found"]) (fidx:=[6]) (defScope s_law) ["_law_script", "_law_at", "_law_pool_here", "_law_courses", "_law_orders", "_law_events_here", "_law_found"] rfl rfl (by decide +kernel)))) (fun cl C s H ex=>(qf_one (qt_cmpR op_lt (qe_ix (ix_tupK (K:=K) rfl) (qv 0) qe_int (fun _ _=>rfl)) (qe_ix (ix_tupK (K:=K) rfl) (qv 1) qe_int (fun _ _=>rfl)) (nomark _)))) (fun cl C s H ex=>(qv 0)) (fun _=>keep_one))) qss_nil))
   (qss_one (qs_if (qt_not (qt_val (qe_callD dFe (hr.mono (by decide)) rfl pass0 (qa_cons (qe_slice sl_list (qv 4) qo_none (qo_some qe_int)) (qa_cons (qv 3) (qa_cons (qv 5) qa_nil)))))) (qss_one (qs_ret qe_bl)) qss_nil))))))))
   (qss_one (qs_ret qe_bl))),?_⟩
  have z2:2≤sizeLine:=by decide
  have hm:0≤(if (if ((ns0.map V.int).length:Int)<63 then ((ns0.map V.int).length:Int) else 63)>1 then (if ((ns0.map V.int).length:Int)<63 then ((ns0.map V.int).length:Int) else 63) else 1)/\
    (if (if ((ns0.map V.int).length:Int)<63 then ((ns0.map V.int).length:Int) else 63)>1 then (if ((ns0.map V.int).length:Int)<63 then ((ns0.map V.int).length:Int) else 63) else 1)≤100:=by
   have lS:((ns0.map V.int).length:Int)=(ns0.length:Int):=by rw[List.length_map]
   rw[lS]
   split <;> split <;> (first|lia|omega)
  obtain⟨s1,s2,s3⟩:=size21 _ hm.1 hm.2
  refine⟨_,rfl,a,_,rfl, .inl hS,_,_,rfl,_,_,rfl,0,_,21,rfl,by decide,Big.of (by decide) (by decide),s1,s2,for_range3 (fun _ σ H2=>∃ v1 v2 v3 v4 v5 v6:Option V,σ=[some (.ref a),v1,v2,v3,v4,v5,v6]/\Same H H2) ⟨none,none,none,none,none,none,rfl,Same.refl H⟩ ?_ ?_⟩
  ·rintro i σ H0 hi ⟨v1,v2,v3,v4,v5,v6,rfl,s0⟩
   refine⟨_,rfl,_,rfl,a,ns0,_,rfl,s0.seq hS,by (first|lia|omega),fun r pl cl ol cs os Cs Rs mo H1 s1 hr1 dr=>?_⟩
   refine⟨r,_,rfl,SqT.of hr1,rfl,_,_,rfl,_,_,rfl,_,_,rfl,rfl,?_⟩
   have lC:=dr.lC
   have lR:=dr.lR
   have fcl:=dr.fc.len
   rw[List.length_map] at fcl
   refine⟨_,rfl,cl,rfl,⟨_,SqL.of dr.cl⟩,pairs_list (K:=K) (a:=cl) (cs.map V.ref) (fun i ys H2=>Same H1 H2/\Fa (rpC K H2) ys ((Cs.take i).map turn)) ⟨Same.refl _, .nil⟩ (fun i ys H2 hi z=>?_) (fun i v ys H2 hv z=>?_) (fun ys H2 z=>?_)⟩
   ·obtain⟨s2,ff⟩:=z
    refine⟨?_,SqL.of (s2 _ _ dr.cl)⟩
    rw[ff.len,List.length_map,List.length_take,sizeLine_eq]
    (first|lia|omega)
   ·obtain⟨s2,ff⟩:=z
    obtain⟨c,ec,pc,rc,rfl,hpc,hrc⟩:=fa_at dr.fc hv
    refine⟨pc,_,_,rfl,seqT s2 hpc,?_⟩
    unfold tNone
    dsimp only
    rw[if_pos rfl]
    refine⟨_,rfl,_,rfl,_,_,rfl,rfl,(by show (0:Int)<60;decide),z2,fun t ht=>?_⟩
    have u:=sameUpd (o:= .tup [V.ref rc, .int (c.2 % 60)]) ht
    refine⟨s2.trans u,?_⟩
    rw[take_snoc ec,List.map_append]
    exact fa_snoc ⟨t,rc,rfl,SqT.of upd_same,hrc.mono (s2.trans u)⟩ (ff.mono fun _ _=>rpC.mono u)
   ·obtain⟨s2,fc2⟩:=z
    intro cl2 hcl2
    rw[List.length_map,fcl,List.take_length] at fc2
    have u3:=sameUpd (o:= .lst ys) hcl2
    have s3:=s2.trans u3
    have hc3:upd H2 cl2 (.lst ys) cl2=some _:=upd_same
    have fc3:=fc2.mono fun _ _=>rpC.mono u3
    generalize upd H2 cl2 (.lst ys)=H3 at s3 hc3 fc3
    dsimp only[tSeq]
    have d3:=dr.mono s3
    obtain⟨Cs2,eC⟩:∃ Cs2,Cs2=Cs.map turn:=⟨_,rfl⟩
    rw[<- eC] at fc3
    have lC2:Cs2.length=Cs.length:=by rw[eC,List.length_map]
    have okC2:∀ c∈Cs2,CrsOk c:=fun c hc=>by
     rw[eC] at hc
     obtain⟨c',mc,rfl⟩:=List.mem_map.mp hc
     exact⟨(dr.okC c' mc).1,by show 0≤c'.2 % 60;(first|lia|omega),by show c'.2 % 60<10 ^ 12;(first|lia|omega)⟩
    have pw2:∀ c∈Cs2,c.1.pw≤mo:=fun c hc=>by
     rw[eC] at hc
     obtain⟨c',mc,rfl⟩:=List.mem_map.mp hc
     exact dr.pw c' mc
    have few:(hours Cs2).length<64:=by
     have hl:=hours_le okC2 pw2
     have:=dr.mo.2
     rw[lC2] at hl
     (first|lia|omega)
    refine⟨_,rfl,cl2,_,Cs2,rfl,SqL.of hc3,fc3,by (first|lia|omega),okC2,few,fun el ps es H4 s4 hel fe pm=>?_⟩
    have d4:=d3.mono s4
    have hc4:=s4 _ _ hc3
    have fc4:=fc3.mono fun _ _=>rpC.mono s4
    refine⟨_,rfl,_,rfl,ol,cl2,_,_,Rs,Cs2,rfl,SqL.of d4.ol,d4.fr,by (first|lia|omega),dr.okR,SqL.of hc4,fc4,by (first|lia|omega),okC2,few,fun o v H5 s5 cv fb_=>?_⟩
    have fel:=fe.len
    rw[List.length_map] at fel
    have le:es.length<64:=by
     have:=congrArg List.length (evN_hours Cs2)
     rw[List.length_map] at this
     rw[pm.length_eq]
     (first|lia|omega)
    have hel5:=s5 _ _ hel
    have fe5:=fe.mono fun _ _=>ev_mono s5
    refine⟨fun σ' H'=>∃ (el':Addr) (ps':List Addr) (q:Ev->Bool),σ'=[some (.ref a),some (.int (0+(i:Int) * 21)),some (.ref pl),some (.ref cl2),some (.ref ol),some (.ref el'),some v]/\Same H5 H'/\H' el'=some (.lst (ps'.map V.ref))/\Fa (rpEv H') (ps'.map V.ref) (es.filter q)/\∀ e,q e=true->∀ h0,o=some h0->e.1<h0,?_,?_⟩
    ·refine⟨_,rfl,rfl,_,rfl,?_⟩
     cases o with
     | none=>
      have cv':v= .non:=cv
      subst cv'
      refine iteF ⟨el,ps,fun _=>true,rfl,Same.refl _,hel5,?_,fun e _ h0 e0=>by cases e0⟩
      have ef:es.filter (fun _=>true)=es:=List.filter_eq_self.mpr fun _ _=>rfl
      rw[ef]
      exact fe5
     | some h=>
      obtain⟨p,x,y,rfl,hp⟩:=cv
      refine iteT ?_
      refine⟨_,rfl,el,rfl,⟨_,SqL.of hel5⟩,ones_list (K:=K) (a:=el) (ps.map V.ref) (fun i ys H6=>H6=H5/\∃ ps':List Addr,ys=ps'.map V.ref/\Fa (rpEv H5) ys ((es.take i).filter fun e=>decide (e.1<h))) ⟨rfl,[],rfl, .nil⟩ ?_ ?_ ?_⟩
      ·rintro i ys H6 hi ⟨rfl,ps',rfl,f6⟩
       refine⟨?_,SqL.of hel5⟩
       have:=List.length_filter_le (fun e:Ev=>decide (e.1<h)) (es.take i)
       rw[List.length_take] at this
       rw[f6.len,sizeLine_eq]
       (first|lia|omega)
      ·rintro i u ys H6 hu ⟨rfl,ps',rfl,f6⟩
       obtain⟨e,ee,he⟩:=fa_at fe5 hu
       obtain⟨q,rfl,hq⟩:=ev_at he
       refine⟨_,rfl,q,_,_,_,rfl,rfl,SqT.of hq,rfl,_,rfl,p,_,_,_,rfl,rfl,SqT.of hp,rfl,_,_,rfl,rfl,_,rfl,?_⟩
       rw[take_snoc ee,List.filter_append]
       refine ite2 (fun c=>?_) (fun c=>?_)
       ·have c':(fun e:Ev=>decide (e.1<h)) e=true:=c
        refine⟨_,rfl,rfl,ps' ++ [q],by rw[List.map_append];rfl,?_⟩
        rw[List.filter_cons_of_pos (p:=fun e:Ev=>decide (e.1<h)) c']
        exact fa_snoc he f6
       ·have c':¬ (fun e:Ev=>decide (e.1<h)) e=true:=c
        refine⟨rfl,ps',rfl,?_⟩
        rw[List.filter_cons_of_neg (p:=fun e:Ev=>decide (e.1<h)) c',List.filter_nil,List.append_nil]
        exact f6
      ·rintro ys H6 ⟨rfl,ps',rfl,f6⟩ D hD
       rw[List.length_map,fel,List.take_length] at f6
       have u:=sameUpd (o:= .lst (ps'.map V.ref)) hD
       refine⟨D,ps',fun e=>decide (e.1<h),rfl,u,upd_same,f6.mono fun _ _=>ev_mono u,fun e he h0 e0=>?_⟩
       obtain rfl:=Option.some.inj e0
       exact of_decide_eq_true he
    ·rintro σ' H6 ⟨el',ps',q,rfl,s6,hel6,fe6,hq⟩
     have s46:=s5.trans s6
     have d6:=d4.mono s46
     refine⟨_,rfl,4,rfl,ol,_,rfl,SqL.of d6.ol,fun sl hsl=>?_⟩
     have u7:=sameUpd (o:= .lst (cutV (os.map V.ref) none (some 4))) hsl
     have h7:upd H6 sl (.lst (cutV (os.map V.ref) none (some 4))) sl=some _:=upd_same
     have ec:cutV (os.map V.ref) none (some 4)=(os.map V.ref).take (min 4 os.length):=by
      unfold cutV
      rw[HT.sIx_none,List.drop_zero,Nat.sub_zero,show (4:Int)=((4:Nat):Int) from rfl,HT.sIx_nat,List.length_map]
     rw[ec] at u7 h7 ⊢
     have d7:=d6.mono u7
     have hel7:=u7 _ _ hel6
     have fe7:=fe6.mono fun _ _=>ev_mono u7
     have s47:=s46.trans u7
     generalize upd H6 sl (.lst ((os.map V.ref).take (min 4 os.length)))=H7 at h7 d7 hel7 fe7 s47
     have lf:=List.length_filter_le q es
     refine⟨_,rfl,_,rfl,sl,cl2,el',_,_,ps',Rs.take (min 4 os.length),Cs2,es.filter q,rfl,SqL.of h7,fa_take d7.fr _,⟨SqL.of (s47 _ _ hc4),fc4.mono fun _ _=>rpC.mono s47,okC2,hel7,fe7,by (first|lia|omega),fun e he=>?_,fun e he=>?_⟩,fun r hr=>?_,fun H8 s8=>⟨true,rfl,iteF ?_⟩⟩
     ·exact evN_ix Cs2 Cs2.length (Nat.le_refl _) e (pm.mem_iff.mp (List.mem_filter.mp he).1)
     ·refine hours_bd okC2 ?_
      rw[<- evN_hours Cs2]
      exact List.mem_map_of_mem (pm.mem_iff.mp (List.mem_filter.mp he).1)
     ·have mr:=List.mem_of_mem_take hr
      exact⟨(dr.okR r mr).2,calm_of okC2 pm (fb_ r mr) hq (dr.okR r mr).2⟩
     ·exact⟨_,_,_,_,_,_,rfl,(((s0.trans s1).trans s3).trans s4).trans (s47.trans s8)⟩
  ·rintro σ H2 ⟨v1,v2,v3,v4,v5,v6,rfl,s2⟩
   exact k _
end
theorem fin {l:PySem.W.OpenLaw} {w:World} {K:PySem.W.Frag} {mg:Str->Option Value} {fa:Addr} (hfa:mg "law" = some (.ref fa))
  (t0:Th K mg "greatest_divisor" s_greatest_divisor) (t1:Th K mg "times" s_times) (t2:Th K mg "takings" s_takings) (t3:Th K mg "dose" s_dose) (t4:Th K mg "diary_of" s_diary_of) (t5:Th K mg "width_of" s_width_of) (t6:Th K mg "stuffs_of" s_stuffs_of) (t7:Th K mg "common_bottom" s_common_bottom) (t8:Th K mg "taken_of" s_taken_of) (t9:Th K mg "totals" s_totals) (t10:Th K mg "first_too_much" s_first_too_much) (t11:Th K mg "first_too_near" s_first_too_near) (t12:Th K mg "first_break" s_first_break) (t13:Th K mg "takes_part" s_takes_part) (t14:Th K mg "clash_in" s_clash_in) (t15:Th K mg "clash" s_clash) (t16:Th K mg "_law_cell" s_law_cell) (t17:Th K mg "_law_wheel" s_law_wheel) (t18:Th K mg "_law_lowest" s_law_lowest) (t19:Th K mg "_law_pool" s_law_pool) (t20:Th K mg "_law_course" s_law_course) (t21:Th K mg "_law_dose" s_law_dose) (t22:Th K mg "_law_rule" s_law_rule) (t23:Th K mg "_law_hours" s_law_hours) (t24:Th K mg "_law_events" s_law_events) (t25:Th K mg "_law_given" s_law_given) (t26:Th K mg "_law_near" s_law_near) (t27:Th K mg "_law_over" s_law_over) (t28:Th K mg "_law_free" s_law_free) (t29:Th K mg "law" s_law)
  (tF:ThD K mg "fraction" s_fraction "top" "bottom" 1)
  (zrange:mg "range" = none) (zlen:mg "len" = none) (zsorted:mg "sorted" = none) (zzip:mg "zip" = none) (zenumerate:mg "enumerate" = none) (zabs:mg "abs" = none) (zint:mg "int" = none) (ztuple:mg "tuple" = none) (zmax:mg "max" = none) (zmin:mg "min" = none) (zany:mg "any" = none)
  (gD:∃ tk,mg "DAY" = some (.int 24 tk)) (gO:∃ tk,mg "ONCE" = some (.str "once" tk)) (gA:∃ tk,mg "APART" = some (.str "apart" tk)) :
  ∃ fd:FuncData,(∀ (s:Shared) (v:Value),BindsTo s fd ⟨[v],[]⟩ [("_law_script", v)])/\∀ base:Heap,K.In base->base.Ns mainGlobals mg->FnOk l.prog w K mg base CX0 11 fa fd ["_law_script"] (spLaw K):=by
 obtain⟨fL,fdL,F_L,mL⟩:=id t29
 cases hfa.symm.trans mL
 refine⟨fdL,fun s v=>?_,fun base _ _=>?_⟩
 ·obtain⟨oc,od,kV,doc,pm,an,cdv,ct,osl,rfl,lk,hcd⟩:=F_L.ex
  exact .of_eq rfl
 have dG:=d_gcd (P:=l.prog) (w:=w) (base:=base) (mg:=mg) t0
 have dFr:=d_fr (P:=l.prog) (w:=w) (base:=base) tF dG zabs
 have dTi:=d_times (P:=l.prog) (w:=w) (base:=base) (mg:=mg) t1 dFr
 have dTk:=d_takings (P:=l.prog) (w:=w) (base:=base) (mg:=mg) t2 gD zlen
 have dDo:=d_dose (P:=l.prog) (w:=w) (base:=base) (mg:=mg) t3 dFr dTi
 have dDi:=d_diary (P:=l.prog) (w:=w) (base:=base) (mg:=mg) t4 dTk
 have dWi:=d_width (P:=l.prog) (w:=w) (base:=base) (mg:=mg) t5 gD gO gA
 have dSt:=d_stuffs (P:=l.prog) (w:=w) (base:=base) (mg:=mg) t6 gA
 have dCb:=d_bottom (P:=l.prog) (w:=w) (base:=base) (mg:=mg) t7 dG
 have dTo:=d_taken (P:=l.prog) (w:=w) (base:=base) (mg:=mg) t8 dDo dCb zzip
 have dTt:=d_totals (P:=l.prog) (w:=w) (base:=base) (mg:=mg) t9 zsorted
 have dMu:=d_much (P:=l.prog) (w:=w) (base:=base) (mg:=mg) t10 dTo dTt dWi
 have dNe:=d_near (P:=l.prog) (w:=w) (base:=base) (mg:=mg) t11 dTo dTt dWi zzip
 have dBr:=d_break (P:=l.prog) (w:=w) (base:=base) (mg:=mg) t12 dMu dNe gA
 have dPa:=d_part (P:=l.prog) (w:=w) (base:=base) (mg:=mg) t13 dDo dSt dWi zany
 have dCi:=d_clashin (P:=l.prog) (w:=w) (base:=base) (mg:=mg) t14 dBr dPa zenumerate zlen zmin
 have dCl:=d_clash (P:=l.prog) (w:=w) (base:=base) (mg:=mg) t15 dCi dDi
 have dCell:=d_cell (P:=l.prog) (w:=w) (base:=base) (mg:=mg) t16 zlen
 have dWh:=d_wheel (P:=l.prog) (w:=w) (base:=base) (mg:=mg) t17 zrange
 have dLow:=d_low (P:=l.prog) (w:=w) (base:=base) (mg:=mg) t18 zabs
 have dPool:=d_pool (P:=l.prog) (w:=w) (base:=base) (mg:=mg) t19 dWh zrange
 have dCo:=d_course (P:=l.prog) (w:=w) (base:=base) (mg:=mg) t20 dWh dLow zrange zmin zlen ztuple
 have dDose:=d_ldose (P:=l.prog) (w:=w) (base:=base) (mg:=mg) t21 dLow
 have dRule:=d_rule (P:=l.prog) (w:=w) (base:=base) (mg:=mg) t22 dWh dLow dDose zlen zint
 have dHo:=d_hours (P:=l.prog) (w:=w) (base:=base) (mg:=mg) t23 zrange zlen
 have dEv:=d_events (P:=l.prog) (w:=w) (base:=base) (mg:=mg) t24 dHo zrange zlen zsorted
 have dGi:=d_given (P:=l.prog) (w:=w) (base:=base) (mg:=mg) t25 dCell dPool dCo dRule zrange zmax
 have dNr:=d_lnear (P:=l.prog) (w:=w) (base:=base) (mg:=mg) t26 dDose zabs
 have dOv:=d_over (P:=l.prog) (w:=w) (base:=base) (mg:=mg) t27 dDose zint zrange
 have dFe:=d_free (P:=l.prog) (w:=w) (base:=base) (mg:=mg) t28 dNr dOv
 exact d_law F_L dGi dEv dCl dFe zrange zlen zmax zmin
end K54
set_option maxRecDepth 100000
set_option linter.all false
set_option maxHeartbeats 4000000
set_option Elab.async false
namespace L72
open PySem PySem.W PySem.W.X
theorem walkX {q:Program} {loose:List Str} {XP:(Str->Option Value)->Heap->Prop} {r:RowW} {d:DefRec} {kwd:List (Str × Expr)} {run:Value->List Value->Sem Value} {K:Params->Frag} {as:List Addr} {n t:Nat} (e:∀ P,as=(K P).map (·.1))
  (W:WalkO q loose XP (fun w h=>(K w.params).In h) r d kwd run):WalkX q loose XP (obsZ as) (valZ K n t) r d kwd run:=by
 intro w s₀ s₁ mg mb G y a o pm cd doc dV kV ho hd hcd hD hmg hg args vals as' L hpre hlay hrd hwl hlo
 exact W w s₀ s₁ mg mb G (InK.keeps w _ _ (z_facts e y).2.1 L.keeps) a o pm cd doc dV kV ho hd hcd hD hmg hg args vals as' hpre hlay hrd hwl hlo
end L72
set_option maxRecDepth 100000
set_option linter.all false
set_option maxHeartbeats 4000000
set_option Elab.async false
theorem K54.walk {l:PySem.W.OpenLaw} {q:PySem.Program} {loose:List PySem.Str} {XP:(PySem.Str->Option PySem.Value)->PySem.Heap->Prop} {YP:PySem.World->PySem.Heap->Prop} {d:PySem.DefRec} {K:PySem.Params->PySem.W.Frag} (hn:l.most=some 63) (hdf:d.params.defaults=[])
  (hY:∀ (w:PySem.World) (h:PySem.Heap),YP w h->(K w.params).In h)
  (F:∀ (w:PySem.World) (mg:PySem.Str->Option PySem.Value) (fa:PySem.Addr) (h:PySem.Heap),(K w.params).In h->h.Ns PySem.mainGlobals mg->mg d.name=some (.ref fa)->
   ∃ fd:PySem.FuncData,(∀ (s:PySem.Shared) (u:PySem.Value),PySem.BindsTo s fd ⟨[u],[]⟩ [("_law_script", u)])/\∀ base:PySem.Heap,(K w.params).In base->base.Ns PySem.mainGlobals mg->L2.FnOk l.prog w (K w.params) mg base L2.CX0 11 fa fd ["_law_script"] (K54.spLaw (K w.params))) :
  PySem.W.WalkO q loose XP YP l.row.toRowW d [] (fun f vs=>PySem.call f vs):=
 L2.walk_of (n:=63) (k:=11) (x:= "_law_script") (CX:=fun _=>L2.CX0) (sp:=fun w=>K54.spLaw (K w.params)) hn (by decide) hdf ⟨rfl,by decide,by decide⟩ hY F (fun _ _ a ns hl _ hS=>⟨a,ns,rfl,hS,hl,fun _=>rfl⟩) fun _ _ _ _ _ z=>z
open PySem PySem.W PyProof.Rows
set_option maxRecDepth 100000 in
set_option maxHeartbeats 0 in
theorem PySem.Challenge.cw_scruplehouse_k54_whole_no_hour_breaks_a_holds : PySem.Challenge.rw_scruplehouse_k54_whole_no_hour_breaks_a.Holds := by
 w_on;o_law;z_head;(case hw=>w_witness2)
 k_fill
 refine L72.walkX (fun _=>rfl) (K54.walk (l:=PySem.Challenge.rw_scruplehouse_k54_whole_no_hour_breaks_a) rfl rfl (fun w h Y=>Y) ?F)
 case F=>
  intro w mg fa h KX G hmg
  refine' K54.fin hmg ?t0 ?t1 ?t2 ?t3 ?t4 ?t5 ?t6 ?t7 ?t8 ?t9 ?t10 ?t11 ?t12 ?t13 ?t14 ?t15 ?t16 ?t17 ?t18 ?t19 ?t20 ?t21 ?t22 ?t23 ?t24 ?t25 ?t26 ?t27 ?t28 ?t29 ?d0 ?z0 ?z1 ?z2 ?z3 ?z4 ?z5 ?z6 ?z7 ?z8 ?z9 ?z10 ?wa0 ?wa1 ?wa2
  case t0=>
   refine' L6.th_mk KX G ?a ?l ?c ?k
   (case a=>k_is)
   (case l=>k_is)
   (case c=>k_is)
   (case k=>k_is)
  case t1=>
   refine' L6.th_mk KX G ?a ?l ?c ?k
   (case a=>k_is)
   (case l=>k_is)
   (case c=>k_is)
   (case k=>k_is)
  case t2=>
   refine' L6.th_mk KX G ?a ?l ?c ?k
   (case a=>k_is)
   (case l=>k_is)
   (case c=>k_is)
   (case k=>k_is)
  case t3=>
   refine' L6.th_mk KX G ?a ?l ?c ?k
   (case a=>k_is)
   (case l=>k_is)
   (case c=>k_is)
   (case k=>k_is)
  case t4=>
   refine' L6.th_mk KX G ?a ?l ?c ?k
   (case a=>k_is)
   (case l=>k_is)
   (case c=>k_is)
   (case k=>k_is)
  case t5=>
   refine' L6.th_mk KX G ?a ?l ?c ?k
   (case a=>k_is)
   (case l=>k_is)
   (case c=>k_is)
   (case k=>k_is)
  case t6=>
   refine' L6.th_mk KX G ?a ?l ?c ?k
   (case a=>k_is)
   (case l=>k_is)
   (case c=>k_is)
   (case k=>k_is)
  case t7=>
   refine' L6.th_mk KX G ?a ?l ?c ?k
   (case a=>k_is)
   (case l=>k_is)
   (case c=>k_is)
   (case k=>k_is)
  case t8=>
   refine' L6.th_mk KX G ?a ?l ?c ?k
   (case a=>k_is)
   (case l=>k_is)
   (case c=>k_is)
   (case k=>k_is)
  case t9=>
   refine' L6.th_mk KX G ?a ?l ?c ?k
   (case a=>k_is)
   (case l=>k_is)
   (case c=>k_is)
   (case k=>k_is)
  case t10=>
   refine' L6.th_mk KX G ?a ?l ?c ?k
   (case a=>k_is)
   (case l=>k_is)
   (case c=>k_is)
   (case k=>k_is)
  case t11=>
   refine' L6.th_mk KX G ?a ?l ?c ?k
   (case a=>k_is)
   (case l=>k_is)
   (case c=>k_is)
   (case k=>k_is)
  case t12=>
   refine' L6.th_mk KX G ?a ?l ?c ?k
   (case a=>k_is)
   (case l=>k_is)
   (case c=>k_is)
   (case k=>k_is)
  case t13=>
   refine' L6.th_mk KX G ?a ?l ?c ?k
   (case a=>k_is)
   (case l=>k_is)
   (case c=>k_is)
   (case k=>k_is)
  case t14=>
   refine' L6.th_mk KX G ?a ?l ?c ?k
   (case a=>k_is)
   (case l=>k_is)
   (case c=>k_is)
   (case k=>k_is)
  case t15=>
   refine' L6.th_mk KX G ?a ?l ?c ?k
   (case a=>k_is)
   (case l=>k_is)
   (case c=>k_is)
   (case k=>k_is)
  case t16=>
   refine' L6.th_mk KX G ?a ?l ?c ?k
   (case a=>k_is)
   (case l=>k_is)
   (case c=>k_is)
   (case k=>k_is)
  case t17=>
   refine' L6.th_mk KX G ?a ?l ?c ?k
   (case a=>k_is)
   (case l=>k_is)
   (case c=>k_is)
   (case k=>k_is)
  case t18=>
   refine' L6.th_mk KX G ?a ?l ?c ?k
   (case a=>k_is)
   (case l=>k_is)
   (case c=>k_is)
   (case k=>k_is)
  case t19=>
   refine' L6.th_mk KX G ?a ?l ?c ?k
   (case a=>k_is)
   (case l=>k_is)
   (case c=>k_is)
   (case k=>k_is)
  case t20=>
   refine' L6.th_mk KX G ?a ?l ?c ?k
   (case a=>k_is)
   (case l=>k_is)
   (case c=>k_is)
   (case k=>k_is)
  case t21=>
   refine' L6.th_mk KX G ?a ?l ?c ?k
   (case a=>k_is)
   (case l=>k_is)
   (case c=>k_is)
   (case k=>k_is)
  case t22=>
   refine' L6.th_mk KX G ?a ?l ?c ?k
   (case a=>k_is)
   (case l=>k_is)
   (case c=>k_is)
   (case k=>k_is)
  case t23=>
   refine' L6.th_mk KX G ?a ?l ?c ?k
   (case a=>k_is)
   (case l=>k_is)
   (case c=>k_is)
   (case k=>k_is)
  case t24=>
   refine' L6.th_mk KX G ?a ?l ?c ?k
   (case a=>k_is)
   (case l=>k_is)
   (case c=>k_is)
   (case k=>k_is)
  case t25=>
   refine' L6.th_mk KX G ?a ?l ?c ?k
   (case a=>k_is)
   (case l=>k_is)
   (case c=>k_is)
   (case k=>k_is)
  case t26=>
   refine' L6.th_mk KX G ?a ?l ?c ?k
   (case a=>k_is)
   (case l=>k_is)
   (case c=>k_is)
   (case k=>k_is)
  case t27=>
   refine' L6.th_mk KX G ?a ?l ?c ?k
   (case a=>k_is)
   (case l=>k_is)
   (case c=>k_is)
   (case k=>k_is)
  case t28=>
   refine' L6.th_mk KX G ?a ?l ?c ?k
   (case a=>k_is)
   (case l=>k_is)
   (case c=>k_is)
   (case k=>k_is)
  case t29=>
   refine' L6.th_mk KX G ?a ?l ?c ?k
   (case a=>k_is)
   (case l=>k_is)
   (case c=>k_is)
   (case k=>k_is)
  case d0=>
   refine' L6.thD_mk KX G ?a ?l ?c ?k ?hTd ?oT ?dT ?b2 ?b1
   (case a=>k_is)
   (case l=>k_is)
   (case c=>k_is)
   (case k=>k_is)
   (case hTd=>first | k_is | rfl)
   (case oT=>k_is)
   (case dT=>first | k_is | rfl)
   (case b2=>exact fun s u v Xs=>PySem.W.binds_K Xs (by first | k_is | rfl) (by k_is) (by first | k_is | rfl) rfl rfl)
   (case b1=>exact fun s u Xs=>PySem.W.binds_K Xs (by first | k_is | rfl) (by k_is) (by first | k_is | rfl) rfl rfl)
  case z0=>exact PySem.W.mg_none_of KX G (by k_is)
  case z1=>exact PySem.W.mg_none_of KX G (by k_is)
  case z2=>exact PySem.W.mg_none_of KX G (by k_is)
  case z3=>exact PySem.W.mg_none_of KX G (by k_is)
  case z4=>exact PySem.W.mg_none_of KX G (by k_is)
  case z5=>exact PySem.W.mg_none_of KX G (by k_is)
  case z6=>exact PySem.W.mg_none_of KX G (by k_is)
  case z7=>exact PySem.W.mg_none_of KX G (by k_is)
  case z8=>exact PySem.W.mg_none_of KX G (by k_is)
  case z9=>exact PySem.W.mg_none_of KX G (by k_is)
  case z10=>exact PySem.W.mg_none_of KX G (by k_is)
  case wa0=>
   refine' L7.gint_mk KX G ?a
   (case a=>k_is)
  case wa1=>
   refine' L7.gstr_mk KX G ?a
   (case a=>k_is)
  case wa2=>
   refine' L7.gstr_mk KX G ?a
   (case a=>k_is)
